import PyProof.Rows.All
import Wide.All
import OpenK.AllK
import Wide.FinOn
import Lean
import PyProof.EqAt
import PyProof.EqKinds
import PyProof.TupleCall
import PyProof.NeKinds
import KE.KMinBuiltin
import PyProof.Rows.CallKwBuiltin
import KE.KDictList
import PyProof.ZipIter
import PyProof.EnumFor
import PyProof.EnumMake
import PyProof.EnumStmt
import PyProof.Rows.Range3
import KE.KItemsList
import PyProof.ListRange
import KE.KIsAll
import PyProof.TupleIter
import PyProof.StationsW
import OpenK.KOwn
import PyProof.RulesDel
import PyProof.ExcArgsOwn
import PyProof.ExcAttrAll.ValueError
import KE.IntBitsLaws
import PyProof.IsRules
import PyProof.SetKind
import PyProof.Rows.SetFrom
import PyProof.CollectWalk
import PyProof.ListNew
import PyProof.Seq
import KE.KSortedM
import PyProof.InstStoreFacts
import PyProof.ExcInit
import KE.KSortTup
import PyProof.AttrMissSeq
import KE.KEqDict
import PyProof.Rows.FStr
import PyProof.Rows.StrJoin2
import OpenK.KTop
import PyProof.StrLaws
import PyProof.TupleKey
import PyProof.SetRoads
import PySem.Challenge.RW_shiftsums_k36_fewest_told
section
set_option Elab.async false
set_option linter.all false
set_option maxRecDepth 100000
namespace L2
open PySem PySem.Spec PyProof.Rows
abbrev Key:=Sum Int Str
def keyIs : Key -> Value -> Bool
 | .inl k,v => Value.isInt k v
 | .inr x,v => Value.isStrOf x v
def keyH (w : World) : Key -> Int
 | .inl k => hashInt k
 | .inr x => hashStr w x
theorem keyIs_shape : ∀ {k : Key} {v : Value},keyIs k v = true -> (∃ i t,k = Sum.inl i /\ v = Value.int i t) \/ (∃ x t,k = Sum.inr x /\ v = Value.str x t)
 | .inl i,v,h => by
  obtain ⟨t,e⟩:=Value.isInt_shape (k:=i) (v:=v) h
  exact .inl ⟨i,t,rfl,e⟩
 | .inr x,v,h => by
  obtain ⟨t,e⟩:=Value.isStrOf_shape (x:=x) (v:=v) h
  exact .inr ⟨x,t,rfl,e⟩
theorem keyIs_int (i : Int) (t : Tok) : keyIs (.inl i) (.int i t) = true:=by simp [keyIs,Value.isInt]
theorem keyIs_str (x : Str) (t : Tok) : keyIs (.inr x) (.str x t) = true:=by simp [keyIs,Value.isStrOf]
theorem key_ll (a b : Int) : decide ((Sum.inl a : Key) = Sum.inl b) = (a == b):=by
 by_cases e : a = b
 ·subst e; simp
 ·have h : ¬ (Sum.inl a : Key) = Sum.inl b:=fun q => e (Sum.inl.inj q)
  rw [decide_eq_false h]
  exact (beq_eq_false_iff_ne.mpr e).symm
theorem key_rr (a b : Str) : decide ((Sum.inr a : Key) = Sum.inr b) = decide (a = b):=by
 by_cases e : a = b
 ·subst e; simp
 ·have h : ¬ (Sum.inr a : Key) = Sum.inr b:=fun q => e (Sum.inr.inj q)
  rw [decide_eq_false h,decide_eq_false e]
theorem key_lr (a : Int) (b : Str) : decide ((Sum.inl a : Key) = Sum.inr b) = false:=decide_eq_false (fun q => nomatch q)
theorem key_rl (a : Str) (b : Int) : decide ((Sum.inr a : Key) = Sum.inl b) = false:=decide_eq_false (fun q => nomatch q)
def mixKind (prog : Program) (w : World) : PySem.KeyKind prog w Key where
 is:=keyIs
 hash:=keyH w
 inj:=fun v a b ha hb => by
  rcases keyIs_shape ha with ⟨i,t,rfl,rfl⟩ | ⟨x,t,rfl,rfl⟩
  ·rcases keyIs_shape hb with ⟨j,u,rfl,e⟩ | ⟨y,u,rfl,e⟩
   ·injection e with e1 _; rw [e1]
   ·exact nomatch e
  ·rcases keyIs_shape hb with ⟨j,u,rfl,e⟩ | ⟨y,u,rfl,e⟩
   ·exact nomatch e
   ·injection e with e1 _; rw [e1]
 byValue:=fun k v h => by
  rcases keyIs_shape h with ⟨i,t,rfl,rfl⟩ | ⟨x,t,rfl,rfl⟩ <;> rfl
 pyHash:=fun hv h => by
  rcases keyIs_shape hv with ⟨i,t,rfl,rfl⟩ | ⟨x,t,rfl,rfl⟩
  ·exact wpAny_pyHash_int h
  ·exact wpAny_pyHash_str h
 eqBool:=fun hu hv h => by
  rcases keyIs_shape hu with ⟨i,t,rfl,rfl⟩ | ⟨x,t,rfl,rfl⟩
  ·rcases keyIs_shape hv with ⟨j,u,rfl,rfl⟩ | ⟨y,u,rfl,rfl⟩
   ·rw [key_ll] at h; exact wpAny_eqBool_int h
   ·rw [key_lr] at h; exact SeqAt.EqAt.int_str i t y u _ _ _ _ h
  ·rcases keyIs_shape hv with ⟨j,u,rfl,rfl⟩ | ⟨y,u,rfl,rfl⟩
   ·rw [key_rl] at h; exact SeqAt.EqAt.str_int x t j u _ _ _ _ h
   ·rw [key_rr] at h; exact wpAny_eqBool_str h
 «strs»:=fun k x t v h => by
  rcases keyIs_shape h with ⟨i,u,rfl,e⟩ | ⟨y,u,rfl,e⟩
  ·exact nomatch e
  ·injection e with e1 _
   subst e1
   cases v <;> rfl
theorem mixKind_int (prog : Program) (w : World) (i : Int) (t : Tok) : (mixKind prog w).is (.inl i) (.int i t) = true:=keyIs_int i t
theorem mixKind_str (prog : Program) (w : World) (x : Str) (t : Tok) : (mixKind prog w).is (.inr x) (.str x t) = true:=keyIs_str x t
end L2
namespace L2
open PySem PySem.Spec PyProof.Rows
inductive V where
 | non | bl (b : Bool) | int (i : Int) | str (x : Str) | byt (b : Array UInt8) | flt (b : UInt64) | ref (a : Addr) | ty (n : String)
 deriving DecidableEq
def RelV : V -> Value -> Prop
 | .non,u => u = Value.none
 | .bl b,u => u = Value.bool b
 | .int i,u => ∃ t,u = Value.int i t
 | .str x,u => ∃ t,u = Value.str x t
 | .byt b,u => ∃ t,u = Value.bytes b t
 | .flt b,u => ∃ t,u = Value.float b t
 | .ref a,u => u = Value.ref a
 | .ty n,u => u = Value.type n
abbrev Vals : List V -> List Value -> Prop:=Paired RelV
theorem Vals.length {xs : List V} {us : List Value} (r : Vals xs us) : xs.length = us.length:=Paired.length r
theorem Vals.get : ∀ {xs : List V} {us : List Value} {i : Nat} {x : V},Vals xs us -> xs[i]? = some x -> ∃ u,us[i]? = some u /\ RelV x u
 | _,_,_,_,.nil,e => by simp at e
 | _,_,0,_,.cons r _,e => by simp at e; subst e; exact ⟨_,rfl,r⟩
 | _,_,i + 1,x,.cons _ t,e => by
  obtain ⟨u,h1,h2⟩:=Vals.get (i:=i) (x:=x) t (by simpa using e)
  exact ⟨u,by simpa using h1,h2⟩
theorem Vals.set {x : V} {u : Value} (r : RelV x u) : ∀ {xs : List V} {us : List Value} (i : Nat),Vals xs us -> Vals (xs.set i x) (us.set i u)
 | _,_,_,.nil => .nil
 | _,_,0,.cons _ t => .cons r t
 | _,_,i + 1,.cons q t => .cons q (Vals.set r i t)
theorem Vals.append : ∀ {xs ys : List V} {us ws : List Value},Vals xs us -> Vals ys ws -> Vals (xs ++ ys) (us ++ ws)
 | _,_,_,_,.nil,s => s
 | _,_,_,_,.cons r t,s => .cons r (Vals.append t s)
def RelO : Option V -> Option Value -> Prop
 | some v,some u => RelV v u
 | none,none => True
 | _,_ => False
def KV {κ : Type} : List (κ × V) -> List (κ × Value) -> Prop:=Paired fun (p : κ × V) (q : κ × Value) => p.1 = q.1 /\ RelV p.2 q.2
def kV : Key -> V
 | .inl i => .int i
 | .inr x => .str x
inductive HO where
 | lst (xs : List V)
 | tup (xs : List V)
 | dK (kvs : List (Key × V)) | dT (kvs : List (List Key × V))
 | set (S : Int -> Bool) (n : Nat)
 | ins (C dx : Addr) (fs : List (Str × V))
 | own (x : Addr)
 | xd (fs : List (Str × V))
 | met (f x : Addr)
 | rng (lo hi : Int)
 | frz (o : Obj) (u : HO)
 | tbl (ps : Array Value)
 | ext (φ : Heap -> Prop)
abbrev Hp:=Addr -> Option HO
def upd (H : Hp) (a : Addr) (o : HO) : Hp:=fun b => if b = a then some o else H b
theorem upd_same {H : Hp} {a : Addr} {o : HO} : upd H a o a = some o:=by unfold upd; rw [if_pos rfl]
theorem upd_ne {H : Hp} {a b : Addr} {o : HO} (h : b ≠ a) : upd H a o b = H b:=by unfold upd; rw [if_neg h]
theorem upd_upd {H : Hp} {a : Addr} {o u : HO} : upd (upd H a o) a u = upd H a u:=by
 funext b; unfold upd; split <;> rfl
theorem ne_of {H : Hp} {a b : Addr} {o u : HO} (h : H a = some o) (h' : H b = some u) (d : o ≠ u) : a ≠ b:=by
 intro e; subst e; rw [h] at h'; exact d (Option.some.inj h')
theorem ne_of_none {H : Hp} {a b : Addr} {o : HO} (h : H a = some o) (h' : H b = none) : a ≠ b:=by
 intro e; subst e; rw [h] at h'; cases h'
section
variable (P : Program) (w : World)
def ObjOk (H : Hp) (h : Heap) (a : Addr) : HO -> Prop
 | .lst xs => xs.length <= sizeLine /\ ∃ (its : List Value) (n : Nat),Vals xs its /\ h.get? a = some { cls:=.type "list",data:=.seq its.toArray n }
 | .tup xs => xs.length <= sizeLine /\ ∃ its : List Value,Vals xs its /\ IsTup h a its.toArray
 | .dK kvs => kvs.length <= sizeLine /\ (a == sysModules) = false /\ ∃ vs,KV kvs vs /\ h.DictOf (mixKind P w) a vs
 | .dT kvs => kvs.length <= sizeLine /\ (a == sysModules) = false /\ ∃ xs : List (List Key × Addr × Value),
   Paired (fun (p : List Key × V) (q : List Key × Addr × Value) => p.1 = q.1 /\ H q.2.1 = some (.tup (p.1.map kV)) /\ RelV p.2 q.2.2) kvs xs /\
   ∃ o es ep,h.get? a = some o /\ o.ExactDict /\ o.data = .dict es ep /\ es.toList = xs.map (entryOfKey (tupleKind (mixKind P w))) /\ (xs.map (·.1)).Nodup
 | .set S n => h.SetOf (intKind P w) a S n
 | .ins C dx fs => H dx = some (.own a) /\ fs.length <= 1000 /\ dx ≠ a /\ h.get? a = some (PySem.W.instObj C dx) /\
   ∃ mA,h.Ns1 dx mA /\ (∀ f,RelO (fs.lookup f) (mA f)) /\ PySem.Within mA (fs.map (·.1))
 | .own _ => ∃ o,h.get? a = some o
 | .xd fs => ∃ mA,h.Ns1 a mA /\ ∀ f,RelO (fs.lookup f) (mA f)
 | .rng lo hi => ∃ t u v,h.get? a = some { cls:=.type "range",data:=.fields #[.int lo t,.int hi u,.int 1 v] }
 | .frz o u => h.get? a = some o /\ ObjOk H h a u
 | .tbl ps => h.get? a = some { cls:=.none,data:=.fields ps }
 | .met f x => h.get? a = some (PySem.W.methodObj (.ref f) (.ref x))
 | .ext φ => φ h /\ (∃ o,h.get? a = some o) /\ ∀ h1 h2 : Heap,φ h1 -> (∀ o,h1.get? a = some o -> h2.get? a = some o) -> φ h2
def HOk (H : Hp) (h : Heap) : Prop:=∀ a o,H a = some o -> ObjOk P w H h a o
end
section
variable {P : Program} {w : World} {H H' : Hp} {h h' : Heap} {a : Addr} {o : HO}
theorem ObjOk.lt (x : ObjOk P w H h a o) : a < h.objs.size:=by
 cases o with
 | lst xs => obtain ⟨_,_,_,_,e⟩:=x; exact Heap.lt_size e
 | tup xs => obtain ⟨_,_,_,p⟩:=x; exact p.lt
 | dK kvs => obtain ⟨_,_,_,_,o,_,_,e,_⟩:=x; exact Heap.lt_size e
 | dT kvs => obtain ⟨_,_,_,_,o,_,_,e,_⟩:=x; exact Heap.lt_size e
 | set S n => obtain ⟨o,_,_,_,e,_⟩:=x; exact Heap.lt_size e
 | ins C dx fs => obtain ⟨_,_,_,e,_⟩:=x; exact Heap.lt_size e
 | own y => obtain ⟨_,e⟩:=x; exact Heap.lt_size e
 | xd fs => obtain ⟨_,⟨_,_,_,e,_⟩,_⟩:=x; exact Heap.lt_size e
 | rng lo hi => obtain ⟨_,_,_,e⟩:=x; exact Heap.lt_size e
 | frz ob u => obtain ⟨e,_⟩:=x; exact Heap.lt_size e
 | tbl ps => exact Heap.lt_size (show h.get? a = some _ from x)
 | met f y => exact Heap.lt_size (show h.get? a = some _ from x)
 | ext φ => obtain ⟨_,⟨_,e⟩,_⟩:=x; exact Heap.lt_size e
theorem Paired.mapP {α β : Type} {F G : α -> β -> Prop} : ∀ {l₁ : List α} {l₂ : List β},Paired F l₁ l₂ -> (∀ a b,F a b -> G a b) -> Paired G l₁ l₂
 | _,_,.nil,_ => .nil
 | _,_,.cons r t,f => .cons (f _ _ r) (Paired.mapP t f)
theorem ObjOk.stay (x : ObjOk P w H h a o) (k : ∀ b u,(b = a \/ H b = some (.own a)) -> h.get? b = some u -> h'.get? b = some u)
  (ho : ∀ b,H b = some (.own a) -> H' b = some (.own a)) (ht : ∀ b xs,H b = some (.tup xs) -> H' b = some (.tup xs)) : ObjOk P w H' h' a o:=by
 induction o with
 | lst xs => obtain ⟨z,its,n,r,e⟩:=x; exact ⟨z,its,n,r,k _ _ (.inl rfl) e⟩
 | tup xs => obtain ⟨z,its,r,ob,e,c⟩:=x; exact ⟨z,its,r,ob,k _ _ (.inl rfl) e,c⟩
 | dK kvs => obtain ⟨z,y,vs,r,ob,es,ep,e,c⟩:=x; exact ⟨z,y,vs,r,ob,es,ep,k _ _ (.inl rfl) e,c⟩
 | dT kvs =>
  obtain ⟨z,y,xs,r,ob,es,ep,e,c⟩:=x
  exact ⟨z,y,xs,Paired.mapP r fun p q z => ⟨z.1,ht _ _ z.2.1,z.2.2⟩,ob,es,ep,k _ _ (.inl rfl) e,c⟩
 | set S n => obtain ⟨ob,es,ep,t,e,c⟩:=x; exact ⟨ob,es,ep,t,k _ _ (.inl rfl) e,c⟩
 | ins C dx fs =>
  obtain ⟨d,z,ne,e,mA,⟨od,es,ep,e2,c⟩,r⟩:=x
  exact ⟨ho _ d,z,ne,k _ _ (.inl rfl) e,mA,⟨od,es,ep,k _ _ (.inr d) e2,c⟩,r⟩
 | own y => obtain ⟨ob,e⟩:=x; exact ⟨ob,k _ _ (.inl rfl) e⟩
 | xd fs => obtain ⟨mA,⟨od,es,ep,e,c⟩,r⟩:=x; exact ⟨mA,⟨od,es,ep,k _ _ (.inl rfl) e,c⟩,r⟩
 | rng lo hi => obtain ⟨t,u,v,e⟩:=x; exact ⟨t,u,v,k _ _ (.inl rfl) e⟩
 | frz ob u ih => obtain ⟨e,q⟩:=x; exact ⟨k _ _ (.inl rfl) e,ih q⟩
 | tbl ps =>
  have e : h.get? a = some { cls:=.none,data:=.fields ps }:=x
  show h'.get? a = some { cls:=.none,data:=.fields ps }
  exact k a _ (.inl rfl) e
 | met f y =>
  have e : h.get? a = some (PySem.W.methodObj (.ref f) (.ref y)):=x
  show h'.get? a = some (PySem.W.methodObj (.ref f) (.ref y))
  exact k a _ (.inl rfl) e
 | ext φ => obtain ⟨p,⟨o,e⟩,st⟩:=x; exact ⟨st _ _ p fun o q => k _ _ (.inl rfl) q,⟨o,k _ _ (.inl rfl) e⟩,st⟩
theorem HOk.lt (x : HOk P w H h) (e : H a = some o) : a < h.objs.size:=(x a o e).lt
theorem HOk.fresh (x : HOk P w H h) (e : h.objs.size <= a) : H a = none:=by
 cases q : H a with
 | none => rfl
 | some u => exact absurd (Nat.lt_of_lt_of_le (x.lt q) e) (Nat.lt_irrefl _)
theorem HOk.kept (x : HOk P w H h) (k : ∀ b u,h.get? b = some u -> h'.get? b = some u) : HOk P w H h':=fun a o e =>
 (x a o e).stay (fun b u _ q => k b u q) (fun _ q => q) fun _ _ q => q
theorem HOk.laid (x : HOk P w H h) (k : ∀ b u,h.get? b = some u -> h'.get? b = some u) (hp : h.objs.size <= a) (new : ObjOk P w (upd H a o) h' a o) : HOk P w (upd H a o) h':=fun b u e => by
 have hn:=x.fresh hp
 by_cases hb : b = a
 ·subst hb; rw [upd_same] at e; cases e; exact new
 ·rw [upd_ne hb] at e
  exact (x b u e).stay (fun c v _ q => k c v q) (fun c q => by rw [upd_ne (ne_of_none q hn)]; exact q) fun c xs q => by rw [upd_ne (ne_of_none q hn)]; exact q
end
def Rd (H : Hp) (a : Addr) (u : HO) : Prop:=H a = some u \/ ∃ o,H a = some (.frz o u)
theorem Rd.ok {P : Program} {w : World} {H : Hp} {h : Heap} {a : Addr} {u : HO} (r : Rd H a u) (x : HOk P w H h) : ObjOk P w H h a u:=by
 rcases r with r | ⟨o,r⟩
 ·exact x a u r
 ·obtain ⟨_,q⟩:=x a _ r
  exact q
def Mut : Option HO -> Prop
 | some (.lst _) => True
 | some (.dK _) => True
 | some (.dT _) => True
 | some (.set _ _) => True
 | some (.ins _ _ _) => True
 | some (.ext _) => True
 | _ => False
section
variable {P : Program} {w : World} {H : Hp} {h h' : Heap} {x e : Addr} {o' : HO}
theorem HOk.write (ok : HOk P w H h) (mu : Mut (H x)) (he : e = x \/ H e = some (.own x)) (k : ∀ b u,b ≠ e -> h.get? b = some u -> h'.get? b = some u) (heo : ∃ u,h'.get? e = some u)
  (new : ObjOk P w (upd H x o') h' x o') : HOk P w (upd H x o') h':=fun b u q => by
 have nown : ∀ c y,H c = some (.own y) -> c ≠ x:=fun c y r z => by subst z; rw [r] at mu; exact mu
 have ntup : ∀ c xs,H c = some (.tup xs) -> c ≠ x:=fun c xs r z => by subst z; rw [r] at mu; exact mu
 by_cases hb : b = x
 ·subst hb; rw [upd_same] at q; cases q; exact new
 ·rw [upd_ne hb] at q
  by_cases hbe : b = e
  ·have q' : H b = some (.own x):=by
    rcases he with z | z
    ·exact absurd (hbe.trans z) hb
    ·rw [hbe]; exact z
   rw [q] at q'; cases q'
   obtain ⟨v,hv⟩:=heo
   exact ⟨v,by rw [hbe]; exact hv⟩
  ·refine (ok b u q).stay (fun c v hc r => k c v ?_ r) (fun c r => by rw [upd_ne (nown c b r)]; exact r) fun c xs r => by rw [upd_ne (ntup c xs r)]; exact r
   rcases hc with rfl | hc
   ·exact hbe
   ·rintro rfl
    rcases he with z | z
    ·exact nown c b hc z
    ·rw [hc] at z; cases z; exact hb rfl
end
structure Un (fs ex : List Addr) (H H' : Hp) (h h' : Heap) : Prop where
 keep : ∀ b o,h.get? b = some o -> H b = none -> b ∉ fs -> b ∉ ex -> h'.get? b = some o
 slot : ∀ b o,h.get? b = some o -> H b = none -> b ∈ fs -> b ∉ ex -> ∃ sl,h'.get? b = some { o with slots:=sl }
 free : ∀ b o,h.get? b = some o -> H b = none -> b ∉ ex -> H' b = none
 there : ∀ b o,h.get? b = some o -> b ∉ ex -> ∃ o',h'.get? b = some o'
 tups : ∀ b xs,H b = some (.tup xs) -> H' b = some (.tup xs)
 frzs : ∀ b o u,H b = some (.frz o u) -> H' b = some (.frz o u)
 tbls : ∀ b ps,H b = some (.tbl ps) -> ∃ more,H' b = some (.tbl (ps ++ more))
section
variable {fs fs' ex ex' : List Addr} {H H1 H2 : Hp} {h h1 h2 h' : Heap} {a x e : Addr} {o : HO}
theorem Un.any (u : Un fs ex H H1 h h1) {b : Addr} {ob : Obj} (q : h.get? b = some ob) (n : H b = none) (hx : b ∉ ex) : ∃ sl,h1.get? b = some { ob with slots:=sl }:=by
 by_cases hb : b ∈ fs
 ·exact u.slot b ob q n hb hx
 ·exact ⟨ob.slots,u.keep b ob q n hb hx⟩
theorem Un.kept (k : ∀ b u,h.get? b = some u -> h'.get? b = some u) : Un fs ex H H h h' :=
 ⟨fun b ob q _ _ _ => k b ob q,fun b ob q _ _ _ => ⟨ob.slots,k b ob q⟩,fun _ _ _ n _ => n,fun b ob q _ => ⟨ob,k b ob q⟩,fun _ _ q => q,fun _ _ _ q => q,fun _ ps q => ⟨#[],by rw [q]; simp⟩⟩
theorem Un.refl : Un fs ex H H h h:=Un.kept fun _ _ q => q
theorem Un.laid (k : ∀ b u,h.get? b = some u -> h'.get? b = some u) (hp : h.objs.size <= a) (hn : H a = none) : Un fs ex H (upd H a o) h h' where
 keep:=fun b u q _ _ _ => k b u q
 slot:=fun b u q _ _ _ => ⟨u.slots,k b u q⟩
 free:=fun b u q n _ => by rw [upd_ne (Nat.ne_of_lt (Nat.lt_of_lt_of_le (Heap.lt_size q) hp))]; exact n
 there:=fun b u q _ => ⟨u,k b u q⟩
 tups:=fun b xs q => by rw [upd_ne (ne_of_none q hn)]; exact q
 frzs:=fun b u xs q => by rw [upd_ne (ne_of_none q hn)]; exact q
 tbls:=fun b ps q => ⟨#[],by rw [upd_ne (ne_of_none q hn),q]; simp⟩
theorem Un.write (mu : Mut (H x)) (he : e = x \/ H e = some (.own x)) (k : ∀ b u,b ≠ e -> h.get? b = some u -> h'.get? b = some u) (heo : ∃ u,h'.get? e = some u) : Un fs ex H (upd H x o) h h':=by
 have hx : ∀ b,H b = none -> b ≠ x:=fun b n z => by subst z; rw [n] at mu; exact mu
 have hb : ∀ b,H b = none -> b ≠ e:=fun b n z => by
  subst z
  rcases he with r | r
  ·exact hx b n r
  ·rw [n] at r; cases r
 have hm : ∀ b u,H b = some u -> ¬ Mut (some u) -> b ≠ x:=fun b u q nm z => by subst z; rw [q] at mu; exact nm mu
 refine ⟨fun b u q n _ _ => k b u (hb b n) q,fun b u q n _ _ => ⟨u.slots,k b u (hb b n) q⟩,fun b u q n _ => by rw [upd_ne (hx b n)]; exact n,fun b u q _ => ?_,
  fun b xs q => by rw [upd_ne (hm b _ q fun z => z)]; exact q,fun b u xs q => by rw [upd_ne (hm b _ q fun z => z)]; exact q,fun b ps q => ⟨#[],by rw [upd_ne (hm b _ q fun z => z),q]; simp⟩⟩
 by_cases hbe : b = e
 ·subst hbe; exact heo
 ·exact ⟨u,k b u hbe q⟩
end
def trk (h : Heap) (H : Hp) : List Addr:=(List.range h.objs.size).filter fun a => (H a).isSome
def hidT (h : Heap) (H : Hp) : Heap:=PySem.W.hideAll h (trk h H)
theorem hidT_size (h : Heap) (H : Hp) : (hidT h H).objs.size = h.objs.size:=PySem.W.hideAll_size _ _
theorem hidT_get {h : Heap} {H : Hp} {b : Addr} {o : Obj} (e : h.get? b = some o) (n : H b = none) : (hidT h H).get? b = some o :=
 PySem.W.hideAll_get _ e fun hm => by
  have q : (H b).isSome = true:=(List.mem_filter.mp hm).2
  rw [n] at q; simp at q
theorem of_hidT {h : Heap} {H : Hp} {b : Addr} {o : Obj} (e : (hidT h H).get? b = some o) : h.get? b = some o /\ H b = none:=by
 have e' : h.get? b = some o:=PySem.W.of_hideAll (trk h H) e
 refine ⟨e',?_⟩
 cases q : H b with
 | none => rfl
 | some x =>
  have hm : b ∈ trk h H:=List.mem_filter.mpr ⟨List.mem_range.mpr (Heap.lt_size e'),by simp [q]⟩
  have z : (hidT h H).get? b = none:=PySem.W.hideAll_none (trk h H) hm
  rw [z] at e; cases e
def allNews (g h : Heap) (L : Addr) : List (Addr × Obj):=(List.range h.objs.size).filterMap fun a => if a = L \/ (g.get? a).isSome = true then none else (h.get? a).map fun o => (a,o)
def rest (g h : Heap) (L d : Addr) : List (Addr × Obj):=(allNews g h L).filter fun p => decide (p.1 ≠ d)
end L2
namespace L2
open PySem PySem.Spec PyProof.Rows
structure Mod (K : PySem.W.Frag) (mg : Str -> Option Value) (base : Heap) : Prop where
 kin : K.In base
 glob : base.Ns mainGlobals mg
 blt : ∃ mb,base.Ns builtinsNs mb /\ ∀ x : Str,x ≠ "__name__" -> mb x = bootBuiltins x
 nolimit : base.NoLimit
structure Cx where
 prog : Program
 w : World
 K : PySem.W.Frag
 mg : Str -> Option Value
 base : Heap
 A : Around
 N : List Str
 s₀ : Shared
 H₀ : Hp
 env : Env
 outer : List Env
 stack : List Env
 ex : List Addr
 fn : Str -> Bool
 calm : Bool
 pn : List (Addr × Obj)
 xe : Value -> Shared -> Prop
def frs (l : List Env) : List Addr:=l.filterMap (·.frame)
abbrev Cx.fs (X : Cx) : List Addr:=frs X.outer
def Vis (sc : Scope) (x : Str) : Prop:=sc.names.lookup x = some .local \/ sc.names.lookup x = some .cell \/ sc.names.lookup x = some .free
def Loc (sc : Scope) (x : Str) : Prop:=sc.names.lookup x = some .local \/ sc.names.lookup x = some .cell
def Look (env : Env) (h : Heap) (m : Str -> Option Value) (x : Str) (u : Value) : Prop :=
 (env.kindOf x = some .local /\ m x = some u) \/ ((env.kindOf x = some .cell \/ env.kindOf x = some .free) /\ ∃ c,env.cells.lookup x = some c /\ h.IsCell c (some u))
structure Cx.Ok (X : Cx) : Prop where
 mod : Mod X.K X.mg X.base
 kind : X.env.scope.kind = .function
 glob : X.env.globals = mainGlobals
 blt : X.env.builtins = builtinsNs
 above : X.s₀.heap.objs.size <= X.env.locals
 inj : ∀ x y c,X.env.cells.lookup x = some c -> X.env.cells.lookup y = some c -> x = y
 has : ∀ x,(X.env.kindOf x = some .cell \/ X.env.kindOf x = some .free) -> ∃ c,X.env.cells.lookup x = some c
 cab : ∀ x c,X.fn x = true -> X.env.cells.lookup x = some c -> X.s₀.heap.objs.size <= c
 hd : X.calm = true -> X.A.handled = none
 frames : X.A.frames = some X.stack
 stk : X.stack = X.outer \/ (X.stack = X.env :: X.outer /\ X.env.frame = some X.env.locals)
 exf : ∀ b ∈ X.ex,b ≠ X.env.locals /\ ∀ x c,X.env.cells.lookup x = some c -> c ≠ b
 bs : ∀ b o,X.base.get? b = some o -> X.s₀.heap.get? b = some o /\ X.H₀ b = none
 bsz : X.base.objs.size <= X.s₀.heap.objs.size
 noex : ∀ b o,X.base.get? b = some o -> b ∉ X.ex
 exfs : ∀ b ∈ X.ex,b ∉ X.fs
 funs : X.s₀.heap.FunFrames X.base X.outer
 frf : ∀ b ∈ X.fs,X.H₀ b = none
structure Inv (X : Cx) (pins : List (Addr × Obj)) (σ : List (Option V)) (H : Hp) (s : Shared) : Prop where
 ok : X.Ok
 os : s.os = X.s₀.os
 bare : AllBare s.gens
 base : Un X.fs X.ex X.H₀ H X.s₀.heap s.heap
 loc : ∃ m,s.heap.Ns X.env.locals m /\ ∀ (i : Nat) (x : Str) (v : V),X.N[i]? = some x -> σ[i]? = some (some v) -> Vis X.env.scope x -> ∃ u,RelV v u /\ Look X.env s.heap m x u
 cell : ∀ x c,X.env.cells.lookup x = some c -> ∃ v,s.heap.IsCell c v
 free : H X.env.locals = none
 freeC : ∀ x c,X.env.cells.lookup x = some c -> H c = none
 pin : ∀ p ∈ X.pn ++ pins,s.heap.get? p.1 = some p.2 /\ H p.1 = none /\ p.1 ≠ X.env.locals /\ p.1 ∉ X.fs /\ ∀ v,p.2.data ≠ .cell v
 hok : HOk X.prog X.w H s.heap
 len : σ.length = X.N.length
section
variable {X : Cx} {pins : List (Addr × Obj)} {σ : List (Option V)} {H H' : Hp} {s : Shared} {h' : Heap}
theorem Cx.Ok.nofr (ok : X.Ok) {b : Addr} {o : Obj} (e : X.base.get? b = some o) : b ∉ X.fs:=fun hb => by
 have:=(ok.funs.mem hb).1
 rw [e] at this; cases this
theorem Inv.bs (I : Inv X pins σ H s) : ∀ b o,X.base.get? b = some o -> s.heap.get? b = some o /\ H b = none:=fun b o e =>
 ⟨I.base.keep b o (I.ok.bs b o e).1 (I.ok.bs b o e).2 (I.ok.nofr e) (I.ok.noex b o e),I.base.free b o (I.ok.bs b o e).1 (I.ok.bs b o e).2 (I.ok.noex b o e)⟩
theorem Inv.bk (I : Inv X pins σ H s) : ∀ b o,X.base.get? b = some o -> s.heap.get? b = some o:=fun b o e => (I.bs b o e).1
theorem Inv.mod (I : Inv X pins σ H s) : Mod X.K X.mg X.base:=I.ok.mod
theorem Inv.kIn (I : Inv X pins σ H s) : X.K.In s.heap:=I.ok.mod.kin.keeps I.bk
theorem Inv.lt (I : Inv X pins σ H s) : X.env.locals < s.heap.objs.size:=let ⟨_,hn,_⟩:=I.loc; hn.lt
theorem Inv.sz (I : Inv X pins σ H s) : X.s₀.heap.objs.size <= s.heap.objs.size:=Nat.le_trans I.ok.above (Nat.le_of_lt I.lt)
theorem Inv.nofs (I : Inv X pins σ H s) {a : Addr} (h : s.heap.objs.size <= a) : a ∉ X.fs:=fun hb => by
 obtain ⟨_,o,ho,_⟩:=I.ok.funs.mem hb
 exact absurd (Nat.lt_of_lt_of_le (Heap.lt_size ho) (Nat.le_trans I.sz h)) (Nat.lt_irrefl _)
theorem Inv.cne (I : Inv X pins σ H s) : ∀ x c,X.env.cells.lookup x = some c -> c ≠ X.env.locals:=fun x c e z => by
 obtain ⟨v,o,ho,hd⟩:=I.cell x c e
 obtain ⟨m,⟨o',es,ep,ho',hd',_⟩,_⟩:=I.loc
 rw [z,ho'] at ho; cases ho; rw [hd'] at hd; cases hd
theorem Inv.funs (I : Inv X pins σ H s) : s.heap.FunFrames X.base X.outer:=by
 have all : ∀ (l : List Env),(∀ b ∈ frs l,b ∈ X.fs) -> X.s₀.heap.FunFrames X.base l -> s.heap.FunFrames X.base l:=by
  intro l
  induction l with
  | nil => intro _ _; trivial
  | cons env r ih =>
   intro hs hl
   obtain ⟨hk,⟨L,o,hf,hn,ho,hd⟩,hr⟩:=hl
   have hL : L ∈ X.fs:=hs L (by unfold frs; rw [List.filterMap_cons,hf]; exact List.mem_cons_self)
   obtain ⟨sl,e⟩:=I.base.slot L o ho (I.ok.frf L hL) hL fun z => I.ok.exfs L z hL
   exact ⟨hk,⟨L,_,hf,hn,e,hd⟩,ih (fun b hb => hs b (by unfold frs; rw [List.filterMap_cons,hf]; exact List.mem_cons_of_mem _ hb)) hr⟩
 exact all X.outer (fun _ hb => hb) I.ok.funs
theorem Inv.stack (I : Inv X pins σ H s) : s.heap.FunFrames X.base X.stack:=by
 rcases I.ok.stk with e | ⟨e,hf⟩
 ·rw [e]; exact I.funs
 ·rw [e]
  obtain ⟨m,hn,_⟩:=I.loc
  refine .cons (by rw [I.ok.kind]; decide) hf hn ?_ I.funs
  exact Heap.get?_none_of_le (Nat.le_trans I.ok.bsz I.ok.above)
theorem Inv.stkSub (I : Inv X pins σ H s) : ∀ b ∈ frs X.stack,b ∈ X.env.locals :: X.fs:=fun b hb => by
 rcases I.ok.stk with e | ⟨e,hf⟩
 ·rw [e] at hb; exact List.mem_cons_of_mem _ hb
 ·rw [e] at hb
  unfold frs at hb
  rw [List.filterMap_cons,hf] at hb
  exact hb
theorem Inv.stkFree (I : Inv X pins σ H s) : ∀ b ∈ frs X.stack,H b = none:=fun b hb => by
 rcases List.mem_cons.mp (I.stkSub b hb) with e | hb
 ·rw [e]; exact I.free
 ·obtain ⟨_,o,ho,_⟩:=I.ok.funs.mem hb
  exact I.base.free b o ho (I.ok.frf b hb) fun z => I.ok.exfs b z hb
theorem Inv.step {g' : Array GenState} {t' : Nat} {d' : Drawn} {ch : List Addr} (I : Inv X pins σ H s)
  (hch : ∀ b ∈ ch,(b ∈ X.ex \/ X.s₀.heap.objs.size <= b) /\ b ≠ X.env.locals /\ (∀ x c,X.env.cells.lookup x = some c -> c ≠ b) /\ ∀ p ∈ X.pn ++ pins,p.1 ≠ b)
  (keep : ∀ b o,b ≠ X.env.locals -> b ∉ X.fs -> b ∉ ch -> s.heap.get? b = some o -> H b = none -> h'.get? b = some o)
  (slot : ∀ b o,b ≠ X.env.locals -> b ∈ X.fs -> b ∉ ch -> s.heap.get? b = some o -> H b = none -> ∃ sl,h'.get? b = some { o with slots:=sl }) (free : ∀ b o,b ∉ ch -> s.heap.get? b = some o -> H b = none -> H' b = none)
  (there : ∀ b o,b ∉ ch -> s.heap.get? b = some o -> ∃ o',h'.get? b = some o')
  (tups : ∀ b xs,H b = some (.tup xs) -> H' b = some (.tup xs)) (frzs : ∀ b o u,H b = some (.frz o u) -> H' b = some (.frz o u)) (tbls : ∀ b ps,H b = some (.tbl ps) -> ∃ more,H' b = some (.tbl (ps ++ more)))
  (ns : ∀ m,s.heap.Ns X.env.locals m -> h'.Ns X.env.locals m) (hok : HOk X.prog X.w H' h') (hg : AllBare g') :
  Inv X pins σ H' { s with heap:=h',gens:=g',drawn:=d',toks:=t' }:=by
 have neL : ∀ b o,X.s₀.heap.get? b = some o -> b ≠ X.env.locals:=fun b o e => Nat.ne_of_lt (Nat.lt_of_lt_of_le (Heap.lt_size e) I.ok.above)
 have neC : ∀ b o,X.s₀.heap.get? b = some o -> b ∉ X.ex -> b ∉ ch:=fun b o e hx hb => by
  rcases (hch b hb).1 with z | z
  ·exact hx z
  ·exact absurd (Nat.lt_of_lt_of_le (Heap.lt_size e) z) (Nat.lt_irrefl _)
 have cellK : ∀ x c,X.env.cells.lookup x = some c -> ∀ v,s.heap.IsCell c v -> h'.IsCell c v:=fun x c e v ⟨o,ho,hd⟩ => by
  have nch : c ∉ ch:=fun z => (hch c z).2.2.1 x c e rfl
  by_cases hc : c ∈ X.fs
  ·obtain ⟨sl,q⟩:=slot c o (I.cne x c e) hc nch ho (I.freeC x c e)
   exact ⟨_,q,hd⟩
  ·exact ⟨o,keep c o (I.cne x c e) hc nch ho (I.freeC x c e),hd⟩
 refine ⟨I.ok,I.os,hg,⟨fun b o e n hb hx => ?_,fun b o e n hb hx => ?_,fun b o e n hx => ?_,fun b o e hx => ?_,fun b xs e => tups b xs (I.base.tups b xs e),fun b o xs e => frzs b o xs (I.base.frzs b o xs e),fun b ps e => ?_⟩,?_,fun x c e => ?_,?_,fun x c e => ?_,fun p hp => ?_,hok,I.len⟩
 ·exact keep b o (neL b o e) hb (neC b o e hx) (I.base.keep b o e n hb hx) (I.base.free b o e n hx)
 ·obtain ⟨sl,e1⟩:=I.base.slot b o e n hb hx
  obtain ⟨sl',e2⟩:=slot b _ (neL b o e) hb (neC b o e hx) e1 (I.base.free b o e n hx)
  exact ⟨sl',e2⟩
 ·obtain ⟨o',e1⟩:=I.base.there b o e hx
  exact free b o' (neC b o e hx) e1 (I.base.free b o e n hx)
 ·obtain ⟨o',e1⟩:=I.base.there b o e hx
  exact there b o' (neC b o e hx) e1
 ·obtain ⟨m1,e1⟩:=I.base.tbls b ps e
  obtain ⟨m2,e2⟩:=tbls b _ e1
  exact ⟨m1 ++ m2,by rw [e2,Array.append_assoc]⟩
 ·obtain ⟨m,hn,hl⟩:=I.loc
  refine ⟨m,ns m hn,fun i x v e1 e2 e3 => ?_⟩
  obtain ⟨u,r,l⟩:=hl i x v e1 e2 e3
  refine ⟨u,r,?_⟩
  rcases l with l | ⟨k,c,e,z⟩
  ·exact .inl l
  ·exact .inr ⟨k,c,e,cellK x c e _ z⟩
 ·obtain ⟨v,z⟩:=I.cell x c e
  exact ⟨v,cellK x c e v z⟩
 ·obtain ⟨m,⟨o,_,_,ho,_⟩,_⟩:=I.loc
  exact free _ o (fun z => (hch _ z).2.1 rfl) ho I.free
 ·obtain ⟨v,o,ho,hd⟩:=I.cell x c e
  exact free c o (fun z => (hch c z).2.2.1 x c e rfl) ho (I.freeC x c e)
 ·obtain ⟨e,n,ne,nf,d⟩:=I.pin p hp
  have nch : p.1 ∉ ch:=fun z => (hch p.1 z).2.2.2 p hp rfl
  exact ⟨keep p.1 p.2 ne nf nch e n,free p.1 p.2 nch e n,ne,nf,d⟩
theorem Inv.un {t' : Nat} (I : Inv X pins σ H s) (u : Un X.fs [] H H' s.heap h') (hok : HOk X.prog X.w H' h') : Inv X pins σ H' { s with heap:=h',toks:=t' }:=by
 obtain ⟨m,⟨o,es,ep,ho,r⟩,_⟩:=id I.loc
 obtain ⟨sl,hL⟩:=u.any ho I.free (by simp)
 exact I.step (g':=s.gens) (d':=s.drawn) (ch:=[]) (fun _ z => nomatch z) (fun b o _ hb _ e n => u.keep b o e n hb (by simp)) (fun b o _ hb _ e n => u.slot b o e n hb (by simp)) (fun b o _ e n => u.free b o e n (by simp)) (fun b o _ e => u.there b o e (by simp)) u.tups u.frzs u.tbls (fun m' hm => by
  obtain ⟨o',es',ep',ho',r'⟩:=hm
  rw [ho] at ho'; cases ho'
  exact ⟨_,es',ep',hL,r'⟩) hok I.bare
theorem Inv.call {g' : Array GenState} {t' : Nat} {d' : Drawn} {ch : List Addr} (I : Inv X pins σ H s) (u : Un (frs X.stack) ch H H' s.heap h') (hok : HOk X.prog X.w H' h') (hg : AllBare g')
  (hch : ∀ b ∈ ch,(b ∈ X.ex \/ X.s₀.heap.objs.size <= b) /\ b ≠ X.env.locals /\ (∀ x c,X.env.cells.lookup x = some c -> c ≠ b) /\ ∀ p ∈ X.pn ++ pins,p.1 ≠ b) :
  Inv X pins σ H' { s with heap:=h',gens:=g',drawn:=d',toks:=t' }:=by
 obtain ⟨m,⟨o,es,ep,ho,r⟩,_⟩:=id I.loc
 obtain ⟨sl,hL⟩:=u.any ho I.free fun z => (hch _ z).2.1 rfl
 exact I.step (ch:=ch) hch (fun b o hL hb hc e n => u.keep b o e n (fun z => (List.mem_cons.mp (I.stkSub b z)).elim hL hb) hc) (fun b o _ _ hc e n => u.any e n hc) (fun b o hc e n => u.free b o e n hc) (fun b o hc e => u.there b o e hc) u.tups u.frzs u.tbls (fun m' hm => by
  obtain ⟨o',es',ep',ho',r'⟩:=hm
  rw [ho] at ho'; cases ho'
  exact ⟨_,es',ep',hL,r'⟩) hok hg
theorem Inv.turned {t' : Nat} {it : Addr} (I : Inv X pins σ H s) (k : ∀ b o,b ≠ it -> s.heap.get? b = some o -> h'.get? b = some o) (hn : H it = none) (hL : it ≠ X.env.locals)
  (h1 : it ∈ X.ex \/ X.s₀.heap.objs.size <= it) (h2 : ∀ x c,X.env.cells.lookup x = some c -> c ≠ it) (h3 : ∀ p ∈ X.pn ++ pins,p.1 ≠ it) : Inv X pins σ H { s with heap:=h',toks:=t' }:=by
 have nit : ∀ b u,H b = some u -> b ≠ it:=fun b u e z => by rw [z,hn] at e; cases e
 refine I.step (g':=s.gens) (d':=s.drawn) (ch:=[it]) (fun b hb => ?_) (fun b o _ _ hc e _ => k b o (fun z => hc (by simp [z])) e) (fun b o _ _ hc e _ => ⟨o.slots,k b o (fun z => hc (by simp [z])) e⟩) (fun _ _ _ _ n => n)
  (fun b o hc e => ⟨o,k b o (fun z => hc (by simp [z])) e⟩) (fun _ _ e => e) (fun _ _ _ e => e) (fun b ps e => ⟨#[],by rw [e]; simp⟩) (fun m hm => ?_) (fun b u e => ?_) I.bare
 ·have e : b = it:=by simpa using hb
  subst e
  exact ⟨h1,hL,h2,h3⟩
 ·obtain ⟨o,es,ep,ho,r⟩:=hm
  exact ⟨o,es,ep,k _ o (Ne.symm hL) ho,r⟩
 ·refine (I.hok b u e).stay (fun c v hc q => k c v ?_ q) (fun _ q => q) fun _ _ q => q
  rcases hc with z | z
  ·rw [z]; exact nit b u e
  ·exact nit c _ z
theorem Inv.tok (I : Inv X pins σ H s) (t : Nat) : Inv X pins σ H { s with toks:=t }:=I.un (h':=s.heap) (t':=t) Un.refl I.hok
theorem Inv.kept {t' : Nat} (I : Inv X pins σ H s) (k : ∀ b u,s.heap.get? b = some u -> h'.get? b = some u) : Inv X pins σ H { s with heap:=h',toks:=t' }:=I.un (Un.kept k) (I.hok.kept k)
theorem Inv.laid {a : Addr} {o : HO} {t' : Nat} (I : Inv X pins σ H s) (k : ∀ b u,s.heap.get? b = some u -> h'.get? b = some u) (hp : s.heap.objs.size <= a) (new : ObjOk X.prog X.w (upd H a o) h' a o) :
  Inv X pins σ (upd H a o) { s with heap:=h',toks:=t' }:=I.un (Un.laid k hp (I.hok.fresh hp)) (I.hok.laid k hp new)
theorem Inv.write {x e : Addr} {o : HO} {t' : Nat} (I : Inv X pins σ H s) (mu : Mut (H x)) (he : e = x \/ H e = some (.own x)) (k : ∀ b u,b ≠ e -> s.heap.get? b = some u -> h'.get? b = some u) (heo : ∃ u,h'.get? e = some u)
  (new : ObjOk X.prog X.w (upd H x o) h' x o) : Inv X pins σ (upd H x o) { s with heap:=h',toks:=t' }:=I.un (Un.write mu he k heo) (I.hok.write mu he k heo new)
theorem Inv.pins_of {pins' : List (Addr × Obj)} (I : Inv X pins σ H s) (h : ∀ p ∈ pins',s.heap.get? p.1 = some p.2 /\ H p.1 = none /\ p.1 ≠ X.env.locals /\ p.1 ∉ X.fs /\ ∀ v,p.2.data ≠ .cell v) : Inv X pins' σ H s :=
 ⟨I.ok,I.os,I.bare,I.base,I.loc,I.cell,I.free,I.freeC,fun p hp => (List.mem_append.mp hp).elim (fun z => I.pin p (List.mem_append_left _ z)) (h p),I.hok,I.len⟩
theorem nodup_ix {N : List Str} (hN : N.Nodup) {i j : Nat} {x : Str} (a : N[i]? = some x) (b : N[j]? = some x) : i = j:=by
 obtain ⟨h1,e1⟩:=List.getElem?_eq_some_iff.mp a
 obtain ⟨h2,e2⟩:=List.getElem?_eq_some_iff.mp b
 exact (List.getElem_inj hN).mp (e1.trans e2.symm)
theorem store_ok2 {M : Model} {A : Around} {E : Value -> Shared -> Prop} {i : Nat} {x : Str} {v : V} {u : Value} {Q : Unit -> Shared -> Prop} (I : Inv X pins σ H s) (hN : X.N.Nodup) (hi : X.N[i]? = some x) (hx : Loc X.env.scope x) (r : RelV v u)
  (h : ∀ s',Inv X pins (σ.set i (some v)) H s' -> (∃ a,Heap.SameBut a s.heap s'.heap /\ (a = X.env.locals \/ X.env.cells.lookup x = some a)) -> Q () s') (hf : X.fn x = true \/ X.env.scope.names.lookup x = some .local:=by first | exact .inl rfl | exact .inr rfl | assumption) : wpAny M A (storeName X.env x u) Q E s:=by
 obtain ⟨m,hn,hl⟩:=id I.loc
 have hcls : (X.env.scope.kind == .class || (X.env.scope.kind == .module && X.env.locals != X.env.globals)) = false:=by rw [I.ok.kind]; rfl
 have hiσ : i < σ.length:=by rw [I.len]; exact (List.getElem?_eq_some_iff.mp hi).1
 have cne:=I.cne
 have tracked : ∀ {a : Addr} {h' : Heap},(∃ o,s.heap.get? a = some o /\ H a = none) -> Heap.SameBut a s.heap h' -> HOk X.prog X.w H h':=fun {a h'} ha hs b ob e => by
  obtain ⟨_,_,hfree⟩:=ha
  refine (I.hok b ob e).stay (fun c w' hc q => (hs.2 c ?_).trans q) (fun _ q => q) fun _ _ q => q
  rintro rfl
  rcases hc with rfl | hc
  ·rw [hfree] at e; cases e
  ·rw [hfree] at hc; cases hc
 rcases hx with hk | hk
 ·refine wpAny_storeName_local hk hn (fun h' hn' hs => ?_) hcls
  obtain ⟨oL,_,_,hoL,_⟩:=id hn
  refine h _ ⟨I.ok,I.os,I.bare,⟨fun b o e n hb hx => ?_,fun b o e n hb hx => ?_,I.base.free,fun b o e hx => ?_,I.base.tups,I.base.frzs,I.base.tbls⟩,⟨_,hn',fun j y v' e1 e2 e3 => ?_⟩,fun y c e => ?_,I.free,I.freeC,fun p hp => ?_,tracked ⟨oL,hoL,I.free⟩ hs,by simpa using I.len⟩ ⟨_,hs,.inl rfl⟩
  ·exact (hs.2 b (Nat.ne_of_lt (Nat.lt_of_lt_of_le (Heap.lt_size e) I.ok.above))).trans (I.base.keep b o e n hb hx)
  ·obtain ⟨sl,e1⟩:=I.base.slot b o e n hb hx
   exact ⟨sl,(hs.2 b (Nat.ne_of_lt (Nat.lt_of_lt_of_le (Heap.lt_size e) I.ok.above))).trans e1⟩
  ·obtain ⟨o',e1⟩:=I.base.there b o e hx
   exact ⟨o',(hs.2 b (Nat.ne_of_lt (Nat.lt_of_lt_of_le (Heap.lt_size e) I.ok.above))).trans e1⟩
  ·by_cases hj : j = i
   ·subst hj
    rw [hi] at e1; cases e1
    rw [List.getElem?_set_self hiσ] at e2
    cases e2
    exact ⟨u,r,.inl ⟨hk,by simp⟩⟩
   ·rw [List.getElem?_set_ne (Ne.symm hj)] at e2
    obtain ⟨u',r',q⟩:=hl j y v' e1 e2 e3
    refine ⟨u',r',?_⟩
    rcases q with ⟨k,e⟩ | ⟨k,c,e,z⟩
    ·refine .inl ⟨k,?_⟩
     have : y ≠ x:=fun e => hj (nodup_ix hN e1 (e ▸ hi))
     simp [this,e]
    ·exact .inr ⟨k,c,e,z.sameBut hs (cne y c e)⟩
  ·obtain ⟨w',z⟩:=I.cell y c e
   exact ⟨w',z.sameBut hs (cne y c e)⟩
  ·obtain ⟨e,n,ne,nf,d⟩:=I.pin p hp
   exact ⟨(hs.2 p.1 ne).trans e,n,ne,nf,d⟩
 ·have hfn : X.fn x = true:=by
   rcases hf with z | z
   ·exact z
   ·rw [z] at hk; cases hk
  obtain ⟨c,hc⟩:=I.ok.has x (.inl hk)
  obtain ⟨w',z⟩:=I.cell x c hc
  refine wpAny_storeName_cell I.ok.kind hk hc z (fun h' hc' hs => ?_)
  obtain ⟨oc,hoc,hocd⟩:=id z
  refine h { s with heap:=h' } ⟨I.ok,I.os,I.bare,⟨fun b o e n hb hx => ?_,fun b o e n hb hx => ?_,I.base.free,fun b o e hx => ?_,I.base.tups,I.base.frzs,I.base.tbls⟩,⟨m,hn.sameBut hs (Ne.symm (cne x c hc)),fun j y v' e1 e2 e3 => ?_⟩,fun y c' e => ?_,I.free,I.freeC,fun p hp => ?_,tracked ⟨oc,hoc,I.freeC x c hc⟩ hs,by simpa using I.len⟩ ⟨c,hs,.inr hc⟩
  ·exact (hs.2 b (Nat.ne_of_lt (Nat.lt_of_lt_of_le (Heap.lt_size e) (I.ok.cab x c hfn hc)))).trans (I.base.keep b o e n hb hx)
  ·obtain ⟨sl,e1⟩:=I.base.slot b o e n hb hx
   exact ⟨sl,(hs.2 b (Nat.ne_of_lt (Nat.lt_of_lt_of_le (Heap.lt_size e) (I.ok.cab x c hfn hc)))).trans e1⟩
  ·obtain ⟨o',e1⟩:=I.base.there b o e hx
   exact ⟨o',(hs.2 b (Nat.ne_of_lt (Nat.lt_of_lt_of_le (Heap.lt_size e) (I.ok.cab x c hfn hc)))).trans e1⟩
  ·by_cases hj : j = i
   ·subst hj
    rw [hi] at e1; cases e1
    rw [List.getElem?_set_self hiσ] at e2
    cases e2
    exact ⟨u,r,.inr ⟨.inl hk,c,hc,hc'⟩⟩
   ·rw [List.getElem?_set_ne (Ne.symm hj)] at e2
    obtain ⟨u',r',q⟩:=hl j y v' e1 e2 e3
    refine ⟨u',r',?_⟩
    rcases q with q | ⟨k,c',e,z'⟩
    ·exact .inl q
    ·refine .inr ⟨k,c',e,z'.sameBut hs ?_⟩
     rintro rfl
     exact hj (nodup_ix hN e1 (I.ok.inj _ _ _ e hc ▸ hi))
  ·by_cases hcc : c' = c
   ·subst hcc; exact ⟨_,hc'⟩
   ·obtain ⟨w2,z2⟩:=I.cell y c' e
    exact ⟨w2,z2.sameBut hs hcc⟩
  ·obtain ⟨e,n,ne,nf,d⟩:=I.pin p hp
   refine ⟨(hs.2 p.1 ?_).trans e,n,ne,nf,d⟩
   intro q
   rw [q,hoc] at e
   have q' : oc = p.2:=Option.some.inj e
   exact d w' (by rw [← q']; exact hocd)
theorem store_ok {M : Model} {A : Around} {E : Value -> Shared -> Prop} {i : Nat} {x : Str} {v : V} {u : Value} {Q : Unit -> Shared -> Prop} (I : Inv X pins σ H s) (hN : X.N.Nodup) (hi : X.N[i]? = some x) (hx : Loc X.env.scope x) (r : RelV v u)
  (h : ∀ s',Inv X pins (σ.set i (some v)) H s' -> Q () s') (hf : X.fn x = true \/ X.env.scope.names.lookup x = some .local:=by first | exact .inl rfl | exact .inr rfl | assumption) : wpAny M A (storeName X.env x u) Q E s :=
 store_ok2 I hN hi hx r (fun s' I' _ => h s' I') hf
theorem Inv.call' {s' : Shared} {ch : List Addr} (I : Inv X pins σ H s) (ho : s'.os = s.os) (u : Un (frs X.stack) ch H H' s.heap s'.heap) (hok : HOk X.prog X.w H' s'.heap) (hg : AllBare s'.gens)
  (hch : ∀ b ∈ ch,(b ∈ X.ex \/ X.s₀.heap.objs.size <= b) /\ b ≠ X.env.locals /\ (∀ x c,X.env.cells.lookup x = some c -> c ≠ b) /\ ∀ p ∈ X.pn ++ pins,p.1 ≠ b) : Inv X pins σ H' s':=by
 obtain ⟨h',g',d',t',o'⟩:=s'
 have e : o' = s.os:=ho
 subst e
 exact I.call (g':=g') (t':=t') (d':=d') u hok hg hch
end
abbrev XK:=Value -> Option Addr -> Hp -> Prop
abbrev St:=List (Option V)
abbrev VK:=V -> Hp -> Prop
abbrev TE:=St -> Hp -> VK -> Prop
abbrev TT:=St -> Hp -> (Bool -> Hp -> Prop) -> Prop
abbrev TA:=St -> Hp -> (List V -> Hp -> Prop) -> Prop
structure Ends where
 nx : St -> Hp -> Prop
 rt : VK
 bk : St -> Hp -> Prop:=fun _ _ => False
 ct : St -> Hp -> Prop:=fun _ _ => False
abbrev TS:=Ends -> St -> Hp -> Prop
def EP (X : Cx) (pins : List (Addr × Obj)) (σ : St) (Q : VK) (u : Value) (s' : Shared) : Prop:=∃ v H',Inv X pins σ H' s' /\ RelV v u /\ Q v H'
def TP (X : Cx) (pins : List (Addr × Obj)) (σ : St) (Q : Bool -> Hp -> Prop) (b : Bool) (s' : Shared) : Prop:=∃ H',Inv X pins σ H' s' /\ Q b H'
def AP (X : Cx) (pins : List (Addr × Obj)) (σ : St) (Q : List V -> Hp -> Prop) (us : List Value) (s' : Shared) : Prop:=∃ vs H',Inv X pins σ H' s' /\ Vals vs us /\ Q vs H'
def SP (X : Cx) (pins : List (Addr × Obj)) (D : Ends) (f : Flow) (s' : Shared) : Prop :=
 match f with
 | .next => ∃ σ' H',Inv X pins σ' H' s' /\ D.nx σ' H'
 | .brk => ∃ σ' H',Inv X pins σ' H' s' /\ D.bk σ' H'
 | .cont => ∃ σ' H',Inv X pins σ' H' s' /\ D.ct σ' H'
 | .ret u => ∃ v σ' H',Inv X pins σ' H' s' /\ RelV v u /\ D.rt v H'
def PE (X : Cx) (e : Expr) (t : TE) : Prop :=
 ∀ (pins : List (Addr × Obj)) (s : Shared) (σ : St) (H : Hp) (Q : VK),Inv X pins σ H s -> t σ H Q -> wpAny (model X.prog X.w) X.A (eval e X.env) (EP X pins σ Q) X.xe s
def PT (X : Cx) (e : Expr) (t : TT) : Prop :=
 ∀ (pins : List (Addr × Obj)) (s : Shared) (σ : St) (H : Hp) (Q : Bool -> Hp -> Prop),Inv X pins σ H s -> t σ H Q -> wpAny (model X.prog X.w) X.A (isTrue e X.env (eval e X.env)) (TP X pins σ Q) X.xe s
def PW (X : Cx) (e : Expr) (t : TT) : Prop :=
 ∀ (whole : Sem Value) (pins : List (Addr × Obj)) (s : Shared) (σ : St) (H : Hp) (Q : Bool -> Hp -> Prop),Inv X pins σ H s -> t σ H Q -> wpAny (model X.prog X.w) X.A (isTrue e X.env whole) (TP X pins σ Q) X.xe s
theorem PW.pt {X : Cx} {e : Expr} {t : TT} (h : PW X e t) : PT X e t:=h _
def PA (X : Cx) (es : List Expr) (t : TA) : Prop :=
 ∀ (pos : Pos) (pins : List (Addr × Obj)) (s : Shared) (σ : St) (H : Hp) (Q : List V -> Hp -> Prop),Inv X pins σ H s -> t σ H Q -> wpAny (model X.prog X.w) X.A (spliced (backTo pos (starEach es X.env))) (AP X pins σ Q) X.xe s
def PS (X : Cx) (st : Stmt) (t : TS) : Prop :=
 ∀ (pins : List (Addr × Obj)) (s : Shared) (σ : St) (H : Hp) (D : Ends),Inv X pins σ H s -> t D σ H -> wpAny (model X.prog X.w) X.A (exec st X.env) (SP X pins D) X.xe s
def PSs (X : Cx) (st : List Stmt) (t : TS) : Prop :=
 ∀ (pins : List (Addr × Obj)) (s : Shared) (σ : St) (H : Hp) (D : Ends),Inv X pins σ H s -> t D σ H -> wpAny (model X.prog X.w) X.A (execs st X.env) (SP X pins D) X.xe s
theorem thn {α : Type} {t : Sem α} {Q Q' : α -> Shared -> Prop} {M : Model} {A : Around} {E : Value -> Shared -> Prop} {s : Shared} (h : wpAny M A t Q E s) (hQ : ∀ a s,Q a s -> Q' a s) : wpAny M A t Q' E s:=wpAny_mono h hQ fun _ _ x => x
end L2
namespace L2
open PySem PySem.Spec PyProof.Rows
section
variable {X : Cx}
def tVar (i : Nat) : TE:=fun σ H Q => ∃ v,σ[i]? = some (some v) /\ Q v H
def tC (v : V) : TE:=fun _ H Q => Q v H
theorem pe_var {i : Nat} {x : Str} {pos : Pos} (hN : X.N[i]? = some x) (hv : Vis X.env.scope x) (hd : (x == ("__debug__" : Str)) = false:=by decide) (hcd : (x == ("__classdict__" : Str)) = false:=by decide) : PE X (.Name x pos) (tVar i):=by
 intro pins s σ H Q I h
 obtain ⟨v,e,h⟩:=h
 obtain ⟨m,hn,hl⟩:=I.loc
 obtain ⟨u,r,l⟩:=hl i x v hN e hv
 have fin : EP X pins σ Q u s:=⟨v,H,I,r,h⟩
 rcases l with ⟨hk,hm⟩ | ⟨hk,c,hc,hcell⟩
 ·exact wpAny_Name (wpAny_loadName_local I.ok.kind hk hn hm fin) hd
 ·rcases hk with hk | hk
  ·exact wpAny_Name (wpAny_loadName_cell I.ok.kind hk hc hcell fin) hd
  ·exact wpAny_Name (wpAny_loadName_free I.ok.kind hk hc hcell fin hcd) hd
theorem pe_int {i j pos} : PE X (.Constant (.int i) j pos) (tC (.int i)):=fun _ _ _ H _ I h => wpAny_Constant_int ⟨.int i,H,I.tok _,⟨_,rfl⟩,h⟩
theorem pe_bl {b j pos} : PE X (.Constant (.bool b) j pos) (tC (.bl b)):=fun _ _ _ H _ I h => Constant_bool ⟨.bl b,H,I,rfl,h⟩
theorem pe_non {j pos} : PE X (.Constant .none j pos) (tC .non):=fun _ _ _ H _ I h => Constant_none ⟨.non,H,I,rfl,h⟩
theorem pe_str {x j pos} : PE X (.Constant (.str x) j pos) (tC (.str x)):=fun _ _ _ H _ I h => Calls.Constant_str ⟨.str x,H,I.tok _,⟨_,rfl⟩,h⟩
def Gl (X : Cx) (x : Str) : Prop:=X.env.kindOf x = some .globalImplicit
theorem ld_glob {E : Value -> Shared -> Prop} {pins : List (Addr × Obj)} {s : Shared} {σ : St} {H : Hp} {x : Str} {u : Value} {pos : Pos} {Q : Value -> Shared -> Prop} (I : Inv X pins σ H s) (hg : Gl X x) (hm : X.mg x = some u) (h : Q u s)
  (hd : (x == ("__debug__" : Str)) = false:=by decide) : wpAny (model X.prog X.w) X.A (eval (.Name x pos) X.env) Q E s :=
 Calls.Name_function_global I.ok.kind hg (Calls.loadGlobal_global (by rw [I.ok.glob]; exact I.mod.glob.keeps I.bk) hm h) hd
theorem ld_blt {E : Value -> Shared -> Prop} {pins : List (Addr × Obj)} {s : Shared} {σ : St} {H : Hp} {x : Str} {u : Value} {pos : Pos} {Q : Value -> Shared -> Prop} (I : Inv X pins σ H s) (hg : Gl X x) (hm : X.mg x = none) (hv : bootBuiltins x = some u) (h : Q u s)
  (hn : x ≠ "__name__":=by decide) (hd : (x == ("__debug__" : Str)) = false:=by decide) : wpAny (model X.prog X.w) X.A (eval (.Name x pos) X.env) Q E s:=by
 obtain ⟨mb,h1,h2⟩:=I.mod.blt
 exact Calls.Name_function_global I.ok.kind hg (Calls.loadGlobal_builtin (by rw [I.ok.glob]; exact I.mod.glob.keeps I.bk) hm (by rw [I.ok.blt]; exact h1.keeps I.bk) ((h2 x hn).trans hv) h) hd
theorem pe_glob {x : Str} {v : V} {u : Value} {pos : Pos} (hg : Gl X x) (hm : X.mg x = some u) (r : RelV v u) (hd : (x == ("__debug__" : Str)) = false:=by decide) : PE X (.Name x pos) (tC v) :=
 fun _ _ _ H _ I h => ld_glob I hg hm ⟨v,H,I,r,h⟩ hd
theorem pe_bltn {x : Str} {v : V} {u : Value} {pos : Pos} (hg : Gl X x) (hm : X.mg x = none) (hv : bootBuiltins x = some u) (r : RelV v u) (hn : x ≠ "__name__":=by decide) (hd : (x == ("__debug__" : Str)) = false:=by decide) : PE X (.Name x pos) (tC v) :=
 fun _ _ _ H _ I h => ld_blt I hg hm hv ⟨v,H,I,r,h⟩ hn hd
variable {a b : Expr} {ta tb : TE} {pos : Pos}
def PC (X : Cx) (op : CmpOp) (a b : Expr) (t : TE) : Prop :=
 ∀ (pins : List (Addr × Obj)) (s : Shared) (σ : St) (H : Hp) (Q : VK),Inv X pins σ H s -> t σ H Q ->
  wpAny (model X.prog X.w) X.A (eval a X.env) (fun v s₁ => wpAny (model X.prog X.w) X.A (eval b X.env) (fun u s₂ => wpAny (model X.prog X.w) X.A (compareOp op v u) (EP X pins σ Q) X.xe s₂) X.xe s₁) X.xe s
theorem nobehind (b : Expr) {op : CmpOp} (h : op ≠ .In) (h2 : op ≠ .NotIn) : behindInMarks op b = false:=by
 have e1 : (op == CmpOp.In) = false:=by cases op <;> first | rfl | exact absurd rfl h
 have e2 : (op == CmpOp.NotIn) = false:=by cases op <;> first | rfl | exact absurd rfl h2
 cases b <;> simp [behindInMarks,e1,e2]
def tIsN (ta : TE) : TE:=fun σ H Q => ta σ H fun x H1 => Q (.bl (decide (x = .non))) H1
def tNotN (ta : TE) : TE:=fun σ H Q => ta σ H fun x H1 => Q (.bl (!decide (x = .non))) H1
theorem RelV.none_iff {x : V} {v : Value} (r : RelV x v) : (v == Value.none) = decide (x = .non):=by
 cases x with
 | non => cases r; rfl
 | bl _ => cases r; rfl
 | int _ => obtain ⟨t,rfl⟩:=r; rfl
 | str _ => obtain ⟨t,rfl⟩:=r; rfl
 | byt _ => obtain ⟨t,rfl⟩:=r; rfl
 | flt _ => obtain ⟨t,rfl⟩:=r; rfl
 | ref _ => cases r; rfl
 | ty _ => cases r; rfl
theorem pc_isN {j pos'} (ha : PE X a ta) : PC X .Is a (.Constant .none j pos') (tIsN ta):=by
 intro pins s σ H Q I h
 refine thn (ha pins s σ H _ I h) fun v s1 ⟨x,H1,I1,r1,q1⟩ => ?_
 exact Constant_none (is_none_gen ⟨.bl _,H1,I1,by rw [r1.none_iff]; rfl,q1⟩)
theorem pc_notN {j pos'} (ha : PE X a ta) : PC X .IsNot a (.Constant .none j pos') (tNotN ta):=by
 intro pins s σ H Q I h
 refine thn (ha pins s σ H _ I h) fun v s1 ⟨x,H1,I1,r1,q1⟩ => ?_
 exact Constant_none (isnot_none_gen ⟨.bl _,H1,I1,by rw [r1.none_iff]; rfl,q1⟩)
def tB (t : TE) : TT:=fun σ H Q => t σ H fun x H1 => ∃ c,x = .bl c /\ Q c H1
theorem pe_cmp {op : CmpOp} {t : TE} (h : PC X op a b t) (h1 : behindInMarks op b = false:=by first | exact nobehind _ (by decide) (by decide) | rfl) : PE X (.Compare a [op] [b] pos) t:=fun pins s σ H Q I hw => wpAny_Compare1 (h pins s σ H Q I hw) h1
theorem pt_cmp {op : CmpOp} {t : TE} (h : PC X op a b t) (h1 : behindInMarks op b = false:=by first | exact nobehind _ (by decide) (by decide) | rfl) : PT X (.Compare a [op] [b] pos) (tB t):=by
 intro pins s σ H Q I hw
 refine wpAny_isTrue_Compare1 (thn (h pins s σ H _ I hw) fun v s1 h1 => thn h1 fun u s2 h2 => thn h2 fun c s3 ⟨x,H1,I1,r1,q1⟩ => ?_) h1
 obtain ⟨d,rfl,q⟩:=q1
 cases r1
 exact wpAny_truthy_bool ⟨H1,I1,q⟩
theorem pt_val {e : Expr} {t : TE} (h : PE X e t) (he : ∀ whole,isTrue e X.env whole = (do let v ← whole; standAt e.pos; holding [v] (truthy v)):=by intro _; rfl) : PT X e (tB t):=by
 intro pins s σ H Q I hw
 refine isTrue_plain (thn (h pins s σ H _ I hw) fun v s1 ⟨x,H1,I1,r1,q1⟩ => ?_) (he _)
 obtain ⟨d,rfl,q⟩:=q1
 cases r1
 exact wpAny_truthy_bool ⟨H1,I1,q⟩
variable {tA tB' : TT} {rest : List Expr}
def tAnd (t u : TT) : TT:=fun σ H Q => t σ H fun c H1 => if c = true then u σ H1 Q else Q false H1
def tOr (t u : TT) : TT:=fun σ H Q => t σ H fun c H1 => if c = true then Q true H1 else u σ H1 Q
def tNot (t : TT) : TT:=fun σ H Q => t σ H fun c H1 => Q (!c) H1
theorem pw_and1 (ha : PT X a tA) : PW X (.BoolOp .And [a] pos) tA:=by
 intro wh pins s σ H Q I h
 refine isTrue_and (thn (ha pins s σ H Q I h) fun c s1 e => ?_)
 cases c with
 | true => exact isTrue_and_nil e
 | false => exact e
theorem pw_or1 (ha : PT X a tA) : PW X (.BoolOp .Or [a] pos) tA:=by
 intro wh pins s σ H Q I h
 refine isTrue_or (thn (ha pins s σ H Q I h) fun c s1 e => ?_)
 cases c with
 | false => exact isTrue_or_nil e
 | true => exact e
theorem pw_and (ha : PT X a tA) (hb : PW X (.BoolOp .And (b :: rest) pos) tB') : PW X (.BoolOp .And (a :: b :: rest) pos) (tAnd tA tB'):=by
 intro wh pins s σ H Q I h
 refine isTrue_and (thn (ha pins s σ H _ I h) fun c s1 ⟨H1,I1,q1⟩ => ?_)
 cases c with
 | true => exact hb wh pins s1 σ H1 Q I1 q1
 | false => exact ⟨H1,I1,q1⟩
theorem pw_or (ha : PT X a tA) (hb : PW X (.BoolOp .Or (b :: rest) pos) tB') : PW X (.BoolOp .Or (a :: b :: rest) pos) (tOr tA tB'):=by
 intro wh pins s σ H Q I h
 refine isTrue_or (thn (ha pins s σ H _ I h) fun c s1 ⟨H1,I1,q1⟩ => ?_)
 cases c with
 | true => exact ⟨H1,I1,q1⟩
 | false => exact hb wh pins s1 σ H1 Q I1 q1
theorem pt_not (ha : PT X a tA) : PT X (.UnaryOp .Not a pos) (tNot tA):=by
 intro pins s σ H Q I h
 exact isTrue_not (ha pins s σ H (fun c H1 => Q (!c) H1) I h)
def tAndV (ta tb : TE) : TE:=fun σ H Q => ta σ H fun x H1 => ∃ c,x = .bl c /\ if c = true then tb σ H1 Q else Q (.bl false) H1
def tOrV (ta tb : TE) : TE:=fun σ H Q => ta σ H fun x H1 => ∃ c,x = .bl c /\ if c = true then Q (.bl true) H1 else tb σ H1 Q
def tNotV (ta : TE) : TE:=fun σ H Q => ta σ H fun x H1 => ∃ c,x = .bl c /\ Q (.bl (!c)) H1
theorem pe_one {op} {t : TE} (h : PE X a t) : PE X (.BoolOp op [a] pos) t:=fun pins s σ H Q I hw => BoolOp_one (h pins s σ H Q I hw)
theorem pe_and (ha : PE X a ta) (hb : PE X (.BoolOp .And (b :: rest) pos) tb) : PE X (.BoolOp .And (a :: b :: rest) pos) (tAndV ta tb):=by
 intro pins s σ H Q I h
 refine BoolOp_and (thn (ha pins s σ H _ I h) fun v s1 ⟨x,H1,I1,r1,q1⟩ => ?_)
 obtain ⟨c,rfl,q1⟩:=q1
 cases r1
 refine wpAny_truthy_bool ?_
 cases c with
 | true => exact hb pins s1 σ H1 Q I1 q1
 | false => exact ⟨.bl false,H1,I1,rfl,q1⟩
theorem pe_or (ha : PE X a ta) (hb : PE X (.BoolOp .Or (b :: rest) pos) tb) : PE X (.BoolOp .Or (a :: b :: rest) pos) (tOrV ta tb):=by
 intro pins s σ H Q I h
 refine BoolOp_or (thn (ha pins s σ H _ I h) fun v s1 ⟨x,H1,I1,r1,q1⟩ => ?_)
 obtain ⟨c,rfl,q1⟩:=q1
 cases r1
 refine wpAny_truthy_bool ?_
 cases c with
 | false => exact hb pins s1 σ H1 Q I1 q1
 | true => exact ⟨.bl true,H1,I1,rfl,q1⟩
theorem pe_not (ha : PE X a ta) : PE X (.UnaryOp .Not a pos) (tNotV ta):=by
 intro pins s σ H Q I h
 refine UnaryOp_ (thn (ha pins s σ H _ I h) fun v s1 ⟨x,H1,I1,r1,q1⟩ => ?_)
 obtain ⟨c,rfl,q1⟩:=q1
 cases r1
 exact not_of (wpAny_truthy_bool ⟨.bl (!c),H1,I1,rfl,q1⟩)
def tIf (t : TT) (ta tb : TE) : TE:=fun σ H Q => t σ H fun c H1 => if c = true then ta σ H1 Q else tb σ H1 Q
theorem pe_ifExp {c : Expr} (hc : PT X c tA) (ha : PE X a ta) (hb : PE X b tb) : PE X (.IfExp c a b pos) (tIf tA ta tb):=by
 intro pins s σ H Q I h
 refine wpAny_IfExp (thn (hc pins s σ H _ I h) fun d s1 ⟨H1,I1,q1⟩ => ?_)
 cases d with
 | true => exact ha pins s1 σ H1 Q I1 q1
 | false => exact hb pins s1 σ H1 Q I1 q1
end
end L2
namespace L2
open PySem PySem.Spec PyProof.Rows
def SqL (K : PySem.W.Frag) (H : Hp) (a : Addr) (xs : List V) : Prop :=
 Rd H a (.lst xs) \/
  ∃ (o : Obj) (its : Array Value) (n : Nat),K.lookup a = some o /\ o.cls = .type "list" /\ o.dict = none /\ o.data = .seq its n /\ its.size <= sizeLine /\ Vals xs its.toList
def SqT (K : PySem.W.Frag) (H : Hp) (a : Addr) (xs : List V) : Prop :=
 Rd H a (.tup xs) \/
  ∃ (o : Obj) (its : Array Value) (n : Nat),K.lookup a = some o /\ o.cls = .type "tuple" /\ o.data = .seq its n /\ its.size <= sizeLine /\ Vals xs its.toList
def absV : Value -> Option V
 | .none => some .non
 | .bool b => some (.bl b)
 | .int i _ => some (.int i)
 | .str x _ => some (.str x)
 | .bytes b _ => some (.byt b)
 | .float b _ => some (.flt b)
 | .ref a => some (.ref a)
 | .type n => some (.ty n)
 | _ => none
theorem RelV.abs {x : V} {u : Value} (r : RelV x u) : absV u = some x:=by
 cases x with
 | non => cases r; rfl
 | bl _ => cases r; rfl
 | int _ => obtain ⟨t,rfl⟩:=r; rfl
 | str _ => obtain ⟨t,rfl⟩:=r; rfl
 | byt _ => obtain ⟨t,rfl⟩:=r; rfl
 | flt _ => obtain ⟨t,rfl⟩:=r; rfl
 | ref _ => cases r; rfl
 | ty _ => cases r; rfl
theorem RelV.inj {x y : V} {u : Value} (r : RelV x u) (q : RelV y u) : x = y:=Option.some.inj (r.abs.symm.trans q.abs)
theorem Vals.inj : ∀ {xs ys : List V} {us : List Value},Vals xs us -> Vals ys us -> xs = ys
 | _,_,_,.nil,.nil => rfl
 | _,_,_,.cons r t,.cons r' t' => by rw [r.inj r',Vals.inj t t']
section
variable {X : Cx} {pins : List (Addr × Obj)} {σ : St} {H : Hp} {s : Shared} {a : Addr} {xs ys : List V}
theorem SqL.of {K : PySem.W.Frag} (h : H a = some (.lst xs)) : SqL K H a xs:=.inl (.inl h)
theorem SqT.of {K : PySem.W.Frag} (h : H a = some (.tup xs)) : SqT K H a xs:=.inl (.inl h)
theorem Inv.list (I : Inv X pins σ H s) (h : SqL X.K H a xs) : ∃ its : List Value,Vals xs its /\ PlainL s.heap a its.toArray /\ xs.length <= sizeLine:=by
 rcases h with h | ⟨o,its,n,hk,hc,hd,hs,hz,r⟩
 ·obtain ⟨z,its,n,r,e⟩:=h.ok I.hok
  exact ⟨its,r,⟨_,n,e,rfl,rfl,rfl⟩,z⟩
 ·refine ⟨its.toList,r,⟨o,n,I.kIn a o hk,hc,hd,by simpa using hs⟩,?_⟩
  have e:=r.length
  simp only [Array.length_toList] at e
  omega
theorem Inv.tuple (I : Inv X pins σ H s) (h : SqT X.K H a xs) : ∃ its : List Value,Vals xs its /\ IsTup s.heap a its.toArray /\ xs.length <= sizeLine:=by
 rcases h with h | ⟨o,its,n,hk,hc,hs,hz,r⟩
 ·obtain ⟨z,its,r,p⟩:=h.ok I.hok
  exact ⟨its,r,p,z⟩
 ·refine ⟨its.toList,r,⟨o,I.kIn a o hk,hc,n,by simpa using hs⟩,?_⟩
  have e:=r.length
  simp only [Array.length_toList] at e
  omega
theorem Inv.list_inj (I : Inv X pins σ H s) (h : SqL X.K H a xs) (h' : SqL X.K H a ys) : xs = ys:=by
 obtain ⟨its,r,⟨o,n,e,_,_,d⟩,_⟩:=I.list h
 obtain ⟨its',r',⟨o',n',e',_,_,d'⟩,_⟩:=I.list h'
 rw [e] at e'; cases e'
 rw [d] at d'
 injection d' with d1 _
 have : its = its':=by simpa using congrArg Array.toList d1
 subst this
 exact r.inj r'
theorem Inv.tuple_inj (I : Inv X pins σ H s) (h : SqT X.K H a xs) (h' : SqT X.K H a ys) : xs = ys:=by
 obtain ⟨its,r,⟨o,e,_,n,d⟩,_⟩:=I.tuple h
 obtain ⟨its',r',⟨o',e',_,n',d'⟩,_⟩:=I.tuple h'
 rw [e] at e'; cases e'
 rw [d] at d'
 injection d' with d1 _
 have : its = its':=by simpa using congrArg Array.toList d1
 subst this
 exact r.inj r'
end
abbrev Cx.wish (X : Cx) (E : Value -> Shared -> Prop) : Cx:={ X with xe:=E }
abbrev Cx.nox (X : Cx) : Cx:=X.wish fun _ _ => False
theorem Cx.Ok.wish {X : Cx} (ok : X.Ok) (E : Value -> Shared -> Prop) : (X.wish E).Ok :=
 ⟨ok.mod,ok.kind,ok.glob,ok.blt,ok.above,ok.inj,ok.has,ok.cab,ok.hd,ok.frames,ok.stk,ok.exf,ok.bs,ok.bsz,ok.noex,ok.exfs,ok.funs,ok.frf⟩
theorem Cx.Ok.unwish {X : Cx} {E : Value -> Shared -> Prop} (ok : (X.wish E).Ok) : X.Ok :=
 ⟨ok.mod,ok.kind,ok.glob,ok.blt,ok.above,ok.inj,ok.has,ok.cab,ok.hd,ok.frames,ok.stk,ok.exf,ok.bs,ok.bsz,ok.noex,ok.exfs,ok.funs,ok.frf⟩
section
variable {X : Cx} {pins : List (Addr × Obj)} {σ : St} {H : Hp} {s : Shared} {E : Value -> Shared -> Prop}
theorem Inv.wish (I : Inv X pins σ H s) (E : Value -> Shared -> Prop) : Inv (X.wish E) pins σ H s:=⟨I.ok.wish E,I.os,I.bare,I.base,I.loc,I.cell,I.free,I.freeC,I.pin,I.hok,I.len⟩
theorem Inv.unwish (I : Inv (X.wish E) pins σ H s) : Inv X pins σ H s:=⟨I.ok.unwish,I.os,I.bare,I.base,I.loc,I.cell,I.free,I.freeC,I.pin,I.hok,I.len⟩
theorem SP.unwish {D : Ends} {f : Flow} {s' : Shared} (h : SP (X.wish E) pins D f s') : SP X pins D f s':=by
 cases f with
 | next => obtain ⟨σ',H',I,q⟩:=h; exact ⟨σ',H',I.unwish,q⟩
 | brk => obtain ⟨σ',H',I,q⟩:=h; exact ⟨σ',H',I.unwish,q⟩
 | cont => obtain ⟨σ',H',I,q⟩:=h; exact ⟨σ',H',I.unwish,q⟩
 | ret u => obtain ⟨v,σ',H',I,r,q⟩:=h; exact ⟨v,σ',H',I.unwish,r,q⟩
theorem PSs.nox {st : List Stmt} {t : TS} (h : PSs X.nox st t) : PSs X st t:=fun pins s σ H D I hw =>
 wpAny_mono (h pins s σ H D (I.wish _) hw) (fun _ _ q => q.unwish) fun _ _ z => False.elim z
end
section
variable {X : Cx} {st : Stmt} {rest : List Stmt} {t u : TS} {e : Expr} {te : TE} {pos : Pos}
def tNext : TS:=fun D σ H => D.nx σ H
def tSeq (t u : TS) : TS:=fun D σ H => t { D with nx:=u D } σ H
theorem pss_nil : PSs X [] tNext:=fun _ _ σ H _ I h => wpAny_execs_nil ⟨σ,H,I,h⟩
theorem pss_cons (h1 : PS X st t) (h2 : PSs X rest u) : PSs X (st :: rest) (tSeq t u):=by
 intro pins s σ H D I h
 refine wpAny_execs_cons (thn (h1 pins s σ H { D with nx:=u D } I h) fun f s1 q => ?_)
 cases f with
 | next =>
  obtain ⟨σ',H',I',q⟩:=q
  exact h2 pins s1 σ' H' D I' q
 | ret v => exact q
 | brk => exact q
 | cont => exact q
theorem pss_one (h1 : PS X st t) : PSs X [st] t:=by
 intro pins s σ H D I h
 refine wpAny_execs_cons (thn (h1 pins s σ H D I h) fun f s1 q => ?_)
 cases f with
 | next => exact wpAny_execs_nil q
 | ret v => exact q
 | brk => exact q
 | cont => exact q
def tBreak : TS:=fun D σ H => D.bk σ H
def tCont : TS:=fun D σ H => D.ct σ H
theorem Inv.quiet {pins : List (Addr × Obj)} {σ : St} {H : Hp} {s : Shared} (I : Inv X pins σ H s) : interactive X.env = false:=by simp [interactive,I.ok.kind]
def tDrop (te : TE) : TS:=fun D σ H => te σ H fun _ H1 => D.nx σ H1
theorem ps_expr (he : PE X e te) (hs : swapsWith e none pos.line X.env = pure false:=by rfl) : PS X (.Expr e pos) (tDrop te):=by
 intro pins s σ H D I h
 exact wpAny_Expr_any (thn (he pins s σ H _ I h) fun v s1 ⟨x,H1,I1,r1,q1⟩ => ⟨σ,H1,I1,q1⟩) I.quiet hs
def tRet (te : TE) : TS:=fun D σ H => te σ H D.rt
theorem ps_ret (he : PE X e te) : PS X (.Return (some e) pos) (tRet te):=by
 intro pins s σ H D I h
 exact wpAny_Return_some (thn (he pins s σ H _ I h) fun v s1 ⟨x,H1,I1,r1,q1⟩ => ⟨x,σ,H1,I1,r1,q1⟩)
def tRetN : TS:=fun D _ H => D.rt .non H
def tIfS (c : TT) (t u : TS) : TS:=fun D σ H => c σ H fun b H1 => if b = true then t D σ H1 else u D σ H1
theorem ps_if {c : Expr} {a b : List Stmt} {tc : TT} (hc : PT X c tc) (ha : PSs X a t) (hb : PSs X b u) : PS X (.If c a b pos) (tIfS tc t u):=by
 intro pins s σ H D I h
 refine wpAny_If (thn (hc pins s σ H _ I h) fun d s1 ⟨H1,I1,q1⟩ => ?_)
 cases d with
 | true => exact ha pins s1 σ H1 D I1 q1
 | false => exact hb pins s1 σ H1 D I1 q1
end
abbrev TG:=V -> St -> Hp -> (St -> Hp -> Prop) -> Prop
abbrev TGs:=List V -> St -> Hp -> (St -> Hp -> Prop) -> Prop
def PG (X : Cx) (target : Expr) (t : TG) : Prop :=
 ∀ (pins : List (Addr × Obj)) (s : Shared) (σ : St) (H : Hp) (v : V) (u : Value) (Q : St -> Hp -> Prop),Inv X pins σ H s -> RelV v u -> t v σ H Q ->
  wpAny (model X.prog X.w) X.A (assign target X.env u) (fun _ s' => ∃ σ' H',Inv X pins σ' H' s' /\ Q σ' H') X.xe s
def PGs (X : Cx) (ts : List Expr) (t : TGs) : Prop :=
 ∀ (pins : List (Addr × Obj)) (s : Shared) (σ : St) (H : Hp) (vs : List V) (us : List Value) (Q : St -> Hp -> Prop),Inv X pins σ H s -> Vals vs us -> t vs σ H Q ->
  wpAny (model X.prog X.w) X.A (assignInOrder ((assignEach ts X.env).map (·.2)) us) (fun _ s' => ∃ σ' H',Inv X pins σ' H' s' /\ Q σ' H') X.xe s
abbrev TSet:=V -> V -> V -> Hp -> (Hp -> Prop) -> Prop
def PSet (X : Cx) (t : TSet) : Prop :=
 ∀ (pins : List (Addr × Obj)) (s : Shared) (σ : St) (H : Hp) (o i v : V) (ov iv u : Value) (Q : Hp -> Prop),Inv X pins σ H s -> RelV o ov -> RelV i iv -> RelV v u -> t o i v H Q ->
  wpAny (model X.prog X.w) X.A (setItem ov iv u) (fun _ s' => ∃ H',Inv X pins σ H' s' /\ Q H') X.xe s
abbrev TIp:=V -> V -> Hp -> VK -> Prop
section
variable {X : Cx} {pos : Pos}
def gName (i : Nat) : TG:=fun v σ H Q => Q (σ.set i (some v)) H
theorem pg_name {i : Nat} {x : Str} (hN : X.N.Nodup) (hi : X.N[i]? = some x) (hx : Loc X.env.scope x) (hf : X.fn x = true \/ X.env.scope.names.lookup x = some .local:=by first | exact .inl rfl | exact .inr rfl | assumption) : PG X (.Name x pos) (gName i):=by
 intro pins s σ H v u Q I r h
 exact wpAny_assign_Name (store_ok I hN hi hx r (fun s' I' => ⟨_,H,I',h⟩) hf)
def gNil : TGs:=fun vs σ H Q => vs = [] /\ Q σ H
def gCons (t : TG) (u : TGs) : TGs:=fun vs σ H Q => ∃ v r,vs = v :: r /\ t v σ H fun σ' H' => u r σ' H' Q
theorem pgs_nil : PGs X [] gNil:=by
 intro pins s σ H vs us Q I r h
 obtain ⟨e,h⟩:=h
 subst e
 cases r
 exact assignInOrder_nil ⟨σ,H,I,h⟩
theorem pgs_cons {e : Expr} {es : List Expr} {t : TG} {u : TGs} (h1 : PG X e t) (h2 : PGs X es u)
  (hs : (assignEach (e :: es) X.env).map (·.2) = assign e X.env :: (assignEach es X.env).map (·.2):=by rfl) : PGs X (e :: es) (gCons t u):=by
 intro pins s σ H vs us Q I r h
 obtain ⟨v,vr,e1,h⟩:=h
 subst e1
 cases r with
 | cons r rr =>
  rw [hs]
  refine assignInOrder_cons (thn (h1 pins s σ H _ _ _ I r h) fun _ s1 ⟨σ1,H1,I1,q1⟩ => ?_)
  exact h2 pins s1 σ1 H1 _ _ Q I1 rr q1
def gTup (K : PySem.W.Frag) (n : Nat) (t : TGs) : TG:=fun v σ H Q => ∃ a xs,v = .ref a /\ SqT K H a xs /\ xs.length = n /\ t xs σ H Q
theorem pg_tup {es : List Expr} {k : Nat} {t : TGs} {n : Nat} (hc : X.calm = true) (h : PGs X es t)
  (hn : (assignEach es X.env).length = n:=by rfl) (hst : (assignEach es X.env).findIdx? (·.1) = none:=by rfl) : PG X (.Tuple es k pos) (gTup X.K n t):=by
 intro pins s σ H v u Q I r hw
 obtain ⟨a,xs,e1,hq,hl,hw⟩:=hw
 subst e1
 cases r
 obtain ⟨its,rv,ht,hz⟩:=I.tuple hq
 refine assign_Tuple_tuple (I.ok.hd hc) ht (by simp [hn,← hl,rv.length]) hst fun h' hx => ?_
 have I1 : Inv X pins σ H { s with heap:=h' }:=I.kept (t':=s.toks) fun b o e => hx b o (Nat.ne_of_lt (Heap.lt_size e)) e
 exact h pins _ σ H xs _ Q I1 (by simpa using rv) hw
def gSub (to ti : TE) (t : TSet) : TG:=fun v σ H Q => to σ H fun o H1 => ti σ H1 fun i H2 => t o i v H2 fun H3 => Q σ H3
theorem pg_sub {o i : Expr} {to ti : TE} {t : TSet} (ho : PE X o to) (hi : PE X i ti) (hs : PSet X t)
  (ha : ∀ v,assign (.Subscript o i pos) X.env v = (do
   let ov ← holding [v] (eval o X.env)
   let iv ← holding [v,ov] (eval i X.env)
   standAt pos
   holding [v,ov,iv] (setItem ov iv v)
   release [v,ov,iv] []):=by intro _; rfl) : PG X (.Subscript o i pos) (gSub to ti t):=by
 intro pins s σ H v u Q I r h
 rw [ha]
 refine wpAny_bind (wpAny_holding (thn (ho pins s σ H _ I h) fun ov s1 ⟨x,H1,I1,r1,q1⟩ => ?_))
 refine wpAny_bind (wpAny_holding (thn (hi pins s1 σ H1 _ I1 q1) fun iv s2 ⟨y,H2,I2,r2,q2⟩ => ?_))
 refine wpAny_bind (wpAny_standAt (wpAny_bind (wpAny_holding (thn (hs pins s2 σ H2 x y v ov iv u _ I2 r1 r2 r q2) fun _ s3 ⟨H3,I3,q3⟩ => ?_))))
 exact wpAny_release ⟨σ,H3,I3,q3⟩
def tAsg (te : TE) (g : TG) : TS:=fun D σ H => te σ H fun x H1 => g x σ H1 D.nx
theorem ps_asg {tg e : Expr} {te : TE} {g : TG} (he : PE X e te) (hg : PG X tg g) (hs : swapsWithSole [tg] e pos.line X.env = pure false:=by rfl) (hw : swappedStores [tg] e X.env = pure none:=by rfl)
  (h1 : (assignEach [tg] X.env).map (·.2) = [assign tg X.env]:=by rfl) : PS X (.Assign [tg] e pos) (tAsg te g):=by
 intro pins s σ H D I h
 refine wpAny_Assign_stores (thn (he pins s σ H _ I h) fun v s1 ⟨x,H1,I1,r1,q1⟩ => ?_) hs hw
 rw [h1]
 exact thn (hg pins s1 σ H1 x v _ I1 r1 q1) fun _ s2 q => q
theorem ps_set {i : Nat} {x : Str} {e : Expr} {te : TE} {pos' : Pos} (hN : X.N.Nodup) (hi : X.N[i]? = some x) (hx : Loc X.env.scope x) (he : PE X e te) (hs : swapsWith e (some (.Name x pos')) pos.line X.env = pure false:=by rfl) (hf : X.fn x = true \/ X.env.scope.names.lookup x = some .local:=by first | exact .inl rfl | exact .inr rfl | assumption) :
  PS X (.Assign [.Name x pos'] e pos) (tAsg te (gName i)):=by
 intro pins s σ H D I h
 refine wpAny_Assign_Name (thn (he pins s σ H _ I h) fun v s1 ⟨y,H1,I1,r1,q1⟩ => ?_) hs
 exact store_ok I1 hN hi hx r1 (fun s2 I2 => ⟨_,H1,I2,q1⟩) hf
def tAug (i : Nat) (te : TE) (ti : TIp) : TS:=fun D σ H => ∃ x,σ[i]? = some (some x) /\ te σ H fun y H1 => ti x y H1 fun z H2 => D.nx (σ.set i (some z)) H2
def ipI (f : Int -> Int -> Int) : TIp:=fun x y H Q => ∃ i j,x = .int i /\ y = .int j /\ Q (.int (f i j)) H
end
section
variable {X : Cx} {pos : Pos}
end
structure It where
 go : Nat -> Hp -> Prop
 yld : Nat -> Hp -> V -> Hp -> Prop
 stop : Nat -> Hp -> Prop
def FpOk (X : Cx) (pins : List (Addr × Obj)) (H : Hp) (b : Addr) : Prop :=
 H b = none /\ b ≠ X.env.locals /\ b ∉ X.fs /\ (b ∈ X.ex \/ X.s₀.heap.objs.size <= b) /\ (∀ x c,X.env.cells.lookup x = some c -> c ≠ b) /\ ∀ p ∈ X.pn ++ pins,p.1 ≠ b
theorem Inv.fpOk {X : Cx} {pins : List (Addr × Obj)} {σ : St} {H H' : Hp} {s : Shared} {b : Addr} (I : Inv X pins σ H s) (hb : s.heap.objs.size <= b) (hn : H' b = none) : FpOk X pins H' b:=by
 refine ⟨hn,Nat.ne_of_gt (Nat.lt_of_lt_of_le I.lt hb),I.nofs hb,.inr (Nat.le_trans I.sz hb),fun x c e z => ?_,fun p hp z => ?_⟩
 ·obtain ⟨v,q⟩:=I.cell x c e
  exact absurd (Nat.lt_of_lt_of_le q.lt (by rw [z]; exact hb)) (Nat.lt_irrefl _)
 ·exact absurd (Nat.lt_of_lt_of_le (Heap.lt_size (I.pin p hp).1) (by rw [z]; exact hb)) (Nat.lt_irrefl _)
structure Turn (P : Program) (w : World) (K : PySem.W.Frag) (tg : Expr) (J : It) (fp : List Addr) (it : Addr) (tn : Nat -> Heap -> Prop) : Prop where
 mem : it ∈ fp
 obj : ∀ i h,tn i h -> ∀ b ∈ fp,∃ o,h.get? b = some o /\ ∀ v,o.data ≠ .cell v
 keep : ∀ i h h',tn i h -> (∀ b ∈ fp,∀ o,h.get? b = some o -> h'.get? b = some o) -> tn i h'
 item : ∀ (X : Cx),X.prog = P -> X.w = w -> X.K = K -> X.calm = true -> ∀ (i : Nat) (pins : List (Addr × Obj)) (s : Shared) (σ : St) (H : Hp) (E : Value -> Shared -> Prop),Inv X pins σ H s -> (∀ b ∈ fp,FpOk X pins H b) -> tn i s.heap -> J.go i H ->
  wpAny (model P w) X.A (pyNext (.ref it)) (fun r s1 => ∃ u,r = some u /\
   wpAny (model P w) X.A (letOwnedTupleGo tg (.ref it) u) (fun _ s2 => ∃ x H',Inv X pins σ H' s2 /\ RelV x u /\ J.yld i H x H' /\ tn (i + 1) s2.heap /\ ∀ b ∈ fp,H' b = none) E s1) E s
 done : ∀ (X : Cx),X.prog = P -> X.w = w -> X.K = K -> X.calm = true -> ∀ (i : Nat) (pins : List (Addr × Obj)) (s : Shared) (σ : St) (H : Hp) (E : Value -> Shared -> Prop),Inv X pins σ H s -> (∀ b ∈ fp,FpOk X pins H b) -> tn i s.heap -> J.stop i H ->
  wpAny (model P w) X.A (pyNext (.ref it)) (fun r s1 => r = none /\ Inv X pins σ H s1) E s
 self : ∀ (A : Around) (i : Nat) (s : Shared) (Q : Value -> Shared -> Prop) (E : Value -> Shared -> Prop),tn i s.heap -> Q (.ref it) s -> wpAny (model P w) A (pyIter (.ref it)) Q E s
abbrev TI:=St -> Hp -> (It -> Hp -> Prop) -> Prop
def PIE (X : Cx) (pins : List (Addr × Obj)) (σ : St) (tg : Expr) (R : It -> Hp -> Prop) (itv : Value) (s2 : Shared) : Prop :=
 ∃ (it : Addr) (fp : List Addr) (tn : Nat -> Heap -> Prop) (J : It) (H' : Hp),itv = .ref it /\ Inv X pins σ H' s2 /\ Turn X.prog X.w X.K tg J fp it tn /\ tn 0 s2.heap /\ (∀ b ∈ fp,FpOk X pins H' b) /\ R J H'
def PI (X : Cx) (tg iter : Expr) (wi : TI) : Prop :=
 ∀ (pins : List (Addr × Obj)) (s : Shared) (σ : St) (H : Hp) (R : It -> Hp -> Prop),Inv X pins σ H s -> wi σ H R ->
  wpAny (model X.prog X.w) X.A (eval iter X.env) (fun v s1 => wpAny (model X.prog X.w) X.A (pyIter v) (PIE X pins σ tg R) X.xe s1) X.xe s
theorem go_of {M : Model} {A : Around} {E : Value → Shared → Prop} {s : Shared} {tg : Expr} {it : Addr} {u : Value} {o : Obj} {n : String} {vs : Array Value} {Q : Unit → Shared → Prop} (ho : s.heap.get? it = some o) (hc : o.cls = .type n) (hd : o.data = .fields vs)
    (hn : ["enumerate", "zip", "dict_itemiterator", "dict_reverseitemiterator", "odict_iterator", "itertools.zip_longest", "itertools.pairwise"].contains n = false) (hQ : Q () s) : wpAny M A (letOwnedTupleGo tg (.ref it) u) Q E s := by
  unfold letOwnedTupleGo
  cases tg <;> first
    | exact wpAny_pure hQ
    | (cases u <;> first
        | exact wpAny_pure hQ
        | (refine wpAny_bind (wpAny_load ho ?_)
           rw [hc, hd]
           show wpAny M A (if (["enumerate", "zip", "dict_itemiterator", "dict_reverseitemiterator", "odict_iterator", "itertools.zip_longest", "itertools.pairwise"].contains n && vs[0]? == some (rawInt _)) = true then _ else _) Q E s
           rw [if_neg (by intro h; rw [hn, Bool.false_and] at h; cases h)]
           exact wpAny_pure hQ))
def Itl (K : PySem.W.Frag) (a : Addr) : It :=
 ⟨fun i H => ∃ xs x,SqL K H a xs /\ xs[i]? = some x,fun i H x H' => H' = H /\ ∀ xs,SqL K H a xs -> xs[i]? = some x,fun i H => ∃ xs,SqL K H a xs /\ xs.length <= i⟩
def Itt (K : PySem.W.Frag) (a : Addr) : It :=
 ⟨fun i H => ∃ xs x,SqT K H a xs /\ xs[i]? = some x,fun i H x H' => H' = H /\ ∀ xs,SqT K H a xs -> xs[i]? = some x,fun i H => ∃ xs,SqT K H a xs /\ xs.length <= i⟩
def Itr (lo : Int) (n : Nat) : It:=⟨fun i _ => i < n,fun i H x H' => H' = H /\ x = .int (lo + i),fun i _ => n <= i⟩
theorem turn_list {P : Program} {w : World} {K : PySem.W.Frag} {tg : Expr} (a it : Addr) : Turn P w K tg (Itl K a) [it] it (fun i h => h.IsListIter it a i) where
 mem:=by simp
 obj:=fun i h st b hb => by
  have e : b = it:=by simpa using hb
  subst e
  obtain ⟨o,e,c,d⟩:=st
  exact ⟨o,e,fun v z => by rw [d] at z; cases z⟩
 keep:=fun i h h' st k => st.at fun o e => k it (by simp) o e
 item:=by
  intro X hP hw hK hc i pins s σ H E I hf st hg
  subst hP hw hK
  obtain ⟨xs,x,hq,hx⟩:=hg
  obtain ⟨its,rv,p,hz⟩:=I.list hq
  obtain ⟨u,hu,ru⟩:=rv.get hx
  obtain ⟨f0,f1,f2,f3,f4,f5⟩:=hf it (by simp)
  refine wpAny_pyNext_list_item st p.isList (x:=u) (by simpa using hu) fun h' st' sb => ?_
  have I1 : Inv X pins σ H { s with heap:=h' }:=I.turned (t':=s.toks) (fun b o hb e => (sb.2 b hb).trans e) f0 f1 f3 f4 f5
  obtain ⟨o,e,c,d⟩:=id st'
  exact ⟨u,rfl,go_of (s:={ s with heap:=h' }) e c d (by decide) ⟨x,H,I1,ru,⟨rfl,fun ys hy => by rw [I.list_inj hy hq]; exact hx⟩,st',fun b hb => (hf b hb).1⟩⟩
 done:=by
  intro X hP hw hK hc i pins s σ H E I hf st hg
  subst hP hw hK
  obtain ⟨xs,hq,hx⟩:=hg
  obtain ⟨its,rv,p,hz⟩:=I.list hq
  obtain ⟨f0,f1,f2,f3,f4,f5⟩:=hf it (by simp)
  have hl:=rv.length
  exact wpAny_pyNext_list_end (I.ok.hd hc) st p.isList (by simp; omega) fun h' eb => ⟨rfl,I.turned (t':=s.toks) (fun b o hb e => eb b o hb e) f0 f1 f3 f4 f5⟩
 self:=fun _ _ _ _ _ st h => wpAny_pyIter_listiter st h
theorem turn_tuple {P : Program} {w : World} {K : PySem.W.Frag} {tg : Expr} (a it : Addr) : Turn P w K tg (Itt K a) [it] it (fun i h => h.IsTupleIter it a i) where
 mem:=by simp
 obj:=fun i h st b hb => by
  have e : b = it:=by simpa using hb
  subst e
  obtain ⟨o,e,c,d⟩:=st
  exact ⟨o,e,fun v z => by rw [d] at z; cases z⟩
 keep:=fun i h h' st k => st.at fun o e => k it (by simp) o e
 item:=by
  intro X hP hw hK hc i pins s σ H E I hf st hg
  subst hP hw hK
  obtain ⟨xs,x,hq,hx⟩:=hg
  obtain ⟨its,rv,p,hz⟩:=I.tuple hq
  obtain ⟨u,hu,ru⟩:=rv.get hx
  obtain ⟨f0,f1,f2,f3,f4,f5⟩:=hf it (by simp)
  refine wpAny_pyNext_tuple_item st (show s.heap.IsTuple a its.toArray from p) (x:=u) (by simpa using hu) fun h' st' sb => ?_
  have I1 : Inv X pins σ H { s with heap:=h' }:=I.turned (t':=s.toks) (fun b o hb e => (sb.2 b hb).trans e) f0 f1 f3 f4 f5
  obtain ⟨o,e,c,d⟩:=id st'
  exact ⟨u,rfl,go_of (s:={ s with heap:=h' }) e c d (by decide) ⟨x,H,I1,ru,⟨rfl,fun ys hy => by rw [I.tuple_inj hy hq]; exact hx⟩,st',fun b hb => (hf b hb).1⟩⟩
 done:=by
  intro X hP hw hK hc i pins s σ H E I hf st hg
  subst hP hw hK
  obtain ⟨xs,hq,hx⟩:=hg
  obtain ⟨its,rv,p,hz⟩:=I.tuple hq
  obtain ⟨f0,f1,f2,f3,f4,f5⟩:=hf it (by simp)
  have hl:=rv.length
  exact wpAny_pyNext_tuple_end (I.ok.hd hc) st (show s.heap.IsTuple a its.toArray from p) (by simp; omega) fun h' eb => ⟨rfl,I.turned (t':=s.toks) (fun b o hb e => eb b o hb e) f0 f1 f3 f4 f5⟩
 self:=fun _ _ _ _ _ st h => wpAny_pyIter_tupleiter st h
theorem turn_range {P : Program} {w : World} {K : PySem.W.Frag} {tg : Expr} (it : Addr) (lo : Int) (n : Nat) : Turn P w K tg (Itr lo n) [it] it (fun i h => IsRangeIter h it (lo + (i : Nat) * 1) ((n : Int) - (i : Nat)) 1) where
 mem:=by simp
 obj:=fun i h st b hb => by
  have e : b = it:=by simpa using hb
  subst e
  exact ⟨_,st,fun v z => by
   have z' : Data.fields _ = Data.cell v:=z
   cases z'⟩
 keep:=fun i h h' st k => k it (by simp) _ st
 item:=by
  intro X hP hw hK hc i pins s σ H E I hf st hg
  subst hP hw hK
  obtain ⟨f0,f1,f2,f3,f4,f5⟩:=hf it (by simp)
  have W:=Walks.range (prog:=X.prog) (w:=X.w) (I.ok.hd hc) it lo 1 n
  refine W.item i s _ _ hg st fun v h' tk hv st' kk => ?_
  obtain ⟨t,rfl⟩:=hv
  have I1 : Inv X pins σ H { s with heap:=h',toks:=tk }:=I.turned (fun b o hb e => kk b o (by simpa using hb) e) f0 f1 f3 f4 f5
  refine ⟨_,rfl,go_of (s:={ s with heap:=h',toks:=tk }) (n:="range_iterator") st' rfl rfl (by decide) ⟨.int (lo + i),H,I1,⟨t,?_⟩,⟨rfl,rfl⟩,st',fun b hb => (hf b hb).1⟩⟩
  rw [Int.mul_one]
 done:=by
  intro X hP hw hK hc i pins s σ H E I hf st hg
  subst hP hw hK
  obtain ⟨f0,f1,f2,f3,f4,f5⟩:=hf it (by simp)
  exact wpAny_pyNext_range_end (I.ok.hd hc) st (by have : n <= i:=hg; omega) fun h' eb => ⟨rfl,I.turned (t':=s.toks) (fun b o hb e => eb b o hb e) f0 f1 f3 f4 f5⟩
 self:=fun _ _ _ _ _ st h => wpAny_pyIter_rangeiter st h
end L2
namespace L2
open PySem PySem.Spec PyProof.Rows
section
variable {X : Cx} {tg : Expr}
def iList (K : PySem.W.Frag) (tl : TE) : TI:=fun σ H R => tl σ H fun x H1 => ∃ a,x = .ref a /\ (∃ xs,SqL K H1 a xs) /\ R (Itl K a) H1
def iTup (K : PySem.W.Frag) (tl : TE) : TI:=fun σ H R => tl σ H fun x H1 => ∃ a,x = .ref a /\ (∃ xs,SqT K H1 a xs) /\ R (Itt K a) H1
theorem pi_list {l : Expr} {tl : TE} (hl : PE X l tl) : PI X tg l (iList X.K tl):=by
 intro pins s σ H R I h
 refine thn (hl pins s σ H _ I h) fun v s1 ⟨x,H1,I1,r1,q1⟩ => ?_
 obtain ⟨a,e,⟨xs,hq⟩,q⟩:=q1
 subst e
 cases r1
 obtain ⟨its,rv,p,hz⟩:=I1.list hq
 refine wpAny_pyIter_list p.isList ?_
 refine ⟨s1.heap.objs.size,[s1.heap.objs.size],_,_,H1,rfl,I1.kept (t':=s1.toks) fun b o e => Heap.get?_push_of_some _ e,turn_list a _,⟨_,Heap.get?_push_size _ rfl,rfl,rfl⟩,fun b hb => ?_,q⟩
 have e : b = s1.heap.objs.size:=by simpa using hb
 subst e
 exact I1.fpOk (Nat.le_refl _) (I1.hok.fresh (Nat.le_refl _))
theorem pi_tup {l : Expr} {tl : TE} (hl : PE X l tl) : PI X tg l (iTup X.K tl):=by
 intro pins s σ H R I h
 refine thn (hl pins s σ H _ I h) fun v s1 ⟨x,H1,I1,r1,q1⟩ => ?_
 obtain ⟨a,e,⟨xs,hq⟩,q⟩:=q1
 subst e
 cases r1
 obtain ⟨its,rv,p,hz⟩:=I1.tuple hq
 refine wpAny_pyIter_tuple (show s1.heap.IsTuple a its.toArray from p) ?_
 refine ⟨s1.heap.objs.size,[s1.heap.objs.size],_,_,H1,rfl,I1.kept (t':=s1.toks) fun b o e => Heap.get?_push_of_some _ e,turn_tuple a _,⟨_,Heap.get?_push_size _ rfl,rfl,rfl⟩,fun b hb => ?_,q⟩
 have e : b = s1.heap.objs.size:=by simpa using hb
 subst e
 exact I1.fpOk (Nat.le_refl _) (I1.hok.fresh (Nat.le_refl _))
theorem range_it {pins : List (Addr × Obj)} {σ : St} {H : Hp} {s : Shared} {R : It -> Hp -> Prop} {E : Value -> Shared -> Prop} {lo hi : Int} {t u v : Tok} {tk : Nat} (I : Inv X pins σ H s) (h1 : -(2 ^ 62) <= lo) (h2 : lo < 2 ^ 62) (h3 : -(2 ^ 62) <= hi) (h4 : hi < 2 ^ 62)
  (q : R (Itr lo (hi - lo).toNat) H) : wpAny (model X.prog X.w) X.A (pyIter (.ref s.heap.objs.size)) (PIE X pins σ tg R) E { s with heap:=s.heap.push { cls:=.type "range",data:=.fields #[.int lo t,.int hi u,.int 1 v] },toks:=tk }:=by
 refine wpAny_pyIter_range (IsRange.new ..) (small_one h1 h2 h3 h4) ?_
 have I1 : Inv X pins σ H { s with heap:=s.heap.push { cls:=.type "range",data:=.fields #[.int lo t,.int hi u,.int 1 v] },toks:=tk }:=I.kept fun b o e => Heap.get?_push_of_some _ e
 refine ⟨(s.heap.push { cls:=.type "range",data:=.fields #[.int lo t,.int hi u,.int 1 v] }).objs.size,[(s.heap.push { cls:=.type "range",data:=.fields #[.int lo t,.int hi u,.int 1 v] }).objs.size],_,_,H,rfl,
  I1.kept (t':=tk) fun b o e => Heap.get?_push_of_some _ e,turn_range _ lo (hi - lo).toNat,?_,fun b hb => ?_,q⟩
 ·have e1 : lo + ((0 : Nat) : Int) * 1 = lo:=by simp
  have e2 : (((hi - lo).toNat : Nat) : Int) - ((0 : Nat) : Int) = Builtin.Range.rangeSize lo hi 1:=by rw [rangeSize_one]; split <;> omega
  show IsRangeIter _ _ (lo + ((0 : Nat) : Int) * 1) ((((hi - lo).toNat : Nat) : Int) - ((0 : Nat) : Int)) 1
  rw [e1,e2]
  exact Heap.get?_push_size _ rfl
 ·have e : b = (s.heap.push { cls:=.type "range",data:=.fields #[.int lo t,.int hi u,.int 1 v] }).objs.size:=by simpa using hb
  subst e
  exact I1.fpOk (Nat.le_refl _) (I1.hok.fresh (Nat.le_refl _))
def iRng1 (ta : TA) : TI:=fun σ H R => ta σ H fun vs H1 => ∃ j : Int,vs = [.int j] /\ -(2 ^ 62) <= j /\ j < 2 ^ 62 /\ R (Itr 0 j.toNat) H1
def iRng2 (ta : TA) : TI:=fun σ H R => ta σ H fun vs H1 => ∃ i j : Int,vs = [.int i,.int j] /\ (-(2 ^ 62) <= i /\ i < 2 ^ 62 /\ -(2 ^ 62) <= j /\ j < 2 ^ 62) /\ R (Itr i (j - i).toNat) H1
theorem pi_range1 {a : Expr} {ta : TA} {p pos : Pos} (hg : Gl X "range") (hm : X.mg "range" = none) (ha : PA X [a] ta) (hs : starEach [a] X.env = [(false,eval a X.env)]:=by rfl) : PI X tg (.Call (.Name "range" p) [a] [] pos) (iRng1 ta):=by
 intro pins s σ H R I h
 refine Call_ (ld_blt I hg hm boot_range (PyProof.Rows.callWith_type1 (thn (ha pos pins s σ H _ I h) fun us s1 ⟨vs,H1,I1,r1,q1⟩ => ?_) hs rfl))
 obtain ⟨j,e,q1,q2,q⟩:=q1
 subst e
 cases r1 with
 | cons r rr =>
  cases rr
  obtain ⟨t,rfl⟩:=r
  exact call_range_1 (range_it I1 (by omega) (by omega) q1 q2 (by simpa using q))
theorem pi_range2 {a b : Expr} {ta : TA} {p pos : Pos} (hg : Gl X "range") (hm : X.mg "range" = none) (ha : PA X [a,b] ta) (hs : starEach [a,b] X.env = [(false,eval a X.env),(false,eval b X.env)]:=by rfl) (hs2 : starEach [b] X.env = [(false,eval b X.env)]:=by rfl) :
  PI X tg (.Call (.Name "range" p) [a,b] [] pos) (iRng2 ta):=by
 intro pins s σ H R I h
 refine Call_ (ld_blt I hg hm boot_range (PyProof.Rows.callWith_type1 (thn (ha pos pins s σ H _ I h) fun us s1 ⟨vs,H1,I1,r1,q1⟩ => ?_) (by rw [hs,hs2]) (by rw [hs2]; rfl)))
 obtain ⟨i,j,e,⟨q1,q2,q3,q4⟩,q⟩:=q1
 subst e
 cases r1 with
 | cons r rr =>
  cases rr with
  | cons r' rr =>
   cases rr
   obtain ⟨t,rfl⟩:=r
   obtain ⟨t',rfl⟩:=r'
   exact call_range_2 (range_it I1 q1 q2 q3 q4 q)
def tFor (wi : TI) (g : TG) (tb : TS) : TS:=fun D σ H => wi σ H fun J H1 => ∃ W : Nat -> Nat -> St -> Hp -> Prop,(∃ m,W 0 m σ H1) /\ ∀ i m σ H,W i m σ H ->
 (J.stop i H /\ D.nx σ H) \/ (J.go i H /\ ∃ N : St -> Hp -> Prop,(∀ σ' H',N σ' H' -> ∃ m',m' < m /\ W (i + 1) m' σ' H') /\ ∀ x H',J.yld i H x H' -> g x σ H' fun σ2 H2 => tb { D with nx:=N,ct:=N,bk:=D.nx } σ2 H2)
def pinsAt (fp : List Addr) (h : Heap) : List (Addr × Obj):=fp.filterMap fun b => (h.get? b).map fun o => (b,o)
theorem mem_pinsAt {fp : List Addr} {h : Heap} {b : Addr} {o : Obj} (hb : b ∈ fp) (e : h.get? b = some o) : (b,o) ∈ pinsAt fp h:=List.mem_filterMap.mpr ⟨b,hb,by rw [e]; rfl⟩
theorem of_pinsAt {fp : List Addr} {h : Heap} {p : Addr × Obj} (hp : p ∈ pinsAt fp h) : p.1 ∈ fp /\ h.get? p.1 = some p.2:=by
 obtain ⟨b,hb,e⟩:=List.mem_filterMap.mp hp
 cases q : h.get? b with
 | none => rw [q] at e; cases e
 | some o =>
  rw [q] at e
  have e' : (b,o) = p:=Option.some.inj e
  subst e'
  exact ⟨hb,q⟩
theorem Inv.pinned {pins : List (Addr × Obj)} {σ : St} {H : Hp} {s : Shared} {fp : List Addr} (I : Inv X pins σ H s) (hf : ∀ b ∈ fp,FpOk X pins H b) (ho : ∀ b ∈ fp,∃ o,s.heap.get? b = some o /\ ∀ v,o.data ≠ .cell v) : Inv X (pins ++ pinsAt fp s.heap) σ H s :=
 I.pins_of fun p hp => (List.mem_append.mp hp).elim (fun z => I.pin p (List.mem_append_right _ z)) fun z => by
  obtain ⟨hb,e⟩:=of_pinsAt z
  obtain ⟨f0,f1,f2,_⟩:=hf p.1 hb
  obtain ⟨o,e',d⟩:=ho p.1 hb
  rw [e] at e'; cases e'
  exact ⟨e,f0,f1,f2,d⟩
theorem Inv.unpinned {pins pl : List (Addr × Obj)} {σ : St} {H : Hp} {s : Shared} (I : Inv X (pins ++ pl) σ H s) : Inv X pins σ H s:=I.pins_of fun p hp => I.pin p (List.mem_append_right _ (List.mem_append_left _ hp))
theorem ps_for {iter : Expr} {body : List Stmt} {wi : TI} {g : TG} {tb : TS} {pos : Pos} (hp : PassesOwn (model X.prog X.w) X.A X.env X.xe) (hc : X.calm = true) (hi : PI X tg iter wi) (hg : PG X tg g) (hb : PSs X body tb)
  (hs : ∀ x,foldedSetIterable iter X.env x = pure x:=by intro _; rfl) : PS X (.For tg iter body [] pos) (tFor wi g tb):=by
 intro pins s σ H D I h
 refine wpAny_For (thn (hi pins s σ H _ I h) fun v s1 h1 => thn h1 fun itv s2 h2 => ?_) hs
 obtain ⟨it,fp,tn,J,H2,e,I2,T,st2,f2,W,⟨m0,w0⟩,turn⟩:=h2
 subst e
 -- what stays true of the iterator's objects through the loop
 have stat : ∀ {H' : Hp},(∀ b ∈ fp,H' b = none) -> ∀ b ∈ fp,FpOk X pins H' b:=fun hn b hb => ⟨hn b hb,(f2 b hb).2⟩
 refine codeAny_forLoop_any (fun n s' => ∃ i σ' H',Inv X pins σ' H' s' /\ tn i s'.heap /\ (∀ b ∈ fp,H' b = none) /\ W i n σ' H') ?_ m0 ⟨0,σ,H2,I2,st2,fun b hb => (f2 b hb).1,w0⟩
 rintro n s3 ⟨i,σ3,H3,I3,st3,fr3,w3⟩
 rcases turn i n σ3 H3 w3 with ⟨stop,qn⟩ | ⟨go,N,hN,step⟩
 ·refine wpAny_passesOwn hp (thn (T.done X rfl rfl rfl hc i pins s3 σ3 H3 X.xe I3 (stat fr3) st3 stop) fun r s4 ⟨hr,I4⟩ => ?_)
  subst hr
  exact wpAny_execs_nil ⟨σ3,H3,I4,qn⟩
 ·refine wpAny_passesOwn hp (thn (T.item X rfl rfl rfl hc i pins s3 σ3 H3 X.xe I3 (stat fr3) st3 go) fun r s4 ⟨u,hr,h4⟩ => ?_)
  subst hr
  refine wpAny_passesOwn hp (thn h4 fun _ s5 ⟨x,H5,I5,r5,y5,st5,fr5⟩ => ?_)
  have I5':=I5.pinned (stat fr5) (T.obj _ _ st5)
  refine wpAny_passesOwn hp (thn (hg _ s5 σ3 H5 x u _ I5' r5 (step x H5 y5)) fun _ s6 ⟨σ6,H6,I6,q6⟩ => ?_)
  refine wpAny_passesOwn hp (thn (hb _ s6 σ6 H6 _ I6 q6) fun f s7 q7 => ?_)
  have again : ∀ {σ7 : St} {H7 : Hp},Inv X (pins ++ pinsAt fp s5.heap) σ7 H7 s7 -> N σ7 H7 -> ∃ m,m < n /\ ∃ i σ' H',Inv X pins σ' H' s7 /\ tn i s7.heap /\ (∀ b ∈ fp,H' b = none) /\ W i m σ' H':=fun {σ7 H7} I7 n7 => by
   obtain ⟨m',hm,w7⟩:=hN σ7 H7 n7
   refine ⟨m',hm,i + 1,σ7,H7,I7.unpinned,T.keep _ _ _ st5 fun b hb o e => (I7.pin (b,o) (List.mem_append_right _ (List.mem_append_right _ (mem_pinsAt hb e)))).1,fun b hb => ?_,w7⟩
   obtain ⟨o,e,d⟩:=T.obj _ _ st5 b hb
   exact (I7.pin (b,o) (List.mem_append_right _ (List.mem_append_right _ (mem_pinsAt hb e)))).2.1
  cases f with
  | next => obtain ⟨σ7,H7,I7,n7⟩:=q7; exact again I7 n7
  | cont => obtain ⟨σ7,H7,I7,n7⟩:=q7; exact again I7 n7
  | brk => obtain ⟨σ7,H7,I7,q7⟩:=q7; exact ⟨σ7,H7,I7.unpinned,q7⟩
  | ret v => obtain ⟨x7,σ7,H7,I7,r7,q7⟩:=q7; exact ⟨x7,σ7,H7,I7.unpinned,r7,q7⟩
end
theorem for_list {K : PySem.W.Frag} {a : Addr} {xs : List V} {g : TG} {tb : TS} {D : Ends} {σ : St} {H : Hp} (Pv : Nat -> St -> Hp -> Prop) (h0 : Pv 0 σ H) (hl : ∀ i σ H,i <= xs.length -> Pv i σ H -> SqL K H a xs)
  (hs : ∀ i x σ H,xs[i]? = some x -> Pv i σ H -> g x σ H fun σ2 H2 => tb { D with nx:=Pv (i + 1),ct:=Pv (i + 1),bk:=D.nx } σ2 H2) (hd : ∀ σ H,Pv xs.length σ H -> D.nx σ H) :
  ∃ W : Nat -> Nat -> St -> Hp -> Prop,(∃ m,W 0 m σ H) /\ ∀ i m σ H,W i m σ H ->
   ((Itl K a).stop i H /\ D.nx σ H) \/ ((Itl K a).go i H /\ ∃ N : St -> Hp -> Prop,(∀ σ' H',N σ' H' -> ∃ m',m' < m /\ W (i + 1) m' σ' H') /\ ∀ x H',(Itl K a).yld i H x H' -> g x σ H' fun σ2 H2 => tb { D with nx:=N,ct:=N,bk:=D.nx } σ2 H2):=by
 refine ⟨fun i m σ H => m = xs.length - i /\ i <= xs.length /\ Pv i σ H,⟨xs.length,by simp,Nat.zero_le _,h0⟩,?_⟩
 rintro i m σ H ⟨rfl,hi,p⟩
 have q:=hl i σ H hi p
 by_cases hlt : i < xs.length
 ·refine .inr ⟨⟨xs,xs[i],q,by simp [hlt]⟩,Pv (i + 1),fun σ' H' p' => ⟨xs.length - (i + 1),by omega,rfl,hlt,p'⟩,fun x H' y => ?_⟩
  obtain ⟨e,y⟩:=y
  subst e
  exact hs i x σ _ (y xs q) p
 ·have e : i = xs.length:=by omega
  subst e
  exact .inl ⟨⟨xs,q,Nat.le_refl _⟩,hd σ H p⟩
theorem for_tup {K : PySem.W.Frag} {a : Addr} {xs : List V} {g : TG} {tb : TS} {D : Ends} {σ : St} {H : Hp} (Pv : Nat -> St -> Hp -> Prop) (h0 : Pv 0 σ H) (hl : ∀ i σ H,i <= xs.length -> Pv i σ H -> SqT K H a xs)
  (hs : ∀ i x σ H,xs[i]? = some x -> Pv i σ H -> g x σ H fun σ2 H2 => tb { D with nx:=Pv (i + 1),ct:=Pv (i + 1),bk:=D.nx } σ2 H2) (hd : ∀ σ H,Pv xs.length σ H -> D.nx σ H) :
  ∃ W : Nat -> Nat -> St -> Hp -> Prop,(∃ m,W 0 m σ H) /\ ∀ i m σ H,W i m σ H ->
   ((Itt K a).stop i H /\ D.nx σ H) \/ ((Itt K a).go i H /\ ∃ N : St -> Hp -> Prop,(∀ σ' H',N σ' H' -> ∃ m',m' < m /\ W (i + 1) m' σ' H') /\ ∀ x H',(Itt K a).yld i H x H' -> g x σ H' fun σ2 H2 => tb { D with nx:=N,ct:=N,bk:=D.nx } σ2 H2):=by
 refine ⟨fun i m σ H => m = xs.length - i /\ i <= xs.length /\ Pv i σ H,⟨xs.length,by simp,Nat.zero_le _,h0⟩,?_⟩
 rintro i m σ H ⟨rfl,hi,p⟩
 have q:=hl i σ H hi p
 by_cases hlt : i < xs.length
 ·refine .inr ⟨⟨xs,xs[i],q,by simp [hlt]⟩,Pv (i + 1),fun σ' H' p' => ⟨xs.length - (i + 1),by omega,rfl,hlt,p'⟩,fun x H' y => ?_⟩
  obtain ⟨e,y⟩:=y
  subst e
  exact hs i x σ _ (y xs q) p
 ·have e : i = xs.length:=by omega
  subst e
  exact .inl ⟨⟨xs,q,Nat.le_refl _⟩,hd σ H p⟩
theorem for_range {lo : Int} {n : Nat} {g : TG} {tb : TS} {D : Ends} {σ : St} {H : Hp} (Pv : Nat -> St -> Hp -> Prop) (h0 : Pv 0 σ H)
  (hs : ∀ i σ H,i < n -> Pv i σ H -> g (.int (lo + i)) σ H fun σ2 H2 => tb { D with nx:=Pv (i + 1),ct:=Pv (i + 1),bk:=D.nx } σ2 H2) (hd : ∀ σ H,Pv n σ H -> D.nx σ H) :
  ∃ W : Nat -> Nat -> St -> Hp -> Prop,(∃ m,W 0 m σ H) /\ ∀ i m σ H,W i m σ H ->
   ((Itr lo n).stop i H /\ D.nx σ H) \/ ((Itr lo n).go i H /\ ∃ N : St -> Hp -> Prop,(∀ σ' H',N σ' H' -> ∃ m',m' < m /\ W (i + 1) m' σ' H') /\ ∀ x H',(Itr lo n).yld i H x H' -> g x σ H' fun σ2 H2 => tb { D with nx:=N,ct:=N,bk:=D.nx } σ2 H2):=by
 refine ⟨fun i m σ H => m = n - i /\ i <= n /\ Pv i σ H,⟨n,by simp,Nat.zero_le _,h0⟩,?_⟩
 rintro i m σ H ⟨rfl,hi,p⟩
 by_cases hlt : i < n
 ·refine .inr ⟨hlt,Pv (i + 1),fun σ' H' p' => ⟨n - (i + 1),by omega,rfl,hlt,p'⟩,fun x H' y => ?_⟩
  obtain ⟨e,y⟩:=y
  subst e y
  exact hs i σ _ hlt p
 ·have e : i = n:=by omega
  subst e
  exact .inl ⟨Nat.le_refl _,hd σ H p⟩
end L2
namespace L2
open PySem PySem.Spec PyProof.Rows
abbrev R2:=V -> V -> Hp -> VK -> Prop
def OpR (X : Cx) (f : Value -> Value -> Sem Value) (r : R2) : Prop :=
 ∀ (pins : List (Addr × Obj)) (s : Shared) (σ : St) (H : Hp) (x y : V) (v u : Value) (Q : VK),Inv X pins σ H s -> RelV x v -> RelV y u -> r x y H Q ->
  wpAny (model X.prog X.w) X.A (f v u) (EP X pins σ Q) X.xe s
def UnR (X : Cx) (f : Value -> Sem Value) (r : V -> Hp -> VK -> Prop) : Prop :=
 ∀ (pins : List (Addr × Obj)) (s : Shared) (σ : St) (H : Hp) (x : V) (v : Value) (Q : VK),Inv X pins σ H s -> RelV x v -> r x H Q ->
  wpAny (model X.prog X.w) X.A (f v) (EP X pins σ Q) X.xe s
def CallR (X : Cx) (f : Value) (r : List V -> Hp -> VK -> Prop) : Prop :=
 ∀ (pins : List (Addr × Obj)) (s : Shared) (σ : St) (H : Hp) (xs : List V) (us : List Value) (Q : VK),Inv X pins σ H s -> Vals xs us -> r xs H Q ->
  wpAny (model X.prog X.w) X.A (call f us) (EP X pins σ Q) X.xe s
def tOp (r : R2) (ta tb : TE) : TE:=fun σ H Q => ta σ H fun x H1 => tb σ H1 fun y H2 => r x y H2 Q
def tUn (r : V -> Hp -> VK -> Prop) (ta : TE) : TE:=fun σ H Q => ta σ H fun x H1 => r x H1 Q
def rI (C : Int -> Int -> Prop) (g : Int -> Int -> V) : R2:=fun x y H Q => ∃ i j,x = .int i /\ y = .int j /\ C i j /\ Q (g i j) H
def rI0 (g : Int -> Int -> V) : R2:=fun x y H Q => ∃ i j,x = .int i /\ y = .int j /\ Q (g i j) H
def rU (g : Int -> V) : V -> Hp -> VK -> Prop:=fun x H Q => ∃ i,x = .int i /\ Q (g i) H
section
variable {X : Cx} {a b c : Expr} {ta tb tc : TE} {pos : Pos}
theorem binT (ha : PE X a ta) (hb : PE X b tb) {pins : List (Addr × Obj)} {s : Shared} {σ : St} {H : Hp} {R : V -> V -> Hp -> Prop} (I : Inv X pins σ H s)
  (h : ta σ H fun x H1 => tb σ H1 fun y H2 => R x y H2) {Q : Value -> Shared -> Prop} {f : Value -> Value -> Sem Value}
  (hf : ∀ v u s2 x y H2,Inv X pins σ H2 s2 -> RelV x v -> RelV y u -> R x y H2 -> wpAny (model X.prog X.w) X.A (f v u) Q X.xe s2) :
  wpAny (model X.prog X.w) X.A (eval a X.env) (fun v s₁ => wpAny (model X.prog X.w) X.A (eval b X.env) (fun u s₂ => wpAny (model X.prog X.w) X.A (f v u) Q X.xe s₂) X.xe s₁) X.xe s:=by
 refine thn (ha pins s σ H _ I h) fun v s1 ⟨x,H1,I1,r1,q1⟩ => ?_
 refine thn (hb pins s1 σ H1 _ I1 q1) fun u s2 ⟨y,H2,I2,r2,q2⟩ => ?_
 exact hf v u s2 x y H2 I2 r1 r2 q2
theorem pe_op {op : Operator} {r : R2} (ho : OpR X (binaryOp op) r) (ha : PE X a ta) (hb : PE X b tb) : PE X (.BinOp a op b pos) (tOp r ta tb):=by
 intro pins s σ H Q I h
 exact wpAny_BinOp (binT ha hb I h fun v u s2 x y H2 I2 rx ry q => ho pins s2 σ H2 x y v u Q I2 rx ry q)
theorem pe_un {op : UnaryOp} {r : V -> Hp -> VK -> Prop} (ho : UnR X (unaryOp op) r) (ha : PE X a ta) : PE X (.UnaryOp op a pos) (tUn r ta):=by
 intro pins s σ H Q I h
 exact UnaryOp_ (thn (ha pins s σ H _ I h) fun v s1 ⟨x,H1,I1,r1,q1⟩ => ho pins s1 σ H1 x v Q I1 r1 q1)
theorem opI {f : Value -> Value -> Sem Value} {C : Int -> Int -> Prop} {g : Int -> Int -> Int}
  (rule : ∀ (i j : Int) (t u : Tok) (s : Shared) (Q : Value -> Shared -> Prop) (E : Value -> Shared -> Prop),C i j -> Q (.int (g i j) s.toks) { s with toks:=s.toks + 1 } -> wpAny (model X.prog X.w) X.A (f (.int i t) (.int j u)) Q E s) :
  OpR X f (rI C fun i j => .int (g i j)):=by
 intro pins s σ H x y v u Q I rx ry h
 obtain ⟨i,j,rfl,rfl,hc,q⟩:=h
 obtain ⟨t,rfl⟩:=rx
 obtain ⟨t',rfl⟩:=ry
 exact rule i j t t' s _ _ hc ⟨.int (g i j),H,I.tok _,⟨_,rfl⟩,q⟩
theorem opI0 {f : Value -> Value -> Sem Value} {g : Int -> Int -> Int}
  (rule : ∀ (i j : Int) (t u : Tok) (s : Shared) (Q : Value -> Shared -> Prop) (E : Value -> Shared -> Prop),Q (.int (g i j) s.toks) { s with toks:=s.toks + 1 } -> wpAny (model X.prog X.w) X.A (f (.int i t) (.int j u)) Q E s) :
  OpR X f (rI0 fun i j => .int (g i j)):=by
 intro pins s σ H x y v u Q I rx ry h
 obtain ⟨i,j,rfl,rfl,q⟩:=h
 obtain ⟨t,rfl⟩:=rx
 obtain ⟨t',rfl⟩:=ry
 exact rule i j t t' s _ _ ⟨.int (g i j),H,I.tok _,⟨_,rfl⟩,q⟩
theorem opB0 {f : Value -> Value -> Sem Value} {g : Int -> Int -> Bool}
  (rule : ∀ (i j : Int) (t u : Tok) (s : Shared) (Q : Value -> Shared -> Prop) (E : Value -> Shared -> Prop),Q (.bool (g i j)) s -> wpAny (model X.prog X.w) X.A (f (.int i t) (.int j u)) Q E s) :
  OpR X f (rI0 fun i j => .bl (g i j)):=by
 intro pins s σ H x y v u Q I rx ry h
 obtain ⟨i,j,rfl,rfl,q⟩:=h
 obtain ⟨t,rfl⟩:=rx
 obtain ⟨t',rfl⟩:=ry
 exact rule i j t t' s _ _ ⟨.bl (g i j),H,I,rfl,q⟩
theorem two_pow_nn (k : Nat) : (0 : Int) <= 2 ^ k:=by
 rw [two_pow_cast]
 exact Int.natCast_nonneg _
theorem op_add : OpR X (binaryOp .Add) (rI0 fun i j => .int (i + j)):=opI0 fun _ _ _ _ _ _ _ q => add_int q
theorem op_sub : OpR X (binaryOp .Sub) (rI0 fun i j => .int (i - j)):=opI0 fun _ _ _ _ _ _ _ q => sub_int q
theorem op_mod : OpR X (binaryOp .Mod) (rI (fun _ j => 0 < j) fun i j => .int (i % j)):=opI fun i j _ _ _ _ _ hc q => by
 have h1 : (0 : Int) < j:=hc
 exact mod_int' (by omega) (by rw [Int.fmod_eq_emod_of_nonneg i (by omega)]; exact q)
theorem op_shr : OpR X (binaryOp .RShift) (rI (fun _ j => 0 <= j) fun i j => .int (i / 2 ^ j.toNat)):=opI fun i j _ _ _ _ _ hc q =>
 rshift_int hc (by rw [Int.fdiv_eq_ediv_of_nonneg i (two_pow_nn _)]; exact q)
theorem op_and : OpR X (binaryOp .BitAnd) (rI0 fun i j => .int (Builtin.bitAnd i j)):=opI0 fun _ _ _ _ _ _ _ q => and_int q
theorem op_or : OpR X (binaryOp .BitOr) (rI0 fun i j => .int (Builtin.bitOr i j)):=opI0 fun _ _ _ _ _ _ _ q => or_int q
theorem unI {f : Value -> Sem Value} {g : Int -> Int}
  (rule : ∀ (i : Int) (t : Tok) (s : Shared) (Q : Value -> Shared -> Prop) (E : Value -> Shared -> Prop),Q (.int (g i) s.toks) { s with toks:=s.toks + 1 } -> wpAny (model X.prog X.w) X.A (f (.int i t)) Q E s) :
  UnR X f (rU fun i => .int (g i)):=by
 intro pins s σ H x v Q I rx h
 obtain ⟨i,rfl,q⟩:=h
 obtain ⟨t,rfl⟩:=rx
 exact rule i t s _ _ ⟨.int (g i),H,I.tok _,⟨_,rfl⟩,q⟩
theorem un_neg : UnR X (unaryOp .USub) (rU fun i => .int (-i)):=unI fun _ _ _ _ _ q => neg_int q
theorem un_inv : UnR X (unaryOp .Invert) (rU fun i => .int (Builtin.bitNot i)):=unI fun _ _ _ _ _ q => invert_int q
end
def scal : V -> V -> Bool
 | .non,.non => true | .non,.int _ => true | .int _,.non => true | .non,.bl _ => true | .bl _,.non => true | .non,.str _ => true | .str _,.non => true
 | .int _,.int _ => true | .bl _,.bl _ => true | .str _,.str _ => true | .byt _,.byt _ => true
 | .int _,.str _ => true | .str _,.int _ => true | .bl _,.str _ => true | .str _,.bl _ => true
 | _,_ => false
def rEq : R2:=fun x y H Q => scal x y = true /\ Q (.bl (decide (x = y))) H
def rNe : R2:=fun x y H Q => scal x y = true /\ Q (.bl (!decide (x = y))) H
theorem dec_int {i j : Int} : decide (V.int i = V.int j) = (i == j):=by
 rw [Bool.eq_iff_iff]
 simp
theorem dec_bl {i j : Bool} : decide (V.bl i = V.bl j) = (i == j):=by
 rw [Bool.eq_iff_iff]
 simp
theorem dec_str {i j : Str} : decide (V.str i = V.str j) = (i == j):=by
 rw [Bool.eq_iff_iff]
 simp
theorem dec_byt {i j : Array UInt8} : decide (V.byt i = V.byt j) = (i.toList == j.toList):=by
 rw [Bool.eq_iff_iff]
 cases i
 cases j
 simp
section
variable {X : Cx} {a b c : Expr} {ta tb tc : TE} {pos : Pos}
theorem fin_bl {pins : List (Addr × Obj)} {σ : St} {H : Hp} {s : Shared} {Q : VK} {k k' : Bool} (I : Inv X pins σ H s) (q : Q (.bl k) H) (e : k = k') : EP X pins σ Q (.bool k') s:=by
 subst e
 exact ⟨.bl k,H,I,rfl,q⟩
theorem op_eq : OpR X (compareOp .Eq) rEq:=by
 intro pins s σ H x y v u Q I rx ry h
 obtain ⟨hs,q⟩:=h
 cases x with
 | non =>
  cases rx
  cases y with
  | non => cases ry; exact PySem.EqNone.eq_none_none (fin_bl I q (by simp))
  | bl j => cases ry; exact PySem.EqNone.eq_none_bool (fin_bl I q (by simp))
  | int j => obtain ⟨t',rfl⟩:=ry; exact PySem.EqNone.eq_none_int (fin_bl I q (by simp))
  | str j => obtain ⟨t',rfl⟩:=ry; exact PySem.EqNone.eq_none_str (fin_bl I q (by simp))
  | _ => exact absurd (show false = true from hs) Bool.false_ne_true
 | bl i =>
  cases rx
  cases y with
  | non => cases ry; exact PySem.EqNone.eq_bool_none (fin_bl I q (by simp))
  | bl j => cases ry; exact eq_bool (fin_bl I q dec_bl)
  | str j => obtain ⟨t',rfl⟩:=ry; exact PySem.EqMixed.eq_bool_str (fin_bl I q (by simp))
  | _ => exact absurd (show false = true from hs) Bool.false_ne_true
 | int i =>
  obtain ⟨t,rfl⟩:=rx
  cases y with
  | non => cases ry; exact PySem.EqNone.eq_int_none (fin_bl I q (by simp))
  | int j => obtain ⟨t',rfl⟩:=ry; exact eq_int (fin_bl I q dec_int)
  | str j => obtain ⟨t',rfl⟩:=ry; exact PySem.EqMixed.eq_int_str (fin_bl I q (by simp))
  | _ => exact absurd (show false = true from hs) Bool.false_ne_true
 | str i =>
  obtain ⟨t,rfl⟩:=rx
  cases y with
  | non => cases ry; exact PySem.EqNone.eq_str_none (fin_bl I q (by simp))
  | bl j => cases ry; exact PySem.EqMixed.eq_str_bool (fin_bl I q (by simp))
  | int j => obtain ⟨t',rfl⟩:=ry; exact PySem.EqMixed.eq_str_int (fin_bl I q (by simp))
  | str j => obtain ⟨t',rfl⟩:=ry; exact eq_str (fin_bl I q dec_str)
  | _ => exact absurd (show false = true from hs) Bool.false_ne_true
 | byt i =>
  obtain ⟨t,rfl⟩:=rx
  cases y with
  | byt j => obtain ⟨t',rfl⟩:=ry; exact PySem.W.eq_bytes (fin_bl I q dec_byt)
  | _ => exact absurd (show false = true from hs) Bool.false_ne_true
 | _ => cases y <;> exact absurd (show false = true from hs) Bool.false_ne_true
theorem op_ne : OpR X (compareOp .NotEq) rNe:=by
 intro pins s σ H x y v u Q I rx ry h
 obtain ⟨hs,q⟩:=h
 cases x with
 | non =>
  cases rx
  cases y with
  | non => cases ry; exact PySem.EqNone.ne_none_none (fin_bl I q (by simp))
  | bl j => cases ry; exact PySem.EqNone.ne_none_bool (fin_bl I q (by simp))
  | int j => obtain ⟨t',rfl⟩:=ry; exact PySem.EqNone.ne_none_int (fin_bl I q (by simp))
  | str j => obtain ⟨t',rfl⟩:=ry; exact PySem.EqNone.ne_none_str (fin_bl I q (by simp))
  | _ => exact absurd (show false = true from hs) Bool.false_ne_true
 | bl i =>
  cases rx
  cases y with
  | non => cases ry; exact PySem.EqNone.ne_bool_none (fin_bl I q (by simp))
  | bl j => cases ry; exact ne_bool (fin_bl I q (congrArg not dec_bl))
  | str j => obtain ⟨t',rfl⟩:=ry; exact PySem.EqMixed.ne_bool_str (fin_bl I q (by simp))
  | _ => exact absurd (show false = true from hs) Bool.false_ne_true
 | int i =>
  obtain ⟨t,rfl⟩:=rx
  cases y with
  | non => cases ry; exact PySem.EqNone.ne_int_none (fin_bl I q (by simp))
  | int j => obtain ⟨t',rfl⟩:=ry; exact ne_int (fin_bl I q (congrArg not dec_int))
  | str j => obtain ⟨t',rfl⟩:=ry; exact PySem.EqMixed.ne_int_str (fin_bl I q (by simp))
  | _ => exact absurd (show false = true from hs) Bool.false_ne_true
 | str i =>
  obtain ⟨t,rfl⟩:=rx
  cases y with
  | non => cases ry; exact PySem.EqNone.ne_str_none (fin_bl I q (by simp))
  | bl j => cases ry; exact PySem.EqMixed.ne_str_bool (fin_bl I q (by simp))
  | int j => obtain ⟨t',rfl⟩:=ry; exact PySem.EqMixed.ne_str_int (fin_bl I q (by simp))
  | str j => obtain ⟨t',rfl⟩:=ry; exact ne_str (fin_bl I q (congrArg not dec_str))
  | _ => exact absurd (show false = true from hs) Bool.false_ne_true
 | byt i =>
  obtain ⟨t,rfl⟩:=rx
  cases y with
  | byt j => obtain ⟨t',rfl⟩:=ry; exact PySem.W.ne_bytes (fin_bl I q (congrArg not dec_byt))
  | _ => exact absurd (show false = true from hs) Bool.false_ne_true
 | _ => cases y <;> exact absurd (show false = true from hs) Bool.false_ne_true
theorem op_lt : OpR X (compareOp .Lt) (rI0 fun i j => .bl (decide (i < j))):=opB0 fun _ _ _ _ _ _ _ q => lt_int q
theorem op_le : OpR X (compareOp .LtE) (rI0 fun i j => .bl (decide (i <= j))):=opB0 fun _ _ _ _ _ _ _ q => le_int q
theorem op_gt : OpR X (compareOp .Gt) (rI0 fun i j => .bl (decide (j < i))):=opB0 fun _ _ _ _ _ _ _ q => gt_int q
theorem op_ge : OpR X (compareOp .GtE) (rI0 fun i j => .bl (decide (j <= i))):=opB0 fun _ _ _ _ _ _ _ q => ge_int q
theorem nomark (b : Expr) {op : CmpOp} (h : op ≠ .In:=by decide) (h2 : op ≠ .NotIn:=by decide) : behindInMarks op b = false:=by
 have e1 : (op == CmpOp.In) = false:=by cases op <;> first | rfl | exact absurd rfl h
 have e2 : (op == CmpOp.NotIn) = false:=by cases op <;> first | rfl | exact absurd rfl h2
 cases b <;> simp [behindInMarks,e1,e2]
theorem pe_cmpR {op : CmpOp} {r : R2} (ho : OpR X (compareOp op) r) (ha : PE X a ta) (hb : PE X b tb) (hm : behindInMarks op b = false) : PE X (.Compare a [op] [b] pos) (tOp r ta tb):=by
 intro pins s σ H Q I h
 exact wpAny_Compare1 (binT ha hb I h fun v u s2 x y H2 I2 rx ry q => ho pins s2 σ H2 x y v u Q I2 rx ry q) hm
def tTest (t : TE) : TT:=fun σ H Q => t σ H fun x H' => ∃ k,x = .bl k /\ Q k H'
theorem pt_cmpR {op : CmpOp} {r : R2} (ho : OpR X (compareOp op) r) (ha : PE X a ta) (hb : PE X b tb) (hm : behindInMarks op b = false) : PT X (.Compare a [op] [b] pos) (tTest (tOp r ta tb)):=by
 intro pins s σ H Q I h
 refine wpAny_isTrue_Compare1 (thn (ha pins s σ H _ I h) fun v s1 ⟨x,H1,I1,r1,q1⟩ => thn (hb pins s1 σ H1 _ I1 q1) fun u s2 ⟨y,H2,I2,r2,q2⟩ =>
  thn (ho pins s2 σ H2 x y v u _ I2 r1 r2 q2) fun c s3 ⟨z,H3,I3,r3,k,e,q3⟩ => ?_) hm
 subst e
 cases r3
 exact wpAny_truthy_bool ⟨H3,I3,q3⟩
def tChain (r r' : R2) (ta tb tc : TE) : TE:=fun σ H Q => ta σ H fun x H1 => tb σ H1 fun y H2 => r x y H2 fun z H3 => ∃ k,z = .bl k /\
 (if k = true then tc σ H3 fun w' H4 => r' y w' H4 Q else Q (.bl false) H3)
theorem pt_chain {op op' : CmpOp} {r r' : R2} (ho : OpR X (compareOp op) r) (ho' : OpR X (compareOp op') r') (ha : PE X a ta) (hb : PE X b tb) (hc : PE X c tc)
  (hm : lastMarks [op,op'] [b,c] = false:=by with_unfolding_all rfl) : PT X (.Compare a [op,op'] [b,c] pos) (tTest (tChain r r' ta tb tc)):=by
 intro pins s σ H Q I h
 refine isTrue_chain (thn (ha pins s σ H _ I h) fun v s1 ⟨x,H1,I1,r1,q1⟩ => test_link (thn (hb pins s1 σ H1 _ I1 q1) fun u s2 ⟨y,H2,I2,r2,q2⟩ =>
  thn (ho pins s2 σ H2 x y v u _ I2 r1 r2 q2) fun d s3 ⟨z,H3,I3,r3,k,e,q3⟩ => ?_)) hm
 subst e
 cases r3
 refine wpAny_truthy_bool ?_
 cases k with
 | false =>
  obtain ⟨k',e',q'⟩:=q3
  cases e'
  exact ite_ff ⟨H3,I3,q'⟩
 | true =>
  refine ite_tt (test_last (thn (hc pins s3 σ H3 _ I3 q3) fun w' s4 ⟨z',H4,I4,r4,q4⟩ => thn (ho' pins s4 σ H4 y z' u w' _ I4 r2 r4 q4) fun d' s5 ⟨z2,H5,I5,r5,k2,e2,q5⟩ => ?_))
  subst e2
  cases r5
  exact wpAny_truthy_bool ⟨H5,I5,q5⟩
theorem line63 : (sizeLine : Nat) < 2 ^ 63:=by rw [sizeLine_eq]; decide
theorem vals1 {x : V} {us : List Value} (r : Vals [x] us) : ∃ u,us = [u] /\ RelV x u:=by
 cases r with
 | cons r1 r2 => cases r2; exact ⟨_,rfl,r1⟩
theorem vals2 {x y : V} {us : List Value} (r : Vals [x,y] us) : ∃ u w',us = [u,w'] /\ RelV x u /\ RelV y w':=by
 cases r with
 | cons r1 r2 =>
  cases r2 with
  | cons r3 r4 => cases r4; exact ⟨_,_,rfl,r1,r3⟩
theorem call_abs : CallR X (.builtin "abs") (fun xs H Q => ∃ i,xs = [.int i] /\ Q (.int (if i < 0 then -i else i)) H):=by
 intro pins s σ H xs us Q I r h
 obtain ⟨i,rfl,q⟩:=h
 obtain ⟨u,rfl,t,rfl⟩:=vals1 r
 exact call_abs_int fun u tk => ⟨.int (if i < 0 then -i else i),H,I.tok _,⟨_,rfl⟩,q⟩
theorem call_int1 : CallR X (.type "int") (fun xs H Q => (∃ i,xs = [.int i] /\ Q (.int i) H) \/ ∃ k,xs = [.bl k] /\ Q (.int (if k then 1 else 0)) H):=by
 intro pins s σ H xs us Q I r h
 rcases h with ⟨i,rfl,q⟩ | ⟨k,rfl,q⟩
 ·obtain ⟨u,rfl,t,rfl⟩:=vals1 r
  exact call_int_int ⟨.int i,H,I,⟨_,rfl⟩,q⟩
 ·obtain ⟨u,rfl,r1⟩:=vals1 r
  cases r1
  exact call_int_bool ⟨.int (if k then 1 else 0),H,I.tok _,⟨_,rfl⟩,q⟩
end
end L2
namespace L2
open PySem PySem.Spec PyProof.Rows
structure ObjM (h : Heap) (x dx C : Addr) (mA : Str -> Option Value) : Prop where
 obj : h.get? x = some (PySem.W.instObj C dx)
 ns : h.Ns1 dx mA
 ne : dx ≠ x
theorem lookIn_ns {h : Heap} {dx : Addr} {mA : Str -> Option Value} (n : h.Ns1 dx mA) : ∃ od,h.get? dx = some od /\ ∀ name,PySem.W.lookIn name od = some (mA name):=by
 obtain ⟨o,es,ep,ho,hd,hk,_,hm⟩:=n
 refine ⟨o,ho,fun name => ?_⟩
 have e:=hm name
 unfold nsFind findBy at e
 rw [← Array.find?_toList] at e
 unfold PySem.W.lookIn
 rw [hd]
 dsimp only
 split
 ·rename_i y q
  rw [q] at e
  exact congrArg some e
 ·rename_i q
  rw [q] at e
  have a : es.toList.any (·.refKey) = false:=by
   rw [List.any_eq_false]
   intro y hy
   obtain ⟨z,t,hkey⟩:=hk y (Array.mem_toList_iff.mp hy)
   simp [DictEntry.refKey,hkey]
  have a' : ¬ es.toList.any (·.refKey) = true:=by rw [a]; exact Bool.false_ne_true
  rw [if_neg a']
  exact congrArg some e
theorem ObjM.look {h : Heap} {x dx C : Addr} {mA : Str -> Option Value} (I : ObjM h x dx C mA) : ∃ od,PySem.W.InstAt h x (PySem.W.instObj C dx) C (some od) /\ ∀ name,PySem.W.lookIn name od = some (mA name) :=
 let ⟨od,ho,hl⟩:=lookIn_ns I.ns
 ⟨od,⟨I.obj,rfl,rfl,ho⟩,hl⟩
section
variable {prog : Program} {w : World} {A : Around} {E : Value -> Shared -> Prop} {s : Shared} {K : PySem.W.Frag} {x dx C f : Addr} {mA : Str -> Option Value} {name : Str} {v : Value}
end
theorem RelO.some_of {v : V} {o : Option Value} (r : RelO (some v) o) : ∃ u,o = some u /\ RelV v u:=by
 cases o with
 | none => exact (show False from r).elim
 | some u => exact ⟨u,rfl,r⟩
section
variable {P : Program} {w : World} {H H' : Hp} {h h' : Heap} {a C dx : Addr} {fs fs' : List (Str × V)}
theorem ins_get (hok : HOk P w H h) (e : H a = some (.ins C dx fs)) : ∃ mA,ObjM h a dx C mA /\ (∀ f,RelO (fs.lookup f) (mA f)) /\ PySem.Within mA (fs.map (·.1)) /\ fs.length <= 1000 /\ H dx = some (.own a):=by
 obtain ⟨d,z,ne,ob,mA,n,r,q⟩:=(show ObjOk P w H h a (.ins C dx fs) from hok a _ e)
 exact ⟨mA,⟨ob,n,ne⟩,r,q,z,d⟩
end
structure Cls (K : PySem.W.Frag) (C : Addr) : Prop where
 pg : PySem.W.plainGet K C Str.empty = true
 hd : PySem.W.hasDictIn K C = true
 po : PySem.W.plainOver K C = true
 sa : PySem.W.findIn K (.ref C) "__setattr__" = some (some (.builtin "object.__setattr__"))
theorem Cls.get {K : PySem.W.Frag} {C : Addr} (c : Cls K C) (f : Str) : PySem.W.plainGet K C f = true:=c.pg
section
variable {X : Cx} {pins : List (Addr × Obj)} {σ : St} {H : Hp} {s : Shared} {a C dx : Addr} {fs : List (Str × V)} {f : Str} {v : V} {A : Around} {E : Value -> Shared -> Prop}
end
section
variable {X : Cx} {o e value : Expr} {f : Str} {pos pos' tpos : Pos} {ta tv : TE}
end
section
variable {X : Cx} {pins : List (Addr × Obj)} {σ : St} {H : Hp} {s : Shared} {A : Around} {E : Value -> Shared -> Prop} {Q : Value -> Shared -> Prop} {c : Value} {b : Bool}
inductive TyOf (K : PySem.W.Frag) (H : Hp) : V -> Value -> Prop where
 | non : TyOf K H .non (.type "NoneType")
 | bl (x : Bool) : TyOf K H (.bl x) (.type "bool")
 | int (i : Int) : TyOf K H (.int i) (.type "int")
 | str (x : Str) : TyOf K H (.str x) (.type "str")
 | flt (x : UInt64) : TyOf K H (.flt x) (.type "float")
 | lst {a : Addr} {xs : List V} (e : H a = some (.lst xs)) : TyOf K H (.ref a) (.type "list")
 | frz {a : Addr} {o : Obj} {xs : List V} (e : H a = some (.frz o (.lst xs))) : TyOf K H (.ref a) (.type "list")
 | tup {a : Addr} {xs : List V} (e : H a = some (.tup xs)) : TyOf K H (.ref a) (.type "tuple")
 | dK {a : Addr} {kvs : List (Key × V)} (e : H a = some (.dK kvs)) : TyOf K H (.ref a) (.type "dict")
 | dT {a : Addr} {kvs : List (List Key × V)} (e : H a = some (.dT kvs)) : TyOf K H (.ref a) (.type "dict")
 | ins {a C dx : Addr} {fs : List (Str × V)} (e : H a = some (.ins C dx fs)) (cl : Cls K C) (ha : PySem.W.findIn K (.ref C) "__class__" = some (some (.builtin "object.__class__")))
   (hn : PySem.W.specialIn K (.builtin "object.__class__") "__get__" = some (some (.builtin "getset_descriptor.__get__"))) (htk : PySem.W.takesIn K (.builtin "object.__class__") = some true)
   (hm : PySem.W.mroIn K C (.type "object") = some true) : TyOf K H (.ref a) (.ref C)
theorem isinst_ok {x : V} {u t : Value} (I : Inv X pins σ H s) (rx : RelV x u) (ty : TyOf X.K H x t) (e : PySem.W.kitOne X.K t c = some b) (h : ∀ tk,Q (.bool b) { s with toks:=tk }) :
  wpAny (model X.prog X.w) A (call (.builtin "isinstance") [u,c]) Q E s:=by
 cases ty with
 | non => cases (show u = Value.none from rx); exact PySem.W.kia_one PySem.W.kitx_none I.kIn True.intro e (fun z => nomatch z) h
 | bl y => cases (show u = Value.bool y from rx); exact PySem.W.kia_one PySem.W.kitx_bool I.kIn True.intro e (fun z => nomatch z) h
 | int i => obtain ⟨t,q⟩:=(show ∃ t,u = Value.int i t from rx); cases q; exact PySem.W.kia_one PySem.W.kitx_int I.kIn True.intro e (fun z => nomatch z) h
 | str y => obtain ⟨t,q⟩:=(show ∃ t,u = Value.str y t from rx); cases q; exact PySem.W.kia_one PySem.W.kitx_str I.kIn True.intro e (fun z => nomatch z) h
 | flt y => obtain ⟨t,q⟩:=(show ∃ t,u = Value.float y t from rx); cases q; exact PySem.W.kia_one PySem.W.kitx_float I.kIn True.intro e (fun z => nomatch z) h
 | @lst a xs ea =>
  cases (show u = Value.ref a from rx)
  obtain ⟨_,_,n,_,h1⟩:=(show ObjOk X.prog X.w H s.heap a (.lst xs) from I.hok a _ ea)
  exact PySem.W.kia_one PySem.W.kitx_list I.kIn ⟨_,h1,rfl⟩ e (fun z => nomatch z) h
 | @frz a ob xs ea =>
  cases (show u = Value.ref a from rx)
  obtain ⟨_,_,_,n,_,h1⟩:=(show ObjOk X.prog X.w H s.heap a (.frz ob (.lst xs)) from I.hok a _ ea)
  exact PySem.W.kia_one PySem.W.kitx_list I.kIn ⟨_,h1,rfl⟩ e (fun z => nomatch z) h
 | @tup a xs ea =>
  cases (show u = Value.ref a from rx)
  obtain ⟨_,_,_,p⟩:=(show ObjOk X.prog X.w H s.heap a (.tup xs) from I.hok a _ ea)
  obtain ⟨o,h1,h2,_⟩:=p
  exact PySem.W.kia_one PySem.W.kitx_tuple I.kIn ⟨o,h1,h2⟩ e (fun z => nomatch z) h
 | @dK a kvs ea =>
  cases (show u = Value.ref a from rx)
  obtain ⟨_,_,vs,_,p⟩:=(show ObjOk X.prog X.w H s.heap a (.dK kvs) from I.hok a _ ea)
  obtain ⟨o,es,ep,h1,h2,_⟩:=p
  exact PySem.W.kia_one PySem.W.kitx_dict I.kIn ⟨o,h1,h2.1⟩ e (fun z => nomatch z) h
 | @dT a kvs ea =>
  cases (show u = Value.ref a from rx)
  obtain ⟨_,_,xs,_,o,es,ep,h1,h2,_⟩:=(show ObjOk X.prog X.w H s.heap a (.dT kvs) from I.hok a _ ea)
  exact PySem.W.kia_one PySem.W.kitx_dict I.kIn ⟨o,h1,h2.1⟩ e (fun z => nomatch z) h
 | @ins a C dx fs ea cl ha hn htk hm =>
  cases (show u = Value.ref a from rx)
  obtain ⟨mA,O,_⟩:=ins_get I.hok ea
  obtain ⟨od,J,_⟩:=O.look
  exact PySem.W.kia_one (PySem.W.kitx_own (cl.get _) cl.hd ha hn htk hm) I.kIn J e (fun z => nomatch z) h
end
end L2
namespace L2
open PySem PySem.Spec PyProof.Rows
structure Room (k : Nat) (A : Around) : Prop where
 hd : A.handled = none
 dp : A.depth + 3 * k + 5 < recursionLimit
 un : A.units + 16 * k + 200 < cLine
theorem Room.mono {j k : Nat} {A : Around} (r : Room k A) (h : j <= k) : Room j A:=⟨r.hd,by have:=r.dp; omega,by have:=r.un; omega⟩
theorem Room.deeper {k : Nat} {A : Around} (r : Room (k + 1) A) (env : Env) : Room k (A.deeper env) :=
 ⟨r.hd,by have:=r.dp; show A.depth + 1 + 3 * k + 5 < _; omega,by have:=r.un; show A.units + 3 + 16 * k + 200 < _; omega⟩
theorem Room.depth {k : Nat} {A : Around} (r : Room k A) : A.depth < recursionLimit:=by have:=r.dp; omega
theorem Room.units {k : Nat} {A : Around} (r : Room k A) : A.units + 64 < cLine:=by have:=r.un; omega
def tNil : TA:=fun _ H Q => Q [] H
def tCons (ta : TE) (tr : TA) : TA:=fun σ H Q => ta σ H fun x H1 => tr σ H1 fun xs H2 => Q (x :: xs) H2
section
variable {X : Cx} {e : Expr} {es : List Expr} {te : TE} {t : TA} {pos : Pos}
theorem pa_nil : PA X [] tNil:=fun _ _ _ _ H Q I h => Calls.spliced_nil ⟨[],H,I,.nil,h⟩
theorem pa_cons (ha : PE X e te) (hr : PA X es t) (hs : starEach (e :: es) X.env = (false,eval e X.env) :: starEach es X.env:=by rfl) : PA X (e :: es) (tCons te t):=by
 intro pos pins s σ H Q I h
 rw [hs]
 show wpAny _ _ (spliced ((false,eval e X.env) :: backTo pos (starEach es X.env))) _ _ s
 refine Calls.spliced_cons (thn (ha pins s σ H _ I h) fun u s1 ⟨x,H1,I1,r1,q1⟩ => ?_)
 exact thn (hr pos pins s1 σ H1 _ I1 q1) fun us s2 ⟨xs,H2,I2,r2,q2⟩ => ⟨x :: xs,H2,I2,.cons r1 r2,q2⟩
def tTup (t : TA) : TE:=fun σ H Q => t σ H fun xs H1 => xs.length <= sizeLine /\ ∀ p,H1 p = none -> Q (.ref p) (upd H1 p (.tup xs))
def tLst (t : TA) : TE:=fun σ H Q => t σ H fun xs H1 => xs.length <= sizeLine /\ ∀ p,H1 p = none -> Q (.ref p) (upd H1 p (.lst xs))
theorem pe_tup {x1} (h : PA X es t) : PE X (.Tuple es x1 pos) (tTup t):=by
 intro pins s σ H Q I hq
 refine wpAny_Tuple_spliced (thn (h pos pins s σ H _ I hq) fun us s1 ⟨xs,H1,I1,r,z,q⟩ => ⟨by rw [← r.length]; exact z,?_⟩)
 have hf : H1 s1.heap.objs.size = none:=I1.hok.fresh (Nat.le_refl _)
 refine ⟨.ref s1.heap.objs.size,upd H1 s1.heap.objs.size (.tup xs),I1.laid (t':=s1.toks) (fun b u e => Heap.get?_push_of_some _ e) (Nat.le_refl _) ?_,rfl,q _ hf⟩
 exact ⟨z,us,r,⟨_,Heap.get?_push_size _ rfl,rfl,_,rfl⟩⟩
theorem pe_lst (h : PA X es t) : PE X (.List es pos) (tLst t):=by
 intro pins s σ H Q I hq
 refine wpAny_List_spliced (thn (h pos pins s σ H _ I hq) fun us s1 ⟨xs,H1,I1,r,z,q⟩ => ⟨by rw [← r.length]; exact z,?_⟩)
 have hf : H1 s1.heap.objs.size = none:=I1.hok.fresh (Nat.le_refl _)
 refine ⟨.ref s1.heap.objs.size,upd H1 s1.heap.objs.size (.lst xs),I1.laid (t':=s1.toks) (fun b u e => Heap.get?_push_of_some _ e) (Nat.le_refl _) ?_,rfl,q _ hf⟩
 exact ⟨z,us,0,r,Heap.get?_push_size _ rfl⟩
end
abbrev Sp:=List V -> Hp -> VK -> XK -> Prop
abbrev CXT:=List Env -> Hp -> Shared -> XK -> Value -> Shared -> Prop
structure Env0 (P : Program) (w : World) (K : PySem.W.Frag) (mg : Str -> Option Value) (base : Heap) (A : Around) (outer : List Env) (s : Shared) (H : Hp) : Prop where
 frames : A.frames = some outer
 mod : Mod K mg base
 bs : ∀ b o,base.get? b = some o -> s.heap.get? b = some o /\ H b = none
 bsz : base.objs.size <= s.heap.objs.size
 funs : s.heap.FunFrames base outer
 frf : ∀ b ∈ frs outer,H b = none
 hok : HOk P w H s.heap
 bare : AllBare s.gens
def CE (outer : List Env) (P : Program) (w : World) (H : Hp) (s : Shared) (Q : VK) (u : Value) (s' : Shared) : Prop :=
 ∃ v H',s'.os = s.os /\ AllBare s'.gens /\ Un (frs outer) [] H H' s.heap s'.heap /\ HOk P w H' s'.heap /\ RelV v u /\ Q v H'
def CR (CX : CXT) (outer : List Env) (P : Program) (w : World) (H : Hp) (s : Shared) (Q : VK) (E : XK) (r : Result) (s' : Shared) : Prop :=
 match r with
 | .ok (.ret u) => CE outer P w H s Q u s'
 | .ok _ => False
 | .error e => CX outer H s E e s'
structure FnOk (P : Program) (w : World) (K : PySem.W.Frag) (mg : Str -> Option Value) (base : Heap) (CX : CXT) (k : Nat) (f : Addr) (fd : FuncData) (ps : List Str) (sp : Sp) : Prop where
 len : ∀ vs H Q E,sp vs H Q E -> vs.length = ps.length
 run : ∀ (A : Around) (outer : List Env) (s : Shared) (H : Hp) (args : Args) (us : List Value) (vs : List V) (Q : VK) (E : XK),Room k A -> Env0 P w K mg base A outer s H -> BindsTo s fd args (ps.zip us) -> Vals vs us -> sp vs H Q E ->
  codeAny (model P w) A (.call (.ref f) args) (CR CX outer P w H s Q E) s
theorem FnOk.mono {P : Program} {w : World} {K : PySem.W.Frag} {mg : Str -> Option Value} {base : Heap} {CX : CXT} {j k : Nat} {f : Addr} {fd : FuncData} {ps : List Str} {sp : Sp} (F : FnOk P w K mg base CX j f fd ps sp) (h : j <= k) :
  FnOk P w K mg base CX k f fd ps sp:=⟨F.len,fun A outer s H args us vs Q E hr => F.run A outer s H args us vs Q E (hr.mono h)⟩
section
variable {X : Cx} {pins : List (Addr × Obj)} {σ : St} {H : Hp} {s s' : Shared}
theorem Inv.env0 (I : Inv X pins σ H s) : Env0 X.prog X.w X.K X.mg X.base X.A X.stack s H :=
 ⟨I.ok.frames,I.ok.mod,I.bs,Nat.le_trans I.ok.bsz I.sz,I.stack,I.stkFree,I.hok,I.bare⟩
theorem Inv.after {Q : VK} {u : Value} (I : Inv X pins σ H s) (h : CE X.stack X.prog X.w H s Q u s') : EP X pins σ Q u s':=by
 obtain ⟨v,H',os,bare,un,hok,r,q⟩:=h
 obtain ⟨hh,g,d,t,os'⟩:=s'
 obtain rfl : os' = s.os:=os
 exact ⟨v,H',I.call (h':=hh) (g':=g) (d':=d) (t':=t) (ch:=[]) un hok bare (fun b z => absurd z (by simp)),r,q⟩
end
def tCall (sp : Sp) (dvs : List V) (E : XK) (t : TA) : TE:=fun σ H Q => t σ H fun vs H1 => sp (vs ++ dvs) H1 Q E
def Binds (K : PySem.W.Frag) (fd : FuncData) (ps : List Str) (ds : List Value) : Prop :=
 ∀ (s : Shared) (us : List Value),K.In s.heap -> (us ++ ds).length = ps.length -> BindsTo s fd ⟨us,[]⟩ (ps.zip (us ++ ds))
theorem Binds.all {K : PySem.W.Frag} {fd : FuncData} {ps : List Str} (h : ∀ us : List Value,us.length = ps.length -> bindArgs fd ⟨us,[]⟩ = pure (ps.zip us)) : Binds K fd ps []:=fun s us _ hl => by
 rw [List.append_nil] at hl ⊢
 exact .of_eq (h us hl)
def Passes (CX : CXT) (X : Cx) (E : XK) : Prop:=∀ (pins : List (Addr × Obj)) (σ : St) (H : Hp) (s : Shared) (e : Value) (s' : Shared),Inv X pins σ H s -> CX X.stack H s E e s' -> X.xe e s'
section
variable {X : Cx} {CX : CXT} {k : Nat} {f C : Addr} {fd : FuncData} {ps : List Str} {sp : Sp} {dvs : List V} {ds : List Value} {E : XK} {x m : Str} {p pos apos : Pos} {e o : Expr} {es : List Expr} {ta : TE} {t : TA}
theorem run_fn {pins : List (Addr × Obj)} {σ : St} {H : Hp} {s : Shared} {Q : VK} {us : List Value} {vs : List V} (F : FnOk X.prog X.w X.K X.mg X.base CX k f fd ps sp) (hr : Room k X.A) (hb : Binds X.K fd ps ds) (hd : Vals dvs ds) (hx : Passes CX X E)
  (I : Inv X pins σ H s) (r : Vals vs us) (h : sp (vs ++ dvs) H Q E) : wpAny (model X.prog X.w) X.A (call (.ref f) us) (EP X pins σ Q) X.xe s:=by
 have r2 : Vals (vs ++ dvs) (us ++ ds):=r.append hd
 have hl : (us ++ ds).length = ps.length:=by rw [← r2.length]; exact F.len _ _ _ _ h
 refine wpAny_call (codeAny_mono (F.run X.A X.stack s H ⟨us,[]⟩ (us ++ ds) (vs ++ dvs) Q E hr I.env0 (hb s us I.kIn hl) r2 h) fun r s' hq => ?_)
 cases r with
 | error e => exact hx pins σ H s e s' I hq
 | ok fl =>
  cases fl with
  | ret u => exact I.after hq
  | next => exact False.elim hq
  | brk => exact False.elim hq
  | cont => exact False.elim hq
theorem pe_call (F : FnOk X.prog X.w X.K X.mg X.base CX k f fd ps sp) (hr : Room k X.A) (hg : Gl X x) (hm : X.mg x = some (.ref f)) (hk : PySem.W.keepIn X.K (.ref f) = true) (hb : Binds X.K fd ps ds) (hd : Vals dvs ds) (hx : Passes CX X E)
  (ha : PA X (e :: es) t) (hdb : (x == ("__debug__" : Str)) = false:=by decide) (he : starEach (e :: es) X.env = (false,eval e X.env) :: starEach es X.env:=by rfl) (hpl : (backTo pos (starEach es X.env)).any (·.1) = false:=by rfl) :
  PE X (.Call (.Name x p) (e :: es) [] pos) (tCall sp dvs E t):=by
 intro pins s σ H Q I h
 refine wpAny_Call_Name_kw (ld_glob I hg hm ?_ hdb)
 refine PySem.W.callWith_K (h₀:=X.base) I.ok.mod.kin hk (thn (ha pos pins s σ H _ I h) fun us s1 ⟨vs,H1,I1,r,q⟩ => ⟨I1.kIn,?_⟩) he hpl
 exact run_fn F hr hb hd hx I1 r q
end
section
variable {X : Cx} {CX : CXT} {k : Nat} {f C : Addr} {fd : FuncData} {ps ks : List Str} {sp : Sp} {E : XK} {x m : Str} {p pos apos kpos : Pos} {e o : Expr} {es : List Expr} {kws : List Keyword} {te ta : TE} {t tk : TA} {nm : Option Str}
variable {g : List Value -> List Value -> List Value} {gV : List V -> List V -> List V}
end
structure FnScope (N P : List Str) (sc : Scope) : Prop where
 kind : sc.kind = .function
 co : sc.isCoroutine = false
 gen : sc.isGenerator = false
 nd : N.Nodup
 pre : N.take P.length = P
 par : ∀ x ∈ P,sc.names.lookup x = some .local \/ sc.names.lookup x = some .cell
 nofree : ∀ y ∈ sc.names,y.2 ≠ .free
theorem bindL_out {kindOf : Str -> Option NameKind} {x : Str} : ∀ {binds : List (Str × Value)} {m : Str -> Option Value},(∀ v,(x,v) ∉ binds) -> bindL kindOf binds m x = m x
 | [],_,_ => rfl
 | (n,v) :: r,m,h => by
  unfold bindL
  rw [bindL_out fun w hw => h w (List.mem_cons_of_mem _ hw)]
  split
  ·have : x ≠ n:=by rintro rfl; exact h v List.mem_cons_self
   simp [this]
  ·rfl
theorem bindC_out {kindOf : Str -> Option NameKind} {x : Str} : ∀ {binds : List (Str × Value)} {m : Str -> Option Value},(∀ v,(x,v) ∉ binds) -> bindC kindOf binds m x = m x
 | [],_,_ => rfl
 | (n,v) :: r,m,h => by
  unfold bindC
  rw [bindC_out fun w hw => h w (List.mem_cons_of_mem _ hw)]
  split
  ·rfl
  ·have : x ≠ n:=by rintro rfl; exact h v List.mem_cons_self
   simp [this]
theorem bindL_get {kindOf : Str -> Option NameKind} {x : Str} {v : Value} : ∀ {P : List Str} {vs : List Value} {i : Nat} {m : Str -> Option Value},P.Nodup -> P[i]? = some x -> vs[i]? = some v -> kindOf x = some .local ->
  bindL kindOf (P.zip vs) m x = some v
 | [],_,_,_,_,h,_,_ => by simp at h
 | _ :: _,[],_,_,_,_,h,_ => by simp at h
 | p :: P,w :: vs,0,m,nd,h1,h2,hk => by
  simp at h1 h2; subst h1; subst h2
  show bindL kindOf ((p,w) :: P.zip vs) m p = _
  unfold bindL
  rw [bindL_out fun v hv => (List.nodup_cons.mp nd).1 (List.of_mem_zip hv).1,if_pos hk]
  simp
 | p :: P,w :: vs,i + 1,m,nd,h1,h2,hk => by
  show bindL kindOf ((p,w) :: P.zip vs) m x = _
  unfold bindL
  exact bindL_get (i:=i) (List.nodup_cons.mp nd).2 (by simpa using h1) (by simpa using h2) hk
theorem bindC_get {kindOf : Str -> Option NameKind} {x : Str} {v : Value} : ∀ {P : List Str} {vs : List Value} {i : Nat} {m : Str -> Option Value},P.Nodup -> P[i]? = some x -> vs[i]? = some v -> kindOf x ≠ some .local ->
  bindC kindOf (P.zip vs) m x = some v
 | [],_,_,_,_,h,_,_ => by simp at h
 | _ :: _,[],_,_,_,_,h,_ => by simp at h
 | p :: P,w :: vs,0,m,nd,h1,h2,hk => by
  simp at h1 h2; subst h1; subst h2
  show bindC kindOf ((p,w) :: P.zip vs) m p = _
  unfold bindC
  rw [bindC_out fun v hv => (List.nodup_cons.mp nd).1 (List.of_mem_zip hv).1,if_neg hk]
  simp
 | p :: P,w :: vs,i + 1,m,nd,h1,h2,hk => by
  show bindC kindOf ((p,w) :: P.zip vs) m x = _
  unfold bindC
  exact bindC_get (i:=i) (List.nodup_cons.mp nd).2 (by simpa using h1) (by simpa using h2) hk
def start (N : List Str) (vs : List V) : St:=vs.map some ++ List.replicate (N.length - vs.length) none
def cxOf (CX : CXT) (P : Program) (w : World) (K : PySem.W.Frag) (mg : Str -> Option Value) (base : Heap) (N : List Str) (qual : Str) (scope : Scope) (f : Addr) (cd : Value) (A : Around) (outer : List Env) (s : Shared) (H : Hp) (E : XK) : Cx where
 prog:=P
 w:=w
 K:=K
 mg:=mg
 base:=base
 A:=A.deeper (envOfC qual scope s.heap.objs.size f cd)
 N:=N
 s₀:=s
 H₀:=H
 env:=envOfC qual scope s.heap.objs.size f cd
 outer:=outer
 stack:=envOfC qual scope s.heap.objs.size f cd :: outer
 ex:=[]
 calm:=true
 fn:=fun _ => true
 pn:=[]
 xe:=fun e s' => wpAny (model P w) (A.deeper (envOfC qual scope s.heap.objs.size f cd)) (leaving (envOfC qual scope s.heap.objs.size f cd) e) (fun _ s'' => CX outer H s E e s'') (fun e' s'' => CX outer H s E e' s'') s'
theorem cell_has {sc : Scope} {n : Nat} {x : Str} (h : sc.names.lookup x = some .cell) : ∃ c,(cellsFrom n sc.names []).lookup x = some c:=by
 have q:=PySem.W.cellsFrom_some sc.names n [] (.inl h)
 exact Option.isSome_iff_exists.mp q
theorem inv_start {CX : CXT} {P : Program} {w : World} {K : PySem.W.Frag} {mg : Str -> Option Value} {base : Heap} {N ps : List Str} {qual : Str} {scope : Scope} {f : Addr} {cd : Value} {A : Around} {outer : List Env} {s s1 : Shared} {H : Hp} {E : XK} {us : List Value} {vs : List V}
  (S : FnScope N ps scope) (hd : A.handled = none) (e0 : Env0 P w K mg base A outer s H) (hl : vs.length = ps.length) (r : Vals vs us)
  (x : InCallC s s.heap.objs.size (bindL (envOfC qual scope s.heap.objs.size f cd).kindOf (ps.zip us) fun _ => none) (cellsFrom (s.heap.objs.size + 1) scope.names []) (bindC (envOfC qual scope s.heap.objs.size f cd).kindOf (ps.zip us) fun _ => none) s1) :
  Inv (cxOf CX P w K mg base N qual scope f cd A outer s H E) [] (start N vs) H s1:=by
 have hpl : ps.length <= N.length:=by have:=congrArg List.length S.pre; rw [List.length_take] at this; omega
 obtain ⟨h1,tk,rfl,hk⟩:=x.done
 have noA : ∀ b : Addr,b ∉ (cxOf CX P w K mg base N qual scope f cd A outer s H E).ex:=fun b z => absurd (show b ∈ ([] : List Addr) from z) (by simp)
 refine ⟨⟨e0.mod,S.kind,rfl,rfl,Nat.le_refl _,fun y z c h1 h2 => ?_,fun y hy => ?_,fun y c _ h => ?_,fun _ => hd,Around.frames_deeper e0.frames,.inr ⟨rfl,rfl⟩,fun b z => absurd z (noA b),e0.bs,e0.bsz,fun b _ _ => noA b,fun b z => absurd z (noA b),e0.funs,e0.frf⟩,
  rfl,e0.bare,Un.kept hk,⟨_,x.toInCall.ns,fun i y v h1 h2 h3 => ?_⟩,fun y c h => ⟨_,x.cell y c h⟩,e0.hok.fresh (Nat.le_refl _),fun y c h => ?_,fun p hp => absurd (show p ∈ ([] : List (Addr × Obj)) from hp) (by simp),e0.hok.kept hk,?_⟩
 ·exact name_of_addr x.apart (PySem.mem_of_lookup h1) (PySem.mem_of_lookup h2)
 ·have hy : scope.names.lookup y = some .cell \/ scope.names.lookup y = some .free:=hy
  rcases hy with hy | hy
  ·exact cell_has hy
  ·exact absurd rfl (S.nofree _ (PySem.mem_of_lookup hy))
 ·exact Nat.le_of_lt (x.above y c (PySem.mem_of_lookup h))
 ·have hi : i < vs.length:=by
   unfold start at h2
   by_cases hi : i < vs.length
   ·exact hi
   ·rw [List.getElem?_append_right (by simpa using hi)] at h2
    rw [List.getElem?_replicate] at h2
    split at h2 <;> cases h2
  have ha : vs[i]? = some v:=by
   unfold start at h2
   rw [List.getElem?_append_left (by simpa using hi),List.getElem?_map] at h2
   cases e : vs[i]? with
   | none => rw [e] at h2; cases h2
   | some a => rw [e] at h2; cases h2; rfl
  obtain ⟨u,hu,rv⟩:=r.get ha
  have hp : ps[i]? = some y:=by
   rw [← S.pre,List.getElem?_take_of_lt (by omega)]; exact h1
  have ndP : ps.Nodup:=by rw [← S.pre]; exact S.nd.sublist (List.take_sublist _ _)
  refine ⟨u,rv,?_⟩
  rcases S.par y (List.mem_of_getElem? hp) with k | k
  ·exact .inl ⟨k,bindL_get ndP hp hu k⟩
  ·obtain ⟨c,e⟩:=cell_has (n:=s.heap.objs.size + 1) k
   refine .inr ⟨.inl k,c,e,?_⟩
   have q:=x.cell y c e
   rw [bindC_get ndP hp hu (by show scope.names.lookup y ≠ _; rw [k]; decide)] at q
   exact q
 ·exact e0.hok.fresh (Nat.le_of_lt (x.above y c (PySem.mem_of_lookup h)))
 ·unfold start
  show _ = N.length
  rw [List.length_append,List.length_map,List.length_replicate]
  omega
theorem fn_of {CX : CXT} {P : Program} {w : World} {K : PySem.W.Frag} {mg : Str -> Option Value} {base : Heap} {k : Nat} {f : Addr} {name qual : Str} {params : Arguments} {body : List Stmt} {scope : Scope} {dV kV doc pm cdv ct oc : Value} {an od : Option Addr}
  {osl : Array (Option Value)} {N ps : List Str} {sp : Sp} (lk : K.lookup f = some ⟨oc,od,.func (PySem.W.fnOf name qual params body scope dV kV doc pm an cdv ct),osl⟩) (hcd : PySem.W.codeIn K cdv qual = true) (S : FnScope N ps scope)
  (len : ∀ vs H Q E,sp vs H Q E -> vs.length = ps.length)
  (hbody : ∀ (A : Around) (outer : List Env) (s : Shared) (H : Hp) (vs : List V) (Q : VK) (E : XK),Room k (A.deeper (envOfC qual scope s.heap.objs.size f cdv)) -> sp vs H Q E ->
   ∃ t,PSs (cxOf CX P w K mg base N qual scope f cdv A outer s H E) body t /\ t { nx:=fun _ H' => Q .non H',rt:=Q } (start N vs) H) :
  FnOk P w K mg base CX (k + 1) f (PySem.W.fnOf name qual params body scope dV kV doc pm an cdv ct) ps sp:=by
 refine ⟨len,fun A outer s H args us vs Q E hr e0 hb r hsp => ?_⟩
 have hl:=len _ _ _ _ hsp
 have KX : K.In s.heap:=e0.mod.kin.keeps fun b o e => (e0.bs b o e).1
 have lim : s.heap.NoLimit:=e0.mod.nolimit.keeps fun b o e => (e0.bs b o e).1
 have hkind : ∀ y ∈ ps.zip us,scope.names.lookup y.1 = some .local \/ (scope.names.lookup y.1 = some .cell /\ ((cellsFrom (s.heap.objs.size + 1) scope.names []).lookup y.1).isSome = true):=fun ⟨n,v⟩ hy => by
  rcases S.par n (List.of_mem_zip hy).1 with q | q
  ·exact .inl q
  ·exact .inr ⟨q,PySem.W.cellsFrom_some _ _ _ (.inl q)⟩
 refine codeAny_call_function hr.depth (KX _ _ lk) rfl S.co S.gen rfl (PySem.W.codeRec_of KX hcd) (hb _ _ _ _ ?_)
 refine wpAny_newFunctionEnv_cells S.kind hkind fun env he s1 x => ?_
 subst he
 refine ⟨lim.keeps x.toInCall.keep,codeAny_func ?_⟩
 obtain ⟨t,ht,hq⟩:=hbody A outer s H vs Q E (hr.deeper _) hsp
 have I : Inv (cxOf CX P w K mg base N qual scope f cdv A outer s H E) [] (start N vs) H s1:=inv_start S hr.hd e0 hl r x
 refine wpAny_mono (ht [] s1 (start N vs) H _ I hq) (fun fl s' hs => ?_) fun e s' hs => hs
 have fin : ∀ {σ' : St} {H' : Hp} {v : V} {u : Value},Inv (cxOf CX P w K mg base N qual scope f cdv A outer s H E) [] σ' H' s' -> RelV v u -> Q v H' -> CE outer P w H s Q u s' :=
  fun {σ' H' v u} J rv q => ⟨v,H',J.os,J.bare,J.base,J.hok,rv,q⟩
 cases fl with
 | ret u =>
  obtain ⟨v,σ',H',J,rv,q⟩:=hs
  exact fin J rv q
 | next =>
  obtain ⟨σ',H',J,q⟩:=hs
  exact fin (v:=V.non) (u:=Value.none) J rfl q
 | brk =>
  obtain ⟨_,_,_,q⟩:=hs
  exact False.elim q
 | cont =>
  obtain ⟨_,_,_,q⟩:=hs
  exact False.elim q
end L2
namespace L2
open PySem PySem.Spec PyProof.Rows
section
variable {X : Cx} {x : Str} {p pos : Pos} {e : Expr} {es : List Expr} {t : TA} {id T : String} {r : List V -> Hp -> VK -> Prop}
def tCB (r : List V -> Hp -> VK -> Prop) (t : TA) : TE:=fun σ H Q => t σ H fun vs H1 => r vs H1 Q
theorem pe_callB (hc : CallR X (.builtin id) r) (hg : Gl X x) (hm : X.mg x = none) (hv : bootBuiltins x = some (.builtin id)) (ha : PA X (e :: es) t) (hn : x ≠ "__name__":=by decide) (hdb : (x == ("__debug__" : Str)) = false:=by decide)
  (he : starEach (e :: es) X.env = (false,eval e X.env) :: starEach es X.env:=by rfl) (hpl : (backTo pos (starEach es X.env)).any (·.1) = false:=by rfl) : PE X (.Call (.Name x p) (e :: es) [] pos) (tCB r t):=by
 intro pins s σ H Q I h
 refine wpAny_Call_Name_kw (ld_blt I hg hm hv ?_ hn hdb)
 exact PyProof.Rows.callWith_builtin1 (thn (ha pos pins s σ H _ I h) fun us s1 ⟨vs,H1,I1,r1,q1⟩ => hc pins s1 σ H1 vs us Q I1 r1 q1) he hpl
theorem pe_callTy (hc : CallR X (.type T) r) (hg : Gl X x) (hm : X.mg x = none) (hv : bootBuiltins x = some (.type T)) (ha : PA X (e :: es) t) (hn : x ≠ "__name__":=by decide) (hdb : (x == ("__debug__" : Str)) = false:=by decide)
  (he : starEach (e :: es) X.env = (false,eval e X.env) :: starEach es X.env:=by rfl) (hpl : (backTo pos (starEach es X.env)).any (·.1) = false:=by rfl) : PE X (.Call (.Name x p) (e :: es) [] pos) (tCB r t):=by
 intro pins s σ H Q I h
 refine wpAny_Call_Name_kw (ld_blt I hg hm hv ?_ hn hdb)
 exact PyProof.Rows.callWith_type1 (thn (ha pos pins s σ H _ I h) fun us s1 ⟨vs,H1,I1,r1,q1⟩ => hc pins s1 σ H1 vs us Q I1 r1 q1) he hpl
end
end L2
namespace HT
open PySem PyProof.Rows
section
open PySem.SeqAt
open PySem.AutoSeq1 (wpAny_loadPart')
open PySem.MeetsSeq PySem.MeetsSeq2 PySem.MeetsSeq3
end
section
variable {prog : Program} {w : World} {A : Around} {E : Value -> Shared -> Prop} {s : Shared}
theorem cat_tup {t b : Addr} {vs ws : List Value} {Q : Value -> Shared -> Prop} (ht : IsTup s.heap t vs.toArray) (hb : IsTup s.heap b ws.toArray) (hv : vs ≠ [])
  (h1 : ws = [] -> Q (.ref t) s) (h2 : ws ≠ [] -> Q (.ref s.heap.objs.size) { s with heap:=s.heap.push { cls:=.type "tuple",data:=.seq (vs ++ ws).toArray } })
  (hsz : vs.length + ws.length <= sizeLine) : wpAny (model prog w) A (binaryOp .Add (.ref t) (.ref b)) Q E s:=by
 obtain ⟨⟨cls,dd,data,sl⟩,ho,hc,n,hd⟩:=id ht
 obtain ⟨⟨cls2,dd2,data2,sl2⟩,ho2,hc2,n2,hd2⟩:=id hb
 simp only at hc hd hc2 hd2
 subst hc hd hc2 hd2
 have e : vs.toArray ++ ws.toArray = (vs ++ ws).toArray:=by simp
 by_cases hw : ws = []
 ·exact concat_meets ⟨_,ho,rfl⟩ ⟨_,ho2,rfl⟩ noFill_tuple_add seq_tuple_add PySem.F.slot_tuple_add PySem.F.entry_tuple_add (PySem.F.args_tuple_add_2 _ _)
   (tuple_addW1 t b vs.toArray ws.toArray n n2 dd dd2 sl sl2 (by simpa using hv) (by simp [hw])) ⟨ho,ho2,h1 hw⟩
 ·refine concat_meets ⟨_,ho,rfl⟩ ⟨_,ho2,rfl⟩ noFill_tuple_add seq_tuple_add PySem.F.slot_tuple_add PySem.F.entry_tuple_add (PySem.F.args_tuple_add_2 _ _)
   (tuple_addW2 t b vs.toArray ws.toArray n n2 dd dd2 sl sl2 (by simpa using hv) (by simpa using hw) (by rw [List.size_toArray,List.size_toArray]; exact hsz)) ⟨ho,ho2,?_⟩
  rw [e]
  exact h2 hw
def sIx (n d : Nat) : Option Int -> Nat
 | none => d
 | some v => if v < 0 then (v + (n : Int)).toNat else min v.toNat n
end
end HT
namespace L2
open PySem PySem.Spec PyProof.Rows
abbrev TO:=St -> Hp -> (Option Int -> Hp -> Prop) -> Prop
def tNoPart : TO:=fun _ H Q => Q none H
def tPart (t : TE) : TO:=fun σ H Q => t σ H fun x H1 => ∃ i,x = .int i /\ Q (some i) H1
section
variable {X : Cx} {e : Expr} {te : TE} {lo hi : Option Expr} {tl th : TO} {pos p2 : Pos}
def tSl (r : V -> Option Int -> Option Int -> Hp -> VK -> Prop) (te : TE) (tl th : TO) : TE:=fun σ H Q => te σ H fun x H1 => tl σ H1 fun l H2 => th σ H2 fun u H3 => r x l u H3 Q
def cutV (xs : List V) (lo hi : Option Int) : List V:=(xs.drop (HT.sIx xs.length 0 lo)).take (HT.sIx xs.length xs.length hi - HT.sIx xs.length 0 lo)
def rCatT (K : PySem.W.Frag) : R2:=fun x y H Q => ∃ a b xs ys,x = .ref a /\ y = .ref b /\ SqT K H a xs /\ SqT K H b ys /\ xs ≠ [] /\ xs.length + ys.length <= sizeLine /\
 (ys = [] -> Q (.ref a) H) /\ (ys ≠ [] -> ∀ p,H p = none -> Q (.ref p) (upd H p (.tup (xs ++ ys))))
theorem Vals.nil_iff {xs : List V} {us : List Value} (r : Vals xs us) : us = [] ↔ xs = []:=by
 cases r with
 | nil => simp
 | cons _ _ => simp
theorem op_catT : OpR X (binaryOp .Add) (rCatT X.K):=by
 intro pins s σ H x y v u Q I rx ry h
 obtain ⟨a,b,xs,ys,rfl,rfl,ha,hb,hx,hz,q1,q2⟩:=h
 cases rx
 cases ry
 obtain ⟨its,r1,p1,_⟩:=I.tuple ha
 obtain ⟨its2,r2,p2,_⟩:=I.tuple hb
 refine HT.cat_tup p1 p2 (fun z => hx (r1.nil_iff.mp z)) (fun z => ⟨.ref a,H,I,rfl,q1 (r2.nil_iff.mp z)⟩) (fun z => ?_) (by rw [← r1.length,← r2.length]; exact hz)
 refine ⟨.ref s.heap.objs.size,_,I.laid (t':=s.toks) (o:=.tup (xs ++ ys)) (fun b ob q => Heap.get?_push_of_some _ q) (Nat.le_refl _) ?_,rfl,q2 (fun w => z (r2.nil_iff.mpr w)) _ (I.hok.fresh (Nat.le_refl _))⟩
 exact ⟨by rw [List.length_append]; exact hz,_,r1.append r2,IsTup.new _ _⟩
end
end L2
namespace L2
open PySem PySem.Spec PyProof.Rows
def ixN (n : Nat) (i : Int) : Option Nat:=if 0 <= i then (if i < n then some i.toNat else none) else if -(n : Int) <= i then some (i + n).toNat else none
def atI {α : Type} (xs : List α) (i : Int) : Option α:=(ixN xs.length i).bind fun j => xs[j]?
theorem ixN_seq {n : Nat} {i : Int} {j : Nat} (h : ixN n i = some j) : seqIndex? i n = some j /\ j < n /\ -(n : Int) <= i /\ i < n:=by
 unfold ixN at h
 by_cases h0 : 0 <= i
 ·rw [if_pos h0] at h
  by_cases h1 : i < n
  ·rw [if_pos h1] at h
   have e : i.toNat = j:=Option.some.inj h
   exact ⟨by rw [seqIndex_of h0 h1,e],by omega,by omega,h1⟩
  ·rw [if_neg h1] at h; cases h
 ·rw [if_neg h0] at h
  by_cases h1 : -(n : Int) <= i
  ·rw [if_pos h1] at h
   have e : (i + n).toNat = j:=Option.some.inj h
   exact ⟨by rw [seqIndex_neg (by omega) h1,e],by omega,h1,by omega⟩
  ·rw [if_neg h1] at h; cases h
theorem atI_get {α : Type} {xs : List α} {i : Int} {v : α} (h : atI xs i = some v) : ∃ j,seqIndex? i xs.length = some j /\ xs[j]? = some v /\ j < xs.length /\ -(xs.length : Int) <= i /\ i < xs.length:=by
 unfold atI at h
 cases e : ixN xs.length i with
 | none => rw [e] at h; cases h
 | some j =>
  rw [e] at h
  obtain ⟨h1,h2,h3,h4⟩:=ixN_seq e
  exact ⟨j,h1,h,h2,h3,h4⟩
theorem atI_nat {α : Type} {xs : List α} {j : Nat} {v : α} (h : xs[j]? = some v) : atI xs (j : Int) = some v:=by
 have hj : j < xs.length:=(List.getElem?_eq_some_iff.mp h).1
 have e : ixN xs.length (j : Int) = some j:=by
  unfold ixN
  rw [if_pos (by omega),if_pos (by omega)]; simp
 unfold atI; rw [e]; exact h
theorem atI_last {α : Type} (xs : List α) (v : α) : atI (xs ++ [v]) (-1) = some v:=by
 have hl : (xs ++ [v]).length = xs.length + 1:=by simp
 have e : ixN (xs ++ [v]).length (-1) = some xs.length:=by
  unfold ixN
  rw [hl,if_neg (by decide),if_pos (by omega)]
  congr 1
  omega
 unfold atI
 rw [e]
 show (xs ++ [v])[xs.length]? = some v
 simp
def PlainIx (b : Expr) : Prop:=∀ o i,subscripted b false o i = operate [o,i] (getItem o i)
def IxR (X : Cx) (r : R2) : Prop :=
 ∀ (value slice : Expr) (pins : List (Addr × Obj)) (s : Shared) (σ : St) (H : Hp) (x y : V) (v u : Value) (Q : VK),Inv X pins σ H s -> RelV x v -> RelV y u -> r x y H Q ->
  subscripted slice false v u = operate [v,u] (getItem v u) -> wpAny (model X.prog X.w) X.A (subscriptTail value slice v u) (EP X pins σ Q) X.xe s
def MtR (X : Cx) (id : String) (r : V -> List V -> Hp -> VK -> Prop) : Prop :=
 ∀ (pins : List (Addr × Obj)) (s : Shared) (σ : St) (H : Hp) (x : V) (xs : List V) (v : Value) (us : List Value) (Q : VK),Inv X pins σ H s -> RelV x v -> Vals xs us -> r x xs H Q ->
  wpAny (model X.prog X.w) X.A (call (.builtin id) (v :: us)) (EP X pins σ Q) X.xe s
section
variable {X : Cx} {a b : Expr} {ta tb : TE} {pos : Pos}
theorem pe_ix {r : R2} (hr : IxR X r) (ha : PE X a ta) (hb : PE X b tb) (hs : PlainIx b) : PE X (.Subscript a b pos) (tOp r ta tb):=by
 intro pins s σ H Q I h
 exact Subscript_ (binT ha hb I h fun v u s2 x y H2 I2 rx ry q => hr a b pins s2 σ H2 x y v u Q I2 rx ry q (hs _ _))
def rIxL (K : PySem.W.Frag) : R2:=fun x y H Q => ∃ p xs i v,x = .ref p /\ y = .int i /\ SqL K H p xs /\ atI xs i = some v /\ Q v H
def rIxT (K : PySem.W.Frag) : R2:=fun x y H Q => ∃ p xs i v,x = .ref p /\ y = .int i /\ SqT K H p xs /\ atI xs i = some v /\ Q v H
theorem ix_list : IxR X (rIxL X.K):=by
 intro value slice pins s σ H x y v u Q I rx ry h hs
 obtain ⟨p,xs,i,z,rfl,rfl,hq,he,q⟩:=h
 cases rx
 obtain ⟨t,rfl⟩:=ry
 obtain ⟨its,r,pl,hz⟩:=I.list hq
 obtain ⟨j,h1,h2,h3,h4,h5⟩:=atI_get he
 obtain ⟨w,ew,rw'⟩:=r.get h2
 have hl:=r.length
 have hn:=line63
 have fin : EP X pins σ Q w s:=⟨z,H,I,rw',q⟩
 by_cases h0 : 0 <= i
 ·have hj : i.toNat = j:=by
   rw [seqIndex_of h0 h5] at h1
   exact Option.some.inj h1
  exact item_listR pl.isList h0 (by omega) (by rw [hj]; simpa using ew) fin hs
 ·have hj : (i + (its.toArray.size : Int)).toNat = j:=by
   rw [seqIndex_neg (by omega) h4] at h1
   rw [List.size_toArray,← hl]
   exact Option.some.inj h1
  exact subscriptTail_builtinR (x:=w) pl.isList.typeIs slot_list_getitem.lookup
   (wpAny_getItem_list_neg (Q:=fun r s' => r = w /\ EP X pins σ Q r s') pl.isList (by omega) (by rw [List.size_toArray] <;> omega) (by omega) (by rw [hj]; simpa using ew) ⟨rfl,fin⟩) hs
theorem ix_tup : IxR X (rIxT X.K):=by
 intro value slice pins s σ H x y v u Q I rx ry h hs
 obtain ⟨p,xs,i,z,rfl,rfl,hq,he,q⟩:=h
 cases rx
 obtain ⟨t,rfl⟩:=ry
 obtain ⟨its,r,pl,hz⟩:=I.tuple hq
 obtain ⟨j,h1,h2,h3,h4,h5⟩:=atI_get he
 obtain ⟨w,ew,rw'⟩:=r.get h2
 have hl:=r.length
 have hn:=line63
 have fin : EP X pins σ Q w s:=⟨z,H,I,rw',q⟩
 exact subscriptTail_builtinR (x:=w) pl.typeIs slot_tuple_getitem.lookup
  (getItem_tuple (j:=j) (Q:=fun r s' => r = w /\ EP X pins σ Q r s') pl (by omega) (by omega) (by rw [List.size_toArray,← hl]; exact h1) (by simpa using ew) ⟨rfl,fin⟩) hs
theorem mapSeq_set (its : List Value) (n j : Nat) (u : Value) : Obj.mapSeq (·.setIfInBounds j u) { cls:=.type "list",data:=.seq its.toArray n } = { cls:=.type "list",data:=.seq (its.set j u).toArray n }:=by
 simp [Obj.mapSeq]
theorem Inv.lst {pins : List (Addr × Obj)} {σ : St} {H : Hp} {s : Shared} {p : Addr} {xs : List V} (I : Inv X pins σ H s) (h : H p = some (.lst xs)) :
  ∃ (its : List Value) (n : Nat),Vals xs its /\ s.heap.get? p = some { cls:=.type "list",data:=.seq its.toArray n } /\ xs.length <= sizeLine:=by
 obtain ⟨z,its,n,r,e⟩:=I.hok p _ h
 exact ⟨its,n,r,e,z⟩
theorem Inv.lstUpd {pins : List (Addr × Obj)} {σ : St} {H : Hp} {s : Shared} {p : Addr} {xs ys : List V} {its its' : List Value} {n n' : Nat} {f : Obj -> Obj} (I : Inv X pins σ H s) (h : H p = some (.lst xs))
  (ho : s.heap.get? p = some { cls:=.type "list",data:=.seq its.toArray n }) (hf : f { cls:=.type "list",data:=.seq its.toArray n } = { cls:=.type "list",data:=.seq its'.toArray n' }) (r : Vals ys its') (hz : ys.length <= sizeLine) (t : Nat) :
  Inv X pins σ (upd H p (.lst ys)) { s with heap:=s.heap.update p f,toks:=t }:=by
 have e : (s.heap.update p f).get? p = some { cls:=.type "list",data:=.seq its'.toArray n' }:=by
  rw [Heap.get?_update_self f ho (by rw [hf] <;> rfl),hf]
 refine I.write (x:=p) (e:=p) (by rw [h]; trivial) (.inl rfl) (fun b u hb q => (Heap.get?_update_other _ _ (Ne.symm hb)).trans q) ⟨_,e⟩ ?_
 exact ⟨hz,its',n',r,e⟩
def rSetL : V -> V -> V -> Hp -> (Hp -> Prop) -> Prop:=fun o i v H Q => ∃ p xs k j,o = .ref p /\ i = .int k /\ H p = some (.lst xs) /\ ixN xs.length k = some j /\ Q (upd H p (.lst (xs.set j v)))
theorem set_list : PSet X rSetL:=by
 intro pins s σ H o i v ov iv u Q I ro ri rv h
 obtain ⟨p,xs,k,j,rfl,rfl,hp,hj,q⟩:=h
 cases ro
 obtain ⟨t,rfl⟩:=ri
 obtain ⟨its,n,r,ho,hz⟩:=I.lst hp
 obtain ⟨h1,h2,h3,h4⟩:=ixN_seq hj
 have hl:=r.length
 have hn:=line63
 have I' : Inv X pins σ (upd H p (.lst (xs.set j v))) { s with heap:=s.heap.update p (Obj.mapSeq (·.setIfInBounds j u)) } :=
  I.lstUpd hp ho (mapSeq_set its n j u) (r.set rv j) (by rw [List.length_set]; exact hz) s.toks
 by_cases h0 : 0 <= k
 ·have hk : k.toNat = j:=by
   rw [seqIndex_of h0 h4] at h1
   exact Option.some.inj h1
  exact PySem.W.ki_setAt ho h0 (by omega) (by rw [List.size_toArray,← hl]; exact h4) (by rw [hk]; exact ⟨_,I',q⟩)
 ·have hk : (k + (its.toArray.size : Int)).toNat = j:=by
   rw [seqIndex_neg (by omega) h3] at h1
   rw [List.size_toArray,← hl]
   exact Option.some.inj h1
  exact PySem.W.ki_setBack ho (by omega) (by rw [List.size_toArray,← hl]; exact h3) (by omega) (by rw [hk]; exact ⟨_,I',q⟩)
def rSlL (K : PySem.W.Frag) : V -> Option Int -> Option Int -> Hp -> VK -> Prop:=fun x lo hi H Q => ∃ a xs,x = .ref a /\ SqL K H a xs /\ ∀ p,H p = none -> Q (.ref p) (upd H p (.lst (cutV xs lo hi)))
def flatV : V -> Bool
 | .non => true
 | .bl _ => true
 | .int _ => true
 | .str _ => true
 | _ => false
def eqV : V -> V -> Bool
 | .non,.non => true
 | .bl a,.bl b => a == b
 | .bl a,.int b => (if a then 1 else 0) == b
 | .int a,.bl b => a == (if b then 1 else 0)
 | .int a,.int b => a == b
 | .str a,.str b => a == b
 | _,_ => false
theorem eqAt_V {A : Around} {s : Shared} {y x : V} {u v : Value} (ry : RelV y u) (rx : RelV x v) (fy : flatV y = true) (fx : flatV x = true) : SeqAt.EqAt A s u v (eqV y x):=by
 cases y with
 | non =>
  cases ry
  cases x with
  | non => cases rx; exact SeqAt.EqAt.same _
  | bl b => cases rx; exact SeqAt.EqAt.none_bool b
  | int b => obtain ⟨t,rfl⟩:=rx; exact SeqAt.EqAt.none_int b t
  | str b => obtain ⟨t,rfl⟩:=rx; exact SeqAt.EqAt.none_str b t
  | _ => exact absurd (show false = true from fx) Bool.false_ne_true
 | bl a =>
  cases ry
  cases x with
  | non => cases rx; exact SeqAt.EqAt.bool_none a
  | bl b => cases rx; exact SeqAt.EqAt.bool_bool a b
  | int b => obtain ⟨t,rfl⟩:=rx; exact SeqAt.EqAt.bool_int a b t
  | str b => obtain ⟨t,rfl⟩:=rx; exact SeqAt.EqAt.bool_str a b t
  | _ => exact absurd (show false = true from fx) Bool.false_ne_true
 | int a =>
  obtain ⟨t',rfl⟩:=ry
  cases x with
  | non => cases rx; exact SeqAt.EqAt.int_none a t'
  | bl b => cases rx; exact SeqAt.EqAt.int_bool a t' b
  | int b => obtain ⟨t,rfl⟩:=rx; exact SeqAt.EqAt.int_int a t' b t
  | str b => obtain ⟨t,rfl⟩:=rx; exact SeqAt.EqAt.int_str a t' b t
  | _ => exact absurd (show false = true from fx) Bool.false_ne_true
 | str a =>
  obtain ⟨t',rfl⟩:=ry
  cases x with
  | non => cases rx; exact SeqAt.EqAt.str_none a t'
  | bl b => cases rx; exact SeqAt.EqAt.str_bool a t' b
  | int b => obtain ⟨t,rfl⟩:=rx; exact SeqAt.EqAt.str_int a t' b t
  | str b => obtain ⟨t,rfl⟩:=rx; exact SeqAt.EqAt.str_str a t' b t
  | _ => exact absurd (show false = true from fx) Bool.false_ne_true
 | _ => exact absurd (show false = true from fy) Bool.false_ne_true
def eqU (x : V) (u : Value) : Bool:=match u with
 | .none => eqV .non x
 | .bool b => eqV (.bl b) x
 | .int i _ => eqV (.int i) x
 | .str z _ => eqV (.str z) x
 | _ => false
theorem eqU_of {x y : V} {u : Value} (r : RelV y u) (f : flatV y = true) : eqU x u = eqV y x:=by
 cases y with
 | non => cases r; rfl
 | bl b => cases r; rfl
 | int i => obtain ⟨t,rfl⟩:=r; rfl
 | str z => obtain ⟨t,rfl⟩:=r; rfl
 | _ => exact absurd (show false = true from f) Bool.false_ne_true
theorem any_eqU {x : V} : ∀ {xs : List V} {us : List Value},Vals xs us -> xs.all flatV = true -> us.any (eqU x) = xs.any fun y => eqV y x
 | _,_,.nil,_ => rfl
 | y :: xs,u :: us,.cons r t,f => by
  rw [List.all_cons,Bool.and_eq_true] at f
  rw [List.any_cons,List.any_cons,eqU_of r f.1,any_eqU t f.2]
theorem mem_eqAt {A : Around} {s : Shared} {x : V} {v : Value} (rx : RelV x v) (fx : flatV x = true) : ∀ {xs : List V} {us : List Value},Vals xs us -> xs.all flatV = true -> ∀ u ∈ us,SeqAt.EqAt A s u v (eqU x u)
 | _,_,.nil,_ => fun u hu => by cases hu
 | y :: xs,u :: us,.cons r t,f => fun u' hu => by
  rw [List.all_cons,Bool.and_eq_true] at f
  rcases List.mem_cons.mp hu with rfl | hu
  ·rw [eqU_of r f.1]; exact eqAt_V r rx f.1 fx
  ·exact mem_eqAt rx fx t f.2 u' hu
def inV (x : V) (xs : List V) : Bool:=xs.any fun y => eqV y x
def rIn (K : PySem.W.Frag) (neg : Bool) : R2:=fun x y H Q => ∃ p xs,y = .ref p /\ (SqL K H p xs \/ SqT K H p xs) /\ flatV x = true /\ xs.all flatV = true /\ Q (.bl (if neg then !inV x xs else inV x xs)) H
theorem op_in_seq : OpR X (compareOp .In) (rIn X.K false):=by
 intro pins s σ H x y v u Q I rx ry h
 obtain ⟨p,xs,rfl,hq,fx,fs,q⟩:=h
 cases ry
 rcases hq with hq | hq
 ·obtain ⟨its,r,pl,hz⟩:=I.list hq
  refine SeqAt.in_listAt (eqU x) pl.isList (fun w hw => mem_eqAt rx fx r fs w (by simpa using hw)) ⟨.bl _,H,I,rfl,?_⟩
  rw [show its.toArray.any (eqU x) = its.any (eqU x) by simp,any_eqU r fs]
  exact q
 ·obtain ⟨its,r,pl,hz⟩:=I.tuple hq
  refine SeqAt.in_tupleAt (eqU x) pl (fun w hw => mem_eqAt rx fx r fs w (by simpa using hw)) ⟨.bl _,H,I,rfl,?_⟩
  rw [show its.toArray.any (eqU x) = its.any (eqU x) by simp,any_eqU r fs]
  exact q
theorem op_notIn_seq : OpR X (compareOp .NotIn) (rIn X.K true):=by
 intro pins s σ H x y v u Q I rx ry h
 obtain ⟨p,xs,rfl,hq,fx,fs,q⟩:=h
 cases ry
 rcases hq with hq | hq
 ·obtain ⟨its,r,pl,hz⟩:=I.list hq
  refine SeqAt.notIn_listAt (eqU x) pl.isList (fun w hw => mem_eqAt rx fx r fs w (by simpa using hw)) ⟨.bl _,H,I,rfl,?_⟩
  rw [show its.toArray.any (eqU x) = its.any (eqU x) by simp,any_eqU r fs]
  exact q
 ·obtain ⟨its,r,pl,hz⟩:=I.tuple hq
  refine SeqAt.notIn_tupleAt (eqU x) pl (fun w hw => mem_eqAt rx fx r fs w (by simpa using hw)) ⟨.bl _,H,I,rfl,?_⟩
  rw [show its.toArray.any (eqU x) = its.any (eqU x) by simp,any_eqU r fs]
  exact q
theorem call_len_seq : CallR X (.builtin "len") (fun xs H Q => ∃ p ys,xs = [.ref p] /\ (SqL X.K H p ys \/ SqT X.K H p ys) /\ Q (.int ys.length) H):=by
 intro pins s σ H xs us Q I r h
 obtain ⟨p,ys,rfl,hq,q⟩:=h
 obtain ⟨u,rfl,rx⟩:=vals1 r
 cases rx
 have hn:=line63
 rcases hq with hq | hq
 ·obtain ⟨its,r',pl,hz⟩:=I.list hq
  have hlen:=r'.length
  exact Calls.call_len_list pl.isList (by simp only [List.size_toArray] <;> omega) ⟨.int ys.length,H,I.tok _,⟨s.toks + 1,by rw [List.size_toArray,hlen]⟩,q⟩
 ·obtain ⟨its,r',pl,hz⟩:=I.tuple hq
  have hlen:=r'.length
  exact len_tuple pl (by simp only [List.size_toArray] <;> omega) ⟨.int ys.length,H,I.tok _,⟨s.toks + 1,by rw [List.size_toArray,hlen]⟩,q⟩
theorem call_list_of : CallR X (.type "list") (fun xs H Q => ∃ p ys,xs = [.ref p] /\ (SqL X.K H p ys \/ SqT X.K H p ys) /\ ∀ l,H l = none -> Q (.ref l) (upd H l (.lst ys))):=by
 intro pins s σ H xs us Q I r h
 obtain ⟨p,ys,rfl,hq,q⟩:=h
 obtain ⟨u,rfl,rx⟩:=vals1 r
 cases rx
 have fin : ∀ (its : List Value),Vals ys its -> ys.length <= sizeLine -> ∀ (h' : Heap) (c' : Nat),(∀ b o',s.heap.get? b = some o' -> h'.get? b = some o') ->
   h'.get? s.heap.objs.size = some { cls:=.type "list",dict:=none,data:=.seq its.toArray c',slots:=#[] } -> EP X pins σ Q (.ref s.heap.objs.size) { s with heap:=h' }:=fun its r' hz h' c' kp e =>
  ⟨.ref s.heap.objs.size,_,I.laid (t':=s.toks) kp (Nat.le_refl _) (show ObjOk X.prog X.w _ h' _ (.lst ys) from ⟨hz,its,c',r',e⟩),rfl,q _ (I.hok.fresh (Nat.le_refl _))⟩
 rcases hq with hq | hq
 ·obtain ⟨its,r',pl,hz⟩:=I.list hq
  have hlen:=r'.length
  obtain ⟨o,ho,hc,n,hd⟩:=pl.isList
  exact call_list_seq p (.inl rfl) ho hc hd (fun h' c' kp e => fin its r' hz h' c' kp e) (by simp only [List.size_toArray] <;> omega)
 ·obtain ⟨its,r',pl,hz⟩:=I.tuple hq
  have hlen:=r'.length
  obtain ⟨o,ho,hc,n,hd⟩:=pl
  exact call_list_seq p (.inr rfl) ho hc hd (fun h' c' kp e => fin its r' hz h' c' kp e) (by simp only [List.size_toArray] <;> omega)
theorem call_tuple_of : CallR X (.type "tuple") (fun xs H Q => ∃ p ys,xs = [.ref p] /\ ((SqL X.K H p ys /\ ∀ l,H l = none -> Q (.ref l) (upd H l (.tup ys))) \/ (SqT X.K H p ys /\ Q (.ref p) H))):=by
 intro pins s σ H xs us Q I r h
 obtain ⟨p,ys,rfl,h⟩:=h
 obtain ⟨u,rfl,rx⟩:=vals1 r
 cases rx
 rcases h with ⟨hq,q⟩ | ⟨hq,q⟩
 ·obtain ⟨its,r',pl,hz⟩:=I.list hq
  have hlen:=r'.length
  refine call_tuple_list pl.isList (fun h' kp => ?_) (by simp only [List.size_toArray] <;> omega)
  have I1 : Inv X pins σ H { s with heap:=h' }:=I.kept (t':=s.toks) kp
  have I2 : Inv X pins σ (upd H h'.objs.size (.tup ys)) { s with heap:=h'.push { cls:=.type "tuple",data:=.seq its.toArray } } :=
   I1.laid (t':=s.toks) (fun b o e => Heap.get?_push_of_some _ e) (Nat.le_refl _) (show ObjOk X.prog X.w _ _ _ (.tup ys) from ⟨hz,its,r',IsTup.new _ _⟩)
  exact ⟨.ref h'.objs.size,_,I2,rfl,q _ (I1.hok.fresh (Nat.le_refl _))⟩
 ·obtain ⟨its,r',pl,hz⟩:=I.tuple hq
  exact call_tuple_same pl ⟨.ref p,H,I,rfl,q⟩
def tyV (K : PySem.W.Frag) (T : String) (x : V) (H : Hp) : Prop:=match x with
 | .str _ => T = "str"
 | .int _ => T = "int"
 | .ref p => (T = "list" /\ ∃ xs,SqL K H p xs) \/ (T = "tuple" /\ ∃ o,K.lookup p = some o /\ o.cls = .type "tuple" /\ o.dict = none) \/
   (T = "dict" /\ ((∃ kvs,H p = some (.dK kvs)) \/ ∃ kvs,H p = some (.dT kvs))) \/ (T = "set" /\ ∃ S n,H p = some (.set S n))
 | _ => False
theorem tyV_is {pins : List (Addr × Obj)} {σ : St} {H : Hp} {s : Shared} {T : String} {x : V} {v : Value} (I : Inv X pins σ H s) (r : RelV x v) (ty : tyV X.K T x H) :
  s.TypeIs v T /\ ∀ a,v = .ref a -> ∃ ob,s.heap.get? a = some ob /\ ob.dict = none:=by
 cases x with
 | str z =>
  obtain ⟨t,rfl⟩:=r
  cases (show T = "str" from ty)
  exact ⟨typeIs_str s z t,fun _ e => nomatch e⟩
 | int i =>
  obtain ⟨t,rfl⟩:=r
  cases (show T = "int" from ty)
  exact ⟨typeIs_int s i t,fun _ e => nomatch e⟩
 | ref p =>
  cases r
  rcases ty with ⟨rfl,xs,hq⟩ | ⟨rfl,o,hk,hc,hd⟩ | ⟨rfl,hk⟩ | ⟨rfl,S,n,hk⟩
  ·obtain ⟨its,_,pl,_⟩:=I.list hq
   refine ⟨pl.isList.typeIs,fun a e => ?_⟩
   cases e
   obtain ⟨o,n,e,c,hd,_⟩:=pl
   exact ⟨o,e,hd⟩
  ·refine ⟨⟨o,I.kIn p o hk,hc⟩,fun a e => ?_⟩
   cases e
   exact ⟨o,I.kIn _ o hk,hd⟩
  ·have z : ∃ o,s.heap.get? p = some o /\ o.ExactDict:=by
    rcases hk with ⟨kvs,hk⟩ | ⟨kvs,hk⟩
    ·obtain ⟨_,_,_,_,o,_,_,e,ex,_⟩:=I.hok p _ hk
     exact ⟨o,e,ex⟩
    ·obtain ⟨_,_,_,_,o,_,_,e,ex,_⟩:=I.hok p _ hk
     exact ⟨o,e,ex⟩
   obtain ⟨o,e,ex⟩:=z
   refine ⟨⟨o,e,ex.1⟩,fun a e2 => ?_⟩
   cases e2
   exact ⟨o,e,ex.2.1⟩
  ·obtain ⟨o,_,_,_,e,ex,_⟩:=I.hok p _ hk
   refine ⟨⟨o,e,ex.1⟩,fun a e2 => ?_⟩
   cases e2
   exact ⟨o,e,ex.2.1⟩
 | _ => exact False.elim ty
def tBM0 (K : PySem.W.Frag) (T : String) (r : V -> List V -> Hp -> VK -> Prop) (to : TE) : TE:=fun σ H Q => to σ H fun x H1 => tyV K T x H1 /\ r x [] H1 Q
def tBM (K : PySem.W.Frag) (T : String) (r : V -> List V -> Hp -> VK -> Prop) (to : TE) (t : TA) : TE:=fun σ H Q => to σ H fun x H1 => tyV K T x H1 /\ t σ H1 fun xs H2 => r x xs H2 Q
variable {o e : Expr} {es : List Expr} {to : TE} {t : TA} {name : Str} {apos cpos : Pos} {T id : String} {r : V -> List V -> Hp -> VK -> Prop}
theorem pe_bm0 (pa : PlainAttrs T) (slot : Slot T name id) (hty : typeOf (.builtin id) = pure (.type "method_descriptor")) (hm : MtR X id r) (ho : PE X o to)
  (hbase : attributeBase o name X.env (eval o X.env) = eval o X.env:=by rfl) (hline : (apos.endLine == cpos.line) = true:=by rfl) : PE X (.Call (.Attribute o name apos) [] [] cpos) (tBM0 X.K T r to):=by
 intro pins s σ H Q I h
 refine wpAny_Call_method0_late hbase hline (thn (ho pins s σ H _ I h) fun v s1 ⟨x,H1,I1,r1,ty,q1⟩ => ?_)
 obtain ⟨h1,h2⟩:=tyV_is I1 r1 ty
 exact ⟨T,id,pa,slot,hty,h1,h2,Calls.callWith_builtin rfl (PySem.evalArgs_none (hm pins s1 σ H1 x [] v [] Q I1 r1 .nil q1))⟩
theorem pe_bm (pa : PlainAttrs T) (slot : Slot T name id) (hty : typeOf (.builtin id) = pure (.type "method_descriptor")) (hm : MtR X id r) (ho : PE X o to) (ha : PA X (e :: es) t)
  (hbase : attributeBase o name X.env (eval o X.env) = eval o X.env:=by rfl)
  (hfew : ((backTo cpos (starEach (e :: es) X.env)).all (fun x => !x.1) && (backToKw cpos (keywordEach [] X.env)).all (fun x => x.1.isSome)
   && decide ((e :: es).length + ([] : List Keyword).length + (if ([] : List Keyword).isEmpty then 0 else 1) < 30)) = true:=by rfl)
  (hline : (apos.endLine == cpos.line) = true:=by rfl) (hs : starEach (e :: es) X.env = (false,eval e X.env) :: starEach es X.env:=by rfl) (hplain : (backTo cpos (starEach es X.env)).any (·.1) = false:=by rfl) :
  PE X (.Call (.Attribute o name apos) (e :: es) [] cpos) (tBM X.K T r to t):=by
 intro pins s σ H Q I h
 refine wpAny_Call_method_late hbase hfew hline rfl (thn (ho pins s σ H _ I h) fun v s1 ⟨x,H1,I1,r1,ty,q1⟩ => ?_)
 obtain ⟨h1,h2⟩:=tyV_is I1 r1 ty
 refine ⟨T,id,pa,slot,hty,h1,h2,?_⟩
 have hA:=ha cpos pins s1 σ H1 _ I1 q1
 rw [hs] at hA ⊢
 refine Calls.callWith_builtin (by show (false || (backTo cpos (starEach es X.env)).any (·.1)) = false; rw [hplain] <;> rfl) (Calls.evalArgs_plain ?_)
 exact thn hA fun us s2 ⟨vs,H2,I2,r2,q2⟩ => hm pins s2 σ H2 x vs v us Q I2 r1 r2 q2
end
end L2
namespace L2
open PySem PySem.Spec PyProof.Rows
def MtM (X : Cx) (id : String) (r : V -> List V -> Hp -> VK -> Prop) : Prop :=
 ∀ (pins : List (Addr × Obj)) (s : Shared) (σ : St) (H : Hp) (x : V) (xs : List V) (v : Value) (us : List Value) (Q : VK),Inv X pins σ H s -> RelV x v -> Vals xs us -> r x xs H Q ->
  wpAny (model X.prog X.w) X.A (call (.builtin id) (v :: us)) (EP X pins σ Q) X.xe s
theorem Vals.one : ∀ {x : V} {us : List Value},Vals [x] us -> ∃ u,us = [u] /\ RelV x u
 | _,_,.cons r .nil => ⟨_,rfl,r⟩
theorem Vals.two : ∀ {x y : V} {us : List Value},Vals [x,y] us -> ∃ u v,us = [u,v] /\ RelV x u /\ RelV y v
 | _,_,_,.cons r (.cons q .nil) => ⟨_,_,rfl,r,q⟩
section
variable {X : Cx} {pins : List (Addr × Obj)} {σ : St} {H : Hp} {s : Shared} {l b : Addr} {xs ys zs : List V}
theorem Inv.lset {its its' : List Value} {n : Nat} {f : Array Value -> Array Value} {t' : Nat} (I : Inv X pins σ H s) (hH : H l = some (.lst xs))
  (e : s.heap.get? l = some { cls:=.type "list",data:=.seq its.toArray n }) (hf : f its.toArray = its'.toArray) (hv : Vals ys its') (hz : ys.length <= sizeLine) :
  Inv X pins σ (upd H l (.lst ys)) { s with heap:=s.heap.update l (Obj.mapSeq f),toks:=t' }:=by
 have q:=PySem.IsL.update e f
 rw [hf] at q
 refine I.write (x:=l) (e:=l) (by rw [hH]; exact trivial) (.inl rfl) (fun b' u hb hu => (Heap.get?_update_other s.heap (Obj.mapSeq f) (Ne.symm hb)).trans hu) ⟨_,q⟩ ?_
 exact ⟨hz,its',_,hv,q⟩
theorem Inv.lnew {its : List Value} {t' : Nat} (I : Inv X pins σ H s) (hv : Vals ys its) (hz : ys.length <= sizeLine) :
  Inv X pins σ (upd H s.heap.objs.size (.lst ys)) { s with heap:=s.heap.push { cls:=.type "list",data:=.seq its.toArray },toks:=t' } :=
 I.laid (fun _ _ q => Heap.get?_push_of_some _ q) (Nat.le_refl _) ⟨hz,its,0,hv,Heap.get?_push_size _ rfl⟩
theorem Inv.fresh (I : Inv X pins σ H s) : H s.heap.objs.size = none:=I.hok.fresh (Nat.le_refl _)
theorem Inv.lstM (I : Inv X pins σ H s) (hH : H l = some (.lst xs)) : xs.length <= sizeLine /\ ∃ (its : List Value) (n : Nat),Vals xs its /\ xs.length = its.length /\ s.heap.get? l = some { cls:=.type "list",data:=.seq its.toArray n }:=by
 obtain ⟨z,its,n,r,e⟩:=I.hok l _ hH
 exact ⟨z,its,n,r,r.length,e⟩
end
section
variable {X : Cx}
def rAppend : V -> List V -> Hp -> VK -> Prop:=fun x vs H Q => ∃ l xs y,x = .ref l /\ vs = [y] /\ H l = some (.lst xs) /\ xs.length < sizeLine /\ Q .non (upd H l (.lst (xs ++ [y])))
theorem mt_append : MtM X "list.append" rAppend:=by
 intro pins s σ H x vs v us Q I rx rv h
 obtain ⟨l,xs,y,rfl,rfl,hH,hz,q⟩:=h
 cases rx
 obtain ⟨u,rfl,ru⟩:=rv.one
 obtain ⟨z,its,n,r,hl,e⟩:=I.lstM hH
 refine call_meets F.slot_list_append ⟨_,e,rfl⟩ F.entry_list_append (F.args_list_append_2 _ _) (PySem.list_append l its.toArray n u (by rw [List.size_toArray]; omega)) ⟨e,?_⟩
 refine ⟨.non,_,I.lset (its':=its ++ [u]) hH e (by simp) (r.append (.cons ru .nil)) ?_,rfl,q⟩
 rw [List.length_append,List.length_singleton]
 omega
def rExtend : V -> List V -> Hp -> VK -> Prop:=fun x vs H Q => ∃ l b xs zs,x = .ref l /\ vs = [.ref b] /\ H l = some (.lst xs) /\ H b = some (.lst zs) /\ xs.length + zs.length <= sizeLine /\ Q .non (upd H l (.lst (xs ++ zs)))
def rPop : V -> List V -> Hp -> VK -> Prop:=fun x vs H Q => ∃ l xs y,x = .ref l /\ vs = [] /\ H l = some (.lst xs) /\ xs[xs.length - 1]? = some y /\ Q y (upd H l (.lst xs.dropLast))
def rReverse : V -> List V -> Hp -> VK -> Prop:=fun x vs H Q => ∃ l xs,x = .ref l /\ vs = [] /\ H l = some (.lst xs) /\ Q .non (upd H l (.lst xs.reverse))
def rClear : V -> List V -> Hp -> VK -> Prop:=fun x vs H Q => ∃ l xs,x = .ref l /\ vs = [] /\ H l = some (.lst xs) /\ Q .non (upd H l (.lst []))
def rCat : R2:=fun x y H Q => ∃ l b xs zs,x = .ref l /\ y = .ref b /\ H l = some (.lst xs) /\ H b = some (.lst zs) /\ xs.length + zs.length <= sizeLine /\ ∀ p,H p = none -> Q (.ref p) (upd H p (.lst (xs ++ zs)))
end
section
variable {prog : Program} {w : World} {A : Around} {E : Value -> Shared -> Prop} {s : Shared}
end
section
variable {X : Cx}
end
end L2
namespace L2
open PySem PySem.Spec PyProof.Rows
section
variable {κ : Type} [DecidableEq κ]
def valV (kvs : List (κ × V)) (k : κ) : Option V:=(kvs.find? fun kv => decide (kv.1 = k)).map (·.2)
def putK (kvs : List (κ × V)) (k : κ) (v : V) : List (κ × V) :=
 if (kvs.any fun kv => decide (kv.1 = k)) = true then kvs.map (fun kv => if kv.1 = k then (kv.1,v) else kv) else kvs ++ [(k,v)]
theorem valV_nil {k : κ} : valV ([] : List (κ × V)) k = none:=rfl
theorem valV_pos {p : κ × V} {r : List (κ × V)} {k : κ} (e : p.1 = k) : valV (p :: r) k = some p.2:=by simp [valV,List.find?_cons,e]
theorem valV_neg {p : κ × V} {r : List (κ × V)} {k : κ} (e : ¬ p.1 = k) : valV (p :: r) k = valV r k:=by simp [valV,List.find?_cons,e]
theorem valV_any (k : κ) : ∀ kvs : List (κ × V),(kvs.any fun kv => decide (kv.1 = k)) = (valV kvs k).isSome
 | [] => rfl
 | p :: r => by
  rw [List.any_cons]
  by_cases e : p.1 = k
  ·simp only [valV_pos e,decide_eq_true e,Bool.true_or,Option.isSome_some]
  ·rw [valV_neg e,decide_eq_false e,Bool.false_or]; exact valV_any k r
theorem valV_map (k j : κ) (y : V) : ∀ kvs : List (κ × V),valV (kvs.map fun kv => if kv.1 = k then (kv.1,y) else kv) j = (valV kvs j).map fun x => if j = k then y else x
 | [] => rfl
 | p :: r => by
  have ih:=valV_map k j y r
  rw [List.map_cons]
  by_cases h : p.1 = k
  ·rw [if_pos h]
   by_cases e : p.1 = j
   ·rw [valV_pos (p:=(p.1,y)) e,valV_pos e,Option.map_some,if_pos (e.symm.trans h)]
   ·rw [valV_neg (p:=(p.1,y)) e,valV_neg e,ih]
  ·rw [if_neg h]
   by_cases e : p.1 = j
   ·rw [valV_pos (p:=p) e,valV_pos e,Option.map_some,if_neg (fun z => h (e.trans z))]
   ·rw [valV_neg (p:=p) e,valV_neg e,ih]
theorem valV_snoc (k j : κ) (y : V) : ∀ kvs : List (κ × V),valV kvs k = none -> valV (kvs ++ [(k,y)]) j = if j = k then some y else valV kvs j
 | [],_ => by
  by_cases e : k = j
  ·rw [if_pos e.symm]; exact valV_pos (p:=(k,y)) e
  ·rw [if_neg (fun z => e z.symm)]; exact valV_neg (p:=(k,y)) e
 | p :: r,hn => by
  rw [List.cons_append]
  have hk : ¬ p.1 = k:=fun z => by rw [valV_pos z] at hn; cases hn
  rw [valV_neg hk] at hn
  have ih:=valV_snoc k j y r hn
  by_cases e : p.1 = j
  ·rw [valV_pos e,valV_pos e,if_neg (fun z => hk (e.trans z))]
  ·rw [valV_neg e,valV_neg e,ih]
theorem valV_put (kvs : List (κ × V)) (k j : κ) (y : V) : valV (putK kvs k y) j = if j = k then some y else valV kvs j:=by
 unfold putK
 by_cases a : (kvs.any fun kv => decide (kv.1 = k)) = true
 ·rw [if_pos a,valV_map]
  rw [valV_any] at a
  by_cases e : j = k
  ·obtain ⟨x,hx⟩:=Option.isSome_iff_exists.mp a
   rw [if_pos e,e,hx,Option.map_some,if_pos rfl]
  ·rw [if_neg e]
   cases valV kvs j with
   | none => rfl
   | some x => rw [Option.map_some,if_neg e]
 ·rw [if_neg a]
  refine valV_snoc k j y kvs ?_
  rw [valV_any] at a
  cases q : valV kvs k with
  | none => rfl
  | some x => rw [q] at a; exact (a rfl).elim
theorem length_putK (kvs : List (κ × V)) (k : κ) (v : V) : (putK kvs k v).length <= kvs.length + 1:=by
 unfold putK
 split
 ·rw [List.length_map]; omega
 ·rw [List.length_append,List.length_cons,List.length_nil]; omega
theorem putK_new {kvs : List (κ × V)} {k : κ} (v : V) (h : valV kvs k = none) : putK kvs k v = kvs ++ [(k,v)]:=by
 unfold putK
 rw [valV_any,h]
 exact if_neg (by decide)
theorem RelO.isSome_eq {o : Option V} {u : Option Value} (r : RelO o u) : o.isSome = u.isSome:=by
 cases o with
 | none => cases u with
  | none => rfl
  | some _ => exact (show False from r).elim
 | some _ => cases u with
  | none => exact (show False from r).elim
  | some _ => rfl
theorem KV.val {kvs : List (κ × V)} {vs : List (κ × Value)} (r : KV kvs vs) (k : κ) : RelO (valV kvs k) (valueAt vs k):=by
 unfold KV at r
 induction r with
 | nil => exact True.intro
 | @cons p q ps qs h t ih =>
  obtain ⟨h1,h2⟩:=h
  by_cases e : p.1 = k
  ·have e' : q.1 = k:=h1.symm.trans e
   have b : valueAt (q :: qs) k = some q.2:=by simp [valueAt,List.find?_cons,e']
   rw [valV_pos e,b]; exact h2
  ·have e' : ¬ q.1 = k:=fun z => e (h1.trans z)
   have b : valueAt (q :: qs) k = valueAt qs k:=by simp [valueAt,List.find?_cons,e']
   rw [valV_neg e,b]; exact ih
theorem KV.any {kvs : List (κ × V)} {vs : List (κ × Value)} (r : KV kvs vs) (k : κ) : (kvs.any fun kv => decide (kv.1 = k)) = vs.any fun kv => decide (kv.1 = k):=by
 unfold KV at r
 induction r with
 | nil => rfl
 | cons h t ih => rw [List.any_cons,List.any_cons,ih,h.1]
theorem KV.repl {kvs : List (κ × V)} {vs : List (κ × Value)} (r : KV kvs vs) (k : κ) {y : V} {u : Value} (ry : RelV y u) :
  KV (kvs.map fun kv => if kv.1 = k then (kv.1,y) else kv) (vs.map fun kv => if kv.1 = k then (kv.1,u) else kv):=by
 unfold KV at r ⊢
 induction r with
 | nil => exact .nil
 | @cons p q ps qs h t ih =>
  rw [List.map_cons,List.map_cons]
  refine .cons ?_ ih
  obtain ⟨h1,h2⟩:=h
  by_cases e : p.1 = k
  ·rw [if_pos e,if_pos (h1.symm.trans e)]; exact ⟨h1,ry⟩
  ·rw [if_neg e,if_neg (fun z => e (h1.trans z))]; exact ⟨h1,h2⟩
theorem KV.put {kvs : List (κ × V)} {vs : List (κ × Value)} (r : KV kvs vs) (k : κ) {y : V} {u : Value} (ry : RelV y u) : KV (putK kvs k y) (stored vs k u):=by
 unfold putK stored
 rw [r.any k]
 by_cases e : (vs.any fun kv => decide (kv.1 = k)) = true
 ·rw [if_pos e,if_pos e]; exact r.repl k ry
 ·rw [if_neg e,if_neg e]; exact Paired.snoc r ⟨rfl,ry⟩
theorem KV.length {kvs : List (κ × V)} {vs : List (κ × Value)} (r : KV kvs vs) : kvs.length = vs.length:=Paired.length r
end
theorem kV_is {P : Program} {w : World} {k : Key} {u : Value} (r : RelV (kV k) u) : (mixKind P w).is k u = true:=by
 cases k with
 | inl i => obtain ⟨t,e⟩:=(show ∃ t,u = Value.int i t from r); subst e; exact mixKind_int P w i t
 | inr x => obtain ⟨t,e⟩:=(show ∃ t,u = Value.str x t from r); subst e; exact mixKind_str P w x t
theorem items_are {P : Program} {w : World} : ∀ {ks : List Key} {us : List Value},Vals (ks.map kV) us -> ItemsAre (mixKind P w) ks us
 | [],_,r => by rw [List.map_nil] at r; cases r; exact .nil
 | k :: ks,_,r => by
  rw [List.map_cons] at r
  cases r with
  | cons h t => exact .cons (kV_is h) (items_are t)
abbrev KT (H : Hp) : List (List Key × V) -> List (List Key × Addr × Value) -> Prop:=Paired fun p q => p.1 = q.1 /\ H q.2.1 = some (.tup (p.1.map kV)) /\ RelV p.2 q.2.2
theorem KT.val {H : Hp} {kvs : List (List Key × V)} {xs : List (List Key × Addr × Value)} (r : KT H kvs xs) (k : List Key) : RelO (valV kvs k) ((atKey xs k).map (·.2)):=by
 induction r with
 | nil => exact True.intro
 | @cons p q ps qs h t ih =>
  obtain ⟨h1,_,h2⟩:=h
  by_cases e : p.1 = k
  ·have e' : q.1 = k:=h1.symm.trans e
   have b : atKey (q :: qs) k = some q.2:=by simp [atKey,List.find?_cons,e']
   rw [valV_pos e,b]; exact h2
  ·have e' : ¬ q.1 = k:=fun z => e (h1.trans z)
   have b : atKey (q :: qs) k = atKey qs k:=by simp [atKey,List.find?_cons,e']
   rw [valV_neg e,b]; exact ih
theorem KT.repl {H : Hp} {kvs : List (List Key × V)} {xs : List (List Key × Addr × Value)} (r : KT H kvs xs) (k : List Key) {y : V} {u : Value} (ry : RelV y u) :
  KT H (kvs.map fun kv => if kv.1 = k then (kv.1,y) else kv) (xs.map (putAt k u)):=by
 induction r with
 | nil => exact .nil
 | @cons p q ps qs h t ih =>
  rw [List.map_cons,List.map_cons]
  refine .cons ?_ ih
  obtain ⟨h1,h2,h3⟩:=h
  unfold putAt
  by_cases e : p.1 = k
  ·rw [if_pos e,if_pos (h1.symm.trans e)]; exact ⟨h1,h2,ry⟩
  ·rw [if_neg e,if_neg (fun z => e (h1.trans z))]; exact ⟨h1,h2,h3⟩
theorem KT.put {H : Hp} {kvs : List (List Key × V)} {xs : List (List Key × Addr × Value)} (r : KT H kvs xs) (k : List Key) {b : Addr} {y : V} {u : Value} (hb : H b = some (.tup (k.map kV))) (ry : RelV y u) :
  KT H (putK kvs k y) (storedH xs k b u):=by
 have e : (kvs.any fun kv => decide (kv.1 = k)) = (atKey xs k).isSome:=by
  rw [valV_any,(r.val k).isSome_eq,Option.isSome_map]
 unfold putK storedH
 rw [e]
 by_cases q : (atKey xs k).isSome = true
 ·rw [if_pos q,if_pos q]; exact r.repl k ry
 ·rw [if_neg q,if_neg q]; exact Paired.snoc r ⟨rfl,hb,ry⟩
theorem KT.keeps {H H' : Hp} {kvs : List (List Key × V)} {xs : List (List Key × Addr × Value)} (r : KT H kvs xs) (ht : ∀ b ys,H b = some (.tup ys) -> H' b = some (.tup ys)) : KT H' kvs xs :=
 Paired.mapP r fun _ _ z => ⟨z.1,ht _ _ z.2.1,z.2.2⟩
section
variable {P : Program} {w : World} {H : Hp} {h : Heap} {a : Addr}
theorem rd_of {u : HO} (ok : HOk P w H h) (e : Rd H a u) : ObjOk P w H h a u:=e.ok ok
theorem dk_rd {kvs : List (Key × V)} (ok : HOk P w H h) (e : Rd H a (.dK kvs)) : kvs.length <= sizeLine /\ (a == sysModules) = false /\ ∃ vs,KV kvs vs /\ h.DictOf (mixKind P w) a vs :=
 show ObjOk P w H h a (.dK kvs) from rd_of ok e
theorem dk_of {kvs : List (Key × V)} (ok : HOk P w H h) (e : H a = some (.dK kvs)) : kvs.length <= sizeLine /\ (a == sysModules) = false /\ ∃ vs,KV kvs vs /\ h.DictOf (mixKind P w) a vs:=dk_rd ok (.inl e)
theorem key_of {ks : List Key} (ok : HOk P w H h) (e : H a = some (.tup (ks.map kV))) : (tupleKind (mixKind P w)).is h ks a:=by
 obtain ⟨_,its,r,o,h1,h2,n,h3⟩:=(show ObjOk P w H h a (.tup (ks.map kV)) from ok a _ e)
 exact ⟨o,its.toArray,n,h1,h2,h3,by simpa using items_are r⟩
theorem dt_rd {kvs : List (List Key × V)} (ok : HOk P w H h) (e : Rd H a (.dT kvs)) : kvs.length <= sizeLine /\ (a == sysModules) = false /\
  ∃ xs,KT H kvs xs /\ h.DictOfH (tupleKind (mixKind P w)) a xs:=by
 obtain ⟨z,y,xs,r,o,es,ep,h1,h2,h3,h4,h5⟩:=(show ObjOk P w H h a (.dT kvs) from rd_of ok e)
 refine ⟨z,y,xs,r,o,es,ep,h1,h2,h3,h4,fun x hx => ?_,h5⟩
 have all : ∀ {l : List (List Key × V)} {m : List (List Key × Addr × Value)},KT H l m -> ∀ x ∈ m,(tupleKind (mixKind P w)).is h x.1 x.2.1:=by
  intro l m q
  induction q with
  | nil => intro x hx; exact nomatch hx
  | @cons p q ps qs hq t ih =>
   intro x hx
   rcases List.mem_cons.mp hx with e | hx
   ·subst e
    exact key_of ok (by rw [← hq.1]; exact hq.2.1)
   ·exact ih x hx
 exact all r x hx
theorem dt_of {kvs : List (List Key × V)} (ok : HOk P w H h) (e : H a = some (.dT kvs)) : kvs.length <= sizeLine /\ (a == sysModules) = false /\
  ∃ xs,KT H kvs xs /\ h.DictOfH (tupleKind (mixKind P w)) a xs:=dt_rd ok (.inl e)
end
def DGet (H : Hp) (a : Addr) (y : V) (r : Option V) : Prop :=
 (∃ kvs k,Rd H a (.dK kvs) /\ y = kV k /\ r = valV kvs k) \/ ∃ kvs k b,Rd H a (.dT kvs) /\ y = .ref b /\ H b = some (.tup (k.map kV)) /\ r = valV kvs k
def DPut (H : Hp) (a : Addr) (y v : V) (H' : Hp) : Prop :=
 (∃ kvs k,H a = some (.dK kvs) /\ y = kV k /\ kvs.length < sizeLine /\ H' = upd H a (.dK (putK kvs k v))) \/
 ∃ kvs k b,H a = some (.dT kvs) /\ y = .ref b /\ H b = some (.tup (k.map kV)) /\ kvs.length < sizeLine /\ H' = upd H a (.dT (putK kvs k v))
theorem DGet.k {H : Hp} {a : Addr} {kvs : List (Key × V)} {k : Key} (e : H a = some (.dK kvs)) : DGet H a (kV k) (valV kvs k):=.inl ⟨kvs,k,.inl e,rfl,rfl⟩
theorem DGet.t {H : Hp} {a b : Addr} {kvs : List (List Key × V)} {k : List Key} (e : H a = some (.dT kvs)) (eb : H b = some (.tup (k.map kV))) : DGet H a (.ref b) (valV kvs k):=.inr ⟨kvs,k,b,.inl e,rfl,eb,rfl⟩
theorem DPut.k {H : Hp} {a : Addr} {kvs : List (Key × V)} {k : Key} {v : V} (e : H a = some (.dK kvs)) (hl : kvs.length < sizeLine) : DPut H a (kV k) v (upd H a (.dK (putK kvs k v))):=.inl ⟨kvs,k,e,rfl,hl,rfl⟩
theorem DPut.t {H : Hp} {a b : Addr} {kvs : List (List Key × V)} {k : List Key} {v : V} (e : H a = some (.dT kvs)) (eb : H b = some (.tup (k.map kV))) (hl : kvs.length < sizeLine) :
  DPut H a (.ref b) v (upd H a (.dT (putK kvs k v))):=.inr ⟨kvs,k,b,e,rfl,eb,hl,rfl⟩
section
variable {X : Cx} {pins : List (Addr × Obj)} {σ : St} {H : Hp} {s : Shared} {a : Addr} {y v : V} {u r : Value} {o : Option V} {A : Around} {E : Value -> Shared -> Prop}
theorem Inv.big (I : Inv X pins σ H s) : sysModules < s.heap.objs.size:=by
 have h : mainGlobals < s.heap.objs.size:=(I.mod.glob.keeps I.bk).lt
 exact Nat.lt_trans (by decide) h
theorem d_getItem {Q : Value -> Shared -> Prop} (hu : A.units + 1 < cLine) (I : Inv X pins σ H s) (g : DGet H a y (some v)) (ry : RelV y u) (h : ∀ w' s',Inv X pins σ H s' -> RelV v w' -> Q w' s') :
  wpAny (model X.prog X.w) A (getItem (.ref a) u) Q E s:=by
 rcases g with ⟨kvs,k,e,ey,l⟩ | ⟨kvs,k,b,e,ey,eb,l⟩
 ·subst ey
  obtain ⟨z,hd,vs,rel,dd⟩:=dk_rd I.hok e
  obtain ⟨w',hw,rw'⟩:=RelO.some_of (v:=v) (o:=valueAt vs k) (by rw [l]; exact rel.val k)
  exact wpAny_getItem_of (kV_is ry) dd.mapOf hw (h w' _ (I.tok _) rw')
 ·subst ey
  cases (show u = Value.ref b from ry)
  obtain ⟨z,hd,xs,rel,dd⟩:=dt_rd I.hok e
  obtain ⟨w',hw,rw'⟩:=RelO.some_of (v:=v) (o:=(atKey xs k).map (·.2)) (by rw [l]; exact rel.val k)
  obtain ⟨p,hp,hp2⟩:=Option.map_eq_some_iff.mp hw
  refine wpAny_getItem_heap (tupleKind_room_in1 hu) (key_of I.hok eb) dd hp ?_
  rw [hp2]
  exact h w' _ (I.tok _) rw'
theorem d_in {Q : Value -> Shared -> Prop} (hu : A.units + 1 < cLine) (I : Inv X pins σ H s) (g : DGet H a y o) (ry : RelV y u) (h : ∀ s',Inv X pins σ H s' -> Q (.bool o.isSome) s') :
  wpAny (model X.prog X.w) A (compareOp .In u (.ref a)) Q E s:=by
 rcases g with ⟨kvs,k,e,ey,l⟩ | ⟨kvs,k,b,e,ey,eb,l⟩
 ·subst ey
  obtain ⟨z,hd,vs,rel,dd⟩:=dk_rd I.hok e
  refine wpAny_in_of (kV_is ry) hd dd.mapOf ?_
  rw [← (rel.val k).isSome_eq,← l]
  exact h _ (I.tok _)
 ·subst ey
  cases (show u = Value.ref b from ry)
  obtain ⟨z,hd,xs,rel,dd⟩:=dt_rd I.hok e
  refine wpAny_in_heap (tupleKind_room_in1 hu) (key_of I.hok eb) hd dd ?_
  have q:=(rel.val k).isSome_eq
  rw [Option.isSome_map] at q
  rw [← q,← l]
  exact h _ (I.tok _)
theorem d_notIn {Q : Value -> Shared -> Prop} (hu : A.units + 1 < cLine) (I : Inv X pins σ H s) (g : DGet H a y o) (ry : RelV y u) (h : ∀ s',Inv X pins σ H s' -> Q (.bool (!o.isSome)) s') :
  wpAny (model X.prog X.w) A (compareOp .NotIn u (.ref a)) Q E s:=by
 rcases g with ⟨kvs,k,e,ey,l⟩ | ⟨kvs,k,b,e,ey,eb,l⟩
 ·subst ey
  obtain ⟨z,hd,vs,rel,dd⟩:=dk_rd I.hok e
  refine wpAny_notIn_of (kV_is ry) hd dd.mapOf ?_
  rw [← (rel.val k).isSome_eq,← l]
  exact h _ (I.tok _)
 ·subst ey
  cases (show u = Value.ref b from ry)
  obtain ⟨z,hd,xs,rel,dd⟩:=dt_rd I.hok e
  refine wpAny_notIn_heap (tupleKind_room_in1 hu) (key_of I.hok eb) hd dd ?_
  have q:=(rel.val k).isSome_eq
  rw [Option.isSome_map] at q
  rw [← q,← l]
  exact h _ (I.tok _)
theorem d_write {h' : Heap} {t' : Nat} {ob : HO} (I : Inv X pins σ H s) (mu : Mut (H a)) (hs : Heap.SameBut a s.heap h') (he : ∃ q,h'.get? a = some q) (new : ObjOk X.prog X.w (upd H a ob) h' a ob) :
  Inv X pins σ (upd H a ob) { s with heap:=h',toks:=t' } :=
 I.write (x:=a) (e:=a) mu (.inl rfl) (fun b q hb z => (hs.2 b hb).trans z) he new
theorem dk_new {P : Program} {w : World} {H' : Hp} {h' : Heap} {kvs : List (Key × V)} {vs : List (Key × Value)} (z : kvs.length <= sizeLine) (hd : (a == sysModules) = false) (rel : KV kvs vs) (dd : h'.DictOf (mixKind P w) a vs) :
  ObjOk P w H' h' a (.dK kvs):=⟨z,hd,vs,rel,dd⟩
theorem d_setItem {H' : Hp} {Q : Unit -> Shared -> Prop} (hu : A.units + 1 < cLine) (I : Inv X pins σ H s) (g : DPut H a y v H') (ry : RelV y u) (rv : RelV v r) (h : ∀ s',Inv X pins σ H' s' -> Q () s') :
  wpAny (model X.prog X.w) A (setItem (.ref a) u r) Q E s:=by
 rcases g with ⟨kvs,k,e,ey,l,eH⟩ | ⟨kvs,k,b,e,ey,eb,l,eH⟩
 ·subst ey eH
  obtain ⟨z,hd,vs,rel,dd⟩:=dk_of I.hok e
  have hz : vs.length <= sizeLine:=by rw [← rel.length]; exact z
  have hl : (putK kvs k v).length <= sizeLine:=by have:=length_putK kvs k v; omega
  refine wpAny_setItem_pairs (hsz:=hz) (kV_is ry) dd fun h' dd' hs => h _ ?_
  have he : ∃ q,h'.get? a = some q:=let ⟨q,_,_,hq,_⟩:=dd'; ⟨q,hq⟩
  exact d_write I (by rw [e]; exact True.intro) hs he (dk_new hl hd (rel.put k rv) dd')
 ·subst ey eH
  cases (show u = Value.ref b from ry)
  obtain ⟨z,hd,xs,rel,dd⟩:=dt_of I.hok e
  have hz : xs.length <= sizeLine:=by rw [← Paired.length rel]; exact z
  have hl : (putK kvs k v).length <= sizeLine:=by have:=length_putK kvs k v; omega
  refine wpAny_setItem_heap (hsz:=hz) (tupleKind_room_in1 hu) (key_of I.hok eb) dd fun h' dd' hs => h _ ?_
  obtain ⟨q,es,ep,hq,h2,h3,h4,_,h5⟩:=dd'
  refine d_write I (by rw [e]; exact True.intro) hs ⟨q,hq⟩ ⟨hl,hd,_,(rel.put k eb rv).keeps fun c ys ec => ?_,q,es,ep,hq,h2,h3,h4,h5⟩
  rw [upd_ne (ne_of ec e (fun z => nomatch z))]
  exact ec
end
section
variable {X : Cx} {pins : List (Addr × Obj)} {σ : St} {H : Hp} {s : Shared} {a : Addr} {kvs : List (Key × V)} {k : Key} {u : Value} {A : Around} {E : Value -> Shared -> Prop}
theorem d_len {Q : Value -> Shared -> Prop} (I : Inv X pins σ H s) (e : Rd H a (.dK kvs)) (h : ∀ t s',Inv X pins σ H s' -> Q (.int kvs.length t) s') : wpAny (model X.prog X.w) A (call (.builtin "len") [.ref a]) Q E s:=by
 obtain ⟨z,hd,vs,rel,dd⟩:=dk_rd I.hok e
 refine call_len_dict hd dd (by rw [← rel.length]; rw [sizeLine_eq] at z; omega) ?_
 rw [← rel.length]
 exact h _ _ (I.tok _)
end
def NoSl (i : Expr) : Prop:=∀ ov iv,subscripted i false ov iv = operate [ov,iv] (getItem ov iv)
theorem subD_of {prog : Program} {w : World} {A : Around} {E : Value -> Shared -> Prop} {s : Shared} {env : Env} {value slice : Expr} {pos : Pos} {T id : String} {Q : Value -> Shared -> Prop}
  (hl : typeLookup (.type T) "__getitem__" = pure (some (.builtin id))) (hs : NoSl slice)
  (h : wpAny (model prog w) A (eval value env) (fun o s₁ => wpAny (model prog w) A (eval slice env) (fun i s₂ => s₂.TypeIs o T /\ wpAny (model prog w) A (getItem o i) Q E s₂) E s₁) E s) :
  wpAny (model prog w) A (eval (.Subscript value slice pos) env) Q E s:=by
 refine Subscript_ (wpAny_mono h (fun o s₁ h₁ => wpAny_mono h₁ (fun i s₂ h₂ => ?_) fun _ _ x => x) fun _ _ x => x)
 obtain ⟨hT,h₂⟩:=h₂
 unfold subscriptTail
 refine wpAny_bind ?_
 rw [getitemInPython_of_ne hT.not_modules]
 refine wpAny_bind (wpAny_specialOf hT hl ?_)
 have fin : wpAny (model prog w) A (subscripted slice false o i) (fun r s₃ => wpAny (model prog w) A (letTemporaryGo value o r >>= fun _ => pure r) Q E s₃) E s₂:=by
  rw [hs o i]
  exact wpAny_operating (wpAny_mono h₂ (fun r s₃ h₃ => wpAny_bind (wpAny_letTemporaryGo (wpAny_pure h₃))) fun _ _ x => x)
 first
  | exact wpAny_pure (wpAny_bind fin)
  | exact wpAny_bind (wpAny_pure (wpAny_bind fin))
  | exact wpAny_bind fin
theorem dict_typeIs {X : Cx} {pins : List (Addr × Obj)} {σ : St} {H : Hp} {s : Shared} {a : Addr} {y : V} {o : Option V} (I : Inv X pins σ H s) (g : DGet H a y o) : s.TypeIs (.ref a) "dict":=by
 rcases g with ⟨kvs,k,e,_,_⟩ | ⟨kvs,k,b,e,_,_,_⟩
 ·obtain ⟨_,_,vs,_,dd⟩:=dk_rd I.hok e
  exact dd.typeIs
 ·obtain ⟨_,_,xs,_,dd⟩:=dt_rd I.hok e
  exact dd.typeIs
section
variable {X : Cx} {o i e value : Expr} {pos pos' tpos : Pos} {td ty tv : TE}
end
theorem dk_empty {P : Program} {w : World} {H : Hp} (h : Heap) (hb : sysModules < h.objs.size) : ObjOk P w H (h.push { cls:=.type "dict",data:=.dict #[] }) h.objs.size (.dK []) :=
 ⟨Nat.zero_le _,beq_eq_false_iff_ne.mpr (Ne.symm (Nat.ne_of_lt hb)),[],.nil,Heap.DictOf.new h⟩
theorem dt_empty {P : Program} {w : World} {H : Hp} (h : Heap) (hb : sysModules < h.objs.size) : ObjOk P w H (h.push { cls:=.type "dict",data:=.dict #[] }) h.objs.size (.dT []) :=
 ⟨Nat.zero_le _,beq_eq_false_iff_ne.mpr (Ne.symm (Nat.ne_of_lt hb)),[],.nil,_,#[],0,Heap.get?_push_size _ rfl,⟨rfl,rfl,rfl⟩,rfl,rfl,List.nodup_nil⟩
def tDNewK : TE:=fun _ H Q => ∀ p,H p = none -> Q (.ref p) (upd H p (.dK []))
def tDNewT : TE:=fun _ H Q => ∀ p,H p = none -> Q (.ref p) (upd H p (.dT []))
section
variable {X : Cx} {pos : Pos}
theorem pe_dnewK : PE X (.Dict [] [] pos) tDNewK:=fun pins s σ H Q I h =>
 wpAny_Dict_empty ⟨.ref s.heap.objs.size,_,I.laid (a:=s.heap.objs.size) (o:=.dK []) (t':=s.toks) (fun _ _ q => Heap.get?_push_of_some _ q) (Nat.le_refl _) (dk_empty s.heap I.big),rfl,h _ (I.hok.fresh (Nat.le_refl _))⟩
theorem pe_dnewT : PE X (.Dict [] [] pos) tDNewT:=fun pins s σ H Q I h =>
 wpAny_Dict_empty ⟨.ref s.heap.objs.size,_,I.laid (a:=s.heap.objs.size) (o:=.dT []) (t':=s.toks) (fun _ _ q => Heap.get?_push_of_some _ q) (Nat.le_refl _) (dt_empty s.heap I.big),rfl,h _ (I.hok.fresh (Nat.le_refl _))⟩
end
def tPairs : List (TE × TE) -> St -> Hp -> (List (V × V) -> Hp -> Prop) -> Prop
 | [],_,H,Q => Q [] H
 | (tk,tv) :: r,σ,H,Q => tk σ H fun x H1 => tv σ H1 fun y H2 => tPairs r σ H2 fun ps H3 => Q ((x,y) :: ps) H3
abbrev VV : List (V × V) -> List (Value × Value) -> Prop:=Paired fun p q => RelV p.1 q.1 /\ RelV p.2 q.2
def PPs (X : Cx) (pos : Pos) (keys : List (Option Expr)) (values : List Expr) (trs : List (TE × TE)) : Prop :=
 ∀ (pins : List (Addr × Obj)) (s : Shared) (σ : St) (H : Hp) (Q : List (V × V) -> Hp -> Prop),Inv X pins σ H s -> tPairs trs σ H Q ->
  wpAny (model X.prog X.w) X.A (evalPairs (pairTrees keys values X.env pos)) (fun vs s' => ∃ ps H',Inv X pins σ H' s' /\ VV ps vs /\ Q ps H') X.xe s
theorem pps_nil {X : Cx} {pos : Pos} : PPs X pos [] [] []:=fun pins s σ H Q I h => pairTrees_nil_walk ⟨[],H,I,.nil,h⟩
theorem pps_cons {X : Cx} {pos : Pos} {k v : Expr} {ks : List (Option Expr)} {vs : List Expr} {tk tv : TE} {trs : List (TE × TE)} (hk : PE X k tk) (hv : PE X v tv) (hr : PPs X pos ks vs trs) :
  PPs X pos (some k :: ks) (v :: vs) ((tk,tv) :: trs):=fun pins s σ H Q I h =>
 pairTrees_cons_walk (thn (hk pins s σ H _ I h) fun u s1 ⟨x,H1,I1,rx,q1⟩ => thn (hv pins s1 σ H1 _ I1 q1) fun w2 s2 ⟨y,H2,I2,ry,q2⟩ =>
  thn (hr pins s2 σ H2 _ I2 q2) fun ws s3 ⟨ps,H3,I3,rel,q3⟩ => ⟨(x,y) :: ps,H3,I3,.cons ⟨rx,ry⟩ rel,q3⟩)
def mergeK (kvs more : List (Key × V)) : List (Key × V):=more.foldl (fun acc kv => putK acc kv.1 kv.2) kvs
theorem KV.merge : ∀ {more : List (Key × V)} {rs : List (Key × Value)} {kvs : List (Key × V)} {vs : List (Key × Value)},KV more rs -> KV kvs vs -> KV (mergeK kvs more) (merged vs rs):=by
 intro more rs kvs vs r
 unfold KV at r
 induction r generalizing kvs vs with
 | nil => intro q; exact q
 | @cons p q ps qs h t ih =>
  intro r0
  have e : KV (putK kvs p.1 p.2) (stored vs q.1 q.2):=by
   have:=r0.put p.1 h.2
   rw [← h.1]; exact this
  exact ih e
theorem length_mergeK : ∀ (more kvs : List (Key × V)),(mergeK kvs more).length <= kvs.length + more.length
 | [],kvs => by show kvs.length <= kvs.length + 0; omega
 | p :: r,kvs => by
  have h1:=length_mergeK r (putK kvs p.1 p.2)
  have h2:=length_putK kvs p.1 p.2
  show (mergeK (putK kvs p.1 p.2) r).length <= _
  rw [List.length_cons]; omega
theorem carries_of {P : Program} {w : World} : ∀ {kvs : List (Key × V)} {ws : List (Value × Value)},VV (kvs.map fun kv => (kV kv.1,kv.2)) ws -> ∃ rs,Carries (mixKind P w) ws rs /\ KV kvs rs
 | [],_,r => by rw [List.map_nil] at r; cases r; exact ⟨[],True.intro,.nil⟩
 | p :: kvs,_,r => by
  rw [List.map_cons] at r
  cases r with
  | @cons a b as bs h t =>
   obtain ⟨rs,c,q⟩:=carries_of (P:=P) (w:=w) t
   obtain ⟨b1,b2⟩:=b
   exact ⟨(p.1,b2) :: rs,⟨kV_is h.1,rfl,c⟩,.cons ⟨rfl,h.2⟩ q⟩
def tDisp (trs : List (TE × TE)) : TE:=fun σ H Q => ∀ p,H p = none -> tPairs trs σ (upd H p (.dK [])) fun ps H2 => H2 p = some (.dK []) /\ ∃ kvs : List (Key × V),ps = kvs.map (fun kv => (kV kv.1,kv.2)) /\ kvs.length <= 15 /\ Q (.ref p) (upd H2 p (.dK (mergeK [] kvs)))
theorem pe_disp {X : Cx} {pos : Pos} {keys : List (Option Expr)} {values : List Expr} {trs : List (TE × TE)} (h : PPs X pos keys values trs) (hall : keys.all (·.isSome) = true) (hl : keys.length = values.length) (h0 : keys ≠ [])
  (h15 : keys.length <= 15) : PE X (.Dict keys values pos) (tDisp trs):=by
 intro pins s σ H Q I q
 have hn:=I.hok.fresh (Nat.le_refl s.heap.objs.size)
 have I1:=I.laid (a:=s.heap.objs.size) (o:=.dK []) (h':=s.heap.push { cls:=.type "dict",data:=.dict #[] }) (t':=s.toks) (fun _ _ q => Heap.get?_push_of_some _ q) (Nat.le_refl _) (dk_empty s.heap I.big)
 refine wpAny_Dict_walk (knd:=mixKind X.prog X.w) hall hl h0 h15 (thn (h pins _ σ _ _ I1 (q _ hn)) fun ws s2 ⟨ps,H2,I2,rel,e,kvs,ep,lk,q2⟩ => ?_)
 subst ep
 obtain ⟨rs,c,rk⟩:=carries_of (P:=X.prog) (w:=X.w) rel
 obtain ⟨z,hd,vs0,r0,dd⟩:=dk_of I2.hok e
 cases r0
 refine ⟨rs,c,dd,fun h' dd' hs => ⟨.ref s.heap.objs.size,_,?_,rfl,q2⟩⟩
 have hz : (mergeK [] kvs).length <= sizeLine:=by
  have h1:=length_mergeK kvs []
  rw [List.length_nil] at h1
  rw [sizeLine_eq]; omega
 have he : ∃ q,h'.get? s.heap.objs.size = some q:=let ⟨q,_,_,hq,_⟩:=dd'; ⟨q,hq⟩
 exact d_write I2 (by rw [e]; exact True.intro) hs he (dk_new hz hd (rk.merge .nil) dd')
def IsD (H : Hp) (a : Addr) : Prop:=(∃ kvs,Rd H a (.dK kvs)) \/ ∃ kvs,Rd H a (.dT kvs)
section
variable {X : Cx} {pins : List (Addr × Obj)} {σ : St} {H : Hp} {s : Shared} {a : Addr} {y d : V} {u r : Value} {o : Option V} {A : Around} {E : Value -> Shared -> Prop}
end
def tDGet1 (td ty : TE) : TE:=fun σ H Q => td σ H fun x H1 => ∃ a,x = .ref a /\ IsD H1 a /\ ty σ H1 fun y H2 => ∃ o,DGet H2 a y o /\ Q (o.getD .non) H2
def tDGet2 (td ty tx : TE) : TE:=fun σ H Q => td σ H fun x H1 => ∃ a,x = .ref a /\ IsD H1 a /\ ty σ H1 fun y H2 => tx σ H2 fun z H3 => ∃ o,DGet H3 a y o /\ Q (o.getD z) H3
section
variable {X : Cx} {o e f : Expr} {apos cpos : Pos} {td ty tx : TE}
end
section
variable {X : Cx} {pins : List (Addr × Obj)} {σ : St} {H : Hp} {s : Shared} {a : Addr} {kvs : List (Key × V)} {A : Around} {E : Value -> Shared -> Prop}
end
section
variable {X : Cx} {pins : List (Addr × Obj)} {σ : St} {H : Hp} {s : Shared} {a : Addr} {y : V} {u : Value} {A : Around} {E : Value -> Shared -> Prop}
end
end L2
namespace Att
open PySem PySem.W PySem.Calls PyProof.Rows
theorem ints_of_wellAll {P : Params} {h : Heap} : ∀ (ns : List Int) (vs : List Value),WellAll P h vs (ns.map WData.int) -> IntsAre vs ns:=by
 intro ns
 induction ns with
 | nil =>
  intro vs w
  rw [List.map_nil] at w
  cases w
  exact .nil
 | cons n ns ih =>
  intro vs w
  rw [List.map_cons] at w
  cases w with
  | cons a b =>
   cases a
   exact .cons _ _ (ih _ b)
theorem script_of {l : OpenLaw} {n : Nat} (hn : l.most = some n) {P : Params} {h : Heap} {args : List WData} {vals : List Value}
  (hpre : l.row.toRowW.claim.pre args = true) (hwl : WellAll P h vals args) :
  ∃ a vs ns,vals = [Value.ref a] /\ args = [WData.list (ns.map WData.int)] /\ h.get? a = some { cls:=.type "list",data:=.seq vs.toArray } /\ IntsAre vs ns /\ ns.length <= n:=by
 have hsh : WShape.hasAll [] args [.list .int] = true:=(pre_splitW hpre).1
 have hc : l.pre.holds [] { args:=args } = true:=(pre_splitW hpre).2
 obtain ⟨d,r,rfl,h1,h2⟩:=hasAllW_cons hsh
 obtain rfl:=hasAllW_nil h2
 obtain ⟨xs,rfl,h3⟩:=hasW_list h1
 obtain ⟨ns,rfl⟩:=items_int h3
 have hlen : ns.length <= n:=by
  unfold OpenLaw.pre at hc
  have h4 : (WTm.not (.lt (.lit (.int (n : Int))) (.len (.arg 0)))).holds [] { args:=[.list (ns.map .int)] } = true:=by
   have h4:=(holds_andW hc).1
   rw [hn] at h4
   exact h4
  have h5:=condW_of h4 (w_not (w_lt w_lit (w_len_list (w_arg rfl))))
  rw [List.length_map] at h5
  refine Nat.le_of_not_lt fun q => ?_
  have q' : (n : Int) < ((ns.length : Nat) : Int):=by omega
  first
   | (rw [decide_eq_true q'] at h5; exact absurd h5 (by decide))
   | (simp at h5; omega)
 cases hwl with
 | cons w1 w2 =>
  cases w2
  cases w1 with
  | list ho hall => exact ⟨_,_,ns,rfl,rfl,ho,ints_of_wellAll ns _ hall,hlen⟩
theorem post_true (l : OpenLaw) (args : List WData) : l.row.toRowW.claim.post args (.bool true) args = true :=
 postW_of (r:=l.row.toRowW) (X:=(true == true))
  (show WShape.has [] (.bool true) .bool = true by first | rfl | decide | simp [WShape.has,WShape.arms,WShape.armsAll])
  (show (WTm.eq .res (.lit (.bool true))).value [] { args:=args,res:=some (.bool true),after:=args } = some (.bool (true == true)) from w_eq_bool (w_res rfl) w_lit) rfl
theorem attach_call {l : OpenLaw} {n : Nat} {q : Program} {loose : List Str} {XP : (Str -> Option Value) -> Heap -> Prop} {YP : World -> Heap -> Prop} {d : DefRec}
  (hn : l.most = some n) (hdf : d.params.defaults = [])
  (call : ∀ (w : World) (s₀ s₁ : Shared) (mg mb : Str -> Option Value) (fa : Addr) (o : Obj) (pm cd doc : Value) (a : Addr) (vs : List Value) (ns : List Int),
   Ground q loose [] XP w s₀ mg mb s₁.heap -> YP w s₁.heap ->
   s₁.heap.get? fa = some o -> o.data = .func (docDef d.name d.params d.body d.scope pm cd doc) -> s₁.heap.CodeRec cd d.name -> mg d.name = some (.ref fa) ->
   s₁.heap.get? a = some { cls:=.type "list",data:=.seq vs.toArray } -> IntsAre vs ns -> ns.length <= n -> s₁.gens = #[] ->
   codeAny (model l.prog w) callerA (.call (.ref fa) ⟨[.ref a],[]⟩) (fun r s' => r = .ok (.ret (.bool true)) /\ OldK s₁.heap s'.heap /\ s'.os = s₁.os /\ AllBare s'.gens) s₁) :
  WalkO q loose XP YP l.row.toRowW d [] (fun f vs => PySem.call f vs):=by
 intro w s₀ s₁ mg mb G Y fa o pm cd doc dV kV ho hd hcd hD hmg hg args vals as hpre hlay hrd hwl hlo
 obtain rfl : dV = .none:=Dflts.none hD hdf
 obtain rfl : kV = .none:=Dflts.noKw hD
 obtain ⟨a,vs,ns,rfl,rfl,hobj,hints,hlen⟩:=script_of hn hpre hwl
 refine enter_call (codeAny_mono (call w s₀ s₁ mg mb fa o pm cd doc a vs ns G Y ho (fd_plain hd) hcd hmg hobj hints hlen hg) fun r s' hq => ?_)
 obtain ⟨rfl,h2,h3,h4⟩:=hq
 exact ⟨.inl ⟨.bool true,.bool true,[],rfl,fun _ => rfl,.bool true,post_true l _,fun _ => ⟨List.Pairwise.nil,fun _ hm => (nomatch hm)⟩⟩,h2,h3,h4⟩
section
variable {prog : Program} {w : World} {A : Around} {E : Value -> Shared -> Prop} {s : Shared} {K : Frag}
end
end Att
namespace L2
open PySem PySem.Spec PyProof.Rows
theorem vals_ints : ∀ {vs : List Value} {ns : List Int},IntsAre vs ns -> Vals (ns.map V.int) vs
 | _,_,.nil => .nil
 | _,_,.cons n t h => .cons ⟨t,rfl⟩ (vals_ints h)
def Only (H : Hp) : Prop:=∀ b,H b = none \/ ∃ o xs,H b = some (.frz o (.lst xs))
theorem law_call {P : Program} {w : World} {K : PySem.W.Frag} {mg mb : Str -> Option Value} {CX : CXT} {k : Nat} {fa a : Addr} {fd : FuncData} {x : Str} {sp : Sp} {s₁ : Shared} {vs : List Value} {ns : List Int}
  (KX : K.In s₁.heap) (hns : s₁.heap.Ns mainGlobals mg) (hb : s₁.heap.Ns builtinsNs mb) (hbb : ∀ x : Str,x ≠ "__name__" -> mb x = bootBuiltins x) (hlim : s₁.heap.NoLimit) (hg : s₁.gens = #[])
  (ha : s₁.heap.get? a = some { cls:=.type "list",data:=.seq vs.toArray }) (hi : IntsAre vs ns) (hl : ns.length <= sizeLine) (hr : Room k callerA)
  (F : ∀ base : Heap,K.In base -> base.Ns mainGlobals mg -> FnOk P w K mg base CX k fa fd [x] sp) (hbind : ∀ (s : Shared) (u : Value),BindsTo s fd ⟨[u],[]⟩ [(x,u)])
  (hsp : ∀ H : Hp,Only H -> SqL K H a (ns.map V.int) -> sp [.ref a] H (fun v _ => v = .bl true) fun _ _ _ => False)
  (hCX : ∀ H e s',CX [] H s₁ (fun _ _ _ => False) e s' -> False) :
  codeAny (model P w) callerA (.call (.ref fa) ⟨[.ref a],[]⟩) (fun r s' => r = .ok (.ret (.bool true)) /\ OldK s₁.heap s'.heap /\ s'.os = s₁.os /\ AllBare s'.gens) s₁:=by
 have rv:=vals_ints hi
 have lenV:=hi.length
 -- from an abstract heap in which nothing but the script may be tracked
 have core : ∀ H : Hp,Only H -> SqL K H a (ns.map V.int) -> HOk P w H s₁.heap -> (∀ b,H b ≠ none -> b = a) -> (H a ≠ none -> K.lookup a = none) ->
   codeAny (model P w) callerA (.call (.ref fa) ⟨[.ref a],[]⟩) (fun r s' => r = .ok (.ret (.bool true)) /\ OldK s₁.heap s'.heap /\ s'.os = s₁.os /\ AllBare s'.gens) s₁:=by
  intro H hO hS hok hA hK
  have base_of : ∀ {b : Addr} {o : Obj},s₁.heap.get? b = some o -> H b = none -> (hidT s₁.heap H).get? b = some o:=fun e n => hidT_get e n
  have noA : ∀ {b : Addr} {o : Obj} {es : Array DictEntry} {ep : Nat},s₁.heap.get? b = some o -> o.data = .dict es ep -> H b = none:=fun {b o es ep} e d => by
   cases q : H b with
   | none => rfl
   | some u =>
    have e' : b = a:=hA b (by rw [q]; simp)
    subst e'
    rw [ha] at e; cases e
    have d' : Data.seq vs.toArray _ = Data.dict es ep:=d
    cases d'
  have nsK : ∀ {b : Addr} {m : Str -> Option Value},s₁.heap.Ns b m -> (hidT s₁.heap H).Ns b m:=fun {b m} ⟨o,es,ep,e,d,r⟩ => ⟨o,es,ep,base_of e (noA e d),d,r⟩
  have hKb : K.In (hidT s₁.heap H):=fun b o e => base_of (KX b o e) (by
   cases q : H b with
   | none => rfl
   | some u =>
    have e' : b = a:=hA b (by rw [q]; simp)
    subst e'
    rw [hK (by rw [q]; simp)] at e; cases e)
  have hM : Mod K mg (hidT s₁.heap H):=⟨hKb,nsK hns,⟨mb,nsK hb,hbb⟩,let ⟨mc,h1,h2⟩:=hlim; ⟨mc,nsK h1,h2⟩⟩
  have e0 : Env0 P w K mg (hidT s₁.heap H) callerA [] s₁ H:=⟨rfl,hM,fun b o e => of_hidT e,Nat.le_of_eq (hidT_size _ _),trivial,fun b hb => absurd (show b ∈ ([] : List Addr) from hb) (by simp),hok,.of_eq hg⟩
  refine codeAny_mono ((F _ hKb (nsK hns)).run callerA [] s₁ H ⟨[.ref a],[]⟩ [.ref a] [.ref a] _ _ hr e0 (hbind s₁ (.ref a)) (.cons rfl .nil) (hsp H hO hS)) fun r s' h => ?_
  cases r with
  | error e => exact (hCX H e s' h).elim
  | ok fl =>
   cases fl with
   | next => exact False.elim h
   | brk => exact False.elim h
   | cont => exact False.elim h
   | ret u =>
    obtain ⟨v,H',os,bare,un,hok',r',q⟩:=h
    have q' : v = .bl true:=q
    subst q'
    obtain rfl : u = Value.bool true:=r'
    refine ⟨rfl,OldK.of_keep fun b o e => ?_,os,bare⟩
    cases q : H b with
    | none => exact un.keep b o e q (by intro z; exact absurd (show b ∈ ([] : List Addr) from z) (by simp)) (by simp)
    | some u =>
     rcases hO b with z | ⟨ob,xs,z⟩
     ·rw [q] at z; cases z
     ·have z2:=un.frzs b ob _ z
      obtain ⟨e1,_⟩:=hok b _ z
      obtain ⟨e2,_⟩:=hok' b _ z2
      rw [e] at e1; cases e1
      exact e2
 cases hk : K.lookup a with
 | some o =>
  -- the script is one of the module's own objects
  have e:=KX a o hk
  rw [ha] at e
  cases e
  refine core (fun _ => none) (fun _ => .inl rfl) (.inr ⟨_,vs.toArray,_,hk,rfl,rfl,rfl,by rw [List.size_toArray,lenV]; exact hl,by simpa using rv⟩) (fun b u z => by have z' : (none : Option HO) = some u:=z; cases z') (fun b z => absurd rfl z) fun z => absurd rfl z
 | none =>
  refine core (fun b => if b = a then some (.frz { cls:=.type "list",data:=.seq vs.toArray } (.lst (ns.map V.int))) else none) (fun b => ?_) (.inl (.inr ⟨{ cls:=.type "list",data:=.seq vs.toArray },if_pos rfl⟩)) (fun b u z => ?_) (fun b z => ?_) fun _ => hk
  ·by_cases hb : b = a
   ·exact .inr ⟨_,_,if_pos hb⟩
   ·exact .inl (if_neg hb)
  ·by_cases hb : b = a
   ·have z':=(if_pos hb).symm.trans z
    cases z'
    subst hb
    exact ⟨ha,by rw [List.length_map]; exact hl,vs,_,rv,ha⟩
   ·have z':=(if_neg hb).symm.trans z
    cases z'
  ·by_cases hb : b = a
   ·exact hb
   ·exact absurd (if_neg hb) z
end L2
namespace L2
open PySem PySem.Spec PyProof.Rows
theorem walk_of {l : PySem.W.OpenLaw} {n k : Nat} {q : Program} {loose : List Str} {XP : (Str -> Option Value) -> Heap -> Prop} {YP : World -> Heap -> Prop} {d : DefRec} {K : Params -> PySem.W.Frag} {CX : World -> CXT} {sp : World -> Sp} {x : Str}
  (hn : l.most = some n) (hn2 : n <= sizeLine) (hdf : d.params.defaults = []) (hr : Room k callerA)
  (hY : ∀ (w : World) (h : Heap),YP w h -> (K w.params).In h)
  (F : ∀ (w : World) (mg : Str -> Option Value) (fa : Addr) (h : Heap),(K w.params).In h -> h.Ns mainGlobals mg -> mg d.name = some (.ref fa) ->
   ∃ fd : FuncData,(∀ (s : Shared) (u : Value),BindsTo s fd ⟨[u],[]⟩ [(x,u)]) /\
    ∀ base : Heap,(K w.params).In base -> base.Ns mainGlobals mg -> FnOk l.prog w (K w.params) mg base (CX w) k fa fd [x] (sp w))
  (hsp : ∀ (w : World) (H : Hp) (a : Addr) (ns : List Int),ns.length <= n -> Only H -> SqL (K w.params) H a (ns.map V.int) -> sp w [.ref a] H (fun v _ => v = .bl true) fun _ _ _ => False)
  (hCX : ∀ (w : World) (H : Hp) (s : Shared) (e : Value) (s' : Shared),CX w [] H s (fun _ _ _ => False) e s' -> False) :
  PySem.W.WalkO q loose XP YP l.row.toRowW d [] (fun f vs => PySem.call f vs):=by
 refine Att.attach_call hn hdf fun w s₀ s₁ mg mb fa o pm cd doc a vs ns G Y ho hd hcd hmg hobj hints hlen hg => ?_
 have KX:=hY w _ Y
 obtain ⟨fd,hb,hF⟩:=F w mg fa _ KX G.T.g hmg
 exact law_call KX G.T.g G.T.b G.T.builtins G.T.nolimit hg hobj hints (Nat.le_trans hlen hn2) hr hF hb (fun H hO hS => hsp w H a ns hlen hO hS) fun H e s' => hCX w H s₁ e s'
end L2
namespace L2
open PySem PySem.Spec PyProof.Rows
def defArgs (s : Stmt) : Arguments:=match s with
 | .FunctionDef _ a _ _ _ _ _ _ _ _ => a
 | _ => { posonlyargs:=[],args:=[],vararg:=none,kwonlyargs:=[],kw_defaults:=[],kwarg:=none,defaults:=[] }
def defBody (s : Stmt) : List Stmt:=match s with
 | .FunctionDef _ _ b _ _ _ _ _ _ _ => b
 | _ => []
def defScope (s : Stmt) : Scope:=match s with
 | .FunctionDef _ _ _ _ _ _ sc _ _ _ => sc
 | _ => { kind:=.function,names:=[],isGenerator:=false,isCoroutine:=false }
abbrev CX0 : CXT:=fun _ _ _ _ _ _ => False
abbrev E0 : XK:=fun _ _ _ => False
theorem pass0 {X : Cx} : Passes CX0 X E0:=fun _ _ _ _ _ _ _ h => h.elim
structure Fun (K : PySem.W.Frag) (x qual : Str) (st : Stmt) (f : Addr) (fd : FuncData) : Prop where
 ex : ∃ (oc : Value) (od : Option Addr) (kV doc pm : Value) (an : Option Addr) (cdv ct : Value) (osl : Array (Option Value)),
  fd = PySem.W.fnOf x qual (defArgs st) (defBody st) (defScope st) .none kV doc pm an cdv ct /\ K.lookup f = some ⟨oc,od,.func fd,osl⟩ /\ PySem.W.codeIn K cdv qual = true
 kp : PySem.W.keepIn K (.ref f) = true
section
variable {P : Program} {w : World} {K : PySem.W.Frag} {mg : Str -> Option Value} {base : Heap}
theorem Fun.ok {x qual : Str} {st : Stmt} {f : Addr} {fd : FuncData} {N ps : List Str} {k : Nat} {sp : Sp} (F : Fun K x qual st f fd) (S : FnScope N ps (defScope st)) (len : ∀ vs H Q E,sp vs H Q E -> vs.length = ps.length)
  (hbody : ∀ (cdv : Value) (A : Around) (outer : List Env) (s : Shared) (H : Hp) (vs : List V) (Q : VK) (E : XK),Room k (A.deeper (envOfC qual (defScope st) s.heap.objs.size f cdv)) -> sp vs H Q E ->
   ∃ t,PSs (cxOf CX0 P w K mg base N qual (defScope st) f cdv A outer s H E).nox (defBody st) t /\ t { nx:=fun _ H' => Q .non H',rt:=Q } (start N vs) H) : FnOk P w K mg base CX0 (k + 1) f fd ps sp:=by
 obtain ⟨oc,od,kV,doc,pm,an,cdv,ct,osl,rfl,lk,hcd⟩:=F.ex
 refine fn_of lk hcd S len fun A outer s H vs Q E hr hsp => ?_
 obtain ⟨t,h,q⟩:=hbody cdv A outer s H vs Q E hr hsp
 exact ⟨t,h.nox,q⟩
theorem Fun.binds {x qual : Str} {st : Stmt} {f : Addr} {fd : FuncData} {ps : List Str} (F : Fun K x qual st f fd)
  (h : ∀ (kV doc pm : Value) (an : Option Addr) (cdv ct : Value) (us : List Value),us.length = ps.length -> bindArgs (PySem.W.fnOf x qual (defArgs st) (defBody st) (defScope st) .none kV doc pm an cdv ct) ⟨us,[]⟩ = pure (ps.zip us)) : Binds K fd ps []:=by
 obtain ⟨oc,od,kV,doc,pm,an,cdv,ct,osl,rfl,lk,hcd⟩:=F.ex
 exact .all (h kV doc pm an cdv ct)
theorem fun_mk {x qual : Str} {st : Stmt} {f : Addr} {oc : Value} {od an : Option Addr} {osl : Array (Option Value)} {kV doc pm cdv ct : Value} (l : K.lookup f = some ⟨oc,od,.func (PySem.W.fnOf x qual (defArgs st) (defBody st) (defScope st) .none kV doc pm an cdv ct),osl⟩)
  (c : PySem.W.codeIn K cdv qual = true) (k : PySem.W.keepIn K (.ref f) = true) : Fun K x qual st f (PySem.W.fnOf x qual (defArgs st) (defBody st) (defScope st) .none kV doc pm an cdv ct):=⟨⟨oc,od,kV,doc,pm,an,cdv,ct,osl,rfl,l,c⟩,k⟩
end
theorem hu_of {A : Around} {k : Nat} (hr : Room k A) : A.units + 1 < cLine:=Nat.lt_of_le_of_lt (Nat.add_le_add_left (by decide : 1 <= 64) _) hr.units
theorem small1000 {n : Nat} (h : n <= 1000) : n < sizeLine:=Nat.lt_of_le_of_lt h (by decide)
section
variable {X : Cx}
theorem pv (i : Nat) {x : Str} {pos : Pos} (hN : X.N[i]? = some x:=by rfl) (hv : Vis X.env.scope x:=by first | exact Or.inl rfl | exact Or.inr (Or.inl rfl) | exact Or.inr (Or.inr rfl)) (hd : (x == ("__debug__" : Str)) = false:=by decide)
  (hcd : (x == ("__classdict__" : Str)) = false:=by decide) : PE X (.Name x pos) (tVar i):=pe_var hN hv hd hcd
end
theorem ite2 {c A B : Prop} [Decidable c] (h1 : c -> A) (h2 : ¬ c -> B) : if c then A else B:=by
 by_cases h : c
 ·rw [if_pos h]
  exact h1 h
 ·rw [if_neg h]
  exact h2 h
def Same (H H' : Hp) : Prop:=∀ b o,H b = some o -> H' b = some o
theorem Same.refl (H : Hp) : Same H H:=fun _ _ h => h
theorem Same.trans {H H1 H2 : Hp} (a : Same H H1) (b : Same H1 H2) : Same H H2:=fun c o h => b c o (a c o h)
theorem Same.free {H H' : Hp} (e : Same H H') {l : Addr} (h : H' l = Option.none) : H l = Option.none:=by
 cases q : H l with
 | none => rfl
 | some o =>
  rw [e l o q] at h
  cases h
theorem Same.seq {K : PySem.W.Frag} {H H' : Hp} {a : Addr} {xs : List V} (e : Same H H') (h : SqL K H a xs) : SqL K H' a xs:=by
 rcases h with (h | ⟨o,h⟩) | h
 ·exact .inl (.inl (e _ _ h))
 ·exact .inl (.inr ⟨o,e _ _ h⟩)
 ·exact .inr h
end L2
namespace L2
open PySem PySem.Spec PyProof.Rows
section
variable {X : Cx}
theorem call_lenD : CallR X (.builtin "len") (fun xs H Q => ∃ a kvs,xs = [V.ref a] /\ H a = some (.dK kvs) /\ Q (.int kvs.length) H):=by
 intro pins s σ H xs us Q I r h
 obtain ⟨a,kvs,rfl,ha,q⟩:=h
 obtain ⟨u,rfl,ru⟩:=vals1 r
 cases ru
 exact d_len I (.inl ha) fun t s' I' => ⟨.int kvs.length,H,I',⟨t,rfl⟩,q⟩
end
end L2
namespace L2
open PySem PySem.Spec PyProof.Rows
section
variable {κ : Type} [DecidableEq κ]
end
end L2
set_option Elab.async false
set_option linter.all false
set_option maxRecDepth 100000
namespace L2
open PySem PySem.Spec PyProof.Rows
section
variable {σ : St} {H : Hp} {Q : VK} {D : Ends}
theorem w_var {i : Nat} : tVar i σ H Q = ∃ v,σ[i]? = some (some v) /\ Q v H:=rfl
theorem w_C {v : V} : tC v σ H Q = Q v H:=rfl
theorem w_op {r : R2} {ta tb : TE} : tOp r ta tb σ H Q = ta σ H fun x H1 => tb σ H1 fun y H2 => r x y H2 Q:=rfl
theorem w_un {r : V -> Hp -> VK -> Prop} {ta : TE} : tUn r ta σ H Q = ta σ H fun x H1 => r x H1 Q:=rfl
theorem w_rI {C : Int -> Int -> Prop} {g : Int -> Int -> V} {i j : Int} : rI C g (.int i) (.int j) H Q = (C i j /\ Q (g i j) H) :=
 propext ⟨fun ⟨a,b,e1,e2,c,q⟩ => by cases e1; cases e2; exact ⟨c,q⟩,fun ⟨c,q⟩ => ⟨i,j,rfl,rfl,c,q⟩⟩
theorem w_rI0 {g : Int -> Int -> V} {i j : Int} : rI0 g (.int i) (.int j) H Q = Q (g i j) H :=
 propext ⟨fun ⟨a,b,e1,e2,q⟩ => by cases e1; cases e2; exact q,fun q => ⟨i,j,rfl,rfl,q⟩⟩
theorem w_rU {g : Int -> V} {i : Int} : rU g (.int i) H Q = Q (g i) H :=
 propext ⟨fun ⟨a,e1,q⟩ => by cases e1; exact q,fun q => ⟨i,rfl,q⟩⟩
theorem w_eqI {i j : Int} : rEq (.int i) (.int j) H Q = Q (.bl (decide (i = j))) H :=
 propext (by
  have e : decide (V.int i = V.int j) = decide (i = j):=by by_cases h : i = j <;> simp [h]
  unfold rEq; rw [e]; exact ⟨fun h => h.2,fun h => ⟨rfl,h⟩⟩)
theorem w_neI {i j : Int} : rNe (.int i) (.int j) H Q = Q (.bl (!decide (i = j))) H :=
 propext (by
  have e : decide (V.int i = V.int j) = decide (i = j):=by by_cases h : i = j <;> simp [h]
  unfold rNe; rw [e]; exact ⟨fun h => h.2,fun h => ⟨rfl,h⟩⟩)
theorem w_seq {t u : TS} : tSeq t u D σ H = t { D with nx:=u D } σ H:=rfl
theorem w_next : tNext D σ H = D.nx σ H:=rfl
theorem w_break : tBreak D σ H = D.bk σ H:=rfl
theorem w_cont : tCont D σ H = D.ct σ H:=rfl
theorem w_ifS {c : TT} {t u : TS} : tIfS c t u D σ H = c σ H fun b H1 => if b = true then t D σ H1 else u D σ H1:=rfl
theorem w_ret {te : TE} : tRet te D σ H = te σ H D.rt:=rfl
theorem w_retN : tRetN D σ H = D.rt .non H:=rfl
theorem w_drop {te : TE} : tDrop te D σ H = te σ H fun _ H1 => D.nx σ H1:=rfl
theorem w_asg {te : TE} {g : TG} : tAsg te g D σ H = te σ H fun x H1 => g x σ H1 D.nx:=rfl
theorem w_gName {i : Nat} {v : V} {R : St -> Hp -> Prop} : gName i v σ H R = R (σ.set i (some v)) H:=rfl
theorem w_gSub {to ti : TE} {t : TSet} {v : V} {R : St -> Hp -> Prop} : gSub to ti t v σ H R = to σ H fun o H1 => ti σ H1 fun i H2 => t o i v H2 fun H3 => R σ H3:=rfl
theorem w_test {t : TE} {R : Bool -> Hp -> Prop} : tTest t σ H R = t σ H fun x H' => ∃ k,x = .bl k /\ R k H':=rfl
theorem w_B {t : TE} {R : Bool -> Hp -> Prop} : tB t σ H R = t σ H fun x H' => ∃ k,x = .bl k /\ R k H':=rfl
theorem w_and {t u : TT} {R : Bool -> Hp -> Prop} : tAnd t u σ H R = t σ H fun c H1 => if c = true then u σ H1 R else R false H1:=rfl
theorem w_or {t u : TT} {R : Bool -> Hp -> Prop} : tOr t u σ H R = t σ H fun c H1 => if c = true then R true H1 else u σ H1 R:=rfl
theorem w_not {t : TT} {R : Bool -> Hp -> Prop} : tNot t σ H R = t σ H fun c H1 => R (!c) H1:=rfl
theorem w_andV {ta tb : TE} : tAndV ta tb σ H Q = ta σ H fun x H1 => ∃ c,x = .bl c /\ if c = true then tb σ H1 Q else Q (.bl false) H1:=rfl
theorem w_orV {ta tb : TE} : tOrV ta tb σ H Q = ta σ H fun x H1 => ∃ c,x = .bl c /\ if c = true then Q (.bl true) H1 else tb σ H1 Q:=rfl
theorem w_notV {ta : TE} : tNotV ta σ H Q = ta σ H fun x H1 => ∃ c,x = .bl c /\ Q (.bl (!c)) H1:=rfl
theorem w_if {t : TT} {ta tb : TE} : tIf t ta tb σ H Q = t σ H fun c H1 => if c = true then ta σ H1 Q else tb σ H1 Q:=rfl
theorem w_call {sp : Sp} {dvs : List V} {E : XK} {t : TA} : tCall sp dvs E t σ H Q = t σ H fun vs H1 => sp (vs ++ dvs) H1 Q E:=rfl
theorem w_nil {R : List V -> Hp -> Prop} : tNil σ H R = R [] H:=rfl
theorem w_cons {ta : TE} {tr : TA} {R : List V -> Hp -> Prop} : tCons ta tr σ H R = ta σ H fun x H1 => tr σ H1 fun xs H2 => R (x :: xs) H2:=rfl
theorem w_CB {r : List V -> Hp -> VK -> Prop} {t : TA} : tCB r t σ H Q = t σ H fun vs H1 => r vs H1 Q:=rfl
theorem w_lst {t : TA} : tLst t σ H Q = t σ H fun xs H1 => xs.length <= sizeLine /\ ∀ p,H1 p = none -> Q (.ref p) (upd H1 p (.lst xs)):=rfl
theorem w_tup {t : TA} : tTup t σ H Q = t σ H fun xs H1 => xs.length <= sizeLine /\ ∀ p,H1 p = none -> Q (.ref p) (upd H1 p (.tup xs)):=rfl
theorem w_isN {ta : TE} : tIsN ta σ H Q = ta σ H fun x H1 => Q (.bl (decide (x = .non))) H1:=rfl
theorem w_notN {ta : TE} : tNotN ta σ H Q = ta σ H fun x H1 => Q (.bl (!decide (x = .non))) H1:=rfl
theorem w_chain {r r' : R2} {ta tb tc : TE} : tChain r r' ta tb tc σ H Q = (ta σ H fun x H1 => tb σ H1 fun y H2 => r x y H2 fun z H3 => ∃ k,z = .bl k /\
 if k = true then tc σ H3 fun w H4 => r' y w H4 Q else Q (.bl false) H3):=by first | rfl | (unfold tChain; rfl)
end
section
variable {X : Cx} {st : Stmt} {rest : List Stmt} {t u : TS}
def tMid (t u : TS) : TS:=fun D σ H => ∃ mid : St -> Hp -> Prop,t { D with nx:=mid } σ H /\ ∀ σ' H',mid σ' H' -> u D σ' H'
theorem pss_mid (h1 : PS X st t) (h2 : PSs X rest u) : PSs X (st :: rest) (tMid t u):=by
 intro pins s σ H D I h
 obtain ⟨mid,q,k⟩:=h
 refine wpAny_execs_cons (thn (h1 pins s σ H { D with nx:=mid } I q) fun f s1 q => ?_)
 cases f with
 | next =>
  obtain ⟨σ',H',I',q⟩:=q
  exact h2 pins s1 σ' H' D I' (k _ _ q)
 | ret v => exact q
 | brk => exact q
 | cont => exact q
end
structure Cal (P : Program) (w : World) (K : PySem.W.Frag) (mg : Str -> Option Value) (base : Heap) (k : Nat) (x : Str) (ps : List Str) (sp : Sp) : Prop where
 ex : ∃ (f : Addr) (fd : FuncData),FnOk P w K mg base CX0 k f fd ps sp /\ mg x = some (.ref f) /\ PySem.W.keepIn K (.ref f) = true /\ Binds K fd ps []
theorem Cal.mono {P : Program} {w : World} {K : PySem.W.Frag} {mg : Str -> Option Value} {base : Heap} {j k : Nat} {x : Str} {ps : List Str} {sp : Sp} (C : Cal P w K mg base j x ps sp) (h : j <= k) : Cal P w K mg base k x ps sp:=by
 obtain ⟨f,fd,a,b,c,d⟩:=C.ex
 exact ⟨f,fd,a.mono h,b,c,d⟩
section
variable {X : Cx} {k : Nat} {x : Str} {ps : List Str} {sp : Sp} {e : Expr} {es : List Expr} {t : TA} {p pos : Pos}
theorem pe_cal (C : Cal X.prog X.w X.K X.mg X.base k x ps sp) (hr : Room k X.A) (hg : Gl X x) (ha : PA X (e :: es) t) (hd : (x == ("__debug__" : Str)) = false:=by decide)
  (he : starEach (e :: es) X.env = (false,eval e X.env) :: starEach es X.env:=by rfl) (hpl : (backTo pos (starEach es X.env)).any (·.1) = false:=by rfl) : PE X (.Call (.Name x p) (e :: es) [] pos) (tCall sp [] E0 t):=by
 obtain ⟨f,fd,a,b,c,d⟩:=C.ex
 exact pe_call a hr hg b c d .nil pass0 ha hd he hpl
end
theorem bits_le {i : Int} {n : Nat} (h : i.natAbs < 2 ^ n) : Builtin.Int.intBits i <= n:=by
 unfold Builtin.Int.intBits
 split
 ·exact Nat.zero_le _
 ·rename_i h0
  have hp : i.natAbs ≠ 0:=by
   intro z
   exact h0 (by simpa using z)
  have : i.natAbs.log2 < n:=(Nat.log2_lt hp).mpr h
  omega
def CShl (i j : Int) : Prop:=0 <= j /\ j <= 1000000 /\ Builtin.Int.intBits i <= 1000000
def CDivB (i j : Int) : Prop:=0 < j /\ j.natAbs.log2 < 9000
section
variable {X : Cx}
theorem op_shlB : OpR X (binaryOp .LShift) (rI CShl fun i j => .int (i * 2 ^ j.toNat)):=opI fun i j _ _ _ _ _ hc q => lshift_int hc.1 (by have h1:=hc.2.1; have h2:=hc.2.2; omega) q
theorem op_mulB : OpR X (binaryOp .Mult) (rI IntMulOk fun i j => .int (i * j)):=opI fun _ _ _ _ _ _ _ hc q => mul_int q hc
theorem op_fdivB : OpR X (binaryOp .FloorDiv) (rI CDivB fun i j => .int (i / j)):=opI fun i j _ _ _ _ _ hc q => by
 have e : i / j = i.fdiv j:=(Int.fdiv_eq_ediv_of_nonneg i (Int.le_of_lt hc.1)).symm
 rw [e] at q
 exact floordiv_int (by have:=hc.1; omega) q (.inl (PyProof.noPylong_of_log2 hc.2))
def rIsI (K : PySem.W.Frag) : List V -> Hp -> VK -> Prop:=fun xs H Q => ∃ x T t b,xs = [x,.ty T] /\ TyOf K H x t /\ PySem.W.kitOne K t (.type T) = some b /\ Q (.bl b) H
theorem call_isI : CallR X (.builtin "isinstance") (rIsI X.K):=by
 intro pins s σ H xs us Q I r h
 obtain ⟨x,T,t,b,rfl,ty,e,q⟩:=h
 obtain ⟨u1,u2,rfl,r1,r2⟩:=Vals.two r
 cases r2
 exact isinst_ok I r1 ty e fun tk => ⟨.bl b,H,I.tok _,rfl,q⟩
end
theorem mul_l {i j : Int} (h1 : -(2 ^ 64) < i) (h2 : i < 2 ^ 64) : IntMulOk i j:=.of_left (intBits_le_64 h1 h2)
theorem mul_r {i j : Int} (h1 : -(2 ^ 64) < j) (h2 : j < 2 ^ 64) : IntMulOk i j:=.of_right (intBits_le_64 h1 h2)
theorem kit_same {K : PySem.W.Frag} (T : String) : PySem.W.kitOne K (.type T) (.type T) = some true:=by unfold PySem.W.kitOne; rw [if_pos (by simp)]
theorem kit_int_bool {K : PySem.W.Frag} : PySem.W.kitOne K (.type "int") (.type "bool") = some false:=by first | rfl | decide +kernel | (unfold PySem.W.kitOne PySem.W.kitCls; decide +kernel)
theorem kit_bool_int {K : PySem.W.Frag} : PySem.W.kitOne K (.type "bool") (.type "int") = some true:=by first | rfl | decide +kernel
theorem kit_non_int {K : PySem.W.Frag} : PySem.W.kitOne K (.type "NoneType") (.type "int") = some false:=by first | rfl | decide +kernel
theorem kit_str_int {K : PySem.W.Frag} : PySem.W.kitOne K (.type "str") (.type "int") = some false:=by first | rfl | decide +kernel
end L2
set_option Elab.async false
set_option linter.all false
set_option maxRecDepth 100000
namespace L2
open PySem PySem.Spec PyProof.Rows
theorem bo_len : bootBuiltins "len" = some (.builtin "len"):=by decide +kernel
theorem bo_abs : bootBuiltins "abs" = some (.builtin "abs"):=by decide +kernel
theorem bo_sorted : bootBuiltins "sorted" = some (.builtin "sorted"):=by decide +kernel
theorem bo_isinstance : bootBuiltins "isinstance" = some (.builtin "isinstance"):=by decide +kernel
theorem bo_int : bootBuiltins "int" = some (.type "int"):=by decide +kernel
theorem bo_bool : bootBuiltins "bool" = some (.type "bool"):=by decide +kernel
theorem bo_list : bootBuiltins "list" = some (.type "list"):=by decide +kernel
theorem bo_tuple : bootBuiltins "tuple" = some (.type "tuple"):=by decide +kernel
theorem bo_str : bootBuiltins "str" = some (.type "str"):=by decide +kernel
theorem bo_set : bootBuiltins "set" = some (.type "set"):=by decide +kernel
theorem bo_zip : bootBuiltins "zip" = some (.type "zip"):=by decide +kernel
def CPowB (i j : Int) : Prop:=0 <= j /\ j <= 1000000 /\ -(2 ^ 64) < i /\ i < 2 ^ 64
section
variable {X : Cx}
theorem op_powB : OpR X (binaryOp .Pow) (rI CPowB fun i j => .int (i ^ j.toNat)):=opI fun i j _ _ _ _ _ hc q => pow_int_small hc.1 hc.2.1 (by have h1:=hc.2.2.1; have h2:=hc.2.2.2; omega) q
end
theorem w_shl1 {j : Int} : CShl 1 j = (0 <= j /\ j <= 1000000):=propext ⟨fun h => ⟨h.1,h.2.1⟩,fun h => ⟨h.1,h.2,Nat.le_trans (bits_le (n:=1) (by decide)) (by decide)⟩⟩
theorem divB {i j : Int} (h : 0 < j) (h2 : j < 2 ^ 64) : CDivB i j:=⟨h,by
 have e : j.natAbs < 2 ^ 64:=by omega
 have e2 : j.natAbs ≠ 0:=by omega
 have:=(Nat.log2_lt e2).mpr e
 omega⟩
section
variable {P : Program} {w : World} {K : PySem.W.Frag} {mg : Str -> Option Value} {base : Heap}
theorem mkCal {x qual : Str} {st : Stmt} {N ps : List Str} {k : Nat} {sp : Sp} (T : ∃ (f : Addr) (fd : FuncData),Fun K x qual st f fd /\ mg x = some (.ref f) /\ Binds K fd ps []) (S : FnScope N ps (defScope st)) (len : ∀ vs H Q E,sp vs H Q E -> vs.length = ps.length)
  (hbody : ∀ (f : Addr) (cdv : Value) (A : Around) (outer : List Env) (s : Shared) (H : Hp) (vs : List V) (Q : VK) (E : XK),Room k (A.deeper (envOfC qual (defScope st) s.heap.objs.size f cdv)) -> sp vs H Q E ->
   ∃ t,PSs (cxOf CX0 P w K mg base N qual (defScope st) f cdv A outer s H E).nox (defBody st) t /\ t { nx:=fun _ H' => Q .non H',rt:=Q } (start N vs) H) : Cal P w K mg base (k + 1) x ps sp:=by
 obtain ⟨f,fd,F,m,b⟩:=T
 exact ⟨f,fd,F.ok S len fun cdv A outer s H vs Q E hr h => hbody f cdv A outer s H vs Q E hr h,m,F.kp,b⟩
end
def Chg (p : Addr) (H H' : Hp) : Prop:=∀ b o,b ≠ p -> H b = some o -> H' b = some o
theorem Chg.refl {p : Addr} {H : Hp} : Chg p H H:=fun _ _ _ h => h
theorem Chg.trans {p : Addr} {H H1 H2 : Hp} (a : Chg p H H1) (b : Chg p H1 H2) : Chg p H H2:=fun c o n h => b c o n (a c o n h)
theorem Same.chg {p : Addr} {H H' : Hp} (h : Same H H') : Chg p H H':=fun b o _ q => h b o q
theorem Chg.upd {p : Addr} {H : Hp} (o : HO) : Chg p H (upd H p o):=fun b u n q => by rw [upd_ne n]; exact q
theorem same_new {H : Hp} {p : Addr} (h : H p = none) (o : HO) : Same H (upd H p o):=fun b u q => by rw [upd_ne (ne_of_none q h)]; exact q
def Scr (K : PySem.W.Frag) (H : Hp) (a : Addr) (ns : List Int) : Prop :=
 (∃ o,H a = some (.frz o (.lst (ns.map V.int)))) \/ (∃ (o : Obj) (its : Array Value) (n : Nat),K.lookup a = some o /\ o.cls = .type "list" /\ o.dict = none /\ o.data = .seq its n /\ its.size <= sizeLine /\ Vals (ns.map V.int) its.toList)
section
variable {K : PySem.W.Frag} {H H' : Hp} {a p : Addr} {ns : List Int}
theorem Scr.sq (h : Scr K H a ns) : SqL K H a (ns.map V.int):=by
 rcases h with h | h
 ·exact .inl (.inr h)
 ·exact .inr h
theorem scr_of (hO : Only H) (hS : SqL K H a (ns.map V.int)) : Scr K H a ns:=by
 rcases hS with (h | h) | h
 ·rcases hO a with z | ⟨o,xs,z⟩
  ·rw [z] at h; cases h
  ·rw [z] at h; cases h
 ·exact .inl h
 ·exact .inr h
theorem Scr.same (h : Scr K H a ns) (s : Same H H') : Scr K H' a ns:=by
 rcases h with ⟨o,h⟩ | h
 ·exact .inl ⟨o,s _ _ h⟩
 ·exact .inr h
theorem Scr.chg {xs : List V} (h : Scr K H a ns) (hp : H p = some (.lst xs)) (s : Chg p H H') : Scr K H' a ns:=by
 rcases h with ⟨o,h⟩ | h
 ·exact .inl ⟨o,s _ _ (ne_of h hp (by intro z; cases z)) h⟩
 ·exact .inr h
end
def spLaw (K : PySem.W.Frag) : Sp:=fun vs H Q _ => ∃ (a : Addr) (ns : List Int),vs = [.ref a] /\ Scr K H a ns /\ ns.length <= 63 /\ ∀ H',Q (.bl true) H'
theorem atI_int {ns : List Int} {i : Int} (h0 : 0 <= i) (h1 : i < (ns.length : Int)) : ∃ v : Int,atI (ns.map V.int) i = some (.int v) /\ ns[i.toNat]? = some v:=by
 have hk : i.toNat < ns.length:=by omega
 have e : i = ((i.toNat : Nat) : Int):=by omega
 have q : atI (ns.map V.int) ((i.toNat : Nat) : Int) = some (.int ns[i.toNat]):=atI_nat (by rw [List.getElem?_map,List.getElem?_eq_getElem hk] <;> rfl)
 rw [← e] at q
 exact ⟨ns[i.toNat],q,List.getElem?_eq_getElem hk⟩
def lim : Nat -> Int
 | 0 => 11
 | n + 1 => 1000000 * (lim n - 1)
def rIxM : R2:=fun x y H Q => ∃ p xs i v,x = .ref p /\ y = .int i /\ H p = some (.lst xs) /\ atI xs i = some v /\ Q v H
def rIxU : R2:=fun x y H Q => ∃ p xs i v,x = .ref p /\ y = .int i /\ H p = some (.tup xs) /\ atI xs i = some v /\ Q v H
section
variable {X : Cx}
theorem IxR.mono {r r' : R2} (h : IxR X r) (m : ∀ x y H Q,r' x y H Q -> r x y H Q) : IxR X r':=fun va sl pins s σ H x y v u Q I rx ry q hs => h va sl pins s σ H x y v u Q I rx ry (m _ _ _ _ q) hs
theorem ix_M : IxR X rIxM:=ix_list.mono fun x y H Q ⟨p,xs,i,v,e1,e2,h,a,q⟩ => ⟨p,xs,i,v,e1,e2,SqL.of h,a,q⟩
theorem ix_U : IxR X rIxU:=ix_tup.mono fun x y H Q ⟨p,xs,i,v,e1,e2,h,a,q⟩ => ⟨p,xs,i,v,e1,e2,SqT.of h,a,q⟩
theorem CallR.mono {f : Value} {r r' : List V -> Hp -> VK -> Prop} (h : CallR X f r) (m : ∀ xs H Q,r' xs H Q -> r xs H Q) : CallR X f r':=fun pins s σ H xs us Q I rx q => h pins s σ H xs us Q I rx (m _ _ _ q)
theorem call_lenM : CallR X (.builtin "len") (fun xs H Q => ∃ p ys,xs = [.ref p] /\ H p = some (.lst ys) /\ Q (.int ys.length) H):=call_len_seq.mono fun xs H Q ⟨p,ys,e,h,q⟩ => ⟨p,ys,e,.inl (SqL.of h),q⟩
theorem call_lenU : CallR X (.builtin "len") (fun xs H Q => ∃ p ys,xs = [.ref p] /\ H p = some (.tup ys) /\ Q (.int ys.length) H):=call_len_seq.mono fun xs H Q ⟨p,ys,e,h,q⟩ => ⟨p,ys,e,.inr (SqT.of h),q⟩
theorem call_lenS : CallR X (.builtin "len") (fun xs H Q => ∃ p ys,xs = [.ref p] /\ SqL X.K H p ys /\ Q (.int ys.length) H):=call_len_seq.mono fun xs H Q ⟨p,ys,e,h,q⟩ => ⟨p,ys,e,.inl h,q⟩
end
section
variable {H : Hp} {Q : VK}
theorem w_ixM {p : Addr} {i : Int} : rIxM (.ref p) (.int i) H Q = ∃ xs,H p = some (.lst xs) /\ ∃ v,atI xs i = some v /\ Q v H :=
 propext ⟨fun ⟨p',xs,i',v,e1,e2,h,a,q⟩ => by cases e1; cases e2; exact ⟨xs,h,v,a,q⟩,fun ⟨xs,h,v,a,q⟩ => ⟨p,xs,i,v,rfl,rfl,h,a,q⟩⟩
theorem w_ixU {p : Addr} {i : Int} : rIxU (.ref p) (.int i) H Q = ∃ xs,H p = some (.tup xs) /\ ∃ v,atI xs i = some v /\ Q v H :=
 propext ⟨fun ⟨p',xs,i',v,e1,e2,h,a,q⟩ => by cases e1; cases e2; exact ⟨xs,h,v,a,q⟩,fun ⟨xs,h,v,a,q⟩ => ⟨p,xs,i,v,rfl,rfl,h,a,q⟩⟩
theorem w_ixL {K : PySem.W.Frag} {p : Addr} {i : Int} : rIxL K (.ref p) (.int i) H Q = ∃ xs,SqL K H p xs /\ ∃ v,atI xs i = some v /\ Q v H :=
 propext ⟨fun ⟨p',xs,i',v,e1,e2,h,a,q⟩ => by cases e1; cases e2; exact ⟨xs,h,v,a,q⟩,fun ⟨xs,h,v,a,q⟩ => ⟨p,xs,i,v,rfl,rfl,h,a,q⟩⟩
theorem w_setL {p : Addr} {k : Int} {v : V} {R : Hp -> Prop} : rSetL (.ref p) (.int k) v H R = ∃ xs,H p = some (.lst xs) /\ ∃ j,ixN xs.length k = some j /\ R (upd H p (.lst (xs.set j v))) :=
 propext ⟨fun ⟨p',xs,k',j,e1,e2,h,a,q⟩ => by cases e1; cases e2; exact ⟨xs,h,j,a,q⟩,fun ⟨xs,h,j,a,q⟩ => ⟨p,xs,k,j,rfl,rfl,h,a,q⟩⟩
end
theorem at_0 {α : Type} {a : α} {l : List α} : atI (a :: l) 0 = some a:=atI_nat (j:=0) rfl
theorem at_1 {α : Type} {a b : α} {l : List α} : atI (a :: b :: l) 1 = some b:=atI_nat (j:=1) rfl
theorem at_2 {α : Type} {a b c : α} {l : List α} : atI (a :: b :: c :: l) 2 = some c:=atI_nat (j:=2) rfl
theorem at_3 {α : Type} {a b c d : α} {l : List α} : atI (a :: b :: c :: d :: l) 3 = some d:=atI_nat (j:=3) rfl
theorem ixN_0 {n : Nat} : ixN (n + 1) 0 = some 0:=by unfold ixN; rw [if_pos (Int.le_refl 0),if_pos (by omega)]; rfl
theorem ixN_1 {n : Nat} : ixN (n + 1 + 1) 1 = some 1:=by unfold ixN; rw [if_pos (by decide),if_pos (by omega)]; rfl
theorem ixN_2 {n : Nat} : ixN (n + 1 + 1 + 1) 2 = some 2:=by unfold ixN; rw [if_pos (by decide),if_pos (by omega)]; rfl
section
variable {CX : CXT} {P : Program} {w : World} {K : PySem.W.Frag} {mg : Str -> Option Value} {base : Heap} {N : List Str} {qual : Str} {scope : Scope} {f : Addr} {cd : Value} {A : Around} {outer : List Env} {s : Shared} {H : Hp} {E : XK}
theorem w_cxK : (cxOf CX P w K mg base N qual scope f cd A outer s H E).K = K:=rfl
end
theorem le_size {n : Nat} (h : n <= 1000) : n <= sizeLine:=Nat.le_of_lt (small1000 h)
theorem sl_1 : (0 + 1 <= sizeLine) = True:=eq_true (le_size (by decide))
theorem sl_2 : (0 + 1 + 1 <= sizeLine) = True:=eq_true (le_size (by decide))
theorem sl_3 : (0 + 1 + 1 + 1 <= sizeLine) = True:=eq_true (le_size (by decide))
theorem sl_4 : (0 + 1 + 1 + 1 + 1 <= sizeLine) = True:=eq_true (le_size (by decide))
theorem sl_5 : (0 + 1 + 1 + 1 + 1 + 1 <= sizeLine) = True:=eq_true (le_size (by decide))
theorem sl_6 : (0 + 1 + 1 + 1 + 1 + 1 + 1 <= sizeLine) = True:=eq_true (le_size (by decide))
theorem sl_7 : (0 + 1 + 1 + 1 + 1 + 1 + 1 + 1 <= sizeLine) = True:=eq_true (le_size (by decide))
theorem sl_8 : (0 + 1 + 1 + 1 + 1 + 1 + 1 + 1 + 1 <= sizeLine) = True:=eq_true (le_size (by decide))
theorem sl_0 : (0 <= sizeLine) = True:=eq_true (le_size (by decide))
theorem divq {g m : Int} (hg : 0 <= g) (hm : 0 < m) : 0 <= g / m:=Int.ediv_nonneg hg (Int.le_of_lt hm)
theorem modq {g m : Int} (hm : 0 < m) : 0 <= g % m /\ g % m < m:=⟨Int.emod_nonneg _ (by omega),Int.emod_lt_of_pos _ hm⟩
def ForR (lo : Int) (n : Nat) (g : TG) (tb : TS) (D : Ends) (σ : St) (H : Hp) : Prop:=∃ W : Nat -> Nat -> St -> Hp -> Prop,(∃ m,W 0 m σ H) /\ ∀ i m σ H,W i m σ H ->
 ((Itr lo n).stop i H /\ D.nx σ H) \/ ((Itr lo n).go i H /\ ∃ N : St -> Hp -> Prop,(∀ σ' H',N σ' H' -> ∃ m',m' < m /\ W (i + 1) m' σ' H') /\ ∀ x H',(Itr lo n).yld i H x H' -> g x σ H' fun σ2 H2 => tb { D with nx:=N,ct:=N,bk:=D.nx } σ2 H2)
def ForL (K : PySem.W.Frag) (a : Addr) (g : TG) (tb : TS) (D : Ends) (σ : St) (H : Hp) : Prop:=∃ W : Nat -> Nat -> St -> Hp -> Prop,(∃ m,W 0 m σ H) /\ ∀ i m σ H,W i m σ H ->
 ((Itl K a).stop i H /\ D.nx σ H) \/ ((Itl K a).go i H /\ ∃ N : St -> Hp -> Prop,(∀ σ' H',N σ' H' -> ∃ m',m' < m /\ W (i + 1) m' σ' H') /\ ∀ x H',(Itl K a).yld i H x H' -> g x σ H' fun σ2 H2 => tb { D with nx:=N,ct:=N,bk:=D.nx } σ2 H2)
def ForT (K : PySem.W.Frag) (a : Addr) (g : TG) (tb : TS) (D : Ends) (σ : St) (H : Hp) : Prop:=∃ W : Nat -> Nat -> St -> Hp -> Prop,(∃ m,W 0 m σ H) /\ ∀ i m σ H,W i m σ H ->
 ((Itt K a).stop i H /\ D.nx σ H) \/ ((Itt K a).go i H /\ ∃ N : St -> Hp -> Prop,(∀ σ' H',N σ' H' -> ∃ m',m' < m /\ W (i + 1) m' σ' H') /\ ∀ x H',(Itt K a).yld i H x H' -> g x σ H' fun σ2 H2 => tb { D with nx:=N,ct:=N,bk:=D.nx } σ2 H2)
section
variable {σ : St} {H : Hp} {D : Ends} {g : TG} {tb : TS} {K : PySem.W.Frag} {a : Addr}
theorem w_for1 {ta : TA} : tFor (iRng1 ta) g tb D σ H = (ta σ H fun vs H1 => ∃ j : Int,vs = [.int j] /\ -(2 ^ 62) <= j /\ j < 2 ^ 62 /\ ForR 0 j.toNat g tb D σ H1):=rfl
theorem w_forL {tl : TE} : tFor (iList K tl) g tb D σ H = (tl σ H fun x H1 => ∃ a,x = .ref a /\ (∃ xs,SqL K H1 a xs) /\ ForL K a g tb D σ H1):=rfl
theorem w_forT {tl : TE} : tFor (iTup K tl) g tb D σ H = (tl σ H fun x H1 => ∃ a,x = .ref a /\ (∃ xs,SqT K H1 a xs) /\ ForT K a g tb D σ H1):=rfl
theorem forR {lo : Int} {n : Nat} (Pv : Nat -> St -> Hp -> Prop) (h0 : Pv 0 σ H)
  (hs : ∀ i σ H (N : St -> Hp -> Prop),i < n -> Pv i σ H -> (∀ σ' H',Pv (i + 1) σ' H' -> N σ' H') -> g (.int (lo + i)) σ H fun σ2 H2 => tb { D with nx:=N,ct:=N,bk:=D.nx } σ2 H2) (hd : ∀ σ H,Pv n σ H -> D.nx σ H) : ForR lo n g tb D σ H :=
 for_range Pv h0 (fun i σ H h p => hs i σ H _ h p fun _ _ q => q) hd
theorem forL {xs : List V} (Pv : Nat -> St -> Hp -> Prop) (h0 : Pv 0 σ H) (hl : ∀ i σ H,i <= xs.length -> Pv i σ H -> SqL K H a xs)
  (hs : ∀ i x σ H (N : St -> Hp -> Prop),xs[i]? = some x -> Pv i σ H -> (∀ σ' H',Pv (i + 1) σ' H' -> N σ' H') -> g x σ H fun σ2 H2 => tb { D with nx:=N,ct:=N,bk:=D.nx } σ2 H2) (hd : ∀ σ H,Pv xs.length σ H -> D.nx σ H) : ForL K a g tb D σ H:=for_list Pv h0 hl (fun i x σ H h p => hs i x σ H _ h p fun _ _ q => q) hd
theorem forT {xs : List V} (Pv : Nat -> St -> Hp -> Prop) (h0 : Pv 0 σ H) (hl : ∀ i σ H,i <= xs.length -> Pv i σ H -> SqT K H a xs)
  (hs : ∀ i x σ H (N : St -> Hp -> Prop),xs[i]? = some x -> Pv i σ H -> (∀ σ' H',Pv (i + 1) σ' H' -> N σ' H') -> g x σ H fun σ2 H2 => tb { D with nx:=N,ct:=N,bk:=D.nx } σ2 H2) (hd : ∀ σ H,Pv xs.length σ H -> D.nx σ H) : ForT K a g tb D σ H:=for_tup Pv h0 hl (fun i x σ H h p => hs i x σ H _ h p fun _ _ q => q) hd
end
theorem shl_ok {n s : Int} {k : Nat} (h0 : 0 <= s) (h1 : s <= 1000000) (h : n.natAbs < 2 ^ k) (hk : k <= 1000000) : CShl n s:=⟨h0,h1,Nat.le_trans (bits_le h) hk⟩
theorem mid_of {t u : TS} {D : Ends} {σ : St} {H : Hp} (M : St -> Hp -> Prop) (h1 : ∀ N : St -> Hp -> Prop,(∀ σ H,M σ H -> N σ H) -> t { D with nx:=N } σ H) (h2 : ∀ σ H,M σ H -> u D σ H) : tMid t u D σ H:=⟨M,h1 M fun _ _ q => q,h2⟩
section
variable {K : PySem.W.Frag} {H : Hp} {Q : VK}
theorem isI_mk {x : V} {T : String} {t : Value} {b : Bool} (ty : TyOf K H x t) (u : ∀ t',TyOf K H x t' -> t' = t) (k : PySem.W.kitOne K t (.type T) = some b) : rIsI K [x,.ty T] H Q = Q (.bl b) H :=
 propext ⟨fun ⟨x',T',t',b',e,ty',k',q⟩ => by
  cases e
  rw [u _ ty',k] at k'
  cases k'
  exact q,fun q => ⟨x,T,t,b,rfl,ty,k,q⟩⟩
theorem kit_non_bool : PySem.W.kitOne K (.type "NoneType") (.type "bool") = some false:=by first | rfl | decide +kernel
theorem kit_str_bool : PySem.W.kitOne K (.type "str") (.type "bool") = some false:=by first | rfl | decide +kernel
theorem w_isI_ii {i : Int} : rIsI K [.int i,.ty "int"] H Q = Q (.bl true) H:=isI_mk (.int i) (fun _ h => by cases h; rfl) (kit_same _)
theorem w_isI_ib {i : Int} : rIsI K [.int i,.ty "bool"] H Q = Q (.bl false) H:=isI_mk (.int i) (fun _ h => by cases h; rfl) kit_int_bool
theorem w_isI_bi {i : Bool} : rIsI K [.bl i,.ty "int"] H Q = Q (.bl true) H:=isI_mk (.bl i) (fun _ h => by cases h; rfl) kit_bool_int
theorem w_isI_bb {i : Bool} : rIsI K [.bl i,.ty "bool"] H Q = Q (.bl true) H:=isI_mk (.bl i) (fun _ h => by cases h; rfl) (kit_same _)
theorem w_isI_ni : rIsI K [.non,.ty "int"] H Q = Q (.bl false) H:=isI_mk .non (fun _ h => by cases h; rfl) kit_non_int
theorem w_isI_nb : rIsI K [.non,.ty "bool"] H Q = Q (.bl false) H:=isI_mk .non (fun _ h => by cases h; rfl) kit_non_bool
theorem w_isI_si {x : Str} : rIsI K [.str x,.ty "int"] H Q = Q (.bl false) H:=isI_mk (.str x) (fun _ h => by cases h; rfl) kit_str_int
theorem w_isI_sb {x : Str} : rIsI K [.str x,.ty "bool"] H Q = Q (.bl false) H:=isI_mk (.str x) (fun _ h => by cases h; rfl) kit_str_bool
end
theorem pow_pos2 (k : Nat) : (0 : Int) < 2 ^ k:=Int.pow_pos (by decide)
end L2
set_option Elab.async false
set_option linter.all false
set_option maxRecDepth 100000
set_option maxHeartbeats 1000000
namespace L2
open PySem PySem.Spec PyProof.Rows
def closOf (scope : Scope) (env : Env) : List (Str × Addr):=(scope.names.filterMap fun x => if x.2 == .free then (env.cells.lookup x.1).map fun c => (x.1,c) else none).reverse
theorem closureFor_ok {scope : Scope} {env : Env} (h : ∀ x ∈ scope.names,x.2 = .free -> ∃ c,env.cells.lookup x.1 = some c) : closureFor scope env = pure (closOf scope env):=by
 unfold closureFor closOf
 have all : ∀ (l : List (Str × NameKind)) (acc : List (Str × Addr)),(∀ x ∈ l,x.2 = .free -> ∃ c,env.cells.lookup x.1 = some c) ->
   (forIn l acc fun x r => (match x with | (name,kind) => if (kind == .free) = true then do let a ← cellOf env name; pure (ForInStep.yield ((name,a) :: r)) else pure (ForInStep.yield r) : Sem (ForInStep (List (Str × Addr))))) =
    pure ((l.filterMap fun x => if x.2 == .free then (env.cells.lookup x.1).map fun c => (x.1,c) else none).reverse ++ acc):=by
  intro l
  induction l with
  | nil => intro acc _; simp
  | cons x r ih =>
   intro acc hx
   obtain ⟨n,k⟩:=x
   have hr : ∀ y ∈ r,y.2 = .free -> ∃ c,env.cells.lookup y.1 = some c:=fun y hy => hx y (List.mem_cons_of_mem _ hy)
   by_cases hk : k = .free
   ·subst hk
    obtain ⟨c,hc⟩:=hx (n,.free) List.mem_cons_self rfl
    have e1 : cellOf env n = pure c:=by unfold cellOf; rw [show env.cells.lookup n = some c from hc]
    simp only [List.forIn_cons,beq_self_eq_true,if_true,e1,pure_bind,List.filterMap_cons]
    rw [ih _ hr]
    simp [show env.cells.lookup n = some c from hc]
   ·have hb : (k == NameKind.free) = false:=by simpa using hk
    simp only [List.forIn_cons,hb,Bool.false_eq_true,if_false,pure_bind,List.filterMap_cons]
    rw [ih _ hr]
 have:=all scope.names [] h
 rw [List.append_nil] at this
 simp only [bind_pure]
 first | exact this | (rw [this]) | (simpa using this)
theorem mem_clos {scope : Scope} {env : Env} {x : Str} {c : Addr} (h : (closOf scope env).lookup x = some c) : env.cells.lookup x = some c:=by
 have m:=PySem.mem_of_lookup h
 unfold closOf at m
 rw [List.mem_reverse,List.mem_filterMap] at m
 obtain ⟨y,hy,e⟩:=m
 split at e
 ·cases q : env.cells.lookup y.1 with
  | none => rw [q] at e; cases e
  | some d =>
   rw [q] at e
   simp only [Option.map_some,Option.some.injEq,Prod.mk.injEq] at e
   rw [← e.1,q,e.2]
 ·cases e
theorem lookup_mem {α : Type} : ∀ {l : List (Str × α)} {x : Str} {c : α},(x,c) ∈ l -> ∃ d,l.lookup x = some d
 | (k,v) :: r,x,c,h => by
  rw [List.lookup_cons]
  cases hb : x == k with
  | true => exact ⟨v,rfl⟩
  | false =>
   rcases List.mem_cons.mp h with e | e
   ·injection e with e1 e2
    subst e1
    simp at hb
   ·exact lookup_mem e
theorem clos_has {scope : Scope} {env : Env} {x : Str} {c : Addr} (h : (x,NameKind.free) ∈ scope.names) (hc : env.cells.lookup x = some c) : (closOf scope env).lookup x = some c:=by
 have m : (x,c) ∈ closOf scope env:=by
  unfold closOf
  rw [List.mem_reverse,List.mem_filterMap]
  exact ⟨(x,.free),h,by simp [hc]⟩
 obtain ⟨d,hd⟩:=lookup_mem m
 have:=mem_clos hd
 rw [hc] at this
 rw [hd,← this]
theorem relabel_lookup {env : Env} : ∀ {names : List (Str × NameKind)} {x : Str} {k : NameKind},
  (names.map fun (n,k) => if (k == NameKind.free && env.scope.kind == .function && env.kindOf n == some .cell) then (n,NameKind.cell) else (n,k)).lookup x = some k ->
  ∃ k0,names.lookup x = some k0 /\ (k0 = k \/ (k0 = .free /\ k = .cell))
 | [],_,_,h => by simp at h
 | (n,k) :: r,x,k',h => by
  simp only [List.map_cons] at h
  by_cases hc : (k == NameKind.free && env.scope.kind == .function && env.kindOf n == some .cell) = true
  ·rw [if_pos hc,List.lookup_cons] at h
   rw [List.lookup_cons]
   cases hb : x == n with
   | true =>
    rw [hb] at h
    simp only [Option.some.injEq] at h
    refine ⟨k,rfl,.inr ⟨?_,h.symm⟩⟩
    simp only [Bool.and_eq_true,beq_iff_eq] at hc
    exact hc.1.1
   | false =>
    rw [hb] at h
    exact relabel_lookup h
  ·rw [if_neg hc,List.lookup_cons] at h
   rw [List.lookup_cons]
   cases hb : x == n with
   | true =>
    rw [hb] at h
    simp only [Option.some.injEq] at h
    exact ⟨k,rfl,.inl h⟩
   | false =>
    rw [hb] at h
    exact relabel_lookup h
theorem codeAny_compLoop_gen {prog : Program} {w : World} {A : Around} {R : Result -> Shared -> Prop} {s : Shared} {elt target iter : Expr} {ifs : List Expr} {scope : Scope} {pos : Pos} {it acc : Value} {env : Env} (I : Nat -> Shared -> Prop)
  (turn : ∀ n s,I n s -> wpAny (model prog w) A (pyNext it) (fun r s₁ => match r with
   | none => R (.ok .next) s₁
   | some v => wpAny (model prog w) A (letOwnedTupleGo target it v) (fun _ s₁' => wpAny (model prog w) A (assign target env v) (fun _ s₂ =>
     wpAny (model prog w) A (forIn ifs true fun c r => if r = true then do let ok ← isTrue c env (eval c env); pure (ForInStep.yield ok) else pure (ForInStep.yield r)) (fun ok s₃ =>
      if ok = true then wpAny (model prog w) A (eval elt env) (fun x s₄ =>
       wpAny (model prog w) A (call (.builtin "list.append") [acc,x]) (fun _ s₅ => ∃ m,m < n /\ I m s₅) (fun _ _ => False) s₄) (fun _ _ => False) s₃
      else ∃ m,m < n /\ I m s₃) (fun _ _ => False) s₂) (fun _ _ => False) s₁') (fun _ _ => False) s₁) (fun _ _ => False) s)
  (n : Nat) (h : I n s) :
  codeAny (model prog w) A (.compLoop (.ListComp elt [⟨target,iter,ifs,0⟩] scope pos) 0 it acc env) R s:=by
 refine codeAny_loop rfl I (fun n s hI => ?_) n h
 show wpAny _ A ((compTurn (.ListComp elt [⟨target,iter,ifs,0⟩] scope pos) 0 it acc env).onRaise (fun x => do noteFrame x env; theTreesLotGoes x)) _ _ s
 refine wpAny_noted ?_
 rw [compTurn_list]
 refine wpAny_bind (wpAny_standAt (wpAny_bind (wpAny_mono (turn n s hI) (fun r s₁ h₁ => ?_) fun _ _ h' => h'.elim)))
 cases r with
 | none => exact wpAny_pure h₁
 | some v =>
  refine wpAny_bind (wpAny_mono h₁ (fun _ s₁' h₁' => ?_) fun _ _ h' => h'.elim)
  refine wpAny_bind (wpAny_mono h₁' (fun _ s₂ h₂ => wpAny_bind (wpAny_mono h₂ (fun ok s₃ h₃ => ?_) fun _ _ h' => h'.elim)) fun _ _ h' => h'.elim)
  cases ok with
  | false => exact wpAny_pure ⟨rfl,h₃⟩
  | true =>
   exact wpAny_bind (wpAny_bind (wpAny_mono h₃ (fun x s₄ h₄ => wpAny_bind (wpAny_mono h₄ (fun _ s₅ h₅ => wpAny_pure (wpAny_pure ⟨rfl,h₅⟩)) fun _ _ h' => h'.elim)) fun _ _ h' => h'.elim))
def PN (X : Cx) (ifs : List Expr) (t : TT) : Prop :=
 ∀ (pins : List (Addr × Obj)) (s : Shared) (σ : St) (H : Hp) (Q : Bool -> Hp -> Prop),Inv X pins σ H s -> t σ H Q ->
  wpAny (model X.prog X.w) X.A (forIn ifs true fun c r => if r = true then do let ok ← isTrue c X.env (eval c X.env); pure (ForInStep.yield ok) else pure (ForInStep.yield r)) (TP X pins σ Q) X.xe s
def tYes : TT:=fun _ H Q => Q true H
section
variable {X : Cx}
theorem pn_nil : PN X [] tYes:=fun _ _ σ H Q I h => wpAny_pure ⟨H,I,h⟩
theorem pn_one {c : Expr} {t : TT} (h : PT X c t) : PN X [c] t:=by
 intro pins s σ H Q I q
 refine PySem.wpAny_tests_one (h pins s σ H Q I q)
end
def compCx (X : Cx) (N : List Str) (scope : Scope) (C : Addr) (s : Shared) (H : Hp) (fp : List Addr) : Cx :=
 { X with N:=N,s₀:=s,H₀:=H,env:=compEnvC scope (closOf scope X.env) C X.env,outer:=X.stack,stack:=X.stack,ex:=fp,fn:=fun _ => false,pn:=[],xe:=fun _ _ => False }
structure CompBody (X : Cx) (tg : Expr) (ifs : List Expr) (elt : Expr) (g : TG) (tt : TT) (te : TE) : Prop where
 tg : PG X tg g
 tt : PN X ifs tt
 te : PE X elt te
def scB (sc xsc : Scope) : Bool:=(sc.kind == .function) && sc.names.all fun x => (x.2 != .cell) && (x.2 != .local || sc.names.lookup x.1 == some .local) && (x.2 != .free || (xsc.names.lookup x.1 == some .cell) || (xsc.names.lookup x.1 == some .free))
def capB (cs : List Nat) (ns XN : List Str) (sc xsc : Scope) : Bool:=(cs.zip ns).all fun p => (XN[p.1]? == some p.2) && (sc.names.lookup p.2 == some .free) && (xsc.names.lookup p.2 != some .local)
def capSt (nt : Nat) (cs : List Nat) (σ : St) : St:=List.replicate nt none ++ cs.map fun c => (σ[c]?).join
def tComp (wi : TI) (nt : Nat) (cs : List Nat) (g : TG) (tt : TT) (te : TE) : TE:=fun σ H Q => wi σ H fun J H1 => ∀ acc,H1 acc = none ->
 ∃ W : Nat -> Nat -> List V -> St -> Hp -> Prop,(∃ m,W 0 m [] (capSt nt cs σ) (upd H1 acc (.lst []))) /\ ∀ i m ys σ' H',W i m ys σ' H' -> H' acc = some (.lst ys) /\
  ((J.stop i H' /\ Q (.ref acc) H') \/ (J.go i H' /\ ys.length < sizeLine /\ ∃ N : List V -> St -> Hp -> Prop,(∀ zs σ2 H2,N zs σ2 H2 -> ∃ m',m' < m /\ W (i + 1) m' zs σ2 H2) /\
   ∀ x H2,J.yld i H' x H2 -> g x σ' H2 fun σ3 H3 => tt σ3 H3 fun b H4 => if b = true then te σ3 H4 fun y H5 => H5 acc = some (.lst ys) /\ N (ys ++ [y]) σ3 (upd H5 acc (.lst (ys ++ [y]))) else N ys σ3 H4))
section
variable {X : Cx}
theorem compCx_inv {pins : List (Addr × Obj)} {σ : St} {H : Hp} {s : Shared} {N : List Str} {scope : Scope} {nt : Nat} {cs : List Nat} {fp : List Addr} {h1 : Heap} {tk : Nat} (I : Inv X pins σ H s)
  (hsc : scB scope X.env.scope = true) (hcap : capB cs (N.drop nt) X.N scope X.env.scope = true) (hlen : N.length = nt + cs.length)
  (hf : ∀ b ∈ fp,FpOk X pins H b) (hfl : ∀ b ∈ fp,b < s.heap.objs.size) (hn : h1.Ns s.heap.objs.size fun _ => none) (hk : ∀ b o,s.heap.get? b = some o -> h1.get? b = some o) :
  Inv (compCx X N scope s.heap.objs.size s H fp) [] (capSt nt cs σ) H { s with heap:=h1,toks:=tk }:=by
 unfold scB at hsc
 rw [Bool.and_eq_true] at hsc
 obtain ⟨hkd,hall⟩:=hsc
 have hkd : scope.kind = .function:=by simpa using hkd
 rw [List.all_eq_true] at hall
 have nocell : ∀ x ∈ scope.names,x.2 ≠ .cell:=fun x hx e => by have:=hall x hx; rw [e] at this; simp at this
 have free2 : ∀ x,(x,NameKind.free) ∈ scope.names -> X.env.kindOf x = some .cell \/ X.env.kindOf x = some .free:=fun x hx => by
  have:=hall _ hx
  simp only [bne_self_eq_false,Bool.false_or,Bool.and_eq_true,Bool.or_eq_true,beq_iff_eq] at this
  exact this.2
 have kinds : ∀ x,((compCx X N scope s.heap.objs.size s H fp).env.kindOf x = some .cell \/ (compCx X N scope s.heap.objs.size s H fp).env.kindOf x = some .free) -> (x,NameKind.free) ∈ scope.names:=fun x hx => by
  have q : ∃ k,(relabel scope X.env).names.lookup x = some k /\ (k = .cell \/ k = .free):=by
   rcases hx with e | e
   ·exact ⟨_,e,.inl rfl⟩
   ·exact ⟨_,e,.inr rfl⟩
  obtain ⟨k,e,hk'⟩:=q
  obtain ⟨k0,e0,r⟩:=relabel_lookup e
  have m:=PySem.mem_of_lookup e0
  rcases r with r | ⟨r,_⟩
  ·subst r
   rcases hk' with z | z
   ·exact absurd z (nocell _ m)
   ·rw [z] at m; exact m
  ·rw [r] at m; exact m
 have cellOf : ∀ x c,(closOf scope X.env).lookup x = some c -> X.env.cells.lookup x = some c:=fun x c e => mem_clos e
 have clt : ∀ x c,X.env.cells.lookup x = some c -> c < s.heap.objs.size:=fun x c e => by
  obtain ⟨v,q⟩:=I.cell x c e
  exact q.lt
 refine ⟨⟨I.ok.mod,?_,I.ok.glob,I.ok.blt,Nat.le_refl _,?_,?_,?_,I.ok.hd,I.ok.frames,.inl rfl,?_,?_,?_,?_,?_,?_,?_⟩,rfl,I.bare,Un.kept hk,⟨_,hn,?_⟩,?_,?_,?_,?_,I.hok.kept hk,?_⟩
 ·show (relabel scope X.env).kind = _
  exact hkd
 ·intro x y c e1 e2
  exact I.ok.inj x y c (cellOf x c e1) (cellOf y c e2)
 ·intro x hx
  have m:=kinds x hx
  obtain ⟨c,hc⟩:=I.ok.has x (free2 x m)
  exact ⟨c,clos_has m hc⟩
 ·intro x c z
  cases z
 ·intro b hb
  obtain ⟨f0,f1,f2,f3,f4,f5⟩:=hf b hb
  exact ⟨Nat.ne_of_lt (hfl b hb),fun x c e => f4 x c (cellOf x c e)⟩
 ·intro b o e
  exact I.bs b o e
 ·exact Nat.le_trans I.ok.bsz I.sz
 ·intro b o e hb
  obtain ⟨f0,f1,f2,f3,f4,f5⟩:=hf b hb
  rcases f3 with z | z
  ·exact I.ok.noex b o e z
  ·exact absurd (Nat.lt_of_lt_of_le (Heap.lt_size (I.ok.bs b o e).1) z) (Nat.lt_irrefl _)
 ·intro b hb hs
  obtain ⟨f0,f1,f2,f3,f4,f5⟩:=hf b hb
  rcases List.mem_cons.mp (I.stkSub b hs) with z | z
  ·exact f1 z
  ·exact f2 z
 ·exact I.stack
 ·exact I.stkFree
 ·intro i x v e1 e2 _
  have hi : nt <= i:=by
   refine Nat.le_of_not_lt fun z => ?_
   unfold capSt at e2
   rw [List.getElem?_append_left (by simpa using z),List.getElem?_replicate,if_pos z] at e2
   cases e2
  unfold capSt at e2
  rw [List.getElem?_append_right (by simpa using hi),List.length_replicate,List.getElem?_map] at e2
  cases q : cs[i - nt]? with
  | none => rw [q] at e2; cases e2
  | some c =>
   rw [q] at e2
   simp only [Option.map_some,Option.some.injEq] at e2
   have e3 : σ[c]? = some (some v):=by
    cases z : σ[c]? with
    | none => rw [z] at e2; cases e2
    | some o => rw [z] at e2; exact congrArg some e2
   unfold capB at hcap
   rw [List.all_eq_true] at hcap
   have e4 : (N.drop nt)[i - nt]? = some x:=by
    rw [List.getElem?_drop,show nt + (i - nt) = i by omega]
    exact e1
   have m : (c,x) ∈ cs.zip (N.drop nt):=by
    have : (cs.zip (N.drop nt))[i - nt]? = some (c,x):=by rw [List.getElem?_zip_eq_some]; exact ⟨q,e4⟩
    exact List.mem_of_getElem? this
   have hm:=hcap _ m
   simp only [Bool.and_eq_true,beq_iff_eq,bne_iff_ne,ne_eq] at hm
   obtain ⟨⟨h1',h2'⟩,h3'⟩:=hm
   have hlk : scope.names.lookup x = some .free:=h2'
   have h2' : (x,NameKind.free) ∈ scope.names:=PySem.mem_of_lookup hlk
   obtain ⟨mm,hmm,hl⟩:=I.loc
   have vis : Vis X.env.scope x:=.inr (free2 x h2')
   obtain ⟨u,r,l⟩:=hl c x v h1' e3 vis
   rcases l with ⟨z,_⟩ | ⟨z,d,hd,hcell⟩
   ·exact absurd z h3'
   ·refine ⟨u,r,.inr ⟨?_,d,clos_has h2' hd,?_⟩⟩
    ·-- its kind in the block
     have isf : ∃ k,(relabel scope X.env).names.lookup x = some k:=by
      have : ∃ k',(x,k') ∈ (relabel scope X.env).names:=by
       unfold relabel
       by_cases cc : (X.env.scope.kind == .function && X.env.kindOf x == some .cell) = true
       ·refine ⟨.cell,List.mem_map.mpr ⟨(x,.free),h2',?_⟩⟩
        simp only [Bool.and_eq_true] at cc
        simp [cc.1,cc.2]
       ·refine ⟨.free,List.mem_map.mpr ⟨(x,.free),h2',?_⟩⟩
        simp only [Bool.and_eq_true] at cc
        have cc' : ¬ ((NameKind.free == NameKind.free && X.env.scope.kind == .function && X.env.kindOf x == some .cell) = true):=by
         simp only [beq_self_eq_true,Bool.true_and,Bool.and_eq_true]
         exact cc
        show (if (NameKind.free == NameKind.free && X.env.scope.kind == .function && X.env.kindOf x == some .cell) = true then (x,NameKind.cell) else (x,NameKind.free)) = (x,NameKind.free)
        rw [if_neg cc']
      obtain ⟨k',hk'⟩:=this
      exact lookup_mem hk'
     obtain ⟨k,ek⟩:=isf
     obtain ⟨k0,e0,rr⟩:=relabel_lookup ek
     rcases rr with rr | ⟨_,rr⟩
     ·subst rr
      rw [hlk] at e0
      cases e0
      exact .inr ek
     ·subst rr
      exact .inl ek
    ·obtain ⟨o,ho,hd'⟩:=hcell
     exact ⟨o,hk _ _ ho,hd'⟩
 ·intro x c e
  obtain ⟨v,o,ho,hd⟩:=I.cell x c (cellOf x c e)
  exact ⟨v,o,hk _ _ ho,hd⟩
 ·exact I.hok.fresh (Nat.le_refl _)
 ·intro x c e
  exact I.freeC x c (cellOf x c e)
 ·intro p hp
  cases hp
 ·show (capSt nt cs σ).length = N.length
  unfold capSt
  rw [List.length_append,List.length_replicate,List.length_map,hlen]
theorem un_same {fs ex : List Addr} {H H' : Hp} {h h1 h' : Heap} {C : Addr} (u : Un fs ex H H' h h1) (hs : Heap.SameBut C h1 h') (hC : h.objs.size <= C) : Un fs ex H H' h h' where
 keep:=fun b o e n hb hx => (hs.2 b (Nat.ne_of_lt (Nat.lt_of_lt_of_le (Heap.lt_size e) hC))).trans (u.keep b o e n hb hx)
 slot:=fun b o e n hb hx => by
  obtain ⟨sl,q⟩:=u.slot b o e n hb hx
  exact ⟨sl,(hs.2 b (Nat.ne_of_lt (Nat.lt_of_lt_of_le (Heap.lt_size e) hC))).trans q⟩
 free:=u.free
 there:=fun b o e hx => by
  obtain ⟨o',q⟩:=u.there b o e hx
  exact ⟨o',(hs.2 b (Nat.ne_of_lt (Nat.lt_of_lt_of_le (Heap.lt_size e) hC))).trans q⟩
 tups:=u.tups
 frzs:=u.frzs
 tbls:=u.tbls
theorem hok_same {P : Program} {w : World} {H : Hp} {h h' : Heap} {C : Addr} (x : HOk P w H h) (hs : Heap.SameBut C h h') (hC : H C = none) : HOk P w H h':=fun b u e =>
 (x b u e).stay (fun c v hc q => (hs.2 c (fun z => by
  subst z
  rcases hc with z | z
  ·subst z; rw [hC] at e; cases e
  ·rw [hC] at z; cases z)).trans q) (fun _ q => q) fun _ _ q => q
theorem pe_comp0 {tg iter elt : Expr} {ifs : List Expr} {scope : Scope} {pos : Pos} {wi : TI} {N : List Str} {nt : Nat} {cs : List Nat} {g : TG} {tt : TT} {te : TE} (hc : X.calm = true) (hi : PI X tg iter wi)
  (hb : N.Nodup -> ∀ (C : Addr) (s : Shared) (H : Hp) (fp : List Addr),CompBody (compCx X N scope C s H fp) tg ifs elt g tt te)
  (hnd : N.Nodup) (hsc : scB scope X.env.scope = true) (hcap : capB cs (N.drop nt) X.N scope X.env.scope = true) (hlen : N.length = nt + cs.length)
  (hs : ∀ x,foldedSetIterable iter X.env x = pure x) : PE X (.ListComp elt [⟨tg,iter,ifs,0⟩] scope pos) (tComp wi nt cs g tt te):=by
 intro pins s σ H Q I h
 have hsc':=hsc
 unfold scB at hsc'
 rw [Bool.and_eq_true] at hsc'
 obtain ⟨hkd,hall⟩:=hsc'
 have hkd : scope.kind = .function:=by simpa using hkd
 rw [List.all_eq_true] at hall
 have nocell : ∀ x ∈ scope.names,x.2 ≠ .cell:=fun x hx e => by have:=hall x hx; rw [e] at this; simp at this
 have hnames : ∀ x ∈ scope.names,x.2 = .local -> scope.names.lookup x.1 = some .local:=fun x hx e => by
  have:=hall x hx
  rw [e] at this
  simp only [bne_self_eq_false,Bool.false_or,Bool.and_eq_true,beq_iff_eq] at this
  exact this.1.2
 have hclos : closureFor scope X.env = pure (closOf scope X.env):=closureFor_ok fun x hx e => by
  have:=hall x hx
  rw [e] at this
  simp only [bne_self_eq_false,Bool.false_or,Bool.and_eq_true,Bool.or_eq_true,beq_iff_eq] at this
  exact I.ok.has x.1 this.2
 rw [eval_ListComp]
 refine wpAny_comprehension_free (use:=none) rfl hs hclos hkd hnames (thn (hi pins s σ H _ I h) fun v s1 h1 => thn h1 fun itv s2 h2 => ?_)
 obtain ⟨it,fp,tn,J,H2,e,I2,T,st2,f2,hR⟩:=h2
 subst e
 refine wpAny_newObj_type (wpAny_newFunctionEnv nocell (by intro y hy; simp at hy) (fun h3 hn3 hs3 => ?_) hkd)
 have fr:=I2.fresh
 have I3 : Inv X pins σ (upd H2 s2.heap.objs.size (.lst [])) { s2 with heap:=s2.heap.push { cls:=.type "list",data:=.seq ([] : List Value).toArray },toks:=s2.toks }:=I2.lnew .nil (le_size (by decide))
 obtain ⟨W,⟨m0,w0⟩,turn⟩:=hR _ fr
 generalize hacc : s2.heap.objs.size = acc at *
 generalize hsx : ({ s2 with heap:=s2.heap.push { cls:=.type "list",data:=.seq ([] : List Value).toArray },toks:=s2.toks } : Shared) = sx at *
 have hC : sx.heap.objs.size = acc + 1:=by rw [← hsx,← hacc]; exact Heap.size_push _ _
 have fpl : ∀ b ∈ fp,b < acc:=fun b hb => by
  obtain ⟨o,ho,_⟩:=T.obj _ _ st2 b hb
  rw [← hacc]
  exact Heap.lt_size ho
 have f3 : ∀ b ∈ fp,FpOk X pins (upd H2 acc (.lst [])) b:=fun b hb => by
  obtain ⟨f0,f1⟩:=f2 b hb
  exact ⟨by rw [upd_ne (Nat.ne_of_lt (fpl b hb))]; exact f0,f1⟩
 have keep3 : ∀ b o,sx.heap.get? b = some o -> h3.get? b = some o:=fun b o e => by
  have hne : b ≠ sx.heap.objs.size:=Nat.ne_of_lt (Heap.lt_size e)
  exact (hs3.2 b hne).trans (Heap.get?_push_of_some _ e)
 have IC : Inv (compCx X N scope sx.heap.objs.size sx (upd H2 acc (.lst [])) fp) [] (capSt nt cs σ) (upd H2 acc (.lst [])) { sx with heap:=h3,toks:=sx.toks + ([] : List (Str × Value)).length } :=
  compCx_inv I3 hsc hcap hlen f3 (fun b hb => by rw [hC]; exact Nat.lt_succ_of_lt (fpl b hb)) (by simpa using hn3) keep3
 have hn3' : H2 acc = none:=fr
 generalize hXC : compCx X N scope sx.heap.objs.size sx (upd H2 acc (.lst [])) fp = XC at IC
 have ctxP : XC.prog = X.prog:=by rw [← hXC]; rfl
 have ctxW : XC.w = X.w:=by rw [← hXC]; rfl
 have ctxK : XC.K = X.K:=by rw [← hXC]; rfl
 have ctxA : XC.A = X.A:=by rw [← hXC]; rfl
 have ctxC : XC.calm = true:=by rw [← hXC]; exact hc
 have ctxX : XC.xe = fun _ _ => False:=by rw [← hXC]; rfl
 have ctxE : XC.env = compEnvC scope (closOf scope X.env) sx.heap.objs.size X.env:=by rw [← hXC]; rfl
 have body : CompBody XC tg ifs elt g tt te:=by rw [← hXC]; exact hb hnd _ _ _ _
 have st3 : tn 0 h3:=T.keep _ _ _ st2 fun b hb o e => keep3 b o (by rw [← hsx]; exact Heap.get?_push_of_some _ e)
 have stat : ∀ {H' : Hp},(∀ b ∈ fp,H' b = none) -> ∀ b ∈ fp,FpOk XC [] H' b:=fun hn b hb => by
  obtain ⟨f0,f1,f2',f3',f4,f5⟩:=f3 b hb
  refine ⟨hn b hb,?_,?_,.inl (by rw [← hXC]; exact hb),fun x c e => ?_,fun p hp => ?_⟩
  ·rw [ctxE]
   exact Nat.ne_of_lt (by rw [hC]; exact Nat.lt_succ_of_lt (fpl b hb))
  ·rw [← hXC]
   intro z
   rcases List.mem_cons.mp (I3.stkSub b z) with z | z
   ·exact f1 z
   ·exact f2' z
  ·rw [ctxE] at e
   exact f4 x c (mem_clos e)
  ·rw [← hXC] at hp
   cases hp
 have fin : ∀ {σ' : St} {H' : Hp} {s' : Shared},Inv XC [] σ' H' s' -> Q (.ref acc) H' -> compPost (model X.prog X.w) X.A X.xe none (EP X pins σ Q) (.ref acc) sx.heap.objs.size (.ok .next) s':=by
  intro σ' H' s' J' q
  obtain ⟨m,hm,_⟩:=J'.loc
  have hfree:=J'.free
  rw [ctxE] at hm hfree
  refine ⟨m,hm,fun h' hs' => ⟨.ref acc,H',?_,rfl,q⟩⟩
  have u:=J'.base
  rw [← hXC] at u
  have ok:=J'.hok
  rw [ctxP,ctxW] at ok
  have os:=J'.os
  rw [← hXC] at os
  refine I3.call' (s':={ s' with heap:=h' }) os (un_same u hs' (Nat.le_refl _)) (hok_same ok hs' hfree) J'.bare fun b hb => ?_
  obtain ⟨f0,f1,f2',f3',f4,f5⟩:=f3 b hb
  exact ⟨f3',f1,f4,f5⟩
 have loop : codeAny (model X.prog X.w) X.A (.compLoop (.ListComp elt [⟨tg,iter,ifs,0⟩] scope pos) 0 (.ref it) (.ref acc) XC.env) (compPost (model X.prog X.w) X.A X.xe none (EP X pins σ Q) (.ref acc) sx.heap.objs.size)
   { sx with heap:=h3,toks:=sx.toks + ([] : List (Str × Value)).length }:=by
  rw [← ctxP,← ctxW,← ctxA]
  refine codeAny_compLoop_gen (fun n s' => ∃ i ys σ' H',Inv XC [] σ' H' s' /\ tn i s'.heap /\ (∀ b ∈ fp,H' b = none) /\ W i n ys σ' H') ?_ m0 ⟨0,[],_,_,IC,st3,fun b hb => (f3 b hb).1,w0⟩
  rintro n s3 ⟨i,ys,σ3,H3,I3',st3',fr3,w3⟩
  have T':=T
  rw [← ctxP,← ctxW,← ctxK] at T'
  obtain ⟨hacc3,alt⟩:=turn i n ys σ3 H3 w3
  rcases alt with ⟨stop,qn⟩ | ⟨go,hsz,NN,hNN,step⟩
  ·refine thn (T'.done XC rfl rfl rfl ctxC i [] s3 σ3 H3 _ I3' (stat fr3) st3' stop) fun r s4 ⟨hr,I4⟩ => ?_
   subst hr
   rw [ctxP,ctxW,ctxA]
   exact fin I4 qn
  ·refine thn (T'.item XC rfl rfl rfl ctxC i [] s3 σ3 H3 _ I3' (stat fr3) st3' go) fun r s4 ⟨u,hr,h4⟩ => ?_
   subst hr
   refine thn h4 fun _ s5 ⟨x,H5,I5,r5,y5,st5,fr5⟩ => ?_
   have I5':=I5.pinned (stat fr5) (T'.obj _ _ st5)
   have a1:=body.tg _ s5 σ3 H5 x u _ I5' r5 (step x H5 y5)
   rw [ctxX] at a1
   refine thn a1 fun _ s6 ⟨σ6,H6,I6,q6⟩ => ?_
   have a2:=body.tt _ s6 σ6 H6 _ I6 q6
   rw [ctxX] at a2
   refine thn a2 fun b s7 ⟨H7,I7,q7⟩ => ?_
   have again : ∀ {s8 : Shared} {σ7 : St} {H7 : Hp} {zs : List V},Inv XC ([] ++ pinsAt fp s5.heap) σ7 H7 s8 -> NN zs σ7 H7 -> ∃ m,m < n /\ ∃ i ys σ' H',Inv XC [] σ' H' s8 /\ tn i s8.heap /\ (∀ b ∈ fp,H' b = none) /\ W i m ys σ' H':=fun {s8 σ7 H7 zs} I7 n7 => by
    obtain ⟨m',hm,w7⟩:=hNN zs σ7 H7 n7
    refine ⟨m',hm,i + 1,zs,σ7,H7,I7.unpinned,T'.keep _ _ _ st5 fun b hb o e => (I7.pin (b,o) (List.mem_append_right _ (List.mem_append_right _ (mem_pinsAt hb e)))).1,fun b hb => ?_,w7⟩
    obtain ⟨o,e,d⟩:=T'.obj _ _ st5 b hb
    exact (I7.pin (b,o) (List.mem_append_right _ (List.mem_append_right _ (mem_pinsAt hb e)))).2.1
   cases b with
   | false =>
    rw [if_neg Bool.false_ne_true] at q7 ⊢
    exact again I7 q7
   | true =>
    rw [if_pos rfl] at q7 ⊢
    have a3:=body.te _ s7 σ6 H7 _ I7 q7
    rw [ctxX] at a3
    refine thn a3 fun xv s8 ⟨y,H8,I8,r8,q8⟩ => ?_
    obtain ⟨hl8,n8⟩:=q8
    have a4:=mt_append (X:=XC) _ s8 σ6 H8 (.ref acc) [y] (.ref acc) [xv] (fun _ H9 => NN (ys ++ [y]) σ6 H9) I8 rfl (.cons r8 .nil) ⟨acc,ys,y,rfl,rfl,hl8,hsz,n8⟩
    rw [ctxX] at a4
    refine thn a4 fun _ s9 ⟨_,H9,I9,_,q9⟩ => ?_
    exact again I9 q9
 rw [ctxE] at loop
 exact codeAny_compStart_list loop (T.self X.A 0 _ _ _ st3 loop)
theorem ps_setComp0 {y : Str} {py spos : Pos} {ix : Nat} {tg iter elt : Expr} {ifs : List Expr} {scope : Scope} {pos : Pos} {wi : TI} {N : List Str} {nt : Nat} {cs : List Nat} {g : TG} {tt : TT} {te : TE} (hc : X.calm = true) (hi : PI X tg iter wi)
  (hb : N.Nodup -> ∀ (C : Addr) (s : Shared) (H : Hp) (fp : List Addr),CompBody (compCx X N scope C s H fp) tg ifs elt g tt te)
  (hnd : N.Nodup) (hsc : scB scope X.env.scope = true) (hcap : capB cs (N.drop nt) X.N scope X.env.scope = true) (hlen : N.length = nt + cs.length)
  (hs : ∀ x,foldedSetIterable iter X.env x = pure x) (hN : X.N.Nodup) (hix : X.N[ix]? = some y) (hy : Loc X.env.scope y) (hf : X.fn y = true \/ X.env.scope.names.lookup y = some .local)
  (hsw : swapsWith (.ListComp elt [⟨tg,iter,ifs,0⟩] scope pos) (some (.Name y py)) spos.line X.env = pure true) : PS X (.Assign [.Name y py] (.ListComp elt [⟨tg,iter,ifs,0⟩] scope pos) spos) (tAsg (tComp wi nt cs g tt te) (gName ix)):=by
 intro pins s σ H D I h
 have hsc':=hsc
 unfold scB at hsc'
 rw [Bool.and_eq_true] at hsc'
 obtain ⟨hkd,hall⟩:=hsc'
 have hkd : scope.kind = .function:=by simpa using hkd
 rw [List.all_eq_true] at hall
 have nocell : ∀ x ∈ scope.names,x.2 ≠ .cell:=fun x hx e => by have:=hall x hx; rw [e] at this; simp at this
 have hnames : ∀ x ∈ scope.names,x.2 = .local -> scope.names.lookup x.1 = some .local:=fun x hx e => by
  have:=hall x hx
  rw [e] at this
  simp only [bne_self_eq_false,Bool.false_or,Bool.and_eq_true,beq_iff_eq] at this
  exact this.1.2
 have hclos : closureFor scope X.env = pure (closOf scope X.env):=closureFor_ok fun x hx e => by
  have:=hall x hx
  rw [e] at this
  simp only [bne_self_eq_false,Bool.false_or,Bool.and_eq_true,Bool.or_eq_true,beq_iff_eq] at this
  exact I.ok.has x.1 this.2
 rw [exec_Assign_Name_used _ _ _ _ hsw]
 refine wpAny_bind (wpAny_standAt (wpAny_bind ?_))
 show wpAny _ X.A (do let _ ← comprehension (.ListComp elt [⟨tg,iter,ifs,0⟩] scope pos) scope X.env _ (newList []) false (eval iter X.env) (some (assign (.Name y py) X.env))) _ _ s
 refine wpAny_bind (wpAny_mono (wpAny_comprehension_free (use:=some (assign (.Name y py) X.env)) (Q:=fun _ s' => SP X pins D .next s') rfl hs hclos hkd hnames
  (thn (hi pins s σ H _ I h) fun v s1 h1 => thn h1 fun itv s2 h2 => ?_)) (fun _ s' hq => wpAny_pure (wpAny_pure hq)) fun _ _ e => e)
 obtain ⟨it,fp,tn,J,H2,e,I2,T,st2,f2,hR⟩:=h2
 subst e
 refine wpAny_newObj_type (wpAny_newFunctionEnv nocell (by intro y hy; simp at hy) (fun h3 hn3 hs3 => ?_) hkd)
 have fr:=I2.fresh
 have I3 : Inv X pins σ (upd H2 s2.heap.objs.size (.lst [])) { s2 with heap:=s2.heap.push { cls:=.type "list",data:=.seq ([] : List Value).toArray },toks:=s2.toks }:=I2.lnew .nil (le_size (by decide))
 obtain ⟨W,⟨m0,w0⟩,turn⟩:=hR _ fr
 generalize hacc : s2.heap.objs.size = acc at *
 generalize hsx : ({ s2 with heap:=s2.heap.push { cls:=.type "list",data:=.seq ([] : List Value).toArray },toks:=s2.toks } : Shared) = sx at *
 have hC : sx.heap.objs.size = acc + 1:=by rw [← hsx,← hacc]; exact Heap.size_push _ _
 have fpl : ∀ b ∈ fp,b < acc:=fun b hb => by
  obtain ⟨o,ho,_⟩:=T.obj _ _ st2 b hb
  rw [← hacc]
  exact Heap.lt_size ho
 have f3 : ∀ b ∈ fp,FpOk X pins (upd H2 acc (.lst [])) b:=fun b hb => by
  obtain ⟨f0,f1⟩:=f2 b hb
  exact ⟨by rw [upd_ne (Nat.ne_of_lt (fpl b hb))]; exact f0,f1⟩
 have keep3 : ∀ b o,sx.heap.get? b = some o -> h3.get? b = some o:=fun b o e => by
  have hne : b ≠ sx.heap.objs.size:=Nat.ne_of_lt (Heap.lt_size e)
  exact (hs3.2 b hne).trans (Heap.get?_push_of_some _ e)
 have IC : Inv (compCx X N scope sx.heap.objs.size sx (upd H2 acc (.lst [])) fp) [] (capSt nt cs σ) (upd H2 acc (.lst [])) { sx with heap:=h3,toks:=sx.toks + ([] : List (Str × Value)).length } :=
  compCx_inv I3 hsc hcap hlen f3 (fun b hb => by rw [hC]; exact Nat.lt_succ_of_lt (fpl b hb)) (by simpa using hn3) keep3
 have hn3' : H2 acc = none:=fr
 generalize hXC : compCx X N scope sx.heap.objs.size sx (upd H2 acc (.lst [])) fp = XC at IC
 have ctxP : XC.prog = X.prog:=by rw [← hXC]; rfl
 have ctxW : XC.w = X.w:=by rw [← hXC]; rfl
 have ctxK : XC.K = X.K:=by rw [← hXC]; rfl
 have ctxA : XC.A = X.A:=by rw [← hXC]; rfl
 have ctxC : XC.calm = true:=by rw [← hXC]; exact hc
 have ctxX : XC.xe = fun _ _ => False:=by rw [← hXC]; rfl
 have ctxE : XC.env = compEnvC scope (closOf scope X.env) sx.heap.objs.size X.env:=by rw [← hXC]; rfl
 have body : CompBody XC tg ifs elt g tt te:=by rw [← hXC]; exact hb hnd _ _ _ _
 have st3 : tn 0 h3:=T.keep _ _ _ st2 fun b hb o e => keep3 b o (by rw [← hsx]; exact Heap.get?_push_of_some _ e)
 have stat : ∀ {H' : Hp},(∀ b ∈ fp,H' b = none) -> ∀ b ∈ fp,FpOk XC [] H' b:=fun hn b hb => by
  obtain ⟨f0,f1,f2',f3',f4,f5⟩:=f3 b hb
  refine ⟨hn b hb,?_,?_,.inl (by rw [← hXC]; exact hb),fun x c e => ?_,fun p hp => ?_⟩
  ·rw [ctxE]
   exact Nat.ne_of_lt (by rw [hC]; exact Nat.lt_succ_of_lt (fpl b hb))
  ·rw [← hXC]
   intro z
   rcases List.mem_cons.mp (I3.stkSub b z) with z | z
   ·exact f1 z
   ·exact f2' z
  ·rw [ctxE] at e
   exact f4 x c (mem_clos e)
  ·rw [← hXC] at hp
   cases hp
 have fin : ∀ {σ' : St} {H' : Hp} {s' : Shared},Inv XC [] σ' H' s' -> D.nx (σ.set ix (some (.ref acc))) H' -> compPost (model X.prog X.w) X.A X.xe (some (assign (.Name y py) X.env)) (fun _ s' => SP X pins D .next s') (.ref acc) sx.heap.objs.size (.ok .next) s':=by
  intro σ' H' s' J' q
  obtain ⟨m,hm,_⟩:=J'.loc
  have hfree:=J'.free
  rw [ctxE] at hm hfree
  have u:=J'.base
  rw [← hXC] at u
  have ok:=J'.hok
  rw [ctxP,ctxW] at ok
  have os:=J'.os
  rw [← hXC] at os
  have IX : Inv X pins σ H' s':=I3.call' os u ok J'.bare fun b hb => by
   obtain ⟨f0,f1,f2',f3',f4,f5⟩:=f3 b hb
   exact ⟨f3',f1,f4,f5⟩
  have hCL : sx.heap.objs.size ≠ X.env.locals:=Nat.ne_of_gt I3.lt
  have hCc : ∀ x c,X.env.cells.lookup x = some c -> c ≠ sx.heap.objs.size:=fun x c e => by
   obtain ⟨v,z⟩:=I3.cell x c e
   exact Nat.ne_of_lt z.lt
  have hCp : ∀ p ∈ X.pn ++ pins,p.1 ≠ sx.heap.objs.size:=fun p hp => Nat.ne_of_lt (Heap.lt_size (I3.pin p hp).1)
  show wpAny _ X.A (assign (.Name y py) X.env (.ref acc)) _ _ s'
  refine wpAny_assign_Name (store_ok2 IX hN hix hy (v:=.ref acc) rfl (fun s'' I'' ⟨a,hsb,ha⟩ => ?_) hf)
  have hCa : sx.heap.objs.size ≠ a:=fun z => by
   rcases ha with e | e
   ·exact hCL (z.trans e)
   ·exact hCc _ _ e z.symm
  refine ⟨m,hm.sameBut hsb hCa,fun h' hs' => ⟨_,H',?_,q⟩⟩
  exact I''.turned (t':=s''.toks) (fun b o hb e => (hs'.2 b hb).trans e) hfree hCL (.inr I3.sz) hCc hCp
 have loop : codeAny (model X.prog X.w) X.A (.compLoop (.ListComp elt [⟨tg,iter,ifs,0⟩] scope pos) 0 (.ref it) (.ref acc) XC.env) (compPost (model X.prog X.w) X.A X.xe (some (assign (.Name y py) X.env)) (fun _ s' => SP X pins D .next s') (.ref acc) sx.heap.objs.size)
   { sx with heap:=h3,toks:=sx.toks + ([] : List (Str × Value)).length }:=by
  rw [← ctxP,← ctxW,← ctxA]
  refine codeAny_compLoop_gen (fun n s' => ∃ i ys σ' H',Inv XC [] σ' H' s' /\ tn i s'.heap /\ (∀ b ∈ fp,H' b = none) /\ W i n ys σ' H') ?_ m0 ⟨0,[],_,_,IC,st3,fun b hb => (f3 b hb).1,w0⟩
  rintro n s3 ⟨i,ys,σ3,H3,I3',st3',fr3,w3⟩
  have T':=T
  rw [← ctxP,← ctxW,← ctxK] at T'
  obtain ⟨hacc3,alt⟩:=turn i n ys σ3 H3 w3
  rcases alt with ⟨stop,qn⟩ | ⟨go,hsz,NN,hNN,step⟩
  ·refine thn (T'.done XC rfl rfl rfl ctxC i [] s3 σ3 H3 _ I3' (stat fr3) st3' stop) fun r s4 ⟨hr,I4⟩ => ?_
   subst hr
   rw [ctxP,ctxW,ctxA]
   exact fin I4 qn
  ·refine thn (T'.item XC rfl rfl rfl ctxC i [] s3 σ3 H3 _ I3' (stat fr3) st3' go) fun r s4 ⟨u,hr,h4⟩ => ?_
   subst hr
   refine thn h4 fun _ s5 ⟨x,H5,I5,r5,y5,st5,fr5⟩ => ?_
   have I5':=I5.pinned (stat fr5) (T'.obj _ _ st5)
   have a1:=body.tg _ s5 σ3 H5 x u _ I5' r5 (step x H5 y5)
   rw [ctxX] at a1
   refine thn a1 fun _ s6 ⟨σ6,H6,I6,q6⟩ => ?_
   have a2:=body.tt _ s6 σ6 H6 _ I6 q6
   rw [ctxX] at a2
   refine thn a2 fun b s7 ⟨H7,I7,q7⟩ => ?_
   have again : ∀ {s8 : Shared} {σ7 : St} {H7 : Hp} {zs : List V},Inv XC ([] ++ pinsAt fp s5.heap) σ7 H7 s8 -> NN zs σ7 H7 -> ∃ m,m < n /\ ∃ i ys σ' H',Inv XC [] σ' H' s8 /\ tn i s8.heap /\ (∀ b ∈ fp,H' b = none) /\ W i m ys σ' H':=fun {s8 σ7 H7 zs} I7 n7 => by
    obtain ⟨m',hm,w7⟩:=hNN zs σ7 H7 n7
    refine ⟨m',hm,i + 1,zs,σ7,H7,I7.unpinned,T'.keep _ _ _ st5 fun b hb o e => (I7.pin (b,o) (List.mem_append_right _ (List.mem_append_right _ (mem_pinsAt hb e)))).1,fun b hb => ?_,w7⟩
    obtain ⟨o,e,d⟩:=T'.obj _ _ st5 b hb
    exact (I7.pin (b,o) (List.mem_append_right _ (List.mem_append_right _ (mem_pinsAt hb e)))).2.1
   cases b with
   | false =>
    rw [if_neg Bool.false_ne_true] at q7 ⊢
    exact again I7 q7
   | true =>
    rw [if_pos rfl] at q7 ⊢
    have a3:=body.te _ s7 σ6 H7 _ I7 q7
    rw [ctxX] at a3
    refine thn a3 fun xv s8 ⟨y,H8,I8,r8,q8⟩ => ?_
    obtain ⟨hl8,n8⟩:=q8
    have a4:=mt_append (X:=XC) _ s8 σ6 H8 (.ref acc) [y] (.ref acc) [xv] (fun _ H9 => NN (ys ++ [y]) σ6 H9) I8 rfl (.cons r8 .nil) ⟨acc,ys,y,rfl,rfl,hl8,hsz,n8⟩
    rw [ctxX] at a4
    refine thn a4 fun _ s9 ⟨_,H9,I9,_,q9⟩ => ?_
    exact again I9 q9
 rw [ctxE] at loop
 exact codeAny_compStart_list loop (T.self X.A 0 _ _ _ st3 loop)
end
end L2
set_option Elab.async false
set_option linter.all false
set_option maxRecDepth 100000
set_option maxHeartbeats 1000000
namespace L2
open PySem PySem.Spec PyProof.Rows
inductive Dt where
 | f (x : V)
 | l (xs : List Dt)
 | t (xs : List Dt)
mutual
def Is (K : PySem.W.Frag) (H : Hp) (x : V) : Dt -> Prop
 | .f y => x = y /\ flatV y = true
 | .l ds => ∃ p xs,x = .ref p /\ SqL K H p xs /\ IsL K H xs ds
 | .t ds => ∃ p xs,x = .ref p /\ SqT K H p xs /\ IsL K H xs ds
def IsL (K : PySem.W.Frag) (H : Hp) (xs : List V) : List Dt -> Prop
 | [] => xs = []
 | d :: ds => ∃ x r,xs = x :: r /\ Is K H x d /\ IsL K H r ds
end
mutual
def deq : Dt -> Dt -> Bool
 | .f x,.f y => eqV x y
 | .l xs,.l ys => deqL xs ys
 | .t xs,.t ys => deqL xs ys
 | _,_ => false
def deqL : List Dt -> List Dt -> Bool
 | [],[] => true
 | x :: xs,y :: ys => deq x y && deqL xs ys
 | _,_ => false
end
mutual
def dep : Dt -> Nat
 | .f _ => 0
 | .l xs => depL xs + 1
 | .t xs => depL xs + 1
def depL : List Dt -> Nat
 | [] => 0
 | d :: ds => max (dep d) (depL ds)
end
theorem IsL.len {K : PySem.W.Frag} {H : Hp} : ∀ {ds : List Dt} {xs : List V},IsL K H xs ds -> xs.length = ds.length
 | [],xs,h => by rw [IsL] at h; subst h; rfl
 | d :: ds,xs,h => by
  rw [IsL] at h
  obtain ⟨x,r,rfl,_,h⟩:=h
  rw [List.length_cons,List.length_cons,IsL.len h]
theorem IsL.get {K : PySem.W.Frag} {H : Hp} : ∀ {ds : List Dt} {xs : List V} {j : Nat} {x : V},IsL K H xs ds -> xs[j]? = some x -> ∃ d,ds[j]? = some d /\ Is K H x d
 | [],xs,j,x,h,e => by rw [IsL] at h; subst h; simp at e
 | d :: ds,xs,j,x,h,e => by
  rw [IsL] at h
  obtain ⟨y,r,rfl,hy,h⟩:=h
  cases j with
  | zero => simp at e; subst e; exact ⟨d,rfl,hy⟩
  | succ j => exact IsL.get (j:=j) h (by simpa using e)
theorem depL_mem {ds : List Dt} : ∀ {d : Dt} {j : Nat},ds[j]? = some d -> dep d <= depL ds:=by
 induction ds with
 | nil => intro d j e; simp at e
 | cons a r ih =>
  intro d j e
  rw [depL]
  cases j with
  | zero => simp at e; subst e; omega
  | succ j => have:=ih (d:=d) (j:=j) (by simpa using e); omega
mutual
theorem deq_refl : ∀ (d : Dt) {K : PySem.W.Frag} {H : Hp} {x : V},Is K H x d -> deq d d = true
 | .f y,K,H,x,h => by
  rw [Is] at h
  rw [deq]
  have hy:=h.2
  cases y <;> first | (simp [eqV]; done) | (exact absurd hy (by decide)) | (cases hy)
 | .l ds,K,H,x,h => by
  rw [Is] at h
  obtain ⟨p,xs,_,_,h⟩:=h
  rw [deq]
  exact deqL_refl ds h
 | .t ds,K,H,x,h => by
  rw [Is] at h
  obtain ⟨p,xs,_,_,h⟩:=h
  rw [deq]
  exact deqL_refl ds h
theorem deqL_refl : ∀ (ds : List Dt) {K : PySem.W.Frag} {H : Hp} {xs : List V},IsL K H xs ds -> deqL ds ds = true
 | [],_,_,_,_ => by rw [deqL]
 | d :: ds,K,H,xs,h => by
  rw [IsL] at h
  obtain ⟨y,r,_,hy,h⟩:=h
  rw [deqL,deq_refl d hy,deqL_refl ds h]
  rfl
end
theorem deqL_get : ∀ {ds es : List Dt},deqL ds es = (decide (ds.length = es.length) && (List.range ds.length).all fun j => match ds[j]?,es[j]? with | some d,some e => deq d e | _,_ => false)
 | [],[] => by simp [deqL]
 | [],e :: es => by simp [deqL]
 | d :: ds,[] => by simp [deqL]
 | d :: ds,e :: es => by
  rw [deqL,deqL_get]
  have r : List.range (d :: ds).length = 0 :: (List.range ds.length).map (· + 1):=by rw [List.length_cons,List.range_succ_eq_map]
  rw [r,List.all_cons,List.all_map]
  simp only [List.getElem?_cons_zero,List.length_cons,Nat.add_right_cancel_iff]
  have c : ((fun j => match (d :: ds)[j]?,(e :: es)[j]? with | some d,some e => deq d e | _,_ => false) ∘ fun x => x + 1) = (fun j => match ds[j]?,es[j]? with | some d,some e => deq d e | _,_ => false):=by
   funext j
   simp
  rw [c]
  cases deq d e <;> cases decide (ds.length = es.length) <;> rfl
section
variable {X : Cx} {pins : List (Addr × Obj)} {σ : St} {H : Hp} {s : Shared}
mutual
theorem Is.inj : ∀ (d : Dt) {e : Dt} {x : V},Inv X pins σ H s -> Is X.K H x d -> Is X.K H x e -> (∀ p xs ys,SqL X.K H p xs -> ¬ SqT X.K H p ys) -> d = e
 | .f y,e,x,I,h,h',hk => by
  rw [Is] at h
  obtain ⟨rfl,hy⟩:=h
  cases e with
  | f z => rw [Is] at h'; rw [h'.1]
  | l ds => rw [Is] at h'; obtain ⟨p,xs,e,_⟩:=h'; subst e; cases hy
  | t ds => rw [Is] at h'; obtain ⟨p,xs,e,_⟩:=h'; subst e; cases hy
 | .l ds,e,x,I,h,h',hk => by
  rw [Is] at h
  obtain ⟨p,xs,rfl,hs,h⟩:=h
  cases e with
  | f z => rw [Is] at h'; obtain ⟨e,hz⟩:=h'; subst e; cases hz
  | l es =>
   rw [Is] at h'
   obtain ⟨q,ys,e,hs',h'⟩:=h'
   cases e
   rw [I.list_inj hs' hs] at h'
   rw [IsL.inj ds I h h' hk]
  | t es =>
   rw [Is] at h'
   obtain ⟨q,ys,e,hs',h'⟩:=h'
   cases e
   exact absurd hs' (hk _ _ _ hs)
 | .t ds,e,x,I,h,h',hk => by
  rw [Is] at h
  obtain ⟨p,xs,rfl,hs,h⟩:=h
  cases e with
  | f z => rw [Is] at h'; obtain ⟨e,hz⟩:=h'; subst e; cases hz
  | l es =>
   rw [Is] at h'
   obtain ⟨q,ys,e,hs',h'⟩:=h'
   cases e
   exact absurd hs (hk _ _ _ hs')
  | t es =>
   rw [Is] at h'
   obtain ⟨q,ys,e,hs',h'⟩:=h'
   cases e
   rw [I.tuple_inj hs' hs] at h'
   rw [IsL.inj ds I h h' hk]
theorem IsL.inj : ∀ (ds : List Dt) {es : List Dt} {xs : List V},Inv X pins σ H s -> IsL X.K H xs ds -> IsL X.K H xs es -> (∀ p xs ys,SqL X.K H p xs -> ¬ SqT X.K H p ys) -> ds = es
 | [],es,xs,I,h,h',hk => by
  rw [IsL] at h
  subst h
  cases es with
  | nil => rfl
  | cons e es => rw [IsL] at h'; obtain ⟨_,_,e,_⟩:=h'; cases e
 | d :: ds,es,xs,I,h,h',hk => by
  rw [IsL] at h
  obtain ⟨y,r,rfl,hy,h⟩:=h
  cases es with
  | nil => rw [IsL] at h'; cases h'
  | cons e es =>
   rw [IsL] at h'
   obtain ⟨y',r',e1,hy',h'⟩:=h'
   cases e1
   rw [Is.inj d I hy hy' hk,IsL.inj ds I h h' hk]
end
theorem Inv.apart (I : Inv X pins σ H s) : ∀ p xs ys,SqL X.K H p xs -> ¬ SqT X.K H p ys:=fun p xs ys h h' => by
 obtain ⟨its,_,⟨o,n,e,c,_⟩,_⟩:=I.list h
 obtain ⟨its',_,⟨o',e',c',_⟩,_⟩:=I.tuple h'
 rw [e] at e'
 cases e'
 rw [c] at c'
 exact absurd c' (by decide)
theorem eqAt_F {x : V} (e : Dt) {A : Around} {y : V} {u v : Value} (hu : A.units < cLine) (I : Inv X pins σ H s) (fx : flatV x = true) (hy : Is X.K H y e) (rx : RelV x u) (ry : RelV y v) : SeqAt.EqAt A s u v (deq (.f x) e):=by
 cases e with
 | f y' =>
  rw [Is] at hy
  obtain ⟨rfl,fy⟩:=hy
  rw [deq]
  exact eqAt_V rx ry fx fy
 | l ds =>
  rw [Is] at hy
  obtain ⟨p,ys,rfl,hs,_⟩:=hy
  cases ry
  obtain ⟨its,_,pl,_⟩:=I.list hs
  have hl:=pl.isList
  rw [show deq (.f x) (.l ds) = false by rw [deq]; all_goals (intros; simp_all)]
  cases x with
  | non => cases rx; exact SeqAt.EqAt.none_list hl hu
  | bl b => cases rx; exact SeqAt.EqAt.bool_list b hl hu
  | int i => obtain ⟨t,rfl⟩:=rx; exact SeqAt.EqAt.int_list i t hl hu
  | str z => obtain ⟨t,rfl⟩:=rx; exact SeqAt.EqAt.str_list z t hl hu
  | _ => cases fx
 | t ds =>
  rw [Is] at hy
  obtain ⟨p,ys,rfl,hs,_⟩:=hy
  cases ry
  obtain ⟨its,_,pl,_⟩:=I.tuple hs
  have hl : s.heap.IsTuple p its.toArray:=pl
  rw [show deq (.f x) (.t ds) = false by rw [deq]; all_goals (intros; simp_all)]
  cases x with
  | non => cases rx; exact SeqAt.EqAt.none_tuple hl hu
  | bl b => cases rx; exact SeqAt.EqAt.bool_tuple b hl hu
  | int i => obtain ⟨t,rfl⟩:=rx; exact SeqAt.EqAt.int_tuple i t hl hu
  | str z => obtain ⟨t,rfl⟩:=rx; exact SeqAt.EqAt.str_tuple z t hl hu
  | _ => cases fx
def deqAt (ds es : List Dt) (j : Nat) : Bool:=match ds[j]?,es[j]? with | some d,some e => deq d e | _,_ => false
theorem elems {n : Nat} {A : Around} (ih : ∀ (d e : Dt) {A : Around} {x y : V} {u v : Value},dep d <= n -> A.units + n < cLine -> Inv X pins σ H s -> Is X.K H x d -> Is X.K H y e -> RelV x u -> RelV y v -> SeqAt.EqAt A s u v (deq d e)) (hu : A.units + (n + 1) < cLine) (I : Inv X pins σ H s)
  {ds es : List Dt} {xs ys : List V} {its its' : List Value} (hd : depL ds <= n) (hx : IsL X.K H xs ds) (hy : IsL X.K H ys es) (rx : Vals xs its) (ry : Vals ys its') :
  ∀ j (h1 : j < its.toArray.size) (h2 : j < its'.toArray.size),SeqAt.EqAt A.in1 s its.toArray[j] its'.toArray[j] (deqAt ds es j):=by
 intro j h1 h2
 have l1:=rx.length
 have l2:=ry.length
 have k1 : j < xs.length:=by simpa [l1] using h1
 have k2 : j < ys.length:=by simpa [l2] using h2
 obtain ⟨d,e1,q1⟩:=hx.get (List.getElem?_eq_getElem k1)
 obtain ⟨e,e2,q2⟩:=hy.get (List.getElem?_eq_getElem k2)
 obtain ⟨u,hu',ru⟩:=rx.get (List.getElem?_eq_getElem k1)
 obtain ⟨v,hv',rv⟩:=ry.get (List.getElem?_eq_getElem k2)
 have f1 : its.toArray[j] = u:=by
  have : its[j]? = some its.toArray[j]:=by simp
  rw [hu'] at this
  exact (Option.some.inj this).symm
 have f2 : its'.toArray[j] = v:=by
  have : its'[j]? = some its'.toArray[j]:=by simp
  rw [hv'] at this
  exact (Option.some.inj this).symm
 rw [f1,f2]
 unfold deqAt
 rw [e1,e2]
 exact ih d e (Nat.le_trans (depL_mem e1) hd) (by rw [Around.in1_units]; omega) I q1 q2 ru rv
theorem all_deqAt {ds es : List Dt} (h : ds.length = es.length) : (List.range ds.length).all (deqAt ds es) = deqL ds es:=by
 rw [deqL_get,decide_eq_true h,Bool.true_and]
 rfl
theorem deqL_ne {ds es : List Dt} (h : ds.length ≠ es.length) : deqL ds es = false:=by
 rw [deqL_get,decide_eq_false h,Bool.false_and]
theorem rcAt_D : ∀ (n : Nat) (d e : Dt) {A : Around} {x y : V} {u v : Value},dep d <= n -> A.units + n < cLine -> Inv X pins σ H s -> Is X.K H x d -> Is X.K H y e -> RelV x u -> RelV y v -> SeqAt.EqAt A s u v (deq d e) /\ (∀ p,x = .ref p -> SeqAt.RcAt A s u v (deq d e))
 | n,.f x',e,A,x,y,u,v,hn,hu,I,hx,hy,rx,ry => by
  rw [Is] at hx
  obtain ⟨rfl,fx⟩:=hx
  exact ⟨eqAt_F e (by omega) I fx hy rx ry,fun p e => by subst e; cases fx⟩
 | 0,.l ds,e,A,x,y,u,v,hn,hu,I,hx,hy,rx,ry => by rw [dep] at hn; omega
 | 0,.t ds,e,A,x,y,u,v,hn,hu,I,hx,hy,rx,ry => by rw [dep] at hn; omega
 | n + 1,.l ds,e,A,x,y,u,v,hn,hu,I,hx,hy,rx,ry => by
  rw [dep] at hn
  have hx0:=hx
  rw [Is] at hx
  obtain ⟨p,xs,rfl,hs,hxs⟩:=hx
  cases rx
  obtain ⟨its,rv,pl,_⟩:=I.list hs
  have hl:=pl.isList
  have hu' : A.units < cLine:=by omega
  have ih:=fun (d e : Dt) {A : Around} {x y : V} {u v : Value} (a : dep d <= n) (b : A.units + n < cLine) (c : Inv X pins σ H s) (f : Is X.K H x d) (g : Is X.K H y e) (h : RelV x u) (i : RelV y v) => (rcAt_D n d e a b c f g h i).1
  cases e with
  | f y' =>
   rw [Is] at hy
   obtain ⟨rfl,fy⟩:=hy
   rw [show deq (.l ds) (.f y) = false by rw [deq]; all_goals (intros; simp_all)]
   cases y with
   | non => cases ry; exact ⟨SeqAt.EqAt.list_none hl hu',fun _ _ => SeqAt.RcAt.list_none hl hu'⟩
   | bl b => cases ry; exact ⟨SeqAt.EqAt.list_bool b hl hu',fun _ _ => SeqAt.RcAt.list_bool b hl hu'⟩
   | int i => obtain ⟨t,rfl⟩:=ry; exact ⟨SeqAt.EqAt.list_int i t hl hu',fun _ _ => SeqAt.RcAt.list_int i t hl hu'⟩
   | str z => obtain ⟨t,rfl⟩:=ry; exact ⟨SeqAt.EqAt.list_str z t hl hu',fun _ _ => SeqAt.RcAt.list_str z t hl hu'⟩
   | _ => cases fy
  | l es =>
   have hy0:=hy
   rw [Is] at hy
   obtain ⟨q,ys,rfl,hs',hys⟩:=hy
   cases ry
   obtain ⟨its',rv',pl',_⟩:=I.list hs'
   have hl':=pl'.isList
   have e1 : its.toArray.size = ds.length:=by rw [List.size_toArray,← rv.length,hxs.len]
   have e2 : its'.toArray.size = es.length:=by rw [List.size_toArray,← rv'.length,hys.len]
   have rc : SeqAt.RcAt A s (.ref p) (.ref q) (deq (.l ds) (.l es)):=by
    rw [deq]
    by_cases hz : ds.length = es.length
    ·have:=SeqAt.RcAt.lists hl hl' (by omega) hu' (elems ih hu I (by omega) hxs hys rv rv')
     rw [e1,all_deqAt hz] at this
     exact this
    ·rw [deqL_ne hz]
     exact SeqAt.RcAt.lists_lengths hl hl' (by rw [bne_iff_ne]; omega) hu'
   refine ⟨?_,fun _ _ => rc⟩
   by_cases hpq : p = q
   ·subst hpq
    have:=Is.inj _ I hx0 hy0 I.apart
    rw [← this,deq_refl _ hx0]
    exact SeqAt.EqAt.same _
   ·exact SeqAt.EqAt.of_refs hpq rc
  | t es =>
   rw [Is] at hy
   obtain ⟨q,ys,rfl,hs',hys⟩:=hy
   cases ry
   obtain ⟨its',rv',pl',_⟩:=I.tuple hs'
   have hl' : s.heap.IsTuple q its'.toArray:=pl'
   rw [show deq (.l ds) (.t es) = false by rw [deq]; all_goals (intros; simp_all)]
   exact ⟨SeqAt.EqAt.list_tuple hl hl' hu',fun _ _ => SeqAt.RcAt.list_tuple hl hl' hu'⟩
 | n + 1,.t ds,e,A,x,y,u,v,hn,hu,I,hx,hy,rx,ry => by
  rw [dep] at hn
  have hx0:=hx
  rw [Is] at hx
  obtain ⟨p,xs,rfl,hs,hxs⟩:=hx
  cases rx
  obtain ⟨its,rv,pl,_⟩:=I.tuple hs
  have hl : s.heap.IsTuple p its.toArray:=pl
  have hu' : A.units < cLine:=by omega
  have ih:=fun (d e : Dt) {A : Around} {x y : V} {u v : Value} (a : dep d <= n) (b : A.units + n < cLine) (c : Inv X pins σ H s) (f : Is X.K H x d) (g : Is X.K H y e) (h : RelV x u) (i : RelV y v) => (rcAt_D n d e a b c f g h i).1
  cases e with
  | f y' =>
   rw [Is] at hy
   obtain ⟨rfl,fy⟩:=hy
   rw [show deq (.t ds) (.f y) = false by rw [deq]; all_goals (intros; simp_all)]
   cases y with
   | non => cases ry; exact ⟨SeqAt.EqAt.tuple_none hl hu',fun _ _ => SeqAt.RcAt.tuple_none hl hu'⟩
   | bl b => cases ry; exact ⟨SeqAt.EqAt.tuple_bool b hl hu',fun _ _ => SeqAt.RcAt.tuple_bool b hl hu'⟩
   | int i => obtain ⟨t,rfl⟩:=ry; exact ⟨SeqAt.EqAt.tuple_int i t hl hu',fun _ _ => SeqAt.RcAt.tuple_int i t hl hu'⟩
   | str z => obtain ⟨t,rfl⟩:=ry; exact ⟨SeqAt.EqAt.tuple_str z t hl hu',fun _ _ => SeqAt.RcAt.tuple_str z t hl hu'⟩
   | _ => cases fy
  | l es =>
   rw [Is] at hy
   obtain ⟨q,ys,rfl,hs',hys⟩:=hy
   cases ry
   obtain ⟨its',rv',pl',_⟩:=I.list hs'
   have hl':=pl'.isList
   rw [show deq (.t ds) (.l es) = false by rw [deq]; all_goals (intros; simp_all)]
   exact ⟨SeqAt.EqAt.tuple_list hl hl' hu',fun _ _ => SeqAt.RcAt.tuple_list hl hl' hu'⟩
  | t es =>
   have hy0:=hy
   rw [Is] at hy
   obtain ⟨q,ys,rfl,hs',hys⟩:=hy
   cases ry
   obtain ⟨its',rv',pl',_⟩:=I.tuple hs'
   have hl' : s.heap.IsTuple q its'.toArray:=pl'
   have e1 : its.toArray.size = ds.length:=by rw [List.size_toArray,← rv.length,hxs.len]
   have e2 : its'.toArray.size = es.length:=by rw [List.size_toArray,← rv'.length,hys.len]
   have rc : SeqAt.RcAt A s (.ref p) (.ref q) (deq (.t ds) (.t es)):=by
    rw [deq]
    have:=SeqAt.RcAt.tuples hl hl' hu' (elems ih hu I (by omega) hxs hys rv rv')
    rw [e1,e2] at this
    by_cases hz : ds.length = es.length
    ·rw [← hz,Nat.min_self,all_deqAt hz,beq_self_eq_true,Bool.and_true] at this
     exact this
    ·rw [deqL_ne hz]
     have : (ds.length == es.length) = false:=by simpa using hz
     simp_all
   refine ⟨?_,fun _ _ => rc⟩
   by_cases hpq : p = q
   ·subst hpq
    have:=Is.inj _ I hx0 hy0 I.apart
    rw [← this,deq_refl _ hx0]
    exact SeqAt.EqAt.same _
   ·exact SeqAt.EqAt.of_refs hpq rc
end
def rEqD (K : PySem.W.Frag) : R2:=fun x y H Q => ∃ p d e,x = .ref p /\ Is K H x d /\ Is K H y e /\ dep d <= 50 /\ Q (.bl (deq d e)) H
def rNeD (K : PySem.W.Frag) : R2:=fun x y H Q => ∃ p d e,x = .ref p /\ Is K H x d /\ Is K H y e /\ dep d <= 50 /\ Q (.bl (!deq d e)) H
section
variable {X : Cx}
theorem op_eqD {k : Nat} (hr : Room k X.A) : OpR X (compareOp .Eq) (rEqD X.K):=by
 intro pins s σ H x y v u Q I rx ry h
 obtain ⟨p,d,e,rfl,hx,hy,hd,q⟩:=h
 have:=(rcAt_D 50 d e (A:=X.A) hd (by have:=hr.units; omega) I hx hy rx ry).2 p rfl
 exact this X.prog X.w X.xe _ ⟨.bl _,H,I,rfl,q⟩
end
end L2
set_option Elab.async false
set_option linter.all false
set_option maxRecDepth 100000
set_option maxHeartbeats 1000000
namespace L2
open PySem PySem.Spec PyProof.Rows
section
variable {X : Cx} {pins : List (Addr × Obj)} {σ : St} {H : Hp} {s : Shared}
theorem ih50 (n : Nat) (d e : Dt) {A : Around} {x y : V} {u v : Value} (a : dep d <= n) (b : A.units + n < cLine) (c : Inv X pins σ H s) (f : Is X.K H x d) (g : Is X.K H y e) (h : RelV x u) (i : RelV y v) : SeqAt.EqAt A s u v (deq d e):=(rcAt_D n d e a b c f g h i).1
theorem neAt_D (n : Nat) (d e : Dt) {A : Around} {p : Addr} {y : V} {v : Value} (hn : dep d <= n + 1) (hu : A.units + (n + 1) < cLine) (I : Inv X pins σ H s) (hx : Is X.K H (.ref p) d) (hy : Is X.K H y e) (ry : RelV y v) : SeqAt.RcNeAt A s (.ref p) v (!deq d e):=by
 have hu' : A.units < cLine:=by omega
 cases d with
 | f x => rw [Is] at hx; obtain ⟨e,hz⟩:=hx; subst e; cases hz
 | l ds =>
  rw [dep] at hn
  rw [Is] at hx
  obtain ⟨p',xs,e0,hs,hxs⟩:=hx
  cases e0
  obtain ⟨its,rv,pl,_⟩:=I.list hs
  have hl:=pl.isList
  cases e with
  | f y' =>
   rw [Is] at hy
   obtain ⟨rfl,fy⟩:=hy
   rw [show deq (.l ds) (.f y) = false by rw [deq]; all_goals (intros; simp_all)]
   cases y with
   | non => cases ry; exact SeqAt.RcNeAt.list_none hl hu'
   | bl b => cases ry; exact SeqAt.RcNeAt.list_bool b hl hu'
   | int i => obtain ⟨t,rfl⟩:=ry; exact SeqAt.RcNeAt.list_int i t hl hu'
   | str z => obtain ⟨t,rfl⟩:=ry; exact SeqAt.RcNeAt.list_str z t hl hu'
   | _ => cases fy
  | l es =>
   rw [Is] at hy
   obtain ⟨q,ys,rfl,hs',hys⟩:=hy
   cases ry
   obtain ⟨its',rv',pl',_⟩:=I.list hs'
   have hl':=pl'.isList
   have e1 : its.toArray.size = ds.length:=by rw [List.size_toArray,← rv.length,hxs.len]
   have e2 : its'.toArray.size = es.length:=by rw [List.size_toArray,← rv'.length,hys.len]
   rw [deq]
   by_cases hz : ds.length = es.length
   ·have:=SeqAt.RcNeAt.lists hl hl' (by omega) hu' (elems (ih50 n) hu I (by omega) hxs hys rv rv')
    rw [e1,all_deqAt hz] at this
    exact this
   ·rw [deqL_ne hz]
    exact SeqAt.RcNeAt.lists_lengths hl hl' (by rw [bne_iff_ne]; omega) hu'
  | t es =>
   rw [Is] at hy
   obtain ⟨q,ys,rfl,hs',hys⟩:=hy
   cases ry
   obtain ⟨its',rv',pl',_⟩:=I.tuple hs'
   have hl' : s.heap.IsTuple q its'.toArray:=pl'
   rw [show deq (.l ds) (.t es) = false by rw [deq]; all_goals (intros; simp_all)]
   exact SeqAt.RcNeAt.list_tuple hl hl' hu'
 | t ds =>
  rw [dep] at hn
  rw [Is] at hx
  obtain ⟨p',xs,e0,hs,hxs⟩:=hx
  cases e0
  obtain ⟨its,rv,pl,_⟩:=I.tuple hs
  have hl : s.heap.IsTuple p its.toArray:=pl
  cases e with
  | f y' =>
   rw [Is] at hy
   obtain ⟨rfl,fy⟩:=hy
   rw [show deq (.t ds) (.f y) = false by rw [deq]; all_goals (intros; simp_all)]
   cases y with
   | non => cases ry; exact SeqAt.RcNeAt.tuple_none hl hu'
   | bl b => cases ry; exact SeqAt.RcNeAt.tuple_bool b hl hu'
   | int i => obtain ⟨t,rfl⟩:=ry; exact SeqAt.RcNeAt.tuple_int i t hl hu'
   | str z => obtain ⟨t,rfl⟩:=ry; exact SeqAt.RcNeAt.tuple_str z t hl hu'
   | _ => cases fy
  | l es =>
   rw [Is] at hy
   obtain ⟨q,ys,rfl,hs',hys⟩:=hy
   cases ry
   obtain ⟨its',rv',pl',_⟩:=I.list hs'
   have hl':=pl'.isList
   rw [show deq (.t ds) (.l es) = false by rw [deq]; all_goals (intros; simp_all)]
   exact SeqAt.RcNeAt.tuple_list hl hl' hu'
  | t es =>
   rw [Is] at hy
   obtain ⟨q,ys,rfl,hs',hys⟩:=hy
   cases ry
   obtain ⟨its',rv',pl',_⟩:=I.tuple hs'
   have hl' : s.heap.IsTuple q its'.toArray:=pl'
   have e1 : its.toArray.size = ds.length:=by rw [List.size_toArray,← rv.length,hxs.len]
   have e2 : its'.toArray.size = es.length:=by rw [List.size_toArray,← rv'.length,hys.len]
   rw [deq]
   have:=SeqAt.RcNeAt.tuples hl hl' hu' (elems (ih50 n) hu I (by omega) hxs hys rv rv')
   rw [e1,e2] at this
   by_cases hz : ds.length = es.length
   ·rw [← hz,Nat.min_self,all_deqAt hz,beq_self_eq_true,Bool.and_true] at this
    exact this
   ·rw [deqL_ne hz]
    have : (ds.length == es.length) = false:=by simpa using hz
    simp_all
end
section
variable {X : Cx}
theorem op_neD {k : Nat} (hr : Room k X.A) : OpR X (compareOp .NotEq) (rNeD X.K):=by
 intro pins s σ H x y v u Q I rx ry h
 obtain ⟨p,d,e,rfl,hx,hy,hd,q⟩:=h
 cases rx
 have:=neAt_D 50 d e (A:=X.A) (by omega) (by have:=hr.units; omega) I hx hy ry
 exact this X.prog X.w X.xe _ ⟨.bl _,H,I,rfl,q⟩
end
theorem isL_flat {K : PySem.W.Frag} {H : Hp} : ∀ {xs : List V},xs.all flatV = true -> IsL K H xs (xs.map Dt.f)
 | [],_ => by rw [List.map_nil,IsL]
 | x :: r,h => by
  rw [List.all_cons,Bool.and_eq_true] at h
  rw [List.map_cons,IsL]
  exact ⟨x,r,rfl,by rw [Is]; exact ⟨rfl,h.1⟩,isL_flat h.2⟩
theorem is_lst {K : PySem.W.Frag} {H : Hp} {p : Addr} {xs : List V} (h : SqL K H p xs) (f : xs.all flatV = true) : Is K H (.ref p) (.l (xs.map Dt.f)):=by rw [Is]; exact ⟨p,xs,rfl,h,isL_flat f⟩
theorem is_tup {K : PySem.W.Frag} {H : Hp} {p : Addr} {xs : List V} (h : SqT K H p xs) (f : xs.all flatV = true) : Is K H (.ref p) (.t (xs.map Dt.f)):=by rw [Is]; exact ⟨p,xs,rfl,h,isL_flat f⟩
theorem depL_flat : ∀ {xs : List V},depL (xs.map Dt.f) = 0
 | [] => by rw [List.map_nil,depL]
 | x :: r => by rw [List.map_cons,depL,depL_flat,dep]; rfl
theorem dep_l {xs : List V} : dep (.l (xs.map Dt.f)) = 1:=by rw [dep,depL_flat]
theorem dep_t {xs : List V} : dep (.t (xs.map Dt.f)) = 1:=by rw [dep,depL_flat]
theorem flat_ints (ns : List Int) : (ns.map V.int).all flatV = true:=by rw [List.all_map]; simp [flatV]
theorem deqL_ints : ∀ (ns ms : List Int),deqL ((ns.map V.int).map Dt.f) ((ms.map V.int).map Dt.f) = decide (ns = ms)
 | [],[] => by simp [deqL]
 | [],m :: ms => by simp [deqL]
 | n :: ns,[] => by simp [deqL]
 | n :: ns,m :: ms => by
  rw [List.map_cons,List.map_cons,List.map_cons,List.map_cons,deqL,deqL_ints ns ms,deq]
  by_cases h1 : n = m <;> by_cases h2 : ns = ms <;> simp [eqV,h1,h2]
theorem deq_lints (ns ms : List Int) : deq (.l ((ns.map V.int).map Dt.f)) (.l ((ms.map V.int).map Dt.f)) = decide (ns = ms):=by rw [deq,deqL_ints]
theorem deq_tints (ns ms : List Int) : deq (.t ((ns.map V.int).map Dt.f)) (.t ((ms.map V.int).map Dt.f)) = decide (ns = ms):=by rw [deq,deqL_ints]
theorem eqLI {K : PySem.W.Frag} {H : Hp} {p q : Addr} {ns ms : List Int} {Q : VK} (h1 : SqL K H p (ns.map V.int)) (h2 : SqL K H q (ms.map V.int)) (h : Q (.bl (decide (ns = ms))) H) : rEqD K (.ref p) (.ref q) H Q :=
 ⟨p,_,_,rfl,is_lst h1 (flat_ints _),is_lst h2 (flat_ints _),by rw [dep_l]; decide,by rw [deq_lints]; exact h⟩
theorem neLI {K : PySem.W.Frag} {H : Hp} {p q : Addr} {ns ms : List Int} {Q : VK} (h1 : SqL K H p (ns.map V.int)) (h2 : SqL K H q (ms.map V.int)) (h : Q (.bl (!decide (ns = ms))) H) : rNeD K (.ref p) (.ref q) H Q :=
 ⟨p,_,_,rfl,is_lst h1 (flat_ints _),is_lst h2 (flat_ints _),by rw [dep_l]; decide,by rw [deq_lints]; exact h⟩
theorem neTI {K : PySem.W.Frag} {H : Hp} {p q : Addr} {ns ms : List Int} {Q : VK} (h1 : SqT K H p (ns.map V.int)) (h2 : SqT K H q (ms.map V.int)) (h : Q (.bl (!decide (ns = ms))) H) : rNeD K (.ref p) (.ref q) H Q :=
 ⟨p,_,_,rfl,is_tup h1 (flat_ints _),is_tup h2 (flat_ints _),by rw [dep_t]; decide,by rw [deq_tints]; exact h⟩
def CompIt (J : It) (nt : Nat) (cs : List Nat) (g : TG) (tt : TT) (te : TE) (σ : St) (H1 : Hp) (Q : VK) : Prop:=∀ acc,H1 acc = none ->
 ∃ W : Nat -> Nat -> List V -> St -> Hp -> Prop,(∃ m,W 0 m [] (capSt nt cs σ) (upd H1 acc (.lst []))) /\ ∀ i m ys σ' H',W i m ys σ' H' -> H' acc = some (.lst ys) /\
  ((J.stop i H' /\ Q (.ref acc) H') \/ (J.go i H' /\ ys.length < sizeLine /\ ∃ N : List V -> St -> Hp -> Prop,(∀ zs σ2 H2,N zs σ2 H2 -> ∃ m',m' < m /\ W (i + 1) m' zs σ2 H2) /\
   ∀ x H2,J.yld i H' x H2 -> g x σ' H2 fun σ3 H3 => tt σ3 H3 fun b H4 => if b = true then te σ3 H4 fun y H5 => H5 acc = some (.lst ys) /\ N (ys ++ [y]) σ3 (upd H5 acc (.lst (ys ++ [y]))) else N ys σ3 H4))
section
variable {K : PySem.W.Frag} {σ : St} {H : Hp} {Q : VK} {nt : Nat} {cs : List Nat} {g : TG} {tt : TT} {te : TE} {a : Addr}
theorem w_compL {tl : TE} : tComp (iList K tl) nt cs g tt te σ H Q = (tl σ H fun x H1 => ∃ a,x = .ref a /\ (∃ xs,SqL K H1 a xs) /\ CompIt (Itl K a) nt cs g tt te σ H1 Q):=rfl
theorem w_compT {tl : TE} : tComp (iTup K tl) nt cs g tt te σ H Q = (tl σ H fun x H1 => ∃ a,x = .ref a /\ (∃ xs,SqT K H1 a xs) /\ CompIt (Itt K a) nt cs g tt te σ H1 Q):=rfl
theorem w_comp1 {ta : TA} : tComp (iRng1 ta) nt cs g tt te σ H Q = (ta σ H fun vs H1 => ∃ j : Int,vs = [.int j] /\ -(2 ^ 62) <= j /\ j < 2 ^ 62 /\ CompIt (Itr 0 j.toNat) nt cs g tt te σ H1 Q):=rfl
theorem w_yes {R : Bool -> Hp -> Prop} : tYes σ H R = R true H:=rfl
def capV (cs : List Nat) (σ : St) : St:=cs.map fun c => (σ[c]?).join
theorem comp_pure {J : It} {xs : List V} (f : V -> Option V) (hz : xs.length <= sizeLine)
  (hJ : ∀ H',Same H H' -> (∀ i,i < xs.length -> J.go i H') /\ (∀ i x H2,J.yld i H' x H2 -> H2 = H' /\ (i < xs.length -> xs[i]? = some x)) /\ J.stop xs.length H')
  (hb : ∀ x H' (R : Option V -> Hp -> Prop),x ∈ xs -> Same H H' -> R (f x) H' -> tt (some x :: capV cs σ) H' fun b H4 => if b = true then te (some x :: capV cs σ) H4 fun y H5 => R (some y) H5 else R none H4)
  (hd : ∀ acc,H acc = none -> Q (.ref acc) (upd H acc (.lst (xs.filterMap f)))) : CompIt J 1 cs (gName 0) tt te σ H Q:=by
 intro acc hn
 have sm : ∀ ys,Same H (upd H acc (.lst ys)):=fun ys => same_new hn _
 refine ⟨fun i m ys σ' H' => m = xs.length - i /\ i <= xs.length /\ (∃ o,σ' = o :: capV cs σ) /\ ys = (xs.take i).filterMap f /\ H' = upd H acc (.lst ys),⟨_,rfl,Nat.zero_le _,⟨none,rfl⟩,by simp,rfl⟩,?_⟩
 rintro i m ys σ' H' ⟨rfl,hi,⟨o,rfl⟩,hys,rfl⟩
 refine ⟨upd_same,?_⟩
 have hl : ys.length <= i:=by
  rw [hys]
  exact Nat.le_trans (List.length_filterMap_le _ _) (by rw [List.length_take]; omega)
 by_cases hlt : i < xs.length
 ·refine .inr ⟨(hJ _ (sm ys)).1 i hlt,by omega,fun zs σ2 H2 => (∃ o,σ2 = o :: capV cs σ) /\ zs = (xs.take (i + 1)).filterMap f /\ H2 = upd H acc (.lst zs),fun zs σ2 H2 ⟨q1,q2,q3⟩ => ⟨xs.length - (i + 1),by omega,rfl,hlt,q1,q2,q3⟩,fun x H2 y => ?_⟩
  obtain ⟨e,hx⟩:=(hJ _ (sm ys)).2.1 i x H2 y
  have hx:=hx hlt
  subst e
  show tt (some x :: capV cs σ) _ _
  have tk : xs.take (i + 1) = xs.take i ++ [x]:=by rw [List.take_add_one,hx]; rfl
  refine hb x _ (fun o H5 => match o with | some y => H5 acc = some (.lst ys) /\ (∃ o,some x :: capV cs σ = o :: capV cs σ) /\ ys ++ [y] = (xs.take (i + 1)).filterMap f /\ upd H5 acc (.lst (ys ++ [y])) = upd H acc (.lst (ys ++ [y])) | none => (∃ o,some x :: capV cs σ = o :: capV cs σ) /\ ys = (xs.take (i + 1)).filterMap f /\ H5 = upd H acc (.lst ys)) (List.mem_of_getElem? hx) (sm ys) ?_
  cases hf : f x with
  | none =>
   refine ⟨⟨_,rfl⟩,?_,rfl⟩
   rw [tk,List.filterMap_append,← hys]
   simp [hf]
  | some y =>
   refine ⟨upd_same,⟨_,rfl⟩,?_,upd_upd⟩
   rw [tk,List.filterMap_append,← hys]
   simp [hf]
 ·have e : i = xs.length:=by omega
  subst e
  rw [List.take_length] at hys
  subst hys
  exact .inl ⟨(hJ _ (sm _)).2.2,hd acc hn⟩
theorem comp_L {xs : List V} (h : SqL K H a xs) (hz : xs.length <= sizeLine) (f : V -> Option V)
  (hb : ∀ x H' (R : Option V -> Hp -> Prop),x ∈ xs -> Same H H' -> R (f x) H' -> tt (some x :: capV cs σ) H' fun b H4 => if b = true then te (some x :: capV cs σ) H4 fun y H5 => R (some y) H5 else R none H4)
  (hd : ∀ acc,H acc = none -> Q (.ref acc) (upd H acc (.lst (xs.filterMap f)))) : CompIt (Itl K a) 1 cs (gName 0) tt te σ H Q :=
 comp_pure f hz (fun H' s => by
  have h':=s.seq h
  exact ⟨fun i hi => ⟨xs,xs[i],h',by simp [hi]⟩,fun i x H2 y => ⟨y.1,fun _ => y.2 xs h'⟩,⟨xs,h',Nat.le_refl _⟩⟩) hb hd
theorem Same.seqT {K : PySem.W.Frag} {H H' : Hp} {a : Addr} {xs : List V} (e : Same H H') (h : SqT K H a xs) : SqT K H' a xs:=by
 rcases h with (h | ⟨o,h⟩) | h
 ·exact .inl (.inl (e _ _ h))
 ·exact .inl (.inr ⟨o,e _ _ h⟩)
 ·exact .inr h
theorem comp_T {xs : List V} (h : SqT K H a xs) (hz : xs.length <= sizeLine) (f : V -> Option V)
  (hb : ∀ x H' (R : Option V -> Hp -> Prop),x ∈ xs -> Same H H' -> R (f x) H' -> tt (some x :: capV cs σ) H' fun b H4 => if b = true then te (some x :: capV cs σ) H4 fun y H5 => R (some y) H5 else R none H4)
  (hd : ∀ acc,H acc = none -> Q (.ref acc) (upd H acc (.lst (xs.filterMap f)))) : CompIt (Itt K a) 1 cs (gName 0) tt te σ H Q :=
 comp_pure f hz (fun H' s => by
  have h':=s.seqT h
  exact ⟨fun i hi => ⟨xs,xs[i],h',by simp [hi]⟩,fun i x H2 y => ⟨y.1,fun _ => y.2 xs h'⟩,⟨xs,h',Nat.le_refl _⟩⟩) hb hd
def rngV (lo : Int) (n : Nat) : List V:=(List.range n).map fun (i : Nat) => V.int (lo + (i : Int))
end
end L2
set_option Elab.async false
set_option linter.all false
set_option maxRecDepth 100000
set_option maxHeartbeats 1000000
namespace L2
open PySem PySem.Spec PyProof.Rows
section
variable {X : Cx}
theorem walk_list {pins : List (Addr × Obj)} {σ : St} {H : Hp} {s : Shared} {p : Addr} {xs : List V} (hc : X.calm = true) (I : Inv X pins σ H s) (hp : H p = some (.lst xs)) {Q : Value -> Shared -> Prop} {E : Value -> Shared -> Prop}
  (h : ∀ (its : List Value),Vals xs its -> ∀ s2 : Shared,s2.heap.IsListIter s.heap.objs.size p 0 /\ s2.heap.IsList p its.toArray -> (∀ b ∈ [s.heap.objs.size,p],b < s2.heap.objs.size) -> p ≠ s.heap.objs.size -> Walks X.prog X.w X.A.in1 s.heap.objs.size [s.heap.objs.size,p] [s.heap.objs.size] its.toArray.size (fun i v => its.toArray[i]? = some v) (fun i h => h.IsListIter s.heap.objs.size p i /\ h.IsList p its.toArray) ->
   (∀ h' tk,(∀ b o,b ∉ [s.heap.objs.size] -> s2.heap.get? b = some o -> h'.get? b = some o) -> Inv X pins σ H { s2 with heap:=h',toks:=tk }) -> Q (.ref s.heap.objs.size) s2) : wpAny (model X.prog X.w) X.A.in1 (pyIter (.ref p)) Q E s:=by
 obtain ⟨its,rv,pl,_⟩:=I.list (SqL.of hp)
 have hlt : p < s.heap.objs.size:=I.hok.lt hp
 refine wpAny_pyIter_list pl.isList (h its rv _ ⟨⟨_,Heap.get?_push_size _ rfl,rfl,rfl⟩,pl.isList.push _⟩ (fun b hb => ?_) (Nat.ne_of_lt hlt) (Walks.list (A:=X.A.in1) (I.ok.hd hc) _ p (Nat.ne_of_lt hlt) its.toArray) fun h' tk hk => ?_)
 ·show b < (s.heap.push _).objs.size
  rw [Heap.size_push]
  rcases List.mem_cons.mp hb with e | e
  ·rw [e]; exact Nat.lt_succ_self _
  ·have : b = p:=by simpa using e
   rw [this]; exact Nat.lt_succ_of_lt hlt
 ·exact I.kept (h':=h') (t':=tk) fun b o e => hk b o (by simpa using Nat.ne_of_lt (Heap.lt_size e)) (Heap.get?_push_of_some _ e)
def rBits : V -> List V -> Hp -> VK -> Prop:=fun x vs H Q => ∃ i,x = .int i /\ vs = [] /\ Q (.int (Builtin.Int.intBits i : Nat)) H
theorem mt_bits : MtR X "int.bit_length" rBits:=by
 intro pins s σ H x xs v us Q I rx rs h
 obtain ⟨i,rfl,rfl,q⟩:=h
 obtain ⟨t,rfl⟩:=rx
 cases rs
 exact call_gives slot_int_bit_length (typeIs_int s i t) entry_int_bit_length (args_int_bit_length _) (AutoIntG2.int_bit_length_int_0 i t) ⟨.int _,H,I.tok _,⟨_,rfl⟩,q⟩
theorem w_rBits {i : Int} {H : Hp} {Q : VK} : rBits (.int i) [] H Q = Q (.int (Builtin.Int.intBits i : Nat)) H:=propext ⟨fun ⟨j,e,_,q⟩ => by cases e; exact q,fun q => ⟨i,rfl,rfl,q⟩⟩
theorem w_tyInt {K : PySem.W.Frag} {i : Int} {H : Hp} : tyV K "int" (.int i) H = True:=eq_true (by first | exact rfl | (unfold tyV; rfl) | (unfold tyV; simp))
end
section
variable {K : PySem.W.Frag} {σ : St} {H : Hp} {Q : VK}
theorem w_bm {T : String} {r : V -> List V -> Hp -> VK -> Prop} {to : TE} {t : TA} : tBM K T r to t σ H Q = (to σ H fun x H1 => tyV K T x H1 /\ t σ H1 fun xs H2 => r x xs H2 Q):=rfl
theorem w_bm0 {T : String} {r : V -> List V -> Hp -> VK -> Prop} {to : TE} : tBM0 K T r to σ H Q = (to σ H fun x H1 => tyV K T x H1 /\ r x [] H1 Q):=rfl
theorem w_append {l : Addr} {y : V} : rAppend (.ref l) [y] H Q = ∃ xs,H l = some (.lst xs) /\ xs.length < sizeLine /\ Q .non (upd H l (.lst (xs ++ [y]))) :=
 propext ⟨fun ⟨l',xs,y',e1,e2,h,z,q⟩ => by cases e1; cases e2; exact ⟨xs,h,z,q⟩,fun ⟨xs,h,z,q⟩ => ⟨l,xs,y,rfl,rfl,h,z,q⟩⟩
theorem ty_list {l : Addr} {xs : List V} (h : H l = some (.lst xs)) : tyV K "list" (.ref l) H:=by
 first | exact .inl ⟨rfl,_,SqL.of h⟩ | (unfold tyV; exact .inl ⟨rfl,_,SqL.of h⟩)
end
end L2
set_option Elab.async false
set_option linter.all false
set_option maxRecDepth 100000
namespace L2
open PySem PySem.Spec PyProof.Rows PySem.W
theorem bits_pow (k : Nat) : Builtin.Int.intBits ((2 : Int) ^ k) = k + 1:=by
 unfold Builtin.Int.intBits
 have p:=pow_pos2 k
 rw [if_neg (by simp; omega),Int.natAbs_pow]
 show Nat.log2 (2 ^ k) + 1 = k + 1
 rw [Nat.log2_two_pow]
theorem odd_part : ∀ (n : Nat),0 < n -> ∃ m k,n = (2 * m + 1) * 2 ^ k:=by
 intro n
 induction n using Nat.strongRecOn with
 | ind n ih =>
  intro h
  by_cases e : n % 2 = 1
  ·exact ⟨n / 2,0,by simp; omega⟩
  ·obtain ⟨m,k,hk⟩:=ih (n / 2) (by omega) (by omega)
   exact ⟨m,k + 1,by rw [Nat.pow_succ,← Nat.mul_assoc,← hk]; omega⟩
def absI (n : Int) : Int:=if n < 0 then -n else n
def lowK (n : Int) : Int:=(Builtin.Int.intBits (Builtin.bitAnd (absI n) (-absI n)) : Int) - 1
def coreL (n : Int) : List Int:=if n = 0 then [0,0,0] else [absI n / 2 ^ (lowK n).toNat,lowK n,if 0 < n then 1 else -1]
theorem core_fact {n : Int} (h : n ≠ 0) : ∃ (m k : Nat),absI n = (2 * m + 1) * 2 ^ k /\ coreL n = [2 * (m : Int) + 1,(k : Int),if 0 < n then 1 else -1]:=by
 obtain ⟨m,k,e⟩:=odd_part n.natAbs (by omega)
 have ea : absI n = ((n.natAbs : Nat) : Int):=by unfold absI; split <;> omega
 have e1 : absI n = (2 * m + 1) * 2 ^ k:=by rw [ea,e,Int.natCast_mul,Int.natCast_pow]; rfl
 refine ⟨m,k,e1,?_⟩
 have e2 : absI n = 2 ^ k * (2 * (m : Int) + 1):=by rw [e1,Int.mul_comm]
 have e3 : lowK n = k:=by
  unfold lowK
  rw [e2,kbt_low,bits_pow]
  omega
 unfold coreL
 rw [if_neg h,e3,Int.toNat_natCast,e1,Int.mul_ediv_cancel _ (Int.ne_of_gt (pow_pos2 k))]
end L2
set_option Elab.async false
set_option linter.all false
set_option maxRecDepth 100000
namespace L2
open PySem PySem.Spec PyProof.Rows
def gTupM (n : Nat) (t : TGs) : TG:=fun v σ H Q => ∃ a xs,v = .ref a /\ H a = some (.tup xs) /\ xs.length = n /\ t xs σ H Q
theorem pg_tupM {X : Cx} {es : List Expr} {k : Nat} {t : TGs} {pos : Pos} (n : Nat) (hc : X.calm = true) (h : PGs X es t) (hn : (assignEach es X.env).length = n:=by rfl) (hst : (assignEach es X.env).findIdx? (·.1) = none:=by rfl) : PG X (.Tuple es k pos) (gTupM n t):=by
 intro pins s σ H v u Q I r hw
 obtain ⟨a,xs,e1,hq,hl,hw⟩:=hw
 exact pg_tup (X:=X) (n:=n) hc h hn hst pins s σ H v u Q I r ⟨a,xs,e1,SqT.of hq,hl,hw⟩
section
variable {K : PySem.W.Frag} {σ : St} {H : Hp} {Q : VK} {R : St -> Hp -> Prop}
theorem w_gTupM {n : Nat} {t : TGs} {a : Addr} : gTupM n t (.ref a) σ H R = ∃ xs,H a = some (.tup xs) /\ xs.length = n /\ t xs σ H R :=
 propext ⟨fun ⟨a',xs,e,h,l,q⟩ => by cases e; exact ⟨xs,h,l,q⟩,fun ⟨xs,h,l,q⟩ => ⟨a,xs,rfl,h,l,q⟩⟩
theorem w_gCons {t : TG} {u : TGs} {v : V} {r : List V} : gCons t u (v :: r) σ H R = t v σ H fun σ' H' => u r σ' H' R :=
 propext ⟨fun ⟨v',r',e,q⟩ => by cases e; exact q,fun q => ⟨v,r,rfl,q⟩⟩
theorem w_gNil : gNil [] σ H R = R σ H:=propext ⟨fun ⟨_,q⟩ => q,fun q => ⟨rfl,q⟩⟩
theorem isI_tt {t : Addr} {xs : List V} (h : H t = some (.tup xs)) : rIsI K [.ref t,.ty "tuple"] H Q = Q (.bl true) H:=isI_mk (.tup h) (fun _ z => by cases z <;> first | rfl | (rename_i e; rw [h] at e; cases e) | (rename_i e _ _ _ _ _; rw [h] at e; cases e)) (kit_same _)
theorem isI_ll {t : Addr} {xs : List V} (h : H t = some (.lst xs)) : rIsI K [.ref t,.ty "list"] H Q = Q (.bl true) H:=isI_mk (.lst h) (fun _ z => by cases z <;> first | rfl | (rename_i e; rw [h] at e; cases e) | (rename_i e _ _ _ _ _; rw [h] at e; cases e)) (kit_same _)
theorem in_tup {x : V} {t : Addr} {xs : List V} {neg : Bool} (h : H t = some (.tup xs)) (fx : flatV x = true) (fs : xs.all flatV = true) (q : Q (.bl (if neg then !inV x xs else inV x xs)) H) : rIn K neg x (.ref t) H Q:=⟨t,xs,rfl,.inr (SqT.of h),fx,fs,q⟩
end
end L2
set_option Elab.async false
set_option linter.all false
set_option maxRecDepth 100000
namespace L2
open PySem PySem.Spec PyProof.Rows
def rDG : R2:=fun x y H Q => ∃ a k,x = .ref a /\ y = kV k /\ ∃ kvs,H a = some (.dK kvs) /\ ∃ v,valV kvs k = some v /\ Q v H
def rDP : V -> V -> V -> Hp -> (Hp -> Prop) -> Prop:=fun x y v H R => ∃ a k,x = .ref a /\ y = kV k /\ ∃ kvs,H a = some (.dK kvs) /\ kvs.length < sizeLine /\ R (upd H a (.dK (putK kvs k v)))
def sDP (td ty tv : TE) : TS:=fun D σ H => tv σ H fun v H1 => td σ H1 fun x H2 => ty σ H2 fun y H3 => rDP x y v H3 fun H4 => D.nx σ H4
def rDI (neg : Bool) : R2:=fun y x H Q => ∃ a k,x = .ref a /\ y = kV k /\ ∃ kvs,H a = some (.dK kvs) /\ Q (.bl (if neg then !(valV kvs k).isSome else (valV kvs k).isSome)) H
section
variable {X : Cx} {o i e value : Expr} {pos pos' tpos : Pos} {td ty tv : TE}
theorem pe_dgM (hu : X.A.units + 1 < cLine) (ho : PE X o td) (hi : PE X i ty) (hs : NoSl i) : PE X (.Subscript o i pos) (tOp rDG td ty):=by
 intro pins s σ H Q I h
 refine subD_of PySem.F.slot_dict_getitem.lookup hs (thn (ho pins s σ H _ I h) fun u s1 ⟨x,H1,I1,rx,q1⟩ => thn (hi pins s1 σ H1 _ I1 q1) fun iv s2 ⟨y,H2,I2,ry,q2⟩ => ?_)
 obtain ⟨a,k,rfl,rfl,kvs,hk,v,hv,q⟩:=q2
 obtain rfl : u = Value.ref a:=rx
 have g : DGet H2 a (kV k) (some v):=by rw [← hv]; exact DGet.k hk
 exact ⟨dict_typeIs I2 g,d_getItem hu I2 g ry fun w' s3 I3 rw' => ⟨v,H2,I3,rw',q⟩⟩
theorem ps_dpM (hu : X.A.units + 1 < cLine) (ho : PE X o td) (hi : PE X i ty) (hv : PE X value tv) (hs : swapsWith value (some (.Subscript o i pos')) pos.line X.env = pure false) : PS X (.Assign [.Subscript o i pos'] value pos) (sDP td ty tv):=by
 intro pins s σ H D I h
 refine wpAny_Assign_Subscript (thn (hv pins s σ H _ I h) fun r s1 ⟨v,H1,I1,rv,q1⟩ => thn (ho pins s1 σ H1 _ I1 q1) fun u s2 ⟨x,H2,I2,rx,q2⟩ => thn (hi pins s2 σ H2 _ I2 q2) fun iv s3 ⟨y,H3,I3,ry,q3⟩ => ?_) hs
 obtain ⟨a,k,rfl,rfl,kvs,hk,hz,q⟩:=q3
 obtain rfl : u = Value.ref a:=rx
 exact d_setItem hu I3 (DPut.k (v:=v) hk hz) ry rv fun s4 I4 => ⟨σ,_,I4,q⟩
theorem op_dI (hu : X.A.units + 1 < cLine) : OpR X (compareOp .In) (rDI false):=by
 intro pins s σ H x y v u Q I rx ry h
 obtain ⟨a,k,rfl,rfl,kvs,hk,q⟩:=h
 obtain rfl : u = Value.ref a:=ry
 exact d_in hu I (DGet.k hk) rx fun s' I' => ⟨.bl _,H,I',rfl,q⟩
end
section
variable {σ : St} {H : Hp} {Q : VK} {D : Ends} {a : Addr} {v : V} {R : Hp -> Prop}
theorem kV_s {k : Key} {x : Str} : (V.str x = kV k) = (k = .inr x):=propext ⟨fun e => by cases k <;> cases e; rfl,fun e => by subst e; rfl⟩
theorem kV_i {k : Key} {x : Int} : (V.int x = kV k) = (k = .inl x):=propext ⟨fun e => by cases k <;> cases e; rfl,fun e => by subst e; rfl⟩
theorem w_dgS {x : Str} : rDG (.ref a) (.str x) H Q = ∃ kvs,H a = some (.dK kvs) /\ ∃ v,valV kvs (.inr x) = some v /\ Q v H :=
 propext ⟨fun ⟨a',k,e1,e2,q⟩ => by cases e1; rw [kV_s] at e2; subst e2; exact q,fun q => ⟨a,.inr x,rfl,rfl,q⟩⟩
theorem w_dgI {x : Int} : rDG (.ref a) (.int x) H Q = ∃ kvs,H a = some (.dK kvs) /\ ∃ v,valV kvs (.inl x) = some v /\ Q v H :=
 propext ⟨fun ⟨a',k,e1,e2,q⟩ => by cases e1; rw [kV_i] at e2; subst e2; exact q,fun q => ⟨a,.inl x,rfl,rfl,q⟩⟩
theorem w_sDP {td ty tv : TE} : sDP td ty tv D σ H = (tv σ H fun v H1 => td σ H1 fun x H2 => ty σ H2 fun y H3 => rDP x y v H3 fun H4 => D.nx σ H4):=rfl
theorem w_dpS {x : Str} : rDP (.ref a) (.str x) v H R = ∃ kvs,H a = some (.dK kvs) /\ kvs.length < sizeLine /\ R (upd H a (.dK (putK kvs (.inr x) v))) :=
 propext ⟨fun ⟨a',k,e1,e2,q⟩ => by cases e1; rw [kV_s] at e2; subst e2; exact q,fun q => ⟨a,.inr x,rfl,rfl,q⟩⟩
theorem w_dpI {x : Int} : rDP (.ref a) (.int x) v H R = ∃ kvs,H a = some (.dK kvs) /\ kvs.length < sizeLine /\ R (upd H a (.dK (putK kvs (.inl x) v))) :=
 propext ⟨fun ⟨a',k,e1,e2,q⟩ => by cases e1; rw [kV_i] at e2; subst e2; exact q,fun q => ⟨a,.inl x,rfl,rfl,q⟩⟩
theorem w_dII {neg : Bool} {x : Int} : rDI neg (.int x) (.ref a) H Q = ∃ kvs,H a = some (.dK kvs) /\ Q (.bl (if neg then !(valV kvs (.inl x)).isSome else (valV kvs (.inl x)).isSome)) H :=
 propext ⟨fun ⟨a',k,e1,e2,q⟩ => by cases e1; rw [kV_i] at e2; subst e2; exact q,fun q => ⟨a,.inl x,rfl,rfl,q⟩⟩
theorem w_disp {trs : List (TE × TE)} : tDisp trs σ H Q = ∀ p,H p = none -> tPairs trs σ (upd H p (.dK [])) fun ps H2 => H2 p = some (.dK []) /\ ∃ kvs : List (Key × V),ps = kvs.map (fun kv => (kV kv.1,kv.2)) /\ kvs.length <= 15 /\ Q (.ref p) (upd H2 p (.dK (mergeK [] kvs))):=rfl
end
def penKV (a : Addr) (at_ l : Int) : List (Key × V):=[(.inr "script",.ref a),(.inr "at",.int at_),(.inr "left",.int l)]
theorem pen_s {a : Addr} {t l : Int} : valV (penKV a t l) (.inr "script") = some (.ref a):=by unfold penKV; rw [valV_pos rfl]
theorem key_sa : ¬ (Sum.inr "script" : Key) = (Sum.inr "at" : Key):=by decide
theorem key_sl : ¬ (Sum.inr "script" : Key) = (Sum.inr "left" : Key):=by decide
theorem key_al : ¬ (Sum.inr "at" : Key) = (Sum.inr "left" : Key):=by decide
theorem pen_a {a : Addr} {t l : Int} : valV (penKV a t l) (.inr "at") = some (.int t):=by unfold penKV; rw [valV_neg key_sa,valV_pos rfl]
theorem pen_l {a : Addr} {t l : Int} : valV (penKV a t l) (.inr "left") = some (.int l):=by unfold penKV; rw [valV_neg key_sl,valV_neg key_al,valV_pos rfl]
theorem pen_len {a : Addr} {t l : Int} : ((penKV a t l).length < sizeLine) = True:=eq_true (Nat.lt_of_lt_of_le (by decide : 3 < 1000) (le_size (by decide)))
theorem pen_pa {a : Addr} {t l x : Int} : putK (penKV a t l) (.inr "at") (.int x) = penKV a x l:=by
 unfold putK
 rw [valV_any,pen_a]
 rfl
theorem pen_pl {a : Addr} {t l x : Int} : putK (penKV a t l) (.inr "left") (.int x) = penKV a t x:=by
 unfold putK
 rw [valV_any,pen_l]
 rfl
end L2
set_option Elab.async false
set_option linter.all false
set_option maxRecDepth 100000
namespace L2
open PySem PySem.Spec PyProof.Rows
def Itv (K : PySem.W.Frag) (a : Addr) (n : Nat) : It :=
 ⟨fun i H => i < n /\ ∃ xs,SqL K H a xs /\ xs.length = n,fun i H x H' => H' = H /\ ∀ xs,SqL K H a xs -> xs.length = n -> xs[n - 1 - i]? = some x,fun i H => i = n⟩
def iRev (K : PySem.W.Frag) (ta : TA) : TI:=fun σ H R => ta σ H fun vs H1 => ∃ a xs,vs = [.ref a] /\ SqL K H1 a xs /\ R (Itv K a xs.length) H1
def ForV (K : PySem.W.Frag) (a : Addr) (n : Nat) (g : TG) (tb : TS) (D : Ends) (σ : St) (H : Hp) : Prop:=∃ W : Nat -> Nat -> St -> Hp -> Prop,(∃ m,W 0 m σ H) /\ ∀ i m σ H,W i m σ H ->
 ((Itv K a n).stop i H /\ D.nx σ H) \/ ((Itv K a n).go i H /\ ∃ N : St -> Hp -> Prop,(∀ σ' H',N σ' H' -> ∃ m',m' < m /\ W (i + 1) m' σ' H') /\ ∀ x H',(Itv K a n).yld i H x H' -> g x σ H' fun σ2 H2 => tb { D with nx:=N,ct:=N,bk:=D.nx } σ2 H2)
section
variable {σ : St} {H : Hp} {D : Ends} {g : TG} {tb : TS} {K : PySem.W.Frag} {a : Addr}
theorem w_forV {ta : TA} : tFor (iRev K ta) g tb D σ H = (ta σ H fun vs H1 => ∃ a xs,vs = [.ref a] /\ SqL K H1 a xs /\ ForV K a xs.length g tb D σ H1):=rfl
end
end L2
set_option Elab.async false
set_option linter.all false
set_option maxRecDepth 100000
namespace L2
open PySem
def fs (n : Int) : Int:=if n % 2 = 0 then 0 else 2 - n % 4
def nafF : Nat -> Int -> List Int
 | 0,_ => []
 | k + 1,n => if n = 0 then [] else fs n :: nafF k ((n - fs n) / 2)
def naf (n : Int) : List Int:=nafF n.natAbs n
theorem fs_cases (n : Int) : (fs n = 0 /\ n % 2 = 0) \/ (fs n = 1 /\ n % 4 = 1) \/ (fs n = -1 /\ n % 4 = 3):=by
 unfold fs
 split <;> omega
theorem fs_lt {n : Int} (h : n ≠ 0) : ((n - fs n) / 2).natAbs < n.natAbs:=by
 rcases fs_cases n with ⟨e,_⟩ | ⟨e,_⟩ | ⟨e,_⟩ <;> rw [e] <;> omega
theorem nafF_fuel : ∀ (k : Nat) (n : Int),n.natAbs <= k -> nafF k n = nafF n.natAbs n:=by
 intro k
 induction k using Nat.strongRecOn with
 | ind k ih =>
  intro n h
  by_cases z : n = 0
  ·subst z
   cases k <;> simp [nafF]
  ·obtain ⟨k',rfl⟩ : ∃ k',k = k' + 1:=⟨k - 1,by omega⟩
   obtain ⟨j,hj⟩ : ∃ j,n.natAbs = j + 1:=⟨n.natAbs - 1,by omega⟩
   have lt:=fs_lt z
   rw [hj,nafF,nafF,if_neg z,if_neg z,ih k' (by omega) _ (by omega)]
   by_cases e : k' = j
   ·subst e
    rw [ih k' (by omega) _ (by omega)]
   ·rw [ih j (by omega) _ (by omega)]
theorem naf_step {n : Int} (h : n ≠ 0) : naf n = fs n :: naf ((n - fs n) / 2):=by
 have lt:=fs_lt h
 obtain ⟨j,hj⟩ : ∃ j,n.natAbs = j + 1:=⟨n.natAbs - 1,by omega⟩
 unfold naf
 rw [hj,nafF,if_neg h,nafF_fuel j _ (by omega)]
theorem naf_ind {p : Int → Prop} (h0 : p 0) (hs : ∀ n, n ≠ 0 → p ((n - fs n) / 2) → p n) : ∀ n, p n := by
  have all : ∀ k (n : Int), n.natAbs ≤ k → p n := by
    intro k
    induction k with
    | zero => intro n h; have : n = 0 := by omega
              subst this; exact h0
    | succ k ih =>
      intro n h
      by_cases z : n = 0
      · subst z; exact h0
      · exact hs n z (ih _ (by have := fs_lt z; omega))
  exact fun n => all n.natAbs n (Nat.le_refl _)
def val : List Int -> Int
 | [] => 0
 | d :: r => d + 2 * val r
theorem fs_neg (n : Int) : fs (-n) = -fs n:=by
 rcases fs_cases n with ⟨e,_⟩ | ⟨e,_⟩ | ⟨e,_⟩ <;> rcases fs_cases (-n) with ⟨e',_⟩ | ⟨e',_⟩ | ⟨e',_⟩ <;> rw [e,e'] <;> omega
theorem naf_neg : ∀ n,naf (-n) = (naf n).map fun d => 0 - d:=naf_ind rfl fun n h ih => by
 rw [naf_step h,naf_step (n:=-n) (by omega),List.map_cons,← ih,fs_neg]
 have e : (-n - -fs n) / 2 = -((n - fs n) / 2):=by
  rcases fs_cases n with ⟨e,_⟩ | ⟨e,_⟩ | ⟨e,_⟩ <;> rw [e] <;> omega
 rw [e,Int.zero_sub]
end L2
set_option Elab.async false
set_option linter.all false
set_option maxRecDepth 100000
namespace L2
open PySem PySem.Spec PyProof.Rows
theorem and1 (x : Int) : Builtin.bitAnd x 1 = x % 2:=by
 have:=PySem.W.kbt_mask x 1
 simpa using this
def wt (ds : List Int) : Nat:=(ds.filter fun d => decide (d ≠ 0)).length
def spWhole : Sp:=fun vs H Q _ => ∃ i : Int,vs = [.int i] /\ Q (.bl true) H
def tWhl (c : TT) (tb : TS) : TS:=fun D σ H => ∃ W : Nat -> St -> Hp -> Prop,(∃ m,W m σ H) /\ ∀ m σ H,W m σ H -> ∀ N : St -> Hp -> Prop,(∀ m' σ' H',m' < m -> W m' σ' H' -> N σ' H') ->
 c σ H fun b H1 => if b = true then tb { D with nx:=N,ct:=N,bk:=D.nx } σ H1 else D.nx σ H1
theorem ps_whl {X : Cx} {pos : Pos} {c : Expr} {body : List Stmt} {tc : TT} {tb : TS} (hp : PassesOwn (model X.prog X.w) X.A X.env X.xe) (hc : PT X c tc) (hb : PSs X body tb) : PS X (.While c body [] pos) (tWhl tc tb):=by
 intro pins s σ H D I h
 obtain ⟨W,⟨m0,w0⟩,turn⟩:=h
 refine wpAny_While (codeAny_whileLoop (fun n s' => ∃ σ' H',Inv X pins σ' H' s' /\ W n σ' H') ?_ m0 ⟨σ,H,I,w0⟩)
 rintro n s1 ⟨σ1,H1,I1,w1⟩
 refine wpAny_passesOwn hp (thn (hc pins s1 σ1 H1 _ I1 (turn n σ1 H1 w1 (fun σ' H' => ∃ m',m' < n /\ W m' σ' H') fun m' _ _ l z => ⟨m',l,z⟩)) fun b s2 ⟨H2,I2,q2⟩ => ?_)
 cases b with
 | true =>
  rw [if_pos rfl] at q2 ⊢
  refine wpAny_passesOwn hp (thn (hb pins s2 σ1 H2 _ I2 q2) fun f s3 q3 => ?_)
  cases f with
  | next =>
   obtain ⟨σ3,H3,I3,m',hm,w3⟩:=q3
   exact ⟨m',hm,σ3,H3,I3,w3⟩
  | cont =>
   obtain ⟨σ3,H3,I3,m',hm,w3⟩:=q3
   exact ⟨m',hm,σ3,H3,I3,w3⟩
  | brk => exact q3
  | ret v => exact q3
 | false =>
  rw [if_neg Bool.false_ne_true] at q2 ⊢
  exact wpAny_execs_nil ⟨σ1,H2,I2,q2⟩
theorem whl {c : TT} {tb : TS} {D : Ends} {σ : St} {H : Hp} (Pv : Nat -> St -> Hp -> Prop) (m : Nat) (h0 : Pv m σ H)
  (hs : ∀ m σ H (N : St -> Hp -> Prop),Pv m σ H -> (∀ m' σ' H',m' < m -> Pv m' σ' H' -> N σ' H') -> c σ H fun b H1 => if b = true then tb { D with nx:=N,ct:=N,bk:=D.nx } σ H1 else D.nx σ H1) : tWhl c tb D σ H :=
 ⟨Pv,⟨m,h0⟩,fun m σ H p N hN => hs m σ H N p hN⟩
theorem atI_m1 {ds : List Int} (h : ds ≠ []) : ∃ d ∈ ds,atI (ds.map V.int) (-1) = some (.int d) /\ ds.getLast? = some d:=by
 obtain ⟨xs,d,rfl⟩ : ∃ xs d,ds = xs ++ [d]:=⟨ds.dropLast,ds.getLast h,(List.dropLast_concat_getLast h).symm⟩
 refine ⟨d,by simp,?_,by simp⟩
 rw [List.map_append]
 exact atI_last _ _
theorem filterMap_some {α β : Type} (f : α -> β) (xs : List α) : xs.filterMap (fun x => some (f x)) = xs.map f:=by
 induction xs with
 | nil => rfl
 | cons x r ih => rw [List.filterMap_cons,ih]; rfl
end L2
set_option Elab.async false
set_option linter.all false
set_option maxRecDepth 100000
namespace L2
open PySem
theorem p2le {e k : Nat} (h : e <= k) : 0 < (2 : Int) ^ e /\ (2 : Int) ^ e <= 2 ^ k:=by
 refine ⟨pow_pos2 e,?_⟩
 obtain ⟨j,rfl⟩ : ∃ j,k = e + j:=⟨k - e,by omega⟩
 rw [Int.pow_add]
 have h1:=pow_pos2 e
 have h2:=pow_pos2 j
 have : (2 : Int) ^ e * 1 <= 2 ^ e * 2 ^ j:=Int.mul_le_mul_of_nonneg_left (by omega) (by omega)
 omega
theorem le_big {n : Nat} (h : n <= 100000) : n <= sizeLine:=Nat.le_trans h (by decide)
theorem lt_big {n : Nat} (h : n < 100000) : n < sizeLine:=Nat.lt_of_lt_of_le h (by decide)
theorem same_upd {H H' : Hp} {r : Addr} {o : HO} (h : H r = none) (s : Same H H') : Same H (upd H' r o):=fun b u q => by rw [upd_ne (ne_of_none q h)]; exact s b u q
def On2 (vs : List V) (P : Int -> Int -> Prop) : Prop:=∃ i j,vs = [.int i,.int j] /\ P i j
theorem w_On2 {i j : Int} {P : Int -> Int -> Prop} : On2 [.int i,.int j] P = P i j:=propext ⟨fun ⟨i',j',e,q⟩ => by cases e; exact q,fun q => ⟨i,j,rfl,q⟩⟩
section
variable {σ : St} {H : Hp} {D : Ends} {g : TG} {tb : TS} {K : PySem.W.Frag} {Q : VK} {nt : Nat} {cs : List Nat} {tt : TT} {te : TE}
theorem w_for2b {ta : TA} : tFor (iRng2 ta) g tb D σ H = (ta σ H fun vs H1 => On2 vs fun i j => (-(2 ^ 62) <= i /\ i < 2 ^ 62 /\ -(2 ^ 62) <= j /\ j < 2 ^ 62) /\ ForR i (j - i).toNat g tb D σ H1):=rfl
theorem w_comp2b {ta : TA} : tComp (iRng2 ta) nt cs g tt te σ H Q = (ta σ H fun vs H1 => On2 vs fun i j => (-(2 ^ 62) <= i /\ i < 2 ^ 62 /\ -(2 ^ 62) <= j /\ j < 2 ^ 62) /\ CompIt (Itr i (j - i).toNat) nt cs g tt te σ H1 Q):=rfl
end
end L2
set_option Elab.async false
set_option linter.all false
set_option maxRecDepth 100000
namespace L2
open PySem
abbrev wn (n : Int) : Nat:=wt (naf n)
theorem wt_cons (d : Int) (r : List Int) : wt (d :: r) = (if d = 0 then 0 else 1) + wt r:=by
 unfold wt
 rw [List.filter_cons]
 by_cases h : d = 0
 ·simp [h]
 ·simp [h]; omega
theorem wn_step (n : Int) : wn n = (if fs n = 0 then 0 else 1) + wn ((n - fs n) / 2):=by
 by_cases h : n = 0
 ·subst h; rfl
 ·show wt (naf n) = _
  rw [naf_step h,wt_cons]
theorem wt_neg : ∀ ds : List Int,wt (ds.map fun d => 0 - d) = wt ds
 | [] => rfl
 | d :: r => by
  rw [List.map_cons,wt_cons,wt_cons,wt_neg r]
  have : (0 - d = 0) ↔ (d = 0):=by omega
  simp only [this]
theorem wn_neg (n : Int) : wn (-n) = wn n:=by show wt (naf (-n)) = _; rw [naf_neg,wt_neg]
theorem wn_dbl (n : Int) : wn (2 * n) = wn n:=by
 rw [wn_step (2 * n)]
 have e : fs (2 * n) = 0:=by unfold fs; rw [if_pos (by omega)]
 rw [e,if_pos rfl,Nat.zero_add]
 congr 2
 omega
theorem w_neB {a b : Bool} {H : Hp} {Q : VK} : rNe (.bl a) (.bl b) H Q = Q (.bl (!decide (a = b))) H :=
 propext (by
  have e : decide (V.bl a = V.bl b) = decide (a = b):=by by_cases h : a = b <;> simp [h]
  unfold rNe; rw [e]; exact ⟨fun h => h.2,fun h => ⟨rfl,h⟩⟩)
theorem w_eqB {a b : Bool} {H : Hp} {Q : VK} : rEq (.bl a) (.bl b) H Q = Q (.bl (decide (a = b))) H :=
 propext (by
  have e : decide (V.bl a = V.bl b) = decide (a = b):=by by_cases h : a = b <;> simp [h]
  unfold rEq; rw [e]; exact ⟨fun h => h.2,fun h => ⟨rfl,h⟩⟩)
end L2
set_option Elab.async false
set_option linter.all false
set_option maxRecDepth 100000
namespace L2
open PySem
abbrev SS:=List (Int × Int) × List Int
def stp (m : Int) (s : SS) (o : Int) : SS:=if (s.1.lookup o).isSome = false /\ (if o < 0 then -o else o) < 200 then (s.1 ++ [(o,m)],s.2 ++ [o]) else s
def kin (m n : Int) (s : SS) (k : Nat) : SS:=stp m (stp m s (n + 1 * 2 ^ k)) (n - 1 * 2 ^ k)
def nin (m : Int) (s : SS) (n : Int) : SS:=(List.range 8).foldl (kin m n) s
def lev (s : SS) (m : Int) : SS:=s.2.foldl (nin m) (s.1,[])
end L2
set_option Elab.async false
set_option linter.all false
set_option maxRecDepth 100000
set_option maxHeartbeats 1000000
namespace L2
open PySem PySem.Spec PyProof.Rows
section
variable {prog : Program} {w : World} {A : Around} {R : Result -> Shared -> Prop} {I S : Addr} {fp wr : List Addr} {n : Nat} {P : Nat -> Value -> Prop} {St : Nat -> Heap -> Prop} {bt : Nat -> Nat -> Bool} {d : Value}
end
section
variable {prog : Program} {w : World} {A : Around} {E : Value -> Shared -> Prop} {s : Shared} {d x : Value}
end
def mz : List Int -> Int
 | [] => 0
 | x :: r => if mz r < x then x else mz r
section
variable {X : Cx} {e : Expr} {es : List Expr} {kws : List Keyword} {t tk : TA} {p pos : Pos}
def tMaxD (t tk : TA) : TE:=fun σ H Q => t σ H fun vs H1 => tk σ H1 fun zs H2 => ∃ (p : Addr) (ns : List Int),vs = [.ref p] /\ zs = [.int 0] /\ H2 p = some (.lst (ns.map V.int)) /\ (∀ n ∈ ns,0 <= n) /\ Q (.int (mz ns)) H2
end
section
variable {K : PySem.W.Frag} {σ : St} {H : Hp} {Q : VK}
theorem w_maxD {t tk : TA} : tMaxD t tk σ H Q = t σ H fun vs H1 => tk σ H1 fun zs H2 => ∃ (p : Addr) (ns : List Int),vs = [.ref p] /\ zs = [.int 0] /\ H2 p = some (.lst (ns.map V.int)) /\ (∀ n ∈ ns,0 <= n) /\ Q (.int (mz ns)) H2:=rfl
theorem w_sl {r : V -> Option Int -> Option Int -> Hp -> VK -> Prop} {te : TE} {tl th : TO} : tSl r te tl th σ H Q = te σ H fun x H1 => tl σ H1 fun l H2 => th σ H2 fun u H3 => r x l u H3 Q:=rfl
theorem w_noPart {R : Option Int -> Hp -> Prop} : tNoPart σ H R = R none H:=rfl
theorem w_part {t : TE} {R : Option Int -> Hp -> Prop} : tPart t σ H R = t σ H fun x H1 => ∃ i,x = .int i /\ R (some i) H1:=rfl
theorem w_slL {a : Addr} {lo hi : Option Int} : rSlL K (.ref a) lo hi H Q = ∃ xs,SqL K H a xs /\ ∀ p,H p = none -> Q (.ref p) (upd H p (.lst (cutV xs lo hi))) :=
 propext ⟨fun ⟨a',xs,e,h,q⟩ => by cases e; exact ⟨xs,h,q⟩,fun ⟨xs,h,q⟩ => ⟨a,xs,rfl,h,q⟩⟩
theorem comp_new {J : It} {xs : List V} {cs : List Nat} {tt : TT} {te : TE} (f : V -> Option V) (hz : xs.length <= sizeLine)
  (hJ : ∀ H',Same H H' -> (∀ i,i < xs.length -> J.go i H') /\ (∀ i x H2,J.yld i H' x H2 -> H2 = H' /\ (i < xs.length -> xs[i]? = some x)) /\ J.stop xs.length H')
  (hb : ∀ x H' (R : Option V -> Hp -> Prop),x ∈ xs -> Same H H' -> (∀ H5,Same H' H5 -> R (f x) H5) -> tt (some x :: capV cs σ) H' fun b H4 => if b = true then te (some x :: capV cs σ) H4 fun y H5 => R (some y) H5 else R none H4)
  (hd : ∀ acc H',H acc = none -> Same H H' -> H' acc = some (.lst (xs.filterMap f)) -> Q (.ref acc) H') : CompIt J 1 cs (gName 0) tt te σ H Q:=by
 intro acc hn
 refine ⟨fun i m ys σ' H' => m = xs.length - i /\ i <= xs.length /\ (∃ o,σ' = o :: capV cs σ) /\ ys = (xs.take i).filterMap f /\ H' acc = some (.lst ys) /\ Same H H',⟨_,rfl,Nat.zero_le _,⟨none,rfl⟩,by simp,upd_same,same_new hn _⟩,?_⟩
 rintro i m ys σ' H' ⟨rfl,hi,⟨o,rfl⟩,hys,ha,sm⟩
 refine ⟨ha,?_⟩
 have hl : ys.length <= i:=by
  rw [hys]
  exact Nat.le_trans (List.length_filterMap_le _ _) (by rw [List.length_take]; omega)
 by_cases hlt : i < xs.length
 ·refine .inr ⟨(hJ _ sm).1 i hlt,by omega,fun zs σ2 H2 => (∃ o,σ2 = o :: capV cs σ) /\ zs = (xs.take (i + 1)).filterMap f /\ H2 acc = some (.lst zs) /\ Same H H2,fun zs σ2 H2 ⟨q1,q2,q3,q4⟩ => ⟨xs.length - (i + 1),by omega,rfl,hlt,q1,q2,q3,q4⟩,fun x H2 y => ?_⟩
  obtain ⟨e,hx⟩:=(hJ _ sm).2.1 i x H2 y
  have hx:=hx hlt
  subst e
  have tk : xs.take (i + 1) = xs.take i ++ [x]:=by rw [List.take_add_one,hx]; rfl
  show tt (some x :: capV cs σ) _ _
  refine hb x _ (fun o H5 => match o with | some y => H5 acc = some (.lst ys) /\ (∃ o,some x :: capV cs σ = o :: capV cs σ) /\ ys ++ [y] = (xs.take (i + 1)).filterMap f /\ upd H5 acc (.lst (ys ++ [y])) acc = some (.lst (ys ++ [y])) /\ Same H (upd H5 acc (.lst (ys ++ [y]))) | none => (∃ o,some x :: capV cs σ = o :: capV cs σ) /\ ys = (xs.take (i + 1)).filterMap f /\ H5 acc = some (.lst ys) /\ Same H H5) (List.mem_of_getElem? hx) sm fun H5 s5 => ?_
  cases hf : f x with
  | none =>
   refine ⟨⟨_,rfl⟩,?_,s5 _ _ ha,sm.trans s5⟩
   rw [tk,List.filterMap_append,← hys]
   simp [hf]
  | some y =>
   refine ⟨s5 _ _ ha,⟨_,rfl⟩,?_,upd_same,same_upd hn (sm.trans s5)⟩
   rw [tk,List.filterMap_append,← hys]
   simp [hf]
 ·have e : i = xs.length:=by omega
  subst e
  rw [List.take_length] at hys
  subst hys
  exact .inl ⟨(hJ _ sm).2.2,hd acc H' hn sm ha⟩
theorem comp_newL {a : Addr} {xs : List V} {cs : List Nat} {tt : TT} {te : TE} (h : SqL K H a xs) (hz : xs.length <= sizeLine) (f : V -> Option V)
  (hb : ∀ x H' (R : Option V -> Hp -> Prop),x ∈ xs -> Same H H' -> (∀ H5,Same H' H5 -> R (f x) H5) -> tt (some x :: capV cs σ) H' fun b H4 => if b = true then te (some x :: capV cs σ) H4 fun y H5 => R (some y) H5 else R none H4)
  (hd : ∀ acc H',H acc = none -> Same H H' -> H' acc = some (.lst (xs.filterMap f)) -> Q (.ref acc) H') : CompIt (Itl K a) 1 cs (gName 0) tt te σ H Q :=
 comp_new f hz (fun H' s => by
  have h':=s.seq h
  exact ⟨fun i hi => ⟨xs,xs[i],h',by simp [hi]⟩,fun i x H2 y => ⟨y.1,fun _ => y.2 xs h'⟩,⟨xs,h',Nat.le_refl _⟩⟩) hb hd
end
def halN (c : Int) : Nat:=if c > 1 then Builtin.Int.intBits (c - 1) else 0
def ld (ns : List Int) : Int:=mz (ns.map fun n => ((halN (wn n : Nat) : Nat) : Int))
end L2
set_option Elab.async false
set_option linter.all false
set_option maxRecDepth 100000
set_option maxHeartbeats 1000000
namespace L2
open PySem PySem.Spec PyProof.Rows
theorem key_rel {k : Key} {v : Value} (h : keyIs k v = true) : RelV (kV k) v:=by
 rcases keyIs_shape h with ⟨i,t,rfl,rfl⟩ | ⟨x,t,rfl,rfl⟩
 ·exact ⟨t,rfl⟩
 ·exact ⟨t,rfl⟩
section
variable {σ : St} {H : Hp} {Q : VK} {D : Ends}
theorem w_aug {i : Nat} {te : TE} {ti : TIp} : tAug i te ti D σ H = ∃ x,σ[i]? = some (some x) /\ te σ H fun y H1 => ti x y H1 fun z H2 => D.nx (σ.set i (some z)) H2:=rfl
theorem w_ipI {f : Int -> Int -> Int} {i j : Int} : ipI f (.int i) (.int j) H Q = Q (.int (f i j)) H:=propext ⟨fun ⟨_,_,e1,e2,q⟩ => by cases e1; cases e2; exact q,fun q => ⟨i,j,rfl,rfl,q⟩⟩
theorem w_dnK : tDNewK σ H Q = ∀ p,H p = none -> Q (.ref p) (upd H p (.dK [])):=rfl
end
structure Dd where
 g : Int
 a : Nat
 s : Nat
 b : Nat
 t : Nat
def dnum (ns : List Int) (d : Dd) : Int:=ns.getD d.a 0 * 2 ^ d.s + d.g * (ns.getD d.b 0 * 2 ^ d.t)
def ev (ds : List Dd) : List Int:=ds.foldl (fun ns d => ns ++ [dnum ns d]) [1]
theorem snoc_ind {α : Type} {p : List α -> Prop} (h0 : p []) (hs : ∀ xs x,p xs -> p (xs ++ [x])) (xs : List α) : p xs:=by
 have : p xs.reverse.reverse:=by
  generalize xs.reverse = ys
  induction ys with
  | nil => exact h0
  | cons y r ih => rw [List.reverse_cons]; exact hs _ _ ih
 rwa [List.reverse_reverse] at this
def coreN (n : Int) : Int:=(coreL n).headD 0
def shN (n : Int) : Int:=(coreL n).getD 1 0
def sgN (n : Int) : Int:=(coreL n).getD 2 0
theorem core_three (n : Int) : coreL n = [coreN n,shN n,sgN n]:=by
 by_cases h : n = 0
 ·subst h; rfl
 ·obtain ⟨m,k,e1,e2⟩:=core_fact h
  unfold coreN shN sgN
  rw [e2]
  rfl
theorem core_props {n : Int} (h : n ≠ 0) : 0 < coreN n /\ coreN n % 2 = 1 /\ ∃ k : Nat,shN n = k /\ coreN n * 2 ^ k * sgN n = n /\ (sgN n = 1 \/ sgN n = -1) /\ (coreN n).natAbs <= n.natAbs /\ 2 ^ k <= n.natAbs /\ wn (coreN n) = wn n:=by
 obtain ⟨m,k,e1,e2⟩:=core_fact h
 have ec : coreN n = 2 * (m : Int) + 1:=by unfold coreN; rw [e2]; rfl
 have es : shN n = k:=by unfold shN; rw [e2]; rfl
 have eg : sgN n = if 0 < n then 1 else -1:=by unfold sgN; rw [e2]; rfl
 have en : coreN n * 2 ^ k * sgN n = n:=by
  rw [ec,eg,← e1]
  unfold absI
  split <;> split <;> omega
 have p:=pow_pos2 k
 have ea : absI n = ((n.natAbs : Nat) : Int):=by unfold absI; split <;> omega
 have e3 : ((n.natAbs : Nat) : Int) = (2 * (m : Int) + 1) * 2 ^ k:=by rw [← ea,e1]
 have e4 : n.natAbs = (2 * m + 1) * 2 ^ k:=by
  have : ((n.natAbs : Nat) : Int) = (((2 * m + 1) * 2 ^ k : Nat) : Int):=by rw [e3,Int.natCast_mul,Int.natCast_pow]; rfl
  exact Int.ofNat.inj this
 refine ⟨by omega,by omega,k,es,en,by rw [eg]; split <;> simp,?_,?_,?_⟩
 ·rw [ec,e4]
  have : (2 * (m : Int) + 1).natAbs = 2 * m + 1:=by omega
  rw [this]
  exact Nat.le_mul_of_pos_right _ (Nat.two_pow_pos k)
 ·rw [e4]
  exact Nat.le_mul_of_pos_left _ (by omega)
 ·have hk : ∀ (k : Nat) (c : Int),wn (c * 2 ^ k) = wn c:=by
   intro k
   induction k with
   | zero => intro c; rw [Int.pow_zero,Int.mul_one]
   | succ k ih => intro c; rw [Int.pow_succ,← Int.mul_assoc,Int.mul_comm _ 2,wn_dbl,ih]
  rcases (show sgN n = 1 \/ sgN n = -1 by rw [eg]; split <;> simp) with e | e
  ·rw [e,Int.mul_one] at en
   rw [← hk k,en]
  ·rw [e,Int.mul_neg,Int.mul_one] at en
   rw [← hk k,← wn_neg,en]
def ukv (us : List Int) : List (Key × V):=us.map fun c => (Sum.inl c,V.bl true)
theorem ukv_val : ∀ (us : List Int) (c : Int),valV (ukv us) (.inl c) = if c ∈ us then some (.bl true) else none
 | [],c => by simp [ukv,valV_nil]
 | u :: r,c => by
  show valV ((Sum.inl u,V.bl true) :: ukv r) (.inl c) = _
  by_cases h : u = c
  ·subst h
   rw [valV_pos rfl,if_pos List.mem_cons_self]
  ·rw [valV_neg (fun z => h (Sum.inl.inj z)),ukv_val r c]
   by_cases hm : c ∈ r
   ·rw [if_pos hm,if_pos (List.mem_cons_of_mem _ hm)]
   ·rw [if_neg hm,if_neg (by intro z; rcases List.mem_cons.mp z with e | e; exact h e.symm; exact hm e)]
theorem ukv_put (us : List Int) (c : Int) : putK (ukv us) (.inl c) (.bl true) = ukv (if c ∈ us then us else us ++ [c]):=by
 by_cases h : c ∈ us
 ·rw [if_pos h]
  unfold putK
  rw [valV_any,ukv_val,if_pos h,if_pos (show (some (V.bl true)).isSome = true from rfl)]
  unfold ukv
  rw [List.map_map]
  refine List.map_congr_left fun x _ => ?_
  show (if (Sum.inl x : Key) = Sum.inl c then ((Sum.inl x : Key),V.bl true) else (Sum.inl x,V.bl true)) = _
  split <;> rfl
 ·rw [if_neg h,putK_new _ (by rw [ukv_val,if_neg h])]
  unfold ukv
  rw [List.map_append]
  rfl
theorem ukv_keys (us : List Int) : (ukv us).map (fun q => kV q.1) = us.map V.int:=by
 unfold ukv
 rw [List.map_map]
 rfl
def spCoreT : Sp:=fun vs H Q _ => ∃ n : Int,vs = [.int n] /\ ∀ p,H p = none -> Q (.ref p) (upd H p (.tup [.int (coreN n),.int (shN n),.int (sgN n)]))
def CT0 (K : PySem.W.Frag) (t : Addr) : Prop:=∃ (o : Obj) (its : Array Value) (n : Nat),K.lookup t = some o /\ o.cls = .type "tuple" /\ o.data = .seq its n /\ its.size <= sizeLine /\ Vals [.int 0,.int 0,.int 0] its.toList
theorem CT0.sq {K : PySem.W.Frag} {t : Addr} (h : CT0 K t) (H : Hp) : SqT K H t [.int 0,.int 0,.int 0]:=.inr h
section
variable {X : Cx}
def rIsT (K : PySem.W.Frag) : List V -> Hp -> VK -> Prop:=fun xs H Q => ∃ p ys,xs = [.ref p,.ty "tuple"] /\ SqT K H p ys /\ Q (.bl true) H
theorem call_isT : CallR X (.builtin "isinstance") (rIsT X.K):=by
 intro pins s σ H xs us Q I r h
 obtain ⟨p,ys,rfl,hq,q⟩:=h
 obtain ⟨u,w',rfl,ru,rw'⟩:=vals2 r
 cases (show u = Value.ref p from ru)
 cases (show w' = Value.type "tuple" from rw')
 obtain ⟨its,r',pl,hz⟩:=I.tuple hq
 obtain ⟨o,h1,h2,_⟩:=pl
 exact PySem.W.kia_one PySem.W.kitx_tuple I.kIn ⟨o,h1,h2⟩ (kit_same _) (fun z => nomatch z) fun tk => ⟨.bl true,H,I.tok _,rfl,q⟩
end
section
variable {K : PySem.W.Frag} {H : Hp} {Q : VK}
theorem w_ixT {p : Addr} {i : Int} : rIxT K (.ref p) (.int i) H Q = ∃ xs,SqT K H p xs /\ ∃ v,atI xs i = some v /\ Q v H :=
 propext ⟨fun ⟨p',xs,i',v,e1,e2,h,a,q⟩ => by cases e1; cases e2; exact ⟨xs,h,v,a,q⟩,fun ⟨xs,h,v,a,q⟩ => ⟨p,xs,i,v,rfl,rfl,h,a,q⟩⟩
theorem w_eqS {x y : Str} : rEq (.str x) (.str y) H Q = Q (.bl (decide (x = y))) H :=
 propext (by
  have e : decide (V.str x = V.str y) = decide (x = y):=by by_cases h : x = y <;> simp [h]
  unfold rEq
  rw [e]
  exact ⟨fun h => h.2,fun h => ⟨rfl,h⟩⟩)
end
end L2
set_option Elab.async false
set_option linter.all false
set_option maxRecDepth 100000
set_option maxHeartbeats 1000000
namespace L2
open PySem PySem.Spec PyProof.Rows
theorem Inv.turnedL {X : Cx} {pins : List (Addr × Obj)} {σ : St} {H : Hp} {s : Shared} {h' : Heap} {t' : Nat} (ch : List Addr) (I : Inv X pins σ H s) (k : ∀ b o,b ∉ ch -> s.heap.get? b = some o -> h'.get? b = some o) (hf : ∀ b ∈ ch,FpOk X pins H b) : Inv X pins σ H { s with heap:=h',toks:=t' }:=by
 have nit : ∀ b u,H b = some u -> b ∉ ch:=fun b u e z => by rw [(hf b z).1] at e; cases e
 refine I.step (g':=s.gens) (d':=s.drawn) (ch:=ch) (fun b hb => ?_) (fun b o _ _ hc e _ => k b o hc e) (fun b o _ _ hc e _ => ⟨o.slots,k b o hc e⟩) (fun _ _ _ _ n => n)
  (fun b o hc e => ⟨o,k b o hc e⟩) (fun _ _ e => e) (fun _ _ _ e => e) (fun b ps e => ⟨#[],by rw [e]; simp⟩) (fun m hm => ?_) (fun b u e => ?_) I.bare
 ·obtain ⟨f0,f1,f2,f3,f4,f5⟩:=hf b hb
  exact ⟨f3,f1,f4,f5⟩
 ·obtain ⟨o,es,ep,ho,r⟩:=hm
  exact ⟨o,es,ep,k _ o (fun z => (hf _ z).2.1 rfl) ho,r⟩
 ·refine (I.hok b u e).stay (fun c v hc q => k c v ?_ q) (fun _ q => q) fun _ _ q => q
  rcases hc with z | z
  ·rw [z]; exact nit b u e
  ·exact nit c _ z
theorem get_push_ne {h : Heap} {b : Addr} {o o' : Obj} (n : b ≠ h.objs.size) (e : (h.push o').get? b = some o) : h.get? b = some o:=by
 rw [Heap.get?_push_ne h b o' n] at e
 exact e
def Itz (K : PySem.W.Frag) (a b : Addr) : It :=
  ⟨fun i H => ∃ xs ys, SqL K H a xs ∧ SqL K H b ys ∧ i < xs.length ∧ i < ys.length,
   fun i H x H' => ∃ T u v, x = .ref T ∧ H T = none ∧ H' = upd H T (.tup [u, v]) ∧ (∀ xs, SqL K H a xs → xs[i]? = some u) ∧ (∀ ys, SqL K H b ys → ys[i]? = some v),
   fun i H => ∃ xs ys, SqL K H a xs ∧ SqL K H b ys ∧ (xs.length ≤ i ∨ ys.length ≤ i)⟩
def tnZ (z TI TO i1 i2 a b : Addr) (i : Nat) (h : Heap) : Prop:=IsZip h z TI TO .none /\ IsPair h TI (.ref i1) (.ref i2) /\ (∃ x y,IsPair h TO x y) /\ h.IsListIter i1 a i /\ h.IsListIter i2 b i
theorem turn_zip {P : Program} {w : World} {K : PySem.W.Frag} {elts : List Expr} {x1 : Nat} {pos : Pos} {z TI TO i1 i2 a b : Addr} (D : ZipApart z TI TO i1 i2 a b) : Turn P w K (.Tuple elts x1 pos) (Itz K a b) [z,TI,TO,i1,i2] z (tnZ z TI TO i1 i2 a b) where
 mem:=by simp
 obj:=fun i h st c hc => by
  obtain ⟨t1,t2,⟨x0,y0,t3⟩,⟨o4,e4,c4,d4⟩,⟨o5,e5,c5,d5⟩⟩:=st
  simp only [List.mem_cons,List.not_mem_nil,or_false] at hc
  rcases hc with e | e | e | e | e <;> subst e
  ·exact ⟨_,t1,fun v q => by cases q⟩
  ·exact ⟨_,t2,fun v q => by cases q⟩
  ·exact ⟨_,t3,fun v q => by cases q⟩
  ·exact ⟨o4,e4,fun v q => by rw [d4] at q; cases q⟩
  ·exact ⟨o5,e5,fun v q => by rw [d5] at q; cases q⟩
 keep:=fun i h h' st k => by
  obtain ⟨t1,t2,⟨x0,y0,t3⟩,t4,t5⟩:=st
  exact ⟨k z (by simp) _ t1,k TI (by simp) _ t2,⟨x0,y0,k TO (by simp) _ t3⟩,t4.at fun o e => k i1 (by simp) o e,t5.at fun o e => k i2 (by simp) o e⟩
 item:=by
  intro X hP hw hK hc i pins s σ H E I hf st hg
  subst hP hw hK
  obtain ⟨xs,ys,hq,hq2,hi,hi2⟩:=hg
  obtain ⟨its,rv,p,hz⟩:=I.list hq
  obtain ⟨its2,rv2,p2,hz2⟩:=I.list hq2
  obtain ⟨u,hu,ru⟩:=rv.get (List.getElem?_eq_getElem hi)
  obtain ⟨v,hv,rv'⟩:=rv2.get (List.getElem?_eq_getElem hi2)
  obtain ⟨t1,t2,⟨x0,y0,t3⟩,t4,t5⟩:=st
  have hl1 : z < s.heap.objs.size:=Heap.lt_size t1
  have hl3 : TO < s.heap.objs.size:=Heap.lt_size t3
  have hl2 : TI < s.heap.objs.size:=Heap.lt_size t2
  have hl4 : i1 < s.heap.objs.size:=by obtain ⟨o,e,_⟩:=t4; exact Heap.lt_size e
  have hl5 : i2 < s.heap.objs.size:=by obtain ⟨o,e,_⟩:=t5; exact Heap.lt_size e
  refine wpAny_pyNext_zip_item D t1 t2 t3 t4 t5 p.isList p2.isList (x:=u) (y:=v) (by simpa using hu) (by simpa using hv) fun h' a1 a2 a3 a4 a5 a6 a7 => ⟨_,rfl,?_⟩
  refine wpAny_letOwnedTupleGo_zip a1 fun h2 b1 b2 => ?_
  have hT0 : H s.heap.objs.size = none:=I.hok.fresh (Nat.le_refl _)
  have I1 : Inv X pins σ (upd H s.heap.objs.size (.tup [xs[i],ys[i]])) { s with heap:=s.heap.push { cls:=.type "tuple",data:=.seq [u,v].toArray } } :=
   I.laid (t':=s.toks) (fun b o e => Heap.get?_push_of_some _ e) (Nat.le_refl _) (show ObjOk X.prog X.w _ _ _ (.tup [xs[i],ys[i]]) from ⟨le_size (by show 2 <= 1000; decide),[u,v],.cons ru (.cons rv' .nil),IsTup.new _ _⟩)
  have fpk : ∀ c ∈ [z,TI,TO,i1,i2],c ≠ s.heap.objs.size:=fun c hc => by
   simp only [List.mem_cons,List.not_mem_nil,or_false] at hc
   rcases hc with e | e | e | e | e <;> subst e <;> exact Nat.ne_of_lt (by assumption)
  have fp2 : ∀ c ∈ [z,TI,TO,i1,i2],FpOk X pins (upd H s.heap.objs.size (.tup [xs[i],ys[i]])) c:=fun c hc => by
   obtain ⟨f0,f⟩:=hf c hc
   exact ⟨by rw [upd_ne (fpk c hc)]; exact f0,f⟩
  have I2 : Inv X pins σ (upd H s.heap.objs.size (.tup [xs[i],ys[i]])) { s with heap:=h2 }:=by
   refine Inv.turnedL (s:={ s with heap:=s.heap.push { cls:=.type "tuple",data:=.seq [u,v].toArray } }) (t':=s.toks) (h':=h2) [z,TO,i1,i2] I1 (fun b o hb e => ?_) (fun c hc => fp2 c (by simp only [List.mem_cons,List.not_mem_nil,or_false] at hc ⊢; rcases hc with e | e | e | e <;> simp [e]))
   simp only [List.mem_cons,List.not_mem_nil,or_false,not_or] at hb
   obtain ⟨n1,n2,n3,n4⟩:=hb
   refine (b2.2 b n1).trans ?_
   by_cases hT : b = s.heap.objs.size
   ·subst hT
    rw [Heap.get?_push_size _ rfl] at e
    rw [← e]
    exact a5
   ·exact a7 b o n1 n2 n3 n4 (get_push_ne hT e)
  have t4' : h2.IsListIter i1 a (i + 1):=a3.at fun o e => (b2.2 _ D.i1z).trans e
  have t5' : h2.IsListIter i2 b (i + 1):=a4.at fun o e => (b2.2 _ D.i2z).trans e
  refine ⟨.ref s.heap.objs.size,_,I2,rfl,⟨_,xs[i],ys[i],rfl,hT0,rfl,fun zs h => ?_,fun zs h => ?_⟩,⟨b1,(b2.2 _ D.TIz).trans (a7 TI _ D.TIz D.TITO D.TIi1 D.TIi2 t2),⟨_,_,(b2.2 _ D.TOz).trans a2⟩,t4',t5'⟩,fun c hc => (fp2 c hc).1⟩
  ·rw [I.list_inj h hq]; exact List.getElem?_eq_getElem hi
  ·rw [I.list_inj h hq2]; exact List.getElem?_eq_getElem hi2
 done:=by
  intro X hP hw hK hc i pins s σ H E I hf st hg
  subst hP hw hK
  obtain ⟨xs,ys,hq,hq2,hend⟩:=hg
  obtain ⟨its,rv,p,hz⟩:=I.list hq
  obtain ⟨its2,rv2,p2,hz2⟩:=I.list hq2
  obtain ⟨t1,t2,⟨x0,y0,t3⟩,t4,t5⟩:=st
  refine wpAny_pyNext_zip_end (I.ok.hd hc) D t1 t2 t3 t4 t5 p.isList p2.isList ?_ fun h' a7 => ⟨rfl,?_⟩
  ·rcases hend with e | e
   ·left; simp [← rv.length,e]
   ·right; simp [← rv2.length,e]
  ·refine Inv.turnedL (t':=s.toks) (h':=h') [z,TO,i1,i2] I (fun b o hb e => ?_) (fun c hc => hf c (by simp only [List.mem_cons,List.not_mem_nil,or_false] at hc ⊢; rcases hc with e | e | e | e <;> simp [e]))
   simp only [List.mem_cons,List.not_mem_nil,or_false,not_or] at hb
   obtain ⟨n1,n2,n3,n4⟩:=hb
   exact a7 b o n1 n2 n3 n4 e
 self:=fun _ _ _ _ _ st h => wpAny_pyIter_zip st.1 h
def iZip (K : PySem.W.Frag) (ta : TA) : TI:=fun σ H R => ta σ H fun vs H1 => ∃ a b xs ys,vs = [.ref a,.ref b] /\ SqL K H1 a xs /\ SqL K H1 b ys /\ R (Itz K a b) H1
theorem pi_zip {X : Cx} {elts : List Expr} {x1 : Nat} {tpos : Pos} {a b : Expr} {ta : TA} {p pos : Pos} (hg : Gl X "zip") (hm : X.mg "zip" = none) (ha : PA X [a,b] ta) (hs : starEach [a,b] X.env = (false,eval a X.env) :: starEach [b] X.env:=by rfl) (hpl : (backTo pos (starEach [b] X.env)).any (·.1) = false:=by rfl) :
  PI X (.Tuple elts x1 tpos) (.Call (.Name "zip" p) [a,b] [] pos) (iZip X.K ta):=by
 intro pins s σ H R I h
 refine Call_ (ld_blt I hg hm bo_zip (PyProof.Rows.callWith_type1 (thn (ha pos pins s σ H _ I h) fun us s1 ⟨vs,H1,I1,r1,q1⟩ => ?_) hs hpl))
 obtain ⟨l1,l2,xs,ys,e,hq,hq2,q⟩:=q1
 subst e
 obtain ⟨u1,u2,rfl,ru1,ru2⟩:=vals2 r1
 cases (show u1 = Value.ref l1 from ru1)
 cases (show u2 = Value.ref l2 from ru2)
 obtain ⟨its,rv,pl,hz⟩:=I1.list hq
 obtain ⟨its2,rv2,pl2,hz2⟩:=I1.list hq2
 have lt1 : l1 < s1.heap.objs.size:=by obtain ⟨o,e,_⟩:=pl.isList; exact Heap.lt_size e
 have lt2 : l2 < s1.heap.objs.size:=by obtain ⟨o,e,_⟩:=pl2.isList; exact Heap.lt_size e
 refine call_zip_2 pl.isList pl2.isList fun h' z1 z2 z3 z4 z5 z6 z7 => ?_
 have I2 : Inv X pins σ H1 { s1 with heap:=h' }:=I1.kept (t':=s1.toks) z7
 refine wpAny_pyIter_zip z1 ?_
 have D : ZipApart (s1.heap.objs.size + 4) (s1.heap.objs.size + 2) (s1.heap.objs.size + 3) s1.heap.objs.size (s1.heap.objs.size + 1) l1 l2:=by
  have q1 : @LT.lt Nat _ l1 s1.heap.objs.size:=lt1
  have q2 : @LT.lt Nat _ l2 s1.heap.objs.size:=lt2
  constructor <;> (show ¬ @Eq Nat _ _; omega)
 refine ⟨s1.heap.objs.size + 4,_,_,_,H1,rfl,I2,turn_zip D,⟨z1,z2,⟨_,_,z3⟩,z4,z5⟩,fun c hc => ?_,q⟩
 have hle : s1.heap.objs.size <= c:=by
  simp only [List.mem_cons,List.not_mem_nil,or_false] at hc
  show (s1.heap.objs.size : Nat) <= c
  rcases hc with e | e | e | e | e <;> subst e <;> (show @LE.le Nat _ _ _; omega)
 exact I1.fpOk hle (I1.hok.fresh hle)
end L2
set_option Elab.async false
set_option linter.all false
set_option maxRecDepth 100000
set_option maxHeartbeats 1000000
namespace L2
open PySem PySem.Spec PyProof.Rows
theorem bo_enumerate : bootBuiltins "enumerate" = some (.type "enumerate"):=by decide +kernel
def Ite (K : PySem.W.Frag) (a : Addr) : It :=
  ⟨fun i H => ∃ xs, SqL K H a xs ∧ i < xs.length,
   fun i H x H' => ∃ T u, x = .ref T ∧ H T = none ∧ H' = upd H T (.tup [.int (i : Int), u]) ∧ (∀ xs, SqL K H a xs → xs[i]? = some u),
   fun i H => ∃ xs, SqL K H a xs ∧ xs.length ≤ i⟩
theorem turn_enum {P : Program} {w : World} {K : PySem.W.Frag} {elts : List Expr} {x1 : Nat} {pos : Pos} {e it a : Addr} (hne : e ≠ it) : Turn P w K (.Tuple elts x1 pos) (Ite K a) [e,it] e (fun i h => (∃ old,IsEnum h e it (i : Int) old) /\ h.IsListIter it a i) where
 mem:=by simp
 obj:=fun i h st c hc => by
  obtain ⟨⟨old,t1⟩,⟨o2,e2,c2,d2⟩⟩:=st
  simp only [List.mem_cons,List.not_mem_nil,or_false] at hc
  rcases hc with z | z <;> subst z
  ·exact ⟨_,t1,fun v q => by cases q⟩
  ·exact ⟨o2,e2,fun v q => by rw [d2] at q; cases q⟩
 keep:=fun i h h' st k => by
  obtain ⟨⟨old,t1⟩,t2⟩:=st
  exact ⟨⟨old,k e (by simp) _ t1⟩,t2.at fun o z => k it (by simp) o z⟩
 item:=by
  intro X hP hw hK hc i pins s σ H E I hf st hg
  subst hP hw hK
  obtain ⟨xs,hq,hi⟩:=hg
  obtain ⟨its,rv,p,hz⟩:=I.list hq
  obtain ⟨u,hu,ru⟩:=rv.get (List.getElem?_eq_getElem hi)
  obtain ⟨⟨old,t1⟩,t2⟩:=st
  have hl1 : e < s.heap.objs.size:=Heap.lt_size t1
  have hl2 : it < s.heap.objs.size:=by obtain ⟨o,z,_⟩:=t2; exact Heap.lt_size z
  refine wpAny_pyNext_enum_item t1 t2 p.isList (x:=u) (by simpa using hu) hne fun h' a1 a2 a3 a4 a5 => ⟨_,rfl,?_⟩
  refine wpAny_letOwnedTupleGo_enum (s:={ s with heap:=h',toks:=s.toks + 1 }) a1 fun h2 b1 b2 => ?_
  have hT0 : H s.heap.objs.size = none:=I.hok.fresh (Nat.le_refl _)
  have I1 : Inv X pins σ (upd H s.heap.objs.size (.tup [.int (i : Int),xs[i]])) { s with heap:=s.heap.push { cls:=.type "tuple",data:=.seq [Value.int (i : Int) s.toks,u].toArray } } :=
   I.laid (t':=s.toks) (fun b o z => Heap.get?_push_of_some _ z) (Nat.le_refl _) (show ObjOk X.prog X.w _ _ _ (.tup [.int (i : Int),xs[i]]) from ⟨le_size (by show 2 <= 1000; decide),[Value.int (i : Int) s.toks,u],.cons ⟨_,rfl⟩ (.cons ru .nil),IsTup.new _ _⟩)
  have fpk : ∀ c ∈ [e,it],c ≠ s.heap.objs.size:=fun c hc => by
   simp only [List.mem_cons,List.not_mem_nil,or_false] at hc
   rcases hc with z | z <;> subst z <;> exact Nat.ne_of_lt (by assumption)
  have fp2 : ∀ c ∈ [e,it],FpOk X pins (upd H s.heap.objs.size (.tup [.int (i : Int),xs[i]])) c:=fun c hc => by
   obtain ⟨f0,f⟩:=hf c hc
   exact ⟨by rw [upd_ne (fpk c hc)]; exact f0,f⟩
  have I2 : Inv X pins σ (upd H s.heap.objs.size (.tup [.int (i : Int),xs[i]])) { s with heap:=h2,toks:=s.toks + 1 }:=by
   refine Inv.turnedL (s:={ s with heap:=s.heap.push { cls:=.type "tuple",data:=.seq [Value.int (i : Int) s.toks,u].toArray } }) (t':=s.toks + 1) (h':=h2) [e,it] I1 (fun b o hb z => ?_) fp2
   simp only [List.mem_cons,List.not_mem_nil,or_false,not_or] at hb
   obtain ⟨n1,n2⟩:=hb
   refine (b2.2 b n1).trans ?_
   by_cases hT : b = s.heap.objs.size
   ·subst hT
    rw [Heap.get?_push_size _ rfl] at z
    rw [← z]
    exact a3
   ·exact a5 b o n1 n2 (get_push_ne hT z)
  have e1 : ((i : Int) + 1) = ((i + 1 : Nat) : Int):=by omega
  rw [e1] at b1
  refine ⟨.ref s.heap.objs.size,_,I2,rfl,⟨_,xs[i],rfl,hT0,rfl,fun zs h => ?_⟩,⟨⟨_,b1⟩,a2.at fun o z => (b2.2 _ hne.symm).trans z⟩,fun c hc => (fp2 c hc).1⟩
  rw [I.list_inj h hq]; exact List.getElem?_eq_getElem hi
 done:=by
  intro X hP hw hK hc i pins s σ H E I hf st hg
  subst hP hw hK
  obtain ⟨xs,hq,hend⟩:=hg
  obtain ⟨its,rv,p,hz⟩:=I.list hq
  obtain ⟨⟨old,t1⟩,t2⟩:=st
  refine wpAny_pyNext_enum_end (I.ok.hd hc) t1 t2 p.isList (by simp [← rv.length,hend]) fun h' a7 => ⟨rfl,?_⟩
  refine Inv.turnedL (t':=s.toks) (h':=h') [it] I (fun b o hb z => a7 b o (by simpa using hb) z) (fun c hc => hf c (by simp only [List.mem_cons,List.not_mem_nil,or_false] at hc ⊢; exact .inr hc))
 self:=fun _ i s _ _ st h => by
  obtain ⟨⟨old,t1⟩,t2⟩:=st
  exact wpAny_pyIter_enum t1 h
def iEnum (K : PySem.W.Frag) (ta : TA) : TI:=fun σ H R => ta σ H fun vs H1 => ∃ a xs,vs = [.ref a] /\ SqL K H1 a xs /\ R (Ite K a) H1
theorem pi_enum {X : Cx} {elts : List Expr} {x1 : Nat} {tpos : Pos} {a : Expr} {ta : TA} {p pos : Pos} (hg : Gl X "enumerate") (hm : X.mg "enumerate" = none) (ha : PA X [a] ta) (hs : starEach [a] X.env = [(false,eval a X.env)]:=by rfl) :
  PI X (.Tuple elts x1 tpos) (.Call (.Name "enumerate" p) [a] [] pos) (iEnum X.K ta):=by
 intro pins s σ H R I h
 refine Call_ (ld_blt I hg hm bo_enumerate (PyProof.Rows.callWith_type1 (thn (ha pos pins s σ H _ I h) fun us s1 ⟨vs,H1,I1,r1,q1⟩ => ?_) hs rfl))
 obtain ⟨l1,xs,e,hq,q⟩:=q1
 subst e
 obtain ⟨u1,rfl,ru1⟩:=vals1 r1
 cases (show u1 = Value.ref l1 from ru1)
 obtain ⟨its,rv,pl,hz⟩:=I1.list hq
 refine call_enumerate_list pl.isList fun h' z1 z2 z3 z4 => ?_
 have I2 : Inv X pins σ H1 { s1 with heap:=h' }:=I1.kept (t':=s1.toks) z4
 refine wpAny_pyIter_enum z1 ?_
 refine ⟨s1.heap.objs.size + 1,_,_,_,H1,rfl,I2,turn_enum (by show ¬ @Eq Nat _ _; omega),⟨⟨_,z1⟩,z2⟩,fun c hc => ?_,q⟩
 have hle : s1.heap.objs.size <= c:=by
  simp only [List.mem_cons,List.not_mem_nil,or_false] at hc
  rcases hc with z | z <;> subst z <;> (show @LE.le Nat _ _ _; omega)
 exact I1.fpOk hle (I1.hok.fresh hle)
section
variable {K : PySem.W.Frag} {σ : St} {H : Hp} {Q : VK}
theorem comp_any {J : It} {nt : Nat} {cs : List Nat} {g : TG} {tt : TT} {te : TE} (n : Nat) (Pv : Addr -> Nat -> List V -> Hp -> Prop) (hz : n <= sizeLine)
  (hgo : ∀ acc i ys H',i < n -> Pv acc i ys H' -> J.go i H') (hst : ∀ acc ys H',Pv acc n ys H' -> J.stop n H')
  (h0 : ∀ acc,H acc = none -> Pv acc 0 [] (upd H acc (.lst []))) (hacc : ∀ acc i ys H',Pv acc i ys H' -> H' acc = some (.lst ys) /\ ys.length <= i)
  (hs : ∀ acc i ys H' (ts : St) x H2 (N : List V -> St -> Hp -> Prop),H acc = none -> i < n -> Pv acc i ys H' -> J.yld i H' x H2 -> ts.length = nt -> (∀ zs (ts' : St) H3,ts'.length = nt -> Pv acc (i + 1) zs H3 -> N zs (ts' ++ capV cs σ) H3) ->
   g x (ts ++ capV cs σ) H2 fun σ3 H3 => tt σ3 H3 fun b H4 => if b = true then te σ3 H4 fun y H5 => H5 acc = some (.lst ys) /\ N (ys ++ [y]) σ3 (upd H5 acc (.lst (ys ++ [y]))) else N ys σ3 H4)
  (hd : ∀ acc ys H',H acc = none -> Pv acc n ys H' -> Q (.ref acc) H') : CompIt J nt cs g tt te σ H Q:=by
 intro acc hn
 refine ⟨fun i m ys σ' H' => m = n - i /\ i <= n /\ (∃ ts : St,ts.length = nt /\ σ' = ts ++ capV cs σ) /\ Pv acc i ys H',⟨_,rfl,Nat.zero_le _,⟨List.replicate nt none,List.length_replicate,rfl⟩,h0 acc hn⟩,?_⟩
 rintro i m ys σ' H' ⟨rfl,hi,⟨ts,hts,rfl⟩,p⟩
 obtain ⟨ha,hl⟩:=hacc acc i ys H' p
 refine ⟨ha,?_⟩
 by_cases hlt : i < n
 ·refine .inr ⟨hgo acc i ys H' hlt p,by omega,fun zs σ2 H2 => (∃ ts : St,ts.length = nt /\ σ2 = ts ++ capV cs σ) /\ Pv acc (i + 1) zs H2,fun zs σ2 H2 ⟨q1,q2⟩ => ⟨n - (i + 1),by omega,rfl,hlt,q1,q2⟩,fun x H2 y => ?_⟩
  exact hs acc i ys H' ts x H2 (fun zs σ2 H2 => (∃ ts : St,ts.length = nt /\ σ2 = ts ++ capV cs σ) /\ Pv acc (i + 1) zs H2) hn hlt p y hts fun zs ts' H3 h1 h2 => ⟨⟨ts',h1,rfl⟩,h2⟩
 ·have e : i = n:=by omega
  subst e
  exact .inl ⟨hst acc ys H' p,hd acc ys H' hn p⟩
theorem w_compE {ta : TA} {nt : Nat} {cs : List Nat} {g : TG} {tt : TT} {te : TE} : tComp (iEnum K ta) nt cs g tt te σ H Q = (ta σ H fun vs H1 => ∃ a xs,vs = [.ref a] /\ SqL K H1 a xs /\ CompIt (Ite K a) nt cs g tt te σ H1 Q):=rfl
theorem w_compZ {ta : TA} {nt : Nat} {cs : List Nat} {g : TG} {tt : TT} {te : TE} : tComp (iZip K ta) nt cs g tt te σ H Q = (ta σ H fun vs H1 => ∃ a b xs ys,vs = [.ref a,.ref b] /\ SqL K H1 a xs /\ SqL K H1 b ys /\ CompIt (Itz K a b) nt cs g tt te σ H1 Q):=rfl
end
def Itr3 (lo c : Int) (n : Nat) : It:=⟨fun i _ => i < n,fun i H x H' => H' = H /\ x = .int (lo + i * c),fun i _ => n <= i⟩
theorem turn_range3 {P : Program} {w : World} {K : PySem.W.Frag} {tg : Expr} (it : Addr) (lo c : Int) (n : Nat) : Turn P w K tg (Itr3 lo c n) [it] it (fun i h => IsRangeIter h it (lo + (i : Nat) * c) ((n : Int) - (i : Nat)) c) where
 mem:=by simp
 obj:=fun i h st b hb => by
  have e : b = it:=by simpa using hb
  subst e
  exact ⟨_,st,fun v z => by
   have z' : Data.fields _ = Data.cell v:=z
   cases z'⟩
 keep:=fun i h h' st k => k it (by simp) _ st
 item:=by
  intro X hP hw hK hc i pins s σ H E I hf st hg
  subst hP hw hK
  obtain ⟨f0,f1,f2,f3,f4,f5⟩:=hf it (by simp)
  have W:=Walks.range (prog:=X.prog) (w:=X.w) (I.ok.hd hc) it lo c n
  refine W.item i s _ _ hg st fun v h' tk hv st' kk => ?_
  obtain ⟨t,rfl⟩:=hv
  have I1 : Inv X pins σ H { s with heap:=h',toks:=tk }:=I.turned (fun b o hb e => kk b o (by simpa using hb) e) f0 f1 f3 f4 f5
  exact ⟨_,rfl,go_of (s:={ s with heap:=h',toks:=tk }) (n:="range_iterator") st' rfl rfl (by decide) ⟨.int (lo + i * c),H,I1,⟨t,rfl⟩,⟨rfl,rfl⟩,st',fun b hb => (hf b hb).1⟩⟩
 done:=by
  intro X hP hw hK hc i pins s σ H E I hf st hg
  subst hP hw hK
  obtain ⟨f0,f1,f2,f3,f4,f5⟩:=hf it (by simp)
  exact wpAny_pyNext_range_end (I.ok.hd hc) st (by have : n <= i:=hg; omega) fun h' eb => ⟨rfl,I.turned (t':=s.toks) (fun b o hb e => eb b o hb e) f0 f1 f3 f4 f5⟩
 self:=fun _ _ _ _ _ st h => wpAny_pyIter_rangeiter st h
def stepN (lo hi c : Int) : Nat:=(Builtin.Range.rangeSize lo hi c).toNat
def iRng3 (ta : TA) : TI:=fun σ H R => ta σ H fun vs H1 => ∃ i j c : Int,vs = [.int i,.int j,.int c] /\ (0 <= i /\ i < 2 ^ 31 /\ -1 <= j /\ j < 2 ^ 31 /\ c = 2) /\ R (Itr3 i c (stepN i j c)) H1
theorem small_two {a b : Int} (h : 0 <= a /\ a < 2 ^ 31 /\ -1 <= b /\ b < 2 ^ 31) : Builtin.Range.small a b 2 = true:=by
 unfold Builtin.Range.small
 simp only [Builtin.Range.rangeSize,Builtin.Range.rangeFitsLong,Bool.and_eq_true,Bool.or_eq_true,decide_eq_true_eq,beq_iff_eq,show (2 : Int) > 0 by decide,if_true]
 split <;> omega
theorem stepN_two {a b : Int} : ((stepN a b 2 : Nat) : Int) = Builtin.Range.rangeSize a b 2:=by
 unfold stepN
 have : 0 <= Builtin.Range.rangeSize a b 2:=by
  unfold Builtin.Range.rangeSize
  rw [if_pos (by decide)]
  split <;> omega
 omega
theorem pi_range3 {X : Cx} {tg : Expr} {a b c : Expr} {ta : TA} {p pos : Pos} (hg : Gl X "range") (hm : X.mg "range" = none) (ha : PA X [a,b,c] ta) (hs : starEach [a,b,c] X.env = (false,eval a X.env) :: starEach [b,c] X.env:=by rfl) (hpl : (backTo pos (starEach [b,c] X.env)).any (·.1) = false:=by rfl) :
  PI X tg (.Call (.Name "range" p) [a,b,c] [] pos) (iRng3 ta):=by
 intro pins s σ H R I h
 refine Call_ (ld_blt I hg hm boot_range (PyProof.Rows.callWith_type1 (thn (ha pos pins s σ H _ I h) fun us s1 ⟨vs,H1,I1,r1,q1⟩ => ?_) hs hpl))
 obtain ⟨i,j,c,e,⟨q1,q2,q3,q4,rfl⟩,q⟩:=q1
 subst e
 cases r1 with
 | cons r rr =>
  cases rr with
  | cons r' rr =>
   cases rr with
   | cons r3 rr =>
    cases rr
    obtain ⟨t,rfl⟩:=r
    obtain ⟨t',rfl⟩:=r'
    obtain ⟨t3,rfl⟩:=r3
    refine call_range_3 (by decide) ?_ (Or.inl (PyProof.noPylong_of_log2 (by decide +kernel)))
    refine wpAny_pyIter_range (IsRange.new ..) (small_two ⟨q1,q2,q3,q4⟩) ?_
    have I2 : Inv X pins σ H1 { s1 with heap:=s1.heap.push { cls:=.type "range",data:=.fields #[.int i t,.int j t',.int 2 t3] },toks:=s1.toks }:=I1.kept fun b o e => Heap.get?_push_of_some _ e
    refine ⟨(s1.heap.push { cls:=.type "range",data:=.fields #[.int i t,.int j t',.int 2 t3] }).objs.size,[(s1.heap.push { cls:=.type "range",data:=.fields #[.int i t,.int j t',.int 2 t3] }).objs.size],_,_,H1,rfl,I2.kept (t':=s1.toks) fun b o e => Heap.get?_push_of_some _ e,turn_range3 _ i 2 (stepN i j 2),?_,fun b hb => ?_,q⟩
    ·have e1 : i + ((0 : Nat) : Int) * 2 = i:=by omega
     have e2 : ((stepN i j 2 : Nat) : Int) - ((0 : Nat) : Int) = Builtin.Range.rangeSize i j 2:=by rw [stepN_two]; omega
     show IsRangeIter _ _ (i + ((0 : Nat) : Int) * 2) (((stepN i j 2 : Nat) : Int) - ((0 : Nat) : Int)) 2
     rw [e1,e2]
     exact Heap.get?_push_size _ rfl
    ·have e : b = (s1.heap.push { cls:=.type "range",data:=.fields #[.int i t,.int j t',.int 2 t3] }).objs.size:=by simpa using hb
     subst e
     exact I2.fpOk (Nat.le_refl _) (I2.hok.fresh (Nat.le_refl _))
def ForR3 (lo c : Int) (n : Nat) (g : TG) (tb : TS) (D : Ends) (σ : St) (H : Hp) : Prop:=∃ W : Nat -> Nat -> St -> Hp -> Prop,(∃ m,W 0 m σ H) /\ ∀ i m σ H,W i m σ H ->
 ((Itr3 lo c n).stop i H /\ D.nx σ H) \/ ((Itr3 lo c n).go i H /\ ∃ N : St -> Hp -> Prop,(∀ σ' H',N σ' H' -> ∃ m',m' < m /\ W (i + 1) m' σ' H') /\ ∀ x H',(Itr3 lo c n).yld i H x H' -> g x σ H' fun σ2 H2 => tb { D with nx:=N,ct:=N,bk:=D.nx } σ2 H2)
section
variable {σ : St} {H : Hp} {D : Ends} {g : TG} {tb : TS} {lo c : Int} {n : Nat}
theorem w_for3 {ta : TA} : tFor (iRng3 ta) g tb D σ H = (ta σ H fun vs H1 => ∃ i j c : Int,vs = [.int i,.int j,.int c] /\ (0 <= i /\ i < 2 ^ 31 /\ -1 <= j /\ j < 2 ^ 31 /\ c = 2) /\ ForR3 i c (stepN i j c) g tb D σ H1):=rfl
theorem forR3 (Pv : Nat -> St -> Hp -> Prop) (h0 : Pv 0 σ H) (hs : ∀ i σ H (N : St -> Hp -> Prop),i < n -> Pv i σ H -> (∀ σ' H',Pv (i + 1) σ' H' -> N σ' H') -> g (.int (lo + i * c)) σ H fun σ2 H2 => tb { D with nx:=N,ct:=N,bk:=D.nx } σ2 H2)
  (hd : ∀ σ H,Pv n σ H -> D.nx σ H) : ForR3 lo c n g tb D σ H:=by
 refine ⟨fun i m σ H => m = n - i /\ i <= n /\ Pv i σ H,⟨n,by simp,Nat.zero_le _,h0⟩,?_⟩
 rintro i m σ H ⟨rfl,hi,p⟩
 by_cases hlt : i < n
 ·refine .inr ⟨hlt,Pv (i + 1),fun σ' H' p' => ⟨n - (i + 1),by omega,rfl,hlt,p'⟩,fun x H' y => ?_⟩
  obtain ⟨e,rfl⟩:=y
  subst e
  exact hs i σ _ (Pv (i + 1)) hlt p fun _ _ z => z
 ·have e : i = n:=by omega
  subst e
  exact .inl ⟨Nat.le_refl _,hd σ H p⟩
end
end L2
set_option Elab.async false
set_option linter.all false
set_option maxRecDepth 100000
set_option maxHeartbeats 1000000
namespace L2
open PySem PySem.Spec
theorem get_snoc {α : Type} {xs : List α} {x y : α} {i : Nat} (h : (xs ++ [x])[i]? = some y) : (i < xs.length /\ xs[i]? = some y) \/ (i = xs.length /\ y = x):=by
 by_cases hi : i < xs.length
 ·rw [List.getElem?_append_left hi] at h
  exact .inl ⟨hi,h⟩
 ·rw [List.getElem?_append_right (by omega)] at h
  have hz : i - xs.length = 0:=by
   cases hk : i - xs.length with
   | zero => rfl
   | succ m => rw [hk] at h; simp at h
  rw [hz] at h
  cases h
  exact .inr ⟨by omega,rfl⟩
end L2
set_option Elab.async false
set_option linter.all false
set_option maxRecDepth 100000
set_option maxHeartbeats 1000000
namespace L2
open PySem PySem.Spec PyProof.Rows
def gTupK (K : PySem.W.Frag) (n : Nat) (t : TGs) : TG:=gTup K n t
section
variable {K : PySem.W.Frag} {σ : St} {H : Hp} {R : St -> Hp -> Prop}
theorem w_gTupK {n : Nat} {t : TGs} {a : Addr} : gTupK K n t (.ref a) σ H R = ∃ xs,SqT K H a xs /\ xs.length = n /\ t xs σ H R :=
 propext ⟨fun ⟨a',xs,e,h,l,q⟩ => by cases e; exact ⟨xs,h,l,q⟩,fun ⟨xs,h,l,q⟩ => ⟨a,xs,rfl,h,l,q⟩⟩
end
end L2
set_option Elab.async false
set_option linter.all false
set_option maxRecDepth 100000
set_option maxHeartbeats 1000000
namespace L2
open PySem PySem.Spec PyProof.Rows
theorem draw_walk {prog : Program} {w : World} {A : Around} {E : Value -> Shared -> Prop} {I : Addr} {fp wr : List Addr} {n : Nat} {P : Nat -> Value -> Prop} {St : Nat -> Heap -> Prop} (W : Walks prog w A I fp wr n P St) : ∀ (k i : Nat) (s : Shared) (Q : List Value -> Shared -> Prop),i + k <= n -> St i s.heap ->
  (∀ vs h' tk,vs.length = k -> (∀ (j : Nat) (v : Value),vs[j]? = some v -> P (i + j) v) -> St (i + k) h' -> (∀ b o,b ∉ wr -> s.heap.get? b = some o -> h'.get? b = some o) -> Q vs { s with heap:=h',toks:=tk }) -> wpAny (model prog w) A (draw (.ref I) k) Q E s
 | 0,i,s,Q,hle,st,hQ => by
  show wpAny _ _ (pure []) Q E s
  exact wpAny_pure (hQ [] s.heap s.toks rfl (fun j v h => by simp at h) st fun _ _ _ e => e)
 | k + 1,i,s,Q,hle,st,hQ => by
  show wpAny _ _ (pyNext (.ref I) >>= _) Q E s
  refine wpAny_bind (W.item i s _ _ (by omega) st fun v h' tk hP st' hk => ?_)
  refine wpAny_bind (wpAny_holding (draw_walk W k (i + 1) _ _ (by omega) st' fun vs h2 tk2 hl hv st2 hk2 => wpAny_pure ?_))
  refine hQ (v :: vs) h2 tk2 (by rw [List.length_cons,hl]) (fun j u hj => ?_) (by rw [show i + (k + 1) = i + 1 + k by omega]; exact st2) fun b o hb e => hk2 b o hb (hk b o hb e)
  cases j with
  | zero => cases hj; exact hP
  | succ j =>
   rw [List.getElem?_cons_succ] at hj
   have:=hv j u hj
   rw [show i + (j + 1) = i + 1 + j by omega]
   exact this
theorem vals_at : ∀ {xs : List V} {its us : List Value},Vals xs its -> us.length = its.length -> (∀ (j : Nat) (v : Value),us[j]? = some v -> its[j]? = some v) -> us = its
 | _,its,us,_,hl,h => by
  refine List.ext_getElem? fun j => ?_
  by_cases hj : j < us.length
  ·rw [List.getElem?_eq_getElem hj,h j _ (List.getElem?_eq_getElem hj)]
  ·rw [List.getElem?_eq_none (by omega),List.getElem?_eq_none (by omega)]
section
variable {X : Cx} {pins : List (Addr × Obj)} {σ : St} {H : Hp} {s : Shared} {p : Addr} {xs : List V}
theorem unpack_list (hc : X.calm = true) (I : Inv X pins σ H s) (hp : H p = some (.lst xs)) {Q : List Value -> Shared -> Prop} {E : Value -> Shared -> Prop} (h : ∀ its s',Vals xs its -> Inv X pins σ H s' -> Q its s') :
  wpAny (model X.prog X.w) X.A (unpackItems (.ref p) xs.length none) Q E s:=by
 obtain ⟨its0,rv0,pl,_⟩:=I.list (SqL.of hp)
 unfold unpackItems
 refine wpAny_bind ?_
 unfold notIterableAtAll
 refine wpAny_bind (wpAny_specialOf pl.isList.typeIs slot_list_iter.lookup ?_)
 refine wpAny_pure ?_
 simp only [Bool.false_eq_true,if_false]
 refine wpAny_bind (wpAny_holding (wpAny_of_in1 (walk_list hc I hp fun its rv s2 st hfp hne W hI => ?_)))
 have W2:=W.of_in1
 have hl : its.toArray.size = xs.length:=by rw [List.size_toArray,← rv.length]
 refine wpAny_bind (wpAny_holding (draw_walk W2 xs.length 0 s2 _ (by rw [hl]; omega) st fun vs h1 tk1 hvl hv st1 hk1 => ?_))
 have ev : vs = its:=vals_at rv (by rw [hvl,rv.length]) fun j v hj => by
  have:=hv j v hj
  rw [Nat.zero_add] at this
  simpa using this
 subst ev
 rw [if_neg (by rw [← rv.length]; exact Nat.lt_irrefl _)]
 refine wpAny_bind (wpAny_holding (W2.done _ _ _ (by rw [hl]; rw [Nat.zero_add] at st1; exact st1) fun h2 tk2 hk2 => ?_))
 simp only [Option.isSome_none,Bool.false_eq_true,if_false]
 exact wpAny_pure (h _ _ rv (hI h2 tk2 fun b o hb e => hk2 b o hb (hk1 b o hb e)))
def gLst (n : Nat) (t : TGs) : TG:=fun v σ H Q => ∃ a xs,v = .ref a /\ H a = some (.lst xs) /\ xs.length = n /\ t xs σ H Q
theorem pg_lst {es : List Expr} {k : Nat} {t : TGs} {pos : Pos} (n : Nat) (hc : X.calm = true) (h : PGs X es t) (hn : (assignEach es X.env).length = n:=by rfl) (hst : (assignEach es X.env).findIdx? (·.1) = none:=by rfl) : PG X (.Tuple es k pos) (gLst n t):=by
 intro pins s σ H v u Q I r hw
 obtain ⟨a,xs,e1,hq,hl,hw⟩:=hw
 subst e1
 cases r
 rw [PyProof.Rows.assign_Tuple]
 refine wpAny_bind (wpAny_standAt ?_)
 unfold unpack
 rw [hst,hn,← hl]
 exact wpAny_bind (wpAny_holding (unpack_list hc I hq fun its s' rv I1 => h pins s' σ H xs its Q I1 rv hw))
end
section
variable {σ : St} {H : Hp} {R : St -> Hp -> Prop}
theorem w_gLst {n : Nat} {t : TGs} {a : Addr} : gLst n t (.ref a) σ H R = ∃ xs,H a = some (.lst xs) /\ xs.length = n /\ t xs σ H R :=
 propext ⟨fun ⟨a',xs,e,h,l,q⟩ => by cases e; exact ⟨xs,h,l,q⟩,fun ⟨xs,h,l,q⟩ => ⟨a,xs,rfl,h,l,q⟩⟩
end
def ForE (K : PySem.W.Frag) (a : Addr) (g : TG) (tb : TS) (D : Ends) (σ : St) (H : Hp) : Prop:=∃ W : Nat -> Nat -> St -> Hp -> Prop,(∃ m,W 0 m σ H) /\ ∀ i m σ H,W i m σ H ->
 ((Ite K a).stop i H /\ D.nx σ H) \/ ((Ite K a).go i H /\ ∃ N : St -> Hp -> Prop,(∀ σ' H',N σ' H' -> ∃ m',m' < m /\ W (i + 1) m' σ' H') /\ ∀ x H',(Ite K a).yld i H x H' -> g x σ H' fun σ2 H2 => tb { D with nx:=N,ct:=N,bk:=D.nx } σ2 H2)
section
variable {K : PySem.W.Frag} {σ : St} {H : Hp} {D : Ends} {g : TG} {tb : TS} {a : Addr}
theorem w_forE {ta : TA} : tFor (iEnum K ta) g tb D σ H = (ta σ H fun vs H1 => ∃ a xs,vs = [.ref a] /\ SqL K H1 a xs /\ ForE K a g tb D σ H1):=rfl
theorem forE {xs : List V} (Pv : Nat -> St -> Hp -> Prop) (h0 : Pv 0 σ H) (hl : ∀ i σ H,i <= xs.length -> Pv i σ H -> SqL K H a xs)
  (hs : ∀ i x T σ H (N : St -> Hp -> Prop),xs[i]? = some x -> H T = none -> Pv i σ H -> (∀ σ' H',Pv (i + 1) σ' H' -> N σ' H') -> g (.ref T) σ (upd H T (.tup [.int (i : Int),x])) fun σ2 H2 => tb { D with nx:=N,ct:=N,bk:=D.nx } σ2 H2)
  (hd : ∀ σ H,Pv xs.length σ H -> D.nx σ H) : ForE K a g tb D σ H:=by
 refine ⟨fun i m σ H => m = xs.length - i /\ i <= xs.length /\ Pv i σ H,⟨_,rfl,Nat.zero_le _,h0⟩,?_⟩
 rintro i m σ H ⟨rfl,hi,p⟩
 have q:=hl i σ H hi p
 by_cases hlt : i < xs.length
 ·refine .inr ⟨⟨xs,q,hlt⟩,Pv (i + 1),fun σ' H' p' => ⟨xs.length - (i + 1),by omega,rfl,hlt,p'⟩,fun x H' y => ?_⟩
  obtain ⟨T,u,rfl,hT,rfl,hu⟩:=y
  exact hs i u T σ H (Pv (i + 1)) (hu xs q) hT p fun _ _ z => z
 ·have e : i = xs.length:=by omega
  subst e
  exact .inl ⟨⟨xs,q,Nat.le_refl _⟩,hd σ H p⟩
end
end L2
set_option Elab.async false
set_option linter.all false
set_option maxRecDepth 100000
set_option maxHeartbeats 1000000
namespace L2
open PySem PySem.Spec
def mvI (s n : Int) : Int:=n * 2 ^ (if 0 > s then (0 : Int) else s).toNat / 2 ^ (if 0 > 0 - s then (0 : Int) else 0 - s).toNat
end L2
set_option Elab.async false
set_option linter.all false
set_option maxRecDepth 100000
set_option maxHeartbeats 1000000
namespace L2
open PySem PySem.Spec
structure Wd where
 w : Str
 a : Nat
 s : Int
 b : Nat
 t : Int
structure Go where
 th : Nat
 sh : Int
 sg : Int
def wTup (d : Wd) : List V:=[.str d.w,.int d.a,.int d.s,.int d.b,.int d.t]
def gTp (g : Go) : List V:=[.int g.th,.int g.sh,.int g.sg]
structure HTs {α : Type} (f : α -> List V) (H : Hp) (vs : List V) (xs : List α) : Prop where
 len : vs.length = xs.length
 at_ : ∀ (k : Nat) (x : α),xs[k]? = some x -> ∃ p : Addr,vs[k]? = some (.ref p) /\ H p = some (.tup (f x))
section
variable {α : Type} {f : α -> List V} {H H' : Hp} {vs us : List V} {xs : List α} {l : Addr}
theorem HTs.same (h : HTs f H vs xs) (s : Same H H') : HTs f H' vs xs:=⟨h.len,fun k d e => by
 obtain ⟨x,e1,e2⟩:=h.at_ k d e
 exact ⟨x,e1,s _ _ e2⟩⟩
theorem HTs.chgL (h : HTs f H vs xs) (hl : H l = some (.lst us)) (c : Chg l H H') : HTs f H' vs xs:=⟨h.len,fun k d e => by
 obtain ⟨x,e1,e2⟩:=h.at_ k d e
 exact ⟨x,e1,c _ _ (ne_of e2 hl (by intro z; cases z)) e2⟩⟩
theorem HTs.snoc {x : α} {p : Addr} (h : HTs f H vs xs) (hx : H p = some (.tup (f x))) : HTs f H (vs ++ [.ref p]) (xs ++ [x]):=by
 refine ⟨by simp [h.len],fun k e he => ?_⟩
 rcases get_snoc he with ⟨hk,z⟩ | ⟨hk,rfl⟩
 ·obtain ⟨y,e1,e2⟩:=h.at_ k e z
  exact ⟨y,by rw [List.getElem?_append_left (by rw [h.len]; exact hk)]; exact e1,e2⟩
 ·refine ⟨p,?_,hx⟩
  rw [List.getElem?_append_right (by rw [h.len]; omega),h.len,hk,Nat.sub_self]
  rfl
theorem hts_nil : HTs f H [] []:=⟨rfl,fun k d h => by simp at h⟩
end
structure HRs (H : Hp) (ex : List Addr) (vs : List V) (rs : List (List Int)) : Prop where
 len : vs.length = rs.length
 at_ : ∀ (k : Nat) (r : List Int),rs[k]? = some r -> ∃ p : Addr,vs[k]? = some (.ref p) /\ H p = some (.lst (r.map V.int)) /\ ∀ e ∈ ex,p ≠ e
section
variable {H H' : Hp} {ex : List Addr} {vs : List V} {rs : List (List Int)} {l : Addr}
end
end L2
set_option Elab.async false
set_option linter.all false
set_option maxRecDepth 100000
set_option maxHeartbeats 1000000
namespace L2
open PySem PySem.Spec PyProof.Rows
section
variable {X : Cx}
end
end L2
set_option Elab.async false
set_option linter.all false
set_option maxRecDepth 100000
set_option maxHeartbeats 1000000
namespace L2
open PySem PySem.Spec
theorem Chg.updN {p q : Addr} {H H' : Hp} {o : HO} (c : Chg p H H') (h : H q = none) : Chg p H (L2.upd H' q o):=fun b u n e => by rw [upd_ne (ne_of_none e h)]; exact c b u n e
section
variable {K : PySem.W.Frag} {σ : St} {H : Hp} {Q : VK} {cs : List Nat} {te : TE}
end
def unitRow (n i : Nat) : List Int:=(List.range n).map fun k => if k = i then 1 else 0
end L2
set_option Elab.async false
set_option linter.all false
set_option maxRecDepth 100000
set_option maxHeartbeats 1000000
namespace L2
open PySem PySem.Spec
theorem map_at {ns : List Int} {i : Nat} {x : V} (h : (ns.map V.int)[i]? = some x) : ∃ n,ns[i]? = some n /\ x = V.int n:=by
 rw [List.getElem?_map] at h
 cases e : ns[i]? with
 | none => rw [e] at h; cases h
 | some n => rw [e] at h; exact ⟨n,rfl,(Option.some.inj h).symm⟩
end L2
set_option Elab.async false
set_option linter.all false
set_option maxRecDepth 100000
set_option maxHeartbeats 1000000
namespace L2
open PySem PySem.Spec
def sgW (w : Str) : Int:=if w = "less" then -1 else 1
inductive Rch (ins : Nat) (ds : List Wd) (gs : List Go) : Nat -> Prop
 | root {g : Go} : g ∈ gs -> g.sg ≠ 0 -> Rch ins ds gs g.th
 | fst {k : Nat} {d : Wd} : ds[k]? = some d -> Rch ins ds gs (ins + k) -> Rch ins ds gs d.a
 | snd {k : Nat} {d : Wd} : ds[k]? = some d -> Rch ins ds gs (ins + k) -> Rch ins ds gs d.b
end L2
set_option Elab.async false
set_option linter.all false
set_option maxRecDepth 100000
set_option maxHeartbeats 1000000
namespace L2
open PySem PySem.Spec
section
variable {H : Hp} {Q : VK}
theorem w_pop {l : Addr} : rPop (.ref l) [] H Q = ∃ xs y,H l = some (.lst xs) /\ xs[xs.length - 1]? = some y /\ Q y (upd H l (.lst xs.dropLast)) :=
 propext ⟨fun ⟨l',xs,y,e,_,h,g,q⟩ => by cases e; exact ⟨xs,y,h,g,q⟩,fun ⟨xs,y,h,g,q⟩ => ⟨l,xs,y,rfl,rfl,h,g,q⟩⟩
theorem w_extend {l b : Addr} : rExtend (.ref l) [.ref b] H Q = ∃ xs zs,H l = some (.lst xs) /\ H b = some (.lst zs) /\ xs.length + zs.length <= sizeLine /\ Q .non (upd H l (.lst (xs ++ zs))) :=
 propext ⟨fun ⟨l',b',xs,zs,e,e2,h⟩ => by cases e; cases e2; exact ⟨xs,zs,h⟩,fun ⟨xs,zs,h⟩ => ⟨l,b,xs,zs,rfl,rfl,h⟩⟩
theorem w_reverse {l : Addr} : rReverse (.ref l) [] H Q = ∃ xs,H l = some (.lst xs) /\ Q .non (upd H l (.lst xs.reverse)) :=
 propext ⟨fun ⟨l',xs,e,_,h⟩ => by cases e; exact ⟨xs,h⟩,fun ⟨xs,h⟩ => ⟨l,xs,rfl,rfl,h⟩⟩
theorem w_clear {l : Addr} : rClear (.ref l) [] H Q = ∃ xs,H l = some (.lst xs) /\ Q .non (upd H l (.lst [])) :=
 propext ⟨fun ⟨l',xs,e,_,h⟩ => by cases e; exact ⟨xs,h⟩,fun ⟨xs,h⟩ => ⟨l,xs,rfl,rfl,h⟩⟩
theorem w_cat {l b : Addr} : rCat (.ref l) (.ref b) H Q = ∃ xs zs,H l = some (.lst xs) /\ H b = some (.lst zs) /\ xs.length + zs.length <= sizeLine /\ ∀ p,H p = none -> Q (.ref p) (upd H p (.lst (xs ++ zs))) :=
 propext ⟨fun ⟨l',b',xs,zs,e,e2,h⟩ => by cases e; cases e2; exact ⟨xs,zs,h⟩,fun ⟨xs,zs,h⟩ => ⟨l,b,xs,zs,rfl,rfl,h⟩⟩
end
section
variable {X : Cx}
theorem op_inK (K : PySem.W.Frag) (h : X.K = K:=by rfl) : OpR X (compareOp .In) (rIn K false):=by subst h; exact op_in_seq
theorem op_notInK (K : PySem.W.Frag) (h : X.K = K:=by rfl) : OpR X (compareOp .NotIn) (rIn K true):=by subst h; exact op_notIn_seq
theorem call_tupleK (K : PySem.W.Frag) (h : X.K = K:=by rfl) : CallR X (.type "tuple") (fun xs H Q => ∃ p ys,xs = [.ref p] /\ ((SqL K H p ys /\ ∀ l,H l = none -> Q (.ref l) (upd H l (.tup ys))) \/ (SqT K H p ys /\ Q (.ref p) H))):=by subst h; exact call_tuple_of
end
section
variable {K : PySem.W.Frag} {σ : St} {H : Hp} {Q : VK} {cs : List Nat} {tt : TT} {te : TE}
end
def fr (ms : List Nat) : Nat -> Nat
 | 0 => 0
 | n + 1 => (if n ∈ ms then 0 else 1) + fr ms n
theorem ukv_len (us : List Int) : (ukv us).length = us.length:=by unfold ukv; rw [List.length_map]
end L2
set_option Elab.async false
set_option linter.all false
set_option maxRecDepth 100000
set_option maxHeartbeats 1000000
namespace L2
open PySem PySem.Spec PyProof.Rows
section
variable {prog : Program} {w : World} {A : Around} {E : Value -> Shared -> Prop} {s : Shared}
end
section
variable {prog : Program} {w : World} {A : Around} {s : Shared} {R : Result -> Shared -> Prop} {xs ys : Array Value} {z TI TO i1 i2 l1 l2 S lo : Addr}
end
section
variable {prog : Program} {w : World} {A : Around} {E : Value -> Shared -> Prop} {s : Shared} {xs ys : Array Value} {z TI TO i1 i2 l1 l2 : Addr}
end
def tLZ (K : PySem.W.Frag) (ta : TA) : TE:=fun σ H Q => ta σ H fun vs H1 => ∃ a b us ws,vs = [.ref a,.ref b] /\ SqL K H1 a us /\ SqL K H1 b ws /\ ws.length = us.length /\ us.length <= 1000 /\
 ∀ l zs H',H1 l = none -> Same H1 H' -> H' l = some (.lst zs) -> zs.length = us.length -> (∀ (k : Nat) (x y : V),us[k]? = some x -> ws[k]? = some y -> ∃ t : Addr,zs[k]? = some (.ref t) /\ H' t = some (.tup [x,y])) -> Q (.ref l) H'
theorem w_LZ {K : PySem.W.Frag} {ta : TA} {σ : St} {H : Hp} {Q : VK} : tLZ K ta σ H Q = (ta σ H fun vs H1 => ∃ a b us ws,vs = [.ref a,.ref b] /\ SqL K H1 a us /\ SqL K H1 b ws /\ ws.length = us.length /\ us.length <= 1000 /\
 ∀ l zs H',H1 l = none -> Same H1 H' -> H' l = some (.lst zs) -> zs.length = us.length -> (∀ (k : Nat) (x y : V),us[k]? = some x -> ws[k]? = some y -> ∃ t : Addr,zs[k]? = some (.ref t) /\ H' t = some (.tup [x,y])) -> Q (.ref l) H'):=rfl
theorem vals_refs : ∀ (as : List Addr),Vals (as.map V.ref) (as.map Value.ref)
 | [] => .nil
 | a :: r => .cons rfl (vals_refs r)
end L2
set_option Elab.async false
set_option linter.all false
set_option maxRecDepth 100000
set_option maxHeartbeats 1000000
namespace L2
open PySem PySem.Spec
def rowD (rs : List (List Int)) (d : Wd) : List Int:=List.zipWith (fun x y => mvI d.s x + sgW d.w * mvI d.t y) (rs.getD d.a []) (rs.getD d.b [])
def rowsW (ins : Nat) (ds : List Wd) : List (List Int):=ds.foldl (fun rs d => rs ++ [rowD rs d]) ((List.range ins).map (unitRow ins))
theorem getD_of {α : Type} {xs : List α} {k : Nat} {x d : α} (h : xs[k]? = some x) : xs.getD k d = x:=by rw [List.getD_eq_getElem?_getD,h]; rfl
section
variable {K : PySem.W.Frag} {σ : St} {H : Hp} {Q : VK} {cs : List Nat} {te : TE}
end
theorem mvI_up {s n : Int} (h : 0 <= s) : mvI s n = n * 2 ^ s.toNat:=by
 unfold mvI
 rw [if_neg (by omega)]
 by_cases z : 0 > 0 - s
 ·rw [if_pos z]; simp
 ·rw [if_neg z,show s = 0 by omega]; simp
theorem mvI_down {s n : Int} (h : s < 0) : mvI s n = n / 2 ^ (-s).toNat:=by
 unfold mvI
 rw [if_pos (by omega),if_neg (by omega),show (0 - s) = -s by omega]
 simp
end L2
set_option Elab.async false
set_option linter.all false
set_option maxRecDepth 100000
set_option maxHeartbeats 1000000
namespace L2
open PySem PySem.Spec
def iT (r : List Int) : List V:=r.map V.int
section
variable {K : PySem.W.Frag} {σ : St} {H : Hp} {Q : VK} {cs : List Nat} {te : TE}
end
end L2
set_option Elab.async false
set_option linter.all false
set_option maxRecDepth 100000
set_option maxHeartbeats 1000000
namespace L2
open PySem PySem.Spec
end L2
set_option Elab.async false
set_option linter.all false
set_option maxRecDepth 100000
set_option maxHeartbeats 1000000
namespace L2
open PySem PySem.Spec
section
variable {α : Type} {f : α -> List V} {K : PySem.W.Frag} {H : Hp} {l l' : Addr} {ys ys' : List V} {xs : List α} {Q : VK}
end
end L2
set_option Elab.async false
set_option linter.all false
set_option maxRecDepth 100000
set_option maxHeartbeats 1000000
namespace L2
open PySem PySem.Spec PyProof.Rows
def tLR (ta : TA) : TE:=fun σ H Q => ta σ H fun vs H1 => ∃ j : Nat,vs = [.int (j : Int)] /\ j <= 1000 /\ ∀ l H',H1 l = none -> Same H1 H' -> H' l = some (.lst (rngV 0 j)) -> Q (.ref l) H'
theorem w_LR {ta : TA} {σ : St} {H : Hp} {Q : VK} : tLR ta σ H Q = (ta σ H fun vs H1 => ∃ j : Nat,vs = [.int (j : Int)] /\ j <= 1000 /\ ∀ l H',H1 l = none -> Same H1 H' -> H' l = some (.lst (rngV 0 j)) -> Q (.ref l) H'):=rfl
def iRngD (ta : TA) : TI:=fun σ H R => ta σ H fun vs H1 => ∃ i : Int,vs = [.int i,.int (-1),.int (-1)] /\ (-1 <= i /\ i < 2 ^ 31) /\ R (Itr3 i (-1) (i + 1).toNat) H1
theorem w_forD {σ : St} {H : Hp} {D : Ends} {g : TG} {tb : TS} {ta : TA} : tFor (iRngD ta) g tb D σ H = (ta σ H fun vs H1 => ∃ i : Int,vs = [.int i,.int (-1),.int (-1)] /\ (-1 <= i /\ i < 2 ^ 31) /\ ForR3 i (-1) (i + 1).toNat g tb D σ H1):=rfl
section
variable {K : PySem.W.Frag} {σ : St} {H : Hp} {Q : VK} {cs : List Nat} {te : TE}
end
end L2
set_option Elab.async false
set_option linter.all false
set_option maxRecDepth 100000
set_option maxHeartbeats 1000000
namespace L2
open PySem PySem.Spec PyProof.Rows
section
variable {prog : Program} {w : World} {A : Around} {E : Value -> Shared -> Prop} {s : Shared}
end
section
variable {prog : Program} {w : World} {A : Around} {E : Value -> Shared -> Prop} {s : Shared}
end
def Itzt (K : PySem.W.Frag) (a b : Addr) : It :=
  ⟨fun i H => ∃ xs ys, SqT K H a xs ∧ SqT K H b ys ∧ i < xs.length ∧ i < ys.length,
   fun i H x H' => ∃ T u v, x = .ref T ∧ H T = none ∧ H' = upd H T (.tup [u, v]) ∧ (∀ xs, SqT K H a xs → xs[i]? = some u) ∧ (∀ ys, SqT K H b ys → ys[i]? = some v),
   fun i H => ∃ xs ys, SqT K H a xs ∧ SqT K H b ys ∧ (xs.length ≤ i ∨ ys.length ≤ i)⟩
def iZip2 (K : PySem.W.Frag) (ta : TA) : TI:=fun σ H R => ta σ H fun vs H1 => ∃ a b xs ys,vs = [.ref a,.ref b] /\ ((SqL K H1 a xs /\ SqL K H1 b ys /\ R (Itz K a b) H1) \/ (SqT K H1 a xs /\ SqT K H1 b ys /\ R (Itzt K a b) H1))
theorem w_compZ2 {K : PySem.W.Frag} {σ : St} {H : Hp} {Q : VK} {ta : TA} {nt : Nat} {cs : List Nat} {g : TG} {tt : TT} {te : TE} : tComp (iZip2 K ta) nt cs g tt te σ H Q = (ta σ H fun vs H1 => ∃ a b xs ys,vs = [.ref a,.ref b] /\ ((SqL K H1 a xs /\ SqL K H1 b ys /\ CompIt (Itz K a b) nt cs g tt te σ H1 Q) \/ (SqT K H1 a xs /\ SqT K H1 b ys /\ CompIt (Itzt K a b) nt cs g tt te σ H1 Q))):=rfl
end L2
set_option Elab.async false
set_option linter.all false
set_option maxRecDepth 100000
set_option maxHeartbeats 1000000
namespace L2
open PySem PySem.Spec PyProof.Rows
structure Gt (ins : Nat) (ds : List Wd) (gs : List Go) (i : Nat) (ms : List Nat) : Prop where
 sd : ∀ x ∈ ms,Rch ins ds gs x
 rt : ∀ g ∈ gs,g.sg ≠ 0 -> g.th ∈ ms
 cl : ∀ k d,ds[k]? = some d -> ds.length <= k + i -> ins + k ∈ ms -> d.a ∈ ms /\ d.b ∈ ms
 ln : ms.length <= gs.length + 2 * i
def kp (bs : List Bool) (ins j : Nat) : Prop:=j < ins \/ bs[j]? = some true
instance (bs : List Bool) (ins j : Nat) : Decidable (kp bs ins j):=by unfold kp; infer_instance
section
variable {ins : Nat} {ds : List Wd} {gs : List Go} {bs : List Bool}
end
section
variable {K : PySem.W.Frag} {σ : St} {H : Hp} {Q : VK} {cs : List Nat} {te : TE}
theorem isI_ss {x : Str} : rIsI K [.str x,.ty "str"] H Q = Q (.bl true) H:=isI_mk (.str x) (fun _ h => by cases h; rfl) (kit_same _)
end
end L2
set_option Elab.async false
set_option linter.all false
set_option maxRecDepth 100000
set_option maxHeartbeats 1000000
namespace L2
open PySem PySem.Spec PyProof.Rows
def TrX (h : Heap) (e : Addr) (C : Value) (d : Option Addr) (T : Addr) : Prop :=
 ∃ oe vs oT ts,h.get? e = some oe /\ oe.cls = C /\ oe.dict = d /\ oe.data = .fields vs /\ vs[1]? = some (.ref T) /\ T ≠ e /\ h.get? T = some oT /\ oT.data = .fields ts /\ ts[3]? = some .none
def NwX (h : Heap) (e : Addr) (C : Value) (d : Option Addr) : Prop:=∃ oe vs,h.get? e = some oe /\ oe.cls = C /\ oe.dict = d /\ oe.data = .fields vs /\ vs[1]? = some .none
structure Lv (fr : List Addr) (e : Addr) (C : Value) (d : Option Addr) (T : Option Addr) (h h' : Heap) : Prop where
 keep : ∀ b o,b ∉ fr -> b ≠ e -> some b ≠ T -> h.get? b = some o -> h'.get? b = some o
 slot : ∀ b o,b ∈ fr -> h.get? b = some o -> ∃ sl,h'.get? b = some { o with slots:=sl }
 exc : TrX h' e C d h.objs.size
section
variable {M : Model} {A : Around} {E : Value -> Shared -> Prop} {s : Shared} {base : Heap} {env : Env} {outer : List Env} {L e : Addr} {oe : Obj} {vs : Array Value} {Q : Unit -> Shared -> Prop}
theorem lv_entry {head : Value} {hadNext : Bool} (hfr : A.frames = some (env :: outer)) (hl : s.heap.FunFrames base (env :: outer)) (hf : env.frame = some L)
  (he : s.heap.get? e = some oe) (hd : oe.data = .fields vs) (hsz : 1 < vs.size)
  (h : ∀ h',Lv ((env :: outer).filterMap (·.frame)) e oe.cls oe.dict none s.heap h' -> Q () { s with heap:=h' }) :
  wpAny M A (do let a ← frameOf env; let pl ← entryPlaceOf L hadNext; let b ← EntryCells.newEntry head a .none (rawInt L) .none pl; setField (.ref e) 1 b) (fun _ s' => wpAny M A (setFlight (.ref e) none) Q E s') E s:=by
 have hene : e ∉ (env :: outer).filterMap (·.frame):=fun hm => by
  obtain ⟨_,o,ho,hnf⟩:=hl.mem hm
  rw [he] at ho; injection ho with ho; subst ho; exact hnf vs hd
 refine wpAny_bind (wpAny_frameOf_fun hfr hl hf fun h1 s1 => ?_)
 refine wpAny_bind (wpAny_entryPlaceOf fun pl hpl => ?_)
 unfold EntryCells.newEntry newFields
 refine wpAny_bind (wpAny_newObj_type ?_ (hpl.sizeOk5 _ _ _ _ _))
 have e1 : h1.get? e = some oe:=(s1.2.1 e hene).trans he
 generalize hob : ({ cls:=.type "traceback",dict:=none,data:=.fields ([head,.ref L,.none,rawInt L,.none] ++ (if pl.isEmpty then List.replicate 6 Value.none else pl)).toArray } : Obj) = ob
 have e2:=Heap.get?_push_of_some (h:=h1) ob e1
 refine wpAny_setField e2 hd hsz ?_
 have hTe : h1.objs.size ≠ e:=Nat.ne_of_gt (Heap.lt_size e1)
 have d3:=Obj.data_mapFields hd (·.setIfInBounds 1 (Value.ref h1.objs.size))
 have e3:=Heap.get?_update_self (Obj.mapFields (·.setIfInBounds 1 (Value.ref h1.objs.size))) e2 (Obj.isFreed_of_fields d3)
 have hobd : ob.data = .fields ([head,.ref L,.none,rawInt L,.none] ++ (if pl.isEmpty then List.replicate 6 Value.none else pl)).toArray:=by rw [← hob]
 have T3:=(Heap.get?_update_other (h1.push ob) (Obj.mapFields (·.setIfInBounds 1 (Value.ref h1.objs.size))) (Ne.symm hTe)).trans (Heap.get?_push_size h1 (by rw [← hob]; rfl))
 unfold setFlight
 refine wpAny_bind (wpAny_field e3 d3 (x:=.ref h1.objs.size) (by simp [hsz]) ?_)
 rw [if_pos (show (Value.ref h1.objs.size != Value.none) = true from by simp)]
 refine wpAny_setField T3 hobd (by simp only [List.size_toArray,List.length_append,List.length_cons,List.length_nil] <;> omega) (h _ ?_)
 have keep : ∀ b o,b ≠ e -> h1.get? b = some o -> (((h1.push ob).update e (Obj.mapFields (·.setIfInBounds 1 (Value.ref h1.objs.size)))).update h1.objs.size (Obj.mapFields (·.setIfInBounds 3 ((none : Option Addr).elim Value.none fun f => rawInt f)))).get? b = some o:=fun b o hbe hb => by
  have hbT : h1.objs.size ≠ b:=Nat.ne_of_gt (Heap.lt_size hb)
  rw [Heap.get?_update_other _ _ hbT,Heap.get?_update_other _ _ (Ne.symm hbe)]
  exact Heap.get?_push_of_some _ hb
 refine ⟨fun b o hb hbe _ hg => keep b o hbe ((s1.2.1 b hb).trans hg),fun b o hb hg => ?_,?_⟩
 ·obtain ⟨sl,hs⟩:=s1.2.2 b o hg
  exact ⟨sl,keep b _ (fun z => hene (z ▸ hb)) hs⟩
 ·rw [← s1.1]
  refine ⟨_,_,_,_,?_,Obj.cls_mapFields _ _,?_,d3,by simp [hsz],hTe,Heap.get?_update_self _ T3 (Obj.isFreed_of_fields (Obj.data_mapFields hobd _)),Obj.data_mapFields hobd _,by first | (simp; done) | (rcases hpl with rfl | ⟨_,_,_,_,_,_,_,rfl⟩ <;> simp)⟩
  ·rw [Heap.get?_update_other _ _ hTe]; exact e3
  ·obtain ⟨oc,od,dt,sl⟩:=oe
   cases hd
   rfl
theorem lv_first {C : Value} {d : Option Addr} (hfr : A.frames = some (env :: outer)) (hl : s.heap.FunFrames base (env :: outer)) (hf : env.frame = some L) (he : NwX s.heap e C d)
  (h : ∀ h',Lv ((env :: outer).filterMap (·.frame)) e C d none s.heap h' -> Q () { s with heap:=h' }) : wpAny M A (leaving env (.ref e)) Q E s:=by
 obtain ⟨oe,vs,he,rfl,rfl,hd,h1⟩:=he
 unfold leaving noteFrame
 simp only [hf]
 refine wpAny_bind (wpAny_bind (wpAny_field he hd h1 ?_))
 rw [if_neg (by decide)]
 exact lv_entry hfr hl hf he hd (Array.getElem?_eq_some_iff.mp h1).1 h
end
def CXe (P : Program) (w : World) (base : Heap) : CXT:=fun outer H s E e s' => ∃ (x T : Addr) (C : Value) (d : Option Addr) (H' : Hp),e = .ref x /\ s'.os = s.os /\ AllBare s'.gens /\ Un (frs outer) [] H H' s.heap s'.heap /\ HOk P w H' s'.heap /\
 TrX s'.heap x C d T /\ s.heap.get? x = none /\ s.heap.get? T = none /\ H' x = none /\ H' T = none /\ E C d H'
def Raises (X : Cx) (E : XK) : Prop:=∀ (pins : List (Addr × Obj)) (σ : St) (H : Hp) (s : Shared) (e : Addr) (C : Value) (d : Option Addr),Inv X pins σ H s -> NwX s.heap e C d -> H e = none -> X.s₀.heap.get? e = none -> E C d H -> X.xe (.ref e) s
section
variable {P : Program} {w : World} {K : PySem.W.Frag} {mg : Str -> Option Value} {base : Heap} {N : List Str} {qual : Str} {scope : Scope} {f : Addr} {cd : Value} {A : Around} {outer : List Env} {s : Shared} {H : Hp} {E : XK}
theorem leave_ok {pins : List (Addr × Obj)} {σ : St} {H' : Hp} {s' : Shared} {h' : Heap} {x : Addr} {C : Value} {d : Option Addr} {To : Option Addr}
  (I : Inv (cxOf (CXe P w base) P w K mg base N qual scope f cd A outer s H E) pins σ H' s') (l : Lv ((envOfC qual scope s.heap.objs.size f cd :: outer).filterMap (·.frame)) x C d To s'.heap h')
  (hx : s.heap.get? x = none) (hn : H' x = none) (hT : ∀ T,To = some T -> s.heap.get? T = none /\ H' T = none) (he : E C d H') : CXe P w base outer H s E (.ref x) { s' with heap:=h' }:=by
 have st : (cxOf (CXe P w base) P w K mg base N qual scope f cd A outer s H E).stack = envOfC qual scope s.heap.objs.size f cd :: outer:=rfl
 have inS : ∀ b,b ∈ (envOfC qual scope s.heap.objs.size f cd :: outer).filterMap (·.frame) -> b = s.heap.objs.size \/ b ∈ frs outer:=fun b hb => by
  have:=I.stkSub b hb
  exact List.mem_cons.mp this
 have oldS : ∀ b o,s.heap.get? b = some o -> b ∉ frs outer -> b ∉ (envOfC qual scope s.heap.objs.size f cd :: outer).filterMap (·.frame):=fun b o e hb z => by
  rcases inS b z with q | q
  ·exact absurd (Heap.lt_size e) (by rw [q]; exact Nat.lt_irrefl _)
  ·exact hb q
 have ltx : ∀ b o,s.heap.get? b = some o -> b ≠ x:=fun b o e z => by rw [z,hx] at e; cases e
 have ltT : ∀ b o,s.heap.get? b = some o -> some b ≠ To:=fun b o e z => by rw [(hT b z.symm).1] at e; cases e
 have sub : ∀ b,b ∈ frs outer -> b ∈ (envOfC qual scope s.heap.objs.size f cd :: outer).filterMap (·.frame):=fun b hb => by
  rw [List.filterMap_cons]
  split
  ·exact hb
  ·exact List.mem_cons_of_mem _ hb
 refine ⟨x,s'.heap.objs.size,C,d,H',rfl,I.os,I.bare,⟨fun b o e n hb hx' => ?_,fun b o e n hb hx' => ?_,fun b o e n hx' => I.base.free b o e n hx',fun b o e hx' => ?_,I.base.tups,I.base.frzs,I.base.tbls⟩,fun b u q => ?_,l.exc,hx,Heap.get?_none_of_le I.sz,hn,I.hok.fresh (Nat.le_refl _),he⟩
 ·exact l.keep b o (oldS b o e hb) (ltx b o e) (ltT b o e) (I.base.keep b o e n hb hx')
 ·obtain ⟨sl,e1⟩:=I.base.slot b o e n hb hx'
  obtain ⟨sl2,e2⟩:=l.slot b _ (sub b hb) e1
  exact ⟨sl2,e2⟩
 ·obtain ⟨o',e1⟩:=I.base.there b o e hx'
  by_cases hb : b ∈ (envOfC qual scope s.heap.objs.size f cd :: outer).filterMap (·.frame)
  ·obtain ⟨sl,e2⟩:=l.slot b o' hb e1
   exact ⟨_,e2⟩
  ·exact ⟨o',l.keep b o' hb (ltx b o e) (ltT b o e) e1⟩
 ·have trk : ∀ c v,H' c = some v -> c ∉ (envOfC qual scope s.heap.objs.size f cd :: outer).filterMap (·.frame) /\ c ≠ x /\ some c ≠ To:=fun c v e => by
   refine ⟨fun z => ?_,fun z => ?_,fun z => ?_⟩
   ·have:=I.stkFree c z
    rw [e] at this
    cases this
   ·rw [z,hn] at e
    cases e
   ·rw [(hT c z.symm).2] at e
    cases e
  refine (I.hok b u q).stay (fun c v hc e => ?_) (fun _ z => z) fun _ _ z => z
  have tc : ∃ v,H' c = some v:=by
   rcases hc with z | z
   ·rw [z]; exact ⟨_,q⟩
   ·exact ⟨_,z⟩
  obtain ⟨v',hv⟩:=tc
  obtain ⟨n1,n2,n3⟩:=trk c v' hv
  exact l.keep c v n1 n2 n3 e
theorem raises_of : Raises (cxOf (CXe P w base) P w K mg base N qual scope f cd A outer s H E) E:=by
 intro pins σ H' s' e C d I hw hn hs he
 exact lv_first (base:=base) (L:=s.heap.objs.size) I.ok.frames I.stack rfl hw fun h' l => leave_ok I l hs hn (fun T z => by cases z) he
end
structure CalX (P : Program) (w : World) (K : PySem.W.Frag) (mg : Str -> Option Value) (base : Heap) (k : Nat) (x : Str) (ps : List Str) (sp : Sp) : Prop where
 ex : ∃ (f : Addr) (fd : FuncData),FnOk P w K mg base (CXe P w base) k f fd ps sp /\ mg x = some (.ref f) /\ PySem.W.keepIn K (.ref f) = true /\ Binds K fd ps []
section
variable {X : Cx} {k : Nat} {x : Str} {ps : List Str} {sp : Sp} {e : Expr} {es : List Expr} {t : TA} {p pos : Pos} {E : XK}
end
section
variable {P : Program} {w : World} {K : PySem.W.Frag} {mg : Str -> Option Value} {base : Heap}
theorem mkCalX {x qual : Str} {st : Stmt} {N ps : List Str} {k : Nat} {sp : Sp} (T : ∃ (f : Addr) (fd : FuncData),Fun K x qual st f fd /\ mg x = some (.ref f) /\ Binds K fd ps []) (S : FnScope N ps (defScope st)) (len : ∀ vs H Q E,sp vs H Q E -> vs.length = ps.length)
  (hbody : ∀ (f : Addr) (cdv : Value) (A : Around) (outer : List Env) (s : Shared) (H : Hp) (vs : List V) (Q : VK) (E : XK),Room k (A.deeper (envOfC qual (defScope st) s.heap.objs.size f cdv)) -> sp vs H Q E ->
   ∃ t,PSs (cxOf (CXe P w base) P w K mg base N qual (defScope st) f cdv A outer s H E) (defBody st) t /\ t { nx:=fun _ H' => Q .non H',rt:=Q } (start N vs) H) : CalX P w K mg base (k + 1) x ps sp:=by
 obtain ⟨f,fd,F,m,b⟩:=T
 obtain ⟨oc,od,kV,doc,pm,an,cdv,ct,osl,rfl,lk,hcd⟩:=F.ex
 exact ⟨f,_,fn_of lk hcd S len fun A outer s H vs Q E hr hsp => hbody f cdv A outer s H vs Q E hr hsp,m,F.kp,b⟩
end
end L2
set_option Elab.async false
set_option linter.all false
set_option maxRecDepth 100000
set_option maxHeartbeats 1000000
namespace L2
open PySem PySem.Spec PyProof.Rows
theorem exc_obj {K : PySem.W.Frag} {h : Heap} {C : Addr} {bmB : List Value} {newId : String} (X : K.In h) (q : PySem.W.excIn K C bmB newId = true) :
  ∃ bm N nm q bs hdct sn sub ab col dd k0 k1 k2 k3 k5 mN,h.get? C = some (excClassObj nm q C N bs bm hdct sn sub ab col dd k0 k1 k2 k3 k5 newId) /\ h.Ns N mN /\ mN "__init__" = none /\ OwnTail h bmB bm:=by
 unfold PySem.W.excIn at q
 split at q
 ·rename_i dd cd sl ho
  split at q
  ·rename_i C' bm k0 k1 k2 k3 n k5 hm hs
   simp only [Bool.and_eq_true,beq_iff_eq,Bool.not_eq_true'] at q
   obtain ⟨⟨⟨⟨⟨rfl,rfl⟩,hdel⟩,ht⟩,hok⟩,hni⟩:=q
   obtain ⟨nm,bs,mro,ns,qn,hd,sn,sub,ab,col,del⟩:=cd
   dsimp only at hm hdel hok hni
   subst hm hdel
   have hsl : sl = #[k0,k1,k2,k3,some (.builtin n),k5]:=by
    obtain ⟨l⟩:=sl
    simp only at hs
    rw [hs]
   subst hsl
   exact ⟨bm,ns,nm,qn,bs,hd,sn,sub,ab,col,dd,k0,k1,k2,k3,k5,_,X _ _ ho,.of_isNs (PySem.W.isNs_of_in X hok),PySem.W.nsMap_none_of_in X hok hni,PySem.W.tail_of_in X ht⟩
  ·cases q
 ·cases q
theorem ObjOk.there {P : Program} {w : World} {H : Hp} {h : Heap} {a : Addr} {o : HO} (x : ObjOk P w H h a o) : ∃ u,h.get? a = some u:=by
 cases o with
 | lst xs => obtain ⟨_,_,_,_,e⟩:=x; exact ⟨_,e⟩
 | tup xs => obtain ⟨_,_,_,o,e,_⟩:=x; exact ⟨_,e⟩
 | dK kvs => obtain ⟨_,_,_,_,o,_,_,e,_⟩:=x; exact ⟨_,e⟩
 | dT kvs => obtain ⟨_,_,_,_,o,_,_,e,_⟩:=x; exact ⟨_,e⟩
 | set S n => obtain ⟨o,_,_,_,e,_⟩:=x; exact ⟨_,e⟩
 | ins C dx fs => obtain ⟨_,_,_,e,_⟩:=x; exact ⟨_,e⟩
 | own y => obtain ⟨_,e⟩:=x; exact ⟨_,e⟩
 | xd fs => obtain ⟨_,⟨_,_,_,e,_⟩,_⟩:=x; exact ⟨_,e⟩
 | rng lo hi => obtain ⟨_,_,_,e⟩:=x; exact ⟨_,e⟩
 | frz ob u => obtain ⟨e,_⟩:=x; exact ⟨_,e⟩
 | tbl ps => exact ⟨_,show h.get? a = some _ from x⟩
 | met f y => exact ⟨_,show h.get? a = some _ from x⟩
 | ext φ => obtain ⟨_,⟨_,e⟩,_⟩:=x; exact ⟨_,e⟩
theorem hok_none {P : Program} {w : World} {H : Hp} {h : Heap} {a : Addr} (k : HOk P w H h) (n : h.get? a = none) : H a = none:=by
 cases q : H a with
 | none => rfl
 | some o =>
  obtain ⟨u,e⟩:=ObjOk.there (k a o q)
  rw [n] at e
  cases e
def tRaise (E : XK) (C : Addr) (ta : TA) : TS:=fun _ σ H => ta σ H fun vs H1 => vs.length <= sizeLine /\ E (.ref C) none H1
theorem w_raise {E : XK} {C : Addr} {ta : TA} {D : Ends} {σ : St} {H : Hp} : tRaise E C ta D σ H = (ta σ H fun vs H1 => vs.length <= sizeLine /\ E (.ref C) none H1):=rfl
theorem ps_raise {X : Cx} {E : XK} {x : Str} {C : Addr} {bmB : List Value} {newId initId B : String} {np cpos pos : Pos} {e : Expr} {es : List Expr} {ta : TA} (hE : Raises X E) (hq : PySem.W.excIn X.K C bmB newId = true) (FB : ExcBaseFacts B newId initId bmB)
  (hc : X.calm = true) (hex : ∀ b,b ∉ X.ex) (hg : Gl X x) (hm : X.mg x = some (.ref C)) (ha : PA X (e :: es) ta) (hd : (x == ("__debug__" : Str)) = false:=by decide)
  (he : starEach (e :: es) X.env = (false,eval e X.env) :: starEach es X.env:=by rfl) (hpl : (backTo cpos (starEach es X.env)).any (·.1) = false:=by rfl) :
  PS X (.Raise (some (.Call (.Name x np) (e :: es) [] cpos)) none pos) (tRaise E C ta):=by
 intro pins s σ H D I h
 obtain ⟨bm,N,nm,q,bs,hdct,sn,sub,ab,col,dd,k0,k1,k2,k3,k5,mN,hC,hN,hni,T⟩:=exc_obj I.kIn hq
 obtain ⟨bm0,N0,nm0,q0,bs0,hdct0,sn0,sub0,ab0,col0,dd0,k00,k10,k20,k30,k50,mN0,hC0,hN0,hni0,T0⟩:=exc_obj I.ok.mod.kin hq
 have hb0:=hC0
 refine wpAny_Raise_call_subT (C:=C) (nm:=nm0) (q:=q0) (N:=N0) (bs:=bs0) (bm:=bm0) (hdct:=hdct0) (sn:=sn0) (sub:=sub0) (ab:=ab0) (col:=col0) (dd:=dd0) (k0:=k00) (k1:=k10) (k2:=k20) (k3:=k30) (k5:=k50)
  FB (mN:=mN0) (T0.hasType FB.hasBase) (I.ok.hd hc) (by rw [he]; show (false || (backTo cpos (starEach es X.env)).any (·.1)) = false; rw [hpl]; rfl) hni0 (ld_glob I hg hm ⟨rfl,?_⟩ hd)
 have h2:=ha cpos pins s σ H _ I h
 rw [he] at h2 ⊢
 refine Calls.evalArgs_plain (wpAny_mono h2 (fun us s1 h1 => ?_) fun _ _ y => y)
 obtain ⟨vs,H1,I1,rv,hz,hE1⟩:=h1
 refine ⟨rfl,by rw [← rv.length]; exact hz,I1.bk _ _ hC0,hN0.keeps I1.bk,T0.keeps I1.bk,fun h' x' hm' => ?_⟩
 obtain ⟨t,ht,_,_⟩:=hm'.there
 have n0 : X.s₀.heap.get? x' = none:=by
  cases q : X.s₀.heap.get? x' with
  | none => rfl
  | some o =>
   obtain ⟨o',e'⟩:=I1.base.there x' o q (hex x')
   rw [hm'.new] at e'
   cases e'
 exact hE pins σ H1 _ x' (.ref C) none (I1.kept (t':=s1.toks) hm'.keeps) ⟨_,_,ht,rfl,rfl,rfl,rfl⟩ (hok_none I1.hok hm'.new) n0 hE1
section
variable {M : Model} {A : Around} {E : Value -> Shared -> Prop}
end
end L2
set_option Elab.async false
set_option linter.all false
set_option maxRecDepth 100000
set_option maxHeartbeats 1000000
namespace L2
open PySem PySem.Spec PyProof.Rows
def XP (X : Cx) (pins : List (Addr × Obj)) (σ : St) (E : XK) (e : Value) (s' : Shared) : Prop:=∃ (x T : Addr) (C : Value) (d : Option Addr) (H' : Hp),e = .ref x /\ Inv X pins σ H' s' /\ TrX s'.heap x C d T /\
 (X.s₀.heap.get? x = none /\ X.s₀.heap.get? T = none) /\ (∀ p ∈ X.pn ++ pins,p.1 ≠ x /\ p.1 ≠ T) /\ H' x = none /\ H' T = none /\ E C d H'
end L2
set_option Elab.async false
set_option linter.all false
set_option maxRecDepth 100000
set_option maxHeartbeats 1000000
namespace L2
open PySem PySem.Spec PyProof.Rows
end L2
set_option Elab.async false
set_option linter.all false
set_option maxRecDepth 100000
set_option maxHeartbeats 1000000
namespace L2
open PySem PySem.Spec PyProof.Rows
section
variable {prog : Program} {w : World} {A : Around} {E : Value -> Shared -> Prop} {s : Shared} {K : PySem.W.Frag} {x D : Addr} {o : Obj}
end
end L2
set_option Elab.async false
set_option linter.all false
set_option maxRecDepth 100000
set_option maxHeartbeats 1000000
namespace L2
open PySem PySem.Spec PyProof.Rows
theorem CalX.cal {P : Program} {w : World} {K : PySem.W.Frag} {mg : Str -> Option Value} {base : Heap} {k : Nat} {x : Str} {ps : List Str} {sp : Sp} (C : CalX P w K mg base k x ps sp) : Cal P w K mg base k x ps (fun vs H Q _ => sp vs H Q E0):=by
 obtain ⟨f,fd,F,b,c,d⟩:=C.ex
 refine ⟨f,fd,⟨fun vs H Q E h => F.len vs H Q E0 h,fun A outer s H args us vs Q E hr e0 hb r h => codeAny_mono (F.run A outer s H args us vs Q E0 hr e0 hb r h) fun r s' q => ?_⟩,b,c,d⟩
 cases r with
 | error e =>
  obtain ⟨_,_,_,_,_,_,_,_,_,_,_,_,_,_,_,z⟩:=q
  exact z.elim
 | ok fl =>
  cases fl with
  | ret u => exact q
  | next => exact q
  | brk => exact q
  | cont => exact q
end L2
set_option Elab.async false
set_option linter.all false
set_option maxRecDepth 100000
set_option maxHeartbeats 1000000
namespace L2
open PySem PySem.Spec
def PPen (H : Hp) (p a : Addr) (c : Int) : Prop:=∃ t l : Int,H p = some (.lst [.int l,.int t,.ref a]) /\ 0 <= t /\ t <= c /\ 0 <= l
theorem PPen.mono {H : Hp} {p a : Addr} {c d : Int} (h : PPen H p a c) (l : c <= d) : PPen H p a d:=by
 obtain ⟨t,x,e,h0,h1,h2⟩:=h
 exact ⟨t,x,e,h0,by omega,h2⟩
theorem PPen.same {H H' : Hp} {p a : Addr} {c : Int} (h : PPen H p a c) (s : Same H H') : PPen H' p a c:=by
 obtain ⟨t,x,e,r⟩:=h
 exact ⟨t,x,s _ _ e,r⟩
theorem PPen.lst {H : Hp} {p a : Addr} {c : Int} (h : PPen H p a c) : ∃ xs,H p = some (.lst xs):=by
 obtain ⟨t,x,e,r⟩:=h
 exact ⟨_,e⟩
theorem PPen.ne {H : Hp} {p a q : Addr} {c : Int} (h : PPen H p a c) (hq : H q = none) : q ≠ p:=by
 obtain ⟨xs,h⟩:=h.lst
 exact (ne_of_none h hq).symm
theorem PPen.chg {H H' : Hp} {p a q : Addr} {c : Int} (h : PPen H p a c) (n : p ≠ q) (s : Chg q H H') : PPen H' p a c:=by
 obtain ⟨t,x,e,r⟩:=h
 exact ⟨t,x,s _ _ n e,r⟩
theorem ppen_of {H : Hp} {p a : Addr} {t l c : Int} (h0 : 0 <= t) (h1 : t <= c) (h2 : 0 <= l) : PPen (upd H p (.lst [.int l,.int t,.ref a])) p a c:=⟨t,l,upd_same,h0,h1,h2⟩
theorem Scr.ppen {K : PySem.W.Frag} {H H' : Hp} {p a : Addr} {c : Int} {ns : List Int} (h : Scr K H a ns) (hp : PPen H p a c) (s : Chg p H H') : Scr K H' a ns:=by
 obtain ⟨xs,e⟩:=hp.lst
 exact h.chg e s
def spPPen (K : PySem.W.Frag) : Sp:=fun vs H Q _ => ∃ (a : Addr),vs = [.ref a] /\ ∀ p H',H p = none -> Same H H' -> PPen H' p a 0 -> Q (.ref p) H'
def spPick (K : PySem.W.Frag) : Sp:=fun vs H Q _ => ∃ (p a : Addr) (ns : List Int) (m c : Int),vs = [.ref p,.int m] /\ PPen H p a c /\ Scr K H a ns /\ ns.length <= 63 /\ c <= 1000000000 /\ 1 <= m /\ m < 2 ^ 64 /\
 ∀ (r : Int) H',0 <= r -> r < m -> PPen H' p a (c + 1) -> Scr K H' a ns -> Chg p H H' -> Q (.int r) H'
theorem pick_ {K : PySem.W.Frag} {H : Hp} {p a : Addr} {ns : List Int} {m c : Int} {Q : VK} {E : XK} (hP : PPen H p a c) (hS : Scr K H a ns) (h63 : ns.length <= 63) (hc : c <= 1000000000) (h1 : 1 <= m) (h2 : m < 2 ^ 64)
  (q : ∀ (r : Int) H',0 <= r -> r < m -> PPen H' p a (c + 1) -> Scr K H' a ns -> Chg p H H' -> Q (.int r) H') : spPick K [.ref p,.int m] H Q E:=⟨p,a,ns,m,c,rfl,hP,hS,h63,hc,h1,h2,q⟩
end L2
set_option Elab.async false
set_option linter.all false
set_option maxRecDepth 100000
set_option maxHeartbeats 1000000
namespace L2
open PySem PySem.Spec
end L2
set_option Elab.async false
set_option linter.all false
set_option maxRecDepth 100000
set_option maxHeartbeats 1000000
namespace L2
open PySem PySem.Spec
def valD (vs : List Int) (d : Wd) : Int:=mvI d.s (vs.getD d.a 0) + sgW d.w * mvI d.t (vs.getD d.b 0)
def valsW (xs : List Int) (ds : List Wd) : List Int:=ds.foldl (fun vs d => vs ++ [valD vs d]) xs
theorem valsW_snoc (xs : List Int) (ds : List Wd) (d : Wd) : valsW xs (ds ++ [d]) = valsW xs ds ++ [valD (valsW xs ds) d]:=by unfold valsW; rw [List.foldl_append]; rfl
theorem valsW_len (xs : List Int) (ds : List Wd) : (valsW xs ds).length = xs.length + ds.length:=by
 refine snoc_ind (p:=fun ds => (valsW xs ds).length = xs.length + ds.length) rfl (fun ys y ih => ?_) ds
 rw [valsW_snoc,List.length_append,ih]; simp; omega
theorem valsW_pre (xs : List Int) (ds new : List Wd) {k : Nat} {r : Int} (h : (valsW xs ds)[k]? = some r) : (valsW xs (ds ++ new))[k]? = some r:=by
 refine snoc_ind (p:=fun new => (valsW xs (ds ++ new))[k]? = some r) (by rw [List.append_nil]; exact h) (fun ys y ih => ?_) new
 rw [← List.append_assoc,valsW_snoc,List.getElem?_append_left (List.getElem?_eq_some_iff.mp ih).1]
 exact ih
theorem valsW_take {xs : List Int} {ds : List Wd} {i : Nat} {d : Wd} (hd : ds[i]? = some d) : valsW xs (ds.take (i + 1)) = valsW xs (ds.take i) ++ [valD (valsW xs (ds.take i)) d]:=by
 rw [List.take_add_one,hd]
 exact valsW_snoc _ _ _
theorem valsW_takeD {xs : List Int} {ds : List Wd} {i j : Nat} (hi : i <= ds.length) (hj : j < xs.length + i) : (valsW xs (ds.take i)).getD j 0 = (valsW xs ds).getD j 0:=by
 have hl : j < (valsW xs (ds.take i)).length:=by rw [valsW_len,List.length_take]; omega
 have e:=List.getElem?_eq_getElem hl
 have e2:=valsW_pre xs (ds.take i) (ds.drop i) e
 rw [List.take_append_drop] at e2
 rw [getD_of e,getD_of e2]
end L2
set_option Elab.async false
set_option linter.all false
set_option maxRecDepth 100000
set_option maxHeartbeats 1000000
namespace L2
open PySem PySem.Spec
theorem valsW_at {xs : List Int} {ds : List Wd} {j : Nat} (h : j < xs.length + ds.length) : ∃ x,(valsW xs ds)[j]? = some x /\ (valsW xs ds).getD j 0 = x /\ x ∈ valsW xs ds:=by
 have e:=List.getElem?_eq_getElem (l:=valsW xs ds) (i:=j) (by rw [valsW_len]; exact h)
 exact ⟨_,e,getD_of e,List.mem_of_getElem? e⟩
theorem valsW_stay {xs : List Int} {ds : List Wd} {d : Wd} {j : Nat} (h : j < xs.length + ds.length) : (valsW xs (ds ++ [d])).getD j 0 = (valsW xs ds).getD j 0:=by
 obtain ⟨x,e,e2,_⟩:=valsW_at h
 rw [e2,getD_of (valsW_pre xs ds [d] e)]
def coV : V -> Option V:=fun x => match x with
 | .int n => some (.int (coreN n))
 | _ => none
theorem coV_map (xs : List Int) : (xs.map V.int).filterMap coV = (xs.map coreN).map V.int:=by
 rw [List.filterMap_map,List.map_map]
 exact filterMap_some (fun n => V.int (coreN n)) xs
def spCores : Sp:=fun vs H Q _ => ∃ (a : Addr) (xs : List Int),vs = [.ref a] /\ H a = some (.lst (xs.map V.int)) /\ xs.length <= 1000 /\ ∀ l H',H l = none -> Same H H' -> H' l = some (.lst ((xs.map coreN).map V.int)) -> Q (.ref l) H'
end L2
set_option Elab.async false
set_option linter.all false
set_option maxRecDepth 100000
set_option maxHeartbeats 1000000
namespace L2
open PySem PySem.Spec
def outV (vs : List Int) (g : Go) : Int:=g.sg * mvI g.sh (vs.getD g.th 0)
end L2
set_option Elab.async false
set_option linter.all false
set_option maxRecDepth 100000
set_option maxHeartbeats 1000000
namespace L2
open PySem PySem.Spec PyProof PyProof.Rows
section
variable {P : Program} {w : World} {A : Around} {E : Value -> Shared -> Prop} {s : Shared}
end
section
variable {X : Cx}
end
end L2
set_option Elab.async false
set_option linter.all false
set_option maxRecDepth 100000
set_option maxHeartbeats 1000000
namespace L2
open PySem PySem.Spec
def ForZ (K : PySem.W.Frag) (a b : Addr) (g : TG) (tb : TS) (D : Ends) (σ : St) (H : Hp) : Prop:=∃ W : Nat -> Nat -> St -> Hp -> Prop,(∃ m,W 0 m σ H) /\ ∀ i m σ H,W i m σ H ->
 ((Itz K a b).stop i H /\ D.nx σ H) \/ ((Itz K a b).go i H /\ ∃ N : St -> Hp -> Prop,(∀ σ' H',N σ' H' -> ∃ m',m' < m /\ W (i + 1) m' σ' H') /\ ∀ x H',(Itz K a b).yld i H x H' -> g x σ H' fun σ2 H2 => tb { D with nx:=N,ct:=N,bk:=D.nx } σ2 H2)
section
variable {K : PySem.W.Frag} {σ : St} {H : Hp} {D : Ends} {g : TG} {tb : TS} {a b : Addr}
theorem w_forZ {ta : TA} : tFor (iZip K ta) g tb D σ H = (ta σ H fun vs H1 => ∃ a b xs ys,vs = [.ref a,.ref b] /\ SqL K H1 a xs /\ SqL K H1 b ys /\ ForZ K a b g tb D σ H1):=rfl
theorem forZ {xs ys : List V} (hxy : ys.length = xs.length) (Pv : Nat -> St -> Hp -> Prop) (h0 : Pv 0 σ H) (hl : ∀ i σ H,i <= xs.length -> Pv i σ H -> SqL K H a xs /\ SqL K H b ys)
  (hs : ∀ i x y T σ H (N : St -> Hp -> Prop),xs[i]? = some x -> ys[i]? = some y -> H T = none -> Pv i σ H -> (∀ σ' H',Pv (i + 1) σ' H' -> N σ' H') -> g (.ref T) σ (upd H T (.tup [x,y])) fun σ2 H2 => tb { D with nx:=N,ct:=N,bk:=D.nx } σ2 H2)
  (hd : ∀ σ H,Pv xs.length σ H -> D.nx σ H) : ForZ K a b g tb D σ H:=by
 refine ⟨fun i m σ H => m = xs.length - i /\ i <= xs.length /\ Pv i σ H,⟨_,rfl,Nat.zero_le _,h0⟩,?_⟩
 rintro i m σ H ⟨rfl,hi,p⟩
 obtain ⟨q1,q2⟩:=hl i σ H hi p
 by_cases hlt : i < xs.length
 ·refine .inr ⟨⟨xs,ys,q1,q2,hlt,by omega⟩,Pv (i + 1),fun σ' H' p' => ⟨xs.length - (i + 1),by omega,rfl,hlt,p'⟩,fun x H' y => ?_⟩
  obtain ⟨T,u,v,rfl,hT,rfl,e1,e2⟩:=y
  exact hs i u v T σ H (Pv (i + 1)) (e1 _ q1) (e2 _ q2) hT p fun _ _ z => z
 ·have e : i = xs.length:=by omega
  subst e
  exact .inl ⟨⟨xs,ys,q1,q2,.inl (Nat.le_refl _)⟩,hd σ H p⟩
end
section
variable {K : PySem.W.Frag} {σ : St} {H : Hp} {Q : VK} {cs : List Nat} {te : TE}
end
end L2
set_option Elab.async false
set_option linter.all false
set_option maxRecDepth 100000
set_option maxHeartbeats 1000000
namespace L2
open PySem PySem.Spec
section
variable {g : Int -> Int -> Int -> Int -> Int} {z : Int}
end
section
variable {g : Int -> Int -> Int -> Int -> Int} {z : Int}
end
end L2
set_option Elab.async false
set_option linter.all false
set_option maxRecDepth 100000
set_option maxHeartbeats 1000000
namespace L2
open PySem PySem.Spec
end L2
set_option Elab.async false
set_option linter.all false
set_option maxRecDepth 100000
set_option maxHeartbeats 1000000
namespace L2
open PySem PySem.Spec
section
variable {K : PySem.W.Frag} {σ : St} {H : Hp} {Q : VK} {cs : List Nat} {te : TE}
end
end L2
set_option Elab.async false
set_option linter.all false
set_option maxRecDepth 100000
set_option maxHeartbeats 1000000
namespace L2
open PySem PySem.Spec PyProof.Rows
section
variable {prog : Program} {w : World} {A : Around} {E : Value -> Shared -> Prop} {s : Shared}
end
section
variable {prog : Program} {w : World} {A : Around} {E : Value -> Shared -> Prop} {s : Shared}
end
section
variable {K : PySem.W.Frag} {σ : St} {H : Hp} {D : Ends} {g : TG} {tb : TS} {a b c : Addr}
end
end L2
set_option Elab.async false
set_option linter.all false
set_option maxRecDepth 100000
set_option maxHeartbeats 1000000
namespace L2
open PySem PySem.Spec
end L2
set_option Elab.async false
set_option linter.all false
set_option maxRecDepth 100000
set_option maxHeartbeats 1000000
namespace L2
open PySem PySem.Spec PyProof PyProof.Rows
section
variable {prog : Program} {w : World} {A : Around} {E : Value -> Shared -> Prop} {s : Shared}
end
section
variable {prog : Program} {w : World} {A : Around} {E : Value -> Shared -> Prop} {s : Shared}
end
section
variable {K : PySem.W.Frag} {σ : St} {H : Hp} {Q : VK} {cs : List Nat} {te : TE}
end
section
variable {X : Cx}
end
end L2
set_option Elab.async false
set_option linter.all false
set_option maxRecDepth 100000
set_option maxHeartbeats 1000000
namespace L2
open PySem PySem.Spec
def Lies (w x : Int) : Prop:=-(2 ^ (w - 1).toNat) <= x /\ x < 2 ^ (w - 1).toNat
instance (w x : Int) : Decidable (Lies w x):=by unfold Lies; infer_instance
def nz (ns : List Int) : List Int:=ns.filter fun n => decide (n ≠ 0)
end L2
set_option Elab.async false
set_option linter.all false
set_option maxRecDepth 100000
set_option maxHeartbeats 1000000
namespace L2
open PySem PySem.Spec
end L2
set_option Elab.async false
set_option linter.all false
set_option maxRecDepth 100000
set_option maxHeartbeats 1000000
namespace L2
open PySem PySem.Spec
end L2
set_option Elab.async false
set_option linter.all false
set_option maxRecDepth 100000
set_option maxHeartbeats 1000000
namespace L2
open PySem PySem.Spec
theorem seq_in {t u : TS} {D : Ends} {σ : St} {H : Hp} (h : ∀ R : TS,R = u -> tSeq t R D σ H) : tSeq t u D σ H:=h u rfl
theorem seq_inG {g : TG} {x : V} {t u : TS} {D : Ends} {σ : St} {H : Hp} (h : ∀ R : TS,R = u -> g x σ H fun σ2 H2 => tSeq t R D σ2 H2) : g x σ H fun σ2 H2 => tSeq t u D σ2 H2:=h u rfl
theorem seq_out {R u : TS} {D : Ends} {σ : St} {H : Hp} (e : R = u) (h : u D σ H) : R D σ H:=by rw [e]; exact h
end L2
set_option Elab.async false
set_option linter.all false
set_option maxRecDepth 100000
set_option maxHeartbeats 1000000
namespace L2
open PySem PySem.Spec
section
variable {K : PySem.W.Frag} {σ : St} {H : Hp} {Q : VK} {cs : List Nat} {te : TE}
end
end L2
set_option Elab.async false
set_option linter.all false
set_option maxRecDepth 100000
set_option maxHeartbeats 1000000
namespace L2
open PySem PySem.Spec
section
variable {K : PySem.W.Frag} {σ : St} {H : Hp} {Q : VK} {cs : List Nat} {te : TE}
end
end L2
set_option Elab.async false
set_option linter.all false
set_option maxRecDepth 100000
set_option maxHeartbeats 1000000
namespace L2
open PySem PySem.Spec PyProof.Rows
theorem sqT_chg {K : PySem.W.Frag} {H H' : Hp} {l p : Addr} {xs ys : List V} (h : SqT K H p xs) (hl : H l = some (.lst ys)) (C : Chg l H H') : SqT K H' p xs:=by
 rcases h with (h | ⟨o,h⟩) | h
 ·exact .inl (.inl (C _ _ (ne_of h hl (by intro z; cases z)) h))
 ·exact .inl (.inr ⟨o,C _ _ (ne_of h hl (by intro z; cases z)) h⟩)
 ·exact .inr h
end L2
set_option Elab.async false
set_option linter.all false
set_option maxRecDepth 100000
set_option maxHeartbeats 1000000
namespace L2
open PySem PySem.Spec PyProof.Rows
section
variable {H H' : Hp} {x dl gl : Addr} {ins : Nat} {us : List V} {ds : List Wd} {os : List V} {gs : List Go}
end
theorem same_chg {H H1 H2 : Hp} {l : Addr} (n : H l = none) (s : Same H H1) (c : Chg l H1 H2) : Same H H2:=fun b o q => c b o (ne_of_none q n) (s b o q)
section
variable {α : Type} {f : α -> List V} {H0 H H' : Hp} {p dl : Addr} {us : List V} {ds : List α}
theorem Chg.two {H H1 H2 : Hp} {p l : Addr} (c : Chg p H H1) (n : H l = none) (d : Chg l H1 H2) : Chg p H H2:=fun b o hb q => d b o (ne_of_none q n) (c b o hb q)
end
section
variable {H : Hp} {w : Str} {a b d1 g1 d2 g2 : Addr} {i1 i2 : Nat} {u1 u2 : List V} {s1 s2 : List Wd} {o1 o2 : List V} {t1 t2 : List Go} {Q : VK} {E : XK}
end
end L2
set_option Elab.async false
set_option linter.all false
set_option maxRecDepth 100000
set_option maxHeartbeats 1000000
namespace L2
open PySem PySem.Spec PyProof.Rows
theorem mvI_0 (s : Int) : mvI s 0 = 0:=by
 unfold mvI
 simp
section
variable {I ins l m : Nat} {f : Nat -> Nat} {ds0 ds : List Wd} {gs0 gs : List Go}
end
end L2
set_option Elab.async false
set_option linter.all false
set_option maxRecDepth 100000
set_option maxHeartbeats 1000000
namespace L2
open PySem PySem.Spec PyProof.Rows
structure HKs {α : Type} (K : PySem.W.Frag) (f : α -> List V) (H : Hp) (vs : List V) (xs : List α) : Prop where
 len : vs.length = xs.length
 at_ : ∀ (k : Nat) (x : α),xs[k]? = some x -> ∃ p : Addr,vs[k]? = some (.ref p) /\ SqT K H p (f x)
section
variable {α : Type} {K : PySem.W.Frag} {f : α -> List V} {H H' : Hp} {vs us : List V} {xs : List α} {l : Addr}
theorem HKs.same (h : HKs K f H vs xs) (s : Same H H') : HKs K f H' vs xs:=⟨h.len,fun k d e => by
 obtain ⟨x,e1,e2⟩:=h.at_ k d e
 exact ⟨x,e1,s.seqT e2⟩⟩
theorem HKs.chgL (h : HKs K f H vs xs) (hl : H l = some (.lst us)) (c : Chg l H H') : HKs K f H' vs xs:=⟨h.len,fun k d e => by
 obtain ⟨x,e1,e2⟩:=h.at_ k d e
 exact ⟨x,e1,sqT_chg e2 hl c⟩⟩
theorem hks_nil : HKs K f H [] []:=⟨rfl,fun k d h => by simp at h⟩
theorem HKs.snoc {x : α} {p : Addr} (h : HKs K f H vs xs) (hx : SqT K H p (f x)) : HKs K f H (vs ++ [.ref p]) (xs ++ [x]):=by
 refine ⟨by simp [h.len],fun k e he => ?_⟩
 rcases get_snoc he with ⟨hk,z⟩ | ⟨hk,rfl⟩
 ·obtain ⟨y,e1,e2⟩:=h.at_ k e z
  exact ⟨y,by rw [List.getElem?_append_left (by rw [h.len]; exact hk)]; exact e1,e2⟩
 ·refine ⟨p,?_,hx⟩
  rw [List.getElem?_append_right (by rw [h.len]; omega),h.len,hk,Nat.sub_self]
  rfl
end
def sT (n : Nat) : List V:=[.int n,.int 0,.int 1]
end L2
set_option Elab.async false
set_option linter.all false
set_option maxRecDepth 100000
set_option maxHeartbeats 1000000
namespace L2
open PySem PySem.Spec PyProof.Rows
section
variable {X : Cx}
end
section
variable {K : PySem.W.Frag} {σ : St} {H : Hp} {Q : VK} {cs : List Nat} {te : TE}
end
end L2
set_option Elab.async false
set_option linter.all false
set_option maxRecDepth 100000
set_option maxHeartbeats 1000000
namespace L2
open PySem PySem.Spec PyProof.Rows
section
variable {c : Bool} {i1 i2 : Nat} {s1 s2 : List Wd} {t1 t2 : List Go}
end
section
variable {K : PySem.W.Frag} {σ : St} {H : Hp} {Q : VK} {cs : List Nat} {te : TE}
end
end L2
set_option Elab.async false
set_option linter.all false
set_option maxRecDepth 100000
set_option maxHeartbeats 1000000
namespace L2
open PySem PySem.Spec PyProof.Rows
def Rise (xs : Array Nat) : Prop:=∀ i j (hi : i < xs.size) (hj : j < xs.size),i < j -> xs[i] < xs[j]
theorem below_go {xs : Array Nat} (R : Rise xs) (j : Nat) : ∀ (fuel lo hi : Nat),lo <= hi -> hi <= xs.size -> hi - lo <= fuel -> (∀ i (h : i < xs.size),i < lo -> xs[i] < j) -> (∀ i (h : i < xs.size),hi <= i -> j <= xs[i]) ->
  (SetTable.below.go xs j fuel lo hi <= xs.size /\ (∀ i (h : i < xs.size),i < SetTable.below.go xs j fuel lo hi -> xs[i] < j) /\ ∀ i (h : i < xs.size),SetTable.below.go xs j fuel lo hi <= i -> j <= xs[i])
 | 0,lo,hi,h1,h2,h3,h4,h5 => by
  have : lo = hi:=by omega
  subst this
  exact ⟨h2,h4,h5⟩
 | fuel + 1,lo,hi,h1,h2,h3,h4,h5 => by
  unfold SetTable.below.go
  by_cases z : lo < hi
  ·rw [if_pos z]
   have ml : (lo + hi) / 2 < xs.size:=by omega
   have e : xs.getD ((lo + hi) / 2) j = xs[(lo + hi) / 2]:=by simp [ml]
   dsimp only
   rw [e]
   by_cases y : xs[(lo + hi) / 2] < j
   ·rw [if_pos y]
    refine below_go R j fuel _ _ (by omega) h2 (by omega) (fun i hi' hlt => ?_) h5
    by_cases q : i = (lo + hi) / 2
    ·subst q; exact y
    ·exact Nat.lt_trans (R i _ hi' ml (by omega)) y
   ·rw [if_neg y]
    refine below_go R j fuel _ _ (by omega) (by omega) (by omega) h4 (fun i hi' hge => ?_)
    by_cases q : i = (lo + hi) / 2
    ·subst q; omega
    ·have:=R _ i ml hi' (by omega)
     omega
  ·rw [if_neg z]
   have : lo = hi:=by omega
   subst this
   exact ⟨h2,h4,h5⟩
theorem below_ok {xs : Array Nat} (R : Rise xs) (j : Nat) : SetTable.below xs j <= xs.size /\ (∀ i (h : i < xs.size),i < SetTable.below xs j -> xs[i] < j) /\ ∀ i (h : i < xs.size),SetTable.below xs j <= i -> j <= xs[i]:=by
 unfold SetTable.below
 exact below_go R j _ _ _ (by omega) (Nat.le_refl _) (by omega) (fun i _ h => by omega) (fun i _ h => by omega)
theorem insAt_get {α : Type} (xs : Array α) {p : Nat} (x : α) (hp : p <= xs.size) (i : Nat) : (SetTable.insertAt xs p x)[i]? = if i < p then xs[i]? else if i = p then some x else xs[i - 1]?:=by
 rw [← Array.getElem?_toList,SetTable.toList_insertAt]
 have lt : (xs.toList.take p).length = p:=by rw [List.length_take,Array.length_toList]; omega
 by_cases h1 : i < p
 ·rw [if_pos h1,List.getElem?_append_left (by rw [lt]; exact h1),List.getElem?_take_of_lt h1,Array.getElem?_toList]
 ·rw [if_neg h1]
  by_cases h2 : i = p
  ·rw [if_pos h2,List.getElem?_append_right (by rw [lt]; omega),lt,h2,Nat.sub_self]
   rfl
  ·rw [if_neg h2,List.getElem?_append_right (by rw [lt]; omega),lt,show i - p = (i - 1 - p) + 1 by omega,List.getElem?_cons_succ,List.getElem?_drop,Array.getElem?_toList]
   congr 1
   omega
theorem rise_ins {xs : Array Nat} {j : Nat} (R : Rise xs) (hj : xs[SetTable.below xs j]? ≠ some j) : Rise (SetTable.insertAt xs (SetTable.below xs j) j):=by
 obtain ⟨b1,b2,b3⟩:=below_ok R j
 generalize SetTable.below xs j = p at b1 b2 b3 hj
 intro i k hi hk hik
 have ei:=insAt_get xs j b1 i
 have ek:=insAt_get xs j b1 k
 rw [Array.getElem?_eq_getElem hi] at ei
 rw [Array.getElem?_eq_getElem hk] at ek
 generalize (SetTable.insertAt xs p j)[i] = u at ei
 generalize (SetTable.insertAt xs p j)[k] = v at ek
 have get : ∀ {m w : Nat},some w = xs[m]? -> ∃ h : m < xs.size,xs[m] = w:=fun {m w} h => by
  obtain ⟨h1,h2⟩:=Array.getElem?_eq_some_iff.mp h.symm
  exact ⟨h1,h2⟩
 by_cases i1 : i < p
 ·rw [if_pos i1] at ei
  obtain ⟨il,rfl⟩:=get ei
  by_cases k1 : k < p
  ·rw [if_pos k1] at ek
   obtain ⟨kl,rfl⟩:=get ek
   exact R i k il kl hik
  ·rw [if_neg k1] at ek
   by_cases k2 : k = p
   ·rw [if_pos k2] at ek
    cases ek
    exact b2 i il i1
   ·rw [if_neg k2] at ek
    obtain ⟨kl,rfl⟩:=get ek
    exact R i (k - 1) il kl (by omega)
 ·rw [if_neg i1] at ei
  by_cases i2 : i = p
  ·rw [if_pos i2] at ei
   cases ei
   rw [if_neg (by omega),if_neg (by omega)] at ek
   obtain ⟨kl,rfl⟩:=get ek
   have hp : p < xs.size:=by omega
   have h1 : j <= xs[p]:=b3 p hp (Nat.le_refl _)
   have h2 : xs[p] ≠ j:=fun e => hj (by rw [Array.getElem?_eq_getElem hp,e])
   by_cases q : k - 1 = p
   ·simp only [q]; omega
   ·have:=R p (k - 1) hp kl (by omega)
    omega
  ·rw [if_neg i2] at ei
   rw [if_neg (by omega),if_neg (by omega)] at ek
   obtain ⟨il,rfl⟩:=get ei
   obtain ⟨kl,rfl⟩:=get ek
   exact R _ _ il kl (by omega)
theorem rise_list {xs : List Nat} (h : xs.Pairwise (· < ·)) : Rise xs.toArray:=fun i j hi hj hij => by
 simp only [List.getElem_toArray]
 exact List.pairwise_iff_getElem.mp h i j (by simpa using hi) (by simpa using hj) hij
theorem rise_range (n : Nat) : Rise (Array.range n):=fun i j hi hj hij => by
 simp only [Array.getElem_range]
 exact hij
structure TabZ (led : Bool) (t : SetTable) : Prop where
 rise : Rise t.place
 dum : t.dummies = #[]
 led_ : t.led = led
theorem tabZ_fresh (led : Bool) : TabZ led (.fresh 0 0 led):=⟨fun i j hi => by simp [SetTable.fresh] at hi,rfl,rfl⟩
theorem TabZ.stand {led : Bool} {t : SetTable} (h : TabZ led t) (n : Nat) : TabZ led (t.standIn n):=⟨rise_range n,rfl,h.led_⟩
theorem TabZ.orStand {led : Bool} {t : SetTable} (h : TabZ led t) (n : Nat) : TabZ led (t.orStandIn n):=by
 unfold SetTable.orStandIn
 split
 ·exact h
 ·exact h.stand n
theorem has_nil (j : Nat) : SetTable.has #[] j = false:=by
 unfold SetTable.has
 simp
theorem probe_go {led : Bool} {t : SetTable} (h : TabZ led t) (f : Nat -> Int) (x : Int) : ∀ (fuel : Nat) (p : SetTable.Probe) (m : SetTable.Met),p.dummy = none -> SetTable.probe.go t f x fuel p = some m -> (∀ i,(f i == x) = false) -> ∃ j,m = .empty j none /\ t.slot j = .empty
 | 0,p,m,_,e,_ => by cases e
 | fuel + 1,p,m,hd,e,hf => by
  unfold SetTable.probe.go at e
  cases hs : t.slot p.j with
  | empty =>
   rw [hs] at e
   cases e
   exact ⟨p.j,by rw [hd],hs⟩
  | dummy =>
   exfalso
   unfold SetTable.slot at hs
   dsimp only at hs
   split at hs
   ·cases hs
   ·rw [h.dum,has_nil] at hs
    cases hs
  | live i =>
   rw [hs] at e
   dsimp only at e
   rw [hf i] at e
   refine probe_go h f x fuel _ m ?_ e hf
   unfold SetTable.advance
   split
   ·exact hd
   ·exact hd
theorem free_slot {led : Bool} {t : SetTable} (h : TabZ led t) {x : Int} {j : Nat} {b : Bool} (e : t.freeSlot x = some (j,b)) : b = false /\ t.place[SetTable.below t.place j]? ≠ some j:=by
 unfold SetTable.freeSlot at e
 cases hp : t.probe (fun _ => x + 1) x (t.probeStart x) with
 | none => rw [hp] at e; cases e
 | some m =>
  obtain ⟨j',rfl,hs⟩:=probe_go h _ _ _ _ _ rfl hp (fun _ => by simp; omega)
  rw [hp] at e
  cases e
  refine ⟨rfl,fun z => ?_⟩
  unfold SetTable.slot at hs
  dsimp only at hs
  rw [Option.getD_none] at z
  rw [z] at hs
  simp at hs
theorem layNew_z {led : Bool} {t : SetTable} (h : TabZ led t) (es : Array (Int × Value)) (x : Int) (v : Value) : TabZ led (layNew t es x v).2.1:=by
 unfold layNew
 cases hf : t.freeSlot x with
 | none => exact h.stand _
 | some q =>
  obtain ⟨j,b⟩:=q
  obtain ⟨rfl,hj⟩:=free_slot h hf
  have hp : TabZ led (t.put j).1:=by
   refine ⟨rise_ins h.rise hj,?_,h.led_⟩
   show (if SetTable.has t.dummies j = true then _ else t.dummies) = #[]
   rw [h.dum,has_nil]
   rfl
  exact hp.orStand _
theorem rise_live (owner : Array (Option Nat)) (n : Nat) : ((((List.range n).filterMap fun j => (owner.getD j none).map (j,·)).map (·.1))).Pairwise (· < ·):=by
 rw [List.pairwise_map]
 refine List.Pairwise.filterMap _ (R:=(· < ·)) (fun a a' haa b hb b' hb' => ?_) List.pairwise_lt_range
 cases h1 : owner.getD a none with
 | none => rw [h1] at hb; cases hb
 | some u =>
  cases h2 : owner.getD a' none with
  | none => rw [h2] at hb'; cases hb'
  | some v =>
   rw [h1] at hb
   rw [h2] at hb'
   cases hb
   cases hb'
   exact haa
theorem relay_z {led : Bool} {t : SetTable} (h : TabZ led t) (es : Array (Int × Value)) (n : Nat) : TabZ led (relayAll t es n).2.1:=by
 unfold relayAll
 cases hr : t.relaid (es.map (·.1)) n with
 | none => exact h.stand _
 | some q =>
  obtain ⟨t',o⟩:=q
  dsimp only
  split
  ·unfold SetTable.relaid SetTable.laid at hr
   cases hc : SetTable.layClean (SetTable.sizeAbove n - 1) (es.map (·.1)) with
   | none => rw [hc] at hr; cases hr
   | some ow =>
    rw [hc] at hr
    cases hr
    exact ⟨rise_list (rise_live ow _),rfl,h.led_⟩
  ·exact h.stand _
end L2
set_option Elab.async false
set_option linter.all false
set_option maxRecDepth 100000
set_option maxHeartbeats 1000000
namespace L2
open PySem PySem.Spec PyProof.Rows
def keyZ (e : Int × Value) : Int:=match e.2 with
 | .int k _ => k
 | _ => 0
abbrev setObj (es : Array (Int × Value)) (ep : Nat) (t : SetTable) : Obj:={ cls:=.type "set",dict:=none,data:=.set es ep t }
def EntZ (es : List (Int × Value)) : Prop:=∀ e ∈ es,∃ k tk,e = (hashInt k,Value.int k tk)
structure SetO (led : Bool) (es : Array (Int × Value)) (t : SetTable) (ks : List Int) : Prop where
 ent : EntZ es.toList
 perm : (es.toList.map keyZ).Perm ks
 nd : ks.Nodup
 sm : es.size < scanBound
 fit : t.fits es.size = true
 tab : TabZ led t
def SetZ (led : Bool) (h : Heap) (a : Addr) (ks : List Int) : Prop:=∃ es ep t,h.get? a = some (setObj es ep t) /\ SetO led es t ks
theorem EntZ.elems {prog : Program} {w : World} {l : List (Int × Value)} (h : EntZ l) : ElemsOf (intKind prog w) l:=fun e he => by
 obtain ⟨k,tk,rfl⟩:=h e he
 exact ⟨⟨k,intKind_is _ _ _ _,rfl⟩,rfl⟩
theorem isInt_key {e : Int × Value} {k : Int} (h : ∃ k tk,e = (hashInt k,Value.int k tk)) : Value.isInt k e.2 = decide (keyZ e = k):=by
 obtain ⟨k',tk,rfl⟩:=h
 show (k' == k) = decide (k' = k)
 cases hk : decide (k' = k) with
 | true => exact beq_iff_eq.mpr (of_decide_eq_true hk)
 | false => exact beq_eq_false_iff_ne.mpr (of_decide_eq_false hk)
theorem SetO.len {led : Bool} {es : Array (Int × Value)} {t : SetTable} {ks : List Int} (h : SetO led es t ks) : es.size = ks.length:=by
 have:=h.perm.length_eq
 rw [List.length_map,Array.length_toList] at this
 exact this
section
variable {prog : Program} {w : World} {A : Around} {E : Value -> Shared -> Prop} {s : Shared}
theorem put_at {h : Heap} {a : Addr} {es es' : Array (Int × Value)} {ep : Nat} {t t' : SetTable} (ho : h.get? a = some (setObj es ep t)) : (h.update a (Obj.putSet es' t')).get? a = some (setObj es' (ep + 1) t'):=by
 have q:=Heap.get?_update_self (Obj.putSet es' t') ho (by rw [putSet_of es' t' rfl]; rfl)
 rw [putSet_of es' t' rfl] at q
 exact q
theorem tail_z {g : Bool -> Sem Unit} (hg : ∀ (b : Bool) (s₁ : Shared) (Q' : Unit -> Shared -> Prop),Q' () s₁ -> wpAny (model prog w) A (g b) Q' E s₁)
  {led wd : Bool} {a : Addr} {es es1 : Array (Int × Value)} {ep : Nat} {t t2 : SetTable} {ks : List Int} {R : Option Bool -> Shared -> Prop} (ho : s.heap.get? a = some (setObj es ep t)) (Z : SetO led es1 t2 ks)
  (h : ∀ h',Heap.SameBut a s.heap h' -> SetZ led h' a ks -> R (some true) { s with heap:=h' }) :
  wpAny (model prog w) A (do
    storeSet a es1 t2
    if (!wd && t2.tooFull) = true then do
      g (relayAll t2 es1 (SetTable.grown es1.size)).2.2
      storeSet a (relayAll t2 es1 (SetTable.grown es1.size)).1 (relayAll t2 es1 (SetTable.grown es1.size)).2.1
      pure (some true)
     else pure (some true)) R E s:=by
 refine wpAny_bind (wpAny_storeSet_of ho rfl ?_ (fits_of_scanBound Z.sm))
 have o1 : (s.heap.update a (Obj.putSet es1 t2)).get? a = some (setObj es1 (ep + 1) t2):=put_at ho
 have b1:=Heap.SameBut.update s.heap a (Obj.putSet es1 t2)
 split
 ·have z1:=relay_z Z.tab es1 (SetTable.grown es1.size)
  have z2:=relayAll_perm t2 es1 (SetTable.grown es1.size)
  have z3:=relayAll_fits t2 es1 (SetTable.grown es1.size)
  generalize relayAll t2 es1 (SetTable.grown es1.size) = Y at z1 z2 z3 ⊢
  have sz : Y.1.size = es1.size:=by
   have:=z2.length_eq
   rw [Array.length_toList,Array.length_toList] at this
   exact this
  refine wpAny_bind (hg _ _ _ (wpAny_bind (wpAny_storeSet_of o1 rfl ?_ (fits_of_scanBound (by rw [sz]; exact Z.sm)))))
  refine wpAny_pure (h _ (b1.trans (Heap.SameBut.update _ a _)) ⟨Y.1,_,Y.2.1,put_at o1,fun e he => Z.ent e (z2.mem_iff.mp he),(z2.map _).trans Z.perm,Z.nd,by rw [sz]; exact Z.sm,z3,z1⟩)
 ·exact wpAny_pure (h _ b1 ⟨es1,_,t2,o1,Z⟩)
theorem setAdd_z {led : Bool} {a : Addr} {ks : List Int} {k : Int} {tk : Tok} {Q : Bool -> Shared -> Prop} (hS : SetZ led s.heap a ks) (hr : ks.length + 1 < scanBound)
  (h : ∀ (b : Bool) h',Heap.SameBut a s.heap h' -> SetZ led h' a (step_dedup ks k) -> Q b { s with heap:=h' }) : wpAny (model prog w) A (setAddHashed a (.int k tk) (hashInt k)) Q E s:=by
 obtain ⟨es,ep,t,ho,Z⟩:=hS
 have el:=Z.ent.elems (prog:=prog) (w:=w)
 have ln:=Z.len
 have any : ks.any (· == k) = true ↔ ∃ e ∈ es.toList,keyZ e = k:=by
  rw [List.any_eq_true]
  constructor
  ·rintro ⟨x,hx,e⟩
   obtain ⟨y,hy,rfl⟩:=List.mem_map.mp (Z.perm.mem_iff.mpr hx)
   exact ⟨y,hy,beq_iff_eq.mp e⟩
  ·rintro ⟨e,he,rfl⟩
   exact ⟨keyZ e,Z.perm.mem_iff.mp (List.mem_map.mpr ⟨e,he,rfl⟩),beq_self_eq_true _⟩
 unfold setAddHashed setAddHashedIn
 refine wpAny_holding (wpAny_bind (wpAny_setState_of ho rfl Z.fit ?_))
 dsimp only
 rw [byScan_of (x:=.int k tk) rfl Z.sm el]
 simp only [↓reduceIte]
 unfold setAddByScan
 refine wpAny_bind (wpAny_bind (wpAny_rule (wpAny_bind ?_)))
 refine wpAny_setScan_of (knd:=intKind prog w) (k:=k) (intKind_is _ _ _ _) ho rfl Z.fit el ?_
 cases hf : List.findIdx? (fun e => (intKind prog w).is k e.2) es.toList with
 | some j =>
  obtain ⟨hj,pj,_⟩:=List.findIdx?_eq_some_iff_getElem.mp hf
  have hk : keyZ es.toList[j] = k:=by
   have q:=(isInt_key (k:=k) (Z.ent _ (List.getElem_mem hj))).symm.trans pj
   exact of_decide_eq_true q
  have ha : ks.any (· == k) = true:=any.mpr ⟨_,List.getElem_mem hj,hk⟩
  dsimp only
  refine wpAny_pure (wpAny_pure (h false s.heap (Heap.SameBut.refl a s.heap) ⟨es,ep,t,ho,?_⟩))
  unfold step_dedup
  rw [if_pos ha]
  exact Z
 | none =>
  have ha : ¬ ks.any (· == k) = true:=fun z => by
   obtain ⟨e,he,hk⟩:=any.mp z
   have q:=List.findIdx?_eq_none_iff.mp hf e he
   rw [show (intKind prog w).is k e.2 = decide (keyZ e = k) from isInt_key (Z.ent e he),decide_eq_true hk] at q
   cases q
  have hd : step_dedup ks k = ks ++ [k]:=by unfold step_dedup; rw [if_neg ha]
  have n1:=layNew_perm t es (hashInt k) (.int k tk)
  have n2:=layNew_fits t es (hashInt k) (.int k tk)
  have n3:=layNew_z Z.tab es (hashInt k) (.int k tk)
  dsimp only
  generalize layNew t es (hashInt k) (.int k tk) = Y at n1 n2 n3 ⊢
  obtain ⟨es1,t1,wd,gv⟩:=Y
  dsimp only at n1 n2 n3 ⊢
  rw [Array.toList_push] at n1
  have sz : es1.size = es.size + 1:=by
   have:=n1.length_eq
   rw [Array.length_toList,List.length_append,Array.length_toList] at this
   exact this
  have Z1 : SetO led es1 t1 (ks ++ [k]):=by
   refine ⟨fun e he => ?_,?_,?_,by omega,n2,n3⟩
   ·rcases List.mem_append.mp (n1.mem_iff.mp he) with z | z
    ·exact Z.ent e z
    ·exact ⟨k,tk,List.mem_singleton.mp z⟩
   ·refine (n1.map keyZ).trans ?_
    rw [List.map_append]
    exact Z.perm.append_right _
   ·rw [List.nodup_append]
    refine ⟨Z.nd,(by simp),fun x hx y hy e => ha ?_⟩
    rw [List.mem_singleton.mp hy] at e
    subst e
    exact List.any_eq_true.mpr ⟨x,hx,beq_self_eq_true _⟩
  have gw : ∀ (b : Bool) (s₁ : Shared) (Q' : Unit -> Shared -> Prop),Q' () s₁ -> wpAny (model prog w) A (match b with | true => rule "set.scan.the-table-gave-way" | false => pure ()) Q' E s₁:=fun b s₁ Q' q => by
   cases b
   ·exact wpAny_pure q
   ·exact wpAny_rule q
  refine wpAny_bind (gw _ _ _ ?_)
  split
  ·refine wpAny_bind ?_
   rw [hashByValue_scannable 8 (x:=.int k tk) rfl]
   refine wpAny_pure ?_
   refine tail_z gw ho ?_ fun h' sb q => wpAny_pure (h _ h' sb (by rw [hd]; exact q))
   exact Z1
  ·refine wpAny_bind (wpAny_pure ?_)
   refine tail_z gw ho ?_ fun h' sb q => wpAny_pure (h _ h' sb (by rw [hd]; exact q))
   exact Z1
end
end L2
set_option Elab.async false
set_option linter.all false
set_option maxRecDepth 100000
set_option maxHeartbeats 1000000
namespace L2
open PySem PySem.Spec PyProof.Rows
def ledOf (w : World) : Bool:=!w.params.followText "set-order"
theorem SetZ.keep {led : Bool} {h h' : Heap} {a : Addr} {ks : List Int} (z : SetZ led h a ks) (k : ∀ o,h.get? a = some o -> h'.get? a = some o) : SetZ led h' a ks:=by
 obtain ⟨es,ep,t,ho,Z⟩:=z
 exact ⟨es,ep,t,k _ ho,Z⟩
theorem setZ_new {led : Bool} {h : Heap} {a : Addr} (e : h.get? a = some (setObj #[] 0 (.fresh 0 0 led))) : SetZ led h a [] :=
 ⟨#[],0,_,e,fun x hx => (by simp at hx),List.Perm.refl _,List.nodup_nil,by decide,rfl,tabZ_fresh led⟩
theorem dedup_len (ks : List Int) (k : Int) : (step_dedup ks k).length <= ks.length + 1:=by
 unfold step_dedup
 split
 ·omega
 ·rw [List.length_append]; exact Nat.le_refl _
theorem foldl_dedup_len : ∀ (ns ks : List Int),(ns.foldl step_dedup ks).length <= ks.length + ns.length
 | [],ks => Nat.le_refl _
 | n :: ns,ks => by
  have h1:=foldl_dedup_len ns (step_dedup ks n)
  have h2:=dedup_len ks n
  rw [List.foldl_cons,List.length_cons]
  omega
section
variable {prog : Program} {w : World} {A : Around} {E : Value -> Shared -> Prop} {s : Shared}
theorem new_z (a : Value) {Q₁ : Value -> Shared -> Prop} (h : Q₁ (.ref s.heap.objs.size) { s with heap:=s.heap.push (setObj #[] 0 (.fresh 0 0 (ledOf w))) }) :
  codeAny (model prog w) A (.call (.builtin "set.__new__") ⟨[.type "set",a],[]⟩) (wants Q₁ E) s:=by
 refine codeAny_of_tree ?_
 show wpAny _ A.in1 (checkBuiltinCall "set.__new__" ⟨[.type "set",a],[]⟩ >>= fun _ => again (.builtin "set.__new__" ⟨[.type "set",a],[]⟩)) _ _ s
 refine wpAny_bind (wpAny_of_eq (PySem.F.newCall_set_1 a) (wpAny_pure ⟨plainId_quiet PySem.F.plain_set_new _,codeAny_builtin PySem.F.entry_set_new ?_⟩))
 rw [Around.under_plainId PySem.F.plain_set_new _]
 unfold Builtin.«set.__new__» Builtin.Frozenset.newClass
 have hsub:=sub_set_self
 obtain ⟨h0,g,d,tk,os⟩:=s
 dsimp only
 wp_walk
 refine wpAny_askSetting (wpAny_pure ?_)
 dsimp only
 simp only [newObj]
 exact wpAny_bind (wpAny_alloc (wpAny_pure (wpAny_pure h)))
end
section
variable {prog : Program} {w : World} {A : Around} {R : Result -> Shared -> Prop} {I : Addr} {fp wr : List Addr} {G : Array GenState -> Array GenState -> Prop} {P : Nat -> Value -> Prop} {St : Nat -> Shared -> Prop}
theorem loop_z {ns : List Int} (W : WalksS prog w A.in1 I fp wr G ns.length P St) (S : Addr) (hSf : S ∉ fp) (hv : ∀ i v,P i v -> ∃ k t,ns[i]? = some k /\ v = .int k t) {led : Bool} :
  ∀ (m i : Nat) (s : Shared) (ks : List Int),ns.length - i = m -> i <= ns.length -> St i s -> SetZ led s.heap S ks -> ks.length + m + 1 < scanBound ->
   (∀ s',Moved (S :: wr) G s s' -> SetZ led s'.heap S ((ns.drop i).foldl step_dedup ks) -> R (.ok (.ret .none)) s') -> codeAny (model prog w) A (.builtin "set.update.loop" ⟨[.ref S,.ref I],[]⟩) R s:=by
 have hSw : S ∉ wr:=fun h => hSf (W.sub _ h)
 have sub : ∀ b ∈ wr,b ∈ S :: wr:=fun b hb => List.mem_cons_of_mem _ hb
 intro m
 induction m with
 | zero =>
  intro i s ks hm hi st hz hb hR
  have e : i = ns.length:=by omega
  subst e
  refine codeAny_builtin F.entry_set_update_loop ?_
  rw [Around.under_plainId F.plain_set_update_loop _]
  show wpAny _ A.in1 (pyNext (.ref I) >>= _) _ _ s
  refine wpAny_bind (W.done s _ _ st fun s' mv => ?_)
  show wpAny _ A.in1 (ret Value.none) _ _ s'
  refine wpAny_pure (hR s' (mv.mono sub) ?_)
  rw [List.drop_length]
  exact hz.keep fun o e => mv.heap S _ hSw e
 | succ m ih =>
  intro i s ks hm hi st hz hb hR
  have hlt : i < ns.length:=by omega
  refine codeAny_builtin F.entry_set_update_loop ?_
  rw [Around.under_plainId F.plain_set_update_loop _]
  show wpAny _ A.in1 (pyNext (.ref I) >>= _) _ _ s
  refine wpAny_bind (W.item i s _ _ hlt st fun v s' hP st' mv => ?_)
  obtain ⟨k,t,hk,rfl⟩:=hv i v hP
  have hz' : SetZ led s'.heap S ks:=hz.keep fun o e => mv.heap S _ hSw e
  show wpAny _ A.in1 (holding [Value.int k t] (setAdd S (.int k t)) >>= _) _ _ s'
  refine wpAny_bind (wpAny_holding ?_)
  unfold setAdd
  refine wpAny_holding (wpAny_bind ((intKind prog w).pyHash (k:=k) (intKind_is _ _ _ _) ?_))
  refine setAdd_z (s:={ s' with toks:=s'.toks + 1 }) hz' (by omega) fun b h' sb hz2 => ?_
  have dl:=dedup_len ks k
  refine wpAny_pure ⟨plainId_quiet F.plain_set_update_loop _,ih (i + 1) _ (step_dedup ks k) (by omega) hlt (W.frame _ s' _ _ st' (Nat.le_succ _) fun b hb o e => ?_) hz2 (by omega) fun s'' mv' hz3 => ?_⟩
  ·rw [sb.2 b fun h : b = S => hSf (by rw [← h]; exact hb)]
   exact e
  ·refine hR s'' (Moved.trans W.gtrans ((mv.mono sub).then_heap (Nat.le_succ _) fun b o hb e => ?_) mv') ?_
   ·rw [sb.2 b fun h : b = S => hb (by rw [h]; exact List.mem_cons_self)]
    exact e
   ·rw [List.drop_eq_getElem_cons hlt,List.foldl_cons]
    rw [List.getElem?_eq_getElem hlt] at hk
    cases hk
    exact hz3
end
section
variable {prog : Program} {w : World} {A : Around} {E : Value -> Shared -> Prop} {s : Shared}
theorem callSet {arg : Value} {Q Q₁ : Value -> Shared -> Prop} (hn : codeAny (model prog w) A.in1 (.call (.builtin "set.__new__") ⟨[.type "set",arg],[]⟩) (wants Q₁ E) s)
  (hx : ∀ ob s₁,Q₁ ob s₁ -> s₁.TypeIs ob "set" /\ wpAny (model prog w) A.in1.in1 (Builtin.«set.__init__» ⟨[ob,arg],[]⟩)
    (fun fin s' => match fin with | .done f => wants (fun r s₂ => r = .none /\ Q ob s₂) E (.ok f) s' | .again c' => c'.quiet = true /\ codeAny (model prog w) A.in1 c' (wants (fun r s₂ => r = .none /\ Q ob s₂) E) s') (fun e s' => wants (fun r s₂ => r = .none /\ Q ob s₂) E (.error e) s') s₁) :
  wpAny (model prog w) A (call (.type "set") [arg]) Q E s:=by
 obtain ⟨c,tl,hmro⟩:=PySem.F.called_set.mro
 have a1:=PySem.F.called_set.made
 have a2:=PySem.F.called_set.sub
 refine wpAny_call (codeAny_of_tree ?_)
 show wpAny _ _ (callAny (.type "set") _) _ _ _
 refine wpAny_pure ⟨Code.quiet_builtin _ (by decide +kernel),codeAny_builtin PySem.F.entry_type_call ?_⟩
 rw [Around.under_plain (weight_type_call_type "set" [arg] []) rfl]
 have a3:=PySem.F.called_set.notType
 have a4:=PySem.F.called_set.canCreate
 have a5:=PySem.F.typeCall_set_1 arg
 repeat (any_goals (first | assumption | wp_step))
 refine codeAny_mono hn fun r s₁ hr => ?_
 cases r with
 | error e => exact hr
 | ok fl =>
  cases fl with
  | ret ob =>
   obtain ⟨hT,hsi⟩:=hx _ _ hr
   have b1:=PySem.F.called_set.init.lookup
   have b2:=PySem.F.called_set.init.bind ob
   repeat (any_goals (first | assumption | wp_step))
   refine codeAny_mono (codeAny_call_builtin (R:=wants (fun r s₂ => r = .none /\ Q ob s₂) E) PySem.F.called_set.init.plain PySem.F.entry_set_init (PySem.check_set_init_1 hT hsi)) fun r₂ s₂ hr₂ => ?_
   cases r₂ with
   | error e => exact hr₂
   | ok fl₂ =>
    cases fl₂ with
    | ret r =>
     obtain ⟨rfl,hq⟩:=hr₂
     repeat (any_goals (first | assumption | wp_step))
    | _ => exact hr₂.elim
  | _ => exact hr.elim
theorem call_setZ {l : Addr} {vs : List Value} {ns : List Int} {Q : Value -> Shared -> Prop} (hh : A.handled = none) (hl : s.heap.IsList l vs.toArray) (hi : IntsAre vs ns) (hb : ns.length + 1 < scanBound)
  (h : ∀ (h' : Heap) (tk : Nat),SetZ (ledOf w) h' s.heap.objs.size (ns.foldl step_dedup []) -> (∀ b o,s.heap.get? b = some o -> h'.get? b = some o) -> Q (.ref s.heap.objs.size) { s with heap:=h',toks:=tk }) :
  wpAny (model prog w) A (call (.type "set") [.ref l]) Q E s:=by
 have vl : vs.length = ns.length:=IntsAre.length hi
 refine callSet (Q₁:=fun obj s₁ => obj = .ref s.heap.objs.size /\ s₁ = { s with heap:=s.heap.push (setObj #[] 0 (.fresh 0 0 (ledOf w))) }) (new_z _ ⟨rfl,rfl⟩) fun obj s₁ h₁ => ?_
 obtain ⟨rfl,rfl⟩:=h₁
 have hS : (s.heap.push (setObj #[] 0 (.fresh 0 0 (ledOf w)))).get? s.heap.objs.size = some (setObj #[] 0 (.fresh 0 0 (ledOf w))):=Heap.get?_push_size _ rfl
 refine ⟨⟨_,hS,rfl⟩,?_⟩
 have hl1 : (s.heap.push (setObj #[] 0 (.fresh 0 0 (ledOf w)))).IsList l vs.toArray:=hl.push _
 obtain ⟨ol,hol,hcl,nl,hdl⟩:=hl
 have lS : l < s.heap.objs.size:=Heap.lt_size hol
 obtain ⟨ocls,odict,odata,oslots⟩:=ol
 simp only at hcl hdl
 subst hcl; subst hdl
 have hol':=Heap.get?_push_of_some (setObj #[] 0 (.fresh 0 0 (ledOf w))) hol
 have f1:=PySem.F.sub_list_set
 have f2:=PySem.F.sub_list_frozenset
 have f3 : (Value.type "list" == Value.type "dict") = false:=by decide
 unfold Builtin.«set.__init__» noKeywords Builtin.Frozenset.updateFrom
 generalize hPI : pyIter = PI
 wp_walk
 subst hPI
 refine wpAny_pyIter_list hl1 ?_
 refine wpAny_bind (wpAny_runValue ?_)
 have neI : l ≠ (s.heap.push (setObj #[] 0 (.fresh 0 0 (ledOf w)))).objs.size:=by
  rw [Heap.size_push]; exact Nat.ne_of_lt (Nat.lt_succ_of_lt lS)
 have nSf : s.heap.objs.size ∉ [(s.heap.push (setObj #[] 0 (.fresh 0 0 (ledOf w)))).objs.size,l]:=by
  rw [Heap.size_push]
  simp only [List.mem_cons,List.not_mem_nil,or_false,not_or]
  exact ⟨Nat.ne_of_lt (Nat.lt_succ_self _),Nat.ne_of_gt lS⟩
 have W:=(Walks.list (prog:=prog) (w:=w) (A:=A.in1.in1.in1) (by simp [hh]) _ l neI vs.toArray).toS
 rw [show vs.toArray.size = ns.length by rw [List.size_toArray]; exact vl] at W
 refine loop_z W s.heap.objs.size nSf (fun i v hv => ?_) (led:=ledOf w) ns.length 0 _ [] (by omega) (Nat.zero_le _) ⟨⟨_,Heap.get?_push_size _ rfl,rfl,rfl⟩,hl1.push _⟩ (setZ_new (Heap.get?_push_of_some _ hS)) (by simpa using hb) fun s' mv hz => ?_
 ·obtain ⟨t,e⟩:=IntsAre.int_at hi i v (by simpa using hv)
  have il : i < ns.length:=by
   have:=(List.getElem?_eq_some_iff.mp (show vs[i]? = some v by simpa using hv)).1
   omega
  exact ⟨ns[i],t,List.getElem?_eq_getElem il,by rw [e]; simp [il]⟩
 ·obtain ⟨h',g',d',tk',os'⟩:=s'
  have eg : g' = s.gens:=mv.gens
  have ed : d' = s.drawn:=mv.drawn
  have eo : os' = s.os:=mv.os
  subst eg; subst ed; subst eo
  show wpAny _ _ _ _ _ _
  refine wpAny_pure ?_
  show wpAny _ _ (ret Value.none) _ _ _
  refine wpAny_pure ⟨rfl,h h' tk' hz fun b o e => ?_⟩
  have hb1 : b < s.heap.objs.size:=Heap.lt_size e
  refine mv.heap b o ?_ (Heap.get?_push_of_some _ (Heap.get?_push_of_some _ e))
  rw [Heap.size_push]
  simp only [List.mem_cons,List.not_mem_nil,or_false,not_or]
  exact ⟨Nat.ne_of_lt hb1,Nat.ne_of_lt (Nat.lt_succ_of_lt hb1)⟩
end
end L2
set_option Elab.async false
set_option linter.all false
set_option maxRecDepth 100000
set_option maxHeartbeats 1000000
namespace L2
open PySem PySem.Spec PyProof.Rows
theorem slot_si_next : Slot "set_iterator" "__next__" "set_iterator.__next__" :=
 .of (owner:="set_iterator") (n:="__next__") (by rw [typeLookup_type,builtinLookup_eq_fast]; kernel_rfl) (by decide +kernel) (by decide +kernel) (by decide +kernel) (by first | exact .inl (by decide +kernel) | exact .inr (by decide +kernel)) (by rw [isSubtype_type]; kernel_rfl)
theorem entry_si_next : entryFor table "set_iterator.__next__" = some Builtin.«set_iterator.__next__»:=entryFor_of_tree (by kernel_rfl)
theorem args_si_next (a : Value) : argsOk "set_iterator.__next__" ⟨[a],[]⟩:=by unfold argsOk; kernel_rfl
theorem entry_si : entryFor table "set.__iter__" = some Builtin.«frozenset.__iter__»:=entryFor_alias (id':="frozenset.__iter__") (by kernel_rfl) rfl (by decide +kernel) (by kernel_rfl)
abbrev itObj (f : Value) (i : Nat) (S : Addr) (n ep : Nat) : Obj:={ cls:=.type "set_iterator",dict:=none,data:=.fields #[f,.int i 0,.ref S,.int n 0,.int ep 0] }
section
variable {prog : Program} {w : World} {A : Around} {E : Value -> Shared -> Prop} {s : Shared} {it S : Addr} {f : Value} {i n ep : Nat} {es : Array (Int × Value)} {t : SetTable}
theorem next_some {sl nx : Nat} {x : Value} {Q : Option Value -> Shared -> Prop} (ho : s.heap.get? it = some (itObj (.int sl 0) i S n ep)) (hs : s.heap.get? S = some (setObj es ep t)) (fit : t.fits es.size = true) (hn : es.size = n)
  (hx : ∀ (A : Around) (E : Value -> Shared -> Prop) (Q : Option (Value × Nat) -> Shared -> Prop),Q (some (x,nx)) s -> wpAny (model prog w) A (setNext S sl i ep) Q E s)
  (hQ : ∀ h',h'.get? it = some (itObj (.int nx 0) (i + 1) S n ep) -> Heap.SameBut it s.heap h' -> Q (some x) { s with heap:=h' }) : wpAny (model prog w) A (pyNext (.ref it)) Q E s:=by
 have hT : s.TypeIs (.ref it) "set_iterator":=⟨_,ho,rfl⟩
 unfold pyNext
 refine wpAny_bind (wpAny_attempt (wpAny_callSpecial?_slot (name:=Str.ofString "__next__") hT slot_si_next (wpAny_call_entry slot_si_next hT entry_si_next ?_ (args_si_next _))))
 unfold Builtin.«set_iterator.__next__»
 refine wpAny_bind (m:=slotArgs _ _ _) (wpAny_pure ?_)
 refine wpAny_bind (wpAny_fieldsOf ho rfl ?_)
 dsimp only
 refine wpAny_bind (wpAny_setEntries_of hs rfl fit ?_)
 rw [if_neg (by rw [hn]; simp)]
 refine wpAny_bind ?_
 rw [Int.toNat_natCast,Int.toNat_natCast,Int.toNat_natCast]
 refine hx _ _ _ ?_
 dsimp only
 refine wpAny_bind (wpAny_setField_rec ho (by show 0 < 5; decide) fun h1 o1 b1 => ?_)
 refine wpAny_bind (wpAny_setField_rec (s:={ s with heap:=h1 }) o1 (by show 1 < 5; decide) fun h2 o2 b2 => ?_)
 exact wpAny_pure ⟨_,rfl,wpAny_pure (hQ h2 o2 (b1.trans b2))⟩
theorem stop_now {h1 : Heap} {Q : Option Value -> Shared -> Prop} {Q1 : Value -> Shared -> Prop} (hh : A.handled = none) (hQ : ∀ h',(∀ b o,h1.get? b = some o -> h'.get? b = some o) -> Q none { s with heap:=h' }) :
  wpAny (model prog w) A.in1 (newExc (.type "StopIteration") [] >>= fun e => (raiseNew e : Sem Fin)) (fun fin s' => ∃ r,fin = .done (.ret r) /\ Q1 r s') (fun e s' => wpAny (model prog w) A (isInstance e (.type "StopIteration") >>= fun b => if b = true then pure none else throw e) Q E s') { s with heap:=h1 }:=by
 refine wpAny_bind ?_
 simp only [newExc,newTuple]
 refine wpAny_bind (wpAny_newObj_type ?_ (by size_fits))
 refine wpAny_bind (m:=firstArgMember _ _) (wpAny_of_eq (a:=Value.none) (by first | rfl | (simp only [firstArgMember]; rfl)) ?_)
 refine wpAny_newObj_type ?_ (by size_fits)
 simp only [raiseNew]
 refine wpAny_bind (wpAny_handled ?_)
 rw [show A.in1.handled = none from hh]
 refine wpAny_bind (wpAny_pure (wpAny_throw ?_))
 refine wpAny_bind (wpAny_isInstance (T:="StopIteration") (b:=true) ⟨_,Heap.get?_push_size _ rfl,rfl⟩ isSubtype_stop ?_)
 exact wpAny_pure (hQ _ fun b o e => Heap.get?_push_of_some _ (Heap.get?_push_of_some _ e))
theorem next_none {sl : Nat} {Q : Option Value -> Shared -> Prop} (hh : A.handled = none) (ho : s.heap.get? it = some (itObj (.int sl 0) i S n ep)) (hs : s.heap.get? S = some (setObj es ep t)) (fit : t.fits es.size = true) (hn : es.size = n)
  (hx : ∀ (A : Around) (E : Value -> Shared -> Prop) (Q : Option (Value × Nat) -> Shared -> Prop),Q none s -> wpAny (model prog w) A (setNext S sl i ep) Q E s)
  (hQ : ∀ h',(∀ b o,b ≠ it -> s.heap.get? b = some o -> h'.get? b = some o) -> Q none { s with heap:=h' }) : wpAny (model prog w) A (pyNext (.ref it)) Q E s:=by
 have hT : s.TypeIs (.ref it) "set_iterator":=⟨_,ho,rfl⟩
 unfold pyNext
 refine wpAny_bind (wpAny_attempt (wpAny_callSpecial?_slot (name:=Str.ofString "__next__") hT slot_si_next (wpAny_call_entry slot_si_next hT entry_si_next ?_ (args_si_next _))))
 unfold Builtin.«set_iterator.__next__»
 refine wpAny_bind (m:=slotArgs _ _ _) (wpAny_pure ?_)
 refine wpAny_bind (wpAny_fieldsOf ho rfl ?_)
 dsimp only
 refine wpAny_bind (wpAny_setEntries_of hs rfl fit ?_)
 rw [if_neg (by rw [hn]; simp)]
 refine wpAny_bind ?_
 rw [Int.toNat_natCast,Int.toNat_natCast,Int.toNat_natCast]
 refine hx _ _ _ ?_
 dsimp only
 refine wpAny_bind (wpAny_setField_rec ho (by show 2 < 5; decide) fun h1 o1 b1 => ?_)
 exact stop_now (s:=s) hh fun h' k => hQ h' fun b o ne e => k b o ((b1.2 b ne).trans e)
theorem next_drawn {tp : Addr} {pl : Array Value} {j : Nat} {tk : Tok} {x : Int × Value} {Q : Option Value -> Shared -> Prop} (ho : s.heap.get? it = some (itObj (.ref tp) i S n ep)) (hs : s.heap.get? S = some (setObj es ep t)) (fit : t.fits es.size = true) (hn : es.size = n)
  (ht : s.heap.IsTuple tp pl) (hp : pl[i]? = some (.int j tk)) (hx : es[j]? = some x)
  (hQ : ∀ h',h'.get? it = some (itObj (.ref tp) (i + 1) S n ep) -> Heap.SameBut it s.heap h' -> Q (some x.2) { s with heap:=h' }) : wpAny (model prog w) A (pyNext (.ref it)) Q E s:=by
 have hT : s.TypeIs (.ref it) "set_iterator":=⟨_,ho,rfl⟩
 obtain ⟨ot,hot,_,nt,hdt⟩:=ht
 unfold pyNext
 refine wpAny_bind (wpAny_attempt (wpAny_callSpecial?_slot (name:=Str.ofString "__next__") hT slot_si_next (wpAny_call_entry slot_si_next hT entry_si_next ?_ (args_si_next _))))
 unfold Builtin.«set_iterator.__next__»
 refine wpAny_bind (m:=slotArgs _ _ _) (wpAny_pure ?_)
 refine wpAny_bind (wpAny_fieldsOf ho rfl ?_)
 dsimp only
 refine wpAny_bind (wpAny_setEntries_of hs rfl fit ?_)
 rw [if_neg (by rw [hn]; simp)]
 refine wpAny_bind (wpAny_seqItems hot hdt ?_)
 dsimp only
 rw [Int.toNat_natCast,hp]
 dsimp only
 refine wpAny_bind ?_
 unfold setNextDrawn
 refine wpAny_bind (wpAny_setState_of hs rfl fit ?_)
 dsimp only
 rw [Int.toNat_natCast,Int.toNat_natCast,if_neg (by simp),hx]
 refine wpAny_pure ?_
 refine wpAny_bind (wpAny_setField_rec ho (by show 1 < 5; decide) fun h1 o1 b1 => ?_)
 exact wpAny_pure ⟨_,rfl,wpAny_pure (hQ h1 o1 b1)⟩
theorem next_drawn_end {tp : Addr} {pl : Array Value} {Q : Option Value -> Shared -> Prop} (hh : A.handled = none) (ho : s.heap.get? it = some (itObj (.ref tp) i S n ep)) (hs : s.heap.get? S = some (setObj es ep t)) (fit : t.fits es.size = true) (hn : es.size = n)
  (ht : s.heap.IsTuple tp pl) (hp : pl[i]? = none) (hQ : ∀ h',(∀ b o,b ≠ it -> s.heap.get? b = some o -> h'.get? b = some o) -> Q none { s with heap:=h' }) : wpAny (model prog w) A (pyNext (.ref it)) Q E s:=by
 have hT : s.TypeIs (.ref it) "set_iterator":=⟨_,ho,rfl⟩
 obtain ⟨ot,hot,_,nt,hdt⟩:=ht
 unfold pyNext
 refine wpAny_bind (wpAny_attempt (wpAny_callSpecial?_slot (name:=Str.ofString "__next__") hT slot_si_next (wpAny_call_entry slot_si_next hT entry_si_next ?_ (args_si_next _))))
 unfold Builtin.«set_iterator.__next__»
 refine wpAny_bind (m:=slotArgs _ _ _) (wpAny_pure ?_)
 refine wpAny_bind (wpAny_fieldsOf ho rfl ?_)
 dsimp only
 refine wpAny_bind (wpAny_setEntries_of hs rfl fit ?_)
 rw [if_neg (by rw [hn]; simp)]
 refine wpAny_bind (wpAny_seqItems hot hdt ?_)
 dsimp only
 rw [Int.toNat_natCast,hp]
 dsimp only
 refine wpAny_bind (wpAny_setField_rec ho (by show 0 < 5; decide) fun h1 o1 b1 => ?_)
 refine wpAny_bind (wpAny_setField_rec (s:={ s with heap:=h1 }) o1 (by show 2 < 5; decide) fun h2 o2 b2 => ?_)
 exact stop_now (s:=s) hh fun h' k => hQ h' fun b o ne e => k b o ((b2.2 b ne).trans ((b1.2 b ne).trans e))
end
end L2
set_option Elab.async false
set_option linter.all false
set_option maxRecDepth 100000
set_option maxHeartbeats 1000000
namespace L2
open PySem PySem.Spec PyProof.Rows
def slotZ (pl : Array Nat) (i : Nat) : Nat:=if i = 0 then 0 else pl.getD (i - 1) 0 + 1
theorem below_slot {pl : Array Nat} (R : Rise pl) {i : Nat} (hi : i <= pl.size) : SetTable.below pl (slotZ pl i) = i:=by
 obtain ⟨b1,b2,b3⟩:=below_ok R (slotZ pl i)
 generalize hb : SetTable.below pl (slotZ pl i) = b at b1 b2 b3
 have gd : ∀ k (h : k < pl.size),pl.getD k 0 = pl[k]:=fun k h => by simp [h]
 by_cases z : i = 0
 ·subst z
  by_cases q : b = 0
  ·exact q
  ·have:=b2 0 (by omega) (by omega)
   unfold slotZ at this
   rw [if_pos rfl] at this
   omega
 ·have hl : i - 1 < pl.size:=by omega
  have es : slotZ pl i = pl[i - 1] + 1:=by unfold slotZ; rw [if_neg z,gd _ hl]
  rw [es] at b2 b3
  rcases Nat.lt_trichotomy b i with q | q | q
  ·have h1:=b3 b (by omega) (Nat.le_refl _)
   by_cases y : b = i - 1
   ·subst y; omega
   ·have:=R b (i - 1) (by omega) hl (by omega)
    omega
  ·exact q
  ·have h1:=b2 i (by omega) q
   have:=R (i - 1) i hl (by omega) (by omega)
   omega
theorem cons_erase {α : Type} {xs : List α} {j : Nat} (h : j < xs.length) : (xs[j] :: xs.eraseIdx j).Perm xs:=by
 have e : xs.take j ++ xs[j] :: xs.drop (j + 1) = xs:=by rw [← List.drop_eq_getElem_cons h,List.take_append_drop]
 rw [List.eraseIdx_eq_take_drop_succ]
 exact (List.perm_middle.symm).trans (List.Perm.of_eq e)
theorem pick_go {α : Type} (nx : Nat -> Nat) : ∀ (fuel k : Nat) (left : List α) (out : Array α),left.length = fuel -> ((pickOrder.go nx fuel k left out).toList).Perm (out.toList ++ left)
 | 0,k,left,out,h => by
  have : left = []:=List.eq_nil_of_length_eq_zero h
  subst this
  rw [pickOrder.go,List.append_nil]
 | fuel + 1,k,left,out,h => by
  have hl : nx k % left.length < left.length:=Nat.mod_lt _ (by omega)
  have e:=List.getElem?_eq_getElem hl
  rw [pickOrder.go,e]
  dsimp only
  refine (pick_go nx fuel (k + 1) _ _ (by rw [List.length_eraseIdx_of_lt hl]; omega)).trans ?_
  rw [Array.toList_push,List.append_assoc]
  refine List.Perm.append_left _ ?_
  exact cons_erase hl
theorem pick_perm {α : Type} (nx : Nat -> Nat) (xs : Array α) : ((pickOrder nx xs).toList).Perm xs.toList:=by
 unfold pickOrder
 have:=pick_go nx xs.size 0 xs.toList #[] (by simp)
 simpa using this
section
variable {prog : Program} {w : World} {A : Around} {E : Value -> Shared -> Prop} {s : Shared} {S : Addr} {i ep : Nat} {es : Array (Int × Value)} {t : SetTable} {ks : List Int}
theorem byText_wp {Q : Bool -> Shared -> Prop} (h : Q (w.params.followText "set-order") s) : wpAny (model prog w) A setsByText Q E s:=by
 unfold setsByText
 exact wpAny_bind (wpAny_askSetting (wpAny_pure h))
theorem setNext_p {Q : Option (Value × Nat) -> Shared -> Prop} (hs : s.heap.get? S = some (setObj es ep t)) (Z : SetO (ledOf w) es t ks) (hb : w.params.followText "set-order" = false) (hd : (!t.plain && decide (es.size > 1)) = false) (hi : i <= es.size)
  (h : Q (if h : i < es.size then some (es[i].2,slotZ t.place (i + 1)) else none) s) : wpAny (model prog w) A (setNext S (slotZ t.place i) i ep) Q E s:=by
 have ps : t.place.size = es.size:=by
  have:=Z.fit
  unfold SetTable.fits at this
  simp at this
  exact this.1
 have hl : t.led = true:=by rw [Z.tab.led_]; unfold ledOf; rw [hb]; rfl
 unfold setNext
 refine wpAny_bind (wpAny_setState_of hs rfl Z.fit ?_)
 dsimp only
 refine wpAny_bind (byText_wp ?_)
 rw [hb,if_neg Bool.false_ne_true]
 show wpAny _ _ (if (!t.plain && decide (es.size > 1)) = true then _ else _) _ _ _
 rw [if_neg (by rw [hd]; exact Bool.false_ne_true)]
 show wpAny _ _ ((if (!t.led && !es.isEmpty) = true then unsupported "set:maker-not-led" else pure ()) >>= _) _ _ _
 rw [hl]
 refine wpAny_bind (wpAny_pure ?_)
 rw [below_slot Z.tab.rise (by omega)]
 refine wpAny_pure ?_
 by_cases z : i < es.size
 ·rw [dif_pos z] at h
  have e1 : es[i]? = some es[i]:=Array.getElem?_eq_getElem z
  have zl : i < t.place.size:=by omega
  have e2 : t.place[i]? = some t.place[i]:=Array.getElem?_eq_getElem zl
  rw [e1,e2]
  have e3 : slotZ t.place (i + 1) = t.place[i] + 1:=by
   unfold slotZ
   rw [if_neg (by omega),Nat.add_sub_cancel]
   simp [zl]
  rw [e3] at h
  exact h
 ·rw [dif_neg z] at h
  rw [Array.getElem?_eq_none (by omega)]
  exact h
theorem setNext_t {Q : Option (Value × Nat) -> Shared -> Prop} (hs : s.heap.get? S = some (setObj es ep t)) (Z : SetO (ledOf w) es t ks) (hb : w.params.followText "set-order" = true)
  (h : Q (((pickOrder (w.params.setOrder S ep) es)[i]?).map fun e => (e.2,0)) s) : wpAny (model prog w) A (setNext S 0 i ep) Q E s:=by
 unfold setNext
 refine wpAny_bind (wpAny_setState_of hs rfl Z.fit ?_)
 dsimp only
 refine wpAny_bind (byText_wp ?_)
 rw [hb,if_pos rfl,if_neg (by simp)]
 refine wpAny_bind ?_
 unfold setWalk
 refine wpAny_bind (wpAny_setState_of hs rfl Z.fit ?_)
 dsimp only
 refine wpAny_bind (byText_wp ?_)
 rw [hb,if_pos rfl]
 refine wpAny_bind (wpAny_askSetting (wpAny_pure (wpAny_pure h)))
theorem choose_wp {src : Source} {n : Nat} {Q : Nat -> Shared -> Prop} (hn : n ≠ 0) (h : ∀ (j : Nat) (d : Drawn),j < n -> Q j { s with drawn:=d }) : wpAny (model prog w) A (choose src n) Q E s:=fun Γ p hΓ => by
 unfold choose
 rw [Sem.wp_choose]
 exact ⟨hn,h _ _ (Nat.mod_lt _ (by omega))⟩
theorem draw_wp {α : Type} {Q : List α -> Shared -> Prop} : ∀ (n : Nat) (xs : List α) (s : Shared),xs.length = n -> (∀ (ys : List α) (d : Drawn),ys.Perm xs -> Q ys { s with drawn:=d }) -> wpAny (model prog w) A (drawOrder n xs) Q E s
 | 0,xs,s,hl,h => by
  have : xs = []:=List.eq_nil_of_length_eq_zero hl
  subst this
  rw [drawOrder]
  exact wpAny_pure (h [] s.drawn (List.Perm.refl _))
 | n + 1,[],s,hl,h => by cases hl
 | n + 1,x :: r,s,hl,h => by
  rw [drawOrder]
  ·refine wpAny_bind (choose_wp (by rw [hl]; omega) fun j d hj => ?_)
   have e:=List.getElem?_eq_getElem hj
   rw [e]
   dsimp only
   refine wpAny_bind (draw_wp n _ _ (by rw [List.length_eraseIdx_of_lt hj]; omega) fun ys d' hp => wpAny_pure (h _ d' ?_))
   exact (List.Perm.cons _ hp).trans (cons_erase hj)
  ·intro z; cases z
end
end L2
set_option Elab.async false
set_option linter.all false
set_option maxRecDepth 100000
set_option maxHeartbeats 1000000
namespace L2
open PySem PySem.Spec PyProof.Rows
theorem slot_siI : Slot "set_iterator" "__iter__" "set_iterator.__iter__" :=
 .of (owner:="set_iterator") (n:="__iter__") (by rw [typeLookup_type,builtinLookup_eq_fast]; kernel_rfl) (by decide +kernel) (by decide +kernel) (by decide +kernel) (by first | exact .inl (by decide +kernel) | exact .inr (by decide +kernel)) (by rw [isSubtype_type]; kernel_rfl)
theorem entry_siI : entryFor table "set_iterator.__iter__" = some Builtin.«dict_keyiterator.__iter__»:=entryFor_alias (id':="dict_keyiterator.__iter__") (by kernel_rfl) rfl (by decide +kernel) (by kernel_rfl)
theorem args_siI (a : Value) : argsOk "set_iterator.__iter__" ⟨[a],[]⟩:=by unfold argsOk; kernel_rfl
theorem ints_of {es : List (Int × Value)} (h : EntZ es) : IntsAre (es.map (·.2)) (es.map keyZ):=by
 induction es with
 | nil => exact .nil
 | cons e r ih =>
  obtain ⟨k,tk,rfl⟩:=h e List.mem_cons_self
  exact .cons k tk (ih fun x hx => h x (List.mem_cons_of_mem _ hx))
section
variable {prog : Program} {w : World} {A : Around} {E : Value -> Shared -> Prop} {s : Shared} {S it : Addr} {ep : Nat} {es : Array (Int × Value)} {t : SetTable} {ks : List Int}
theorem self_z {f : Value} {i n : Nat} {Q : Value -> Shared -> Prop} (ho : s.heap.get? it = some (itObj f i S n ep)) (h : Q (.ref it) s) : wpAny (model prog w) A (pyIter (.ref it)) Q E s:=by
 have hT : s.TypeIs (.ref it) "set_iterator":=⟨_,ho,rfl⟩
 refine wpAny_pyIter_slot hT slot_siI (wpAny_call_entry slot_siI hT entry_siI ?_ (args_siI _))
 show wpAny _ _ (ret (.ref it)) _ _ s
 exact wpAny_pure ⟨_,rfl,"set_iterator",_,hT,slot_si_next.lookup,h⟩
theorem walks_p (hh : A.handled = none) (ne : S ≠ it) (Z : SetO (ledOf w) es t ks) (hb : w.params.followText "set-order" = false) (hd : (!t.plain && decide (es.size > 1)) = false) :
  Walks prog w A it [it,S] [it] (es.toList.map (·.2)).length (fun i v => (es.toList.map (·.2))[i]? = some v) (fun i h => i <= es.size /\ h.get? it = some (itObj (.int (slotZ t.place i) 0) i S es.size ep) /\ h.get? S = some (setObj es ep t)) where
 sub:=fun b hb => by simp at hb; simp [hb]
 frame:=fun i h h' st k => ⟨st.1,k it (by simp) _ st.2.1,k S (by simp) _ st.2.2⟩
 item:=fun i s Q E hi st hQ => by
  rw [List.length_map,Array.length_toList] at hi
  refine next_some (x:=es[i].2) (nx:=slotZ t.place (i + 1)) st.2.1 st.2.2 Z.fit rfl (fun A E Q q => setNext_p st.2.2 Z hb hd st.1 (by rw [dif_pos hi]; exact q)) fun h' o1 b1 => ?_
  refine hQ _ h' s.toks ?_ ⟨hi,o1,(b1.2 S ne).trans st.2.2⟩ fun b o hb e => (b1.2 b fun z => hb (by simp [z])).trans e
  rw [List.getElem?_map,Array.getElem?_toList,Array.getElem?_eq_getElem hi]
  rfl
 done:=fun s Q E st hQ => by
  rw [List.length_map,Array.length_toList] at st
  exact next_none hh st.2.1 st.2.2 Z.fit rfl (fun A E Q q => setNext_p st.2.2 Z hb hd st.1 (by rw [dif_neg (Nat.lt_irrefl _)]; exact q)) fun h' k => hQ h' s.toks fun b o hb e => k b o (fun z => hb (by simp [z])) e
 self:=fun i s Q E st hQ => self_z st.2.1 hQ
theorem walks_t (hh : A.handled = none) (ne : S ≠ it) (Z : SetO (ledOf w) es t ks) (hb : w.params.followText "set-order" = true) :
  Walks prog w A it [it,S] [it] ((pickOrder (w.params.setOrder S ep) es).toList.map (·.2)).length (fun i v => ((pickOrder (w.params.setOrder S ep) es).toList.map (·.2))[i]? = some v) (fun i h => h.get? it = some (itObj (.int 0 0) i S es.size ep) /\ h.get? S = some (setObj es ep t)) where
 sub:=fun b hb => by simp at hb; simp [hb]
 frame:=fun i h h' st k => ⟨k it (by simp) _ st.1,k S (by simp) _ st.2⟩
 item:=fun i s Q E hi st hQ => by
  rw [List.length_map] at hi
  have e:=List.getElem?_eq_getElem hi
  generalize (pickOrder (w.params.setOrder S ep) es).toList[i] = y at e
  refine next_some (sl:=0) (nx:=0) (x:=y.2) st.1 st.2 Z.fit rfl (fun A E Q q => setNext_t st.2 Z hb (by rw [← Array.getElem?_toList,e]; exact q)) fun h' o1 b1 => ?_
  refine hQ _ h' s.toks ?_ ⟨o1,(b1.2 S ne).trans st.2⟩ fun b o hb e => (b1.2 b fun z => hb (by simp [z])).trans e
  rw [List.getElem?_map,e]
  rfl
 done:=fun s Q E st hQ => by
  refine next_none (sl:=0) hh st.1 st.2 Z.fit rfl (fun A E Q q => setNext_t st.2 Z hb ?_) fun h' k => hQ h' s.toks fun b o hb e => k b o (fun z => hb (by simp [z])) e
  rw [← Array.getElem?_toList,List.getElem?_eq_none (by rw [List.length_map]; exact Nat.le_refl _)]
  exact q
 self:=fun i s Q E st hQ => self_z st.1 hQ
theorem walks_d {tp : Addr} {js : List Nat} (hh : A.handled = none) (ne : S ≠ it) (nt : tp ≠ it) (Z : SetO (ledOf w) es t ks) (hj : js.Perm (List.range es.size)) :
  Walks prog w A it [it,S,tp] [it] (js.filterMap fun j => (es[j]?).map (·.2)).length (fun i v => (js.filterMap fun j => (es[j]?).map (·.2))[i]? = some v)
   (fun i h => h.get? it = some (itObj (.ref tp) i S es.size ep) /\ h.get? S = some (setObj es ep t) /\ h.IsTuple tp (js.map fun (j : Nat) => rawInt j).toArray):=by
 have jl : ∀ j ∈ js,j < es.size:=fun j h => List.mem_range.mp (hj.mem_iff.mp h)
 have e0 : js.filterMap (fun j => (es[j]?).map (·.2)) = js.map fun j => (es.getD j (0,.none)).2:=by
  clear hj
  induction js with
  | nil => rfl
  | cons j r ih =>
   have:=jl j List.mem_cons_self
   rw [List.map_cons,← ih fun x hx => jl x (List.mem_cons_of_mem _ hx),List.filterMap_cons]
   simp [this]
 rw [e0]
 refine ⟨fun b hb => by simp at hb; simp [hb],fun i h h' st k => ⟨k it (by simp) _ st.1,k S (by simp) _ st.2.1,?_⟩,fun i s Q E hi st hQ => ?_,fun s Q E st hQ => ?_,fun i s Q E st hQ => self_z st.1 hQ⟩
 ·obtain ⟨o,ho,r⟩:=st.2.2
  exact ⟨o,k tp (by simp) _ ho,r⟩
 ·rw [List.length_map] at hi
  have e:=List.getElem?_eq_getElem hi
  have hm:=jl _ (List.getElem_mem hi)
  generalize js[i] = j at e hm
  refine next_drawn (j:=j) (tk:=0) (x:=es[j]) st.1 st.2.1 Z.fit rfl st.2.2 (by simp [e,rawInt]) (Array.getElem?_eq_getElem hm) fun h' o1 b1 => ?_
  refine hQ _ h' s.toks ?_ ⟨o1,(b1.2 S ne).trans st.2.1,?_⟩ fun b o hb e => (b1.2 b fun z => hb (by simp [z])).trans e
  ·rw [List.getElem?_map,e]
   simp [hm]
  ·obtain ⟨o,ho,r⟩:=st.2.2
   exact ⟨o,(b1.2 tp nt).trans ho,r⟩
 ·refine next_drawn_end hh st.1 st.2.1 Z.fit rfl st.2.2 (by simp) fun h' k => hQ h' s.toks fun b o hb e => k b o (fun z => hb (by simp [z])) e
theorem iter_z {Q : Value -> Shared -> Prop} (hh : A.handled = none) (hs : s.heap.get? S = some (setObj es ep t)) (Z : SetO (ledOf w) es t ks)
  (h : ∀ (h' : Heap) (d : Drawn) (it : Addr) (fp : List Addr) (vs : List Value) (ns : List Int) (St : Nat -> Heap -> Prop),(∀ b o,s.heap.get? b = some o -> h'.get? b = some o) -> s.heap.objs.size <= it -> (∀ b ∈ fp,b = S \/ (s.heap.objs.size <= b /\ b < h'.objs.size)) -> it < h'.objs.size -> IntsAre vs ns -> ns.Perm ks ->
   Walks prog w A it fp [it] vs.length (fun i v => vs[i]? = some v) St -> St 0 h' -> Q (.ref it) { s with heap:=h',drawn:=d }) : wpAny (model prog w) A (pyIter (.ref S)) Q E s:=by
 have hT : s.TypeIs (.ref S) "set":=⟨_,hs,rfl⟩
 have Sl : S < s.heap.objs.size:=Heap.lt_size hs
 refine wpAny_pyIter_slot hT PySem.F.slot_set_iter (wpAny_call_entry PySem.F.slot_set_iter hT entry_si ?_ (PySem.F.args_set_iter_1 _))
 unfold Builtin.«frozenset.__iter__» Builtin.Frozenset.slot0 Builtin.Frozenset.sizeOf
 refine wpAny_bind (wpAny_pure ?_)
 refine wpAny_bind (wpAny_bind (wpAny_setEntries_of hs rfl Z.fit (wpAny_pure ?_)))
 refine wpAny_bind ?_
 unfold setDrawn
 refine wpAny_bind (wpAny_setState_of hs rfl Z.fit ?_)
 dsimp only
 refine wpAny_bind (byText_wp (wpAny_pure ?_))
 have fin : ∀ (h1 : Heap) (d : Drawn) (f : Value) (fp : List Addr) (vs : List Value) (ns : List Int) (St : Nat -> Heap -> Prop),(∀ b o,s.heap.get? b = some o -> h1.get? b = some o) -> s.heap.objs.size <= h1.objs.size -> (∀ b ∈ fp,b = S \/ (s.heap.objs.size <= b /\ b <= h1.objs.size)) ->
   IntsAre vs ns -> ns.Perm ks -> Walks prog w A h1.objs.size fp [h1.objs.size] vs.length (fun i v => vs[i]? = some v) St -> St 0 (h1.push (itObj f 0 S es.size ep)) ->
   wpAny (model prog w) A.in1 (setEpoch S >>= fun e => newFields "set_iterator" [f,rawInt 0,.ref S,rawInt es.size,rawInt e] >>= fun v => ret v) (fun fin s' => ∃ r,fin = .done (.ret r) /\ ∃ T' r',s'.TypeIs r T' /\ typeLookup (.type T') "__next__" = pure (some r') /\ Q r s') E { s with heap:=h1,drawn:=d }:=by
  intro h1 d f fp vs ns St kp sz hfp hi hp W st
  refine wpAny_bind (wpAny_setEpoch_of (kp _ _ hs) rfl Z.fit ?_)
  unfold newFields
  refine wpAny_bind (wpAny_newObj_type (wpAny_pure ⟨_,rfl,"set_iterator",_,⟨_,Heap.get?_push_size _ rfl,rfl⟩,slot_si_next.lookup,?_⟩) (by size_fits))
  exact h (h1.push (itObj f 0 S es.size ep)) d h1.objs.size fp vs ns St (fun b o e => Heap.get?_push_of_some _ (kp b o e)) sz (fun b hb => (hfp b hb).imp id fun q => ⟨q.1,by rw [Heap.size_push]; exact Nat.lt_succ_of_le q.2⟩) (by rw [Heap.size_push]; exact Nat.lt_succ_self _) hi hp W st
 have neS : S ≠ s.heap.objs.size:=Nat.ne_of_lt Sl
 by_cases hb : w.params.followText "set-order" = true
 ·rw [hb]
  have c1 : (!true && (!t.plain && decide (es.size > 1))) = false:=rfl
  show wpAny _ _ (if (!true && (!t.plain && decide (es.size > 1))) = true then _ else _) _ _ _
  rw [c1,if_neg Bool.false_ne_true]
  refine wpAny_bind (wpAny_pure ?_)
  have pp:=pick_perm (w.params.setOrder S ep) es
  have ent : EntZ (pickOrder (w.params.setOrder S ep) es).toList:=fun e he => Z.ent e (pp.mem_iff.mp he)
  exact fin s.heap s.drawn (.int 0 0) _ _ _ _ (fun _ _ e => e) (Nat.le_refl _) (fun b hb => by
   simp only [List.mem_cons,List.not_mem_nil,or_false] at hb
   rcases hb with e | e
   ·exact .inr ⟨Nat.le_of_eq e.symm,Nat.le_of_eq e⟩
   ·exact .inl e) (ints_of ent) ((pp.map keyZ).trans Z.perm) (walks_t hh neS Z hb) ⟨Heap.get?_push_size _ rfl,Heap.get?_push_of_some _ hs⟩
 ·have hb : w.params.followText "set-order" = false:=by simpa using hb
  rw [hb]
  show wpAny _ _ (if (!false && (!t.plain && decide (es.size > 1))) = true then _ else _) _ _ _
  by_cases hd : (!t.plain && decide (es.size > 1)) = true
  ·rw [hd,if_pos (by rfl)]
   refine wpAny_bind (draw_wp (prog:=prog) (w:=w) es.size (List.range es.size) s (List.length_range) fun js d hj => ?_)
   refine wpAny_bind (wpAny_newTuple ?_ (by rw [List.length_map,hj.length_eq,List.length_range]; exact fits_of_scanBound Z.sm))
   have nt : s.heap.objs.size ≠ (s.heap.push { cls:=.type "tuple",data:=.seq (js.map fun (j : Nat) => rawInt j).toArray }).objs.size:=by rw [Heap.size_push]; first | exact Nat.ne_of_lt (Nat.lt_succ_self _) | exact Nat.ne_of_lt (Nat.lt_succ_of_lt Sl)
   have nS : S ≠ (s.heap.push { cls:=.type "tuple",data:=.seq (js.map fun (j : Nat) => rawInt j).toArray }).objs.size:=by rw [Heap.size_push]; first | exact Nat.ne_of_lt (Nat.lt_succ_self _) | exact Nat.ne_of_lt (Nat.lt_succ_of_lt Sl)
   have e0 : js.filterMap (fun j => (es[j]?).map (·.2)) = (js.filterMap (fun j => es[j]?)).map (·.2):=by
    rw [List.map_filterMap]
   have pp : (js.filterMap (fun j => es[j]?)).Perm es.toList:=by
    have:=hj.filterMap (fun j => es[j]?)
    rw [filterMap_getElem?_range] at this
    exact this
   have ent : EntZ (js.filterMap (fun j => es[j]?)):=fun e he => Z.ent e (pp.mem_iff.mp he)
   have ii:=ints_of ent
   rw [← e0] at ii
   exact fin _ d (.ref s.heap.objs.size) _ _ _ _ (fun b o e => Heap.get?_push_of_some _ e) (by rw [Heap.size_push]; exact Nat.le_succ _) (fun b hb => by
    simp only [List.mem_cons,List.not_mem_nil,or_false] at hb
    rcases hb with e | e | e
    ·exact .inr ⟨by rw [e,Heap.size_push]; exact Nat.le_succ _,Nat.le_of_eq e⟩
    ·exact .inl e
    ·exact .inr ⟨Nat.le_of_eq e.symm,by rw [e,Heap.size_push]; exact Nat.le_succ _⟩) ii ((pp.map keyZ).trans Z.perm) (walks_d hh nS nt Z hj) ⟨Heap.get?_push_size _ rfl,Heap.get?_push_of_some _ (Heap.get?_push_of_some _ hs),⟨_,Heap.get?_push_of_some _ (Heap.get?_push_size _ rfl),rfl,0,rfl⟩⟩
  ·have hd : (!t.plain && decide (es.size > 1)) = false:=by simpa using hd
   rw [hd,if_neg (by simp)]
   refine wpAny_bind (wpAny_pure ?_)
   exact fin s.heap s.drawn (.int 0 0) _ _ _ _ (fun _ _ e => e) (Nat.le_refl _) (fun b hb => by
    simp only [List.mem_cons,List.not_mem_nil,or_false] at hb
    rcases hb with e | e
    ·exact .inr ⟨Nat.le_of_eq e.symm,Nat.le_of_eq e⟩
    ·exact .inl e) (ints_of Z.ent) Z.perm (walks_p hh neS Z hb hd) ⟨Nat.zero_le _,Heap.get?_push_size _ rfl,Heap.get?_push_of_some _ hs⟩
end
end L2
set_option Elab.async false
set_option linter.all false
set_option maxRecDepth 100000
set_option maxHeartbeats 1000000
namespace L2
open PySem PySem.Spec PyProof.Rows
structure Src (prog : Program) (w : World) (T : String) (r : Addr) (C : Nat -> (Nat -> Value -> Prop) -> Prop) (OK : Heap -> Prop) : Prop where
 ty : ∀ s : Shared,OK s.heap -> s.TypeIs (.ref r) T
 keep : ∀ h h' : Heap,OK h -> (∀ o,h.get? r = some o -> h'.get? r = some o) -> OK h'
 nl : (Value.type T == Value.type "list") = false
 nt : (Value.type T == Value.type "tuple") = false
 hint : ∀ (A : Around) (E : Value -> Shared -> Prop) (s : Shared) (Q : Bool -> Shared -> Prop),OK s.heap -> Q false s -> wpAny (model prog w) A (Builtin.List.listLengthHint (.ref r)) Q E s
 iter : ∀ (A : Around) (E : Value -> Shared -> Prop) (s : Shared) (Q : Value -> Shared -> Prop),A.handled = none -> OK s.heap ->
  (∀ (h' : Heap) (d : Drawn) (it : Addr) (fp : List Addr) (n : Nat) (P : Nat -> Value -> Prop) (St : Nat -> Heap -> Prop),(∀ b o,s.heap.get? b = some o -> h'.get? b = some o) -> s.heap.objs.size <= it -> (∀ b ∈ fp,b = r \/ (s.heap.objs.size <= b /\ b < h'.objs.size)) -> C n P ->
   Walks prog w A it fp [it] n P St -> St 0 h' -> Q (.ref it) { s with heap:=h',drawn:=d }) -> wpAny (model prog w) A (pyIter (.ref r)) Q E s
section
variable {prog : Program} {w : World} {A : Around} {E : Value -> Shared -> Prop} {s : Shared} {T : String} {r : Addr} {C : Nat -> (Nat -> Value -> Prop) -> Prop} {OK : Heap -> Prop}
theorem ext_src {R : Result -> Shared -> Prop} (K : Src prog w T r C OK) (hC : ∀ n P,C n P -> n <= sizeLine) (hh : A.handled = none) (hok : OK s.heap) (S : Addr) (hSr : S ≠ r) (res : Value) (hS : s.heap.get? S = some { cls:=.type "list",data:=.seq #[] 0 })
  (hR : ∀ h' d tk acc c n P,(∀ b o,b ≠ S -> s.heap.get? b = some o -> h'.get? b = some o) -> h'.get? S = some { cls:=.type "list",dict:=none,data:=.seq acc c,slots:=#[] } -> C n P -> ItemsOf P acc n -> R (.ok (.ret res)) { s with heap:=h',drawn:=d,toks:=tk }) :
  wpAny (model prog w) A.in1 (Builtin.List.listExtendWith (.ref S) (.ref r) res) (fun fin s' => match fin with | .done f => R (.ok f) s' | .again c' => c'.quiet = true /\ codeAny (model prog w) A c' R s') (fun e s' => R (.error e) s') s:=by
 have Sl : S < s.heap.objs.size:=Heap.lt_size hS
 unfold Builtin.List.listExtendWith
 refine wpAny_bind (wpAny_typeOf (T:=T) (K.ty s hok) ?_)
 have h1 : Builtin.List.listSameRef (.ref S) (.ref r) = false:=by simp [Builtin.List.listSameRef,hSr]
 simp only [h1,K.nl,K.nt,Bool.or_false,Bool.false_eq_true,if_false]
 refine wpAny_bind (K.iter A.in1 _ s _ hh hok fun h' d it fp n P St kp le hfp hc W st => ?_)
 have hS1:=kp _ _ hS
 have Sit : S ≠ it:=Nat.ne_of_lt (Nat.lt_of_lt_of_le Sl le)
 have nf : S ∉ fp:=fun hm => by
  rcases hfp S hm with e | e
  ·exact hSr e
  ·exact absurd (Nat.lt_of_lt_of_le Sl e.1) (Nat.lt_irrefl _)
 have key : ∀ (h2 : Heap) (c : Nat),St 0 h2 -> (∀ b o,b ≠ S -> s.heap.get? b = some o -> h2.get? b = some o) -> h2.get? S = some { cls:=.type "list",data:=.seq #[] c } -> codeAny (model prog w) A (.builtin "list.extend.loop" ⟨[.ref S,.ref it,res],[]⟩) R { s with heap:=h2,drawn:=d }:=by
  intro h2 c st2 k2 hS2
  refine codeAny_extend_loopS W.toS (hC n P hc) S nf res n 0 _ #[] c rfl (Nat.zero_le _) st2 hS2 (ItemsOf.nil _) fun s' acc c' mv hS' hacc => ?_
  obtain ⟨h3,g3,d3,tk3,os3⟩:=s'
  have eg : g3 = s.gens:=mv.gens
  have ed : d3 = d:=mv.drawn
  have eo : os3 = s.os:=mv.os
  subst eg; subst ed; subst eo
  refine hR h3 d3 tk3 acc c' n P (fun b o hb e => mv.heap b o (fun hm => ?_) (k2 b o hb e)) hS' hc hacc
  rcases List.mem_cons.mp hm with e' | hm
  ·exact hb e'
  ·rw [List.mem_singleton.mp hm] at e
   exact absurd (Nat.lt_of_lt_of_le (Heap.lt_size e) le) (Nat.lt_irrefl _)
 refine wpAny_bind (wpAny_holding (K.hint _ _ _ _ (K.keep _ _ hok fun o e => kp _ _ e) ?_))
 refine wpAny_ite_split (fun _ => ?_) (fun _ => wpAny_pure ⟨plainId_quiet PySem.F.plain_extend_loop _,key _ 0 st (fun b o _ e => kp b o e) hS1⟩)
 refine wpAny_bind (wpAny_rule (wpAny_bind ?_))
 show wpAny _ _ (updateSeq S (·.push .none) >>= fun _ => updateSeq S (·.pop)) _ _ _
 refine wpAny_bind (wpAny_updateSeq hS1 rfl ?_)
 have hS2:=Heap.get?_update_self (Obj.mapSeq (·.push Value.none)) hS1 rfl
 refine wpAny_updateSeq (hz:=by seq_fits) hS2 rfl ?_
 have hS3:=Heap.get?_update_self (Obj.mapSeq (·.pop)) hS2 rfl
 refine wpAny_pure ⟨plainId_quiet PySem.F.plain_extend_loop _,key _ _ ?_ (fun b o hb e => ?_) hS3⟩
 ·refine W.frame 0 _ _ st fun b hb o e => ?_
  have hbS : b ≠ S:=fun z => nf (z ▸ hb)
  exact (Heap.get?_update_other _ _ (Ne.symm hbS)).trans ((Heap.get?_update_other _ _ (Ne.symm hbS)).trans e)
 ·exact (Heap.get?_update_other _ _ (Ne.symm hb)).trans ((Heap.get?_update_other _ _ (Ne.symm hb)).trans (kp b o e))
theorem coll_src {R : List Value -> Shared -> Prop} (K : Src prog w T r C OK) (hC : ∀ n P,C n P -> n <= sizeLine) (hh : A.handled = none) (hok : OK s.heap)
  (h : ∀ h' d tk (acc : Array Value) n P,(∀ b o,s.heap.get? b = some o -> h'.get? b = some o) -> s.heap.objs.size < h'.objs.size -> C n P -> ItemsOf P acc n -> R acc.toList { s with heap:=h',drawn:=d,toks:=tk }) : wpAny (model prog w) A (collect (.ref r)) R E s:=by
 have rl : r < s.heap.objs.size:=by
  obtain ⟨o,ho,_⟩:=K.ty s hok
  exact Heap.lt_size ho
 unfold collect
 refine wpAny_bind (wpAny_runValue (codeAny_builtin entry_proto_collect' ?_))
 rw [Around.under_plainId PySem.F.plain_proto_collect _]
 show wpAny _ A.in1 (newList [] >>= fun l => again (.builtin "list.__iadd__" ⟨[l,.ref r],[]⟩)) _ _ s
 refine wpAny_bind (wpAny_newObj_type (wpAny_pure ⟨plainId_quiet PySem.F.plain_list_iadd _,codeAny_builtin entry_list_iadd' ?_⟩))
 rw [Around.under_plainId PySem.F.plain_list_iadd _]
 have hS1 : (s.heap.push { cls:=.type "list",data:=.seq ([] : List Value).toArray }).get? s.heap.objs.size = some { cls:=.type "list",data:=.seq #[] }:=Heap.get?_push_size _ rfl
 show wpAny _ A.in1 (Builtin.List.listExtendWith (.ref s.heap.objs.size) (.ref r) (.ref s.heap.objs.size)) _ _ _
 have key:=ext_src (A:=A) (s:={ s with heap:=s.heap.push { cls:=.type "list",data:=.seq ([] : List Value).toArray } })
  (R:=fun (q : Result) (s' : Shared) => ∃ h' d tk acc c n P,q = .ok (.ret (.ref s.heap.objs.size)) /\ s' = { s with heap:=h',drawn:=d,toks:=tk } /\ (∀ b o,s.heap.get? b = some o -> h'.get? b = some o) /\ h'.get? s.heap.objs.size = some { cls:=.type "list",dict:=none,data:=.seq acc c,slots:=#[] } /\ C n P /\ ItemsOf P acc n)
  K hC hh (K.keep _ _ hok fun o e => Heap.get?_push_of_some _ e) s.heap.objs.size (Nat.ne_of_gt rl) (.ref s.heap.objs.size) hS1
  (fun h' d tk acc c n P hk hS' hc hacc => ⟨h',d,tk,acc,c,n,P,rfl,rfl,fun b o e => hk b o (Nat.ne_of_lt (Heap.lt_size e)) (Heap.get?_push_of_some _ e),hS',hc,hacc⟩)
 refine wpAny_mono key (fun fin s' x => ?_) fun e s' x => ?_
 ·cases fin with
  | done f =>
   obtain ⟨h',d,tk,acc,c,n,P,e,rfl,hk,hS',hc,hacc⟩:=x
   cases e
   show wpAny _ A (load s.heap.objs.size >>= _) _ _ _
   exact wpAny_bind (wpAny_load hS' (wpAny_pure (h h' d tk acc n P hk (Heap.lt_size hS') hc hacc)))
  | again c₁ =>
   refine ⟨x.1,codeAny_mono x.2 fun q s₂ y => ?_⟩
   obtain ⟨h',d,tk,acc,c,n,P,rfl,rfl,hk,hS',hc,hacc⟩:=y
   show wpAny _ A (load s.heap.objs.size >>= _) _ _ _
   exact wpAny_bind (wpAny_load hS' (wpAny_pure (h h' d tk acc n P hk (Heap.lt_size hS') hc hacc)))
 ·obtain ⟨_,_,_,_,_,_,_,e',_⟩:=x
  cases e'
theorem sort_src {Q : Value -> Shared -> Prop} {ks : List Int} (K : Src prog w T r C OK) (h64 : ks.length < 64) (hC : ∀ n P,C n P -> n <= sizeLine /\ ∀ acc : Array Value,ItemsOf P acc n -> ∃ ns,IntsAre acc.toList ns /\ ns.Perm ks) (hh : A.handled = none) (hok : OK s.heap)
  (h : ∀ h' d tk D c (vs : List Value) ns,(∀ b o,s.heap.get? b = some o -> h'.get? b = some o) -> s.heap.objs.size <= D -> h'.get? D = some (seqObj "list" vs.toArray c) -> IntsAre vs ns -> ns.Perm ks -> ns.Pairwise (· <= ·) -> Q (.ref D) { s with heap:=h',drawn:=d,toks:=tk }) :
  wpAny (model prog w) A (call (.builtin "sorted") [.ref r]) Q E s:=by
 refine Calls.call_function_entry kind_sorted plain_sorted entry_sorted (args_sorted1 _) ?_
 unfold Builtin.«sorted»
 refine wpAny_bind (m:=checkCount "sorted" 1 1 _) (wpAny_pure ?_)
 refine wpAny_bind (coll_src (A:=A.in1) K (fun n P c => (hC n P c).1) hh hok fun h' d tk acc n P kp le hc hi => ?_)
 obtain ⟨ns,i1,i2⟩:=(hC n P hc).2 acc hi
 have al : acc.toList.length < 64:=by rw [IntsAre.length i1,i2.length_eq]; exact h64
 refine wpAny_bind (wpAny_newList ?_ (le_size (by omega)))
 have hoL : (h'.push (seqObj "list" acc.toList.toArray 0)).get? h'.objs.size = some (seqObj "list" acc.toList.toArray 0):=Heap.get?_push_size _ rfl
 refine wpAny_bind (wpAny_holding (wpAny_call_entry slot_list_sort ⟨_,hoL,rfl⟩ entry_list_sort (list_sort_tree hoL i1 al fun out ns' a1 a2 a3 => ⟨_,rfl,?_⟩) (args_list_sort _)))
 obtain ⟨c,hD⟩:=sortedHeap_at (out:=out) hoL
 refine wpAny_pure ⟨_,rfl,h _ d tk h'.objs.size c out.toList ns' (fun b o e => ?_) (Nat.le_of_lt le) hD a1 (a2.trans i2) a3⟩
 have bl:=Heap.lt_size (kp b o e)
 rw [sortedHeap_old (Nat.ne_of_lt bl) (by rw [size_push']; exact Nat.lt_succ_of_lt bl),Heap.get?_push_of_some _ (kp b o e)]
end
theorem hint_set {prog : Program} {w : World} {A : Around} {E : Value -> Shared -> Prop} {s : Shared} {r : Addr} {Q : Bool -> Shared -> Prop} (hT : s.TypeIs (.ref r) "set") (h : Q false s) : wpAny (model prog w) A (Builtin.List.listLengthHint (.ref r)) Q E s:=by
 unfold Builtin.List.listLengthHint
 refine wpAny_bind (wpAny_specialOf hT PySem.F.slot_set_len.lookup ?_)
 generalize hid : ("set.__len__" : String) = id0
 wp_delta
 rw [show splitId id0 = some ("set","__len__") from by subst hid; decide +kernel]
 subst hid
 refine wpAny_bind (wpAny_isInstance (T:="set") (b:=true) hT (by rw [isSubtype_type]; kernel_rfl) ?_)
 refine wpAny_ite_split (fun q => absurd q (by decide)) (fun _ => wpAny_ite_split (fun _ => ?_) (fun q => absurd (by decide +kernel) q))
 exact wpAny_bind (wpAny_typeOf hT (wpAny_pure h))
theorem src_set {prog : Program} {w : World} {r : Addr} {ks : List Int} : Src prog w "set" r (fun n P => n = ks.length /\ ∃ vs ns,vs.length = n /\ IntsAre vs ns /\ ns.Perm ks /\ P = fun i v => vs[i]? = some v) (fun h => SetZ (ledOf w) h r ks) where
 ty:=fun s ⟨es,ep,t,ho,_⟩ => ⟨_,ho,rfl⟩
 keep:=fun h h' z k => z.keep k
 nl:=by decide
 nt:=by decide
 hint:=fun A E s Q z q => by
  obtain ⟨es,ep,t,ho,_⟩:=z
  exact hint_set ⟨_,ho,rfl⟩ q
 iter:=fun A E s Q hh z h => by
  obtain ⟨es,ep,t,ho,Z⟩:=z
  refine iter_z hh ho Z fun h' d it fp vs ns St a1 a2 a3 a4 a5 a6 W st => h h' d it fp vs.length _ St a1 a2 a3 ⟨?_,vs,ns,rfl,a5,a6,rfl⟩ W st
  rw [IntsAre.length a5,a6.length_eq]
theorem vals_intsZ : ∀ {vs : List Value} {ns : List Int},IntsAre vs ns -> Vals (ns.map V.int) vs
 | _,_,.nil => .nil
 | _,_,.cons n t r => .cons ⟨t,rfl⟩ (vals_intsZ r)
theorem ints_vals : ∀ {ns : List Int} {vs : List Value},Vals (ns.map V.int) vs -> IntsAre vs ns
 | [],vs,h => by cases h; exact .nil
 | n :: ns,vs,h => by
  cases h with
  | cons r t =>
   obtain ⟨tk,rfl⟩:=r
   exact .cons n tk (ints_vals t)
def sortI (ks : List Int) : List Int:=ks.mergeSort (fun a b => decide (a <= b))
theorem sortI_perm (ks : List Int) : (sortI ks).Perm ks:=List.mergeSort_perm _ _
theorem sortI_sorted (ks : List Int) : (sortI ks).Pairwise (· <= ·):=by
 have:=List.pairwise_mergeSort (le:=fun (a b : Int) => decide (a <= b)) (fun a b c h1 h2 => by simp at h1 h2 ⊢; omega) (fun a b => by simp; omega) ks
 exact this.imp fun h => by simpa using h
theorem sortI_of {ns ks : List Int} (h1 : ns.Perm ks) (h2 : ns.Pairwise (· <= ·)) : ns = sortI ks:=PySem.W.ksm_same (h1.trans (sortI_perm ks).symm) h2 (sortI_sorted ks)
def SetE (w : World) (a : Addr) (ks : List Int) : HO:=.ext (fun h => SetZ (ledOf w) h a ks)
section
variable {X : Cx}
theorem Inv.drawn {pins : List (Addr × Obj)} {σ : St} {H : Hp} {s : Shared} (I : Inv X pins σ H s) (d : Drawn) : Inv X pins σ H { s with drawn:=d } :=
 ⟨I.ok,I.os,I.bare,I.base,I.loc,I.cell,I.free,I.freeC,I.pin,I.hok,I.len⟩
def rSetZ (w : World) : List V -> Hp -> VK -> Prop:=fun xs H Q => ∃ (p : Addr) (ns : List Int),xs = [.ref p] /\ H p = some (.lst (ns.map V.int)) /\ ns.length <= 4000 /\ ∀ a,H a = none -> Q (.ref a) (upd H a (SetE w a (ns.foldl step_dedup [])))
theorem call_setL (hc : X.calm = true) : CallR X (.type "set") (rSetZ X.w):=by
 intro pins s σ H xs us Q I r h
 obtain ⟨p,ns,rfl,hp,hl,q⟩:=h
 obtain ⟨u,rfl,ru⟩:=vals1 r
 cases ru
 obtain ⟨hz,its,c,rv,_,ho⟩:=I.lstM hp
 refine call_setZ (I.ok.hd hc) (vs:=its) ⟨_,ho,rfl,c,rfl⟩ (ints_vals rv) (by unfold scanBound; omega) fun h' tk z kp => ?_
 refine ⟨.ref s.heap.objs.size,_,I.laid (t':=tk) kp (Nat.le_refl _) ?_,rfl,q _ I.fresh⟩
 show (SetZ (ledOf X.w) h' s.heap.objs.size _) /\ _
 refine ⟨z,?_,fun h1 h2 z1 k => z1.keep k⟩
 obtain ⟨es,ep,t,e,_⟩:=z
 exact ⟨_,e⟩
def rSortS (w : World) : List V -> Hp -> VK -> Prop:=fun xs H Q => ∃ (a : Addr) (ks : List Int),xs = [.ref a] /\ H a = some (SetE w a ks) /\ ks.length < 64 /\ ∀ l,H l = none -> Q (.ref l) (upd H l (.lst ((sortI ks).map V.int)))
theorem laid_sorted {pins : List (Addr × Obj)} {σ : St} {H : Hp} {s : Shared} {Q : VK} {h' : Heap} {d : Drawn} {tk D c : Nat} {vs : List Value} {ns ks : List Int} (I : Inv X pins σ H s) (kp : ∀ b o,s.heap.get? b = some o -> h'.get? b = some o) (le : s.heap.objs.size <= D)
  (hD : h'.get? D = some (seqObj "list" vs.toArray c)) (hi : IntsAre vs ns) (hp : ns.Perm ks) (ho : ns.Pairwise (· <= ·)) (h64 : ks.length < 64) (q : ∀ l,H l = none -> Q (.ref l) (upd H l (.lst ((sortI ks).map V.int)))) : EP X pins σ Q (.ref D) { s with heap:=h',drawn:=d,toks:=tk }:=by
 have e:=sortI_of hp ho
 subst e
 have hz : ((sortI ks).map V.int).length <= sizeLine:=by rw [List.length_map,hp.length_eq]; exact le_size (by omega)
 exact ⟨.ref D,_,(I.laid (t':=tk) kp le (show ObjOk X.prog X.w _ h' D (.lst ((sortI ks).map V.int)) from ⟨hz,vs,c,vals_intsZ hi,hD⟩)).drawn d,rfl,q D (I.hok.fresh le)⟩
theorem call_sortS (hc : X.calm = true) : CallR X (.builtin "sorted") (rSortS X.w):=by
 intro pins s σ H xs us Q I r h
 obtain ⟨a,ks,rfl,ha,h64,q⟩:=h
 obtain ⟨u,rfl,ru⟩:=vals1 r
 cases ru
 have z : SetZ (ledOf X.w) s.heap a ks:=(I.hok a _ ha).1
 refine sort_src (ks:=ks) src_set h64 ?_ (I.ok.hd hc) z fun h' d tk D c vs ns kp le hD hi hp ho => laid_sorted I kp le hD hi hp ho h64 q
 rintro n P ⟨rfl,vs,ns,hl,hi,hp,rfl⟩
 refine ⟨le_size (by omega),fun acc it => ⟨ns,?_,hp⟩⟩
 have : acc.toList = vs:=by
  apply List.ext_getElem?
  intro i
  by_cases z : i < acc.size
  ·have e:=it.2 i _ (Array.getElem?_eq_getElem z)
   rw [Array.getElem?_toList,Array.getElem?_eq_getElem z,e]
  ·rw [Array.getElem?_toList,Array.getElem?_eq_none (by omega),List.getElem?_eq_none (by rw [hl,← it.1]; omega)]
 rw [this]
 exact hi
end
end L2
set_option Elab.async false
set_option linter.all false
set_option maxRecDepth 100000
set_option maxHeartbeats 1000000
namespace L2
open PySem PySem.Spec PyProof.Rows
section
variable {X : Cx}
end
end L2
set_option Elab.async false
set_option linter.all false
set_option maxRecDepth 100000
set_option maxHeartbeats 1000000
namespace L2
open PySem PySem.Spec PyProof.Rows
section
variable {X : Cx}
theorem call_setW (w : World) (hc : X.calm = true) (h : X.w = w:=by rfl) : CallR X (.type "set") (rSetZ w):=by subst h; exact call_setL hc
theorem call_sortW (w : World) (hc : X.calm = true) (h : X.w = w:=by rfl) : CallR X (.builtin "sorted") (rSortS w):=by subst h; exact call_sortS hc
end
theorem dedup_if (ks : List Int) (k : Int) : step_dedup ks k = if k ∈ ks then ks else ks ++ [k]:=by
 unfold step_dedup
 by_cases h : k ∈ ks
 ·have e : (ks.any fun x => x == k) = true:=List.any_eq_true.mpr ⟨k,h,beq_self_eq_true _⟩
  rw [if_pos h,if_pos e]
 ·rw [if_neg h,if_neg]
  intro z
  obtain ⟨x,hx,e⟩:=List.any_eq_true.mp z
  rw [beq_iff_eq.mp e] at hx
  exact h hx
def ded (xs : List Int) : List Int:=xs.foldl step_dedup []
theorem ded_snoc (xs : List Int) (x : Int) : ded (xs ++ [x]) = if x ∈ ded xs then ded xs else ded xs ++ [x]:=by
 unfold ded
 rw [List.foldl_append]
 exact dedup_if _ _
theorem ded_len (xs : List Int) : (ded xs).length <= xs.length:=by
 have:=foldl_dedup_len xs []
 unfold ded
 simpa using this
theorem mem_ded (xs : List Int) (x : Int) : x ∈ ded xs ↔ x ∈ xs:=by
 refine snoc_ind (p:=fun xs => x ∈ ded xs ↔ x ∈ xs) (by simp [ded]) (fun ys y ih => ?_) xs
 rw [ded_snoc]
 by_cases h : y ∈ ded ys
 ·rw [if_pos h,ih,List.mem_append,List.mem_singleton]
  exact ⟨.inl,fun z => z.elim id fun e => ih.mp (e ▸ h)⟩
 ·rw [if_neg h,List.mem_append,List.mem_append,ih]
def wantC (xs : List Int) : List Int:=(xs.map coreN).filter fun c => decide (1 < c)
def gtV : V -> Option V:=fun x => match x with
 | .int n => if 1 < n then some (.int n) else none
 | _ => none
theorem gtV_map : ∀ xs : List Int,(xs.map V.int).filterMap gtV = (xs.filter fun c => decide (1 < c)).map V.int
 | [] => rfl
 | x :: r => by
  have e : gtV (.int x) = if 1 < x then some (.int x) else none:=rfl
  rw [List.map_cons,List.filterMap_cons,e]
  by_cases h : 1 < x
  ·rw [if_pos h,List.filter_cons_of_pos (by simpa using h),List.map_cons,← gtV_map r]
  ·rw [if_neg h,List.filter_cons_of_neg (by simpa using h),← gtV_map r]
theorem sortI_len (ks : List Int) : (sortI ks).length = ks.length:=(sortI_perm ks).length_eq
def spWanted : Sp:=fun vs H Q _ => ∃ (a : Addr) (xs : List Int),vs = [.ref a] /\ H a = some (.lst (xs.map V.int)) /\ xs.length <= 60 /\ ∀ l H',H l = none -> Same H H' -> H' l = some (.lst ((sortI (ded (wantC xs))).map V.int)) -> Q (.ref l) H'
end L2
set_option Elab.async false
set_option linter.all false
set_option maxRecDepth 100000
set_option maxHeartbeats 1000000
namespace L2
open PySem PySem.Spec PyProof.Rows
section
variable {ins : Nat} {ds : List Wd}
end
section
variable {ins : Nat} {ds : List Wd} {j lo : Nat} {far : List Int}
end
end L2
set_option Elab.async false
set_option linter.all false
set_option maxRecDepth 100000
set_option maxHeartbeats 1000000
namespace L2
open PySem PySem.Spec PyProof.Rows
section
variable {K : PySem.W.Frag} {σ : St} {H : Hp} {Q : VK} {cs : List Nat} {te : TE}
end
end L2
set_option Elab.async false
set_option linter.all false
set_option maxRecDepth 100000
set_option maxHeartbeats 1000000
namespace L2
open PySem PySem.Spec PyProof.Rows
section
variable {K : PySem.W.Frag} {σ : St} {H : Hp} {Q : VK} {cs : List Nat} {tt : TT} {te : TE}
end
end L2
set_option Elab.async false
set_option linter.all false
set_option maxRecDepth 100000
set_option maxHeartbeats 1000000
namespace L2
open PySem PySem.Spec PyProof.Rows
def tFrz (te : TE) : TE:=fun σ H Q => te σ H fun x H1 => ∃ d kvs,x = .ref d /\ H1 d = some (.dK kvs) /\ ∀ o,Q x (upd H1 d (.frz o (.dK kvs)))
theorem w_frz {te : TE} {σ : St} {H : Hp} {Q : VK} : tFrz te σ H Q = (te σ H fun x H1 => ∃ d kvs,x = .ref d /\ H1 d = some (.dK kvs) /\ ∀ o,Q x (upd H1 d (.frz o (.dK kvs)))):=rfl
section
variable {X : Cx}
theorem pe_frz {e : Expr} {te : TE} (he : PE X e te) : PE X e (tFrz te):=by
 intro pins s σ H Q I h
 refine thn (he pins s σ H _ I h) fun v s1 ⟨x,H1,I1,r1,q1⟩ => ?_
 obtain ⟨d,kvs,rfl,hd,q⟩:=q1
 have ok:=I1.hok d _ hd
 obtain ⟨z,lo,vs,rel,dd⟩:=id ok
 obtain ⟨ep,o,es,ho,_⟩:=dd.dictAt
 have I2 : Inv X pins σ (upd H1 d (.frz o (.dK kvs))) { s1 with heap:=s1.heap,toks:=s1.toks }:=I1.write (by rw [hd]; trivial) (.inl rfl) (fun b u _ e => e) ⟨o,ho⟩ ⟨ho,ok⟩
 exact ⟨.ref d,_,I2,r1,q o⟩
def ItD (d : Addr) (o : Obj) (kvs : List (Key × V)) : It :=
 ⟨fun i H => H d = some (.frz o (.dK kvs)) /\ i < kvs.length,fun i H x H' => H' = H /\ (kvs.map fun q => kV q.1)[i]? = some x,fun i H => H d = some (.frz o (.dK kvs)) /\ kvs.length <= i⟩
theorem kv_len : ∀ {a : List (Key × V)} {b : List (Key × Value)},KV a b -> a.length = b.length:=by
 intro a b r
 induction r with
 | nil => rfl
 | cons _ _ ih => simp [ih]
theorem kv_at : ∀ {a : List (Key × V)} {b : List (Key × Value)},KV a b -> ∀ {i : Nat} {k : Key} {x : Value},b[i]? = some (k,x) -> ∃ v,a[i]? = some (k,v):=by
 intro a b r
 induction r with
 | nil => intro i k x h; simp at h
 | @cons p q _ _ h _ ih =>
  intro i k x e
  cases i with
  | zero =>
   simp only [List.getElem?_cons_zero,Option.some.injEq] at e
   subst e
   refine ⟨p.2,?_⟩
   simp only [List.getElem?_cons_zero,Option.some.injEq]
   exact Prod.ext h.1 rfl
  | succ i => exact ih (by simpa using e)
theorem frz_at {P : Program} {w : World} {H : Hp} {h : Heap} {d : Addr} {o : Obj} {kvs : List (Key × V)} (ok : HOk P w H h) (e : H d = some (.frz o (.dK kvs))) : h.get? d = some o /\ (d == sysModules) = false /\ ∃ vs ep es,KV kvs vs /\ o.data = .dict es ep /\ h.DictAt (mixKind P w) d vs ep:=by
 obtain ⟨ho,z,lo,vs,rel,dd⟩:=ok d _ e
 obtain ⟨ep,hat⟩:=dd.dictAt
 obtain ⟨o',es,ho',hc,hdat,_⟩:=id hat
 rw [ho] at ho'
 cases ho'
 exact ⟨ho,lo,vs,ep,es,rel,hdat,hat⟩
theorem turn_dict {P : Program} {w : World} {K : PySem.W.Frag} {tg : Expr} (d it : Addr) (o : Obj) (kvs : List (Key × V)) (es : Array DictEntry) (ep : Nat) (ho : o.data = .dict es ep) : Turn P w K tg (ItD d o kvs) [it] it (fun i h => h.IsKeyIter it d i kvs.length ep) where
 mem:=by simp
 obj:=fun i h st b hb => by
  have e : b = it:=by simpa using hb
  subst e
  obtain ⟨u,e,c,dd⟩:=st
  exact ⟨u,e,fun v z => by rw [dd] at z; cases z⟩
 keep:=fun i h h' st k => st.at fun o e => k it (by simp) o e
 item:=by
  intro X hP hw hK hc i pins s σ H E I hf st hg
  subst hP hw hK
  obtain ⟨hd,hi⟩:=hg
  obtain ⟨_,lo,vs,ep',es',rel,ho',hat⟩:=frz_at I.hok hd
  rw [ho] at ho'
  cases ho'
  have kl:=kv_len rel
  obtain ⟨⟨k,x⟩,hx⟩ : ∃ p,vs[i]? = some p:=⟨vs[i]'(by omega),List.getElem?_eq_getElem _⟩
  obtain ⟨v,hv⟩:=kv_at rel hx
  obtain ⟨f0,f1,f2,f3,f4,f5⟩:=hf it (by simp)
  rw [kl] at st
  refine wpAny_pyNext_dict_item st hat hx fun key h' hkey st' sb => ?_
  have I1 : Inv X pins σ H { s with heap:=h' }:=I.turned (t':=s.toks) (fun b o hb e => (sb.2 b hb).trans e) f0 f1 f3 f4 f5
  obtain ⟨u,e,c,dd⟩:=id st'
  refine ⟨key,rfl,go_of (s:={ s with heap:=h' }) e c dd (by decide) ⟨kV k,H,I1,key_rel hkey,⟨rfl,by rw [List.getElem?_map,hv]; rfl⟩,by rw [kl]; exact st',fun b hb => (hf b hb).1⟩⟩
 done:=by
  intro X hP hw hK hc i pins s σ H E I hf st hg
  subst hP hw hK
  obtain ⟨hd,hi⟩:=hg
  obtain ⟨_,lo,vs,ep',es',rel,ho',hat⟩:=frz_at I.hok hd
  rw [ho] at ho'
  cases ho'
  have kl:=kv_len rel
  obtain ⟨f0,f1,f2,f3,f4,f5⟩:=hf it (by simp)
  rw [kl] at st
  exact wpAny_pyNext_dict_end (I.ok.hd hc) st hat (List.getElem?_eq_none (by omega)) fun h' eb => ⟨rfl,I.turned (t':=s.toks) (fun b o hb e => eb b o hb e) f0 f1 f3 f4 f5⟩
 self:=fun _ _ _ _ _ st h => wpAny_pyIter_keyiter st h
def iDict (tl : TE) : TI:=fun σ H R => tl σ H fun x H1 => ∃ d o kvs,x = .ref d /\ H1 d = some (.frz o (.dK kvs)) /\ R (ItD d o kvs) H1
theorem pi_dict {tg l : Expr} {tl : TE} (hl : PE X l tl) : PI X tg l (iDict tl):=by
 intro pins s σ H R I h
 refine thn (hl pins s σ H _ I h) fun v s1 ⟨x,H1,I1,r1,q1⟩ => ?_
 obtain ⟨d,o,kvs,rfl,hd,q⟩:=q1
 cases r1
 obtain ⟨ho,lo,vs,ep,es,rel,hdat,hat⟩:=frz_at I1.hok hd
 refine wpAny_pyIter_dict lo hat ?_
 refine ⟨s1.heap.objs.size,[s1.heap.objs.size],_,_,H1,rfl,I1.kept (t':=s1.toks) fun b o e => Heap.get?_push_of_some _ e,turn_dict d _ o kvs es ep hdat,⟨_,Heap.get?_push_size _ rfl,rfl,by rw [kv_len rel]; rfl⟩,fun b hb => ?_,q⟩
 have e : b = s1.heap.objs.size:=by simpa using hb
 subst e
 exact I1.fpOk (Nat.le_refl _) (I1.hok.fresh (Nat.le_refl _))
theorem w_compD {tl : TE} {nt : Nat} {cs : List Nat} {g : TG} {tt : TT} {te : TE} {σ : St} {H : Hp} {Q : VK} : tComp (iDict tl) nt cs g tt te σ H Q = (tl σ H fun x H1 => ∃ d o kvs,x = .ref d /\ H1 d = some (.frz o (.dK kvs)) /\ CompIt (ItD d o kvs) nt cs g tt te σ H1 Q):=rfl
theorem it_D {d : Addr} {o : Obj} {kvs : List (Key × V)} {H : Hp} (h : H d = some (.frz o (.dK kvs))) {H' : Hp} (s : Same H H') : (∀ i,i < (kvs.map fun q => kV q.1).length -> (ItD d o kvs).go i H') /\ (∀ i x H2,(ItD d o kvs).yld i H' x H2 -> H2 = H' /\ (i < (kvs.map fun q => kV q.1).length -> (kvs.map fun q => kV q.1)[i]? = some x)) /\ (ItD d o kvs).stop (kvs.map fun q => kV q.1).length H':=by
 refine ⟨fun i hi => ⟨s _ _ h,by rwa [List.length_map] at hi⟩,fun i x H2 y => ⟨y.1,fun _ => y.2⟩,⟨s _ _ h,by rw [List.length_map]; exact Nat.le_refl _⟩⟩
end
end L2
set_option Elab.async false
set_option linter.all false
set_option maxRecDepth 100000
set_option maxHeartbeats 1000000
namespace L2
open PySem PySem.Spec PyProof.Rows
theorem oddU : ∀ (a b : Nat) {m n : Int},m % 2 = 1 -> n % 2 = 1 -> m * 2 ^ a = n * 2 ^ b -> m = n
 | 0,0,m,n,_,_,h => by simpa using h
 | 0,b + 1,m,n,hm,_,h => by
  rw [Int.pow_succ,← Int.mul_assoc,Int.pow_zero,Int.mul_one] at h
  omega
 | a + 1,0,m,n,_,hn,h => by
  rw [Int.pow_succ,← Int.mul_assoc,Int.pow_zero,Int.mul_one] at h
  omega
 | a + 1,b + 1,m,n,hm,hn,h => by
  rw [Int.pow_succ,Int.pow_succ,← Int.mul_assoc,← Int.mul_assoc] at h
  exact oddU a b hm hn (by omega)
theorem core_abs {n : Int} (h : n ≠ 0) : ∃ k : Nat,(n.natAbs : Int) = coreN n * 2 ^ k:=by
 obtain ⟨c1,c2,k,c3,c4,c5,_⟩:=core_props h
 refine ⟨k,?_⟩
 have pp:=Int.mul_pos c1 (pow_pos2 k)
 generalize coreN n * 2 ^ k = g at c4 pp
 rcases c5 with e | e <;> rw [e] at c4 <;> omega
theorem core_is {n m : Int} {k : Nat} (hn : n ≠ 0) (hm : m % 2 = 1) (h : (n.natAbs : Int) = m * 2 ^ k) : coreN n = m:=by
 obtain ⟨j,e⟩:=core_abs hn
 exact oddU j k (core_props hn).2.1 hm (by rw [← e,h])
theorem coreN_neg (n : Int) : coreN (-n) = coreN n:=by
 by_cases h : n = 0
 ·subst h; rfl
 ·obtain ⟨k,e⟩:=core_abs h
  exact core_is (k:=k) (by omega) (core_props h).2.1 (by rw [← e]; omega)
theorem core_odd {n : Int} (h : n % 2 = 1) (hp : 0 < n) : coreN n = n:=core_is (k:=0) (by omega) h (by rw [Int.pow_zero,Int.mul_one]; omega)
theorem core_zero : coreN 0 = 0:=rfl
structure OdIn (some_ : List Int) (top : Int) : Prop where
 odd : ∀ x ∈ some_,x % 2 = 1
 lo : ∀ x ∈ some_,1 <= x
 hi : ∀ x ∈ some_,x <= top
def dbl (l top : Int) : Nat -> List Int
 | 0 => [l]
 | n + 1 => l :: (if l <= top then dbl (2 * l) top n else [])
theorem mem_dbl {top : Int} : ∀ (n : Nat) {l x : Int},1 <= l -> top < l * 2 ^ n -> (x ∈ dbl l top n ↔ ∃ k : Nat,x = l * 2 ^ k /\ ∀ j,j < k -> l * 2 ^ j <= top)
 | 0,l,x,hl,ht => by
  rw [Int.pow_zero,Int.mul_one] at ht
  unfold dbl
  rw [List.mem_singleton]
  constructor
  ·rintro rfl
   exact ⟨0,by simp,fun j h => by omega⟩
  ·rintro ⟨k,rfl,h⟩
   cases k with
   | zero => simp
   | succ k =>
    have:=h 0 (by omega)
    rw [Int.pow_zero,Int.mul_one] at this
    omega
 | n + 1,l,x,hl,ht => by
  unfold dbl
  rw [List.mem_cons]
  have e : ∀ k : Nat,l * 2 ^ (k + 1) = 2 * l * 2 ^ k:=fun k => by rw [Int.pow_succ]; rw [Int.mul_comm 2 l,Int.mul_assoc,Int.mul_comm 2]
  constructor
  ·rintro (rfl | h)
   ·exact ⟨0,by simp,fun j h => by omega⟩
   ·by_cases z : l <= top
    ·rw [if_pos z] at h
     obtain ⟨k,rfl,hk⟩:=(mem_dbl n (by omega) (by rw [← e]; exact ht)).mp h
     refine ⟨k + 1,(e k).symm,fun j hj => ?_⟩
     cases j with
     | zero => rw [Int.pow_zero,Int.mul_one]; exact z
     | succ j => rw [e]; exact hk j (by omega)
    ·rw [if_neg z] at h
     cases h
  ·rintro ⟨k,rfl,hk⟩
   cases k with
   | zero => exact .inl (by simp)
   | succ k =>
    have z : l <= top:=by
     have:=hk 0 (by omega)
     rwa [Int.pow_zero,Int.mul_one] at this
    refine .inr ?_
    rw [if_pos z]
    exact (mem_dbl n (by omega) (by rw [← e]; exact ht)).mpr ⟨k,e k,fun j hj => by rw [← e]; exact hk (j + 1) (by omega)⟩
theorem dbl_le {top : Int} : ∀ (n : Nat) {l x : Int},1 <= l -> l <= 2 * top -> x ∈ dbl l top n -> 1 <= x /\ x <= 2 * top
 | 0,l,x,hl,h2,h => by
  unfold dbl at h
  rw [List.mem_singleton.mp h]
  omega
 | n + 1,l,x,hl,h2,h => by
  unfold dbl at h
  rcases List.mem_cons.mp h with rfl | h
  ·omega
  ·by_cases z : l <= top
   ·rw [if_pos z] at h
    exact dbl_le n (by omega) (by omega) h
   ·rw [if_neg z] at h
    cases h
def pm (some_ : List Int) (h : Int) : List Int:=some_.flatMap fun r => [h + r,h - r]
def sumsL (some_ : List Int) (top : Int) : List Int:=some_.flatMap fun l => (dbl l top 7).flatMap (pm some_)
theorem mem_pm {some_ : List Int} {h x : Int} : x ∈ pm some_ h ↔ ∃ r ∈ some_,x = h + r \/ x = h - r:=by
 unfold pm
 rw [List.mem_flatMap]
 constructor
 ·rintro ⟨r,hr,hx⟩
  exact ⟨r,hr,by simpa using hx⟩
 ·rintro ⟨r,hr,hx⟩
  exact ⟨r,hr,by simpa using hx⟩
theorem mem_sums {some_ : List Int} {top x : Int} : x ∈ sumsL some_ top ↔ ∃ l ∈ some_,∃ h ∈ dbl l top 7,∃ r ∈ some_,x = h + r \/ x = h - r:=by
 unfold sumsL
 rw [List.mem_flatMap]
 constructor
 ·rintro ⟨l,hl,hx⟩
  obtain ⟨h,hh,hx⟩:=List.mem_flatMap.mp hx
  exact ⟨l,hl,h,hh,mem_pm.mp hx⟩
 ·rintro ⟨l,hl,h,hh,hx⟩
  exact ⟨l,hl,List.mem_flatMap.mpr ⟨h,hh,mem_pm.mpr hx⟩⟩
def madeL (some_ : List Int) (top : Int) : List Int:=sortI (ded (((ded (sumsL some_ top)).map coreN).filter fun c => decide (0 < c /\ c <= top)))
theorem mem_made {some_ : List Int} {top x : Int} : x ∈ madeL some_ top ↔ (0 < x /\ x <= top) /\ ∃ y ∈ sumsL some_ top,coreN y = x:=by
 unfold madeL
 rw [(sortI_perm _).mem_iff,mem_ded,List.mem_filter,List.mem_map,decide_eq_true_eq]
 constructor
 ·rintro ⟨⟨y,hy,e⟩,h⟩
  exact ⟨h,y,(mem_ded _ _).mp hy,e⟩
 ·rintro ⟨h,y,hy,e⟩
  exact ⟨⟨y,(mem_ded _ _).mpr hy,e⟩,h⟩
theorem pow_even {k : Nat} (h : 0 < k) (l : Int) : (l * 2 ^ k) % 2 = 0:=by
 obtain ⟨j,rfl⟩ : ∃ j,k = j + 1:=⟨k - 1,by omega⟩
 rw [Int.pow_succ,← Int.mul_assoc]
 omega
theorem pow_mono2 {l : Int} (hl : 1 <= l) {i j : Nat} (h : i <= j) : l * 2 ^ i <= l * 2 ^ j:=by
 obtain ⟨d,rfl⟩ : ∃ d,j = i + d:=⟨j - i,by omega⟩
 rw [Int.pow_add,← Int.mul_assoc]
 have p1:=pow_pos2 d
 have p2 : 0 < l * 2 ^ i:=Int.mul_pos (by omega) (pow_pos2 i)
 generalize (2 : Int) ^ d = g at p1
 generalize l * 2 ^ i = m at p2
 have:=Int.mul_le_mul_of_nonneg_left (show (1 : Int) <= g by omega) (show 0 <= m by omega)
 omega
theorem ded_nd (xs : List Int) : (ded xs).Nodup:=by
 refine snoc_ind (p:=fun xs => (ded xs).Nodup) (by simp [ded]) (fun ys y ih => ?_) xs
 rw [ded_snoc]
 by_cases h : y ∈ ded ys
 ·rw [if_pos h]; exact ih
 ·rw [if_neg h,List.nodup_append]
  exact ⟨ih,by simp,fun a ha b hb e => h (by rw [List.mem_singleton.mp hb] at e; exact e ▸ ha)⟩
theorem made_rise (some_ : List Int) (top : Int) : (madeL some_ top).Pairwise (· < ·):=by
 unfold madeL
 generalize (((ded (sumsL some_ top)).map coreN).filter fun c => decide (0 < c /\ c <= top)) = xs
 have h1:=sortI_sorted (ded xs)
 have h2 : (sortI (ded xs)).Nodup:=(sortI_perm _).nodup_iff.mpr (ded_nd xs)
 have:=h1.and h2
 exact this.imp fun ⟨a,b⟩ => by omega
theorem nodup_len : ∀ {l m : List Int},l.Nodup -> (∀ x ∈ l,x ∈ m) -> l.length <= m.length
 | [],m,_,_ => Nat.zero_le _
 | a :: r,m,nd,h => by
  have nd':=List.nodup_cons.mp nd
  have am:=h a List.mem_cons_self
  have:=nodup_len (m:=m.erase a) nd'.2 fun x hx => by
   have xa : x ≠ a:=fun e => nd'.1 (e ▸ hx)
   exact (List.mem_erase_of_ne xa).mpr (h x (List.mem_cons_of_mem _ hx))
  rw [List.length_erase_of_mem am] at this
  have ml:=List.length_pos_of_mem am
  rw [List.length_cons]
  omega
theorem between_len {l : List Int} {lo : Int} {n : Nat} (nd : l.Nodup) (h : ∀ x ∈ l,lo <= x /\ x < lo + n) : l.length <= n:=by
 have:=nodup_len (m:=(List.range n).map fun (i : Nat) => lo + (i : Int)) nd fun x hx => by
  obtain ⟨a,b⟩:=h x hx
  exact List.mem_map.mpr ⟨(x - lo).toNat,List.mem_range.mpr (by omega),by omega⟩
 rwa [List.length_map,List.length_range] at this
theorem sums_in {some_ : List Int} {top x : Int} (O : OdIn some_ top) (ht : top <= 99) (h : x ∈ sumsL some_ top) : -99 <= x /\ x < -99 + (400 : Nat):=by
 obtain ⟨l,hl,g,hg,r,hr,hc⟩:=mem_sums.mp h
 have l1:=O.lo l hl
 have l2:=O.hi l hl
 have r1:=O.lo r hr
 have r2:=O.hi r hr
 have:=dbl_le 7 l1 (by omega) hg
 omega
end L2
set_option Elab.async false
set_option linter.all false
set_option maxRecDepth 100000
set_option maxHeartbeats 1000000
namespace L2
open PySem PySem.Spec PyProof.Rows
theorem inV_i (xs : List Int) (c : Int) : inV (.int c) (xs.map V.int) = decide (c ∈ xs):=by
 unfold inV
 rw [List.any_map]
 by_cases h : c ∈ xs
 ·rw [decide_eq_true h,List.any_eq_true]
  exact ⟨c,h,by simp [eqV]⟩
 ·rw [decide_eq_false h,List.any_eq_false]
  intro x hx
  have : x ≠ c:=fun e => h (e ▸ hx)
  simp [eqV,this]
section
variable {K : PySem.W.Frag} {σ : St} {H : Hp} {Q : VK} {cs : List Nat} {te : TE}
end
def spDbl : Sp:=fun vs H Q _ => ∃ (l top : Int),vs = [.int l,.int top] /\ 1 <= l /\ l <= 1000 /\ top < l * 2 ^ 7 /\ ∀ r H',H r = none -> Same H H' -> H' r = some (.lst ((dbl l top 7).map V.int)) -> Q (.ref r) H'
def spCoresD : Sp:=fun vs H Q _ => ∃ (a : Addr) (o : Obj) (ks : List Int),vs = [.ref a] /\ H a = some (.frz o (.dK (ukv ks))) /\ ks.length <= 1000 /\ ∀ l H',H l = none -> Same H H' -> H' l = some (.lst ((ks.map coreN).map V.int)) -> Q (.ref l) H'
def spMade : Sp:=fun vs H Q _ => ∃ (a : Addr) (xs : List Int) (top : Int),vs = [.ref a,.int top] /\ H a = some (.lst (xs.map V.int)) /\ OdIn xs top /\ 1 <= top /\ top <= 99 /\ xs.length <= 100 /\ ∀ l H',H l = none -> Same H H' -> H' l = some (.lst ((madeL xs top).map V.int)) -> Q (.ref l) H'
theorem made_len {xs : List Int} {top : Int} (ht : top <= 99) : (madeL xs top).length <= 99:=by
 have nd : (madeL xs top).Nodup:=(made_rise xs top).imp fun h => by omega
 refine between_len (lo:=1) nd fun x hx => ?_
 have:=(mem_made.mp hx).1
 omega
theorem cores_len {xs : List Int} {top : Int} (O : OdIn xs top) (ht : top <= 99) : (ded (sumsL xs top)).length <= 400:=between_len (ded_nd _) fun x hx => sums_in O ht ((mem_ded _ _).mp hx)
theorem fil_len {xs : List Int} {top : Int} (O : OdIn xs top) (ht : top <= 99) : (ded (((ded (sumsL xs top)).map coreN).filter fun c => decide (0 < c /\ c <= top))).length < 64:=by
 refine Nat.lt_of_le_of_lt (nodup_len (m:=(List.range 50).map fun (i : Nat) => 2 * (i : Int) + 1) (ded_nd _) fun x hx => ?_) (by rw [List.length_map,List.length_range]; decide)
 obtain ⟨h1,h2⟩:=List.mem_filter.mp ((mem_ded _ _).mp hx)
 obtain ⟨y,_,e⟩:=List.mem_map.mp h1
 have h3:=of_decide_eq_true h2
 have y0 : y ≠ 0:=fun z => by rw [z,core_zero] at e; omega
 have odd:=(core_props y0).2.1
 rw [e] at odd
 exact List.mem_map.mpr ⟨((x - 1) / 2).toNat,List.mem_range.mpr (by omega),by omega⟩
def sumsT (xs : List Int) (top : Int) (i : Nat) : List Int:=(xs.take i).flatMap fun l => (dbl l top 7).flatMap (pm xs)
theorem sumsT_all (xs : List Int) (top : Int) : sumsT xs top xs.length = sumsL xs top:=by unfold sumsT sumsL; rw [List.take_length]
theorem sumsT_snoc {xs : List Int} {top l : Int} {i : Nat} (h : xs[i]? = some l) : sumsT xs top (i + 1) = sumsT xs top i ++ (dbl l top 7).flatMap (pm xs):=by
 unfold sumsT
 rw [List.take_add_one,h,List.flatMap_append]
 simp
theorem pm_snoc {xs : List Int} {g x : Int} {k : Nat} (h : xs[k]? = some x) : pm (xs.take (k + 1)) g = pm (xs.take k) g ++ [g + x,g - x]:=by
 unfold pm
 rw [List.take_add_one,h,List.flatMap_append]
 simp
theorem sumsT_sub {xs : List Int} {top l g x : Int} {i j k : Nat} (hl : xs[i]? = some l) (hg : (dbl l top 7)[j]? = some g) (h : x ∈ sumsT xs top i ++ ((dbl l top 7).take j).flatMap (pm xs) ++ pm (xs.take k) g) : x ∈ sumsL xs top:=by
 rw [mem_sums]
 rcases List.mem_append.mp h with h | h
 ·rcases List.mem_append.mp h with h | h
  ·obtain ⟨l',h1,h2⟩:=List.mem_flatMap.mp h
   obtain ⟨g',h3,h4⟩:=List.mem_flatMap.mp h2
   exact ⟨l',List.mem_of_mem_take h1,g',h3,mem_pm.mp h4⟩
  ·obtain ⟨g',h3,h4⟩:=List.mem_flatMap.mp h
   exact ⟨l,List.mem_of_getElem? hl,g',List.mem_of_mem_take h3,mem_pm.mp h4⟩
 ·obtain ⟨r,h1,h2⟩:=mem_pm.mp h
  exact ⟨l,List.mem_of_getElem? hl,g,List.mem_of_getElem? hg,r,List.mem_of_mem_take h1,h2⟩
theorem sumsT_len {xs : List Int} {top l g : Int} {i j k : Nat} (O : OdIn xs top) (ht : top <= 99) (hl : xs[i]? = some l) (hg : (dbl l top 7)[j]? = some g) : (ded (sumsT xs top i ++ ((dbl l top 7).take j).flatMap (pm xs) ++ pm (xs.take k) g)).length <= 400 :=
 between_len (ded_nd _) fun x hx => sums_in O ht (sumsT_sub hl hg ((mem_ded _ _).mp hx))
theorem sumsT_len2 {xs : List Int} {top l g x : Int} {i j k : Nat} (O : OdIn xs top) (ht : top <= 99) (hl : xs[i]? = some l) (hg : (dbl l top 7)[j]? = some g) (hx : xs[k]? = some x) : (ded (sumsT xs top i ++ ((dbl l top 7).take j).flatMap (pm xs) ++ pm (xs.take k) g ++ [g + x])).length <= 400:=by
 refine between_len (ded_nd _) fun y hy => sums_in O ht (sumsT_sub (k:=k + 1) hl hg ?_)
 rw [pm_snoc hx]
 have:=(mem_ded _ _).mp hy
 simp only [List.mem_append] at this ⊢
 rcases this with h | h
 ·rcases h with h | h
  ·exact .inl h
  ·exact .inr (.inl h)
 ·rw [List.mem_singleton.mp h]
  exact .inr (.inr (by simp))
def inT (top : Int) : V -> Option V:=fun x => match x with
 | .int n => if 0 < n /\ n <= top then some (.int n) else none
 | _ => none
theorem inT_int (top n : Int) : inT top (.int n) = if 0 < n /\ n <= top then some (.int n) else none:=rfl
theorem inT_map (top : Int) : ∀ xs : List Int,(xs.map V.int).filterMap (inT top) = (xs.filter fun c => decide (0 < c /\ c <= top)).map V.int
 | [] => rfl
 | x :: r => by
  rw [List.map_cons,List.filterMap_cons,inT_int]
  by_cases h : 0 < x /\ x <= top
  ·rw [if_pos h,List.filter_cons_of_pos (by simpa using h),List.map_cons,← inT_map top r]
  ·rw [if_neg h,List.filter_cons_of_neg (by simpa using h),← inT_map top r]
end L2
set_option Elab.async false
set_option linter.all false
set_option maxRecDepth 100000
set_option maxHeartbeats 1000000
namespace L2
open PySem PySem.Spec PyProof.Rows
section
variable {prog : Program} {w : World} {A : Around} {E : Value -> Shared -> Prop} {s : Shared} {K : PySem.W.Frag} {x C dx : Addr} {ox : Obj} {name : Str} {v : Value}
end
section
variable {prog : Program} {w : World} {A : Around} {E : Value -> Shared -> Prop} {h : Heap} {g : Array GenState} {d : Drawn} {t : Nat} {os : OsState}
variable {nm q : Str} {C N : Addr} {bs bm bmB : List Value} {hdct : Bool} {sn : List Str} {sub : List Value} {ab : Bool} {col : Option Bool} {dd : Option Addr} {k0 k1 k2 k3 k5 : Option Value} {B newId initId : String}
end
end L2
set_option Elab.async false
set_option linter.all false
set_option maxRecDepth 100000
set_option maxHeartbeats 1000000
namespace L2
open PySem PySem.Spec PyProof.Rows
section
variable {X : Cx} {pins : List (Addr × Obj)} {σ : St} {H : Hp} {s : Shared} {x C t : Addr} {f : Str}
end
end L2
set_option Elab.async false
set_option linter.all false
set_option maxRecDepth 100000
set_option maxHeartbeats 1000000
namespace L2
open PySem PySem.Spec PyProof.Rows
section
variable {M : Model} {A : Around} {E : Value -> Shared -> Prop} {env : Env}
variable {nm q : Str} {C N : Addr} {bs bm : List Value} {hdct : Bool} {sn : List Str} {sub : List Value} {ab : Bool} {col : Option Bool} {dd : Option Addr} {k0 k1 k2 k3 k5 : Option Value} {newId : String}
end
section
variable {X : Cx} {C : Addr} {f : Str}
end
end L2
set_option Elab.async false
set_option linter.all false
set_option maxRecDepth 100000
set_option maxHeartbeats 1000000
namespace L2
open PySem PySem.Spec PyProof.Rows
section
variable {prog : Program} {w : World} {A : Around} {E : Value -> Shared -> Prop} {s : Shared} {K : PySem.W.Frag} {x D : Addr} {o : Obj} {od : Option Obj}
end
end L2
set_option Elab.async false
set_option linter.all false
set_option maxRecDepth 100000
set_option maxHeartbeats 1000000
namespace L2
open PySem PySem.Spec PyProof.Rows
section
variable {α : Type} {p : α -> Bool} {l : List α} {i : Nat} {x : α}
end
section
variable {K : PySem.W.Frag} {σ : St} {H : Hp} {Q : VK} {cs : List Nat} {te : TE}
end
section
variable {K : PySem.W.Frag} {σ : St} {H : Hp} {Q : VK} {cs : List Nat} {te : TE}
end
end L2
set_option Elab.async false
set_option linter.all false
set_option maxRecDepth 100000
set_option maxHeartbeats 1000000
namespace L2
open PySem PySem.Spec PyProof.Rows
end L2
set_option Elab.async false
set_option linter.all false
set_option maxRecDepth 100000
set_option maxHeartbeats 1000000
namespace L2
open PySem PySem.Spec PyProof.Rows PySem.W
section
variable {key : Nat -> Int} {n : Nat} {p q : Array Nat}
end
end L2
set_option Elab.async false
set_option linter.all false
set_option maxRecDepth 100000
set_option maxHeartbeats 1000000
namespace L2
open PySem PySem.Spec PyProof.Rows PySem.W
section
variable {prog : Program} {w : World} {A : Around} {E : Value -> Shared -> Prop} {s : Shared} {vs : List Value} {ks : List Int}
end
end L2
set_option Elab.async false
set_option linter.all false
set_option maxRecDepth 100000
set_option maxHeartbeats 1000000
namespace L2
open PySem PySem.Spec PyProof.Rows PySem.W
def spMadeT (K : PySem.W.Frag) : Sp:=fun vs H Q _ => ∃ (a : Addr) (xs : List Int) (top : Int),vs = [.ref a,.int top] /\ SqT K H a (xs.map V.int) /\ OdIn xs top /\ 1 <= top /\ top <= 99 /\ xs.length <= 100 /\ ∀ l H',H l = none -> Same H H' -> H' l = some (.lst ((madeL xs top).map V.int)) -> Q (.ref l) H'
def farB (top most : Int) : Prop:=99 < top \/ 4 < most \/ (31 < top /\ 3 < most)
def spRefB (M : Addr) : Sp:=fun vs H Q E => ∃ (top most : Int),vs = [.int top,.int most] /\ (¬ farB top most -> Q .non H) /\ (farB top most -> E (.ref M) none H)
section
variable {K : PySem.W.Frag} {σ : St} {H : Hp} {Q : VK} {cs : List Nat} {te : TE}
end
end L2
set_option Elab.async false
set_option linter.all false
set_option maxRecDepth 100000
set_option maxHeartbeats 1000000
namespace L2
open PySem PySem.Spec PyProof.Rows
end L2
set_option Elab.async false
set_option linter.all false
set_option maxRecDepth 100000
set_option maxHeartbeats 1000000
namespace L2
open PySem PySem.Spec PyProof.Rows
section
variable {X : Cx} {pos : Pos}
end
end L2
set_option Elab.async false
set_option linter.all false
set_option maxRecDepth 100000
set_option maxHeartbeats 1000000
namespace L2
open PySem PySem.Spec PyProof.Rows
end L2
set_option Elab.async false
set_option linter.all false
set_option maxRecDepth 100000
set_option maxHeartbeats 1000000
namespace L2
open PySem PySem.Spec PyProof.Rows
def Ex (s v : Int) : Prop:=s < 0 -> (2 : Int) ^ (-s).toNat ∣ v
def Sx (s v w : Int) : Prop:=w * 2 ^ (-s).toNat = v * 2 ^ s.toNat
theorem Ex.sx {s v : Int} (h : Ex s v) : Sx s v (mvI s v):=by
 unfold Sx
 by_cases z : s < 0
 ·rw [mvI_down z,show s.toNat = 0 by omega,Int.pow_zero,Int.mul_one]
  exact Int.ediv_mul_cancel (h z)
 ·rw [mvI_up (by omega),show (-s).toNat = 0 by omega,Int.pow_zero,Int.mul_one]
theorem Sx.ex {s v w : Int} (h : Sx s v w) : Ex s v /\ mvI s v = w:=by
 unfold Sx at h
 by_cases z : s < 0
 ·rw [show s.toNat = 0 by omega,Int.pow_zero,Int.mul_one] at h
  refine ⟨fun _ => ⟨w,by rw [← h,Int.mul_comm]⟩,?_⟩
  rw [mvI_down z,← h]
  exact Int.mul_ediv_cancel _ (by have:=pow_pos2 (-s).toNat; omega)
 ·rw [show (-s).toNat = 0 by omega,Int.pow_zero,Int.mul_one] at h
  exact ⟨fun y => absurd y z,by rw [mvI_up (by omega),h]⟩
theorem Sx.add {s t v w u : Int} (h1 : Sx s v w) (h2 : Sx t w u) : Sx (s + t) v u:=by
 unfold Sx at *
 obtain ⟨c,e1,e2⟩ : ∃ c : Nat,(-t).toNat + (-s).toNat = (-(s + t)).toNat + c /\ s.toNat + t.toNat = (s + t).toNat + c:=⟨(-t).toNat + (-s).toNat - (-(s + t)).toNat,by omega,by omega⟩
 have pc:=pow_pos2 c
 have k : u * 2 ^ ((-t).toNat + (-s).toNat) = v * 2 ^ (s.toNat + t.toNat):=by
  rw [Int.pow_add,Int.pow_add,← Int.mul_assoc,h2,← Int.mul_assoc,← h1,Int.mul_assoc,Int.mul_assoc,Int.mul_comm (2 ^ t.toNat)]
 rw [e1,e2,Int.pow_add,Int.pow_add,← Int.mul_assoc,← Int.mul_assoc] at k
 exact Int.eq_of_mul_eq_mul_right (by omega) k
theorem mv_add {s t v : Int} (h1 : Ex s v) (h2 : Ex t (mvI s v)) : Ex (s + t) v /\ mvI (s + t) v = mvI t (mvI s v):=(h1.sx.add h2.sx).ex
theorem Ex.neg {s v : Int} (h : Ex s v) : Ex s (-v):=fun z => Int.dvd_neg.mpr (h z)
theorem mv_neg {s v : Int} (h : Ex s v) : mvI s (-v) = - mvI s v:=by
 refine (Sx.ex ?_).2
 have:=h.sx
 unfold Sx at *
 rw [Int.neg_mul,Int.neg_mul,this]
def movG (p : Go) (s g : Int) : Go:=if p.sg * g = 0 then ⟨0,0,0⟩ else ⟨p.th,p.sh + s,p.sg * g⟩
def deedG (p q : Go) : Wd:=if p.sg = q.sg then ⟨Str.ofString "sum",p.th,p.sh,q.th,q.sh⟩ else if p.sg = 1 then ⟨Str.ofString "less",p.th,p.sh,q.th,q.sh⟩ else ⟨Str.ofString "less",q.th,q.sh,p.th,p.sh⟩
def signG (p q : Go) : Int:=if p.sg = q.sg then p.sg else 1
def addG (ins : Nat) (ds : List Wd) (p q : Go) : List Wd:=if p.sg = 0 then ds else if q.sg = 0 then ds else ds ++ [deedG p q]
def addP (ins : Nat) (ds : List Wd) (p q : Go) : Go:=if p.sg = 0 then q else if q.sg = 0 then p else ⟨ins + ds.length,0,signG p q⟩
def g0 : Go:=⟨0,0,0⟩
def SgOk (p : Go) : Prop:=p = g0 \/ p.sg = 1 \/ p.sg = -1
theorem SgOk.cases {p : Go} (h : SgOk p) : (p.sg = 0 /\ p = g0) \/ p.sg = 1 \/ p.sg = -1:=by
 rcases h with z | z | z
 ·exact .inl ⟨by rw [z]; rfl,z⟩
 ·exact .inr (.inl z)
 ·exact .inr (.inr z)
structure PtOkV (n : Nat) (vs : List Int) (p : Go) : Prop where
 th : p.th < n
 sg : SgOk p
 ex : Ex p.sh (vs.getD p.th 0)
theorem mov_val {n : Nat} {vs : List Int} {p : Go} {s g : Int} (h : PtOkV n vs p) (hn : 0 < n) (hg : g = 1 \/ g = -1) (he : Ex s (outV vs p)) : PtOkV n vs (movG p s g) /\ outV vs (movG p s g) = g * mvI s (outV vs p):=by
 rcases h.sg.cases with ⟨z,z0⟩ | z
 ·have e : movG p s g = g0:=by unfold movG; rw [if_pos (by rw [z,Int.zero_mul])]; rfl
  rw [e]
  refine ⟨⟨hn,.inl rfl,fun y => absurd y (by decide)⟩,?_⟩
  unfold outV g0
  rw [z,Int.zero_mul,Int.zero_mul,mvI_0,Int.mul_zero]
 ·have e : movG p s g = ⟨p.th,p.sh + s,p.sg * g⟩:=by
   unfold movG
   rw [if_neg]
   rcases z with z | z <;> rcases hg with y | y <;> rw [z,y] <;> decide
  have he' : Ex s (mvI p.sh (vs.getD p.th 0)):=by
   unfold outV at he
   rcases z with z | z
   ·rw [z,Int.one_mul] at he; exact he
   ·rw [z,Int.neg_one_mul] at he
    have:=he.neg
    rw [Int.neg_neg] at this
    exact this
  obtain ⟨m1,m2⟩:=mv_add h.ex he'
  rw [e]
  refine ⟨⟨h.th,.inr ?_,m1⟩,?_⟩
  ·show p.sg * g = 1 \/ p.sg * g = -1
   rcases z with z | z <;> rcases hg with y | y <;> rw [z,y] <;> decide
  ·unfold outV
   show p.sg * g * mvI (p.sh + s) (vs.getD p.th 0) = _
   rw [m2]
   rcases z with z | z
   ·rw [z,Int.one_mul,Int.one_mul]
   ·rw [z,Int.neg_one_mul (mvI p.sh _),mv_neg he',Int.neg_one_mul,Int.neg_mul,Int.mul_neg]
theorem deedG_val {vs : List Int} {p q : Go} (hp : p.sg = 1 \/ p.sg = -1) (hq : q.sg = 1 \/ q.sg = -1) : signG p q * valD vs (deedG p q) = outV vs p + outV vs q:=by
 unfold deedG signG valD outV
 have l1 : sgW (Str.ofString "sum") = 1:=by decide
 have l2 : sgW (Str.ofString "less") = -1:=by decide
 rcases hp with z | z <;> rcases hq with y | y <;> rw [z,y]
 ·rw [if_pos rfl,if_pos rfl]; simp only [l1,Int.one_mul]
 ·rw [if_neg (by decide),if_neg (by decide),if_pos rfl]; simp only [l2,Int.one_mul]
 ·rw [if_neg (by decide),if_neg (by decide),if_neg (by decide)]; simp only [l2,Int.one_mul]; rw [Int.add_comm]
 ·rw [if_pos rfl,if_pos rfl]; simp only [l1,Int.one_mul]; rw [Int.mul_add]
end L2
set_option Elab.async false
set_option linter.all false
set_option maxRecDepth 100000
set_option maxHeartbeats 1000000
namespace L2
open PySem PySem.Spec PyProof.Rows
section
variable {K : PySem.W.Frag} {σ : St} {H : Hp} {Q : VK} {cs : List Nat} {te : TE} {tt : TT}
end
def spMovE (K : PySem.W.Frag) : Sp:=fun vs H Q _ => ∃ (p : Addr) (P : Go) (s g : Int),vs = [.ref p,.int s,.int g] /\ SqT K H p (gTp P) /\ (g = 0 \/ g = 1 \/ g = -1) /\
 ∀ r H',Same H H' -> SqT K H' r (gTp (movG P s g)) -> Q (.ref r) H'
def spDeedE (K : PySem.W.Frag) : Sp:=fun vs H Q _ => ∃ (p q : Addr) (P R : Go),vs = [.ref p,.ref q] /\ SqT K H p (gTp P) /\ SqT K H q (gTp R) /\ ∀ r H',H r = none -> Same H H' -> H' r = some (.tup (wTup (deedG P R))) -> Q (.ref r) H'
def spSignE (K : PySem.W.Frag) : Sp:=fun vs H Q _ => ∃ (p q : Addr) (P R : Go),vs = [.ref p,.ref q] /\ SqT K H p (gTp P) /\ SqT K H q (gTp R) /\ Q (.int (signG P R)) H
def spAddE (K : PySem.W.Frag) : Sp:=fun vs H Q _ => ∃ (ins : Nat) (dl p q : Addr) (us : List V) (ds : List Wd) (P R : Go),vs = [.int ins,.ref dl,.ref p,.ref q] /\ H dl = some (.lst us) /\ HTs wTup H us ds /\ SqT K H p (gTp P) /\ SqT K H q (gTp R) /\ us.length <= 900 /\
 ∀ r us' H',Chg dl H H' -> H' dl = some (.lst us') -> HTs wTup H' us' (addG ins ds P R) -> SqT K H' r (gTp (addP ins ds P R)) -> Q (.ref r) H'
end L2
set_option Elab.async false
set_option linter.all false
set_option maxRecDepth 100000
set_option maxHeartbeats 1000000
namespace L2
open PySem PySem.Spec PyProof.Rows
section
variable {ins m : Nat} {s1 s2 : List Wd} {t1 t2 : List Go}
end
end L2
set_option Elab.async false
set_option linter.all false
set_option maxRecDepth 100000
set_option maxHeartbeats 1000000
namespace L2
open PySem PySem.Spec PyProof.Rows
section
variable {K : PySem.W.Frag} {σ : St} {H : Hp} {Q : VK} {cs : List Nat} {te : TE}
end
section
variable {K : PySem.W.Frag} {σ : St} {H : Hp} {Q : VK} {cs : List Nat} {te : TE}
end
end L2
set_option Elab.async false
set_option linter.all false
set_option maxRecDepth 100000
set_option maxHeartbeats 1000000
namespace L2
open PySem PySem.Spec PyProof.Rows
end L2
set_option Elab.async false
set_option linter.all false
set_option maxRecDepth 100000
set_option maxHeartbeats 1000000
namespace L2
open PySem PySem.Spec PyProof.Rows
end L2
set_option Elab.async false
set_option linter.all false
set_option maxRecDepth 100000
set_option maxHeartbeats 1000000
namespace L2
open PySem PySem.Spec PyProof.Rows
section
variable {ins : Nat} {ds : List Wd} {gs : List Go} {μ : List Int} {B : Int}
end
section
variable {ins : Nat} {ds : List Wd} {gs : List Go} {μ : List Int} {B : Int}
def bs0 (n m : Nat) : List Bool:=List.replicate n false ++ List.replicate m true
end
end L2
set_option Elab.async false
set_option linter.all false
set_option maxRecDepth 100000
set_option maxHeartbeats 1000000
namespace L2
open PySem PySem.Spec PyProof.Rows
section
variable {α : Type} {K : PySem.W.Frag} {f : α -> List V} {H H' : Hp} {vs us : List V} {xs : List α} {l : Addr}
end
section
variable {K : PySem.W.Frag} {σ : St} {H : Hp} {Q : VK} {cs : List Nat} {te : TE}
end
end L2
set_option Elab.async false
set_option linter.all false
set_option maxRecDepth 100000
set_option maxHeartbeats 1000000
namespace L2
open PySem PySem.Spec PyProof.Rows
section
variable {H : Hp} {p dl gl a : Addr} {ins k n j : Nat} {us os : List V} {ds : List Wd} {gs : List Go} {H' H'' : Hp} {c : Int}
end
end L2
set_option Elab.async false
set_option linter.all false
set_option maxRecDepth 100000
set_option maxHeartbeats 1000000
namespace L2
open PySem PySem.Spec PyProof.Rows
section
variable {K : PySem.W.Frag} {σ : St} {H : Hp} {Q : VK} {cs : List Nat} {tt : TT}
end
end L2
set_option Elab.async false
set_option linter.all false
set_option maxRecDepth 100000
set_option maxHeartbeats 1000000
namespace L2
open PySem PySem.Spec PyProof.Rows
section
variable {K : PySem.W.Frag} {σ : St} {H : Hp} {Q : VK} {cs : List Nat} {te : TE}
end
end L2
set_option Elab.async false
set_option linter.all false
set_option maxRecDepth 100000
set_option maxHeartbeats 1000000
namespace L2
open PySem PySem.Spec PyProof.Rows
end L2
set_option Elab.async false
set_option linter.all false
set_option maxRecDepth 100000
set_option maxHeartbeats 1000000
namespace L2
open PySem PySem.Spec PyProof.Rows
end L2
set_option Elab.async false
set_option linter.all false
set_option maxRecDepth 100000
set_option maxHeartbeats 1000000
namespace L2
open PySem PySem.Spec PyProof.Rows
section
variable {prog : Program} {w : World} {A : Around} {E : Value -> Shared -> Prop} {s : Shared}
theorem cat_tup0 {t b : Addr} {vs ws : List Value} {Q : Value -> Shared -> Prop} (ht : IsTup s.heap t vs.toArray) (hb : IsTup s.heap b ws.toArray) (hv : vs = []) (h1 : Q (.ref b) s) : wpAny (model prog w) A (binaryOp .Add (.ref t) (.ref b)) Q E s:=by
 obtain ⟨⟨cls,dd,data,sl⟩,ho,hc,n,hd⟩:=id ht
 obtain ⟨⟨cls2,dd2,data2,sl2⟩,ho2,hc2,n2,hd2⟩:=id hb
 simp only at hc hd hc2 hd2
 subst hc hd hc2 hd2
 exact concat_meets ⟨_,ho,rfl⟩ ⟨_,ho2,rfl⟩ noFill_tuple_add seq_tuple_add PySem.F.slot_tuple_add PySem.F.entry_tuple_add (PySem.F.args_tuple_add_2 _ _)
   (tuple_addW0 t b vs.toArray ws.toArray n n2 dd dd2 sl sl2 (by simp [hv])) ⟨ho,ho2,h1⟩
end
def rCatC (K : PySem.W.Frag) : R2:=fun x y H Q => ∃ a b xs ys,x = .ref a /\ y = .ref b /\ SqT K H a xs /\ SqT K H b ys /\ xs.length + ys.length <= sizeLine /\ ∀ r H',Same H H' -> SqT K H' r (xs ++ ys) -> Q (.ref r) H'
theorem op_catC {X : Cx} : OpR X (binaryOp .Add) (rCatC X.K):=by
 intro pins s σ H x y v u Q I rx ry h
 obtain ⟨a,b,xs,ys,rfl,rfl,ha,hb,hz,q⟩:=h
 by_cases hx : xs = []
 ·cases rx
  cases ry
  obtain ⟨its,r1,p1,_⟩:=I.tuple ha
  obtain ⟨its2,r2,p2,_⟩:=I.tuple hb
  refine cat_tup0 p1 p2 (r1.nil_iff.mpr hx) ⟨.ref b,H,I,rfl,q b H (Same.refl _) ?_⟩
  rw [hx]
  exact hb
 ·refine op_catT pins s σ H (.ref a) (.ref b) v u Q I rx ry ⟨a,b,xs,ys,rfl,rfl,ha,hb,hx,hz,fun e => q a H (Same.refl _) ?_,fun _ p hp => q p _ (same_new hp _) (SqT.of upd_same)⟩
  rw [e,List.append_nil]
  exact ha
end L2
set_option Elab.async false
set_option linter.all false
set_option maxRecDepth 100000
set_option maxHeartbeats 1000000
namespace L2
open PySem PySem.Spec PyProof.Rows
end L2
set_option Elab.async false
set_option linter.all false
set_option maxRecDepth 100000
set_option maxHeartbeats 1000000
namespace L2
open PySem PySem.Spec PyProof.Rows
end L2
set_option Elab.async false
set_option linter.all false
set_option maxRecDepth 100000
set_option maxHeartbeats 1000000
namespace L2
open PySem PySem.Spec PyProof.Rows
section
variable {K : PySem.W.Frag} {H : Hp}
end
end L2
set_option Elab.async false
set_option linter.all false
set_option maxRecDepth 100000
set_option maxHeartbeats 1000000
namespace L2
open PySem PySem.Spec PyProof.Rows
end L2
set_option Elab.async false
set_option linter.all false
set_option maxRecDepth 100000
set_option maxHeartbeats 1000000
namespace L2
open PySem PySem.Spec PyProof.Rows
end L2
set_option Elab.async false
set_option linter.all false
set_option maxRecDepth 100000
set_option maxHeartbeats 1000000
namespace L2
open PySem PySem.Spec PyProof.Rows
end L2
set_option Elab.async false
set_option linter.all false
set_option maxRecDepth 100000
set_option maxHeartbeats 1000000
namespace L2
open PySem PySem.Spec PyProof.Rows
@[elab_as_elim] theorem abs_ {C : Hp -> Prop} {H : Hp} {p : Addr} {o : HO} (np : H p = none) (k : ∀ H',Same H H' -> H' p = some o -> C H') : C (upd H p o):=k _ (same_new np _) upd_same
def NoT (H : Hp) (v : V) : Prop:=flatV v = true \/ ∃ p,v = .ref p /\ ((∃ xs,H p = some (.lst xs)) \/ ∃ kvs,H p = some (.dK kvs))
section
variable {K : PySem.W.Frag} {H : Hp}
end
end L2
set_option Elab.async false
set_option linter.all false
set_option maxRecDepth 100000
set_option maxHeartbeats 1000000
namespace L2
open PySem PySem.Spec PyProof.Rows
section
variable {X : Cx} {o i : Expr} {pos : Pos} {td ty : TE}
end
section
variable {σ : St} {H : Hp} {Q : VK} {a : Addr}
end
section
variable {α : Type}
def lk (rows : List (Int × α)) (c : Int) : Option α:=(rows.find? fun r => decide (r.1 = c)).map (·.2)
def putL (rows : List (Int × α)) (c : Int) (x : α) : List (Int × α):=if (rows.any fun r => decide (r.1 = c)) = true then rows.map (fun r => if r.1 = c then (r.1,x) else r) else rows ++ [(c,x)]
theorem lk_cons {c d : Int} {x : α} {r : List (Int × α)} : lk ((d,x) :: r) c = if d = c then some x else lk r c:=by
 unfold lk
 rw [List.find?_cons]
 by_cases e : d = c
 ·rw [if_pos e,decide_eq_true e]; rfl
 ·rw [if_neg e,decide_eq_false e]
theorem lk_any {c : Int} : ∀ rows : List (Int × α),(rows.any fun r => decide (r.1 = c)) = (lk rows c).isSome
 | [] => rfl
 | (d,x) :: r => by
  rw [List.any_cons,lk_any r,lk_cons]
  by_cases e : d = c
  ·rw [if_pos e,decide_eq_true e]; rfl
  ·rw [if_neg e,decide_eq_false e]; rfl
theorem putL_new {rows : List (Int × α)} {c : Int} {x : α} (h : lk rows c = none) : putL rows c x = rows ++ [(c,x)]:=by
 unfold putL
 rw [lk_any,h]
 exact if_neg (by intro z; cases z)
theorem lk_none {rows : List (Int × α)} {c : Int} : lk rows c = none ↔ c ∉ rows.map (·.1):=by
 induction rows with
 | nil => exact ⟨fun _ h => absurd h List.not_mem_nil,fun _ => rfl⟩
 | cons r rs ih =>
  obtain ⟨d,x⟩:=r
  rw [lk_cons,List.map_cons,List.mem_cons]
  by_cases e : d = c
  ·rw [if_pos e]
   exact ⟨(fun h => by cases h),fun h => absurd (Or.inl e.symm) h⟩
  ·rw [if_neg e,ih]
   exact ⟨fun h z => z.elim (fun y => e y.symm) h,fun h z => h (.inr z)⟩
theorem lk_mem {rows : List (Int × α)} {c : Int} {x : α} (h : lk rows c = some x) : (c,x) ∈ rows:=by
 induction rows with
 | nil => cases h
 | cons r rs ih =>
  obtain ⟨d,y⟩:=r
  rw [lk_cons] at h
  by_cases e : d = c
  ·rw [if_pos e] at h
   cases h
   rw [← e]
   exact List.mem_cons_self
  ·rw [if_neg e] at h
   exact List.mem_cons_of_mem _ (ih h)
inductive DV (R : V -> α -> Prop) : List (Key × V) -> List (Int × α) -> Prop
 | nil : DV R [] []
 | cons {c : Int} {v : V} {x : α} {kvs : List (Key × V)} {rows : List (Int × α)} (h : R v x) (r : DV R kvs rows) : DV R ((.inl c,v) :: kvs) ((c,x) :: rows)
variable {R : V -> α -> Prop} {kvs : List (Key × V)} {rows : List (Int × α)}
theorem DV.imp {R' : V -> α -> Prop} (h : DV R kvs rows) (f : ∀ v x,R v x -> R' v x) : DV R' kvs rows:=by
 induction h with
 | nil => exact .nil
 | cons h _ ih => exact .cons (f _ _ h) ih
theorem DV.len (h : DV R kvs rows) : kvs.length = rows.length:=by
 induction h with
 | nil => rfl
 | cons _ _ ih => rw [List.length_cons,List.length_cons,ih]
theorem DV.keys (h : DV R kvs rows) : (kvs.map fun q => kV q.1) = (rows.map (·.1)).map V.int:=by
 induction h with
 | nil => rfl
 | cons _ _ ih => rw [List.map_cons,ih]; rfl
theorem inl_iff {a b : Int} : (Sum.inl a : Key) = .inl b ↔ a = b:=⟨fun e => Sum.inl.inj e,fun e => by rw [e]⟩
theorem DV.val (h : DV R kvs rows) (c : Int) : (lk rows c = none -> valV kvs (.inl c) = none) /\ ∀ x,lk rows c = some x -> ∃ v,valV kvs (.inl c) = some v /\ R v x:=by
 induction h with
 | nil => exact ⟨fun _ => rfl,fun x h => by cases h⟩
 | @cons d v y kvs rows h r ih =>
  rw [lk_cons]
  by_cases e : d = c
  ·rw [if_pos e,valV_pos (by rw [e])]
   exact ⟨(fun z => by cases z),fun x z => by cases z; exact ⟨v,rfl,h⟩⟩
  ·rw [if_neg e,valV_neg (fun z => e (inl_iff.mp z))]
   exact ih
theorem DV.any (h : DV R kvs rows) (c : Int) : (kvs.any fun kv => decide (kv.1 = .inl c)) = (rows.any fun r => decide (r.1 = c)):=by
 rw [valV_any,lk_any]
 cases e : lk rows c with
 | none => rw [(h.val c).1 e]; rfl
 | some x =>
  obtain ⟨v,hv,_⟩:=(h.val c).2 x e
  rw [hv]
  rfl
theorem DV.mapP (h : DV R kvs rows) {c : Int} {v : V} {x : α} (hv : R v x) : DV R (kvs.map fun kv => if kv.1 = .inl c then (kv.1,v) else kv) (rows.map fun r => if r.1 = c then (r.1,x) else r):=by
 induction h with
 | nil => exact .nil
 | @cons d u y kvs rows h r ih =>
  rw [List.map_cons,List.map_cons]
  by_cases e : d = c
  ·rw [if_pos (by rw [e]),if_pos e]
   exact .cons hv ih
  ·rw [if_neg (fun z => e (inl_iff.mp z)),if_neg e]
   exact .cons h ih
theorem DV.snoc (h : DV R kvs rows) {c : Int} {v : V} {x : α} (hv : R v x) : DV R (kvs ++ [(.inl c,v)]) (rows ++ [(c,x)]):=by
 induction h with
 | nil => exact .cons hv .nil
 | cons h r ih => exact .cons h ih
theorem DV.put (h : DV R kvs rows) {c : Int} {v : V} {x : α} (hv : R v x) : DV R (putK kvs (.inl c) v) (putL rows c x):=by
 unfold putK putL
 rw [h.any c]
 split
 ·exact h.mapP hv
 ·exact h.snoc hv
end
end L2
set_option Elab.async false
set_option linter.all false
set_option maxRecDepth 100000
set_option maxHeartbeats 1000000
namespace L2
open PySem PySem.Spec PyProof.Rows
def ForKs (d : Addr) (o : Obj) (kvs : List (Key × V)) (g : TG) (tb : TS) (D : Ends) (σ : St) (H : Hp) : Prop:=∃ W : Nat -> Nat -> St -> Hp -> Prop,(∃ m,W 0 m σ H) /\ ∀ i m σ H,W i m σ H ->
 ((ItD d o kvs).stop i H /\ D.nx σ H) \/ ((ItD d o kvs).go i H /\ ∃ N : St -> Hp -> Prop,(∀ σ' H',N σ' H' -> ∃ m',m' < m /\ W (i + 1) m' σ' H') /\ ∀ x H',(ItD d o kvs).yld i H x H' -> g x σ H' fun σ2 H2 => tb { D with nx:=N,ct:=N,bk:=D.nx } σ2 H2)
section
variable {σ : St} {H : Hp} {D : Ends} {g : TG} {tb : TS} {d : Addr} {o : Obj} {kvs : List (Key × V)}
theorem w_forKs {tl : TE} : tFor (iDict tl) g tb D σ H = (tl σ H fun x H1 => ∃ d o kvs,x = .ref d /\ H1 d = some (.frz o (.dK kvs)) /\ ForKs d o kvs g tb D σ H1):=rfl
theorem forKs {xs : List V} (hx : (kvs.map fun q => kV q.1) = xs) (Pv : Nat -> St -> Hp -> Prop) (h0 : Pv 0 σ H) (hl : ∀ i σ H,i <= xs.length -> Pv i σ H -> H d = some (.frz o (.dK kvs)))
  (hs : ∀ i x σ H (N : St -> Hp -> Prop),xs[i]? = some x -> Pv i σ H -> (∀ σ' H',Pv (i + 1) σ' H' -> N σ' H') -> g x σ H fun σ2 H2 => tb { D with nx:=N,ct:=N,bk:=D.nx } σ2 H2) (hd : ∀ σ H,Pv xs.length σ H -> D.nx σ H) : ForKs d o kvs g tb D σ H:=by
 subst hx
 have el : (kvs.map fun q => kV q.1).length = kvs.length:=List.length_map _
 refine ⟨fun i m σ H => m = kvs.length - i /\ i <= kvs.length /\ Pv i σ H,⟨_,rfl,Nat.zero_le _,h0⟩,?_⟩
 rintro i m σ H ⟨rfl,hi,p⟩
 have q:=hl i σ H (by omega) p
 by_cases hlt : i < kvs.length
 ·refine .inr ⟨⟨q,hlt⟩,Pv (i + 1),fun σ' H' p' => ⟨kvs.length - (i + 1),by omega,rfl,hlt,p'⟩,fun x H' y => ?_⟩
  obtain ⟨rfl,y⟩:=y
  exact hs i x σ _ _ y p fun _ _ z => z
 ·refine .inl ⟨⟨q,by omega⟩,hd σ H ?_⟩
  rw [el,show kvs.length = i by omega]
  exact p
end
theorem w_dget2 {td ty tx : TE} {σ : St} {H : Hp} {Q : VK} : tDGet2 td ty tx σ H Q = (td σ H fun x H1 => ∃ a,x = .ref a /\ IsD H1 a /\ ty σ H1 fun y H2 => tx σ H2 fun z H3 => ∃ o,DGet H3 a y o /\ Q (o.getD z) H3):=rfl
theorem HTs.chgO {α : Type} {f : α -> List V} {H H' : Hp} {a : Addr} {o : HO} {vs : List V} {xs : List α} (h : HTs f H vs xs) (ha : H a = some o) (hn : ∀ ys,o ≠ .tup ys) (c : Chg a H H') : HTs f H' vs xs:=⟨h.len,fun k x e => by
 obtain ⟨p,e1,e2⟩:=h.at_ k x e
 exact ⟨p,e1,c _ _ (ne_of e2 ha fun z => hn _ z.symm) e2⟩⟩
section
variable {L : Nat} {n : Int}
end
end L2
set_option Elab.async false
set_option linter.all false
set_option maxRecDepth 100000
set_option maxHeartbeats 1000000
namespace L2
open PySem PySem.Spec PyProof.Rows
section
variable {X : Cx}
end
end L2
set_option Elab.async false
set_option linter.all false
set_option maxRecDepth 100000
set_option maxHeartbeats 1000000
namespace L2
open PySem PySem.Spec PyProof.Rows PySem.W
section
variable {prog : Program} {w : World} {A : Around} {E : Value -> Shared -> Prop} {s : Shared} {vs : List Value} {xss : List (List Int)} {a : Addr}
end
end L2
set_option Elab.async false
set_option linter.all false
set_option maxRecDepth 100000
set_option maxHeartbeats 1000000
namespace L2
open PySem PySem.Spec PyProof.Rows
end L2
set_option Elab.async false
set_option linter.all false
set_option maxRecDepth 100000
set_option maxHeartbeats 1000000
namespace L2
open PySem PySem.Spec PyProof.Rows PySem.W
section
variable {prog : Program} {w : World} {A : Around} {E : Value -> Shared -> Prop} {κ : SortKind} {it : Array Keyed} {vs : List Value} {s : Shared}
variable {xss : List (List Int)} {a : Addr}
end
end L2
set_option Elab.async false
set_option linter.all false
set_option maxRecDepth 100000
set_option maxHeartbeats 1000000
namespace L2
open PySem PySem.Spec PyProof.Rows
end L2
set_option Elab.async false
set_option linter.all false
set_option maxRecDepth 100000
set_option maxHeartbeats 1000000
namespace L2
open PySem PySem.Spec PyProof.Rows
section
variable {prog : Program} {w : World} {A : Around} {E : Value -> Shared -> Prop}
end
end L2
set_option Elab.async false
set_option linter.all false
set_option maxRecDepth 100000
set_option maxHeartbeats 1000000
namespace L2
open PySem PySem.Spec PyProof.Rows
inductive Tg where
 | f (x : V)
 | l (xs : List Tg)
 | t (xs : List Tg)
 | d (xs : List Tg)
section
variable {X : Cx} {pins : List (Addr × Obj)} {σ : St} {H : Hp} {s : Shared}
end
abbrev FSt:=Int × Int × Int
def mx1 (d st : Int) : Int:=(d + 40692 * st * st + 69621 * st) % 2147483647
def mx2 (m st : Int) : Int:=(m * m + 39373 * m + st) % 2147483579
def mx3 (m : Int) : Int:=(m * m + 16807 * m) % 2147483549
def tkS (m : Int) (s : FSt) : Int × FSt:=if s.1 > 0 then (s.1 % m,(s.1 / m,s.2.1,s.2.2)) else (mx3 (mx2 (mx1 s.2.1 (s.2.2 + 1)) (s.2.2 + 1)) / 64 % m,(s.1,s.2.1,s.2.2 + 1))
def tk : Nat -> Int -> FSt -> Int × FSt
 | 0,_,s => (0,s)
 | n + 1,m,s => if m > 10000000 then (((tk n (m / 1000000 + 1) s).1 * 1000000 + (tk n 1000000 (tk n (m / 1000000 + 1) s).2).1) % m,(tk n 1000000 (tk n (m / 1000000 + 1) s).2).2) else tkS m s
def pk (xs : List Int) (i : Int) : Int:=xs.getD i.toNat 0
def pkV (xs : List V) (i : Int) : V:=xs.getD i.toNat .non
def txs : List V:=[.str (Str.ofString ""),.str (Str.ofString "0"),.str (Str.ofString "7"),.str (Str.ofString "-1"),.str (Str.ofString "True"),.str (Str.ofString "None")]
def flt (way : Int) (s : FSt) : Tg × FSt :=
 if way < 3 then (.f (.int (tk 10 (pk [3,1000,10 ^ 60] way) s).1),(tk 10 (pk [3,1000,10 ^ 60] way) s).2)
 else if way < 5 then (.f (.int (-(tk 10 (pk [9,10 ^ 60] (way - 3)) s).1)),(tk 10 (pk [9,10 ^ 60] (way - 3)) s).2)
 else if way = 5 then (.f (pkV [.bl true,.bl false,.non] (tk 10 3 s).1),(tk 10 3 s).2)
 else (.f (pkV txs (tk 10 6 s).1),(tk 10 6 s).2)
def knd (way : Int) (gs : List Tg) : Tg:=if way = 7 then .l gs else if way = 8 then .t gs else .d gs
section
variable {σ : St} {H : Hp} {Q : VK} {cs : List Nat} {te : TE}
end
section
variable {σ : St} {H : Hp} {Q : VK} {cs : List Nat} {te : TE}
end
end L2
set_option Elab.async false
set_option linter.all false
set_option maxRecDepth 100000
set_option maxHeartbeats 1000000
namespace L2
open PySem PySem.Spec PyProof.Rows PySem.W
end L2
set_option Elab.async false
set_option linter.all false
set_option maxRecDepth 100000
set_option maxHeartbeats 1000000
namespace L2
open PySem PySem.Spec PyProof.Rows PySem.W
section
variable {σ : St} {H : Hp} {Q : VK} {cs : List Nat} {te : TE} {K : PySem.W.Frag}
end
end L2
set_option Elab.async false
set_option linter.all false
set_option maxRecDepth 100000
set_option maxHeartbeats 1000000
namespace L2
open PySem PySem.Spec PyProof.Rows PySem.W
def maskN (xs : List Int) : Nat:=xs.foldr (fun n m => 2 ^ n.toNat ||| m) 0
theorem mask_bit {xs : List Int} (h : ∀ n ∈ xs,0 <= n) (j : Nat) : (maskN xs).testBit j = true ↔ (j : Int) ∈ xs:=by
 induction xs with
 | nil => simp [maskN]
 | cons x xs ih =>
  have ih:=ih fun n hn => h n (List.mem_cons_of_mem _ hn)
  have hx:=h x List.mem_cons_self
  show (2 ^ x.toNat ||| maskN xs).testBit j = true ↔ _
  rw [Nat.testBit_or,Bool.or_eq_true,ih,Nat.testBit_two_pow,decide_eq_true_eq,List.mem_cons]
  constructor
  ·rintro (e | e)
   ·exact .inl (by omega)
   ·exact .inr e
  ·rintro (e | e)
   ·exact .inl (by omega)
   ·exact .inr e
theorem mask_congr {xs ys : List Int} (hx : ∀ n ∈ xs,0 <= n) (hy : ∀ n ∈ ys,0 <= n) (h : ∀ n,n ∈ xs ↔ n ∈ ys) : maskN xs = maskN ys:=by
 refine Nat.eq_of_testBit_eq fun j => ?_
 rw [Bool.eq_iff_iff,mask_bit hx,mask_bit hy]
 exact h _
theorem mask_nil : maskN [] = 0:=rfl
theorem mask_cons (x : Int) (xs : List Int) : maskN (x :: xs) = 2 ^ x.toNat ||| maskN xs:=rfl
theorem mask_app : ∀ (xs ys : List Int),maskN (xs ++ ys) = maskN xs ||| maskN ys
 | [],ys => by rw [List.nil_append,mask_nil,Nat.zero_or]
 | x :: xs,ys => by rw [List.cons_append,mask_cons,mask_cons,mask_app xs ys,Nat.or_assoc]
theorem mask_one (x : Int) : maskN [x] = 2 ^ x.toNat:=by rw [mask_cons,mask_nil,Nat.or_zero]
theorem or_nat (M N : Nat) : Builtin.bitOr (M : Int) (N : Int) = ((M ||| N : Nat) : Int):=by
 unfold Builtin.bitOr
 have e1 : ∀ k : Nat,Builtin.bitNot (k : Int) = -(k : Int) - 1:=fun k => by unfold Builtin.bitNot; omega
 have e2 : ∀ k : Nat,Builtin.bitNot (-(k : Int) - 1) = (k : Int):=fun k => by unfold Builtin.bitNot; omega
 rw [e1,e1]
 unfold Builtin.bitAnd
 rw [decide_eq_false (by omega : ¬ (0 : Int) <= -(M : Int) - 1),decide_eq_false (by omega : ¬ (0 : Int) <= -(N : Int) - 1)]
 show Builtin.bitNot (Builtin.bitNot _) = _
 rw [e2,e2,e1,e2,Int.toNat_natCast,Int.toNat_natCast]
theorem bit_test (M k : Nat) : ((M : Int) / 2 ^ k) % 2 = 1 ↔ M.testBit k = true:=by
 rw [Nat.testBit_eq_decide_div_mod_eq,decide_eq_true_eq]
 have e : (M : Int) / 2 ^ k = ((M / 2 ^ k : Nat) : Int):=by push_cast; rfl
 rw [e]
 omega
def pairL (a b top : Int) : List Int:=(((dbl a top 7).flatMap fun h => [h + b,h - b]) ++ ((dbl b top 7).flatMap fun h => [h + a,h - a])).map coreN |>.filter fun c => decide (0 < c /\ c <= top)
theorem mem_pair {a b top x : Int} : x ∈ pairL a b top ↔ (0 < x /\ x <= top) /\ ((∃ h ∈ dbl a top 7,coreN (h + b) = x \/ coreN (h - b) = x) \/ ∃ h ∈ dbl b top 7,coreN (h + a) = x \/ coreN (h - a) = x):=by
 unfold pairL
 rw [List.mem_filter,decide_eq_true_eq,List.mem_map]
 constructor
 ·rintro ⟨⟨y,hy,e⟩,h⟩
  refine ⟨h,?_⟩
  rcases List.mem_append.mp hy with z | z
  ·obtain ⟨g,hg,hy'⟩:=List.mem_flatMap.mp z
   rcases List.mem_cons.mp hy' with q | q
   ·exact .inl ⟨g,hg,.inl (by rw [← q]; exact e)⟩
   ·rw [List.mem_singleton] at q
    exact .inl ⟨g,hg,.inr (by rw [← q]; exact e)⟩
  ·obtain ⟨g,hg,hy'⟩:=List.mem_flatMap.mp z
   rcases List.mem_cons.mp hy' with q | q
   ·exact .inr ⟨g,hg,.inl (by rw [← q]; exact e)⟩
   ·rw [List.mem_singleton] at q
    exact .inr ⟨g,hg,.inr (by rw [← q]; exact e)⟩
 ·rintro ⟨h,z⟩
  refine ⟨?_,h⟩
  rcases z with ⟨g,hg,q | q⟩ | ⟨g,hg,q | q⟩
  ·exact ⟨_,List.mem_append_left _ (List.mem_flatMap.mpr ⟨g,hg,List.mem_cons_self⟩),q⟩
  ·exact ⟨_,List.mem_append_left _ (List.mem_flatMap.mpr ⟨g,hg,List.mem_cons_of_mem _ List.mem_cons_self⟩),q⟩
  ·exact ⟨_,List.mem_append_right _ (List.mem_flatMap.mpr ⟨g,hg,List.mem_cons_self⟩),q⟩
  ·exact ⟨_,List.mem_append_right _ (List.mem_flatMap.mpr ⟨g,hg,List.mem_cons_of_mem _ List.mem_cons_self⟩),q⟩
theorem made_pairs {S : List Int} {top x : Int} : x ∈ madeL S top ↔ ∃ a ∈ S,∃ b ∈ S,x ∈ pairL a b top:=by
 rw [mem_made]
 constructor
 ·rintro ⟨h,y,hy,e⟩
  obtain ⟨l,hl,g,hg,r,hr,z⟩:=mem_sums.mp hy
  refine ⟨l,hl,r,hr,mem_pair.mpr ⟨h,.inl ⟨g,hg,?_⟩⟩⟩
  rcases z with z | z
  ·exact .inl (by rw [← z]; exact e)
  ·exact .inr (by rw [← z]; exact e)
 ·rintro ⟨a,ha,b,hb,hx⟩
  obtain ⟨h,z⟩:=mem_pair.mp hx
  refine ⟨h,?_⟩
  rcases z with ⟨g,hg,q | q⟩ | ⟨g,hg,q | q⟩
  ·exact ⟨_,mem_sums.mpr ⟨a,ha,g,hg,b,hb,.inl rfl⟩,q⟩
  ·exact ⟨_,mem_sums.mpr ⟨a,ha,g,hg,b,hb,.inr rfl⟩,q⟩
  ·exact ⟨_,mem_sums.mpr ⟨b,hb,g,hg,a,ha,.inl rfl⟩,q⟩
  ·exact ⟨_,mem_sums.mpr ⟨b,hb,g,hg,a,ha,.inr rfl⟩,q⟩
theorem pair_comm {a b top x : Int} : x ∈ pairL a b top ↔ x ∈ pairL b a top:=by
 rw [mem_pair,mem_pair]
 exact and_congr_right fun _ => or_comm
theorem made_mem {S S' : List Int} {top : Int} (h : ∀ x,x ∈ S ↔ x ∈ S') (x : Int) : x ∈ madeL S top ↔ x ∈ madeL S' top:=by
 rw [made_pairs,made_pairs]
 constructor
 ·rintro ⟨a,ha,b,hb,z⟩
  exact ⟨a,(h a).mp ha,b,(h b).mp hb,z⟩
 ·rintro ⟨a,ha,b,hb,z⟩
  exact ⟨a,(h a).mpr ha,b,(h b).mpr hb,z⟩
theorem pair_in {a b top x : Int} (h : x ∈ pairL a b top) : 0 < x /\ x <= top:=(mem_pair.mp h).1
theorem made_in {S : List Int} {top x : Int} (h : x ∈ madeL S top) : 0 < x /\ x <= top:=(mem_made.mp h).1
theorem made_odd {S : List Int} {top x : Int} (h : x ∈ madeL S top) : x % 2 = 1:=by
 obtain ⟨h1,y,_,e⟩:=mem_made.mp h
 have y0 : y ≠ 0:=fun z => by rw [z,core_zero] at e; omega
 have:=(core_props (n:=y) y0).2.1
 rw [e] at this
 exact this
def keepO (top y : Int) : List Int:=if 0 < y /\ coreN y <= top then [coreN y] else []
def lawP (a b top : Int) (k : Nat) : List Int:=(List.range k).flatMap fun i => keepO top (a * 2 ^ i + b) ++ keepO top (absI (a * 2 ^ i - b))
theorem mem_keep {top y x : Int} : x ∈ keepO top y ↔ 0 < y /\ coreN y <= top /\ coreN y = x:=by
 unfold keepO
 split
 ·rename_i h
  rw [List.mem_singleton]
  exact ⟨fun e => ⟨h.1,h.2,e.symm⟩,fun ⟨_,_,e⟩ => e.symm⟩
 ·rename_i h
  exact ⟨fun z => (nomatch z),fun ⟨h1,h2,_⟩ => absurd ⟨h1,h2⟩ h⟩
theorem lawP_succ (a b top : Int) (k : Nat) : lawP a b top (k + 1) = lawP a b top k ++ (keepO top (a * 2 ^ k + b) ++ keepO top (absI (a * 2 ^ k - b))):=by
 unfold lawP
 rw [List.range_succ,List.flatMap_append,List.flatMap_cons,List.flatMap_nil,List.append_nil]
theorem core_absI (y : Int) : coreN (absI y) = coreN y:=by
 unfold absI
 split
 ·exact coreN_neg y
 ·rfl
theorem half_pair {a b top x : Int} {K : Nat} (a1 : 1 <= a) (a2 : a <= top) (b0 : b % 2 = 1) (b1 : 1 <= b) (b2 : b <= top) (ht : top <= 99) (hK : ∀ i,i < K -> a * 2 ^ i <= top + b) (hE : top + b < a * 2 ^ K) :
  x ∈ lawP a b top K ↔ (0 < x /\ x <= top) /\ ∃ h ∈ dbl a top 7,coreN (h + b) = x \/ coreN (h - b) = x:=by
 have big : top < a * 2 ^ 7:=by
  have e : (2 : Int) ^ 7 = 128:=by decide
  rw [e]
  omega
 unfold lawP
 rw [List.mem_flatMap]
 constructor
 ·rintro ⟨i,hi,hx⟩
  have hi:=List.mem_range.mp hi
  have hd : a * 2 ^ i ∈ dbl a top 7:=(mem_dbl 7 a1 big).mpr ⟨i,rfl,fun j hj => by
   have h1:=hK i hi
   have h2:=pow_mono2 a1 (show j + 1 <= i by omega)
   rw [Int.pow_succ,← Int.mul_assoc] at h2
   omega⟩
  have pp : 0 < a * 2 ^ i:=Int.mul_pos (by omega) (pow_pos2 i)
  rcases List.mem_append.mp hx with z | z
  ·obtain ⟨h1,h2,h3⟩:=mem_keep.mp z
   have:=(core_props (n:=a * 2 ^ i + b) (by omega)).1
   exact ⟨⟨by omega,by omega⟩,_,hd,.inl h3⟩
  ·obtain ⟨h1,h2,h3⟩:=mem_keep.mp z
   have:=(core_props (n:=absI (a * 2 ^ i - b)) (by omega)).1
   rw [core_absI] at h2 h3 this
   exact ⟨⟨by omega,by omega⟩,_,hd,.inr h3⟩
 ·rintro ⟨⟨x0,x1⟩,h,hh,z⟩
  obtain ⟨k,rfl,hk⟩:=(mem_dbl 7 a1 big).mp hh
  have kK : k < K:=Classical.byContradiction fun nk => by
   have h1:=pow_mono2 a1 (show K <= k by omega)
   cases k with
   | zero => rw [Int.pow_zero,Int.mul_one] at h1; omega
   | succ k =>
    have ev:=pow_even (show 0 < k + 1 by omega) a
    rcases z with z | z
    ·rw [core_odd (by omega) (by omega)] at z
     omega
    ·rw [core_odd (by omega) (by omega)] at z
     omega
  refine ⟨k,List.mem_range.mpr kK,List.mem_append.mpr ?_⟩
  have pp : 0 < a * 2 ^ k:=Int.mul_pos (by omega) (pow_pos2 k)
  rcases z with z | z
  ·exact .inl (mem_keep.mpr ⟨by omega,by omega,z⟩)
  ·have n0 : a * 2 ^ k - b ≠ 0:=fun e => by rw [e,core_zero] at z; omega
   exact .inr (mem_keep.mpr ⟨by unfold absI; split <;> omega,by rw [core_absI]; omega,by rw [core_absI]; exact z⟩)
theorem law_pair {a b top : Int} {K L : Nat} (a0 : a % 2 = 1) (a1 : 1 <= a) (a2 : a <= top) (b0 : b % 2 = 1) (b1 : 1 <= b) (b2 : b <= top) (ht : top <= 99) (hK : ∀ i,i < K -> a * 2 ^ i <= top + b) (hE : top + b < a * 2 ^ K) (hL : ∀ i,i < L -> b * 2 ^ i <= top + a) (hF : top + a < b * 2 ^ L) (x : Int) :
  x ∈ lawP a b top K ++ lawP b a top L ↔ x ∈ pairL a b top:=by
 rw [List.mem_append,half_pair a1 a2 b0 b1 b2 ht hK hE,half_pair b1 b2 a0 a1 a2 ht hL hF,mem_pair]
 constructor
 ·rintro (⟨h,z⟩ | ⟨h,z⟩)
  ·exact ⟨h,.inl z⟩
  ·exact ⟨h,.inr z⟩
 ·rintro ⟨h,z | z⟩
  ·exact .inl ⟨h,z⟩
  ·exact .inr ⟨h,z⟩
theorem lawP_nn {a b top : Int} {K : Nat} : ∀ n ∈ lawP a b top K,0 <= n:=fun n hn => by
 obtain ⟨i,_,hx⟩:=List.mem_flatMap.mp hn
 rcases List.mem_append.mp hx with z | z
 ·obtain ⟨h1,h2,h3⟩:=mem_keep.mp z
  have:=(core_props (n:=a * 2 ^ i + b) (by omega)).1
  omega
 ·obtain ⟨h1,h2,h3⟩:=mem_keep.mp z
  have:=(core_props (n:=absI (a * 2 ^ i - b)) (by omega)).1
  omega
inductive RchO (top : Int) : Nat -> List Int -> Prop
 | one : RchO top 1 [1]
 | more {k : Nat} {own : List Int} {n : Int} : RchO top k own -> n ∈ madeL own top -> n ∉ own -> RchO top (k + 1) (own ++ [n])
theorem RchO.ok {top : Int} {k : Nat} {own : List Int} (h : RchO top k own) (ht : 1 <= top) : OdIn own top /\ own.length = k /\ 1 <= k:=by
 induction h with
 | one =>
  refine ⟨⟨fun x hx => ?_,fun x hx => ?_,fun x hx => ?_⟩,rfl,Nat.le_refl _⟩ <;> rw [List.mem_singleton.mp hx] <;> omega
 | more _ hm _ ih =>
  obtain ⟨O,hl,hk⟩:=ih
  refine ⟨⟨fun x hx => ?_,fun x hx => ?_,fun x hx => ?_⟩,by rw [List.length_append,hl]; rfl,by omega⟩ <;> rcases List.mem_append.mp hx with z | z
  ·exact O.odd x z
  ·rw [List.mem_singleton.mp z]; exact made_odd hm
  ·exact O.lo x z
  ·rw [List.mem_singleton.mp z]; have:=made_in hm; omega
  ·exact O.hi x z
  ·rw [List.mem_singleton.mp z]; exact (made_in hm).2
end L2
set_option Elab.async false
set_option linter.all false
set_option maxRecDepth 100000
set_option maxHeartbeats 1000000
namespace L2
open PySem PySem.Spec PyProof.Rows PySem.W
section
variable {prog : Program} {w : World} {A : Around} {E : Value -> Shared -> Prop} {s : Shared}
def kiO (d : Addr) (i n ep : Nat) : Obj:={ cls:=.type "dict_keyiterator",data:=.fields #[.ref d,.int i 0,.int n 0,.int ep 0] }
theorem rk_item {it d : Addr} {i ep : Nat} {o : Obj} {es : Array DictEntry} {e : DictEntry} {Q : Option Value -> Shared -> Prop} (hit : s.heap.get? it = some (kiO d i es.size ep)) (hd : s.heap.get? d = some o) (hdat : o.data = .dict es ep) (hx : es[i]? = some e)
  (hQ : ∀ h',h'.get? it = some (kiO d (i + 1) es.size ep) -> Heap.SameBut it s.heap h' -> Q (some e.key) { s with heap:=h' }) : wpAny (model prog w) A (pyNext (.ref it)) Q E s:=by
 have hT : ∀ h g2 d2 tk os,h.get? it = some (kiO d i es.size ep) -> Shared.TypeIs ⟨h,g2,d2,tk,os⟩ (.ref it) "dict_keyiterator":=fun _ _ _ _ _ e => ⟨_,e,rfl⟩
 unfold kiO at hit
 obtain ⟨oc,od,odat,osl⟩:=o
 cases hdat
 obtain ⟨hp,g,dd,tk,os⟩:=s
 unfold pyNext
 refine wpAny_bind (wpAny_attempt (wpAny_callSpecial?_slot (name:=Str.ofString "__next__") ⟨_,hit,rfl⟩ F.slot_dict_keyiterator_next
  (wpAny_call_entry F.slot_dict_keyiterator_next ⟨_,hit,rfl⟩ F.entry_dict_keyiterator_next ?_ (F.args_dict_keyiterator_next_1 _))))
 unfold Builtin.«dict_keyiterator.__next__»
 wp_walk
 have e1 : ((es.size : Int) != (es.size : Int)) = false:=by simp
 have e2 : ((ep : Int) != (ep : Int)) = false:=by simp
 have ei : ¬ ((i : Int) < 0):=by omega
 simp only [e1,e2,ei,Bool.false_eq_true,if_false,Int.toNat_natCast,hx]
 wp_walk
 refine ⟨_,rfl,wpAny_pure (hQ _ ((Heap.get?_update_self _ hit rfl).trans (congrArg some ?_)) (Heap.SameBut.update ..))⟩
 kernel_rfl
theorem rk_end {it d : Addr} {i ep : Nat} {o : Obj} {es : Array DictEntry} {Q : Option Value -> Shared -> Prop} (hh : A.handled = none) (hit : s.heap.get? it = some (kiO d i es.size ep)) (hd : s.heap.get? d = some o) (hdat : o.data = .dict es ep) (hx : es[i]? = none)
  (hQ : ∀ h',Heap.ExtBut it s.heap h' -> Q none { s with heap:=h' }) : wpAny (model prog w) A (pyNext (.ref it)) Q E s:=by
 unfold kiO at hit
 obtain ⟨oc,od,odat,osl⟩:=o
 cases hdat
 obtain ⟨hp,g,dd,tk,os⟩:=s
 unfold pyNext
 refine wpAny_bind (wpAny_attempt (wpAny_callSpecial?_slot (name:=Str.ofString "__next__") ⟨_,hit,rfl⟩ F.slot_dict_keyiterator_next
  (wpAny_call_entry F.slot_dict_keyiterator_next ⟨_,hit,rfl⟩ F.entry_dict_keyiterator_next ?_ (F.args_dict_keyiterator_next_1 _))))
 unfold Builtin.«dict_keyiterator.__next__»
 wp_walk
 have e1 : ((es.size : Int) != (es.size : Int)) = false:=by simp
 have e2 : ((ep : Int) != (ep : Int)) = false:=by simp
 have ei : ¬ ((i : Int) < 0):=by omega
 simp only [e1,e2,ei,Bool.false_eq_true,if_false,Int.toNat_natCast,hx]
 wp_walk
 unfold raiseNew
 refine wpAny_bind (wpAny_handled ?_)
 rw [show A.in1.handled = none from hh]
 refine wpAny_bind (wpAny_pure (wpAny_throw ?_))
 refine wpAny_bind (wpAny_isInstance (T:="StopIteration") (b:=true) ⟨_,Heap.get?_push_size _ rfl,rfl⟩ isSubtype_stop ?_)
 rw [if_pos rfl]
 exact wpAny_pure (hQ _ fun b u hb e => Heap.get?_push_of_some _ (Heap.get?_push_of_some _ ((Heap.get?_update_other _ _ (Ne.symm hb)).trans e)))
theorem rk_iter {d : Addr} {ep : Nat} {o : Obj} {es : Array DictEntry} {Q : Value -> Shared -> Prop} (lo : (d == sysModules) = false) (hd : s.heap.get? d = some o) (hc : o.cls = .type "dict") (hdat : o.data = .dict es ep)
  (hQ : Q (.ref s.heap.objs.size) { s with heap:=s.heap.push (kiO d 0 es.size ep) }) : wpAny (model prog w) A (pyIter (.ref d)) Q E s:=by
 have hT : s.TypeIs (.ref d) "dict":=⟨o,hd,hc⟩
 refine wpAny_pyIter_slot hT F.slot_dict_iter (wpAny_call_entry F.slot_dict_iter hT F.entry_dict_iter ?_ (F.args_dict_iter_1 _))
 obtain ⟨oc,od,odat,osl⟩:=o
 cases hdat
 cases hc
 obtain ⟨hp,g,dd,tk,os⟩:=s
 unfold Builtin.«dict.__iter__»
 wp_walk
 exact ⟨_,rfl,"dict_keyiterator",_,⟨_,Heap.get?_push_size _ rfl,rfl⟩,F.slot_dict_keyiterator_next.lookup,hQ⟩
end
def RawD (d : Addr) (es : Array DictEntry) (ep : Nat) (h : Heap) : Prop:=∃ o,h.get? d = some o /\ o.cls = .type "dict" /\ o.data = .dict es ep
section
variable {prog : Program} {w : World} {d : Addr} {es : Array DictEntry} {ep : Nat}
theorem raw_walks {A : Around} (hh : A.handled = none) {I : Addr} (hne : d ≠ I) : Walks prog w A I [I,d] [I] es.size (fun i v => ∃ e,es[i]? = some e /\ v = e.key) (fun i h => h.get? I = some (kiO d i es.size ep) /\ RawD d es ep h) where
 sub:=fun b hb => by simp at hb; simp [hb]
 frame:=fun _ _ _ st hk => ⟨hk I (by simp) _ st.1,by obtain ⟨o,h1,h2⟩:=st.2; exact ⟨o,hk d (by simp) _ h1,h2⟩⟩
 item:=fun i s Q E hi st hQ => by
  obtain ⟨o,h1,h2,h3⟩:=st.2
  refine rk_item st.1 h1 h3 (Array.getElem?_eq_getElem hi) fun h' hit' hs' => ?_
  exact hQ _ h' s.toks ⟨_,Array.getElem?_eq_getElem hi,rfl⟩ ⟨hit',o,(hs'.2 d hne).trans h1,h2,h3⟩ fun b o hb e => (hs'.2 b (fun z => hb (by simp [z]))).trans e
 done:=fun s Q E st hQ => by
  obtain ⟨o,h1,h2,h3⟩:=st.2
  exact rk_end hh st.1 h1 h3 (Array.getElem?_eq_none (Nat.le_refl _)) fun h' he' => hQ h' s.toks fun b o hb e => he' b o (fun z => hb (by simp [z])) e
 self:=fun i s Q E st hQ => wpAny_pyIter_keyiter (d:=d) (i:=i) (n:=es.size) (ep:=ep) ⟨_,st.1,rfl,rfl⟩ hQ
theorem raw_src (lo : (d == sysModules) = false) : KdlSrc prog w "dict" d d es.size (fun i v => ∃ e,es[i]? = some e /\ v = e.key) (RawD d es ep) where
 type:=fun _ ⟨o,h1,h2,_⟩ => ⟨o,h1,h2⟩
 there:=fun _ ⟨o,h1,_⟩ => ⟨Heap.lt_size h1,Heap.lt_size h1⟩
 keep:=fun _ _ ⟨o,h1,h2⟩ hk => ⟨o,hk d (.inl rfl) _ h1,h2⟩
 notList:=by decide
 notTuple:=by decide
 hint:=fun _ _ _ _ ⟨o,h1,h2,_⟩ hq => kdl_hint_dict ⟨o,h1,h2⟩ hq
 iter:=fun A s hh ⟨o,h1,h2,h3⟩ => ⟨_,_,(fun _ _ hq => rk_iter lo h1 h2 h3 hq),raw_walks hh (Nat.ne_of_lt (Heap.lt_size h1)),⟨Heap.get?_push_size _ rfl,o,Heap.get?_push_of_some _ h1,h2,h3⟩⟩
end
structure TKs (H : Hp) (us : List V) (ks : List (List Key)) : Prop where
 len : us.length = ks.length
 at_ : ∀ (j : Nat) (k : List Key),ks[j]? = some k -> ∃ b,us[j]? = some (.ref b) /\ H b = some (.tup (k.map kV))
def rListT : List V -> Hp -> VK -> Prop:=fun xs H Q => ∃ (p : Addr) (kvs : List (List Key × V)),xs = [.ref p] /\ H p = some (.dT kvs) /\ ∀ l us,H l = none -> TKs H us (kvs.map (·.1)) -> Q (.ref l) (upd H l (.lst us))
theorem call_list_tks {X : Cx} {k : Nat} (hr : Room k X.A) : CallR X (.type "list") rListT:=by
 intro pins s σ H xs us Q I r h
 obtain ⟨p,kvs,rfl,hp,q⟩:=h
 obtain ⟨u,rfl,rx⟩:=vals1 r
 cases rx
 obtain ⟨z,lo,ys,pr,o,es,ep,h1,h2,h3,h4,h5⟩:=(show ObjOk X.prog X.w H s.heap p (.dT kvs) from I.hok p _ hp)
 have hl : kvs.length = ys.length:=Paired.length pr
 have hes : es.size = ys.length:=by rw [← Array.length_toList,h4,List.length_map]
 refine kdl_call (raw_src (es:=es) (ep:=ep) lo) hr.hd ⟨o,h1,h2.1,h3⟩ (by omega) fun h' tk acc' c' kp e it => ?_
 have keyAt : ∀ (j : Nat) (v : Value),acc'.toList[j]? = some v -> ∃ y,ys[j]? = some y /\ v = .ref y.2.1:=fun j v hj => by
  obtain ⟨en,e1,e2⟩:=it.2 j v (by rw [← Array.getElem?_toList]; exact hj)
  rw [← Array.getElem?_toList,h4,List.getElem?_map] at e1
  obtain ⟨y,hy,rfl⟩:=Option.map_eq_some_iff.mp e1
  exact ⟨y,hy,e2⟩
 have al : acc'.toList.length = ys.length:=by rw [Array.length_toList,it.1,hes]
 have ev : acc'.toList = (ys.map fun y => y.2.1).map Value.ref:=by
  refine List.ext_getElem? fun j => ?_
  rw [List.map_map,List.getElem?_map]
  cases hj : acc'.toList[j]? with
  | none =>
   have : ys.length <= j:=by rw [← al]; exact List.getElem?_eq_none_iff.mp hj
   rw [List.getElem?_eq_none this]
   rfl
  | some v =>
   obtain ⟨y,hy,e2⟩:=keyAt j v hj
   rw [hy,e2]
   rfl
 have pat : ∀ (j : Nat) (kv : List Key × V) (y : List Key × Addr × Value),kvs[j]? = some kv -> ys[j]? = some y -> kv.1 = y.1 /\ H y.2.1 = some (.tup (kv.1.map kV)):=by
  clear keyAt ev q h4 h5 it hl hes z al e hp
  induction pr with
  | nil => intro j kv y e1; simp at e1
  | cons a _ ih =>
   intro j kv y e1 e2
   cases j with
   | zero =>
    simp only [List.getElem?_cons_zero,Option.some.injEq] at e1 e2
    subst e1 e2
    exact ⟨a.1,a.2.1⟩
   | succ j => exact ih j kv y (by simpa using e1) (by simpa using e2)
 have tk' : TKs H ((ys.map fun y => y.2.1).map V.ref) (kvs.map (·.1)):=⟨by rw [List.length_map,List.length_map,List.length_map,hl],fun j k hk => by
  rw [List.getElem?_map] at hk
  obtain ⟨kv,hkv,rfl⟩:=Option.map_eq_some_iff.mp hk
  have jl : j < ys.length:=by rw [← hl]; exact (List.getElem?_eq_some_iff.mp hkv).1
  have hy:=List.getElem?_eq_getElem jl
  exact ⟨ys[j].2.1,by rw [List.map_map,List.getElem?_map,hy]; rfl,(pat j kv _ hkv hy).2⟩⟩
 exact ⟨.ref s.heap.objs.size,_,I.laid (t':=tk) kp (Nat.le_refl _) (show ObjOk X.prog X.w _ h' _ (.lst _) from ⟨by rw [List.length_map,List.length_map]; omega,acc'.toList,c',by rw [ev]; exact vals_refs _,by simpa using e⟩),rfl,q _ _ (I.hok.fresh (Nat.le_refl _)) tk'⟩
end L2
set_option Elab.async false
set_option linter.all false
set_option maxRecDepth 100000
set_option maxHeartbeats 1000000
namespace L2
open PySem PySem.Spec PyProof.Rows PySem.W
section
variable {prog : Program} {w : World} {A : Around} {E : Value -> Shared -> Prop} {s : Shared}
theorem collect_tup {t : Addr} {vs : List Value} {Q : List Value -> Shared -> Prop} (ht : IsTup s.heap t vs.toArray) (hz : vs.length <= 1000)
  (h : Q vs { s with heap:=(s.heap.push (seqObj "list" #[] 0)).update s.heap.objs.size (Obj.mapSeq (· ++ vs.toArray)) }) : wpAny (model prog w) A (collect (.ref t)) Q E s:=by
 obtain ⟨o,ho,hc,n,hd⟩:=ht
 have tl : t ≠ s.heap.objs.size:=Nat.ne_of_lt (Heap.lt_size ho)
 have ho' : (s.heap.push (seqObj "list" #[] 0)).get? t = some o:=Heap.get?_push_of_some _ ho
 have hS : (s.heap.push (seqObj "list" #[] 0)).get? s.heap.objs.size = some (seqObj "list" #[] 0):=Heap.get?_push_size _ rfl
 unfold collect
 refine wpAny_bind (wpAny_runValue (codeAny_builtin entry_proto_collect' ?_))
 rw [Around.under_plainId PySem.F.plain_proto_collect _]
 show wpAny _ _ (newList [] >>= fun l => again (.builtin "list.__iadd__" ⟨[l,.ref t],[]⟩)) _ _ s
 refine wpAny_bind (wpAny_newList (wpAny_pure ⟨plainId_quiet PySem.F.plain_list_iadd _,codeAny_builtin entry_list_iadd' ?_⟩))
 rw [Around.under_plainId PySem.F.plain_list_iadd _]
 show wpAny _ _ (Builtin.List.listExtendWith (.ref s.heap.objs.size) (.ref t) (.ref s.heap.objs.size)) _ _ { s with heap:=s.heap.push (seqObj "list" #[] 0) }
 unfold Builtin.List.listExtendWith
 refine wpAny_bind (wpAny_typeOf (T:="tuple") ⟨o,ho',hc⟩ ?_)
 have sr : Builtin.List.listSameRef (.ref s.heap.objs.size) (.ref t) = false:=by simp [Builtin.List.listSameRef,Ne.symm tl]
 rw [if_pos (by rw [show (Value.type "tuple" == Value.type "tuple") = true from rfl,Bool.or_true])]
 refine wpAny_bind (listItems_at ho' hd ?_)
 refine wpAny_bind (listItems_at hS rfl ?_)
 rw [if_neg (by simp)]
 refine wpAny_bind (listUpdate_at hS rfl ?_ (Nat.zero_le _) (by show (#[] ++ vs.toArray).size <= sizeLine + 1; rw [Array.size_append,List.size_toArray]; have:=le_size hz; show 0 + vs.length <= _; omega))
 refine wpAny_pure ?_
 show wpAny (model prog w) A (load s.heap.objs.size >>= _) Q E _
 refine wpAny_bind (wpAny_load (get?_update_seq hS _) ?_)
 refine wpAny_pure ?_
 rw [show ((#[] : Array Value) ++ vs.toArray).toList = vs by simp]
 exact h
end
def rSortT (K : PySem.W.Frag) : List V -> Hp -> VK -> Prop:=fun xs H Q => ∃ (a : Addr) (ks : List Int),xs = [.ref a] /\ SqT K H a (ks.map V.int) /\ ks.length < 64 /\ ∀ l,H l = none -> Q (.ref l) (upd H l (.lst ((sortI ks).map V.int)))
theorem call_sortT {X : Cx} (K : PySem.W.Frag) (hK : X.K = K:=by rfl) : CallR X (.builtin "sorted") (rSortT K):=by
 subst hK
 intro pins s σ H xs us Q I r h
 obtain ⟨a,ks,rfl,ha,h64,q⟩:=h
 obtain ⟨u,rfl,ru⟩:=vals1 r
 cases ru
 obtain ⟨its,rv,pl,_⟩:=I.tuple ha
 have il : its.length = ks.length:=by rw [← rv.length,List.length_map]
 refine Calls.call_function_entry kind_sorted plain_sorted entry_sorted (args_sorted1 _) ?_
 unfold Builtin.«sorted»
 refine wpAny_bind (m:=checkCount "sorted" 1 1 _) (wpAny_pure ?_)
 refine wpAny_bind (collect_tup pl (by omega) ?_)
 refine wpAny_bind (wpAny_newList ?_ (le_size (by omega)))
 have hsz : ((s.heap.push (seqObj "list" #[] 0)).update s.heap.objs.size (Obj.mapSeq fun x => x ++ its.toArray)).objs.size = s.heap.objs.size + 1:=by rw [Heap.size_update,size_push']
 have hoL : (((s.heap.push (seqObj "list" #[] 0)).update s.heap.objs.size (Obj.mapSeq fun x => x ++ its.toArray)).push (seqObj "list" its.toArray 0)).get? (s.heap.objs.size + 1) = some (seqObj "list" its.toArray 0):=hsz ▸ Heap.get?_push_size _ rfl
 rw [hsz]
 refine wpAny_bind (wpAny_holding (wpAny_call_entry slot_list_sort ⟨_,hoL,rfl⟩ entry_list_sort (list_sort_tree hoL (ints_vals rv) (by omega) fun out ns' a1 a2 a3 => ⟨_,rfl,?_⟩) (args_list_sort _)))
 obtain ⟨e,he⟩:=sortedAll_at s.heap its out
 refine wpAny_pure ⟨_,rfl,?_⟩
 exact laid_sorted (h':=sortedAll s.heap its out) (s:=s) (d:=s.drawn) (tk:=s.toks) I (fun b o q => sortedAll_old q) (Nat.le_succ _) (vs:=out.toList) (by simpa using he) a1 a2 a3 h64 q
end L2
set_option Elab.async false
set_option linter.all false
set_option maxRecDepth 100000
set_option maxHeartbeats 1000000
namespace L2
open PySem PySem.Spec PyProof.Rows PySem.W
def moreL (cs : List Int) (top : Int) : List Int:=(madeL cs top).filter fun o => decide (o ∉ cs)
def growL (cs : List Int) (top : Int) : List (List Int):=if moreL cs top = [] then [cs] else (moreL cs top).map fun o => sortI (cs ++ [o])
def spGrown : Sp:=fun vs H Q _ => ∃ (c : Addr) (cs : List Int) (top : Int),vs = [.ref c,.int top] /\ H c = some (.tup (cs.map V.int)) /\ OdIn cs top /\ 1 <= top /\ top <= 99 /\ cs.length <= 10 /\ ∀ l us H',H l = none -> Same H H' -> H' l = some (.lst us) -> HTs iT H' us (growL cs top) -> Q (.ref l) H'
theorem more_len {cs : List Int} {top : Int} (ht : top <= 99) : (moreL cs top).length <= 99:=Nat.le_trans (List.length_filter_le _ _) (made_len ht)
theorem grow_len {cs : List Int} {top : Int} (ht : top <= 99) : (growL cs top).length <= 99:=by
 unfold growL
 split
 ·show 1 <= 99; omega
 ·rw [List.length_map]; exact more_len ht
theorem op_catCK {X : Cx} (K : PySem.W.Frag) (h : X.K = K:=by rfl) : OpR X (binaryOp .Add) (rCatC K):=by subst h; exact op_catC
section
variable {σ : St} {H : Hp} {Q : VK} {cs : List Nat} {te : TE} {K : PySem.W.Frag}
theorem comp_tupI {l : Addr} {xs : List Int} (f : Int -> List Int) (hl : H l = some (.lst (xs.map V.int))) (hz : xs.length <= 1000)
  (hb : ∀ x H' (R : VK),x ∈ xs -> Same H H' -> (∀ r H5,Same H' H5 -> H' r = none -> H5 r = some (.tup ((f x).map V.int)) -> R (.ref r) H5) -> te (some (.int x) :: capV cs σ) H' R)
  (hd : ∀ acc ws H',H acc = none -> Same H H' -> H' acc = some (.lst ws) -> HTs iT H' ws (xs.map f) -> Q (.ref acc) H') : CompIt (Itl K l) 1 cs (gName 0) tYes te σ H Q:=by
 refine comp_any xs.length (fun acc i ws H' => Same H H' /\ H' acc = some (.lst ws) /\ HTs iT H' ws ((xs.take i).map f)) (le_size hz) ?_ ?_ ?_ ?_ ?_ ?_
 ·rintro acc i ws H' hi ⟨s,_⟩
  exact ⟨xs.map V.int,.int xs[i],SqL.of (s _ _ hl),by rw [List.getElem?_map,List.getElem?_eq_getElem hi]; rfl⟩
 ·rintro acc ws H' ⟨s,_⟩
  exact ⟨_,SqL.of (s _ _ hl),by rw [List.length_map]; exact Nat.le_refl _⟩
 ·intro acc ha
  exact ⟨same_new ha _,upd_same,hts_nil⟩
 ·rintro acc i ws H' ⟨_,ha,ht⟩
  exact ⟨ha,by rw [ht.len,List.length_map,List.length_take]; omega⟩
 ·rintro acc i ws H' ts x H2 N hn hi ⟨s,ha,ht⟩ ⟨rfl,hx⟩ hts hN
  have hx:=hx _ (SqL.of (s _ _ hl))
  obtain ⟨t0,rfl⟩ : ∃ t0,ts = [t0]:=by
   match ts,hts with
   | [a],_ => exact ⟨a,rfl⟩
  rw [w_gName,w_yes,if_pos rfl]
  rw [List.getElem?_map,List.getElem?_eq_getElem hi] at hx
  cases hx
  refine hb _ _ _ (List.getElem_mem hi) s fun r H5 s5 nr h5 => ?_
  have ha5:=s5 _ _ ha
  have ra : r ≠ acc:=(ne_of_none ha nr).symm
  refine ⟨ha5,hN _ [_] _ rfl ⟨same_upd hn (s.trans s5),upd_same,?_⟩⟩
  rw [List.take_succ,List.getElem?_eq_getElem hi,Option.toList_some,List.map_append]
  exact ((ht.same s5).chgL ha5 (Chg.upd _)).snoc (by rw [upd_ne ra]; exact h5)
 ·rintro acc ws H' hn ⟨s,ha,ht⟩
  rw [List.take_length] at ht
  exact hd acc ws H' hn s ha ht
end
def notV (cs : List Int) : V -> Option V:=fun v => match v with
 | .int o => if o ∈ cs then none else some (.int o)
 | _ => none
theorem notV_map (cs : List Int) : ∀ xs : List Int,(xs.map V.int).filterMap (notV cs) = (xs.filter fun o => decide (o ∉ cs)).map V.int
 | [] => rfl
 | x :: xs => by
  rw [List.map_cons,List.filterMap_cons,List.filter_cons,notV_map cs xs]
  by_cases z : x ∈ cs
  ·rw [show notV cs (V.int x) = none from if_pos z,if_neg (by simpa using z)]
  ·rw [show notV cs (V.int x) = some (V.int x) from if_neg z,if_pos (by simpa using z),List.map_cons]
end L2
set_option Elab.async false
set_option linter.all false
set_option maxRecDepth 100000
set_option maxHeartbeats 1000000
namespace L2
open PySem PySem.Spec PyProof.Rows
section
variable {X : Cx} {e : Expr} {es : List Expr} {te : TE} {tj : Str -> TE} {pos : Pos}
def figI (i : Int) : Str:=Str.ofString (toString i)
end
section
variable {X : Cx}
end
section
variable {X : Cx}
end
end L2
set_option Elab.async false
set_option linter.all false
set_option maxRecDepth 100000
set_option maxHeartbeats 1000000
namespace L2
open PySem PySem.Spec PyProof.Rows
section
variable {K : PySem.W.Frag} {σ : St} {H : Hp} {Q : VK} {cs : List Nat} {te : TE}
end
def fig (n : Nat) : Str:=figI n
section
variable {K : PySem.W.Frag} {H : Hp} {Q : VK}
end
@[elab_as_elim] theorem absU {C : Hp -> Prop} {H H2 : Hp} {p : Addr} {o : HO} (np : H p = none) (s : Same H H2) (k : ∀ H',Same H H' -> H' p = some o -> C H') : C (upd H2 p o):=k _ (same_upd np s) upd_same
def stS (n : Nat) (l : List Str) : Str:=Builtin.Str.glued "\n" (("in " ++ fig n) :: l)
end L2
set_option Elab.async false
set_option linter.all false
set_option maxRecDepth 100000
set_option maxHeartbeats 1000000
namespace L2
open PySem PySem.Spec PyProof.Rows
theorem w_neS {x y : Str} {H : Hp} {Q : VK} : rNe (.str x) (.str y) H Q = Q (.bl (!decide (x = y))) H :=
 propext (by
  have e : decide (V.str x = V.str y) = decide (x = y):=by by_cases h : x = y <;> simp [h]
  unfold rNe
  rw [e]
  exact ⟨fun h => h.2,fun h => ⟨rfl,h⟩⟩)
theorem ne_ss {x : Str} {H : Hp} {Q : VK} (h : Q (.bl false) H) : rNe (.str x) (.str x) H Q:=by
 rw [w_neS,decide_eq_true rfl]
 exact h
end L2
set_option Elab.async false
set_option linter.all false
set_option maxRecDepth 100000
set_option maxHeartbeats 1000000
namespace L2
open PySem PySem.Spec PyProof.Rows PySem.W
def tkey (S : List Int) : List Key:=S.map Sum.inl
theorem tkey_kV (S : List Int) : (tkey S).map kV = S.map V.int:=by
 unfold tkey
 rw [List.map_map]
 rfl
theorem tkey_inj {S S' : List Int} (h : tkey S = tkey S') : S = S':=(List.map_inj_right (fun a b e => by cases e; rfl)).mp h
def rDPT : V -> V -> V -> Hp -> (Hp -> Prop) -> Prop:=fun x y v H R => ∃ a b S kvs,x = .ref a /\ y = .ref b /\ H a = some (.dT kvs) /\ H b = some (.tup (S.map V.int)) /\ kvs.length < sizeLine /\ R (upd H a (.dT (putK kvs (tkey S) v)))
def sDPT (td ty tv : TE) : TS:=fun D σ H => tv σ H fun v H1 => td σ H1 fun x H2 => ty σ H2 fun y H3 => rDPT x y v H3 fun H4 => D.nx σ H4
def rDIT (neg : Bool) : R2:=fun y x H Q => ∃ a b S kvs,x = .ref a /\ y = .ref b /\ H a = some (.dT kvs) /\ H b = some (.tup (S.map V.int)) /\ Q (.bl (if neg then !(valV kvs (tkey S)).isSome else (valV kvs (tkey S)).isSome)) H
def rDGT : R2:=fun x y H Q => ∃ a b S kvs,x = .ref a /\ y = .ref b /\ H a = some (.dT kvs) /\ H b = some (.tup (S.map V.int)) /\ ∃ v,valV kvs (tkey S) = some v /\ Q v H
section
variable {X : Cx} {o i e value : Expr} {pos pos' tpos : Pos} {td ty tv : TE}
theorem pe_dgT (hu : X.A.units + 1 < cLine) (ho : PE X o td) (hi : PE X i ty) (hs : NoSl i) : PE X (.Subscript o i pos) (tOp rDGT td ty):=by
 intro pins s σ H Q I h
 refine subD_of PySem.F.slot_dict_getitem.lookup hs (thn (ho pins s σ H _ I h) fun u s1 ⟨x,H1,I1,rx,q1⟩ => thn (hi pins s1 σ H1 _ I1 q1) fun iv s2 ⟨y,H2,I2,ry,q2⟩ => ?_)
 obtain ⟨a,b,S,kvs,rfl,rfl,hk,hb,v,hv,q⟩:=q2
 obtain rfl : u = Value.ref a:=rx
 have g : DGet H2 a (.ref b) (some v):=by rw [← hv]; exact DGet.t hk (by rw [tkey_kV]; exact hb)
 exact ⟨dict_typeIs I2 g,d_getItem hu I2 g ry fun w' s3 I3 rw' => ⟨v,H2,I3,rw',q⟩⟩
theorem ps_dpT (hu : X.A.units + 1 < cLine) (ho : PE X o td) (hi : PE X i ty) (hv : PE X value tv) (hs : swapsWith value (some (.Subscript o i pos')) pos.line X.env = pure false) : PS X (.Assign [.Subscript o i pos'] value pos) (sDPT td ty tv):=by
 intro pins s σ H D I h
 refine wpAny_Assign_Subscript (thn (hv pins s σ H _ I h) fun r s1 ⟨v,H1,I1,rv,q1⟩ => thn (ho pins s1 σ H1 _ I1 q1) fun u s2 ⟨x,H2,I2,rx,q2⟩ => thn (hi pins s2 σ H2 _ I2 q2) fun iv s3 ⟨y,H3,I3,ry,q3⟩ => ?_) hs
 obtain ⟨a,b,S,kvs,rfl,rfl,hk,hb,hz,q⟩:=q3
 obtain rfl : u = Value.ref a:=rx
 exact d_setItem hu I3 (DPut.t (v:=v) hk (by rw [tkey_kV]; exact hb) hz) ry rv fun s4 I4 => ⟨σ,_,I4,q⟩
theorem op_dNT (hu : X.A.units + 1 < cLine) : OpR X (compareOp .NotIn) (rDIT true):=by
 intro pins s σ H x y v u Q I rx ry h
 obtain ⟨a,b,S,kvs,rfl,rfl,hk,hb,q⟩:=h
 obtain rfl : u = Value.ref a:=ry
 exact d_notIn hu I (DGet.t hk (by rw [tkey_kV]; exact hb)) rx fun s' I' => ⟨.bl _,H,I',rfl,q⟩
end
section
variable {σ : St} {H : Hp} {Q : VK} {D : Ends} {a b : Addr} {v : V} {R : Hp -> Prop}
theorem w_sDPT {td ty tv : TE} : sDPT td ty tv D σ H = (tv σ H fun v H1 => td σ H1 fun x H2 => ty σ H2 fun y H3 => rDPT x y v H3 fun H4 => D.nx σ H4):=rfl
theorem w_dpT : rDPT (.ref a) (.ref b) v H R = ∃ S kvs,H a = some (.dT kvs) /\ H b = some (.tup (S.map V.int)) /\ kvs.length < sizeLine /\ R (upd H a (.dT (putK kvs (tkey S) v))) :=
 propext ⟨fun ⟨a',b',S,kvs,e1,e2,q⟩ => by cases e1; cases e2; exact ⟨S,kvs,q⟩,fun ⟨S,kvs,q⟩ => ⟨a,b,S,kvs,rfl,rfl,q⟩⟩
theorem w_dIT {neg : Bool} : rDIT neg (.ref b) (.ref a) H Q = ∃ S kvs,H a = some (.dT kvs) /\ H b = some (.tup (S.map V.int)) /\ Q (.bl (if neg then !(valV kvs (tkey S)).isSome else (valV kvs (tkey S)).isSome)) H :=
 propext ⟨fun ⟨a',b',S,kvs,e1,e2,q⟩ => by cases e1; cases e2; exact ⟨S,kvs,q⟩,fun ⟨S,kvs,q⟩ => ⟨a,b,S,kvs,rfl,rfl,q⟩⟩
theorem w_dgT : rDGT (.ref a) (.ref b) H Q = ∃ S kvs,H a = some (.dT kvs) /\ H b = some (.tup (S.map V.int)) /\ ∃ v,valV kvs (tkey S) = some v /\ Q v H :=
 propext ⟨fun ⟨a',b',S,kvs,e1,e2,q⟩ => by cases e1; cases e2; exact ⟨S,kvs,q⟩,fun ⟨S,kvs,q⟩ => ⟨a,b,S,kvs,rfl,rfl,q⟩⟩
theorem w_dnT : tDNewT σ H Q = ∀ p,H p = none -> Q (.ref p) (upd H p (.dT [])):=rfl
end
def KsT (kvs : List (List Key × V)) (Ss : List (List Int)) : Prop:=kvs.map (·.1) = Ss.map tkey
theorem valV_isSome {κ : Type} [DecidableEq κ] (kvs : List (κ × V)) (k : κ) : (valV kvs k).isSome = true ↔ k ∈ kvs.map (·.1):=by
 rw [← valV_any,List.any_eq_true]
 constructor
 ·rintro ⟨x,hx,e⟩
  exact List.mem_map.mpr ⟨x,hx,of_decide_eq_true e⟩
 ·intro h
  obtain ⟨x,hx,e⟩:=List.mem_map.mp h
  exact ⟨x,hx,decide_eq_true e⟩
theorem KsT.mem {kvs : List (List Key × V)} {Ss : List (List Int)} (h : KsT kvs Ss) (S : List Int) : (valV kvs (tkey S)).isSome = true ↔ S ∈ Ss:=by
 rw [valV_isSome,h]
 constructor
 ·intro z
  obtain ⟨S',hS,e⟩:=List.mem_map.mp z
  rw [← tkey_inj e]
  exact hS
 ·exact fun z => List.mem_map.mpr ⟨S,z,rfl⟩
theorem KsT.put {kvs : List (List Key × V)} {Ss : List (List Int)} (h : KsT kvs Ss) (S : List Int) (v : V) : KsT (putK kvs (tkey S) v) (if S ∈ Ss then Ss else Ss ++ [S]):=by
 unfold KsT putK
 by_cases z : S ∈ Ss
 ·rw [if_pos z,valV_any,if_pos ((h.mem S).mpr z)]
  rw [List.map_map,← h]
  refine List.map_congr_left fun x _ => ?_
  show (if x.1 = tkey S then (x.1,v) else x).1 = x.1
  split <;> rfl
 ·rw [if_neg z,valV_any,if_neg (fun y => z ((h.mem S).mp y)),List.map_append,List.map_append,h]
  rfl
theorem KsT.len {kvs : List (List Key × V)} {Ss : List (List Int)} (h : KsT kvs Ss) : kvs.length = Ss.length:=by
 have:=congrArg List.length h
 rw [List.length_map,List.length_map] at this
 exact this
theorem tks_hts {H : Hp} {us : List V} {Ss : List (List Int)} (h : TKs H us (Ss.map tkey)) : HTs iT H us Ss:=⟨by rw [h.len,List.length_map],fun k S hS => by
 obtain ⟨b,e1,e2⟩:=h.at_ k (tkey S) (by rw [List.getElem?_map,hS]; rfl)
 rw [tkey_kV] at e2
 exact ⟨b,e1,e2⟩⟩
end L2
set_option Elab.async false
set_option linter.all false
set_option maxRecDepth 100000
set_option maxHeartbeats 1000000
namespace L2
open PySem PySem.Spec PyProof.Rows PySem.W
theorem mem_more {S : List Int} {top o : Int} : o ∈ moreL S top ↔ o ∈ madeL S top /\ o ∉ S:=by
 unfold moreL
 rw [List.mem_filter,decide_eq_true_eq]
theorem mem_grow {S0 S : List Int} {top : Int} : S ∈ growL S0 top ↔ (moreL S0 top = [] /\ S = S0) \/ ∃ o ∈ moreL S0 top,S = sortI (S0 ++ [o]):=by
 unfold growL
 split
 ·rename_i h
  rw [List.mem_singleton,h]
  exact ⟨fun e => .inl ⟨rfl,e⟩,fun z => z.elim (fun e => e.2) fun ⟨o,ho,_⟩ => nomatch ho⟩
 ·rename_i h
  rw [List.mem_map]
  exact ⟨fun ⟨o,ho,e⟩ => .inr ⟨o,ho,e.symm⟩,fun z => z.elim (fun e => absurd e.1 h) fun ⟨o,ho,e⟩ => ⟨o,ho,e.symm⟩⟩
structure LevP (top : Int) (k : Nat) (L : List (List Int)) : Prop where
 od : ∀ S ∈ L,OdIn S top
 len : ∀ S ∈ L,S.length <= k
 nd : ∀ S ∈ L,S.Nodup
 fr : ∀ S ∈ L,(∃ own,RchO top k own /\ ∀ x,x ∈ S ↔ x ∈ own) \/ (moreL S top = [] /\ ∃ j own,1 <= j /\ j <= k /\ RchO top j own /\ ∀ x,x ∈ S ↔ x ∈ own)
 to : ∀ own,RchO top k own -> ∃ S ∈ L,∀ x,x ∈ S ↔ x ∈ own
theorem rch_one {top : Int} {own : List Int} (h : RchO top 1 own) : own = [1]:=by
 cases h with
 | one => rfl
 | more h' _ _ => cases h'
theorem levP_one {top : Int} (ht : 1 <= top) : LevP top 1 [[1]]:=by
 refine ⟨fun S hS => ?_,fun S hS => ?_,fun S hS => ?_,fun S hS => ?_,fun own h => ⟨[1],List.mem_singleton.mpr rfl,by rw [rch_one h]; exact fun _ => Iff.rfl⟩⟩ <;> rw [List.mem_singleton.mp hS]
 ·exact (RchO.one.ok ht).1
 ·decide
 ·simp
 ·exact .inl ⟨[1],.one,fun _ => Iff.rfl⟩
theorem mem_sort1 {S : List Int} {o x : Int} : x ∈ sortI (S ++ [o]) ↔ x ∈ S \/ x = o:=by
 rw [(sortI_perm _).mem_iff,List.mem_append,List.mem_singleton]
theorem levP_next {top : Int} {k : Nat} {L L' : List (List Int)} (h : LevP top k L) (k1 : 1 <= k) (hL : ∀ S,S ∈ L' ↔ ∃ S0 ∈ L,S ∈ growL S0 top) : LevP top (k + 1) L':=by
 refine ⟨fun S hS => ?_,fun S hS => ?_,fun S hS => ?_,fun S hS => ?_,fun own hown => ?_⟩
 ·obtain ⟨S0,h0,hg⟩:=(hL S).mp hS
  have O:=h.od S0 h0
  rcases mem_grow.mp hg with ⟨_,rfl⟩ | ⟨o,ho,rfl⟩
  ·exact O
  ·have hm:=(mem_more.mp ho).1
   refine ⟨fun x hx => ?_,fun x hx => ?_,fun x hx => ?_⟩ <;> rcases mem_sort1.mp hx with z | rfl
   ·exact O.odd x z
   ·exact made_odd hm
   ·exact O.lo x z
   ·have:=made_in hm; omega
   ·exact O.hi x z
   ·exact (made_in hm).2
 ·obtain ⟨S0,h0,hg⟩:=(hL S).mp hS
  have hl:=h.len S0 h0
  rcases mem_grow.mp hg with ⟨_,rfl⟩ | ⟨o,ho,rfl⟩
  ·omega
  ·rw [(sortI_perm _).length_eq,List.length_append,List.length_singleton]
   omega
 ·obtain ⟨S0,h0,hg⟩:=(hL S).mp hS
  rcases mem_grow.mp hg with ⟨_,rfl⟩ | ⟨o,ho,rfl⟩
  ·exact h.nd S h0
  ·refine (sortI_perm _).nodup_iff.mpr ?_
   rw [List.nodup_append]
   exact ⟨h.nd S0 h0,by simp,fun x hx y hy e => (mem_more.mp ho).2 (by rw [← List.mem_singleton.mp hy,← e]; exact hx)⟩
 ·obtain ⟨S0,h0,hg⟩:=(hL S).mp hS
  rcases mem_grow.mp hg with ⟨hn,rfl⟩ | ⟨o,ho,rfl⟩
  ·refine .inr ⟨hn,?_⟩
   rcases h.fr S h0 with ⟨own,hr,he⟩ | ⟨_,j,own,j1,jk,hr,he⟩
   ·exact ⟨k,own,k1,by omega,hr,he⟩
   ·exact ⟨j,own,j1,by omega,hr,he⟩
  ·rcases h.fr S0 h0 with ⟨own,hr,he⟩ | ⟨hn,_⟩
   ·obtain ⟨hm,hno⟩:=mem_more.mp ho
    refine .inl ⟨own ++ [o],.more hr ((made_mem he o).mp hm) (fun z => hno ((he o).mpr z)),fun x => ?_⟩
    rw [mem_sort1,List.mem_append,List.mem_singleton,he x]
   ·rw [hn] at ho
    cases ho
 ·cases hown with
  | one => exact absurd k1 (by omega)
  | @more _ own n hr hm hno =>
   obtain ⟨S0,h0,he⟩:=h.to own hr
   have ho : n ∈ moreL S0 top:=mem_more.mpr ⟨(made_mem he n).mpr hm,fun z => hno ((he n).mp z)⟩
   refine ⟨sortI (S0 ++ [n]),(hL _).mpr ⟨S0,h0,mem_grow.mpr (.inr ⟨n,ho,rfl⟩)⟩,fun x => ?_⟩
   rw [mem_sort1,List.mem_append,List.mem_singleton,he x]
def rEqE (K : PySem.W.Frag) : R2:=fun x y H Q => ∃ p q xs,x = .ref p /\ y = .ref q /\ SqL K H p xs /\ SqL K H q [] /\ Q (.bl (decide (xs.length = 0))) H
theorem op_eqE {X : Cx} {k : Nat} (hr : Room k X.A) : OpR X (compareOp .Eq) (rEqE X.K):=by
 intro pins s σ H x y v u Q I rx ry h
 obtain ⟨p,q,xs,rfl,rfl,hp,hq,qq⟩:=h
 cases rx
 cases ry
 have hu : X.A.units < cLine:=by have:=hr.units; omega
 cases xs with
 | nil =>
  have h1:=is_lst (xs:=[]) hp rfl
  have h2:=is_lst (xs:=[]) hq rfl
  have:=(rcAt_D 50 _ _ (A:=X.A) (by rw [dep_l]; decide) (by have:=hr.units; omega) I h1 h2 rfl rfl).2 p rfl
  exact this X.prog X.w X.xe _ ⟨.bl _,H,I,rfl,qq⟩
 | cons x r =>
  obtain ⟨its,rv,pl,_⟩:=I.list hp
  obtain ⟨its',rv',pl',_⟩:=I.list hq
  have e1 : its.toArray.size = r.length + 1:=by rw [List.size_toArray,← rv.length]; rfl
  have e2 : its'.toArray.size = 0:=by rw [List.size_toArray,← rv'.length]; rfl
  have:=SeqAt.RcAt.lists_lengths (A:=X.A) pl.isList pl'.isList (by rw [bne_iff_ne]; omega) hu
  exact this X.prog X.w X.xe _ ⟨.bl _,H,I,rfl,qq⟩
theorem w_eqE {K : PySem.W.Frag} {p q : Addr} {H : Hp} {Q : VK} : rEqE K (.ref p) (.ref q) H Q = ∃ xs,SqL K H p xs /\ SqL K H q [] /\ Q (.bl (decide (xs.length = 0))) H :=
 propext ⟨fun ⟨p',q',xs,e1,e2,h⟩ => by cases e1; cases e2; exact ⟨xs,h⟩,fun ⟨xs,h⟩ => ⟨p,q,xs,rfl,rfl,h⟩⟩
theorem atI_gl {xs : List V} {v : V} (h : xs.getLast? = some v) : atI xs (-1) = some v:=by
 obtain ⟨ys,rfl⟩:=List.getLast?_eq_some_iff.mp h
 exact atI_last _ _
theorem HTs.chgK {α : Type} {f : α -> List V} {H H' : Hp} {vs : List V} {xs : List α} {d : Addr} {kvs : List (Key × V)} (h : HTs f H vs xs) (hd : H d = some (.dK kvs)) (C : Chg d H H') : HTs f H' vs xs:=⟨h.len,fun k x e => by
 obtain ⟨p,e1,e2⟩:=h.at_ k x e
 exact ⟨p,e1,C _ _ (ne_of e2 hd (by intro z; cases z)) e2⟩⟩
end L2
set_option Elab.async false
set_option linter.all false
set_option maxRecDepth 100000
set_option maxHeartbeats 1000000
namespace L2
open PySem PySem.Spec PyProof.Rows PySem.W
def spLPair : Sp:=fun vs H Q _ => ∃ a b top : Int,vs = [.int a,.int b,.int top] /\ a % 2 = 1 /\ 1 <= a /\ a <= top /\ b % 2 = 1 /\ 1 <= b /\ b <= top /\ top <= 99 /\ ∀ H',Same H H' -> Q (.int (maskN (pairL a b top) : Nat)) H'
theorem made_nn {S : List Int} {top : Int} : ∀ n ∈ madeL S top,0 <= n:=fun n hn => by
 have:=made_in hn
 omega
theorem rch_nd {top : Int} {k : Nat} {own : List Int} (h : RchO top k own) : own.Nodup:=by
 induction h with
 | one => simp
 | more _ _ hno ih =>
  rw [List.nodup_append]
  exact ⟨ih,by simp,fun x hx y hy e => hno (by rw [← List.mem_singleton.mp hy,← e]; exact hx)⟩
theorem or_pow (M : Nat) (n : Int) : Builtin.bitOr (M : Int) ((2 : Int) ^ n.toNat) = ((M ||| 2 ^ n.toNat : Nat) : Int):=by
 rw [show ((2 : Int) ^ n.toNat) = ((2 ^ n.toNat : Nat) : Int) by push_cast; rfl,or_nat]
theorem mask_snoc (xs : List Int) (x : Int) : maskN (xs ++ [x]) = maskN xs ||| 2 ^ x.toNat:=by rw [mask_app,mask_one]
def Half (x y top : Int) (xs : List Int) : Prop:=∃ K,xs = lawP x y top K /\ (∀ j,j < K -> x * 2 ^ j <= top + y) /\ top + y < x * 2 ^ K
theorem half_mask {a b top : Int} {x1 x2 : List Int} (a0 : a % 2 = 1) (a1 : 1 <= a) (a2 : a <= top) (b0 : b % 2 = 1) (b1 : 1 <= b) (b2 : b <= top) (ht : top <= 99) (h1 : Half a b top x1) (h2 : Half b a top x2) : maskN (x1 ++ x2) = maskN (pairL a b top):=by
 obtain ⟨K,rfl,k1,k2⟩:=h1
 obtain ⟨L,rfl,l1,l2⟩:=h2
 refine mask_congr (fun n hn => ?_) (fun n hn => by have:=pair_in hn; omega) (law_pair a0 a1 a2 b0 b1 b2 ht k1 k2 l1 l2)
 rcases List.mem_append.mp hn with z | z
 ·exact lawP_nn n z
 ·exact lawP_nn n z
theorem few8 {x y top : Int} {i : Nat} (x1 : 1 <= x) (ht : top <= 99) (hy : y <= top) (h : x * 2 ^ i <= top + y) : i <= 7:=by
 refine Classical.byContradiction fun z => ?_
 have h1 : (2 : Int) ^ 8 <= 2 ^ i:=by
  have:=Nat.pow_le_pow_right (n:=2) (by decide) (show 8 <= i by omega)
  have e : ((2 ^ i : Nat) : Int) = 2 ^ i:=by push_cast; rfl
  rw [← e]
  have e8 : (2 : Int) ^ 8 = 256:=by decide
  rw [e8]
  omega
 have h2 : (2 : Int) ^ i <= x * 2 ^ i:=by
  have hp : (0 : Int) < 2 ^ i:=pow_pos2 i
  have:=Int.mul_le_mul_of_nonneg_right x1 (Int.le_of_lt hp)
  rw [Int.one_mul] at this
  exact this
 have e8 : (2 : Int) ^ 8 = 256:=by decide
 omega
end L2
set_option Elab.async false
set_option linter.all false
set_option maxRecDepth 100000
set_option maxHeartbeats 1000000
namespace L2
open PySem PySem.Spec PyProof.Rows PySem.W
structure PairsP (top : Int) (pk : List (List Key × V)) : Prop where
 ks : ∃ Ss : List (List Int),KsT pk Ss /\ Ss.Nodup /\ ∀ S ∈ Ss,∃ o n : Int,S = [o,n] /\ 1 <= o /\ o <= 99 /\ 1 <= n /\ n <= 99
 val : ∀ o n v,valV pk (tkey [o,n]) = some v -> v = .int (maskN (pairL o n top) : Nat)
def allP : List (List Int):=(List.range 100).flatMap fun i : Nat => (List.range 100).map fun j : Nat => [(i : Int),(j : Int)]
theorem PairsP.len {top : Int} {pk : List (List Key × V)} (h : PairsP top pk) : pk.length <= 10000:=by
 obtain ⟨Ss,ks,nd,hS⟩:=h.ks
 rw [ks.len]
 have sub : Ss ⊆ allP:=fun S hs => by
  obtain ⟨o,n,rfl,o1,o2,n1,n2⟩:=hS S hs
  exact List.mem_flatMap.mpr ⟨o.toNat,List.mem_range.mpr (by omega),List.mem_map.mpr ⟨n.toNat,List.mem_range.mpr (by omega),by rw [Int.toNat_of_nonneg (by omega),Int.toNat_of_nonneg (by omega)]⟩⟩
 have:=nd.length_le_of_subset sub
 have e : allP.length = 10000:=by
  unfold allP
  rw [List.length_flatMap]
  simp only [List.length_map,List.length_range]
  decide
 omega
theorem pairsP_nil {top : Int} : PairsP top []:=⟨⟨[],rfl,List.nodup_nil,fun _ h => nomatch h⟩,fun _ _ _ h => by simp [valV] at h⟩
theorem PairsP.put {top o n : Int} {pk : List (List Key × V)} (h : PairsP top pk) (o1 : 1 <= o) (o2 : o <= 99) (n1 : 1 <= n) (n2 : n <= 99) (hn : (valV pk (tkey [o,n])).isSome = false) : PairsP top (putK pk (tkey [o,n]) (.int (maskN (pairL o n top) : Nat))):=by
 obtain ⟨Ss,ks,nd,hS⟩:=h.ks
 have hno : [o,n] ∉ Ss:=fun z => by
  rw [(ks.mem _).mpr z] at hn
  cases hn
 refine ⟨⟨_,ks.put _ _,?_,fun S hs => ?_⟩,fun o' n' v hv => ?_⟩
 ·rw [if_neg hno,List.nodup_append]
  exact ⟨nd,by simp,fun x hx y hy e => hno (by rw [← List.mem_singleton.mp hy,← e]; exact hx)⟩
 ·rw [if_neg hno] at hs
  rcases List.mem_append.mp hs with z | z
  ·exact hS S z
  ·exact ⟨o,n,List.mem_singleton.mp z,o1,o2,n1,n2⟩
 ·rw [valV_put] at hv
  split at hv
  ·rename_i e
   have:=tkey_inj e
   cases this
   exact (Option.some.inj hv).symm
  ·exact h.val o' n' v hv
end L2
set_option Elab.async false
set_option linter.all false
set_option maxRecDepth 100000
set_option maxHeartbeats 1000000
namespace L2
open PySem PySem.Spec PyProof.Rows PySem.W
end L2
set_option Elab.async false
set_option linter.all false
set_option maxRecDepth 100000
set_option maxHeartbeats 1000000
namespace L2
open PySem PySem.Spec PyProof.Rows PySem.W
theorem Inv.thaw {X : Cx} {pins : List (Addr × Obj)} {σ : St} {H : Hp} {s : Shared} {d : Addr} {o : Obj} {kvs kv0 : List (Key × V)} (I : Inv X pins σ H s) (hd : H d = some (.frz o (.dK kvs))) (h0 : X.H₀ d = some (.dK kv0)) : Inv X pins σ (upd H d (.dK kvs)) s:=by
 have nn : ∀ b,H b = none -> b ≠ d:=fun b e z => by rw [z,hd] at e; cases e
 refine ⟨I.ok,I.os,I.bare,⟨I.base.keep,I.base.slot,fun b u e n hx => ?_,I.base.there,fun b xs e => ?_,fun b u v e => ?_,fun b ps e => ?_⟩,I.loc,I.cell,?_,fun x c e => ?_,fun p hp => ?_,fun b u e => ?_,I.len⟩
 ·have:=I.base.free b u e n hx
  rw [upd_ne (nn b this)]
  exact this
 ·have:=I.base.tups b xs e
  rw [upd_ne (fun z => by rw [z,hd] at this; cases this)]
  exact this
 ·have q:=I.base.frzs b u v e
  rw [upd_ne (fun z => by rw [z,h0] at e; cases e)]
  exact q
 ·obtain ⟨more,q⟩:=I.base.tbls b ps e
  refine ⟨more,?_⟩
  rw [upd_ne (fun z => by rw [z,hd] at q; cases q)]
  exact q
 ·rw [upd_ne (nn _ I.free)]
  exact I.free
 ·rw [upd_ne (nn _ (I.freeC x c e))]
  exact I.freeC x c e
 ·obtain ⟨a1,a2,a3⟩:=I.pin p hp
  refine ⟨a1,?_,a3⟩
  rw [upd_ne (nn _ a2)]
  exact a2
 ·have tp : ∀ c xs,H c = some (.tup xs) -> upd H d (.dK kvs) c = some (.tup xs):=fun c xs r => by
   rw [upd_ne (fun z => by rw [z,hd] at r; cases r)]
   exact r
  by_cases z : b = d
  ·subst z
   rw [upd_same] at e
   cases e
   obtain ⟨_,q⟩:=I.hok b _ hd
   exact q
  ·rw [upd_ne z] at e
   refine (I.hok b u e).stay (fun c v _ r => r) (fun c r => ?_) tp
   rw [upd_ne (fun z => by rw [z,hd] at r; cases r)]
   exact r
def tThw (d : Addr) (te : TE) : TE:=fun σ H Q => te σ H fun x H1 => ∃ o kvs,H1 d = some (.frz o (.dK kvs)) /\ Q x (upd H1 d (.dK kvs))
theorem w_thw {d : Addr} {te : TE} {σ : St} {H : Hp} {Q : VK} : tThw d te σ H Q = (te σ H fun x H1 => ∃ o kvs,H1 d = some (.frz o (.dK kvs)) /\ Q x (upd H1 d (.dK kvs))):=rfl
theorem pe_thw {X : Cx} {e : Expr} {te : TE} {d : Addr} {kv0 : List (Key × V)} (h0 : X.H₀ d = some (.dK kv0)) (he : PE X e te) : PE X e (tThw d te):=by
 intro pins s σ H Q I h
 refine thn (he pins s σ H _ I h) fun v s1 ⟨x,H1,I1,r1,o,kvs,hd,q⟩ => ?_
 exact ⟨x,_,I1.thaw hd h0,r1,q⟩
def Cov (top : Int) (d : Nat) (as : List Int) : Prop:=∃ own,RchO top (d + 1) own /\ ∀ x ∈ as,x ∈ own
def FewIs (top : Int) (most : Nat) (as : List Int) (c : Int) : Prop:=(c = -1 /\ ∀ d,d <= most -> ¬ Cov top d as) \/ ∃ d : Nat,d <= most /\ c = d /\ Cov top d as /\ ∀ e,e < d -> ¬ Cov top e as
theorem few_uniq {top : Int} {most : Nat} {as : List Int} {c c' : Int} (h : FewIs top most as c) (h' : FewIs top most as c') : c = c':=by
 rcases h with ⟨e,n⟩ | ⟨d,dm,e,cv,mn⟩ <;> rcases h' with ⟨e',n'⟩ | ⟨d',dm',e',cv',mn'⟩
 ·rw [e,e']
 ·exact absurd cv' (n d' dm')
 ·exact absurd cv (n' d dm)
 ·rcases Nat.lt_trichotomy d d' with z | z | z
  ·exact absurd cv (mn' d z)
  ·rw [e,e',z]
  ·exact absurd cv' (mn d' z)
theorem made_mono {S S' : List Int} {top x : Int} (h : ∀ y ∈ S,y ∈ S') (hx : x ∈ madeL S top) : x ∈ madeL S' top:=by
 obtain ⟨a,ha,b,hb,z⟩:=made_pairs.mp hx
 exact made_pairs.mpr ⟨a,h a ha,b,h b hb,z⟩
theorem rch_has1 {top : Int} {k : Nat} {own : List Int} (h : RchO top k own) : (1 : Int) ∈ own:=by
 induction h with
 | one => exact List.mem_singleton.mpr rfl
 | more _ _ _ ih => exact List.mem_append_left _ ih
theorem rch_len {top : Int} {k : Nat} {own : List Int} (h : RchO top k own) : own.length = k:=by
 induction h with
 | one => rfl
 | more _ _ _ ih => rw [List.length_append,ih]; rfl
def lackL (S as : List Int) : List Int:=as.filter fun o => decide (o ∉ S)
def Fin_ (top : Int) (S as : List Int) : Prop:=lackL S as = [] \/ ∃ o,lackL S as = [o] /\ o ∈ madeL S top
theorem mem_lack {S as : List Int} {o : Int} : o ∈ lackL S as ↔ o ∈ as /\ o ∉ S:=by
 unfold lackL
 rw [List.mem_filter,decide_eq_true_eq]
theorem fin_cov {top : Int} {k : Nat} {L : List (List Int)} {S as : List Int} (P : LevP top (k + 1) L) (hS : S ∈ L) (no : ∀ d,d <= k -> ¬ Cov top d as) (f : Fin_ top S as) : Cov top (k + 1) as /\ S.length = k + 1 /\ (∃ o,lackL S as = [o]) /\ ∃ own,RchO top (k + 2) own /\ ∀ x,x ∈ S ++ lackL S as ↔ x ∈ own:=by
 have sub : lackL S as = [] -> ∀ x ∈ as,x ∈ S:=fun e x hx => Classical.byContradiction fun z => by
  have:=mem_lack.mpr ⟨hx,z⟩
  rw [e] at this
  cases this
 rcases P.fr S hS with ⟨own,hr,he⟩ | ⟨hn,j,own,j1,jk,hr,he⟩
 ·rcases f with e | ⟨o,e,hm⟩
  ·exact absurd ⟨own,hr,fun x hx => (he x).mp (sub e x hx)⟩ (no k (Nat.le_refl _))
  ·have ho:=mem_lack.mp (by rw [e]; exact List.mem_singleton.mpr rfl : o ∈ lackL S as)
   have hr2 : RchO top (k + 2) (own ++ [o]):=.more hr ((made_mem he o).mp hm) (fun z => ho.2 ((he o).mpr z))
   refine ⟨⟨own ++ [o],hr2,fun x hx => ?_⟩,?_,⟨o,e⟩,own ++ [o],hr2,fun x => ?_⟩
   ·by_cases z : x ∈ S
    ·exact List.mem_append_left _ ((he x).mp z)
    ·have:=mem_lack.mpr ⟨hx,z⟩
     rw [e] at this
     exact List.mem_append_right _ this
   ·have p : S.Perm own:=(List.perm_ext_iff_of_nodup (P.nd S hS) (rch_nd hr)).mpr he
    rw [p.length_eq,rch_len hr]
   ·rw [e,List.mem_append,List.mem_append,he x]
 ·rcases f with e | ⟨o,e,hm⟩
  ·obtain ⟨j',rfl⟩ : ∃ j',j = j' + 1:=⟨j - 1,by omega⟩
   exact absurd ⟨own,hr,fun x hx => (he x).mp (sub e x hx)⟩ (no j' (by omega))
  ·have ho:=mem_lack.mp (by rw [e]; exact List.mem_singleton.mpr rfl : o ∈ lackL S as)
   have:=mem_more.mpr ⟨hm,ho.2⟩
   rw [hn] at this
   cases this
theorem nofin_cov {top : Int} {k : Nat} {L : List (List Int)} {as : List Int} (P : LevP top (k + 1) L) (nd : as.Nodup) (no : ∀ S ∈ L,¬ Fin_ top S as) : ¬ Cov top (k + 1) as:=by
 rintro ⟨own',hr,hs⟩
 cases hr with
 | @more _ own n hr hm hno =>
  obtain ⟨S,hS,he⟩:=P.to own hr
  refine no S hS ?_
  have lk : ∀ x ∈ lackL S as,x = n:=fun x hx => by
   obtain ⟨a,b⟩:=mem_lack.mp hx
   rcases List.mem_append.mp (hs x a) with z | z
   ·exact absurd ((he x).mpr z) b
   ·exact List.mem_singleton.mp z
  have lnd : (lackL S as).Nodup:=nd.sublist List.filter_sublist
  cases e : lackL S as with
  | nil => exact .inl e
  | cons x r =>
   have ex:=lk x (by rw [e]; exact List.mem_cons_self)
   cases r with
   | nil => exact .inr ⟨x,e,by rw [ex]; exact (made_mem he n).mpr hm⟩
   | cons y s =>
    have ey:=lk y (by rw [e]; exact List.mem_cons_of_mem _ List.mem_cons_self)
    rw [e,ex,ey] at lnd
    simp at lnd
theorem cov_zero {top : Int} {as : List Int} (h : ∃ x ∈ as,x ≠ 1) : ¬ Cov top 0 as:=by
 rintro ⟨own,hr,hs⟩
 obtain ⟨x,hx,n⟩:=h
 have:=hs x hx
 rw [rch_one hr] at this
 exact n (List.mem_singleton.mp this)
def tP (H : Hp) (v : V) (_ : Unit) : Prop:=∃ (r : Addr) (a b g : Int),v = .ref r /\ H r = some (.tup [.int a,.int b,.int g]) /\ (g = 1 \/ g = -1)
def spWay : Sp:=fun vs H Q _ => ∃ (odd top : Int) (d : Addr) (kvs : List (Key × V)) (ks : List Int),vs = [.int odd,.ref d,.int top] /\ H d = some (.dK kvs) /\ (kvs.map fun q => kV q.1) = ks.map V.int /\ OdIn ks top /\ 1 <= top /\ top <= 99 /\ 1 <= odd /\ odd <= top /\
 (∀ H',Same H H' -> odd ∉ madeL ks top -> Q .non H') /\
 ∀ t (l r g : Int) (sh : Nat) H',Same H H' -> H' t = some (.tup [.int l,.int sh,.int r,.int g]) -> l ∈ ks -> r ∈ ks -> sh <= 8 -> (g = 1 \/ g = -1) -> coreN (l * 2 ^ sh + g * r) = odd -> Q (.ref t) H'
theorem sg_mul {g s : Int} (h : g = 1 \/ g = -1) (h' : s = 1 \/ s = -1) : g * s = 1 \/ g * s = -1:=by
 rcases h with e | e <;> rcases h' with e' | e' <;> rw [e,e'] <;> decide
theorem dbl_at {top : Int} : ∀ {n : Nat} {l x : Int} {i : Nat},(dbl l top n)[i]? = some x -> x = l * 2 ^ i /\ i <= n
 | 0,l,x,i,h => by
  unfold dbl at h
  cases i with
  | zero => simp only [List.getElem?_cons_zero,Option.some.injEq] at h; subst h; exact ⟨by simp,Nat.le_refl _⟩
  | succ i => simp at h
 | n + 1,l,x,i,h => by
  unfold dbl at h
  cases i with
  | zero => simp only [List.getElem?_cons_zero,Option.some.injEq] at h; subst h; exact ⟨by simp,Nat.zero_le _⟩
  | succ i =>
   rw [List.getElem?_cons_succ] at h
   split at h
   ·obtain ⟨e,hi⟩:=dbl_at h
    refine ⟨?_,by omega⟩
    rw [e,Int.pow_succ,Int.mul_comm 2 l,Int.mul_assoc,Int.mul_comm 2]
   ·simp at h
theorem not_made {ks : List Int} {top odd : Int} (o1 : 1 <= odd) (o2 : odd <= top) (h : ∀ l ∈ ks,∀ r ∈ ks,∀ x ∈ dbl l top 7,coreN (x + r) ≠ odd /\ coreN (x - r) ≠ odd) : odd ∉ madeL ks top:=fun hm => by
 obtain ⟨a,ha,b,hb,z⟩:=made_pairs.mp hm
 rcases (mem_pair.mp z).2 with ⟨x,hx,e | e⟩ | ⟨x,hx,e | e⟩
 ·exact (h a ha b hb x hx).1 e
 ·exact (h a ha b hb x hx).2 e
 ·exact (h b hb a ha x hx).1 e
 ·exact (h b hb a ha x hx).2 e
section
variable {K : PySem.W.Frag} {σ : St} {H : Hp} {Q : VK} {cs : List Nat} {te : TE}
end
theorem first_missing {top : Int} {m : Nat} {own ks : List Int} (h : RchO top m own) (h1 : (1 : Int) ∈ ks) (hm : ∃ x ∈ own,x ∉ ks) : ∃ pre e,(∀ x ∈ pre,x ∈ ks) /\ e ∈ madeL pre top /\ e ∈ own /\ e ∉ ks:=by
 induction h with
 | one =>
  obtain ⟨x,hx,n⟩:=hm
  rw [List.mem_singleton.mp hx] at n
  exact absurd h1 n
 | @more k own n hr hmade hno ih =>
  by_cases z : ∃ x ∈ own,x ∉ ks
  ·obtain ⟨pre,e,a,b,c,d⟩:=ih z
   exact ⟨pre,e,a,b,List.mem_append_left _ c,d⟩
  ·obtain ⟨x,hx,nx⟩:=hm
   have all : ∀ y ∈ own,y ∈ ks:=fun y hy => Classical.byContradiction fun q => z ⟨y,hy,q⟩
   rcases List.mem_append.mp hx with q | q
   ·exact absurd (all x q) nx
   ·refine ⟨own,n,all,hmade,List.mem_append_right _ (List.mem_singleton.mpr rfl),?_⟩
    rw [← List.mem_singleton.mp q]
    exact nx
theorem sub_len {ks cs : List Int} (nd : ks.Nodup) (h : ∀ x ∈ ks,x ∈ cs) : ks.length <= cs.length:=nd.length_le_of_subset h
theorem sub_lt {ks cs : List Int} {e : Int} (nd : ks.Nodup) (h : ∀ x ∈ ks,x ∈ cs) (he : e ∈ cs) (hn : e ∉ ks) : ks.length < cs.length:=by
 have : (ks ++ [e]).Nodup:=by
  rw [List.nodup_append]
  exact ⟨nd,by simp,fun x hx y hy z => hn (by rw [← List.mem_singleton.mp hy,← z]; exact hx)⟩
 have:=this.length_le_of_subset (l₂:=cs) fun x hx => by
  rcases List.mem_append.mp hx with q | q
  ·exact h x q
  ·rw [List.mem_singleton.mp q]; exact he
 rw [List.length_append,List.length_singleton] at this
 omega
theorem len_lt_missing {ks cs : List Int} (h : ks.length < cs.length) (nd : cs.Nodup) : ∃ x ∈ cs,x ∉ ks:=Classical.byContradiction fun z => by
 have:=nd.length_le_of_subset (l₂:=ks) fun x hx => Classical.byContradiction fun q => z ⟨x,hx,q⟩
 omega
end L2
set_option Elab.async false
set_option linter.all false
set_option maxRecDepth 100000
set_option maxHeartbeats 1000000
namespace L2
open PySem PySem.Spec PyProof.Rows PySem.W
def rNeE (K : PySem.W.Frag) : R2:=fun x y H Q => ∃ p q xs,x = .ref p /\ y = .ref q /\ SqL K H p xs /\ SqL K H q [] /\ Q (.bl (decide (xs.length ≠ 0))) H
theorem op_neE {X : Cx} {k : Nat} (hr : Room k X.A) : OpR X (compareOp .NotEq) (rNeE X.K):=by
 intro pins s σ H x y v u Q I rx ry h
 obtain ⟨p,q,xs,rfl,rfl,hp,hq,qq⟩:=h
 cases rx
 cases ry
 have hu : X.A.units < cLine:=by have:=hr.units; omega
 cases xs with
 | nil =>
  have h1:=is_lst (xs:=[]) hp rfl
  have h2:=is_lst (xs:=[]) hq rfl
  have:=neAt_D 50 _ _ (A:=X.A) (by rw [dep_l]; decide) (by have:=hr.units; omega) I h1 h2 rfl
  exact this X.prog X.w X.xe _ ⟨.bl _,H,I,rfl,qq⟩
 | cons x r =>
  obtain ⟨its,rv,pl,_⟩:=I.list hp
  obtain ⟨its',rv',pl',_⟩:=I.list hq
  have e1 : its.toArray.size = r.length + 1:=by rw [List.size_toArray,← rv.length]; rfl
  have e2 : its'.toArray.size = 0:=by rw [List.size_toArray,← rv'.length]; rfl
  have:=SeqAt.RcNeAt.lists_lengths (A:=X.A) pl.isList pl'.isList (by rw [bne_iff_ne]; omega) hu
  exact this X.prog X.w X.xe _ ⟨.bl _,H,I,rfl,qq⟩
theorem w_neE {K : PySem.W.Frag} {p q : Addr} {H : Hp} {Q : VK} : rNeE K (.ref p) (.ref q) H Q = ∃ xs,SqL K H p xs /\ SqL K H q [] /\ Q (.bl (decide (xs.length ≠ 0))) H :=
 propext ⟨fun ⟨p',q',xs,e1,e2,h⟩ => by cases e1; cases e2; exact ⟨xs,h⟩,fun ⟨xs,h⟩ => ⟨p,q,xs,rfl,rfl,h⟩⟩
def spFin : Sp:=fun vs H Q _ => ∃ (c l : Addr) (cs as : List Int) (top : Int),vs = [.ref c,.ref l,.int top] /\ H c = some (.tup (cs.map V.int)) /\ H l = some (.lst (as.map V.int)) /\ as.length <= 60 /\ OdIn cs top /\ 1 <= top /\ top <= 99 /\ cs.length <= 100 /\ ∀ (b : Bool) H',Same H H' -> (b = true ↔ Fin_ top cs as) -> Q (.bl b) H'
def spWAll : Sp:=fun vs H Q _ => ∃ (c l : Addr) (cs as : List Int),vs = [.ref c,.ref l] /\ H c = some (.tup (cs.map V.int)) /\ H l = some (.lst (as.map V.int)) /\ as.length <= 60 /\ cs.length <= 100 /\ cs ≠ [] /\ ∀ r H',Same H H' -> H' r = some (.tup ((cs ++ lackL cs as).map V.int)) -> Q (.ref r) H'
def askL (xs : List Int) : List Int:=sortI (ded (wantC xs))
theorem mem_ask {xs : List Int} {c : Int} : c ∈ askL xs ↔ 1 < c /\ ∃ x ∈ xs,coreN x = c:=by
 unfold askL
 rw [(sortI_perm _).mem_iff,mem_ded]
 unfold wantC
 rw [List.mem_filter,decide_eq_true_eq,List.mem_map,And.comm]
theorem ask_nd (xs : List Int) : (askL xs).Nodup:=(sortI_perm _).nodup_iff.mpr (ded_nd _)
theorem ask_len (xs : List Int) : (askL xs).length <= xs.length:=by
 unfold askL
 rw [sortI_len]
 refine Nat.le_trans (ded_len _) ?_
 have:=List.length_filter_le (fun c => decide (1 < c)) (xs.map coreN)
 rw [List.length_map] at this
 exact this
theorem few_nil {top : Int} {most : Nat} {as : List Int} (h : as = []) : FewIs top most as 0:=.inr ⟨0,Nat.zero_le _,rfl,⟨[1],.one,fun x hx => by rw [h] at hx; cases hx⟩,fun e he => absurd he (Nat.not_lt_zero _)⟩
theorem fin_one {top : Int} {S as : List Int} {o : Int} (e : lackL S as = [o]) : Fin_ top S as ↔ o ∈ madeL S top :=
 ⟨fun h => h.elim (fun z => by rw [e] at z; cases z) fun ⟨o',e',h⟩ => by rw [e] at e'; cases e'; exact h,fun h => .inr ⟨o,e,h⟩⟩
theorem fin_more {top : Int} {S as : List Int} (h : 2 <= (lackL S as).length) : ¬ Fin_ top S as:=fun z => z.elim (fun e => by rw [e] at h; exact absurd h (by decide)) fun ⟨o,e,_⟩ => by rw [e] at h; exact absurd h (by show ¬ 2 <= 1; decide)
section
variable {K : PySem.W.Frag} {σ : St} {H : Hp} {Q : VK} {cs : List Nat} {tt : TT}
theorem comp_sel {v : Addr} {us : List V} {L : List (List Int)} (Pp : List Int -> Prop) (hv : H v = some (.lst us)) (ht : HTs iT H us L) (hz : us.length <= 1000000)
  (hb : ∀ t S H' (R : Bool -> Hp -> Prop),S ∈ L -> H t = some (.tup (iT S)) -> Same H H' -> (∀ b H5,Same H' H5 -> (b = true ↔ Pp S) -> R b H5) -> tt (some (.ref t) :: capV cs σ) H' R)
  (hd : ∀ acc ys H',H acc = none -> Same H H' -> H' acc = some (.lst ys) -> (∀ y ∈ ys,∃ S ∈ L,∃ t,y = .ref t /\ H t = some (.tup (iT S)) /\ Pp S) -> (ys = [] -> ∀ S ∈ L,¬ Pp S) -> Q (.ref acc) H') :
  CompIt (Itl K v) 1 cs (gName 0) tt (tVar 0) σ H Q:=by
 have ul:=ht.len
 refine comp_any us.length (fun acc i ys H' => Same H H' /\ H' acc = some (.lst ys) /\ ys.length <= i /\ (∀ y ∈ ys,∃ S ∈ L,∃ t,y = .ref t /\ H t = some (.tup (iT S)) /\ Pp S) /\ (ys = [] -> ∀ S ∈ L.take i,¬ Pp S)) (Nat.le_trans hz (by decide)) ?_ ?_ ?_ ?_ ?_ ?_
 ·rintro acc i ys H' hi ⟨s,_⟩
  exact ⟨us,us[i],SqL.of (s _ _ hv),List.getElem?_eq_getElem hi⟩
 ·rintro acc ys H' ⟨s,_⟩
  exact ⟨us,SqL.of (s _ _ hv),Nat.le_refl _⟩
 ·intro acc ha
  exact ⟨same_new ha _,upd_same,Nat.le_refl _,fun y hy => (nomatch hy),fun _ S hS => (nomatch hS)⟩
 ·rintro acc i ys H' ⟨s,ha,hl,_⟩
  exact ⟨ha,hl⟩
 ·rintro acc i ys H' ts x H2 N hn hi ⟨s,ha,hl,hy,hno⟩ ⟨rfl,hx⟩ hts hN
  have hx:=hx us (SqL.of (s _ _ hv))
  obtain ⟨t0,rfl⟩ : ∃ t0,ts = [t0]:=List.length_eq_one_iff.mp hts
  have hiL : i < L.length:=by rw [← ul]; exact hi
  obtain ⟨t,hy1,hy2⟩:=ht.at_ i _ (List.getElem?_eq_getElem hiL)
  have hSi : L[i]? = some L[i]:=List.getElem?_eq_getElem hiL
  generalize L[i] = S at hy2 hSi
  rw [hx] at hy1
  cases hy1
  have hm:=List.mem_of_getElem? hSi
  rw [w_gName]
  refine hb t S _ _ hm hy2 s fun b H5 s5 hbP => ?_
  have ha5:=s5 _ _ ha
  cases b with
  | true =>
   rw [if_pos rfl]
   refine ⟨_,rfl,ha5,hN _ [_] _ rfl ⟨same_upd hn (s.trans s5),upd_same,by rw [List.length_append]; exact Nat.succ_le_succ hl,fun y h => ?_,fun e => by simp at e⟩⟩
   rcases List.mem_append.mp h with z | z
   ·exact hy y z
   ·exact ⟨S,hm,t,List.mem_singleton.mp z,hy2,hbP.mp rfl⟩
  | false =>
   rw [if_neg (by decide)]
   refine hN _ [_] _ rfl ⟨s.trans s5,ha5,Nat.le_succ_of_le hl,hy,fun e S' h => ?_⟩
   rw [List.take_succ,hSi,Option.toList_some] at h
   rcases List.mem_append.mp h with z | z
   ·exact hno e S' z
   ·rw [List.mem_singleton.mp z]
    exact fun p => absurd (hbP.mpr p) (by decide)
 ·rintro acc ys H' hn ⟨s,ha,hl,hy,hno⟩
  rw [ul,List.take_length] at hno
  exact hd acc ys H' hn s ha hy hno
end
end L2
set_option Elab.async false
set_option linter.all false
set_option maxRecDepth 100000
set_option maxHeartbeats 1000000
namespace L2
open PySem PySem.Spec PyProof.Rows PySem.W
def tRevL (te : TE) (ts : TO) : TE:=fun σ H Q => te σ H fun x H1 => ts σ H1 fun st H2 => st = some (-1) /\ ∃ a xs,x = .ref a /\ H2 a = some (.lst xs) /\ ∀ p,H2 p = none -> Q (.ref p) (upd H2 p (.lst xs.reverse))
theorem w_revL {te : TE} {ts : TO} {σ : St} {H : Hp} {Q : VK} : tRevL te ts σ H Q = (te σ H fun x H1 => ts σ H1 fun st H2 => st = some (-1) /\ ∃ a xs,x = .ref a /\ H2 a = some (.lst xs) /\ ∀ p,H2 p = none -> Q (.ref p) (upd H2 p (.lst xs.reverse))):=rfl
theorem w_dget1 {td ty : TE} {σ : St} {H : Hp} {Q : VK} : tDGet1 td ty σ H Q = (td σ H fun x H1 => ∃ a,x = .ref a /\ IsD H1 a /\ ty σ H1 fun y H2 => ∃ o,DGet H2 a y o /\ Q (o.getD .non) H2):=rfl
end L2
set_option Elab.async false
set_option linter.all false
set_option maxRecDepth 100000
set_option maxHeartbeats 1000000
namespace L2
open PySem PySem.Spec PyProof.Rows PySem.W
theorem core_made {own : Int} {k : Nat} {g : Int} (h1 : 1 <= own) (h2 : own % 2 = 1) (hg : g = 1 \/ g = -1) : coreN (own * 2 ^ k * g) = own /\ own * 2 ^ k * g ≠ 0:=by
 have p2 : (0 : Int) < 2 ^ k:=Int.pow_pos (by decide)
 have p : 0 < own * 2 ^ k:=Int.mul_pos (by omega) p2
 have c : coreN (own * 2 ^ k) = own:=core_is (k:=k) (by omega) h2 (by omega)
 rcases hg with rfl | rfl
 ·rw [Int.mul_one]
  exact ⟨c,by omega⟩
 ·rw [Int.mul_neg,Int.mul_one,coreN_neg]
  exact ⟨c,by omega⟩
section
variable {K : PySem.W.Frag} {σ : St} {H : Hp} {Q : VK} {cs : List Nat} {te : TE}
end
end L2
set_option Elab.async false
set_option linter.all false
set_option maxRecDepth 100000
set_option maxHeartbeats 1000000
namespace L2
open PySem PySem.Spec PyProof.Rows PySem.W
section
variable {K : PySem.W.Frag} {σ : St} {H : Hp} {Q : VK} {cs : List Nat} {te : TE} {tt : TT}
end
end L2
set_option Elab.async false
set_option linter.all false
set_option maxRecDepth 100000
set_option maxHeartbeats 1000000
namespace L2
open PySem PySem.Spec PyProof.Rows PySem.W
end L2
set_option Elab.async false
set_option linter.all false
set_option maxRecDepth 100000
set_option maxHeartbeats 1000000
namespace L2
open PySem PySem.Spec PyProof.Rows PySem.W
end L2
set_option Elab.async false
set_option linter.all false
set_option maxRecDepth 100000
set_option maxHeartbeats 1000000
namespace L2
open PySem PySem.Spec PyProof.Rows
section
variable {X : Cx} {pins : List (Addr × Obj)} {σ : St} {H : Hp} {s : Shared}
end
end L2
set_option Elab.async false
set_option linter.all false
set_option maxRecDepth 100000
set_option maxHeartbeats 1000000
namespace L2
open PySem PySem.Spec PyProof.Rows PySem.W
section
variable {n : Nat} {ds : List Wd} {gs : List Go} {bs : List Bool}
end
section
variable {n : Nat} {ds : List Wd} {gs : List Go} {bs : List Bool}
end
section
variable {n i : Nat} {R : List (List Int)} {kvs : List (List Key × V)} {es : List Wd}
end
end L2
set_option Elab.async false
set_option linter.all false
set_option maxRecDepth 100000
set_option maxHeartbeats 1000000
namespace L2
open PySem PySem.Spec PyProof.Rows PySem.W
section
variable {K : PySem.W.Frag} {σ : St} {H : Hp} {Q : VK} {cs : List Nat} {te : TE}
end
end L2
set_option Elab.async false
set_option linter.all false
set_option maxRecDepth 100000
set_option maxHeartbeats 1000000
namespace L2
open PySem PySem.Spec PyProof.Rows PySem.W
section
variable {n i : Nat} {R : List (List Int)} {kvs : List (List Key × V)} {es : List Wd}
end
end L2
set_option Elab.async false
set_option linter.all false
set_option maxRecDepth 100000
set_option maxHeartbeats 1000000
namespace L2
open PySem PySem.Spec PyProof.Rows PySem.W
end L2
set_option Elab.async false
set_option linter.all false
set_option maxRecDepth 100000
set_option maxHeartbeats 1000000
namespace L2
open PySem PySem.Spec PyProof.Rows PySem.W
section
variable {n i : Nat} {ds : List Wd} {gs : List Go} {ms : List Nat}
end
theorem abs_core {x : Int} (h : x ≠ 0) : ∃ k : Nat,(if x < 0 then -x else x) = coreN x * 2 ^ k /\ Builtin.bitAnd (if x < 0 then -x else x) (0 - if x < 0 then -x else x) = 2 ^ k /\ 2 ^ k <= x.natAbs:=by
 obtain ⟨m,k,e1,e2⟩:=core_fact h
 have ea : (if x < 0 then -x else x) = absI x:=rfl
 have ec : coreN x = 2 * (m : Int) + 1:=by
  have:=core_three x
  rw [e2] at this
  have:=congrArg (fun l => l.headD 0) this
  simpa using this.symm
 have e3 : absI x = 2 ^ k * (2 * (m : Int) + 1):=by rw [e1,Int.mul_comm]
 refine ⟨k,by rw [ea,e3,ec,Int.mul_comm],by rw [ea,Int.zero_sub,e3]; exact kbt_low k _,?_⟩
 have en : (x.natAbs : Int) = absI x:=by unfold absI; split <;> omega
 have : ((2 ^ k : Nat) : Int) <= (x.natAbs : Int):=by
  rw [en,e3,Int.natCast_pow]
  have pk:=pow_pos2 k
  have : (2 : Int) ^ k * 1 <= 2 ^ k * (2 * (m : Int) + 1):=Int.mul_le_mul_of_nonneg_left (by omega) (Int.le_of_lt pk)
  rw [Int.mul_one] at this
  exact this
 exact Int.ofNat_le.mp this
end L2
set_option Elab.async false
set_option linter.all false
set_option maxRecDepth 100000
set_option maxHeartbeats 1000000
namespace L2
open PySem PySem.Spec PyProof.Rows PySem.W
end L2
set_option Elab.async false
set_option linter.all false
set_option maxRecDepth 100000
set_option maxHeartbeats 1000000
namespace L2
open PySem PySem.Spec PyProof.Rows PySem.W
section
variable {K : PySem.W.Frag} {σ : St} {H : Hp} {Q : VK} {cs : List Nat} {te : TE}
end
end L2
set_option Elab.async false
set_option linter.all false
set_option maxRecDepth 100000
set_option maxHeartbeats 1000000
namespace L2
open PySem PySem.Spec PyProof.Rows
section
variable {ins m : Nat} {s1 s2 : List Wd} {t1 t2 : List Go}
end
section
variable {ins : Nat} {ds : List Wd} {gs : List Go} {μ : List Int} {B : Int}
end
end L2
set_option Elab.async false
set_option linter.all false
set_option maxRecDepth 100000
set_option maxHeartbeats 1000000
namespace L2
open PySem PySem.Spec PyProof.Rows
def advM (m : Nat) (p : SetTable.Probe) : SetTable.Probe :=
 if p.more > 0 then { p with j:=p.j + 1,more:=p.more - 1 } else
 { p with j:=(p.i * 5 + 1 + p.perturb / 32) % (m + 1),more:=SetTable.runEnd m ((p.i * 5 + 1 + p.perturb / 32) % (m + 1)) - (p.i * 5 + 1 + p.perturb / 32) % (m + 1),i:=(p.i * 5 + 1 + p.perturb / 32) % (m + 1),perturb:=p.perturb / 32 }
def pn (m : Nat) : Nat -> SetTable.Probe -> SetTable.Probe
 | 0,p => p
 | n + 1,p => pn m n (advM m p)
def stP (m : Nat) (x : Int) : SetTable.Probe:={ j:=SetTable.bits x % (m + 1),more:=SetTable.runEnd m (SetTable.bits x % (m + 1)) - SetTable.bits x % (m + 1),i:=SetTable.bits x % (m + 1),perturb:=SetTable.bits x,dummy:=none }
def sl (m : Nat) (x : Int) (n : Nat) : Nat:=(pn m n (stP m x)).j
section
variable {led : Bool} {t : SetTable} {es : Array (Int × Value)}
end
end L2
set_option Elab.async false
set_option linter.all false
set_option maxRecDepth 100000
set_option maxHeartbeats 1000000
namespace L2
open PySem PySem.Spec PyProof.Rows
section
variable {prog : Program} {w : World} {ok : Addr -> Prop} {A : Around} {E : Value -> Shared -> Prop} {s : Shared}
end
section
variable {prog : Program} {w : World} {ok : Addr -> Prop} {A : Around} {R : Result -> Shared -> Prop} {I : Addr} {fp wr : List Addr} {G : Array GenState -> Array GenState -> Prop} {P : Nat -> Value -> Prop} {St : Nat -> Shared -> Prop}
end
end L2
set_option Elab.async false
set_option linter.all false
set_option maxRecDepth 100000
set_option maxHeartbeats 1000000
namespace L2
open PySem PySem.Spec PyProof.Rows
section
variable {prog : Program} {w : World} {A : Around} {E : Value -> Shared -> Prop} {s : Shared}
end
end L2
set_option Elab.async false
set_option linter.all false
set_option maxRecDepth 100000
set_option maxHeartbeats 1000000
namespace L2
open PySem PySem.Spec PyProof.Rows
end L2
set_option Elab.async false
set_option linter.all false
set_option maxRecDepth 100000
set_option maxHeartbeats 1000000
namespace L2
open PySem PySem.Spec PyProof.Rows
section
variable {K : PySem.W.Frag} {σ : St} {H : Hp} {Q : VK} {cs : List Nat} {te : TE}
end
end L2
set_option Elab.async false
set_option linter.all false
set_option maxRecDepth 100000
set_option maxHeartbeats 1000000
namespace L2
open PySem PySem.Spec PyProof.Rows
structure Met (n : Nat) (ds : List Wd) (gs : List Go) (i : Nat) (ms : List Nat) : Prop where
 snd : ∀ m ∈ ms,Rch n ds gs m
 root : ∀ g ∈ gs,g.sg ≠ 0 -> g.th ∈ ms
 cl : ∀ (k : Nat) d,ds.length <= k + i -> ds[k]? = some d -> d.a ∈ ms /\ d.b ∈ ms
 all : ∀ k,ds.length <= k + i -> k < ds.length -> Rch n ds gs (n + k)
end L2
set_option Elab.async false
set_option linter.all false
set_option maxRecDepth 100000
set_option maxHeartbeats 1000000
namespace L2
open PySem PySem.Spec PyProof.Rows
section
variable {ins : Nat} {ds : List Wd} {gs : List Go} {bs : List Bool}
end
section
variable {ins : Nat} {ds : List Wd} {gs : List Go} {bs : List Bool}
end
section
variable {ins : Nat} {ds : List Wd} {gs : List Go} {bs : List Bool}
end
section
variable {ins : Nat} {ds : List Wd} {gs : List Go} {bs : List Bool}
end
section
variable {n : Nat} {ds : List Wd} {gs : List Go} {bs : List Bool}
end
section
variable {n : Nat} {ds : List Wd} {gs : List Go} {bs : List Bool}
end
section
variable {n : Nat} {ds : List Wd} {gs : List Go} {bs : List Bool}
end
section
variable {n : Nat} {ds : List Wd} {gs : List Go} {bs : List Bool}
end
section
variable {n : Nat} {ds : List Wd} {gs : List Go} {bs : List Bool}
end
section
variable {n i : Nat} {R : List (List Int)} {kvs : List (List Key × V)} {es : List Wd}
end
section
variable {n i : Nat} {R : List (List Int)} {kvs : List (List Key × V)} {es : List Wd}
end
end L2
set_option Elab.async false
set_option linter.all false
set_option maxRecDepth 100000
set_option maxHeartbeats 1000000
namespace L2
open PySem PySem.Spec PyProof.Rows
def nm (ds : List Wd) : List Int:=(rowsW 1 ds).map fun r => r.headD 0
def spLCoreZ : Sp:=fun vs H Q _ => ∃ n : Int,vs = [.int n] /\ n.natAbs < 2 ^ 9000 /\ Q (.int (coreN n)) H
theorem ded_id : ∀ xs : List Int,xs.Nodup -> ded xs = xs:=by
 refine snoc_ind (p:=fun xs : List Int => xs.Nodup -> ded xs = xs) (fun _ => rfl) (fun xs x ih h => ?_)
 rw [List.nodup_append] at h
 rw [ded_snoc,ih h.1,if_neg fun z => h.2.2 x z x (List.mem_singleton.mpr rfl) rfl]
end L2
set_option Elab.async false
set_option linter.all false
set_option maxRecDepth 100000
set_option maxHeartbeats 1000000
namespace L2
open PySem PySem.Spec PyProof.Rows
end L2
set_option Elab.async false
set_option linter.all false
set_option maxRecDepth 100000
set_option maxHeartbeats 1000000
namespace L2
open PySem PySem.Spec PyProof.Rows
theorem sqT_chgO {K : PySem.W.Frag} {H H' : Hp} {l p : Addr} {xs : List V} {o : HO} (h : SqT K H p xs) (hl : H l = some o) (n1 : ∀ ys,o ≠ .tup ys) (n2 : ∀ a ys,o ≠ .frz a (.tup ys)) (C : Chg l H H') : SqT K H' p xs:=by
 rcases h with (h | ⟨a,h⟩) | h
 ·exact .inl (.inl (C _ _ (ne_of h hl (fun z => n1 _ z.symm)) h))
 ·exact .inl (.inr ⟨a,C _ _ (ne_of h hl (fun z => n2 _ _ z.symm)) h⟩)
 ·exact .inr h
theorem mvI_0' (n : Int) : mvI 0 n = n:=by rw [mvI_up (by decide)]; show n * 2 ^ 0 = n; rw [Int.pow_zero,Int.mul_one]
structure PrtE (ds : List Wd) (odd : Int) (p : Go) : Prop where
 ok : PtOkV (1 + ds.length) (valsW [1] ds) p
 sg : p.sg = 1 \/ p.sg = -1
 val : outV (valsW [1] ds) p = odd
 lo : -40 <= p.sh
 hi : p.sh <= 0
theorem PrtE.more {ds : List Wd} {odd : Int} {p : Go} (h : PrtE ds odd p) (d : Wd) : PrtE (ds ++ [d]) odd p:=by
 have th:=h.ok.th
 have e : (valsW [1] (ds ++ [d])).getD p.th 0 = (valsW [1] ds).getD p.th 0:=valsW_stay (xs:=[1]) (by show p.th < 1 + ds.length; exact th)
 refine ⟨⟨by rw [List.length_append]; omega,h.ok.sg,by rw [e]; exact h.ok.ex⟩,h.sg,?_,h.lo,h.hi⟩
 unfold outV
 rw [e]
 exact h.val
def tE (K : PySem.W.Frag) (ds : List Wd) (H : Hp) (v : V) (odd : Int) : Prop:=∃ (r : Addr) (p : Go),v = .ref r /\ SqT K H r (gTp p) /\ PrtE ds odd p
theorem tE.same {K : PySem.W.Frag} {ds : List Wd} {H H' : Hp} {v : V} {x : Int} (h : tE K ds H v x) (s : Same H H') : tE K ds H' v x:=by
 obtain ⟨r,p,e,h1,h2⟩:=h
 exact ⟨r,p,e,s.seqT h1,h2⟩
theorem tE.chg {K : PySem.W.Frag} {ds : List Wd} {H H' : Hp} {v : V} {x : Int} {l : Addr} {o : HO} (h : tE K ds H v x) (hl : H l = some o) (n1 : ∀ ys,o ≠ .tup ys) (n2 : ∀ a ys,o ≠ .frz a (.tup ys)) (C : Chg l H H') : tE K ds H' v x:=by
 obtain ⟨r,p,e,h1,h2⟩:=h
 exact ⟨r,p,e,sqT_chgO h1 hl n1 n2 C,h2⟩
theorem tE.more {K : PySem.W.Frag} {ds : List Wd} {H : Hp} {v : V} {x : Int} (h : tE K ds H v x) (d : Wd) : tE K (ds ++ [d]) H v x:=by
 obtain ⟨r,p,e,h1,h2⟩:=h
 exact ⟨r,p,e,h1,h2.more d⟩
def ksI (ks : List Int) : List (Int × Int):=ks.map fun k => (k,k)
theorem ksI_keys (ks : List Int) : (ksI ks).map (·.1) = ks:=by
 unfold ksI
 rw [List.map_map]
 exact List.map_id _
theorem lk_ksI {ks : List Int} {a : Int} (h : a ∈ ks) : lk (ksI ks) a = some a:=by
 cases e : lk (ksI ks) a with
 | none =>
  have:=lk_none.mp e
  rw [ksI_keys] at this
  exact absurd h this
 | some u =>
  have:=lk_mem e
  unfold ksI at this
  obtain ⟨k,_,ek⟩:=List.mem_map.mp this
  cases ek
  rfl
theorem lk_ksI_no {ks : List Int} {a : Int} (h : a ∉ ks) : lk (ksI ks) a = none:=lk_none.mpr (by rw [ksI_keys]; exact h)
structure RwE (cs : List Int) (ds : List Wd) : Prop where
 dk : ∀ (k : Nat) (d : Wd),ds[k]? = some d -> d.a < 1 + k /\ d.b < 1 + k /\ (d.w = "sum" \/ d.w = "less") /\ (Ex d.s ((valsW [1] ds).getD d.a 0) /\ -40 <= d.s /\ d.s <= 40) /\ (Ex d.t ((valsW [1] ds).getD d.b 0) /\ -40 <= d.t /\ d.t <= 40)
 co : ∀ v ∈ valsW [1] ds,v ≠ 0 /\ coreN v ∈ cs /\ v.natAbs < 2 ^ 20
theorem rwE_nil {cs : List Int} (h : (1 : Int) ∈ cs) : RwE cs []:=⟨fun k d e => by simp at e,fun v hv => by
 rw [List.mem_singleton.mp (show v ∈ [(1 : Int)] from hv)]
 exact ⟨by decide,by rw [show coreN 1 = 1 by decide]; exact h,by decide⟩⟩
theorem core_sgn {g n : Int} (hg : g = 1 \/ g = -1) (h : n ≠ 0) : coreN (g * n) = coreN n:=by
 obtain ⟨c1,c2,a,c3,c4,c5,c6⟩:=core_props h
 have e : g * n = coreN n * 2 ^ a * (g * sgN n):=by
  conv => lhs; rw [← c4]
  ac_rfl
 rw [e]
 exact (core_made (by omega) c2 (by rcases hg with z | z <;> rcases c5 with y | y <;> rw [z,y] <;> decide)).1
theorem add_core {cs : List Int} {ds : List Wd} (R : RwE cs ds) {l r g odd : Int} {sh : Nat} {p q : Go} (hp : PrtE ds l p) (hq : PrtE ds r q) (hg : g = 1 \/ g = -1) (s8 : sh <= 8) (l0 : 1 <= l) (l9 : l <= 99) (r0 : 1 <= r) (r9 : r <= 99) (hc : coreN (l * 2 ^ sh + g * r) = odd) (o1 : 1 <= odd) (oc : odd ∈ cs) :
  l * 2 ^ sh + g * r ≠ 0 /\ addG 1 ds (movG p sh 1) (movG q 0 g) = ds ++ [deedG (movG p sh 1) (movG q 0 g)] /\ RwE cs (ds ++ [deedG (movG p sh 1) (movG q 0 g)]) /\ PrtE (ds ++ [deedG (movG p sh 1) (movG q 0 g)]) odd (movG (addP 1 ds (movG p sh 1) (movG q 0 g)) (-(shN (l * 2 ^ sh + g * r))) (sgN (l * 2 ^ sh + g * r))):=by
 have nz : l * 2 ^ sh + g * r ≠ 0:=fun z => by
  rw [z,core_zero] at hc
  omega
 have hsh : (0 : Int) <= (sh : Int):=by omega
 obtain ⟨m1,m2⟩:=mov_val hp.ok (by omega) (.inl rfl) (s:=(sh : Int)) (g:=1) (fun z => by omega)
 obtain ⟨n1,n2⟩:=mov_val hq.ok (by omega) hg (s:=0) (g:=g) (fun z => absurd z (by decide))
 rw [hp.val,mvI_up hsh,Int.toNat_natCast,Int.one_mul] at m2
 rw [hq.val,mvI_0'] at n2
 have sp : (movG p sh 1).sg = p.sg:=by
  unfold movG
  rw [if_neg (by rw [Int.mul_one]; rcases hp.sg with z | z <;> rw [z] <;> decide),Int.mul_one]
 have sq : (movG q 0 g).sg = q.sg * g:=by
  unfold movG
  rw [if_neg (by rcases hq.sg with z | z <;> rcases hg with y | y <;> rw [z,y] <;> decide)]
 have hp1 : (movG p sh 1).sg = 1 \/ (movG p sh 1).sg = -1:=by rw [sp]; exact hp.sg
 have hq1 : (movG q 0 g).sg = 1 \/ (movG q 0 g).sg = -1:=by rw [sq]; exact sg_mul hq.sg hg
 have sh1 : (movG p sh 1).sh = p.sh + sh:=by
  unfold movG
  rw [if_neg (by rw [Int.mul_one]; rcases hp.sg with z | z <;> rw [z] <;> decide)]
 have sh2 : (movG q 0 g).sh = q.sh + 0:=by
  unfold movG
  rw [if_neg (by rcases hq.sg with z | z <;> rcases hg with y | y <;> rw [z,y] <;> decide)]
 generalize movG p sh 1 = P at m1 m2 hp1 sh1
 generalize movG q 0 g = Q at n1 n2 hq1 sh2
 have plo:=hp.lo
 have phi:=hp.hi
 have qlo:=hq.lo
 have qhi:=hq.hi
 have dv:=deedG_val (vs:=valsW [1] ds) hp1 hq1
 rw [m2,n2] at dv
 have ag : addG 1 ds P Q = ds ++ [deedG P Q]:=by
  unfold addG
  rw [if_neg (by rcases hp1 with z | z <;> rw [z] <;> decide),if_neg (by rcases hq1 with z | z <;> rw [z] <;> decide)]
 have ap : addP 1 ds P Q = ⟨1 + ds.length,0,signG P Q⟩:=by
  unfold addP
  rw [if_neg (by rcases hp1 with z | z <;> rw [z] <;> decide),if_neg (by rcases hq1 with z | z <;> rw [z] <;> decide)]
 have sgn : signG P Q = 1 \/ signG P Q = -1:=by
  unfold signG
  split
  ·exact hp1
  ·exact .inl rfl
 generalize hS : l * 2 ^ sh + g * r = S at nz hc dv ⊢
 have vS : valD (valsW [1] ds) (deedG P Q) = signG P Q * S:=by
  rw [← dv,← Int.mul_assoc]
  rcases sgn with z | z <;> rw [z] <;> simp
 have bS : S.natAbs < 2 ^ 20:=by
  have p8 : (2 : Int) ^ sh <= 256:=by
   have:=p2le (e:=sh) (k:=8) s8
   omega
  have pp:=pow_pos2 sh
  have : l * 2 ^ sh <= 99 * 256:=Int.mul_le_mul l9 p8 (by omega) (by decide)
  have l2 : 0 <= l * 2 ^ sh:=Int.mul_nonneg (by omega) (by omega)
  rcases hg with z | z <;> rw [z] at hS <;> omega
 have vl:=valsW_len [1] ds
 have tP:=m1.th
 have tQ:=n1.th
 have vv : ∀ j,j < 1 + ds.length -> (valsW [1] (ds ++ [deedG P Q])).getD j 0 = (valsW [1] ds).getD j 0:=fun j hj => valsW_stay (xs:=[1]) hj
 have dshape : (deedG P Q).a < 1 + ds.length /\ (deedG P Q).b < 1 + ds.length /\ ((deedG P Q).w = "sum" \/ (deedG P Q).w = "less") /\ (Ex (deedG P Q).s ((valsW [1] ds).getD (deedG P Q).a 0) /\ -40 <= (deedG P Q).s /\ (deedG P Q).s <= 40) /\ (Ex (deedG P Q).t ((valsW [1] ds).getD (deedG P Q).b 0) /\ -40 <= (deedG P Q).t /\ (deedG P Q).t <= 40):=by
  unfold deedG
  split
  ·exact ⟨tP,tQ,.inl rfl,⟨m1.ex,by show -40 <= P.sh; omega,by show P.sh <= 40; omega⟩,⟨n1.ex,by show -40 <= Q.sh; omega,by show Q.sh <= 40; omega⟩⟩
  ·split
   ·exact ⟨tP,tQ,.inr rfl,⟨m1.ex,by show -40 <= P.sh; omega,by show P.sh <= 40; omega⟩,⟨n1.ex,by show -40 <= Q.sh; omega,by show Q.sh <= 40; omega⟩⟩
   ·exact ⟨tQ,tP,.inr rfl,⟨n1.ex,by show -40 <= Q.sh; omega,by show Q.sh <= 40; omega⟩,⟨m1.ex,by show -40 <= P.sh; omega,by show P.sh <= 40; omega⟩⟩
 generalize deedG P Q = d at vS vv dshape ag ⊢
 have lastv : (valsW [1] (ds ++ [d])).getD (1 + ds.length) 0 = signG P Q * S:=by
  rw [valsW_snoc,getD_of (x:=valD (valsW [1] ds) d),vS]
  rw [List.getElem?_append_right (by rw [vl]; exact Nat.le_refl _),vl]
  show [_][1 + ds.length - (1 + ds.length)]? = _
  rw [Nat.sub_self]
  rfl
 refine ⟨nz,ag,⟨fun k e he => ?_,fun v hv => ?_⟩,?_⟩
 ·rcases get_snoc he with ⟨hk,z⟩ | ⟨hk,rfl⟩
  ·obtain ⟨a,b,c,⟨d1,d2⟩,e1,e2⟩:=R.dk k e z
   refine ⟨a,b,c,⟨by rw [vv _ (by omega)]; exact d1,d2⟩,by rw [vv _ (by omega)]; exact e1,e2⟩
  ·obtain ⟨a,b,c,⟨d1,d2⟩,e1,e2⟩:=dshape
   rw [hk]
   exact ⟨a,b,c,⟨by rw [vv _ a]; exact d1,d2⟩,by rw [vv _ b]; exact e1,e2⟩
 ·rw [valsW_snoc] at hv
  rcases List.mem_append.mp hv with z | z
  ·exact R.co v z
  ·rw [List.mem_singleton.mp z,vS]
   refine ⟨Int.mul_ne_zero (by rcases sgn with y | y <;> rw [y] <;> decide) nz,by rw [core_sgn sgn nz,hc]; exact oc,?_⟩
   rw [Int.natAbs_mul]
   rcases sgn with y | y <;> rw [y] <;> simpa using bS
 ·rw [ap]
  obtain ⟨c1,c2,k,c3,c4,c5,c6,c7,_⟩:=core_props nz
  have pt0 : PtOkV (1 + (ds ++ [d]).length) (valsW [1] (ds ++ [d])) ⟨1 + ds.length,0,signG P Q⟩:=⟨by rw [List.length_append]; show 1 + ds.length < 1 + (ds.length + 1); omega,.inr sgn,fun z => absurd (show (0 : Int) < 0 from z) (by decide)⟩
  have ov : outV (valsW [1] (ds ++ [d])) ⟨1 + ds.length,0,signG P Q⟩ = S:=by
   unfold outV
   show signG P Q * mvI 0 ((valsW [1] (ds ++ [d])).getD (1 + ds.length) 0) = S
   rw [lastv,mvI_0',← Int.mul_assoc]
   rcases sgn with y | y <;> rw [y] <;> simp
  have exS : Ex (-(shN S)) S:=fun _ => by
   rw [c3,Int.neg_neg,Int.toNat_natCast]
   refine ⟨coreN S * sgN S,?_⟩
   conv => lhs; rw [← c4]
   ac_rfl
  obtain ⟨x1,x2⟩:=mov_val pt0 (by omega) c5 (s:=-(shN S)) (g:=sgN S) (by rw [ov]; exact exS)
  rw [ov] at x2
  have mS : sgN S * mvI (-(shN S)) S = odd:=by
   rw [c3]
   have : mvI (-(k : Int)) S = coreN S * sgN S:=by
    refine (Sx.ex ?_).2
    unfold Sx
    rw [Int.neg_neg,Int.toNat_natCast,show (-(k : Int)).toNat = 0 by omega,Int.pow_zero,Int.mul_one]
    conv => rhs; rw [← c4]
    ac_rfl
   rw [this,hc]
   rcases c5 with y | y <;> rw [y] <;> simp
  have k20 : k < 20:=(Nat.pow_lt_pow_iff_right (by decide : 1 < 2)).mp (Nat.lt_of_le_of_lt c7 bS)
  have shape : movG ⟨1 + ds.length,0,signG P Q⟩ (-(shN S)) (sgN S) = ⟨1 + ds.length,0 + -(shN S),signG P Q * sgN S⟩:=by
   unfold movG
   rw [if_neg (by show signG P Q * sgN S ≠ 0; rcases sgn with y | y <;> rcases c5 with z | z <;> rw [y,z] <;> decide)]
  refine ⟨x1,?_,by rw [x2,mS],?_,?_⟩
  ·rw [shape]
   exact sg_mul sgn c5
  ·rw [shape]
   show -40 <= 0 + -(shN S)
   omega
  ·rw [shape]
   show 0 + -(shN S) <= 0
   omega
def spAddCE (K : PySem.W.Frag) : Sp:=fun vs H Q _ => ∃ (l d t : Addr) (us : List V) (ds : List Wd) (kvs : List (Key × V)) (ks cs : List Int) (a r g odd : Int) (sh : Nat),vs = [.ref l,.ref d,.ref t] /\ H l = some (.lst us) /\ HTs wTup H us ds /\ us.length <= 60 /\ H d = some (.dK kvs) /\ DV (tE K ds H) kvs (ksI ks) /\ H t = some (.tup [.int a,.int sh,.int r,.int g]) /\ a ∈ ks /\ r ∈ ks /\ sh <= 8 /\ (g = 1 \/ g = -1) /\ coreN (a * 2 ^ sh + g * r) = odd /\ 1 <= odd /\ odd ∈ cs /\ (∀ k ∈ ks,1 <= k /\ k <= 99) /\ RwE cs ds /\
 ∀ v us' dd H',Chg l H H' -> H' l = some (.lst us') -> HTs wTup H' us' (ds ++ [dd]) -> RwE cs (ds ++ [dd]) -> tE K (ds ++ [dd]) H' v odd -> Q v H'
def spOutE (K : PySem.W.Frag) : Sp:=fun vs H Q _ => ∃ (x : Int) (d : Addr) (kvs : List (Key × V)) (ks : List Int) (ds : List Wd),vs = [.int x,.ref d] /\ H d = some (.dK kvs) /\ DV (tE K ds H) kvs (ksI ks) /\ (x = 0 \/ coreN x ∈ ks) /\ x.natAbs < 2 ^ 300 /\
 ∀ r p H',Same H H' -> SqT K H' r (gTp p) -> PtOkV (1 + ds.length) (valsW [1] ds) p -> outV (valsW [1] ds) p = x -> (x = 0 -> p = ⟨0,0,0⟩) -> (x ≠ 0 -> p.sg ≠ 0) -> -40 <= p.sh -> p.sh <= 400 -> Q (.ref r) H'
def spRowE (K : PySem.W.Frag) : Sp:=fun vs H Q _ => ∃ (c l : Addr) (cs xs : List Int) (top : Int),vs = [.ref c,.ref l,.int top] /\ H c = some (.tup (cs.map V.int)) /\ H l = some (.lst (xs.map V.int)) /\ xs.length <= 60 /\ (∀ x ∈ xs,x.natAbs < 2 ^ 300) /\ cs.Nodup /\ cs.length <= 60 /\ (∃ m own,RchO top m own /\ ∀ x,x ∈ cs ↔ x ∈ own) /\ 1 <= top /\ top <= 99 /\ (∀ x ∈ xs,x = 0 \/ coreN x ∈ cs) /\
 ∀ w dl gl us os ds gs H',Same H H' -> H' w = some (.tup [.int 1,.ref dl,.ref gl]) -> H' dl = some (.lst us) -> HTs wTup H' us ds -> H' gl = some (.lst os) -> HKs K gTp H' os gs -> ds.length + 1 = cs.length -> RwE cs ds -> gs.length = xs.length ->
  (∀ (i : Nat) n p,xs[i]? = some n -> gs[i]? = some p -> PtOkV (1 + ds.length) (valsW [1] ds) p /\ outV (valsW [1] ds) p = n /\ (n = 0 -> p = ⟨0,0,0⟩) /\ (n ≠ 0 -> p.sg ≠ 0) /\ -40 <= p.sh /\ p.sh <= 400) -> Q (.ref w) H'
section
variable {K : PySem.W.Frag} {σ : St} {H : Hp} {Q : VK} {cs : List Nat} {te : TE}
theorem comp_intK {l : Addr} {xs : List Int} (Rl : Int -> Go -> Prop) (hl : H l = some (.lst (xs.map V.int))) (hz : xs.length <= 1000)
  (hb : ∀ (i : Nat) x H' (R : VK),xs[i]? = some x -> Same H H' -> (∀ r p H5,Same H' H5 -> SqT K H5 r (gTp p) -> Rl x p -> R (.ref r) H5) -> te (some (.int x) :: capV cs σ) H' R)
  (hd : ∀ acc ws gs H',H acc = none -> Same H H' -> H' acc = some (.lst ws) -> HKs K gTp H' ws gs -> gs.length = xs.length -> (∀ (i : Nat) n p,xs[i]? = some n -> gs[i]? = some p -> Rl n p) -> Q (.ref acc) H') : CompIt (Itl K l) 1 cs (gName 0) tYes te σ H Q:=by
 refine comp_any xs.length (fun acc i ws H' => ∃ gs : List Go,Same H H' /\ H' acc = some (.lst ws) /\ HKs K gTp H' ws gs /\ gs.length = i /\ ∀ (i : Nat) n p,xs[i]? = some n -> gs[i]? = some p -> Rl n p) (le_size hz) ?_ ?_ ?_ ?_ ?_ ?_
 ·rintro acc i ws H' hi ⟨_,s,_⟩
  exact ⟨xs.map V.int,.int xs[i],SqL.of (s _ _ hl),by rw [List.getElem?_map,List.getElem?_eq_getElem hi]; rfl⟩
 ·rintro acc ws H' ⟨_,s,_⟩
  exact ⟨xs.map V.int,SqL.of (s _ _ hl),by rw [List.length_map]; exact Nat.le_refl _⟩
 ·intro acc ha
  exact ⟨[],same_new ha _,upd_same,hks_nil,rfl,fun i n p _ h => by simp at h⟩
 ·rintro acc i ws H' ⟨gs,s,ha,hk,e,_⟩
  exact ⟨ha,by rw [hk.len,e]; exact Nat.le_refl _⟩
 ·rintro acc i ws H' ts x H2 N hn hi ⟨gs,s,ha,hk,e,hB⟩ ⟨rfl,hx'⟩ hts hN
  have hx':=hx' _ (SqL.of (s _ _ hl))
  obtain ⟨t0,rfl⟩ : ∃ t0,ts = [t0]:=List.length_eq_one_iff.mp hts
  have hSi : xs[i]? = some xs[i]:=List.getElem?_eq_getElem hi
  rw [List.getElem?_map,hSi] at hx'
  cases hx'
  rw [w_gName,w_yes,if_pos rfl]
  refine hb i _ _ _ hSi s fun r p H5 s5 h5 rl => ?_
  have ha5:=s5 _ _ ha
  refine ⟨ha5,hN _ [_] _ rfl ⟨gs ++ [p],same_upd hn (s.trans s5),upd_same,((hk.same s5).snoc h5).chgL ha5 (Chg.upd _),by rw [List.length_append,e]; rfl,fun k n p' hn' hp' => ?_⟩⟩
  rcases get_snoc hp' with ⟨_,z⟩ | ⟨kl,rfl⟩
  ·exact hB k n p' hn' z
  ·rw [kl,e,hSi] at hn'
   cases hn'
   exact rl
 ·rintro acc ws H' hn ⟨gs,s,ha,hk,e,hB⟩
  exact hd acc ws gs H' hn s ha hk e hB
end
def spLevX : Sp:=fun vs H Q _ => ∃ (l : Addr) (lvs : List V) (top : Int) (L0 : List (List Int)),vs = [.ref l,.int top] /\ H l = some (.lst lvs) /\ 1 <= top /\ top <= 99 /\ lvs.length <= 3 /\
 (lvs ≠ [] -> ∃ (r : Addr) (us : List V),lvs.getLast? = some (.ref r) /\ H r = some (.lst us) /\ HTs iT H us L0 /\ LevP top lvs.length L0 /\ L0.length <= 99 ^ (lvs.length - 1)) /\
 ∀ r us L H',H r = none -> Same H H' -> H' r = some (.lst us) -> HTs iT H' us L -> LevP top (lvs.length + 1) L -> L.length <= 99 ^ lvs.length -> (lvs = [] -> L = [[1]]) -> (lvs ≠ [] -> ∀ S,S ∈ L ↔ ∃ S0 ∈ L0,S ∈ growL S0 top) -> Q (.ref r) H'
structure Lvs (top : Int) (as : List Int) (Ls : List (List (List Int))) : Prop where
 lev : ∀ (i : Nat) L,Ls[i]? = some L -> LevP top (i + 1) L
 one : ∀ L,Ls[0]? = some L -> L = [[1]]
 nx : ∀ (i : Nat) L L',Ls[i]? = some L -> Ls[i + 1]? = some L' -> ∀ S,S ∈ L' ↔ ∃ S0 ∈ L,S ∈ growL S0 top
 no : ∀ L ∈ Ls,∀ S ∈ L,¬ Fin_ top S as
theorem lvs_nil {top : Int} {as : List Int} : Lvs top as []:=⟨fun i L h => by simp at h,fun L h => by simp at h,fun i L L' h => by simp at h,fun L h => by cases h⟩
theorem Lvs.snoc {top : Int} {as : List Int} {Ls : List (List (List Int))} {L : List (List Int)} (h : Lvs top as Ls) (hl : LevP top (Ls.length + 1) L) (h0 : Ls = [] -> L = [[1]]) (hn : ∀ L0,Ls.getLast? = some L0 -> ∀ S,S ∈ L ↔ ∃ S0 ∈ L0,S ∈ growL S0 top) (no : ∀ S ∈ L,¬ Fin_ top S as) : Lvs top as (Ls ++ [L]):=by
 refine ⟨fun i M hM => ?_,fun M hM => ?_,fun i M M' hM hM' => ?_,fun M hM => ?_⟩
 ·rcases get_snoc hM with ⟨_,z⟩ | ⟨z,rfl⟩
  ·exact h.lev i M z
  ·rw [z]; exact hl
 ·rcases get_snoc hM with ⟨_,z⟩ | ⟨z,rfl⟩
  ·exact h.one M z
  ·exact h0 (List.eq_nil_of_length_eq_zero z.symm)
 ·rcases get_snoc hM' with ⟨a,z⟩ | ⟨z,rfl⟩
  ·rw [List.getElem?_append_left (by omega)] at hM
   exact h.nx i M M' hM z
  ·rw [List.getElem?_append_left (by omega)] at hM
   exact hn M (by rw [List.getLast?_eq_getElem?,← z]; exact hM)
 ·rcases List.mem_append.mp hM with z | z
  ·exact h.no M z
  ·rw [List.mem_singleton.mp z]; exact no
structure Pap (H : Hp) (lv : Addr) (lvs : List V) (Ls : List (List (List Int))) : Prop where
 lst : H lv = some (.lst lvs)
 len : lvs.length = Ls.length
 at_ : ∀ (i : Nat) L,Ls[i]? = some L -> ∃ (r : Addr) (us : List V),lvs[i]? = some (.ref r) /\ r ≠ lv /\ H r = some (.lst us) /\ HTs iT H us L /\ L.length <= 99 ^ i
theorem Pap.same {H H' : Hp} {lv : Addr} {lvs : List V} {Ls : List (List (List Int))} (h : Pap H lv lvs Ls) (s : Same H H') : Pap H' lv lvs Ls:=⟨s _ _ h.lst,h.len,fun i L e => by
 obtain ⟨r,us,e1,e2,e3,e4,e5⟩:=h.at_ i L e
 exact ⟨r,us,e1,e2,s _ _ e3,e4.same s,e5⟩⟩
theorem Pap.app {H : Hp} {lv v : Addr} {lvs : List V} {Ls : List (List (List Int))} {us : List V} {L : List (List Int)} (h : Pap H lv lvs Ls) (hv : v ≠ lv) (h1 : H v = some (.lst us)) (h2 : HTs iT H us L) (h3 : L.length <= 99 ^ Ls.length) : Pap (upd H lv (.lst (lvs ++ [.ref v]))) lv (lvs ++ [.ref v]) (Ls ++ [L]):=by
 have C : Chg lv H (upd H lv (.lst (lvs ++ [.ref v]))):=Chg.upd _
 refine ⟨upd_same,by rw [List.length_append,List.length_append,h.len]; rfl,fun i M hM => ?_⟩
 rcases get_snoc hM with ⟨a,z⟩ | ⟨z,rfl⟩
 ·obtain ⟨r,us',e1,e2,e3,e4,e5⟩:=h.at_ i M z
  exact ⟨r,us',by rw [List.getElem?_append_left (by rw [h.len]; exact a)]; exact e1,e2,C _ _ e2 e3,e4.chgL h.lst C,e5⟩
 ·refine ⟨v,us,?_,hv,C _ _ hv h1,h2.chgL h.lst C,by rw [z]; exact h3⟩
  rw [List.getElem?_append_right (by rw [h.len]; omega),h.len,z,Nat.sub_self]
  rfl
def spFewE (K : PySem.W.Frag) : Sp:=fun vs H Q _ => ∃ (l : Addr) (xs : List Int) (top : Int) (most : Nat),vs = [.ref l,.int top,.int most] /\ H l = some (.lst (xs.map V.int)) /\ xs.length <= 60 /\ (∀ x ∈ xs,x.natAbs < 2 ^ 300) /\ 1 <= top /\ top <= 99 /\ most <= 4 /\ ¬ farB top most /\
 (∀ r lv lvs Ls H',Same H H' -> H' r = some (.tup [.str "none",.ref lv]) -> Pap H' lv lvs Ls -> Lvs top (askL xs) Ls -> Ls.length = most -> askL xs ≠ [] -> FewIs top most (askL xs) (-1) -> Q (.ref r) H') /\
 ∀ r w0 dl gl us os ds gs cs p H',Same H H' -> H' r = some (.tup [.str "web",.ref w0,p]) -> H' w0 = some (.tup [.int 1,.ref dl,.ref gl]) -> H' dl = some (.lst us) -> HTs wTup H' us ds -> H' gl = some (.lst os) -> HKs K gTp H' os gs -> RwE cs ds -> (∀ c ∈ cs,1 <= c /\ c <= top) -> gs.length = xs.length ->
  (∀ (i : Nat) n p,xs[i]? = some n -> gs[i]? = some p -> PtOkV (1 + ds.length) (valsW [1] ds) p /\ outV (valsW [1] ds) p = n /\ (n = 0 -> p = ⟨0,0,0⟩) /\ (n ≠ 0 -> p.sg ≠ 0) /\ -40 <= p.sh /\ p.sh <= 400) ->
  ds.length <= most -> FewIs top most (askL xs) ds.length -> ((ds.length = 0 /\ p = .non) \/ ∃ lv lvs Ls,p = .ref lv /\ Pap H' lv lvs Ls /\ Lvs top (askL xs) Ls /\ Ls.length + 1 = ds.length /\ askL xs ≠ []) -> Q (.ref r) H'
def kpO (top n : Int) : List Int:=if 0 < n /\ n <= top then [n] else []
theorem kp_keep (top : Int) {n : Int} : kpO top (coreN n) = keepO top (absI n):=by
 unfold kpO keepO
 by_cases z : n = 0
 ·subst z
  rw [if_neg fun h => absurd h.1 (by decide),if_neg fun h => absurd h.1 (by decide)]
 ·have c:=(core_props z).1
  have e : coreN (absI n) = coreN n:=by
   unfold absI
   split
   ·rw [show -n = (-1) * n by omega]; exact core_sgn (.inr rfl) z
   ·rfl
  have p : 0 < absI n:=by unfold absI; split <;> omega
  rw [e]
  by_cases y : coreN n <= top
  ·rw [if_pos ⟨c,y⟩,if_pos ⟨p,y⟩]
  ·rw [if_neg fun h => y h.2,if_neg fun h => y h.2]
theorem kp_keepA (top : Int) {n : Int} (h : 0 < n) : kpO top (coreN n) = keepO top n:=by
 rw [kp_keep]
 congr 1
 unfold absI
 rw [if_neg (by omega)]
def spReach : Sp:=fun vs H Q _ => ∃ (pd c : Addr) (pk : List (List Key × V)) (S : List Int) (top : Int),vs = [.ref pd,.ref c,.int top] /\ H pd = some (.dT pk) /\ PairsP top pk /\ H c = some (.tup (S.map V.int)) /\ OdIn S top /\ 1 <= top /\ top <= 99 /\ S.length <= 100 /\
 ∀ pk' H',Chg pd H H' -> H' pd = some (.dT pk') -> PairsP top pk' -> Q (.int (maskN (madeL S top) : Nat)) H'
theorem odd_from3 {top : Int} (h1 : 1 <= top) (h2 : top <= 99) : stepN 3 (top + 1) 2 <= 50 /\ ∀ o : Int,3 <= o -> o <= top -> o % 2 = 1 -> ∃ j : Nat,j < stepN 3 (top + 1) 2 /\ o = 3 + (j : Int) * 2:=by
 unfold stepN Builtin.Range.rangeSize
 refine ⟨by simp only [show (2 : Int) > 0 by decide,if_true]; split <;> omega,fun o a b c => ⟨((o - 3) / 2).toNat,?_,by omega⟩⟩
 simp only [show (2 : Int) > 0 by decide,if_true]
 split <;> omega
def spEndsX : Sp:=fun vs H Q _ => ∃ (pd c l : Addr) (pk : List (List Key × V)) (S as : List Int) (top : Int),vs = [.ref pd,.ref c,.ref l,.int top] /\ H pd = some (.dT pk) /\ PairsP top pk /\ H c = some (.tup (S.map V.int)) /\ H l = some (.lst (as.map V.int)) /\ as.length <= 60 /\ (∀ x ∈ as,0 <= x) /\ OdIn S top /\ 1 <= top /\ top <= 99 /\ S.length <= 100 /\
 ∀ (b : Bool) pk' H',Chg pd H H' -> H' pd = some (.dT pk') -> PairsP top pk' -> (b = true ↔ Fin_ top S as) -> Q (.bl b) H'
def LstV (top : Int) (most : Nat) (as : List Int) (v : V) : Prop:=(v = .non /\ FewIs top most as (-1)) \/ ∃ d : Nat,v = .int (d : Int) /\ FewIs top most as d /\ (d = 0 ↔ as = [])
def spLeastX : Sp:=fun vs H Q _ => ∃ (pd l : Addr) (pk : List (List Key × V)) (as : List Int) (top : Int) (most : Nat),vs = [.ref pd,.ref l,.int top,.int (most : Int)] /\ H pd = some (.dT pk) /\ PairsP top pk /\ H l = some (.lst (as.map V.int)) /\ as.length <= 60 /\ as.Nodup /\ (∀ x ∈ as,1 < x) /\ 1 <= top /\ top <= 99 /\ most <= 4 /\
 ∀ v pk' H',Chg pd H H' -> H' pd = some (.dT pk') -> PairsP top pk' -> LstV top most as v -> Q v H'
theorem levP_more {top : Int} {k : Nat} {L L' : List (List Int)} (h : LevP top k L) (hl : ∀ S ∈ L,∃ own,RchO top k own /\ ∀ x,x ∈ S ↔ x ∈ own) (k1 : 1 <= k) (hL : ∀ S,S ∈ L' ↔ ∃ S0 ∈ L,∃ o ∈ moreL S0 top,S = sortI (S0 ++ [o])) : LevP top (k + 1) L' /\ ∀ S ∈ L',∃ own,RchO top (k + 1) own /\ ∀ x,x ∈ S ↔ x ∈ own:=by
 have key : ∀ S ∈ L',∃ own,RchO top (k + 1) own /\ ∀ x,x ∈ S ↔ x ∈ own:=fun S hS => by
  obtain ⟨S0,h0,o,ho,rfl⟩:=(hL S).mp hS
  obtain ⟨own,hr,he⟩:=hl S0 h0
  obtain ⟨hm,hno⟩:=mem_more.mp ho
  refine ⟨own ++ [o],.more hr ((made_mem he o).mp hm) (fun z => hno ((he o).mpr z)),fun x => ?_⟩
  rw [mem_sort1,List.mem_append,List.mem_singleton,he x]
 refine ⟨⟨fun S hS => ?_,fun S hS => ?_,fun S hS => ?_,fun S hS => .inl (key S hS),fun own hown => ?_⟩,key⟩
 ·obtain ⟨S0,h0,o,ho,rfl⟩:=(hL S).mp hS
  have O:=h.od S0 h0
  have hm:=(mem_more.mp ho).1
  refine ⟨fun x hx => ?_,fun x hx => ?_,fun x hx => ?_⟩ <;> rcases mem_sort1.mp hx with z | rfl
  ·exact O.odd x z
  ·exact made_odd hm
  ·exact O.lo x z
  ·have:=made_in hm; omega
  ·exact O.hi x z
  ·exact (made_in hm).2
 ·obtain ⟨S0,h0,o,ho,rfl⟩:=(hL S).mp hS
  have hl:=h.len S0 h0
  rw [(sortI_perm _).length_eq,List.length_append,List.length_singleton]
  omega
 ·obtain ⟨S0,h0,o,ho,rfl⟩:=(hL S).mp hS
  refine (sortI_perm _).nodup_iff.mpr ?_
  rw [List.nodup_append]
  exact ⟨h.nd S0 h0,by simp,fun x hx y hy e => (mem_more.mp ho).2 (by rw [← List.mem_singleton.mp hy,← e]; exact hx)⟩
 ·cases hown with
  | one => exact absurd k1 (by omega)
  | @more _ own n hr hm hno =>
   obtain ⟨S0,h0,he⟩:=h.to own hr
   have ho : n ∈ moreL S0 top:=mem_more.mpr ⟨(made_mem he n).mpr hm,fun z => hno ((he n).mp z)⟩
   refine ⟨sortI (S0 ++ [n]),(hL _).mpr ⟨S0,h0,n,ho,rfl⟩,fun x => ?_⟩
   rw [mem_sort1,List.mem_append,List.mem_singleton,he x]
theorem sets_one {top : Int} : ∀ S ∈ [[(1 : Int)]],∃ own,RchO top 1 own /\ ∀ x,x ∈ S ↔ x ∈ own:=fun S hS => ⟨[1],.one,by rw [List.mem_singleton.mp hS]; exact fun x => Iff.rfl⟩
theorem rch_has {top : Int} {k : Nat} {own : List Int} (h : RchO top k own) : (1 : Int) ∈ own:=by
 induction h with
 | one => exact List.mem_singleton.mpr rfl
 | more _ _ _ ih => exact List.mem_append_left _ ih
end L2
set_option Elab.async false
set_option linter.all false
set_option maxRecDepth 100000
set_option maxHeartbeats 1000000
namespace L2
open PySem PySem.Spec PyProof.Rows
theorem fm_none {α β : Type} (xs : List α) : (xs.filterMap fun _ => (none : Option β)) = []:=by
 induction xs with
 | nil => rfl
 | cons x xs ih => rw [List.filterMap_cons]; exact ih
def spPart36 : Sp:=fun vs H Q _ => ∃ (l : Addr) (ns : List Int) (th : Nat) (sh : Int),vs = [.ref l,.int (th : Int),.int sh] /\ H l = some (.lst (ns.map V.int)) /\ th < ns.length /\ Ex sh (ns.getD th 0) /\ -40 <= sh /\ sh <= 400 /\ (ns.getD th 0).natAbs < 2 ^ 400 /\ Q (.int (mvI sh (ns.getD th 0))) H
def spWalk36 : Sp:=fun vs H Q _ => ∃ (dl : Addr) (us : List V) (ds : List Wd) (cs : List Int),vs = [.ref dl] /\ H dl = some (.lst us) /\ HTs wTup H us ds /\ RwE cs ds /\ ds.length <= 10 /\
 ∀ r H',Same H H' -> H' r = some (.lst ((valsW [1] ds).map V.int)) -> Q (.ref r) H'
def OutsE (xs : List Int) (ds : List Wd) (gs : List Go) : Prop:=gs.length = xs.length /\ ∀ (i : Nat) n p,xs[i]? = some n -> gs[i]? = some p -> PtOkV (1 + ds.length) (valsW [1] ds) p /\ outV (valsW [1] ds) p = n /\ (n = 0 -> p = ⟨0,0,0⟩) /\ (n ≠ 0 -> p.sg ≠ 0) /\ -40 <= p.sh /\ p.sh <= 400
def spIsRow36 (K : PySem.W.Frag) : Sp:=fun vs H Q _ => ∃ (w0 l dl gl : Addr) (us os : List V) (ds : List Wd) (gs : List Go) (xs cs : List Int) (top : Int),vs = [.ref w0,.ref l,.int top,.int (ds.length : Int)] /\ H w0 = some (.tup [.int 1,.ref dl,.ref gl]) /\ H dl = some (.lst us) /\ HTs wTup H us ds /\ H gl = some (.lst os) /\ HKs K gTp H os gs /\ H l = some (.lst (xs.map V.int)) /\ RwE cs ds /\ ds.length <= 10 /\ (∀ c ∈ cs,1 <= c /\ c <= top) /\ xs.length <= 60 /\ OutsE xs ds gs /\
 ∀ H',Same H H' -> Q (.bl true) H'
theorem mask_sub {A B : List Int} (ha : ∀ n ∈ A,0 <= n) (hb : ∀ n ∈ B,0 <= n) (h : ∀ n ∈ A,n ∈ B) : maskN A &&& maskN B = maskN A:=by
 refine Nat.eq_of_testBit_eq fun j => ?_
 rw [Nat.testBit_and,Bool.eq_iff_iff,Bool.and_eq_true,mask_bit ha,mask_bit hb]
 exact ⟨fun z => z.1,fun z => ⟨z,h _ z⟩⟩
theorem and_not0 {a b : Nat} (h : a &&& b = a) : Builtin.bitAnd (a : Int) (Builtin.bitNot (b : Int)) = 0:=by
 unfold Builtin.bitAnd
 rw [decide_eq_true (by omega : (0 : Int) <= (a : Int)),decide_eq_false (by unfold Builtin.bitNot; omega : ¬ (0 : Int) <= Builtin.bitNot (b : Int)),show Builtin.bitNot (Builtin.bitNot (b : Int)) = (b : Int) by unfold Builtin.bitNot; omega]
 show (a : Int) - (((a : Int).toNat &&& (b : Int).toNat : Nat) : Int) = 0
 rw [Int.toNat_natCast,Int.toNat_natCast,h]
 omega
theorem sort_id {S : List Int} (h : S.Pairwise (· <= ·)) : sortI S = S:=(sortI_of (List.Perm.refl S) h).symm
def spIsSet36 : Sp:=fun vs H Q _ => ∃ (c : Addr) (S : List Int) (top : Int),vs = [.ref c,.int top] /\ H c = some (.tup (S.map V.int)) /\ OdIn S top /\ S.Nodup /\ S.Pairwise (· <= ·) /\ S.length <= 10 /\ ∀ H',Same H H' -> Q (.bl true) H'
def spIsLed36 : Sp:=fun vs H Q _ => ∃ (pd c l : Addr) (pk : List (List Key × V)) (S : List Int) (us : List V) (L : List (List Int)) (top : Int),vs = [.ref pd,.ref c,.ref l,.int top] /\ H pd = some (.dT pk) /\ PairsP top pk /\ H c = some (.tup (S.map V.int)) /\ H l = some (.lst us) /\ HTs iT H us L /\ L.length <= 99 ^ 3 /\ OdIn S top /\ 1 <= top /\ top <= 99 /\ S.length <= 10 /\ (∀ S' ∈ L,OdIn S' top /\ S'.length <= 10) /\ (∀ o ∈ madeL S top,∃ S' ∈ L,(∀ o' ∈ S,o' ∈ S') /\ o ∈ S') /\
 ∀ pk' H',Chg pd H H' -> H' pd = some (.dT pk') -> PairsP top pk' -> Q (.bl true) H'
theorem grow_sorted {S0 S : List Int} {top : Int} (h : S0.Pairwise (· <= ·)) (hS : S ∈ growL S0 top) : S.Pairwise (· <= ·):=by
 unfold growL at hS
 split at hS
 ·rw [List.mem_singleton.mp hS]; exact h
 ·obtain ⟨o,_,rfl⟩:=List.mem_map.mp hS
  exact sortI_sorted _
theorem grow_cov {S0 : List Int} {top o : Int} (ho : o ∈ madeL S0 top) : ∃ S' ∈ growL S0 top,(∀ o' ∈ S0,o' ∈ S') /\ o ∈ S':=by
 unfold growL
 by_cases z : o ∈ S0
 ·by_cases y : moreL S0 top = []
  ·rw [if_pos y]
   exact ⟨S0,List.mem_singleton.mpr rfl,fun _ h => h,z⟩
  ·rw [if_neg y]
   obtain ⟨a,ha⟩:=List.exists_mem_of_ne_nil _ y
   exact ⟨_,List.mem_map.mpr ⟨a,ha,rfl⟩,fun _ h => mem_sort1.mpr (.inl h),mem_sort1.mpr (.inl z)⟩
 ·have m : o ∈ moreL S0 top:=mem_more.mpr ⟨ho,z⟩
  rw [if_neg (fun e => by rw [e] at m; cases m)]
  exact ⟨_,List.mem_map.mpr ⟨o,m,rfl⟩,fun _ h => mem_sort1.mpr (.inl h),mem_sort1.mpr (.inr rfl)⟩
theorem Lvs.sort {top : Int} {as : List Int} {Ls : List (List (List Int))} (h : Lvs top as Ls) : ∀ (i : Nat) L,Ls[i]? = some L -> ∀ S ∈ L,S.Pairwise (· <= ·)
 | 0,L,e,S,hS => by
  rw [h.one L e] at hS
  rw [List.mem_singleton.mp hS]
  exact List.pairwise_singleton _ _
 | i + 1,L,e,S,hS => by
  have il : i < Ls.length:=by have:=(List.getElem?_eq_some_iff.mp e).1; omega
  have e0:=List.getElem?_eq_getElem il
  obtain ⟨S0,h0,hg⟩:=(h.nx i _ L e0 e S).mp hS
  exact grow_sorted (Lvs.sort h i _ e0 S0 h0) hg
def PDt (top : Int) (pd : Addr) (H : Hp) : Prop:=∃ pk,H pd = some (.dT pk) /\ PairsP top pk
theorem PDt.upd {top : Int} {pd a : Addr} {H : Hp} {o : HO} (h : PDt top pd H) (n : a ≠ pd) : PDt top pd (L2.upd H a o):=by
 obtain ⟨pk,h1,h2⟩:=h
 exact ⟨pk,by rw [upd_ne n.symm]; exact h1,h2⟩
theorem PDt.same {top : Int} {pd : Addr} {H H' : Hp} (h : PDt top pd H) (s : Same H H') : PDt top pd H':=by
 obtain ⟨pk,h1,h2⟩:=h
 exact ⟨pk,s _ _ h1,h2⟩
section
variable {K : PySem.W.Frag} {σ : St} {H : Hp} {Q : VK} {cs : List Nat} {tt : TT}
theorem comp_selC {v pd : Addr} {us : List V} {L : List (List Int)} {top : Int} (Pp : List Int -> Prop) (hv : H v = some (.lst us)) (ht : HTs iT H us L) (hz : us.length <= 1000000) (D0 : PDt top pd H)
  (hb : ∀ t S H' (R : Bool -> Hp -> Prop),S ∈ L -> H' t = some (.tup (iT S)) -> Chg pd H H' -> PDt top pd H' -> (∀ b H5,Chg pd H' H5 -> PDt top pd H5 -> (b = true ↔ Pp S) -> R b H5) -> tt (some (.ref t) :: capV cs σ) H' R)
  (hd : ∀ acc ys H',H acc = none -> Chg pd H H' -> PDt top pd H' -> H' acc = some (.lst ys) -> (∀ y ∈ ys,∃ S ∈ L,Pp S) -> (ys = [] -> ∀ S ∈ L,¬ Pp S) -> Q (.ref acc) H') :
  CompIt (Itl K v) 1 cs (gName 0) tt (tVar 0) σ H Q:=by
 have ul:=ht.len
 obtain ⟨pk0,hp0,_⟩:=D0
 have D0 : PDt top pd H:=⟨pk0,hp0,by assumption⟩
 have vp : v ≠ pd:=ne_of hv hp0 (by intro y; cases y)
 refine comp_any us.length (fun acc i ys H' => Chg pd H H' /\ PDt top pd H' /\ H' acc = some (.lst ys) /\ ys.length <= i /\ (∀ y ∈ ys,∃ S ∈ L,Pp S) /\ (ys = [] -> ∀ S ∈ L.take i,¬ Pp S)) (Nat.le_trans hz (by decide)) ?_ ?_ ?_ ?_ ?_ ?_
 ·rintro acc i ys H' hi ⟨s,_⟩
  exact ⟨us,us[i],SqL.of (s _ _ vp hv),List.getElem?_eq_getElem hi⟩
 ·rintro acc ys H' ⟨s,_⟩
  exact ⟨us,SqL.of (s _ _ vp hv),Nat.le_refl _⟩
 ·intro acc ha
  exact ⟨(same_new ha _).chg,D0.same (same_new ha _),upd_same,Nat.le_refl _,fun y hy => (nomatch hy),fun _ S hS => (nomatch hS)⟩
 ·rintro acc i ys H' ⟨s,_,ha,hl,_⟩
  exact ⟨ha,hl⟩
 ·rintro acc i ys H' ts x H2 N hn hi ⟨s,D,ha,hl,hy,hno⟩ ⟨rfl,hx⟩ hts hN
  have hx:=hx us (SqL.of (s _ _ vp hv))
  have ap : acc ≠ pd:=(ne_of_none hp0 hn).symm
  obtain ⟨t0,rfl⟩ : ∃ t0,ts = [t0]:=List.length_eq_one_iff.mp hts
  have hiL : i < L.length:=by rw [← ul]; exact hi
  obtain ⟨t,hy1,hy2⟩:=ht.at_ i _ (List.getElem?_eq_getElem hiL)
  have hSi : L[i]? = some L[i]:=List.getElem?_eq_getElem hiL
  generalize L[i] = S at hy2 hSi
  rw [hx] at hy1
  cases hy1
  have hm:=List.mem_of_getElem? hSi
  rw [w_gName]
  refine hb t S _ _ hm (s _ _ (ne_of hy2 hp0 (by intro y; cases y)) hy2) s D fun b H5 s5 D5 hbP => ?_
  have ha5:=s5 _ _ ap ha
  cases b with
  | true =>
   rw [if_pos rfl]
   refine ⟨_,rfl,ha5,hN _ [_] _ rfl ⟨(s.trans s5).updN hn,D5.upd ap,upd_same,by rw [List.length_append]; exact Nat.succ_le_succ hl,fun y h => ?_,fun e => by simp at e⟩⟩
   exact ⟨S,hm,hbP.mp rfl⟩
  | false =>
   rw [if_neg (by decide)]
   refine hN _ [_] _ rfl ⟨s.trans s5,D5,ha5,Nat.le_succ_of_le hl,hy,fun e S' h => ?_⟩
   rw [List.take_succ,hSi,Option.toList_some] at h
   rcases List.mem_append.mp h with z | z
   ·exact hno e S' z
   ·rw [List.mem_singleton.mp z]
    exact fun y => absurd (hbP.mpr y) (by decide)
 ·rintro acc ys H' hn ⟨s,D,ha,hl,hy,hno⟩
  rw [ul,List.take_length] at hno
  exact hd acc ys H' hn s D ha hy hno
end
theorem nil_of {α : Type} {ys : List V} {L : List α} {Pp : α -> Prop} (h : ∀ y ∈ ys,∃ S ∈ L,Pp S) (n : ∀ S ∈ L,¬ Pp S) : ys = []:=by
 cases ys with
 | nil => rfl
 | cons y ys =>
  obtain ⟨S,a,b⟩:=h y (List.mem_cons_self ..)
  exact absurd b (n S a)
def spShows36 : Sp:=fun vs H Q _ => ∃ (pd lv ow : Addr) (lvs : List V) (Ls : List (List (List Int))) (as : List Int) (top : Int) (most : Nat),vs = [.ref pd,.ref lv,.ref ow,.int top,.int (most : Int)] /\ PDt top pd H /\ Pap H lv lvs Ls /\ Lvs top as Ls /\ Ls.length = most /\ most <= 4 /\ H ow = some (.lst (as.map V.int)) /\ as ≠ [] /\ as.length <= 60 /\ (∀ x ∈ as,0 <= x) /\ 1 <= top /\ top <= 99 /\
 ∀ H',Chg pd H H' -> PDt top pd H' -> Q (.bl true) H'
def spBnd36 (K : PySem.W.Frag) : Sp:=fun vs H Q _ => ∃ (p a : Addr) (ns : List Int) (c : Int),vs = [.ref p] /\ PPen H p a c /\ Scr K H a ns /\ ns.length <= 63 /\ c <= 100000 /\
 ∀ (r : Addr) (top : Int) (most : Nat) H',H' r = some (.lst [.int top,.int (most : Int)]) -> 1 <= top -> top <= 99 -> most <= 4 -> ¬ farB top most -> PPen H' p a (c + 3) -> Scr K H' a ns -> Chg p H H' -> Q (.ref r) H'
def spRow36 (K : PySem.W.Frag) : Sp:=fun vs H Q _ => ∃ (p a : Addr) (ns : List Int) (c top : Int),vs = [.ref p,.int top] /\ PPen H p a c /\ Scr K H a ns /\ ns.length <= 63 /\ c <= 100000 /\ 1 <= top /\ top <= 99 /\
 ∀ (r : Addr) (xs : List Int) H',H' r = some (.lst (xs.map V.int)) -> xs.length <= 60 -> (∀ x ∈ xs,x.natAbs < 2 ^ 300) -> Chg p H H' -> Q (.ref r) H'
theorem sh300 {own sh : Int} (h0 : 0 <= own) (h1 : own <= 200) (h2 : sh < 190) : (own * 2 ^ sh.toNat).natAbs < 2 ^ 300:=by
 rw [Int.natAbs_mul,Int.natAbs_pow]
 refine Nat.lt_of_le_of_lt (Nat.mul_le_mul (show own.natAbs <= 2 ^ 8 by omega) (Nat.pow_le_pow_right (by decide) (show sh.toNat <= 190 by omega))) ?_
 decide
def wantV : V -> Option V
 | .int n => if 1 < coreN n then some (.int (coreN n)) else none
 | _ => none
theorem wantV_map (xs : List Int) : (xs.map V.int).filterMap wantV = (wantC xs).map V.int:=by
 unfold wantC
 induction xs with
 | nil => rfl
 | cons x xs ih =>
  rw [List.map_cons,List.filterMap_cons,List.map_cons,List.filter_cons]
  by_cases h : 1 < coreN x
  ·rw [show wantV (.int x) = some (.int (coreN x)) from if_pos h,decide_eq_true h,if_pos rfl,List.map_cons]
   exact congrArg _ ih
  ·rw [show wantV (.int x) = none from if_neg h,decide_eq_false h,if_neg (by decide)]
   exact ih
theorem wantC_len (xs : List Int) : (wantC xs).length <= xs.length:=by
 unfold wantC
 exact Nat.le_trans (List.length_filter_le _ _) (by rw [List.length_map]; exact Nat.le_refl _)
end L2
end

section
set_option Elab.async false
set_option linter.all false
set_option maxRecDepth 100000
set_option maxHeartbeats 4000000
namespace Law
open PySem L2
def top (i : Nat) : Stmt:=PySem.Challenge.pw_shiftsums_k36_fewest_told.main.body.getD i (.Pass ⟨0,0,0,0⟩)
abbrev s_core : Stmt:=top 4
theorem sc_core : FnScope ["number","size","shift","sign"] ["number"] (defScope s_core):=⟨rfl,rfl,rfl,by decide +kernel,rfl,by decide +kernel,by decide +kernel⟩
abbrev s_made : Stmt:=top 10
theorem sc_made : FnScope ["cores","top","sums","left","high","right"] ["cores","top"] (defScope s_made):=⟨rfl,rfl,rfl,by decide +kernel,rfl,by decide +kernel,by decide +kernel⟩
abbrev s_doublings : Stmt:=top 11
theorem sc_doublings : FnScope ["odd","top","told"] ["odd","top"] (defScope s_doublings):=⟨rfl,rfl,rfl,by decide +kernel,rfl,by decide +kernel,by decide +kernel⟩
abbrev s_cores_of : Stmt:=top 12
theorem sc_cores_of : FnScope ["numbers"] ["numbers"] (defScope s_cores_of):=⟨rfl,rfl,rfl,by decide +kernel,rfl,by decide +kernel,by decide +kernel⟩
abbrev s_wanted : Stmt:=top 13
theorem sc_wanted : FnScope ["numbers"] ["numbers"] (defScope s_wanted):=⟨rfl,rfl,rfl,by decide +kernel,rfl,by decide +kernel,by decide +kernel⟩
abbrev s_refuse_beyond : Stmt:=top 14
theorem sc_refuse_beyond : FnScope ["top","most"] ["top","most"] (defScope s_refuse_beyond):=⟨rfl,rfl,rfl,by decide +kernel,rfl,by decide +kernel,by decide +kernel⟩
abbrev s_level_behind : Stmt:=top 15
theorem sc_level_behind : FnScope ["levels","top","found","cores","longer"] ["levels","top"] (defScope s_level_behind):=⟨rfl,rfl,rfl,by decide +kernel,rfl,by decide +kernel,by decide +kernel⟩
abbrev s_grown : Stmt:=top 16
theorem sc_grown : FnScope ["cores","top","more"] ["cores","top"] (defScope s_grown):=⟨rfl,rfl,rfl,by decide +kernel,rfl,by decide +kernel,by decide +kernel⟩
abbrev s_finishes : Stmt:=top 18
theorem sc_finishes : FnScope ["cores","asked","top","lacking"] ["cores","asked","top"] (defScope s_finishes):=⟨rfl,rfl,rfl,by decide +kernel,rfl,by decide +kernel,by decide +kernel⟩
abbrev s_moved : Stmt:=top 20
theorem sc_moved : FnScope ["part","shift","sign"] ["part","shift","sign"] (defScope s_moved):=⟨rfl,rfl,rfl,by decide +kernel,rfl,by decide +kernel,by decide +kernel⟩
abbrev s_deed_of : Stmt:=top 21
theorem sc_deed_of : FnScope ["one","other"] ["one","other"] (defScope s_deed_of):=⟨rfl,rfl,rfl,by decide +kernel,rfl,by decide +kernel,by decide +kernel⟩
abbrev s_sign_of : Stmt:=top 22
theorem sc_sign_of : FnScope ["one","other"] ["one","other"] (defScope s_sign_of):=⟨rfl,rfl,rfl,by decide +kernel,rfl,by decide +kernel,by decide +kernel⟩
abbrev s_add_sum : Stmt:=top 23
theorem sc_add_sum : FnScope ["ins","deeds","one","other"] ["ins","deeds","one","other"] (defScope s_add_sum):=⟨rfl,rfl,rfl,by decide +kernel,rfl,by decide +kernel,by decide +kernel⟩
abbrev s_out_for : Stmt:=top 24
theorem sc_out_for : FnScope ["number","parts","found"] ["number","parts"] (defScope s_out_for):=⟨rfl,rfl,rfl,by decide +kernel,rfl,by decide +kernel,by decide +kernel⟩
abbrev s_fewest : Stmt:=top 26
theorem sc_fewest : FnScope ["numbers","top","most","asked","paper","level","ends"] ["numbers","top","most"] (defScope s_fewest):=⟨rfl,rfl,rfl,by decide +kernel,rfl,by decide +kernel,by decide +kernel⟩
abbrev s_with_all : Stmt:=top 27
theorem sc_with_all : FnScope ["cores","asked"] ["cores","asked"] (defScope s_with_all):=⟨rfl,rfl,rfl,by decide +kernel,rfl,by decide +kernel,by decide +kernel⟩
abbrev s_row_of : Stmt:=top 28
theorem sc_row_of : FnScope ["cores","numbers","top","deeds","parts","odd","way"] ["cores","numbers","top"] (defScope s_row_of):=⟨rfl,rfl,rfl,by decide +kernel,rfl,by decide +kernel,by decide +kernel⟩
abbrev s_way_to : Stmt:=top 29
theorem sc_way_to : FnScope ["odd","parts","top","left","right","shift","high"] ["odd","parts","top"] (defScope s_way_to):=⟨rfl,rfl,rfl,by decide +kernel,rfl,by decide +kernel,by decide +kernel⟩
abbrev s_add_core : Stmt:=top 30
theorem sc_add_core : FnScope ["deeds","parts","way","one","other","found"] ["deeds","parts","way"] (defScope s_add_core):=⟨rfl,rfl,rfl,by decide +kernel,rfl,by decide +kernel,by decide +kernel⟩
abbrev s_l_pen : Stmt:=top 32
theorem sc_l_pen : FnScope ["_law_script"] ["_law_script"] (defScope s_l_pen):=⟨rfl,rfl,rfl,by decide +kernel,rfl,by decide +kernel,by decide +kernel⟩
abbrev s_l_pick : Stmt:=top 33
theorem sc_l_pick : FnScope ["_law_pen_here","_law_many","_law_digit","_law_at","_law_cell","_law_mixed"] ["_law_pen_here","_law_many"] (defScope s_l_pick):=⟨rfl,rfl,rfl,by decide +kernel,rfl,by decide +kernel,by decide +kernel⟩
abbrev s_l_bounds : Stmt:=top 34
theorem sc_l_bounds : FnScope ["_law_pen_here","_law_way"] ["_law_pen_here"] (defScope s_l_bounds):=⟨rfl,rfl,rfl,by decide +kernel,rfl,by decide +kernel,by decide +kernel⟩
abbrev s_l_row : Stmt:=top 35
theorem sc_l_row : FnScope ["_law_pen_here","_law_top","_law_row_here","_law_k","_law_own","_law_shift"] ["_law_pen_here","_law_top"] (defScope s_l_row):=⟨rfl,rfl,rfl,by decide +kernel,rfl,by decide +kernel,by decide +kernel⟩
abbrev s_l_odd : Stmt:=top 36
theorem sc_l_odd : FnScope ["_law_number"] ["_law_number"] (defScope s_l_odd):=⟨rfl,rfl,rfl,by decide +kernel,rfl,by decide +kernel,by decide +kernel⟩
abbrev s_l_pair : Stmt:=top 37
theorem sc_l_pair : FnScope ["_law_one","_law_other","_law_top","_law_found","_law_low","_law_high","_law_odd_here"] ["_law_one","_law_other","_law_top"] (defScope s_l_pair):=⟨rfl,rfl,rfl,by decide +kernel,rfl,by decide +kernel,by decide +kernel⟩
abbrev s_l_reach : Stmt:=top 38
theorem sc_l_reach : FnScope ["_law_pairs","_law_some","_law_top","_law_found","_law_one","_law_other"] ["_law_pairs","_law_some","_law_top"] (defScope s_l_reach):=⟨rfl,rfl,rfl,by decide +kernel,rfl,by decide +kernel,by decide +kernel⟩
abbrev s_l_ends : Stmt:=top 39
theorem sc_l_ends : FnScope ["_law_pairs","_law_some","_law_owed","_law_top","_law_left"] ["_law_pairs","_law_some","_law_owed","_law_top"] (defScope s_l_ends):=⟨rfl,rfl,rfl,by decide +kernel,rfl,by decide +kernel,by decide +kernel⟩
abbrev s_l_least : Stmt:=top 40
theorem sc_l_least : FnScope ["_law_pairs","_law_owed","_law_top","_law_most","_law_sets","_law_count","_law_some","_law_later","_law_reach_here","_law_own"] ["_law_pairs","_law_owed","_law_top","_law_most"] (defScope s_l_least):=⟨rfl,rfl,rfl,by decide +kernel,rfl,by decide +kernel,by decide +kernel⟩
abbrev s_l_is_whole : Stmt:=top 41
theorem sc_l_is_whole : FnScope ["_law_thing"] ["_law_thing"] (defScope s_l_is_whole):=⟨rfl,rfl,rfl,by decide +kernel,rfl,by decide +kernel,by decide +kernel⟩
abbrev s_l_part : Stmt:=top 42
theorem sc_l_part : FnScope ["_law_told","_law_thing","_law_shift"] ["_law_told","_law_thing","_law_shift"] (defScope s_l_part):=⟨rfl,rfl,rfl,by decide +kernel,rfl,by decide +kernel,by decide +kernel⟩
abbrev s_l_walked : Stmt:=top 43
theorem sc_l_walked : FnScope ["_law_deeds","_law_told","_law_deed","_law_one","_law_other"] ["_law_deeds"] (defScope s_l_walked):=⟨rfl,rfl,rfl,by decide +kernel,rfl,by decide +kernel,by decide +kernel⟩
abbrev s_l_is_row : Stmt:=top 44
theorem sc_l_is_row : FnScope ["_law_web","_law_row_here","_law_top","_law_count","_law_told","_law_out","_law_number","_law_number_made"] ["_law_web","_law_row_here","_law_top","_law_count"] (defScope s_l_is_row):=⟨rfl,rfl,rfl,by decide +kernel,rfl,by decide +kernel,by decide +kernel⟩
abbrev s_l_is_set : Stmt:=top 45
theorem sc_l_is_set : FnScope ["_law_thing","_law_top","_law_odd_here"] ["_law_thing","_law_top"] (defScope s_l_is_set):=⟨rfl,rfl,rfl,by decide +kernel,rfl,by decide +kernel,by decide +kernel⟩
abbrev s_l_is_led : Stmt:=top 46
theorem sc_l_is_led : FnScope ["_law_pairs","_law_some","_law_later","_law_top","_law_held","_law_other","_law_own"] ["_law_pairs","_law_some","_law_later","_law_top"] (defScope s_l_is_led):=⟨rfl,rfl,rfl,by decide +kernel,rfl,by decide +kernel,by decide +kernel⟩
abbrev s_l_shows : Stmt:=top 47
theorem sc_l_shows : FnScope ["_law_pairs","_law_paper","_law_owed","_law_top","_law_most","_law_level","_law_k"] ["_law_pairs","_law_paper","_law_owed","_law_top","_law_most"] (defScope s_l_shows):=⟨rfl,rfl,rfl,by decide +kernel,rfl,by decide +kernel,by decide +kernel⟩
abbrev s_law : Stmt:=top 48
theorem sc_law : FnScope ["_law_script","_law_pen_here","_law_top","_law_most","_law_row_here","_law_owed","_law_pairs","_law_count","_law_handed","_law_found"] ["_law_script"] (defScope s_law):=⟨rfl,rfl,rfl,by decide +kernel,rfl,by decide +kernel,by decide +kernel⟩
structure Bl (mg : Str -> Option Value) : Prop where
 abs : mg "abs" = none
 bool : mg "bool" = none
 enumerate : mg "enumerate" = none
 int : mg "int" = none
 isinstance : mg "isinstance" = none
 len : mg "len" = none
 list : mg "list" = none
 range : mg "range" = none
 «set» : mg "set" = none
 sorted : mg "sorted" = none
 str : mg "str" = none
 tuple : mg "tuple" = none
 zip : mg "zip" = none
structure Txt (K : PySem.W.Frag) (mg : Str -> Option Value) : Prop where
 bl : Bl mg
 t_core : ∃ (f : Addr) (fd : FuncData),Fun K "core" "core" s_core f fd /\ mg "core" = some (.ref f) /\ Binds K fd ["number"] []
 t_made : ∃ (f : Addr) (fd : FuncData),Fun K "made" "made" s_made f fd /\ mg "made" = some (.ref f) /\ Binds K fd ["cores","top"] []
 t_doublings : ∃ (f : Addr) (fd : FuncData),Fun K "doublings" "doublings" s_doublings f fd /\ mg "doublings" = some (.ref f) /\ Binds K fd ["odd","top"] []
 t_cores_of : ∃ (f : Addr) (fd : FuncData),Fun K "cores_of" "cores_of" s_cores_of f fd /\ mg "cores_of" = some (.ref f) /\ Binds K fd ["numbers"] []
 t_wanted : ∃ (f : Addr) (fd : FuncData),Fun K "wanted" "wanted" s_wanted f fd /\ mg "wanted" = some (.ref f) /\ Binds K fd ["numbers"] []
 t_refuse_beyond : ∃ (f : Addr) (fd : FuncData),Fun K "refuse_beyond" "refuse_beyond" s_refuse_beyond f fd /\ mg "refuse_beyond" = some (.ref f) /\ Binds K fd ["top","most"] []
 t_level_behind : ∃ (f : Addr) (fd : FuncData),Fun K "level_behind" "level_behind" s_level_behind f fd /\ mg "level_behind" = some (.ref f) /\ Binds K fd ["levels","top"] []
 t_grown : ∃ (f : Addr) (fd : FuncData),Fun K "grown" "grown" s_grown f fd /\ mg "grown" = some (.ref f) /\ Binds K fd ["cores","top"] []
 t_finishes : ∃ (f : Addr) (fd : FuncData),Fun K "finishes" "finishes" s_finishes f fd /\ mg "finishes" = some (.ref f) /\ Binds K fd ["cores","asked","top"] []
 t_moved : ∃ (f : Addr) (fd : FuncData),Fun K "moved" "moved" s_moved f fd /\ mg "moved" = some (.ref f) /\ Binds K fd ["part","shift","sign"] []
 t_deed_of : ∃ (f : Addr) (fd : FuncData),Fun K "deed_of" "deed_of" s_deed_of f fd /\ mg "deed_of" = some (.ref f) /\ Binds K fd ["one","other"] []
 t_sign_of : ∃ (f : Addr) (fd : FuncData),Fun K "sign_of" "sign_of" s_sign_of f fd /\ mg "sign_of" = some (.ref f) /\ Binds K fd ["one","other"] []
 t_add_sum : ∃ (f : Addr) (fd : FuncData),Fun K "add_sum" "add_sum" s_add_sum f fd /\ mg "add_sum" = some (.ref f) /\ Binds K fd ["ins","deeds","one","other"] []
 t_out_for : ∃ (f : Addr) (fd : FuncData),Fun K "out_for" "out_for" s_out_for f fd /\ mg "out_for" = some (.ref f) /\ Binds K fd ["number","parts"] []
 t_fewest : ∃ (f : Addr) (fd : FuncData),Fun K "fewest" "fewest" s_fewest f fd /\ mg "fewest" = some (.ref f) /\ Binds K fd ["numbers","top","most"] []
 t_with_all : ∃ (f : Addr) (fd : FuncData),Fun K "with_all" "with_all" s_with_all f fd /\ mg "with_all" = some (.ref f) /\ Binds K fd ["cores","asked"] []
 t_row_of : ∃ (f : Addr) (fd : FuncData),Fun K "row_of" "row_of" s_row_of f fd /\ mg "row_of" = some (.ref f) /\ Binds K fd ["cores","numbers","top"] []
 t_way_to : ∃ (f : Addr) (fd : FuncData),Fun K "way_to" "way_to" s_way_to f fd /\ mg "way_to" = some (.ref f) /\ Binds K fd ["odd","parts","top"] []
 t_add_core : ∃ (f : Addr) (fd : FuncData),Fun K "add_core" "add_core" s_add_core f fd /\ mg "add_core" = some (.ref f) /\ Binds K fd ["deeds","parts","way"] []
 t_l_pen : ∃ (f : Addr) (fd : FuncData),Fun K "_law_pen" "_law_pen" s_l_pen f fd /\ mg "_law_pen" = some (.ref f) /\ Binds K fd ["_law_script"] []
 t_l_pick : ∃ (f : Addr) (fd : FuncData),Fun K "_law_pick" "_law_pick" s_l_pick f fd /\ mg "_law_pick" = some (.ref f) /\ Binds K fd ["_law_pen_here","_law_many"] []
 t_l_bounds : ∃ (f : Addr) (fd : FuncData),Fun K "_law_bounds" "_law_bounds" s_l_bounds f fd /\ mg "_law_bounds" = some (.ref f) /\ Binds K fd ["_law_pen_here"] []
 t_l_row : ∃ (f : Addr) (fd : FuncData),Fun K "_law_row" "_law_row" s_l_row f fd /\ mg "_law_row" = some (.ref f) /\ Binds K fd ["_law_pen_here","_law_top"] []
 t_l_odd : ∃ (f : Addr) (fd : FuncData),Fun K "_law_odd" "_law_odd" s_l_odd f fd /\ mg "_law_odd" = some (.ref f) /\ Binds K fd ["_law_number"] []
 t_l_pair : ∃ (f : Addr) (fd : FuncData),Fun K "_law_pair" "_law_pair" s_l_pair f fd /\ mg "_law_pair" = some (.ref f) /\ Binds K fd ["_law_one","_law_other","_law_top"] []
 t_l_reach : ∃ (f : Addr) (fd : FuncData),Fun K "_law_reach" "_law_reach" s_l_reach f fd /\ mg "_law_reach" = some (.ref f) /\ Binds K fd ["_law_pairs","_law_some","_law_top"] []
 t_l_ends : ∃ (f : Addr) (fd : FuncData),Fun K "_law_ends" "_law_ends" s_l_ends f fd /\ mg "_law_ends" = some (.ref f) /\ Binds K fd ["_law_pairs","_law_some","_law_owed","_law_top"] []
 t_l_least : ∃ (f : Addr) (fd : FuncData),Fun K "_law_least" "_law_least" s_l_least f fd /\ mg "_law_least" = some (.ref f) /\ Binds K fd ["_law_pairs","_law_owed","_law_top","_law_most"] []
 t_l_is_whole : ∃ (f : Addr) (fd : FuncData),Fun K "_law_is_whole" "_law_is_whole" s_l_is_whole f fd /\ mg "_law_is_whole" = some (.ref f) /\ Binds K fd ["_law_thing"] []
 t_l_part : ∃ (f : Addr) (fd : FuncData),Fun K "_law_part" "_law_part" s_l_part f fd /\ mg "_law_part" = some (.ref f) /\ Binds K fd ["_law_told","_law_thing","_law_shift"] []
 t_l_walked : ∃ (f : Addr) (fd : FuncData),Fun K "_law_walked" "_law_walked" s_l_walked f fd /\ mg "_law_walked" = some (.ref f) /\ Binds K fd ["_law_deeds"] []
 t_l_is_row : ∃ (f : Addr) (fd : FuncData),Fun K "_law_is_row" "_law_is_row" s_l_is_row f fd /\ mg "_law_is_row" = some (.ref f) /\ Binds K fd ["_law_web","_law_row_here","_law_top","_law_count"] []
 t_l_is_set : ∃ (f : Addr) (fd : FuncData),Fun K "_law_is_set" "_law_is_set" s_l_is_set f fd /\ mg "_law_is_set" = some (.ref f) /\ Binds K fd ["_law_thing","_law_top"] []
 t_l_is_led : ∃ (f : Addr) (fd : FuncData),Fun K "_law_is_led" "_law_is_led" s_l_is_led f fd /\ mg "_law_is_led" = some (.ref f) /\ Binds K fd ["_law_pairs","_law_some","_law_later","_law_top"] []
 t_l_shows : ∃ (f : Addr) (fd : FuncData),Fun K "_law_shows" "_law_shows" s_l_shows f fd /\ mg "_law_shows" = some (.ref f) /\ Binds K fd ["_law_pairs","_law_paper","_law_owed","_law_top","_law_most"] []
 t_law : ∃ (f : Addr) (fd : FuncData),Fun K "law" "law" s_law f fd /\ mg "law" = some (.ref f) /\ Binds K fd ["_law_script"] []
 c_NO_OUT : ∃ t : Addr,mg "NO_OUT" = some (.ref t) /\ CT0 K t
 i_TOP_AT_MOST : ∃ tk : Tok,mg "TOP_AT_MOST" = some (.int 99 tk)
 i_DEEDS_AT_MOST : ∃ tk : Tok,mg "DEEDS_AT_MOST" = some (.int 4 tk)
 i_TOP_WITH_ALL_DEEDS : ∃ tk : Tok,mg "TOP_WITH_ALL_DEEDS" = some (.int 31 tk)
 cls : ∃ (cst_TooMany : Addr),mg "TooMany" = some (.ref cst_TooMany) /\ PySem.W.excIn K cst_TooMany [.type "ValueError",.type "Exception",.type "BaseException",.type "object"] "ValueError.__new__" = true
local macro_rules | `(tactic| walk_at "WP") => `(tactic| (first | (dsimp only [w_gLst,w_forE,w_compE,w_compZ,w_for3,w_gTupK,w_ixT,w_eqS,w_aug,w_ipI,w_dnK,w_maxD,w_sl,w_noPart,w_part,w_slL,w_var,w_C,w_op,w_un,w_rI,w_rI0,w_rU,w_eqI,w_neI,w_eqB,w_neB,w_seq,w_next,w_break,w_cont,w_ifS,w_ret,w_retN,w_drop,w_asg,w_gName,w_gSub,w_test,w_B,w_and,w_or,w_not,w_andV,w_orV,w_notV,w_if,w_call,w_nil,w_cons,w_CB,w_lst,w_tup,w_isN,w_notN,w_chain,w_for1,w_for2b,w_On2,w_forL,w_forT,w_forV,w_compL,w_compT,w_comp1,w_comp2b,w_yes,w_bm,w_bm0,w_rBits,w_tyInt,w_gTupM,w_gCons,w_gNil,w_dgS,w_dgI,w_sDP,w_dpS,w_dpI,w_dII,w_disp,tPairs,pen_s,pen_a,pen_l,pen_len,pen_pa,pen_pl,HO.dK.injEq,w_append,List.getElem?_cons_zero,List.getElem?_cons_succ,List.set_cons_zero,List.set_cons_succ,Option.some.injEq,V.int.injEq,V.bl.injEq,V.ref.injEq,V.str.injEq,exists_eq_left',exists_eq_left,List.append_nil,List.cons.injEq,and_true,true_and,exists_and_left,decide_eq_true_eq,Bool.not_eq_true',decide_eq_false_iff_not,Bool.not_true,Bool.not_false,w_ixM,w_ixU,w_ixL,w_setL,w_cxK,w_isI_ii,w_isI_ib,w_isI_bi,w_isI_bb,w_isI_ni,w_isI_nb,w_isI_si,w_isI_sb,sl_0,sl_1,sl_2,sl_3,sl_4,sl_5,sl_6,sl_7,sl_8,CPowB,w_shl1,at_0,at_1,at_2,at_3,ixN_0,ixN_1,ixN_2,upd_same,HO.lst.injEq,HO.tup.injEq,Int.reduceToNat,Int.reducePow,Int.reduceNeg,Int.reduceLT,Int.reduceLE,Int.reduceMod,Int.reduceMul,Int.reduceAdd,Int.reduceSub,Int.reduceDiv,Int.reduceEq,ite_true,ite_false,if_true,if_false,Bool.true_eq_false,Bool.false_eq_true,List.length_cons,List.length_nil,reduceCtorEq,false_and,and_false,not_false_eq_true,not_true_eq_false,exists_false,false_or,or_false,w_pop,w_extend,w_reverse,w_clear,w_cat,w_LZ,w_LR,w_forD,w_compZ2,w_sDPT,w_dpT,w_dIT,w_dgT,w_dnT,w_eqE,w_neE,w_revL,w_dget1,w_dget2]; try simp only [w_gLst,w_forE,w_compE,w_compZ,w_for3,w_gTupK,w_ixT,w_eqS,w_aug,w_ipI,w_dnK,w_maxD,w_sl,w_noPart,w_part,w_slL,w_var,w_C,w_op,w_un,w_rI,w_rI0,w_rU,w_eqI,w_neI,w_eqB,w_neB,w_seq,w_next,w_break,w_cont,w_ifS,w_ret,w_retN,w_drop,w_asg,w_gName,w_gSub,w_test,w_B,w_and,w_or,w_not,w_andV,w_orV,w_notV,w_if,w_call,w_nil,w_cons,w_CB,w_lst,w_tup,w_isN,w_notN,w_chain,w_for1,w_for2b,w_On2,w_forL,w_forT,w_forV,w_compL,w_compT,w_comp1,w_comp2b,w_yes,w_bm,w_bm0,w_rBits,w_tyInt,w_gTupM,w_gCons,w_gNil,w_dgS,w_dgI,w_sDP,w_dpS,w_dpI,w_dII,w_disp,tPairs,pen_s,pen_a,pen_l,pen_len,pen_pa,pen_pl,HO.dK.injEq,w_append,List.getElem?_cons_zero,List.getElem?_cons_succ,List.set_cons_zero,List.set_cons_succ,Option.some.injEq,V.int.injEq,V.bl.injEq,V.ref.injEq,V.str.injEq,exists_eq_left',exists_eq_left,List.append_nil,List.cons.injEq,and_true,true_and,exists_and_left,decide_eq_true_eq,Bool.not_eq_true',decide_eq_false_iff_not,Bool.not_true,Bool.not_false,w_ixM,w_ixU,w_ixL,w_setL,w_cxK,w_isI_ii,w_isI_ib,w_isI_bi,w_isI_bb,w_isI_ni,w_isI_nb,w_isI_si,w_isI_sb,sl_0,sl_1,sl_2,sl_3,sl_4,sl_5,sl_6,sl_7,sl_8,CPowB,w_shl1,at_0,at_1,at_2,at_3,ixN_0,ixN_1,ixN_2,upd_same,HO.lst.injEq,HO.tup.injEq,Int.reduceToNat,Int.reducePow,Int.reduceNeg,Int.reduceLT,Int.reduceLE,Int.reduceMod,Int.reduceMul,Int.reduceAdd,Int.reduceSub,Int.reduceDiv,Int.reduceEq,ite_true,ite_false,if_true,if_false,Bool.true_eq_false,Bool.false_eq_true,List.length_cons,List.length_nil,reduceCtorEq,false_and,and_false,not_false_eq_true,not_true_eq_false,exists_false,false_or,or_false,w_pop,w_extend,w_reverse,w_clear,w_cat,w_LZ,w_LR,w_forD,w_compZ2,w_sDPT,w_dpT,w_dIT,w_dgT,w_dnT,w_eqE,w_neE,w_revL,w_dget1,w_dget2]) | simp only [w_gLst,w_forE,w_compE,w_compZ,w_for3,w_gTupK,w_ixT,w_eqS,w_aug,w_ipI,w_dnK,w_maxD,w_sl,w_noPart,w_part,w_slL,w_var,w_C,w_op,w_un,w_rI,w_rI0,w_rU,w_eqI,w_neI,w_eqB,w_neB,w_seq,w_next,w_break,w_cont,w_ifS,w_ret,w_retN,w_drop,w_asg,w_gName,w_gSub,w_test,w_B,w_and,w_or,w_not,w_andV,w_orV,w_notV,w_if,w_call,w_nil,w_cons,w_CB,w_lst,w_tup,w_isN,w_notN,w_chain,w_for1,w_for2b,w_On2,w_forL,w_forT,w_forV,w_compL,w_compT,w_comp1,w_comp2b,w_yes,w_bm,w_bm0,w_rBits,w_tyInt,w_gTupM,w_gCons,w_gNil,w_dgS,w_dgI,w_sDP,w_dpS,w_dpI,w_dII,w_disp,tPairs,pen_s,pen_a,pen_l,pen_len,pen_pa,pen_pl,HO.dK.injEq,w_append,List.getElem?_cons_zero,List.getElem?_cons_succ,List.set_cons_zero,List.set_cons_succ,Option.some.injEq,V.int.injEq,V.bl.injEq,V.ref.injEq,V.str.injEq,exists_eq_left',exists_eq_left,List.append_nil,List.cons.injEq,and_true,true_and,exists_and_left,decide_eq_true_eq,Bool.not_eq_true',decide_eq_false_iff_not,Bool.not_true,Bool.not_false,w_ixM,w_ixU,w_ixL,w_setL,w_cxK,w_isI_ii,w_isI_ib,w_isI_bi,w_isI_bb,w_isI_ni,w_isI_nb,w_isI_si,w_isI_sb,sl_0,sl_1,sl_2,sl_3,sl_4,sl_5,sl_6,sl_7,sl_8,CPowB,w_shl1,at_0,at_1,at_2,at_3,ixN_0,ixN_1,ixN_2,upd_same,HO.lst.injEq,HO.tup.injEq,Int.reduceToNat,Int.reducePow,Int.reduceNeg,Int.reduceLT,Int.reduceLE,Int.reduceMod,Int.reduceMul,Int.reduceAdd,Int.reduceSub,Int.reduceDiv,Int.reduceEq,ite_true,ite_false,if_true,if_false,Bool.true_eq_false,Bool.false_eq_true,List.length_cons,List.length_nil,reduceCtorEq,false_and,and_false,not_false_eq_true,not_true_eq_false,exists_false,false_or,or_false,w_pop,w_extend,w_reverse,w_clear,w_cat,w_LZ,w_LR,w_forD,w_compZ2,w_sDPT,w_dpT,w_dIT,w_dgT,w_dnT,w_eqE,w_neE,w_revL,w_dget1,w_dget2]))
local macro_rules | `(tactic| walk_at "o") => `(tactic| first | exact .inl rfl | exact .inr rfl | assumption)
section
variable {P : Program} {w : World} {K : PySem.W.Frag} {mg : Str -> Option Value} {base : Heap}
theorem ok_ppen (T : Txt K mg) : Cal P w K mg base 1 "_law_pen" ["_law_script"] (spPPen K):=by
 have B:=T.bl
 refine mkCal T.t_l_pen sc_l_pen (fun vs H Q E h => ?_) (fun f cdv A outer s H vs Q E hr h => ?_)
 ·obtain ⟨a,rfl,_⟩:=h
  rfl
 obtain ⟨a,rfl,q⟩:=h
 refine ⟨_,(pss_one (ps_ret (pe_lst (pa_cons pe_int (pa_cons pe_int (pa_cons (pv 0) pa_nil)))))),?_⟩
 rw [show start ["_law_script"] [.ref a] = [some (.ref a)] from rfl]
 try walk_at "WP"
 intro p hp
 exact q p _ hp (same_new hp _) (ppen_of (by decide) (by decide) (by decide))
theorem ok_pick (T : Txt K mg) : Cal P w K mg base 1 "_law_pick" ["_law_pen_here","_law_many"] (spPick K):=by
 have B:=T.bl
 refine mkCal T.t_l_pick sc_l_pick (fun vs H Q E h => ?_) (fun f cdv A outer s H vs Q E hr h => ?_)
 ·obtain ⟨p,a,ns,m,c,rfl,_⟩:=h
  rfl
 obtain ⟨p,a,ns,m,c_,rfl,hP,hS,h63,hc,h1,h2,q⟩:=h
 refine ⟨_,(pss_cons (ps_if (pt_cmpR op_gt (pe_ix ix_M (pv 0) pe_int (fun _ _ => rfl)) pe_int (nomark _)) (pss_cons (ps_set (i:=2) sc_l_pick.nd rfl (by walk_at "o") (pe_op op_mod (pe_ix ix_M (pv 0) pe_int (fun _ _ => rfl)) (pv 1)))
  (pss_cons (ps_asg (pe_op op_fdivB (pe_ix ix_M (pv 0) pe_int (fun _ _ => rfl)) (pv 1)) (pg_sub (pv 0) pe_int set_list))
  (pss_one (ps_ret (pv 2))))) pss_nil)
  (pss_cons (ps_set (i:=3) sc_l_pick.nd rfl (by walk_at "o") (pe_ix ix_M (pv 0) pe_int (fun _ _ => rfl)))
  (pss_cons (ps_asg (pe_op op_add (pv 3) pe_int) (pg_sub (pv 0) pe_int set_list))
  (pss_cons (ps_set (i:=4) sc_l_pick.nd rfl (by walk_at "o") pe_int)
  (pss_mid (ps_if (pt_cmpR op_gt (pe_callB call_lenS rfl B.len bo_len (pa_cons (pe_ix ix_M (pv 0) pe_int (fun _ _ => rfl)) pa_nil)) pe_int (nomark _)) (pss_one (ps_set (i:=4) sc_l_pick.nd rfl (by walk_at "o") (pe_ix ix_list (pe_ix ix_M (pv 0) pe_int (fun _ _ => rfl)) (pe_op op_mod (pv 3) (pe_callB call_lenS rfl B.len bo_len (pa_cons (pe_ix ix_M (pv 0) pe_int (fun _ _ => rfl)) pa_nil))) (fun _ _ => rfl)))) pss_nil)
  (pss_cons (ps_if (PW.pt (pw_and (pt_cmpR op_lt (pv 3) (pe_callB call_lenS rfl B.len bo_len (pa_cons (pe_ix ix_M (pv 0) pe_int (fun _ _ => rfl)) pa_nil)) (nomark _)) (pw_and1 (pt_cmpR op_ge (pe_callB call_abs rfl B.abs bo_abs (pa_cons (pv 4) pa_nil)) (pe_op op_powB pe_int pe_int) (nomark _))))) (pss_cons (ps_asg (pe_op op_fdivB (pe_callB call_abs rfl B.abs bo_abs (pa_cons (pv 4) pa_nil)) (pv 1)) (pg_sub (pv 0) pe_int set_list))
  (pss_one (ps_ret (pe_op op_mod (pe_callB call_abs rfl B.abs bo_abs (pa_cons (pv 4) pa_nil)) (pv 1))))) pss_nil)
  (pss_cons (ps_set (i:=5) sc_l_pick.nd rfl (by walk_at "o") (pe_op op_mod (pe_op op_mulB (pe_op op_add (pe_op op_add (pe_op op_mod (pv 4) pe_int) (pe_op op_mulB pe_int (pv 3))) pe_int) pe_int) pe_int))
  (pss_cons (ps_set (i:=5) sc_l_pick.nd rfl (by walk_at "o") (pe_op op_mod (pe_op op_mulB (pv 5) (pe_op op_add (pe_op op_add (pe_op op_mod (pv 5) pe_int) (pv 3)) pe_int)) pe_int))
  (pss_one (ps_ret (pe_op op_mod (pe_op op_fdivB (pv 5) pe_int) (pv 1)))))))))))),?_⟩
 rw [show start ["_law_pen_here","_law_many","_law_digit","_law_at","_law_cell","_law_mixed"] [.ref p,.int m] = [some (.ref p),some (.int m),none,none,none,none] from rfl]
 obtain ⟨t,l,hH,ht0,htc,hl⟩:=id hP
 (iterate 5 ((try (walk_at "WP")); (try (simp only [hH,Option.some.injEq,HO.tup.injEq,HO.lst.injEq,HO.dK.injEq,exists_eq_left',exists_eq_left])))); (try (walk_at "WP"))
 refine ite2 (fun c => ?_) (fun c => ?_)
 ·exact ⟨by omega,divB (by omega) h2,q _ _ (modq (by omega)).1 (modq (by omega)).2 (ppen_of ht0 (by omega) (divq hl (by omega))) (hS.ppen hP (Chg.upd _)) (Chg.upd _)⟩
 have hS1:=hS.ppen hP (Chg.upd (.lst [V.int l,V.int (t + 1),V.ref a]))
 have hP1 : PPen (upd H p (.lst [V.int l,V.int (t + 1),V.ref a])) p a (c_ + 1):=ppen_of (by omega) (by omega) hl
 have C1 : Chg p H (upd H p (.lst [V.int l,V.int (t + 1),V.ref a])):=Chg.upd _
 have hp1 : (upd H p (.lst [V.int l,V.int (t + 1),V.ref a])) p = some (.lst [V.int l,V.int (t + 1),V.ref a]):=upd_same
 generalize upd H p (.lst [V.int l,V.int (t + 1),V.ref a]) = H1 at *
 refine mid_of (fun σ H2 => ∃ (cell : Int) (o2 o5 : Option V),σ = [some (.ref p),some (.int m),o2,some (.int t),some (.int cell),o5] /\ H2 = H1) (fun N hN => ?_) ?_
 ·(iterate 5 ((try (walk_at "WP")); (try (simp only [hp1,Option.some.injEq,HO.tup.injEq,HO.lst.injEq,HO.dK.injEq,exists_eq_left',exists_eq_left])))); (try (walk_at "WP"))
  refine ⟨_,hS1.sq,?_⟩
  rw [List.length_map]
  refine ite2 (fun z => ?_) (fun z => hN _ _ ⟨_,_,_,rfl,rfl⟩)
  refine ⟨_,hS1.sq,by rw [List.length_map]; omega,_,hS1.sq,?_⟩
  rw [List.length_map]
  have b:=modq (g:=t) (m:=(ns.length : Int)) (by omega)
  obtain ⟨v,hv,_⟩:=atI_int (ns:=ns) b.1 b.2
  exact ⟨_,hv,hN _ _ ⟨v,_,_,rfl,rfl⟩⟩
 ·rintro σ H2 ⟨cell,o2,o5,rfl,rfl⟩
  (iterate 5 ((try (walk_at "WP")); (try (simp only [hp1,Option.some.injEq,HO.tup.injEq,HO.lst.injEq,HO.dK.injEq,exists_eq_left',exists_eq_left])))); (try (walk_at "WP"))
  refine ⟨_,hS1.sq,?_⟩
  rw [List.length_map]
  have h0 : 0 <= (if cell < 0 then -cell else cell):=by split <;> omega
  refine ite2 (fun _ => ?_) (fun _ => ?_)
  ·refine ite2 (fun _ => ?_) (fun _ => ?_)
   ·exact ⟨divB (by omega) h2,by omega,q _ _ (modq (by omega)).1 (modq (by omega)).2 (ppen_of (by omega) (by omega) (divq h0 (by omega))) (hS1.ppen hP1 (Chg.upd _)) (C1.trans (Chg.upd _))⟩
   ·exact ⟨mul_l (by decide) (by decide),mul_r (by decide) (by decide),mul_l (by omega) (by omega),divB (by decide) (by decide),by omega,q _ _ (modq (by omega)).1 (modq (by omega)).2 hP1 hS1 C1⟩
  ·exact ⟨mul_l (by decide) (by decide),mul_r (by decide) (by decide),mul_l (by omega) (by omega),divB (by decide) (by decide),by omega,q _ _ (modq (by omega)).1 (modq (by omega)).2 hP1 hS1 C1⟩
end

section
variable {P : Program} {w : World} {K : PySem.W.Frag} {mg : Str -> Option Value} {base : Heap}
theorem ok_refb (T : Txt K mg) {cst_TooMany : Addr} (mg_TooMany : mg "TooMany" = some (.ref cst_TooMany)) (xi_TooMany : PySem.W.excIn K cst_TooMany [.type "ValueError",.type "Exception",.type "BaseException",.type "object"] "ValueError.__new__" = true) : CalX P w K mg base 1 "refuse_beyond" ["top","most"] (spRefB cst_TooMany):=by
 have B:=T.bl
 obtain ⟨_,mg_TOP_AT_MOST⟩:=T.i_TOP_AT_MOST
 obtain ⟨_,mg_DEEDS_AT_MOST⟩:=T.i_DEEDS_AT_MOST
 obtain ⟨_,mg_TOP_WITH_ALL_DEEDS⟩:=T.i_TOP_WITH_ALL_DEEDS
 refine mkCalX T.t_refuse_beyond sc_refuse_beyond (fun vs H Q E h => ?_) (fun f cdv A outer s H vs Q E hr h => ?_)
 ·obtain ⟨_,_,rfl,_⟩:=h
  rfl
 obtain ⟨top,most,rfl,qN,qE⟩:=h
 refine ⟨_,(pss_one (ps_if (PW.pt (pw_or (pt_cmpR op_gt (pv 0) (pe_glob (v:=.int 99) rfl mg_TOP_AT_MOST ⟨_,rfl⟩) (nomark _)) (pw_or (pt_cmpR op_gt (pv 1) (pe_glob (v:=.int 4) rfl mg_DEEDS_AT_MOST ⟨_,rfl⟩) (nomark _)) (pw_or1 (PW.pt (pw_and (pt_cmpR op_gt (pv 0) (pe_glob (v:=.int 31) rfl mg_TOP_WITH_ALL_DEEDS ⟨_,rfl⟩) (nomark _)) (pw_and1 (pt_cmpR op_gt (pv 1) (pe_op op_sub (pe_glob (v:=.int 4) rfl mg_DEEDS_AT_MOST ⟨_,rfl⟩) pe_int) (nomark _))))))))) (pss_one (ps_raise (C:=cst_TooMany) raises_of xi_TooMany PySem.F.excBase_ValueError rfl (fun _ z => nomatch z) rfl mg_TooMany (pa_cons pe_str pa_nil))) pss_nil)),?_⟩
 rw [show start ["top","most"] [.int top,.int most] = [some (.int top),some (.int most)] from rfl]
 try walk_at "WP"
 have far : farB top most -> tRaise E cst_TooMany (tCons (tC (V.str (Str.ofString "more than can be gone through"))) tNil) { nx:=fun x H' => Q V.non H',rt:=Q } [some (V.int top),some (V.int most)] H:=fun hf => by
  rw [w_raise]
  try walk_at "WP"
  exact qE hf
 refine ite2 (fun z => far (.inl z)) (fun z => ?_)
 refine ite2 (fun z2 => far (.inr (.inl z2))) (fun z2 => ?_)
 refine ite2 (fun z3 => ?_) (fun z3 => qN (fun hf => by rcases hf with y | y | y <;> omega))
 refine ite2 (fun z4 => far (.inr (.inr ⟨z3,by omega⟩))) (fun z4 => qN (fun hf => by rcases hf with y | y | y <;> omega))
end

section
variable {P : Program} {w : World} {K : PySem.W.Frag} {mg : Str -> Option Value} {base : Heap}
theorem ok_core (T : Txt K mg) : Cal P w K mg base 1 "core" ["number"] spCoreT:=by
 have B:=T.bl
 refine mkCal T.t_core sc_core (fun vs H Q E h => ?_) (fun f cdv A outer s H vs Q E hr h => ?_)
 ·obtain ⟨n,rfl,_⟩:=h
  rfl
 obtain ⟨n,rfl,q0⟩:=h
 have q : ∀ p,H p = none -> Q (.ref p) (upd H p (.tup ((coreL n).map V.int))):=fun p hp => by
  rw [core_three]
  exact q0 p hp
 refine ⟨_,(pss_cons (ps_if (pt_cmpR op_eq (pv 0) pe_int (nomark _)) (pss_one (ps_ret (pe_tup (pa_cons pe_int (pa_cons pe_int (pa_cons pe_int pa_nil)))))) pss_nil)
  (pss_cons (ps_set (i:=1) sc_core.nd rfl (by walk_at "o") (pe_callB call_abs rfl B.abs bo_abs (pa_cons (pv 0) pa_nil)))
  (pss_cons (ps_set (i:=2) sc_core.nd rfl (by walk_at "o") (pe_op op_sub (pe_bm0 PySem.F.plainAttrs_int PyProof.Rows.slot_int_bit_length PyProof.Rows.type_int_bit_length mt_bits (pe_op op_and (pv 1) (pe_un un_neg (pv 1)))) pe_int))
  (pss_cons (ps_set (i:=3) sc_core.nd rfl (by walk_at "o") (pe_ifExp (pt_cmpR op_gt (pv 0) pe_int (nomark _)) pe_int (pe_un un_neg pe_int)))
  (pss_one (ps_ret (pe_tup (pa_cons (pe_op op_shr (pv 1) (pv 2)) (pa_cons (pv 2) (pa_cons (pv 3) pa_nil)))))))))),?_⟩
 rw [show start ["number","size","shift","sign"] [.int n] = [some (.int n),none,none,none] from rfl]
 try walk_at "WP"
 refine ite2 (fun c => ?_) (fun c => ?_)
 ·intro p hp
  have:=q p hp
  rw [show coreL n = [0,0,0] by unfold coreL; rw [if_pos c]] at this
  exact this
 ·obtain ⟨m,k,e1,e2⟩:=core_fact c
  have el : lowK n = (k : Int):=by
   unfold coreL at e2
   rw [if_neg c] at e2
   simp only [List.cons.injEq] at e2
   exact e2.2.1
  have e3 : coreL n = [absI n / 2 ^ (lowK n).toNat,lowK n,if 0 < n then 1 else -1]:=by unfold coreL; rw [if_neg c]
  rw [e3] at q
  have ge : 0 <= lowK n:=by omega
  refine ite2 (fun d => ?_) (fun d => ?_)
  ·rw [if_pos d] at q
   exact ⟨ge,q⟩
  ·rw [if_neg d] at q
   exact ⟨ge,q⟩
end

section
variable {P : Program} {w : World} {K : PySem.W.Frag} {mg : Str -> Option Value} {base : Heap}
theorem ok_dbl (T : Txt K mg) : Cal P w K mg base 1 "doublings" ["odd","top"] spDbl:=by
 have B:=T.bl
 refine mkCal T.t_doublings sc_doublings (fun vs H Q E h => ?_) (fun f cdv A outer s H vs Q E hr h => ?_)
 ·obtain ⟨_,_,rfl,_⟩:=h
  rfl
 obtain ⟨l,top,rfl,l1,l2,hb,q⟩:=h
 refine ⟨_,(pss_cons (ps_set (i:=2) sc_doublings.nd rfl (by walk_at "o") (pe_lst (pa_cons (pv 0) pa_nil)))
  (pss_cons (ps_whl PassesOwn.never (pt_cmpR op_le (pe_ix ix_M (pv 2) (pe_un un_neg pe_int) (fun _ _ => rfl)) (pv 1) (nomark _)) (pss_one (ps_expr (pe_bm PySem.F.plainAttrs_list PySem.F.slot_list_append PySem.F.type_list_append mt_append (pv 2) (pa_cons (pe_op op_mulB pe_int (pe_ix ix_M (pv 2) (pe_un un_neg pe_int) (fun _ _ => rfl))) pa_nil)))))
  (pss_one (ps_ret (pv 2))))),?_⟩
 rw [show start ["odd","top","told"] [.int l,.int top] = [some (.int l),some (.int top),none] from rfl]
 try walk_at "WP"
 intro r nr
 have s1:=same_new nr (.lst [V.int l])
 refine whl (fun m σ H2 => ∃ (pre : List Int) (x : Int),σ = [some (.int l),some (.int top),some (.ref r)] /\ Same H H2 /\ H2 r = some (.lst ((pre ++ [x]).map V.int)) /\ dbl l top 7 = pre ++ dbl x top m /\ 1 <= x /\ top < x * 2 ^ m /\ pre.length + m = 7) 7 ⟨[],l,rfl,s1,upd_same,rfl,l1,hb,rfl⟩ ?_
 rintro m σ H2 N ⟨pre,x,rfl,s2,hr2,e2,x1,xb,pl⟩ hN
 have hat : atI ((pre ++ [x]).map V.int) (-1) = some (.int x):=by
  obtain ⟨d,_,h1,h2⟩:=atI_m1 (ds:=pre ++ [x]) (by simp)
  rw [List.getLast?_append] at h2
  simp at h2
  rw [h1,h2]
 (iterate 5 ((try (walk_at "WP")); (try (simp only [hr2,hat,Option.some.injEq,HO.tup.injEq,HO.lst.injEq,HO.dK.injEq,exists_eq_left',exists_eq_left])))); (try (walk_at "WP"))
 refine ite2 (fun z => ?_) (fun z => ?_)
 ·cases m with
  | zero => rw [Int.pow_zero,Int.mul_one] at xb; omega
  | succ m =>
   refine ⟨ty_list hr2,mul_l (by decide) (by decide),by rw [List.length_map,List.length_append]; exact lt_big (by simp; omega),hN m _ _ (by omega) ⟨pre ++ [x],2 * x,rfl,same_upd nr s2,?_,?_,by omega,?_,by simp; omega⟩⟩
   ·rw [upd_same,List.map_append (l₁:=pre ++ [x])]
    rfl
   ·rw [e2,dbl,if_pos z,List.append_assoc]
    rfl
   ·rw [Int.pow_succ] at xb
    rw [Int.mul_comm 2 x,Int.mul_assoc,Int.mul_comm 2]
    exact xb
 ·have e3 : dbl x top m = [x]:=by
   cases m with
   | zero => rfl
   | succ m => rw [dbl,if_neg z]
  rw [e3] at e2
  rw [← e2] at hr2
  exact q r H2 nr s2 hr2
theorem ok_coresD (T : Txt K mg) : Cal P w K mg base 2 "cores_of" ["numbers"] spCoresD:=by
 have B:=T.bl
 have C_core:=ok_core (P:=P) (w:=w) (base:=base) T
 refine mkCal T.t_cores_of sc_cores_of (fun vs H Q E h => ?_) (fun f cdv A outer s H vs Q E hr h => ?_)
 ·obtain ⟨_,_,_,rfl,_⟩:=h
  rfl
 obtain ⟨a,o,ks,rfl,ha,hl,q⟩:=h
 refine ⟨_,(pss_one (ps_ret (pe_comp0 (N:=["number"]) (nt:=1) (cs:=[]) rfl (pi_dict (pv 0)) (fun nd C s H fp => ⟨(pg_name (i:=0) nd rfl (by walk_at "o")),pn_nil,(pe_ix ix_U (pe_cal C_core hr rfl (pa_cons (pv 0) pa_nil)) pe_int (fun _ _ => rfl))⟩) (by decide +kernel) (by first | rfl | decide +kernel) (by first | rfl | decide +kernel) rfl (fun _ => rfl)))),?_⟩
 rw [show start ["numbers"] [.ref a] = [some (.ref a)] from rfl]
 (iterate 5 ((try (walk_at "WP")); (try (simp only [w_compD,Option.some.injEq,HO.tup.injEq,HO.lst.injEq,HO.dK.injEq,exists_eq_left',exists_eq_left])))); (try (walk_at "WP"))
 refine ⟨o,_,ha,?_⟩
 have hI:=fun H' => it_D ha (H':=H')
 rw [ukv_keys] at hI
 refine comp_new coV (by rw [List.length_map]; exact le_big (by omega)) hI (fun x H' R hx hS' hR => ?_) (fun acc H' hacc sm hac => ?_)
 ·obtain ⟨n,hn,rfl⟩:=List.mem_map.mp hx
  try walk_at "WP"
  refine ⟨n,rfl,fun p hp => ?_⟩
  have hpp : upd H' p (.tup [V.int (coreN n),V.int (shN n),V.int (sgN n)]) p = some (.tup [V.int (coreN n),V.int (shN n),V.int (sgN n)]):=upd_same
  have sp:=same_new hp (.tup [V.int (coreN n),V.int (shN n),V.int (sgN n)])
  generalize upd H' p (.tup [V.int (coreN n),V.int (shN n),V.int (sgN n)]) = H2 at hpp sp ⊢
  (iterate 5 ((try (walk_at "WP")); (try (simp only [hpp,Option.some.injEq,HO.tup.injEq,HO.lst.injEq,HO.dK.injEq,exists_eq_left',exists_eq_left])))); (try (walk_at "WP"))
  exact hR _ sp
 rw [coV_map] at hac
 exact q acc H' hacc sm hac
theorem ok_made (T : Txt K mg) : Cal P w K mg base 3 "made" ["cores","top"] spMade:=by
 have B:=T.bl
 have C_cores_of:=ok_coresD (P:=P) (w:=w) (base:=base) T
 have C_doublings:=(ok_dbl (P:=P) (w:=w) (base:=base) T).mono (k:=2) (by decide)
 refine mkCal T.t_made sc_made (fun vs H Q E h => ?_) (fun f cdv A outer s H vs Q E hr h => ?_)
 ·obtain ⟨_,_,_,rfl,_⟩:=h
  rfl
 obtain ⟨a,xs,top,rfl,ha,O,t1,t2,hl,q⟩:=h
 have big : ∀ l ∈ xs,top < l * 2 ^ 7:=fun l hl => by
  have:=O.lo l hl
  have e : (2 : Int) ^ 7 = 128:=by decide
  rw [e]
  omega
 refine ⟨_,(pss_cons (ps_set (i:=2) sc_made.nd rfl (by walk_at "o") pe_dnewK)
  (pss_cons (ps_for PassesOwn.never rfl (pi_list (pv 0)) (pg_name (i:=3) sc_made.nd rfl (by walk_at "o")) (pss_one (ps_for PassesOwn.never rfl (pi_list (pe_cal C_doublings hr rfl (pa_cons (pv 3) (pa_cons (pv 1) pa_nil)))) (pg_name (i:=4) sc_made.nd rfl (by walk_at "o")) (pss_one (ps_for PassesOwn.never rfl (pi_list (pv 0)) (pg_name (i:=5) sc_made.nd rfl (by walk_at "o")) (pss_cons (ps_dpM (hu_of hr) (pv 2) (pe_op op_add (pv 4) (pv 5)) pe_bl rfl)
  (pss_one (ps_dpM (hu_of hr) (pv 2) (pe_op op_sub (pv 4) (pv 5)) pe_bl rfl))))))))
  (pss_one (ps_ret (pe_callB (call_sortW w rfl) rfl B.sorted bo_sorted (pa_cons (pe_callTy (call_setW w rfl) rfl B.set bo_set (pa_cons (pe_comp0 (N:=["odd","top"]) (nt:=1) (cs:=[1]) rfl (pi_list (pe_cal C_cores_of hr rfl (pa_cons (pe_frz (pv 2)) pa_nil))) (fun nd C s H fp => ⟨(pg_name (i:=0) nd rfl (by walk_at "o")),(pn_one (pt_chain op_lt op_le pe_int (pv 0) (pv 1))),(pv 0)⟩) (by decide +kernel) (by first | rfl | decide +kernel) (by first | rfl | decide +kernel) rfl (fun _ => rfl)) pa_nil)) pa_nil)))))),?_⟩
 rw [show start ["cores","top","sums","left","high","right"] [.ref a,.int top] = [some (.ref a),some (.int top),none,none,none,none] from rfl]
 try walk_at "WP"
 intro d nd
 have smd:=same_new nd (.dK [])
 have ad : a ≠ d:=ne_of_none ha nd
 refine ⟨⟨_,SqL.of (smd _ _ ha)⟩,?_⟩
 refine forL (xs:=xs.map V.int) (fun i σ H1 => ∃ (o3 o4 o5 : Option V),σ = [some (.ref a),some (.int top),some (.ref d),o3,o4,o5] /\ Same H H1 /\ H1 d = some (.dK (ukv (ded (sumsT xs top i))))) ⟨_,_,_,rfl,smd,by rw [upd_same]; rfl⟩ ?_ ?_ ?_
 ·rintro i σ H1 _ ⟨_,_,_,_,s1,_⟩
  exact SqL.of (s1 _ _ ha)
 ·rintro i y σ H1 N hy ⟨o3,o4,o5,rfl,s1,hd1⟩ hN
  obtain ⟨l,hx,rfl⟩:=map_at hy
  have lm:=List.mem_of_getElem? hx
  have l1:=O.lo l lm
  have l2:=O.hi l lm
  try walk_at "WP"
  refine ⟨l,top,rfl,l1,by omega,big l lm,fun r H2 nr s2 hr2 => ?_⟩
  have rd : r ≠ d:=fun e => by rw [e,hd1] at nr; cases nr
  have hd2:=s2 _ _ hd1
  try walk_at "WP"
  refine ⟨⟨_,SqL.of hr2⟩,?_⟩
  have nr0 : H r = none:=s1.free nr
  refine forL (xs:=(dbl l top 7).map V.int) (fun j σ H3 => ∃ (o4 o5 : Option V),σ = [some (.ref a),some (.int top),some (.ref d),some (.int l),o4,o5] /\ Same H H3 /\ H3 r = some (.lst ((dbl l top 7).map V.int)) /\ H3 d = some (.dK (ukv (ded (sumsT xs top i ++ ((dbl l top 7).take j).flatMap (pm xs)))))) ⟨_,_,rfl,s1.trans s2,hr2,by rw [hd2]; simp⟩ ?_ ?_ ?_
  ·rintro j σ H3 _ ⟨_,_,_,s3,hr3,_⟩
   exact SqL.of hr3
  ·rintro j y σ H3 N2 hy ⟨o4,o5,rfl,s3,hr3,hd3⟩ hN2
   obtain ⟨g,hg,rfl⟩:=map_at hy
   have gm:=List.mem_of_getElem? hg
   try walk_at "WP"
   refine ⟨⟨_,SqL.of (s3 _ _ ha)⟩,?_⟩
   refine forL (xs:=xs.map V.int) (fun k σ H4 => ∃ (o5 : Option V),σ = [some (.ref a),some (.int top),some (.ref d),some (.int l),some (.int g),o5] /\ Same H H4 /\ H4 r = some (.lst ((dbl l top 7).map V.int)) /\ H4 d = some (.dK (ukv (ded (sumsT xs top i ++ ((dbl l top 7).take j).flatMap (pm xs) ++ pm (xs.take k) g))))) ⟨_,rfl,s3,hr3,by rw [hd3]; simp [pm]⟩ ?_ ?_ ?_
   ·rintro k σ H4 _ ⟨_,_,s4,_⟩
    exact SqL.of (s4 _ _ ha)
   ·rintro k y σ H4 N3 hy ⟨o5,rfl,s4,hr4,hd4⟩ hN3
    obtain ⟨x,hx2,rfl⟩:=map_at hy
    have xm:=List.mem_of_getElem? hx2
    have bd:=sumsT_len O t2 hx hg (k:=k)
    have bd2:=sumsT_len2 O t2 hx hg hx2
    try walk_at "WP"
    refine ⟨_,hd4,by rw [ukv_len]; exact lt_big (by omega),?_⟩
    rw [ukv_put,← ded_snoc]
    refine ⟨by rw [ukv_len]; exact lt_big (by omega),?_⟩
    rw [ukv_put,← ded_snoc]
    refine hN3 _ _ ⟨_,rfl,same_upd nd (same_upd nd s4),by rw [upd_ne rd,upd_ne rd]; exact hr4,?_⟩
    rw [upd_same,pm_snoc hx2]
    simp only [List.append_assoc]
    rfl
   ·rintro σ H4 ⟨o5,rfl,s4,hr4,hd4⟩
    rw [List.length_map,List.take_length] at hd4
    refine hN2 _ _ ⟨_,_,rfl,s4,hr4,?_⟩
    rw [hd4,List.take_add_one,hg,List.flatMap_append,List.append_assoc]
    simp
  ·rintro σ H3 ⟨o4,o5,rfl,s3,hr3,hd3⟩
   rw [List.length_map,List.take_length] at hd3
   refine hN _ _ ⟨_,_,_,rfl,s3,?_⟩
   rw [hd3,sumsT_snoc hx]
 ·rintro σ H1 ⟨o3,o4,o5,rfl,s1,hd1⟩
  rw [List.length_map,sumsT_all] at hd1
  (iterate 5 ((try (walk_at "WP")); (try (simp only [w_frz,Option.some.injEq,HO.tup.injEq,HO.lst.injEq,HO.dK.injEq,exists_eq_left',exists_eq_left])))); (try (walk_at "WP"))
  refine ⟨_,hd1,fun o => ⟨d,o,ded (sumsL xs top),rfl,upd_same,Nat.le_trans (cores_len O t2) (by decide),fun c H2 nc s2 hc2 => ?_⟩⟩
  have e2:=(same_upd nd s1).trans s2
  try walk_at "WP"
  refine ⟨⟨_,SqL.of hc2⟩,?_⟩
  refine comp_L (f:=inT top) (SqL.of hc2) (by simp only [List.length_map]; exact le_big (Nat.le_trans (cores_len O t2) (by decide))) (fun y H' R hy hS' hR => ?_) (fun acc hacc => ?_)
  ·obtain ⟨n,hn,rfl⟩:=List.mem_map.mp hy
   rw [show capV [1] [some (V.ref a),some (V.int top),some (V.ref d),o3,o4,o5] = [some (V.int top)] from rfl]
   try walk_at "WP"
   rw [inT_int] at hR
   refine ite2 (fun z => ?_) (fun z => ?_)
   ·refine ite2 (fun z2 => ?_) (fun z2 => ?_)
    ·rw [if_pos ⟨z,z2⟩] at hR
     exact hR
    ·rw [if_neg (fun h => z2 h.2)] at hR
     exact hR
   ·rw [if_neg (fun h => z h.1)] at hR
    exact hR
  rw [inT_map]
  have s3:=same_new hacc (.lst ((((ded (sumsL xs top)).map coreN).filter fun c => decide (0 < c /\ c <= top)).map V.int))
  refine ⟨acc,_,rfl,upd_same,?_,fun b nb => ?_⟩
  ·have h1:=List.length_filter_le (fun c => decide (0 < c /\ c <= top)) ((ded (sumsL xs top)).map coreN)
   have h2:=cores_len O t2
   rw [List.length_map] at h1
   omega
  have s4:=same_new nb (SetE w b ((((ded (sumsL xs top)).map coreN).filter fun c => decide (0 < c /\ c <= top)).foldl PyProof.Rows.step_dedup []))
  try walk_at "WP"
  refine ⟨b,ded (((ded (sumsL xs top)).map coreN).filter fun c => decide (0 < c /\ c <= top)),rfl,upd_same,fil_len O t2,fun l2 n2 => ?_⟩
  exact q l2 _ (((e2.trans s3).trans s4).free n2) (((e2.trans s3).trans s4).trans (same_new n2 _)) upd_same
end

section
variable {P : Program} {w : World} {K : PySem.W.Frag} {mg : Str -> Option Value} {base : Heap}
theorem ok_madeT (T : Txt K mg) : Cal P w K mg base 3 "made" ["cores","top"] (spMadeT K):=by
 have B:=T.bl
 have C_cores_of:=ok_coresD (P:=P) (w:=w) (base:=base) T
 have C_doublings:=(ok_dbl (P:=P) (w:=w) (base:=base) T).mono (k:=2) (by decide)
 refine mkCal T.t_made sc_made (fun vs H Q E h => ?_) (fun f cdv A outer s H vs Q E hr h => ?_)
 ·obtain ⟨_,_,_,rfl,_⟩:=h
  rfl
 obtain ⟨a,xs,top,rfl,ha,O,t1,t2,hl,q⟩:=h
 have big : ∀ l ∈ xs,top < l * 2 ^ 7:=fun l hl => by
  have:=O.lo l hl
  have e : (2 : Int) ^ 7 = 128:=by decide
  rw [e]
  omega
 refine ⟨_,(pss_cons (ps_set (i:=2) sc_made.nd rfl (by walk_at "o") pe_dnewK)
  (pss_cons (ps_for PassesOwn.never rfl (pi_tup (pv 0)) (pg_name (i:=3) sc_made.nd rfl (by walk_at "o")) (pss_one (ps_for PassesOwn.never rfl (pi_list (pe_cal C_doublings hr rfl (pa_cons (pv 3) (pa_cons (pv 1) pa_nil)))) (pg_name (i:=4) sc_made.nd rfl (by walk_at "o")) (pss_one (ps_for PassesOwn.never rfl (pi_tup (pv 0)) (pg_name (i:=5) sc_made.nd rfl (by walk_at "o")) (pss_cons (ps_dpM (hu_of hr) (pv 2) (pe_op op_add (pv 4) (pv 5)) pe_bl rfl)
  (pss_one (ps_dpM (hu_of hr) (pv 2) (pe_op op_sub (pv 4) (pv 5)) pe_bl rfl))))))))
  (pss_one (ps_ret (pe_callB (call_sortW w rfl) rfl B.sorted bo_sorted (pa_cons (pe_callTy (call_setW w rfl) rfl B.set bo_set (pa_cons (pe_comp0 (N:=["odd","top"]) (nt:=1) (cs:=[1]) rfl (pi_list (pe_cal C_cores_of hr rfl (pa_cons (pe_frz (pv 2)) pa_nil))) (fun nd C s H fp => ⟨(pg_name (i:=0) nd rfl (by walk_at "o")),(pn_one (pt_chain op_lt op_le pe_int (pv 0) (pv 1))),(pv 0)⟩) (by decide +kernel) (by first | rfl | decide +kernel) (by first | rfl | decide +kernel) rfl (fun _ => rfl)) pa_nil)) pa_nil)))))),?_⟩
 rw [show start ["cores","top","sums","left","high","right"] [.ref a,.int top] = [some (.ref a),some (.int top),none,none,none,none] from rfl]
 try walk_at "WP"
 intro d nd
 have smd:=same_new nd (.dK [])
 refine ⟨⟨_,smd.seqT ha⟩,?_⟩
 refine forT (xs:=xs.map V.int) (fun i σ H1 => ∃ (o3 o4 o5 : Option V),σ = [some (.ref a),some (.int top),some (.ref d),o3,o4,o5] /\ Same H H1 /\ H1 d = some (.dK (ukv (ded (sumsT xs top i))))) ⟨_,_,_,rfl,smd,by rw [upd_same]; rfl⟩ ?_ ?_ ?_
 ·rintro i σ H1 _ ⟨_,_,_,_,s1,_⟩
  exact s1.seqT ha
 ·rintro i y σ H1 N hy ⟨o3,o4,o5,rfl,s1,hd1⟩ hN
  obtain ⟨l,hx,rfl⟩:=map_at hy
  have lm:=List.mem_of_getElem? hx
  have l1:=O.lo l lm
  have l2:=O.hi l lm
  try walk_at "WP"
  refine ⟨l,top,rfl,l1,by omega,big l lm,fun r H2 nr s2 hr2 => ?_⟩
  have rd : r ≠ d:=fun e => by rw [e,hd1] at nr; cases nr
  have hd2:=s2 _ _ hd1
  try walk_at "WP"
  refine ⟨⟨_,SqL.of hr2⟩,?_⟩
  have nr0 : H r = none:=s1.free nr
  refine forL (xs:=(dbl l top 7).map V.int) (fun j σ H3 => ∃ (o4 o5 : Option V),σ = [some (.ref a),some (.int top),some (.ref d),some (.int l),o4,o5] /\ Same H H3 /\ H3 r = some (.lst ((dbl l top 7).map V.int)) /\ H3 d = some (.dK (ukv (ded (sumsT xs top i ++ ((dbl l top 7).take j).flatMap (pm xs)))))) ⟨_,_,rfl,s1.trans s2,hr2,by rw [hd2]; simp⟩ ?_ ?_ ?_
  ·rintro j σ H3 _ ⟨_,_,_,s3,hr3,_⟩
   exact SqL.of hr3
  ·rintro j y σ H3 N2 hy ⟨o4,o5,rfl,s3,hr3,hd3⟩ hN2
   obtain ⟨g,hg,rfl⟩:=map_at hy
   have gm:=List.mem_of_getElem? hg
   try walk_at "WP"
   refine ⟨⟨_,s3.seqT ha⟩,?_⟩
   refine forT (xs:=xs.map V.int) (fun k σ H4 => ∃ (o5 : Option V),σ = [some (.ref a),some (.int top),some (.ref d),some (.int l),some (.int g),o5] /\ Same H H4 /\ H4 r = some (.lst ((dbl l top 7).map V.int)) /\ H4 d = some (.dK (ukv (ded (sumsT xs top i ++ ((dbl l top 7).take j).flatMap (pm xs) ++ pm (xs.take k) g))))) ⟨_,rfl,s3,hr3,by rw [hd3]; simp [pm]⟩ ?_ ?_ ?_
   ·rintro k σ H4 _ ⟨_,_,s4,_⟩
    exact s4.seqT ha
   ·rintro k y σ H4 N3 hy ⟨o5,rfl,s4,hr4,hd4⟩ hN3
    obtain ⟨x,hx2,rfl⟩:=map_at hy
    have xm:=List.mem_of_getElem? hx2
    have bd:=sumsT_len O t2 hx hg (k:=k)
    have bd2:=sumsT_len2 O t2 hx hg hx2
    try walk_at "WP"
    refine ⟨_,hd4,by rw [ukv_len]; exact lt_big (by omega),?_⟩
    rw [ukv_put,← ded_snoc]
    refine ⟨by rw [ukv_len]; exact lt_big (by omega),?_⟩
    rw [ukv_put,← ded_snoc]
    refine hN3 _ _ ⟨_,rfl,same_upd nd (same_upd nd s4),by rw [upd_ne rd,upd_ne rd]; exact hr4,?_⟩
    rw [upd_same,pm_snoc hx2]
    simp only [List.append_assoc]
    rfl
   ·rintro σ H4 ⟨o5,rfl,s4,hr4,hd4⟩
    rw [List.length_map,List.take_length] at hd4
    refine hN2 _ _ ⟨_,_,rfl,s4,hr4,?_⟩
    rw [hd4,List.take_add_one,hg,List.flatMap_append,List.append_assoc]
    simp
  ·rintro σ H3 ⟨o4,o5,rfl,s3,hr3,hd3⟩
   rw [List.length_map,List.take_length] at hd3
   refine hN _ _ ⟨_,_,_,rfl,s3,?_⟩
   rw [hd3,sumsT_snoc hx]
 ·rintro σ H1 ⟨o3,o4,o5,rfl,s1,hd1⟩
  rw [List.length_map,sumsT_all] at hd1
  (iterate 5 ((try (walk_at "WP")); (try (simp only [w_frz,Option.some.injEq,HO.tup.injEq,HO.lst.injEq,HO.dK.injEq,exists_eq_left',exists_eq_left])))); (try (walk_at "WP"))
  refine ⟨_,hd1,fun o => ⟨d,o,ded (sumsL xs top),rfl,upd_same,Nat.le_trans (cores_len O t2) (by decide),fun c H2 nc s2 hc2 => ?_⟩⟩
  have e2:=(same_upd nd s1).trans s2
  try walk_at "WP"
  refine ⟨⟨_,SqL.of hc2⟩,?_⟩
  refine comp_L (f:=inT top) (SqL.of hc2) (by simp only [List.length_map]; exact le_big (Nat.le_trans (cores_len O t2) (by decide))) (fun y H' R hy hS' hR => ?_) (fun acc hacc => ?_)
  ·obtain ⟨n,hn,rfl⟩:=List.mem_map.mp hy
   rw [show capV [1] [some (V.ref a),some (V.int top),some (V.ref d),o3,o4,o5] = [some (V.int top)] from rfl]
   try walk_at "WP"
   rw [inT_int] at hR
   refine ite2 (fun z => ?_) (fun z => ?_)
   ·refine ite2 (fun z2 => ?_) (fun z2 => ?_)
    ·rw [if_pos ⟨z,z2⟩] at hR
     exact hR
    ·rw [if_neg (fun h => z2 h.2)] at hR
     exact hR
   ·rw [if_neg (fun h => z h.1)] at hR
    exact hR
  rw [inT_map]
  have s3:=same_new hacc (.lst ((((ded (sumsL xs top)).map coreN).filter fun c => decide (0 < c /\ c <= top)).map V.int))
  refine ⟨acc,_,rfl,upd_same,?_,fun b nb => ?_⟩
  ·have h1:=List.length_filter_le (fun c => decide (0 < c /\ c <= top)) ((ded (sumsL xs top)).map coreN)
   have h2:=cores_len O t2
   rw [List.length_map] at h1
   omega
  have s4:=same_new nb (SetE w b ((((ded (sumsL xs top)).map coreN).filter fun c => decide (0 < c /\ c <= top)).foldl PyProof.Rows.step_dedup []))
  try walk_at "WP"
  refine ⟨b,ded (((ded (sumsL xs top)).map coreN).filter fun c => decide (0 < c /\ c <= top)),rfl,upd_same,fil_len O t2,fun l2 n2 => ?_⟩
  exact q l2 _ (((e2.trans s3).trans s4).free n2) (((e2.trans s3).trans s4).trans (same_new n2 _)) upd_same
end

section
variable {P : Program} {w : World} {K : PySem.W.Frag} {mg : Str -> Option Value} {base : Heap}
theorem ok_coresL (T : Txt K mg) : Cal P w K mg base 2 "cores_of" ["numbers"] spCores:=by
 have B:=T.bl
 have C_core:=ok_core (P:=P) (w:=w) (base:=base) T
 refine mkCal T.t_cores_of sc_cores_of (fun vs H Q E h => ?_) (fun f cdv A outer s H vs Q E hr h => ?_)
 ·obtain ⟨a,xs,rfl,_⟩:=h
  rfl
 obtain ⟨a,xs,rfl,ha,hl,q⟩:=h
 refine ⟨_,(pss_one (ps_ret (pe_comp0 (N:=["number"]) (nt:=1) (cs:=[]) rfl (pi_list (pv 0)) (fun nd C s H fp => ⟨(pg_name (i:=0) nd rfl (by walk_at "o")),pn_nil,(pe_ix ix_U (pe_cal C_core hr rfl (pa_cons (pv 0) pa_nil)) pe_int (fun _ _ => rfl))⟩) (by decide +kernel) (by first | rfl | decide +kernel) (by first | rfl | decide +kernel) rfl (fun _ => rfl)))),?_⟩
 rw [show start ["numbers"] [.ref a] = [some (.ref a)] from rfl]
 try walk_at "WP"
 refine ⟨⟨_,SqL.of ha⟩,?_⟩
 refine comp_newL (SqL.of ha) (by rw [List.length_map]; exact le_big (by omega)) coV (fun x H' R hx hS' hR => ?_) (fun acc H' hacc sm hac => ?_)
 ·obtain ⟨n,hn,rfl⟩:=List.mem_map.mp hx
  try walk_at "WP"
  refine ⟨n,rfl,fun p hp => ?_⟩
  have hpp : upd H' p (.tup [V.int (coreN n),V.int (shN n),V.int (sgN n)]) p = some (.tup [V.int (coreN n),V.int (shN n),V.int (sgN n)]):=upd_same
  have sp:=same_new hp (.tup [V.int (coreN n),V.int (shN n),V.int (sgN n)])
  generalize upd H' p (.tup [V.int (coreN n),V.int (shN n),V.int (sgN n)]) = H2 at hpp sp ⊢
  (iterate 5 ((try (walk_at "WP")); (try (simp only [hpp,Option.some.injEq,HO.tup.injEq,HO.lst.injEq,HO.dK.injEq,exists_eq_left',exists_eq_left])))); (try (walk_at "WP"))
  exact hR _ sp
 rw [coV_map] at hac
 exact q acc H' hacc sm hac
theorem ok_wanted (T : Txt K mg) : Cal P w K mg base 3 "wanted" ["numbers"] spWanted:=by
 have B:=T.bl
 have C_cores_of:=ok_coresL (P:=P) (w:=w) (base:=base) T
 refine mkCal T.t_wanted sc_wanted (fun vs H Q E h => ?_) (fun f cdv A outer s H vs Q E hr h => ?_)
 ·obtain ⟨a,xs,rfl,_⟩:=h
  rfl
 obtain ⟨a,xs,rfl,ha,hl,q⟩:=h
 refine ⟨_,(pss_one (ps_ret (pe_callB (call_sortW w rfl) rfl B.sorted bo_sorted (pa_cons (pe_callTy (call_setW w rfl) rfl B.set bo_set (pa_cons (pe_comp0 (N:=["odd"]) (nt:=1) (cs:=[]) rfl (pi_list (pe_cal C_cores_of hr rfl (pa_cons (pv 0) pa_nil))) (fun nd C s H fp => ⟨(pg_name (i:=0) nd rfl (by walk_at "o")),(pn_one (pt_cmpR op_gt (pv 0) pe_int (nomark _))),(pv 0)⟩) (by decide +kernel) (by first | rfl | decide +kernel) (by first | rfl | decide +kernel) rfl (fun _ => rfl)) pa_nil)) pa_nil)))),?_⟩
 rw [show start ["numbers"] [.ref a] = [some (.ref a)] from rfl]
 try walk_at "WP"
 refine ⟨a,xs,rfl,ha,by omega,fun l H1 n1 s1 h1 => ?_⟩
 try walk_at "WP"
 refine ⟨⟨_,SqL.of h1⟩,?_⟩
 refine comp_L (f:=gtV) (SqL.of h1) (by simp only [List.length_map]; exact le_big (by omega)) (fun y H' R hy hS' hR => ?_) (fun acc hacc => ?_)
 ·obtain ⟨n,hn,rfl⟩:=List.mem_map.mp hy
  try walk_at "WP"
  have e : gtV (.int n) = if 1 < n then some (.int n) else none:=rfl
  rw [e] at hR
  refine ite2 (fun z => ?_) (fun z => ?_)
  ·rw [if_pos z] at hR
   exact hR
  ·rw [if_neg z] at hR
   exact hR
 rw [gtV_map]
 show rSetZ w [V.ref acc] (upd H1 acc (.lst ((wantC xs).map V.int))) _
 have s2:=same_new hacc (.lst ((wantC xs).map V.int))
 have wl : (wantC xs).length <= xs.length:=by
  have:=List.length_filter_le (fun c => decide (1 < c)) (xs.map coreN)
  rw [List.length_map] at this
  exact this
 refine ⟨acc,wantC xs,rfl,upd_same,by omega,fun b nb => ?_⟩
 have s3:=same_new nb (SetE w b ((wantC xs).foldl PyProof.Rows.step_dedup []))
 have dl:=ded_len (wantC xs)
 try walk_at "WP"
 refine ⟨b,ded (wantC xs),rfl,upd_same,by omega,fun l2 n2 => ?_⟩
 have s4:=same_new n2 (.lst ((sortI (ded (wantC xs))).map V.int))
 exact q l2 _ (((s1.trans s2).trans s3).free n2) (((s1.trans s2).trans s3).trans s4) upd_same
end

section
variable {P : Program} {w : World} {K : PySem.W.Frag} {mg : Str -> Option Value} {base : Heap}
theorem ok_grown (T : Txt K mg) : Cal P w K mg base 4 "grown" ["cores","top"] spGrown:=by
 have B:=T.bl
 have C_made:=ok_madeT (P:=P) (w:=w) (base:=base) T
 refine mkCal T.t_grown sc_grown (fun vs H Q E h => ?_) (fun f cdv A outer s H vs Q E hr h => ?_)
 ·obtain ⟨_,_,_,rfl,_⟩:=h
  rfl
 obtain ⟨c,cs,top,rfl,hc,O,t1,t2,hl,q⟩:=h
 refine ⟨_,(pss_cons (ps_setComp0 (ix:=2) (N:=["odd","cores"]) (nt:=1) (cs:=[0]) rfl (pi_list (pe_cal C_made hr rfl (pa_cons (pv 0) (pa_cons (pv 1) pa_nil)))) (fun nd C s H fp => ⟨(pg_name (i:=0) nd rfl (by walk_at "o")),(pn_one (pt_cmpR (op_notInK K) (pv 0) (pv 1) (by with_unfolding_all rfl))),(pv 0)⟩) (by decide +kernel) (by first | rfl | decide +kernel) (by first | rfl | decide +kernel) rfl (fun _ => rfl) sc_grown.nd rfl (by walk_at "o") (by walk_at "o") rfl)
  (pss_one (ps_ret (pe_ifExp (pt_cmpR (op_neD hr) (pv 2) (pe_lst pa_nil) (nomark _)) (pe_comp0 (N:=["odd","cores"]) (nt:=1) (cs:=[0]) rfl (pi_list (pv 2)) (fun nd C s H fp => ⟨(pg_name (i:=0) nd rfl (by walk_at "o")),pn_nil,(pe_callTy (call_tupleK K) rfl B.tuple bo_tuple (pa_cons (pe_callB (call_sortT K) rfl B.sorted bo_sorted (pa_cons (pe_op (op_catCK K) (pv 1) (pe_tup (pa_cons (pv 0) pa_nil))) pa_nil)) pa_nil))⟩) (by decide +kernel) (by first | rfl | decide +kernel) (by first | rfl | decide +kernel) rfl (fun _ => rfl)) (pe_lst (pa_cons (pv 0) pa_nil)))))),?_⟩
 rw [show start ["cores","top","more"] [.ref c,.int top] = [some (.ref c),some (.int top),none] from rfl]
 try walk_at "WP"
 refine ⟨c,cs,top,rfl,SqT.of hc,O,t1,t2,by omega,fun m H1 nm s1 hm => ?_⟩
 try walk_at "WP"
 refine ⟨⟨_,SqL.of hm⟩,?_⟩
 have ecap : ∀ o,capV [0] [some (V.ref c),some (V.int top),o] = [some (V.ref c)]:=fun _ => rfl
 refine comp_L (f:=notV cs) (SqL.of hm) (by rw [List.length_map]; exact le_big (by have:=made_len (xs:=cs) t2; omega)) (fun x H' R hx hS' hR => ?_) (fun a na => ?_)
 ·obtain ⟨o,ho,rfl⟩:=List.mem_map.mp hx
  rw [ecap]
  try walk_at "WP"
  have hin:=inV_i cs o
  refine ⟨c,_,rfl,.inr (SqT.of ((s1.trans hS') _ _ hc)),rfl,flat_ints cs,?_⟩
  rw [if_pos rfl,hin]
  by_cases z : o ∈ cs
  ·rw [show notV cs (V.int o) = none from if_pos z] at hR
   rw [decide_eq_true z]
   exact ⟨_,rfl,hR⟩
  ·rw [show notV cs (V.int o) = some (V.int o) from if_neg z] at hR
   rw [decide_eq_false z]
   exact ⟨_,rfl,hR⟩
 rw [notV_map,show ((madeL cs top).filter fun o => decide (o ∉ cs)) = moreL cs top from rfl]
 refine abs_ na fun H2 s2 h2 => ?_
 intro e ne
 refine abs_ ne fun H3 s3 h3 => ?_
 have h23:=s3 _ _ h2
 have s13:=(s1.trans s2).trans s3
 have ml:=more_len (cs:=cs) t2
 refine neLI (ms:=[]) (SqL.of h23) (SqL.of h3) ?_
 try walk_at "WP"
 refine ite2 (fun z => ?_) (fun z => ?_)
 ·have zz : moreL cs top ≠ []:=by simpa using z
  refine ⟨⟨_,SqL.of h23⟩,?_⟩
  refine comp_tupI (fun o => sortI (cs ++ [o])) h23 (by omega) (fun x H' R hx s' hR => ?_) (fun acc ws H' na' s' ha' ht' => ?_)
  ·rw [ecap]
   try walk_at "WP"
   intro p np
   refine abs_ np fun H5 s5 h5 => ?_
   refine ⟨c,p,_,[.int x],rfl,rfl,SqT.of (((s13.trans s').trans s5) _ _ hc),SqT.of h5,le_big (by rw [List.length_map]; show _ + 1 <= _; omega),fun r H6 s6 hr6 => ?_⟩
   rw [show cs.map V.int ++ [V.int x] = (cs ++ [x]).map V.int by rw [List.map_append]; rfl] at hr6
   refine ⟨r,cs ++ [x],rfl,hr6,by rw [List.length_append]; show _ + 1 < _; omega,fun l nl => ?_⟩
   refine abs_ nl fun H7 s7 h7 => ?_
   refine ⟨l,rfl,_,.inl ⟨SqL.of h7,fun l2 nl2 => ?_⟩⟩
   have s8:=same_new nl2 (.tup ((sortI (cs ++ [x])).map V.int))
   exact hR l2 _ (((s5.trans s6).trans s7).trans s8) (((s5.trans s6).trans s7).free nl2) upd_same
  ·refine q acc ws H' (s13.free na') (s13.trans s') ha' ?_
   unfold growL
   rw [if_neg zz]
   exact ht'
 ·have zz : moreL cs top = []:=by simpa using z
  intro r nr
  have s4:=same_new nr (.lst [V.ref c])
  refine q r [.ref c] _ (s13.free nr) (s13.trans s4) upd_same ?_
  unfold growL
  rw [if_pos zz]
  exact hts_nil.snoc (s4 _ _ (s13 _ _ hc))
end

section
variable {P : Program} {w : World} {K : PySem.W.Frag} {mg : Str -> Option Value} {base : Heap}
theorem ok_way (T : Txt K mg) : Cal P w K mg base 2 "way_to" ["odd","parts","top"] spWay:=by
 have B:=T.bl
 have C_core:=ok_core (P:=P) (w:=w) (base:=base) T
 have C_doublings:=ok_dbl (P:=P) (w:=w) (base:=base) T
 refine mkCal T.t_way_to sc_way_to (fun vs H Q E h => ?_) (fun f cdv A outer s H vs Q E hr h => ?_)
 ·obtain ⟨_,_,_,_,_,rfl,_⟩:=h
  rfl
 obtain ⟨odd,top,d,kvs,ks,rfl,hd,hk,O,t1,t2,o1,o2,qN,qY⟩:=h
 refine ⟨_,(pss_cons (ps_for PassesOwn.never rfl (pi_dict (pe_frz (pv 1))) (pg_name (i:=3) sc_way_to.nd rfl (by walk_at "o")) (pss_one (ps_for PassesOwn.never rfl (pi_dict (pv 1)) (pg_name (i:=4) sc_way_to.nd rfl (by walk_at "o")) (pss_one (ps_for PassesOwn.never rfl (pi_enum rfl B.enumerate (pa_cons (pe_cal C_doublings hr rfl (pa_cons (pv 3) (pa_cons (pv 2) pa_nil))) pa_nil)) (pg_tupM 2 rfl (pgs_cons (pg_name (i:=5) sc_way_to.nd rfl (by walk_at "o")) (pgs_cons (pg_name (i:=6) sc_way_to.nd rfl (by walk_at "o")) pgs_nil))) (pss_cons (ps_if (pt_cmpR op_eq (pe_ix ix_U (pe_cal C_core hr rfl (pa_cons (pe_op op_add (pv 6) (pv 4)) pa_nil)) pe_int (fun _ _ => rfl)) (pv 0) (nomark _)) (pss_one (ps_ret (pe_thw hd (pe_tup (pa_cons (pv 3) (pa_cons (pv 5) (pa_cons (pv 4) (pa_cons pe_int pa_nil)))))))) pss_nil)
  (pss_one (ps_if (pt_cmpR op_eq (pe_ix ix_U (pe_cal C_core hr rfl (pa_cons (pe_op op_sub (pv 6) (pv 4)) pa_nil)) pe_int (fun _ _ => rfl)) (pv 0) (nomark _)) (pss_one (ps_ret (pe_thw hd (pe_tup (pa_cons (pv 3) (pa_cons (pv 5) (pa_cons (pv 4) (pa_cons (pe_un un_neg pe_int) pa_nil)))))))) pss_nil))))))))
  (pss_one (ps_ret (pe_thw hd pe_non)))),?_⟩
 rw [show start ["odd","parts","top","left","right","shift","high"] [.int odd,.ref d,.int top] = [some (.int odd),some (.ref d),some (.int top),none,none,none,none] from rfl]
 refine seq_in fun R_ hR_ => ?_
 try walk_at "WP"
 rw [w_forKs,w_frz]
 try walk_at "WP"
 refine ⟨kvs,hd,fun o => ⟨o,kvs,rfl,?_⟩⟩
 have C1 : Chg d H (upd H d (.frz o (.dK kvs))):=Chg.upd _
 have hd1 : upd H d (.frz o (.dK kvs)) d = some (.frz o (.dK kvs)):=upd_same
 generalize upd H d (.frz o (.dK kvs)) = H1 at C1 hd1 ⊢
 have back : ∀ H',Same H1 H' -> Same H (upd H' d (.dK kvs)):=fun H' s b u e => by
  by_cases z : b = d
  ·rw [z,upd_same]
   rw [z,hd] at e
   exact e
  ·rw [upd_ne z]
   exact s _ _ (C1 _ _ z e)
 refine forKs hk (fun i σ H' => ∃ o3 o4 o5 o6,σ = [some (.int odd),some (.ref d),some (.int top),o3,o4,o5,o6] /\ Same H1 H' /\ ∀ l ∈ ks.take i,∀ r ∈ ks,∀ h ∈ dbl l top 7,coreN (h + r) ≠ odd /\ coreN (h - r) ≠ odd) ⟨none,none,none,none,rfl,Same.refl _,fun l h => (nomatch h)⟩ ?_ ?_ ?_
 ·rintro i σ H' _ ⟨_,_,_,_,rfl,s',_⟩
  exact s' _ _ hd1
 ·rintro i x σ H2 N hx ⟨o3,o4,o5,o6,rfl,s2,hno⟩ hN
  obtain ⟨l,hl,rfl⟩:=map_at hx
  have lm:=List.mem_of_getElem? hl
  have l1:=O.lo l lm
  have l2:=O.hi l lm
  try walk_at "WP"
  rw [w_forKs]
  try walk_at "WP"
  refine ⟨o,kvs,s2 _ _ hd1,?_⟩
  refine forKs hk (fun j σ H' => ∃ o4 o5 o6,σ = [some (.int odd),some (.ref d),some (.int top),some (.int l),o4,o5,o6] /\ Same H1 H' /\ ∀ r ∈ ks.take j,∀ h ∈ dbl l top 7,coreN (h + r) ≠ odd /\ coreN (h - r) ≠ odd) ⟨o4,o5,o6,rfl,s2,fun r h => (nomatch h)⟩ ?_ ?_ ?_
  ·rintro j σ H' _ ⟨_,_,_,rfl,s',_⟩
   exact s' _ _ hd1
  ·rintro j x σ H3 N3 hx2 ⟨o4,o5,o6,rfl,s3,hno3⟩ hN3
   obtain ⟨r,hr,rfl⟩:=map_at hx2
   have rm:=List.mem_of_getElem? hr
   have big : top < l * 2 ^ 7:=by
    have e : (2 : Int) ^ 7 = 128:=by decide
    rw [e]
    omega
   try walk_at "WP"
   refine ⟨l,top,rfl,l1,by omega,big,fun dl H4 n4 s4 h4 => ?_⟩
   try walk_at "WP"
   refine ⟨_,SqL.of h4,?_⟩
   refine forE (xs:=(dbl l top 7).map V.int) (fun c σ H' => ∃ o5 o6,σ = [some (.int odd),some (.ref d),some (.int top),some (.int l),some (.int r),o5,o6] /\ Same H4 H' /\ ∀ h ∈ (dbl l top 7).take c,coreN (h + r) ≠ odd /\ coreN (h - r) ≠ odd) ⟨o5,o6,rfl,Same.refl _,fun h hh => (nomatch hh)⟩ ?_ ?_ ?_
   ·rintro c σ H' _ ⟨_,_,rfl,s',_⟩
    exact SqL.of (s' _ _ h4)
   ·rintro c x t0 σ H5 N5 hx3 nt0 ⟨o5,o6,rfl,s5,hno5⟩ hN5
    obtain ⟨h,hh,rfl⟩:=map_at hx3
    obtain ⟨eh,c7⟩:=dbl_at hh
    refine abs_ nt0 fun H6 s6 h6 => ?_
    refine seq_inG fun R_ hR_ => ?_
    (iterate 5 ((try (walk_at "WP")); (try (simp only [h6,Option.some.injEq,HO.tup.injEq,HO.lst.injEq,HO.dK.injEq,exists_eq_left',exists_eq_left])))); (try (walk_at "WP"))
    refine ⟨h + r,rfl,fun p1 np1 => ?_⟩
    refine abs_ np1 fun H7 s7 h7 => ?_
    have s17:=((s3.trans s4).trans s5).trans (s6.trans s7)
    (iterate 5 ((try (walk_at "WP")); (try (simp only [h7,Option.some.injEq,HO.tup.injEq,HO.lst.injEq,HO.dK.injEq,exists_eq_left',exists_eq_left])))); (try (walk_at "WP"))
    refine ite2 (fun z => ?_) (fun z => ?_)
    ·rw [w_thw]
     try walk_at "WP"
     intro t nt
     refine abs_ nt fun H8 s8 h8 => ?_
     refine ⟨o,kvs,(s17.trans s8) _ _ hd1,?_⟩
     refine qY t l r 1 c _ (back _ (s17.trans s8)) ?_ lm rm (by omega) (.inl rfl) ?_
     ·rw [upd_ne (ne_of h8 ((s17.trans s8) _ _ hd1) (by intro y; cases y))]
      exact h8
     ·rw [Int.one_mul,← eh]
      exact z
    (try (walk_at "WP")); (try (refine seq_out hR_ ?_)); (try (refine seq_in fun R_ hR_ => ?_)); (iterate 5 ((try (walk_at "WP")); (try (simp only [h6,Option.some.injEq,HO.tup.injEq,HO.lst.injEq,HO.dK.injEq,exists_eq_left',exists_eq_left])))); (try (walk_at "WP"))
    refine ⟨h - r,rfl,fun p2 np2 => ?_⟩
    refine abs_ np2 fun H8 s8 h8 => ?_
    have s18:=s17.trans s8
    (iterate 5 ((try (walk_at "WP")); (try (simp only [h8,Option.some.injEq,HO.tup.injEq,HO.lst.injEq,HO.dK.injEq,exists_eq_left',exists_eq_left])))); (try (walk_at "WP"))
    refine ite2 (fun z2 => ?_) (fun z2 => ?_)
    ·rw [w_thw]
     try walk_at "WP"
     intro t nt
     refine abs_ nt fun H9 s9 h9 => ?_
     refine ⟨o,kvs,(s18.trans s9) _ _ hd1,?_⟩
     refine qY t l r (-1) c _ (back _ (s18.trans s9)) ?_ lm rm (by omega) (.inr rfl) ?_
     ·rw [upd_ne (ne_of h9 ((s18.trans s9) _ _ hd1) (by intro y; cases y))]
      exact h9
     ·rw [show l * 2 ^ c + -1 * r = h - r by rw [eh]; omega]
      exact z2
    ·refine hN5 _ _ ⟨_,_,rfl,s5.trans ((s6.trans s7).trans s8),fun h' hh' => ?_⟩
     rw [List.take_succ,hh,Option.toList_some] at hh'
     rcases List.mem_append.mp hh' with y | y
     ·exact hno5 h' y
     ·rw [List.mem_singleton.mp y]
      exact ⟨z,z2⟩
   ·rintro σ H5 ⟨o5,o6,rfl,s5,hno5⟩
    rw [List.length_map,List.take_length] at hno5
    refine hN3 _ _ ⟨_,_,_,rfl,(s3.trans s4).trans s5,fun r' hr' => ?_⟩
    rw [List.take_succ,hr,Option.toList_some] at hr'
    rcases List.mem_append.mp hr' with y | y
    ·exact hno3 r' y
    ·rw [List.mem_singleton.mp y]
     exact hno5
  ·rintro σ H3 ⟨o4,o5,o6,rfl,s3,hno3⟩
   rw [List.length_map,List.take_length] at hno3
   refine hN _ _ ⟨_,_,_,_,rfl,s3,fun l' hl' => ?_⟩
   rw [List.take_succ,hl,Option.toList_some] at hl'
   rcases List.mem_append.mp hl' with z | z
   ·exact hno l' z
   ·rw [List.mem_singleton.mp z]
    exact hno3
 ·rintro σ H2 ⟨o3,o4,o5,o6,rfl,s2,hno⟩
  rw [List.length_map,List.take_length] at hno
  (try (walk_at "WP")); (try (refine seq_out hR_ ?_)); (try (refine seq_in fun R_ hR_ => ?_)); (try (walk_at "WP"))
  rw [w_thw]
  exact ⟨o,kvs,s2 _ _ hd1,qN _ (back _ s2) (not_made o1 o2 hno)⟩
end

section
variable {P : Program} {w : World} {K : PySem.W.Frag} {mg : Str -> Option Value} {base : Heap}
theorem ok_movE (T : Txt K mg) : Cal P w K mg base 1 "moved" ["part","shift","sign"] (spMovE K):=by
 have B:=T.bl
 obtain ⟨cst_NO_OUT,mg_NO_OUT,hcst⟩:=T.c_NO_OUT
 refine mkCal T.t_moved sc_moved (fun vs H Q E h => ?_) (fun f cdv A outer s H vs Q E hr h => ?_)
 ·obtain ⟨_,_,_,_,rfl,_⟩:=h
  rfl
 obtain ⟨p,G,sh,g,rfl,hp,hg,q⟩:=h
 unfold gTp at hp
 refine ⟨_,(pss_cons (ps_if (pt_cmpR op_eq (pe_op op_mulB (pe_ix ix_tup (pv 0) pe_int (fun _ _ => rfl)) (pv 2)) pe_int (nomark _)) (pss_one (ps_ret (pe_glob (v:=.ref cst_NO_OUT) rfl mg_NO_OUT rfl))) pss_nil)
  (pss_one (ps_ret (pe_tup (pa_cons (pe_ix ix_tup (pv 0) pe_int (fun _ _ => rfl)) (pa_cons (pe_op op_add (pe_ix ix_tup (pv 0) pe_int (fun _ _ => rfl)) (pv 1)) (pa_cons (pe_op op_mulB (pe_ix ix_tup (pv 0) pe_int (fun _ _ => rfl)) (pv 2)) pa_nil))))))),?_⟩
 rw [show start ["part","shift","sign"] [.ref p,.int sh,.int g] = [some (.ref p),some (.int sh),some (.int g)] from rfl]
 try walk_at "WP"
 refine ⟨_,hp,_,rfl,?_⟩
 try walk_at "WP"
 have ml : IntMulOk G.sg g:=by rcases hg with z | z | z <;> rw [z] <;> exact mul_r (by decide) (by decide)
 refine ⟨ml,?_⟩
 refine ite2 (fun z => ?_) (fun z => ?_)
 ·refine q _ _ (Same.refl _) ?_
  unfold movG
  rw [if_pos z]
  exact hcst.sq H
 ·refine ⟨_,hp,_,rfl,_,hp,_,rfl,?_⟩
  try walk_at "WP"
  refine ⟨_,hp,_,rfl,?_⟩
  try walk_at "WP"
  refine ⟨ml,fun r hr0 => ?_⟩
  refine q _ _ (same_new hr0 _) ?_
  unfold movG
  rw [if_neg z]
  exact SqT.of upd_same
theorem ok_deedE (T : Txt K mg) : Cal P w K mg base 1 "deed_of" ["one","other"] (spDeedE K):=by
 have B:=T.bl
 refine mkCal T.t_deed_of sc_deed_of (fun vs H Q E h => ?_) (fun f cdv A outer s H vs Q E hr h => ?_)
 ·obtain ⟨_,_,_,_,rfl,_⟩:=h
  rfl
 obtain ⟨p1,p2,G,R,rfl,h1,h2,q⟩:=h
 unfold gTp at h1 h2
 refine ⟨_,(pss_cons (ps_if (pt_cmpR op_eq (pe_ix ix_tup (pv 0) pe_int (fun _ _ => rfl)) (pe_ix ix_tup (pv 1) pe_int (fun _ _ => rfl)) (nomark _)) (pss_one (ps_ret (pe_tup (pa_cons pe_str (pa_cons (pe_ix ix_tup (pv 0) pe_int (fun _ _ => rfl)) (pa_cons (pe_ix ix_tup (pv 0) pe_int (fun _ _ => rfl)) (pa_cons (pe_ix ix_tup (pv 1) pe_int (fun _ _ => rfl)) (pa_cons (pe_ix ix_tup (pv 1) pe_int (fun _ _ => rfl)) pa_nil)))))))) pss_nil)
  (pss_cons (ps_if (pt_cmpR op_eq (pe_ix ix_tup (pv 0) pe_int (fun _ _ => rfl)) pe_int (nomark _)) (pss_one (ps_ret (pe_tup (pa_cons pe_str (pa_cons (pe_ix ix_tup (pv 0) pe_int (fun _ _ => rfl)) (pa_cons (pe_ix ix_tup (pv 0) pe_int (fun _ _ => rfl)) (pa_cons (pe_ix ix_tup (pv 1) pe_int (fun _ _ => rfl)) (pa_cons (pe_ix ix_tup (pv 1) pe_int (fun _ _ => rfl)) pa_nil)))))))) pss_nil)
  (pss_one (ps_ret (pe_tup (pa_cons pe_str (pa_cons (pe_ix ix_tup (pv 1) pe_int (fun _ _ => rfl)) (pa_cons (pe_ix ix_tup (pv 1) pe_int (fun _ _ => rfl)) (pa_cons (pe_ix ix_tup (pv 0) pe_int (fun _ _ => rfl)) (pa_cons (pe_ix ix_tup (pv 0) pe_int (fun _ _ => rfl)) pa_nil)))))))))),?_⟩
 rw [show start ["one","other"] [.ref p1,.ref p2] = [some (.ref p1),some (.ref p2)] from rfl]
 try walk_at "WP"
 refine ⟨_,h1,_,rfl,_,h2,_,rfl,?_⟩
 try walk_at "WP"
 refine ite2 (fun z => ?_) (fun z => ?_)
 ·exact ⟨_,h1,_,rfl,_,h1,_,rfl,_,h2,_,rfl,_,h2,_,rfl,fun r hr0 => q r _ hr0 (same_new hr0 _) (by unfold deedG; rw [if_pos z,upd_same]; rfl)⟩
 ·refine ⟨_,h1,_,rfl,?_⟩
  try walk_at "WP"
  refine ite2 (fun y => ?_) (fun y => ?_)
  ·exact ⟨_,h1,_,rfl,_,h1,_,rfl,_,h2,_,rfl,_,h2,_,rfl,fun r hr0 => q r _ hr0 (same_new hr0 _) (by unfold deedG; rw [if_neg z,if_pos y,upd_same]; rfl)⟩
  ·exact ⟨_,h2,_,rfl,_,h2,_,rfl,_,h1,_,rfl,_,h1,_,rfl,fun r hr0 => q r _ hr0 (same_new hr0 _) (by unfold deedG; rw [if_neg z,if_neg y,upd_same]; rfl)⟩
theorem ok_signE (T : Txt K mg) : Cal P w K mg base 1 "sign_of" ["one","other"] (spSignE K):=by
 have B:=T.bl
 refine mkCal T.t_sign_of sc_sign_of (fun vs H Q E h => ?_) (fun f cdv A outer s H vs Q E hr h => ?_)
 ·obtain ⟨_,_,_,_,rfl,_⟩:=h
  rfl
 obtain ⟨p1,p2,G,R,rfl,h1,h2,q⟩:=h
 unfold gTp at h1 h2
 refine ⟨_,(pss_one (ps_ret (pe_ifExp (pt_cmpR op_eq (pe_ix ix_tup (pv 0) pe_int (fun _ _ => rfl)) (pe_ix ix_tup (pv 1) pe_int (fun _ _ => rfl)) (nomark _)) (pe_ix ix_tup (pv 0) pe_int (fun _ _ => rfl)) pe_int))),?_⟩
 rw [show start ["one","other"] [.ref p1,.ref p2] = [some (.ref p1),some (.ref p2)] from rfl]
 try walk_at "WP"
 refine ⟨_,h1,_,rfl,_,h2,_,rfl,?_⟩
 try walk_at "WP"
 unfold signG at q
 refine ite2 (fun z => ?_) (fun z => ?_)
 ·rw [if_pos z] at q
  exact ⟨_,h1,_,rfl,q⟩
 ·rw [if_neg z] at q
  exact q
theorem ok_addE (T : Txt K mg) : Cal P w K mg base 2 "add_sum" ["ins","deeds","one","other"] (spAddE K):=by
 have B:=T.bl
 have C_deed_of:=ok_deedE (P:=P) (w:=w) (base:=base) T
 have C_sign_of:=ok_signE (P:=P) (w:=w) (base:=base) T
 refine mkCal T.t_add_sum sc_add_sum (fun vs H Q E h => ?_) (fun f cdv A outer s H vs Q E hr h => ?_)
 ·obtain ⟨_,_,_,_,_,_,_,_,rfl,_⟩:=h
  rfl
 obtain ⟨ins,l,p1,p2,us,ds,G,R,rfl,hl,hds,h1,h2,ul,q⟩:=h
 have h1':=h1
 have h2':=h2
 unfold gTp at h1' h2'
 refine ⟨_,(pss_cons (ps_if (pt_cmpR op_eq (pe_ix ix_tup (pv 2) pe_int (fun _ _ => rfl)) pe_int (nomark _)) (pss_one (ps_ret (pv 3))) pss_nil)
  (pss_cons (ps_if (pt_cmpR op_eq (pe_ix ix_tup (pv 3) pe_int (fun _ _ => rfl)) pe_int (nomark _)) (pss_one (ps_ret (pv 2))) pss_nil)
  (pss_cons (ps_expr (pe_bm PySem.F.plainAttrs_list PySem.F.slot_list_append PySem.F.type_list_append mt_append (pv 1) (pa_cons (pe_cal C_deed_of hr rfl (pa_cons (pv 2) (pa_cons (pv 3) pa_nil))) pa_nil)))
  (pss_one (ps_ret (pe_tup (pa_cons (pe_op op_sub (pe_op op_add (pv 0) (pe_callB call_lenM rfl B.len bo_len (pa_cons (pv 1) pa_nil))) pe_int) (pa_cons pe_int (pa_cons (pe_cal C_sign_of hr rfl (pa_cons (pv 2) (pa_cons (pv 3) pa_nil))) pa_nil))))))))),?_⟩
 rw [show start ["ins","deeds","one","other"] [.int (ins : Int),.ref l,.ref p1,.ref p2] = [some (.int (ins : Int)),some (.ref l),some (.ref p1),some (.ref p2)] from rfl]
 try walk_at "WP"
 refine ⟨_,h1',_,rfl,?_⟩
 try walk_at "WP"
 unfold addG addP at q
 refine ite2 (fun z => ?_) (fun z => ?_)
 ·rw [if_pos z,if_pos z] at q
  exact q _ _ _ (fun _ _ _ y => y) hl hds h2
 rw [if_neg z,if_neg z] at q
 refine ⟨_,h2',_,rfl,?_⟩
 try walk_at "WP"
 refine ite2 (fun y => ?_) (fun y => ?_)
 ·rw [if_pos y,if_pos y] at q
  exact q _ _ _ (fun _ _ _ y => y) hl hds h1
 rw [if_neg y,if_neg y] at q
 refine ⟨ty_list hl,?_⟩
 refine ⟨_,_,_,_,rfl,h1,h2,fun r H1 nr s1 hr1 => ?_⟩
 have hl1:=s1 _ _ hl
 (iterate 5 ((try (walk_at "WP")); (try (simp only [hl1,Option.some.injEq,HO.tup.injEq,HO.lst.injEq,HO.dK.injEq,exists_eq_left',exists_eq_left])))); (try (walk_at "WP"))
 refine ⟨lt_big (by omega),?_⟩
 have C2 : Chg l H1 (upd H1 l (.lst (us ++ [.ref r]))):=Chg.upd _
 have hl2 : upd H1 l (.lst (us ++ [.ref r])) l = some (.lst (us ++ [.ref r])):=upd_same
 have rl : r ≠ l:=(ne_of_none hl nr).symm
 have hr2:=C2 _ _ rl hr1
 have hds2:=((hds.same s1).chgL hl1 C2).snoc hr2
 have hu2:=sqT_chg (s1.seqT h1) hl1 C2
 have hv2:=sqT_chg (s1.seqT h2) hl1 C2
 have dsl:=hds.len
 generalize upd H1 l (.lst (us ++ [.ref r])) = H2 at C2 hl2 hu2 hv2 hds2 ⊢
 (iterate 5 ((try (walk_at "WP")); (try (simp only [hl2,Option.some.injEq,HO.tup.injEq,HO.lst.injEq,HO.dK.injEq,exists_eq_left',exists_eq_left])))); (try (walk_at "WP"))
 refine ⟨_,_,_,_,rfl,hu2,hv2,?_⟩
 try walk_at "WP"
 intro t ht
 have st:=same_new ht (.tup [V.int ((ins : Int) + ((us ++ [V.ref r]).length : Nat) - 1),V.int 0,V.int (signG G R)])
 refine q _ _ _ ((s1.chg.trans C2).trans st.chg) (st _ _ hl2) (hds2.same st) (SqT.of ?_)
 rw [upd_same]
 unfold gTp
 rw [show ((ins : Int) + ((us ++ [V.ref r]).length : Nat) - 1) = ((ins + ds.length : Nat) : Int) by rw [List.length_append,dsl,List.length_singleton]; omega]
end

section
variable {P : Program} {w : World} {K : PySem.W.Frag} {mg : Str -> Option Value} {base : Heap}
theorem ok_addCE (T : Txt K mg) : Cal P w K mg base 3 "add_core" ["deeds","parts","way"] (spAddCE K):=by
 have B:=T.bl
 have C_core:=(ok_core (P:=P) (w:=w) (base:=base) T).mono (k:=2) (by decide)
 have C_moved:=(ok_movE (P:=P) (w:=w) (base:=base) T).mono (k:=2) (by decide)
 have C_add_sum:=ok_addE (P:=P) (w:=w) (base:=base) T
 refine mkCal T.t_add_core sc_add_core (fun vs H Q E h => ?_) (fun f cdv A outer s H vs Q E hr h => ?_)
 ·obtain ⟨_,_,_,_,_,_,_,_,_,_,_,_,_,rfl,_⟩:=h
  rfl
 obtain ⟨l,d,t,us,ds,kvs,ks,cs,a,r,g,odd,sh,rfl,hl,hds,hz,hd,dv,ht,ha,hrk,h8,hg,hco,o1,oc,kb,R,q⟩:=h
 refine ⟨_,(pss_cons (ps_set (i:=3) sc_add_core.nd rfl (by walk_at "o") (pe_cal C_moved hr rfl (pa_cons (pe_dgM (hu_of hr) (pv 1) (pe_ix ix_U (pv 2) pe_int (fun _ _ => rfl)) (fun _ _ => rfl)) (pa_cons (pe_ix ix_U (pv 2) pe_int (fun _ _ => rfl)) (pa_cons pe_int pa_nil)))))
  (pss_cons (ps_set (i:=4) sc_add_core.nd rfl (by walk_at "o") (pe_cal C_moved hr rfl (pa_cons (pe_dgM (hu_of hr) (pv 1) (pe_ix ix_U (pv 2) pe_int (fun _ _ => rfl)) (fun _ _ => rfl)) (pa_cons pe_int (pa_cons (pe_ix ix_U (pv 2) pe_int (fun _ _ => rfl)) pa_nil)))))
  (pss_cons (ps_set (i:=5) sc_add_core.nd rfl (by walk_at "o") (pe_cal C_core hr rfl (pa_cons (pe_op op_add (pe_op op_shlB (pe_ix ix_U (pv 2) pe_int (fun _ _ => rfl)) (pe_ix ix_U (pv 2) pe_int (fun _ _ => rfl))) (pe_op op_mulB (pe_ix ix_U (pv 2) pe_int (fun _ _ => rfl)) (pe_ix ix_U (pv 2) pe_int (fun _ _ => rfl)))) pa_nil)))
  (pss_one (ps_ret (pe_cal C_moved hr rfl (pa_cons (pe_cal C_add_sum hr rfl (pa_cons pe_int (pa_cons (pv 0) (pa_cons (pv 3) (pa_cons (pv 4) pa_nil))))) (pa_cons (pe_un un_neg (pe_ix ix_U (pv 5) pe_int (fun _ _ => rfl))) (pa_cons (pe_ix ix_U (pv 5) pe_int (fun _ _ => rfl)) pa_nil))))))))),?_⟩
 rw [show start ["deeds","parts","way","one","other","found"] [.ref l,.ref d,.ref t] = [some (.ref l),some (.ref d),some (.ref t),none,none,none] from rfl]
 obtain ⟨va,hva,ra,p,rfl,hra,hp⟩:=(dv.val a).2 a (lk_ksI ha)
 obtain ⟨vr,hvr,rr,q',rfl,hrr,hq⟩:=(dv.val r).2 r (lk_ksI hrk)
 obtain ⟨a0,a9⟩:=kb a ha
 obtain ⟨r0,r9⟩:=kb r hrk
 obtain ⟨nz,ag,R',PE⟩:=add_core R hp hq hg h8 a0 a9 r0 r9 hco o1 oc
 refine seq_in fun R_ hR_ => ?_
 (iterate 5 ((try (walk_at "WP")); (try (simp only [ht,Option.some.injEq,HO.tup.injEq,HO.lst.injEq,HO.dK.injEq,exists_eq_left',exists_eq_left])))); (try (walk_at "WP"))
 refine ⟨kvs,hd,_,hva,?_⟩
 refine ⟨ra,p,sh,1,rfl,hra,.inr (.inl rfl),fun o H1 s1 ho => ?_⟩
 have ht1:=s1 _ _ ht
 (try (walk_at "WP")); (try (refine seq_out hR_ ?_)); (try (refine seq_in fun R_ hR_ => ?_)); (iterate 5 ((try (walk_at "WP")); (try (simp only [ht1,Option.some.injEq,HO.tup.injEq,HO.lst.injEq,HO.dK.injEq,exists_eq_left',exists_eq_left])))); (try (walk_at "WP"))
 (try (walk_at "WP")); (try (refine seq_out hR_ ?_)); (try (refine seq_in fun R_ hR_ => ?_)); (iterate 5 ((try (walk_at "WP")); (try (simp only [ht1,Option.some.injEq,HO.tup.injEq,HO.lst.injEq,HO.dK.injEq,exists_eq_left',exists_eq_left])))); (try (walk_at "WP"))
 refine ⟨kvs,s1 _ _ hd,_,hvr,?_⟩
 (iterate 5 ((try (walk_at "WP")); (try (simp only [ht1,Option.some.injEq,HO.tup.injEq,HO.lst.injEq,HO.dK.injEq,exists_eq_left',exists_eq_left])))); (try (walk_at "WP"))
 refine ⟨rr,q',0,g,rfl,s1.seqT hrr,.inr hg,fun u H2 s2 hu => ?_⟩
 have ht2:=s2 _ _ ht1
 have ho2:=s2.seqT ho
 (try (walk_at "WP")); (try (refine seq_out hR_ ?_)); (try (refine seq_in fun R_ hR_ => ?_)); (iterate 5 ((try (walk_at "WP")); (try (simp only [ht2,Option.some.injEq,HO.tup.injEq,HO.lst.injEq,HO.dK.injEq,exists_eq_left',exists_eq_left])))); (try (walk_at "WP"))
 (try (walk_at "WP")); (try (refine seq_out hR_ ?_)); (try (refine seq_in fun R_ hR_ => ?_)); (iterate 5 ((try (walk_at "WP")); (try (simp only [ht2,Option.some.injEq,HO.tup.injEq,HO.lst.injEq,HO.dK.injEq,exists_eq_left',exists_eq_left])))); (try (walk_at "WP"))
 have az2 : a.natAbs < 2 ^ 10:=by rw [show (2 : Nat) ^ 10 = 1024 from by decide]; omega
 refine ⟨shl_ok (by omega) (by omega) az2 (by decide),mul_l (by omega) (by omega),_,rfl,fun pp np => ?_⟩
 rw [Int.toNat_natCast]
 refine abs_ np fun H3 s3 h3 => ?_
 obtain ⟨_,_,_,_,_,sg,_⟩:=core_props nz
 have s03:=(s1.trans s2).trans s3
 have hl3:=s03 _ _ hl
 (try (walk_at "WP")); (try (refine seq_out hR_ ?_)); (try (refine seq_in fun R_ hR_ => ?_)); (try (walk_at "WP"))
 refine ⟨1,l,o,u,us,ds,_,_,rfl,hl3,hds.same s03,s3.seqT ho2,s3.seqT hu,by omega,fun r3 us' H4 C4 hl4 hds4 hr4 => ?_⟩
 rw [ag] at hds4
 have h4:=C4 _ _ (ne_of h3 hl3 (by intro z; cases z)) h3
 (iterate 5 ((try (walk_at "WP")); (try (simp only [h4,Option.some.injEq,HO.tup.injEq,HO.lst.injEq,HO.dK.injEq,exists_eq_left',exists_eq_left])))); (try (walk_at "WP"))
 refine ⟨r3,_,_,_,rfl,hr4,.inr sg,fun r5 H5 s5 h5 => ?_⟩
 exact q _ us' _ H5 ((s03.chg.trans C4).trans s5.chg) (s5 _ _ hl4) (hds4.same s5) R' ⟨r5,_,rfl,h5,by first | exact PE | (rw [show (0 - shN (a * 2 ^ sh + g * r)) = -(shN (a * 2 ^ sh + g * r)) by omega]; exact PE)⟩
theorem ok_outE (T : Txt K mg) : Cal P w K mg base 2 "out_for" ["number","parts"] (spOutE K):=by
 have B:=T.bl
 obtain ⟨cst_NO_OUT,mg_NO_OUT,hcst⟩:=T.c_NO_OUT
 have C_core:=ok_core (P:=P) (w:=w) (base:=base) T
 have C_moved:=ok_movE (P:=P) (w:=w) (base:=base) T
 refine mkCal T.t_out_for sc_out_for (fun vs H Q E h => ?_) (fun f cdv A outer s H vs Q E hr h => ?_)
 ·obtain ⟨_,_,_,_,_,rfl,_⟩:=h
  rfl
 obtain ⟨x,d,kvs,ks,ds,rfl,hd,dv,hx,xb,q⟩:=h
 refine ⟨_,(pss_cons (ps_if (pt_cmpR op_eq (pv 0) pe_int (nomark _)) (pss_one (ps_ret (pe_glob (v:=.ref cst_NO_OUT) rfl mg_NO_OUT rfl))) pss_nil)
  (pss_cons (ps_set (i:=2) sc_out_for.nd rfl (by walk_at "o") (pe_cal C_core hr rfl (pa_cons (pv 0) pa_nil)))
  (pss_one (ps_ret (pe_cal C_moved hr rfl (pa_cons (pe_dgM (hu_of hr) (pv 1) (pe_ix ix_U (pv 2) pe_int (fun _ _ => rfl)) (fun _ _ => rfl)) (pa_cons (pe_ix ix_U (pv 2) pe_int (fun _ _ => rfl)) (pa_cons (pe_ix ix_U (pv 2) pe_int (fun _ _ => rfl)) pa_nil)))))))),?_⟩
 rw [show start ["number","parts","found"] [.int x,.ref d] = [some (.int x),some (.ref d),none] from rfl]
 try walk_at "WP"
 refine ite2 (fun z => ?_) (fun z => ?_)
 ·refine q _ ⟨0,0,0⟩ _ (Same.refl _) (hcst.sq H) ⟨by show 0 < _; omega,.inl rfl,fun y => absurd (show (0 : Int) < 0 from y) (by decide)⟩ ?_ (fun _ => rfl) (fun y => absurd z y) (by decide) (by decide)
  rw [z]
  unfold outV
  show 0 * _ = 0
  rw [Int.zero_mul]
 ·refine ⟨x,rfl,fun p hp => ?_⟩
  refine abs_ hp fun H2 s2 h2 => ?_
  obtain ⟨c1,c2,k,c3,c4,c5,c6,c7,_⟩:=core_props z
  obtain ⟨v,hv,r,p',rfl,hr,hp'⟩:=(dv.val (coreN x)).2 _ (lk_ksI (hx.resolve_left z))
  have k300 : k < 300:=(Nat.pow_lt_pow_iff_right (by decide : 1 < 2)).mp (Nat.lt_of_le_of_lt c7 xb)
  (iterate 5 ((try (walk_at "WP")); (try (simp only [h2,Option.some.injEq,HO.tup.injEq,HO.lst.injEq,HO.dK.injEq,exists_eq_left',exists_eq_left])))); (try (walk_at "WP"))
  refine ⟨_,s2 _ _ hd,_,hv,r,p',shN x,sgN x,rfl,s2.seqT hr,.inr c5,fun r3 H3 s3 h3 => ?_⟩
  obtain ⟨m1,m2⟩:=mov_val hp'.ok (by omega) c5 (s:=shN x) (g:=sgN x) (fun y => by omega)
  rw [hp'.val,c3,mvI_up (by omega),Int.toNat_natCast] at m2
  have shape : movG p' (shN x) (sgN x) = ⟨p'.th,p'.sh + shN x,p'.sg * sgN x⟩:=by
   unfold movG
   rw [if_neg (by rcases hp'.sg with y | y <;> rcases c5 with u | u <;> rw [y,u] <;> decide)]
  have lo:=hp'.lo
  have hi:=hp'.hi
  refine q _ _ _ (s2.trans s3) h3 m1 (by rw [c3,m2,Int.mul_comm]; exact c4) (fun y => absurd y z) (fun _ => by rw [shape]; show p'.sg * sgN x ≠ 0; rcases hp'.sg with y | y <;> rcases c5 with u | u <;> rw [y,u] <;> decide) (by rw [shape]; show -40 <= p'.sh + shN x; omega) (by rw [shape]; show p'.sh + shN x <= 400; omega)
theorem ok_rowE (T : Txt K mg) : Cal P w K mg base 4 "row_of" ["cores","numbers","top"] (spRowE K):=by
 have B:=T.bl
 have C_out_for:=(ok_outE (P:=P) (w:=w) (base:=base) T).mono (k:=3) (by decide)
 have C_way_to:=(ok_way (P:=P) (w:=w) (base:=base) T).mono (k:=3) (by decide)
 have C_add_core:=ok_addCE (P:=P) (w:=w) (base:=base) T
 refine mkCal T.t_row_of sc_row_of (fun vs H Q E h => ?_) (fun f cdv A outer s H vs Q E hr h => ?_)
 ·obtain ⟨_,_,_,_,_,rfl,_⟩:=h
  rfl
 obtain ⟨c,l,cs,xs,top,rfl,hc,hl,hxl,xb,nd,hcl,⟨mm,own,RO,he⟩,t1,t2,hx,q⟩:=h
 refine ⟨_,(pss_cons (ps_set (i:=3) sc_row_of.nd rfl (by walk_at "o") (pe_lst pa_nil))
  (pss_cons (ps_set (i:=4) sc_row_of.nd rfl (by walk_at "o") (pe_disp (pps_cons pe_int (pe_tup (pa_cons pe_int (pa_cons pe_int (pa_cons pe_int pa_nil)))) pps_nil) rfl rfl (by simp) (by decide)))
  (pss_cons (ps_whl PassesOwn.never (pt_cmpR op_lt (pe_callB call_lenD rfl B.len bo_len (pa_cons (pv 4) pa_nil)) (pe_callB call_lenU rfl B.len bo_len (pa_cons (pv 0) pa_nil)) (nomark _)) (pss_one (ps_for PassesOwn.never rfl (pi_tup (pv 0)) (pg_name (i:=5) sc_row_of.nd rfl (by walk_at "o")) (pss_cons (ps_set (i:=6) sc_row_of.nd rfl (by walk_at "o") (pe_ifExp (pt_cmpR (op_dI (hu_of hr)) (pv 5) (pv 4) (by with_unfolding_all rfl)) pe_non (pe_cal C_way_to hr rfl (pa_cons (pv 5) (pa_cons (pv 4) (pa_cons (pv 2) pa_nil))))))
  (pss_one (ps_if (pt_cmp (pc_notN (pv 6))) (pss_one (ps_dpM (hu_of hr) (pv 4) (pv 5) (pe_cal C_add_core hr rfl (pa_cons (pv 3) (pa_cons (pv 4) (pa_cons (pv 6) pa_nil)))) rfl)) pss_nil))))))
  (pss_one (ps_ret (pe_tup (pa_cons pe_int (pa_cons (pv 3) (pa_cons (pe_comp0 (N:=["number","parts"]) (nt:=1) (cs:=[4]) rfl (pi_list (pv 1)) (fun nd C s H fp => ⟨(pg_name (i:=0) nd rfl (by walk_at "o")),pn_nil,(pe_cal C_out_for hr rfl (pa_cons (pv 0) (pa_cons (pv 1) pa_nil)))⟩) (by decide +kernel) (by first | rfl | decide +kernel) (by first | rfl | decide +kernel) rfl (fun _ => rfl)) pa_nil))))))))),?_⟩
 rw [show start ["cores","numbers","top","deeds","parts","odd","way"] [.ref c,.ref l,.int top] = [some (.ref c),some (.ref l),some (.int top),none,none,none,none] from rfl]
 obtain ⟨OD,_,_⟩:=RO.ok t1
 refine seq_in fun R_ hR_ => ?_
 try walk_at "WP"
 intro dl ndl
 refine abs_ ndl fun H1 s1 h1 => ?_
 (try (walk_at "WP")); (try (refine seq_out hR_ ?_)); (try (refine seq_in fun R_ hR_ => ?_)); (try (walk_at "WP"))
 intro d nd0 t nt
 have nd1 : H d = none:=s1.free nd0
 have td : t ≠ d:=(ne_of_none (show upd H1 d (.dK []) d = some (.dK []) from upd_same) nt).symm
 refine ⟨by rw [upd_ne td.symm]; exact upd_same,[(.inl 1,.ref t)],rfl,by show 1 <= 15; decide,?_⟩
 have s2 : Same H (upd (upd (upd H1 d (.dK [])) t (.tup [V.int 0,V.int 0,V.int 1])) d (.dK (mergeK [] [((.inl 1 : Key),V.ref t)]))):=same_upd nd1 (s1.trans ((same_new nd0 _).trans (same_new nt _)))
 have hd2 : (upd (upd (upd H1 d (.dK [])) t (.tup [V.int 0,V.int 0,V.int 1])) d (.dK (mergeK [] [((.inl 1 : Key),V.ref t)]))) d = some (.dK [(.inl 1,.ref t)]):=upd_same
 have ht2 : (upd (upd (upd H1 d (.dK [])) t (.tup [V.int 0,V.int 0,V.int 1])) d (.dK (mergeK [] [((.inl 1 : Key),V.ref t)]))) t = some (.tup [V.int 0,V.int 0,V.int 1]):=by rw [upd_ne td]; exact upd_same
 have hl2 : (upd (upd (upd H1 d (.dK [])) t (.tup [V.int 0,V.int 0,V.int 1])) d (.dK (mergeK [] [((.inl 1 : Key),V.ref t)]))) dl = some (.lst []):=by
  rw [upd_ne (ne_of_none h1 nd0),upd_ne (ne_of_none (show upd H1 d (.dK []) dl = some (.lst []) by rw [upd_ne (ne_of_none h1 nd0)]; exact h1) nt),upd_ne (ne_of_none h1 nd0)]
  exact h1
 have ddl : d ≠ dl:=(ne_of_none h1 nd0).symm
 generalize (upd (upd (upd H1 d (.dK [])) t (.tup [V.int 0,V.int 0,V.int 1])) d (.dK (mergeK [] [((.inl 1 : Key),V.ref t)]))) = H2 at s2 hd2 ht2 hl2 ⊢
 have dv2 : DV (tE K [] H2) [(.inl 1,.ref t)] (ksI [1]):=.cons ⟨t,⟨0,0,1⟩,rfl,SqT.of ht2,⟨by decide,.inr (.inl rfl),fun z => absurd (show (0 : Int) < 0 from z) (by decide)⟩,.inl rfl,by decide,by decide,by decide⟩ .nil
 have h1cs : (1 : Int) ∈ cs:=(he 1).mpr (rch_has1 RO)
 have cpos : 1 <= cs.length:=List.length_pos_of_mem h1cs
 (try (walk_at "WP")); (try (refine seq_out hR_ ?_)); (try (refine seq_in fun R_ hR_ => ?_)); (try (walk_at "WP"))
 refine whl (fun m σ H' => ∃ (kvs : List (Key × V)) (ks : List Int) (us : List V) (ds : List Wd) (o5 o6 : Option V),σ = [some (.ref c),some (.ref l),some (.int top),some (.ref dl),some (.ref d),o5,o6] /\ Same H H' /\ H' dl = some (.lst us) /\ HTs wTup H' us ds /\ RwE cs ds /\ H' d = some (.dK kvs) /\ DV (tE K ds H') kvs (ksI ks) /\ ks.Nodup /\ (∀ x ∈ ks,x ∈ cs) /\ (1 : Int) ∈ ks /\ us.length + 1 = ks.length /\ ks.length + m = cs.length) (cs.length - 1) ⟨_,[1],[],[],none,none,rfl,s2,hl2,hts_nil,rwE_nil h1cs,hd2,dv2,by simp,fun x hx => by rw [List.mem_singleton.mp hx]; exact h1cs,List.mem_singleton.mpr rfl,rfl,by show 1 + (cs.length - 1) = cs.length; omega⟩ ?_
 clear dv2 hd2 ht2 hl2 s2
 rintro m σ H3 N ⟨kvs,ks,us,ds,o5,o6,rfl,s3,hl3,hds3,R3,hd3,dv3,knd,ksub,k1,ul,hm⟩ hN
 have hc3:=s3 _ _ hc
 have kl : kvs.length = ks.length:=by rw [dv3.len]; unfold ksI; rw [List.length_map]
 (iterate 5 ((try (walk_at "WP")); (try (simp only [hc3,hd3,Option.some.injEq,HO.tup.injEq,HO.lst.injEq,HO.dK.injEq,exists_eq_left',exists_eq_left])))); (try (walk_at "WP"))
 rw [List.length_map,kl]
 refine ite2 (fun z => ?_) (fun z => ?_)
 ·obtain ⟨pre,e,pks,pm,eo,enk⟩:=first_missing (ks:=ks) RO k1 (by
   obtain ⟨x,hx',hn⟩:=len_lt_missing (ks:=ks) (cs:=cs) (by omega) nd
   exact ⟨x,(he x).mp hx',hn⟩)
  have ecs:=(he e).mpr eo
  refine ⟨⟨_,SqT.of hc3⟩,?_⟩
  refine forT (xs:=cs.map V.int) (fun i σ H' => ∃ (kvs : List (Key × V)) (ks' : List Int) (us : List V) (ds : List Wd) (o5 o6 : Option V),σ = [some (.ref c),some (.ref l),some (.int top),some (.ref dl),some (.ref d),o5,o6] /\ Same H H' /\ H' dl = some (.lst us) /\ HTs wTup H' us ds /\ RwE cs ds /\ H' d = some (.dK kvs) /\ DV (tE K ds H') kvs (ksI ks') /\ ks'.Nodup /\ (∀ x ∈ ks',x ∈ cs) /\ (∀ x ∈ ks,x ∈ ks') /\ us.length + 1 = ks'.length /\ (e ∈ cs.take i -> e ∈ ks')) ⟨kvs,ks,us,ds,o5,o6,rfl,s3,hl3,hds3,R3,hd3,dv3,knd,ksub,fun _ h => h,ul,fun h => (nomatch h)⟩ ?_ ?_ ?_
  ·rintro i σ H' _ ⟨_,_,_,_,_,_,rfl,s',_⟩
   exact SqT.of (s' _ _ hc)
  ·rintro i v σ H4 N4 hv ⟨kv4,ks4,us4,ds4,o5,o6,rfl,s4,hl4,hds4,R4,hd4,dv4,knd4,ksub4,kk4,ul4,he4⟩ hN4
   obtain ⟨x,hxi,rfl⟩:=map_at hv
   have xcs:=List.mem_of_getElem? hxi
   have xo:=(he x).mp xcs
   have kl4 : kv4.length = ks4.length:=by rw [dv4.len]; unfold ksI; rw [List.length_map]
   have l4:=sub_len knd4 ksub4
   have tk : e ∈ cs.take (i + 1) -> e ∈ cs.take i \/ e = x:=fun h => by
    rw [List.take_succ,hxi,Option.toList_some] at h
    rcases List.mem_append.mp h with y | y
    ·exact .inl y
    ·exact .inr (List.mem_singleton.mp y)
   refine seq_inG fun R_ hR_ => ?_
   try walk_at "WP"
   refine ⟨kv4,hd4,?_⟩
   cases hlk : lk (ksI ks4) x with
   | some u =>
    obtain ⟨v,hvv,_⟩:=(dv4.val x).2 u hlk
    have xk : x ∈ ks4:=Classical.byContradiction fun y => by rw [lk_ksI_no y] at hlk; cases hlk
    rw [hvv,if_pos (show (some v).isSome = true from rfl)]
    (try (walk_at "WP")); (try (refine seq_out hR_ ?_)); (try (refine seq_in fun R_ hR_ => ?_)); (try (walk_at "WP"))
    exact hN4 _ _ ⟨kv4,ks4,us4,ds4,_,_,rfl,s4,hl4,hds4,R4,hd4,dv4,knd4,ksub4,kk4,ul4,fun h => (tk h).elim he4 fun e' => e' ▸ xk⟩
   | none =>
    have hvv:=(dv4.val x).1 hlk
    have xk : x ∉ ks4:=fun y => by rw [lk_ksI y] at hlk; cases hlk
    rw [hvv,if_neg (by decide)]
    have O4 : OdIn ks4 top:=⟨fun y hy => OD.odd y ((he y).mp (ksub4 y hy)),fun y hy => OD.lo y ((he y).mp (ksub4 y hy)),fun y hy => OD.hi y ((he y).mp (ksub4 y hy))⟩
    refine ⟨x,top,d,kv4,ks4,rfl,hd4,by rw [dv4.keys,ksI_keys],O4,t1,t2,OD.lo x xo,OD.hi x xo,fun H5 s5 nm => ?_,fun wt wl wr wg ws H5 s5 hw wlk wrk w8 wg1 wc => ?_⟩
    ·(try (walk_at "WP")); (try (refine seq_out hR_ ?_)); (try (refine seq_in fun R_ hR_ => ?_)); (try (walk_at "WP"))
     exact hN4 _ _ ⟨kv4,ks4,us4,ds4,_,_,rfl,s4.trans s5,s5 _ _ hl4,hds4.same s5,R4,s5 _ _ hd4,dv4.imp fun _ _ y => y.same s5,knd4,ksub4,kk4,ul4,fun h => (tk h).elim he4 fun e' => absurd (made_mono (fun y hy => kk4 y (pks y hy)) pm) (e' ▸ nm)⟩
    ·(try (walk_at "WP")); (try (refine seq_out hR_ ?_)); (try (refine seq_in fun R_ hR_ => ?_)); (try (walk_at "WP"))
     have hl5:=s5 _ _ hl4
     have hd5:=s5 _ _ hd4
     have wl1:=O4.lo wl wlk
     have wl2:=O4.hi wl wlk
     have wr1:=O4.lo wr wrk
     have wr2:=O4.hi wr wrk
     have xlo:=OD.lo x xo
     have hds5:=hds4.same s5
     have dl4:=hds4.len
     refine ⟨dl,d,wt,us4,ds4,kv4,ks4,cs,wl,wr,wg,x,ws,rfl,hl5,hds5,by omega,hd5,dv4.imp fun _ _ y => y.same s5,hw,wlk,wrk,w8,wg1,wc,xlo,xcs,fun k hk => ⟨O4.lo k hk,by have:=O4.hi k hk; omega⟩,R4,fun v us' dd H6 C6 hl6 hds6 R6 tv => ?_⟩
     try walk_at "WP"
     have hd6:=C6 _ _ ddl hd5
     refine ⟨kv4,hd6,by rw [kl4]; exact lt_big (by omega),?_⟩
     have dv6:=(dv4.imp fun _ _ y => y.same s5).imp fun _ _ y => (y.chg hl5 (by intro ys z; cases z) (by intro a ys z; cases z) C6).more dd
     have dn:=dv6.put (c:=x) tv
     rw [putL_new hlk] at dn
     have ek : ksI ks4 ++ [(x,x)] = ksI (ks4 ++ [x]):=by unfold ksI; rw [List.map_append]; rfl
     rw [ek] at dn
     have C7 : ∀ o,Chg d H6 (upd H6 d o):=fun o => Chg.upd _
     have ul6:=hds6.len
     rw [List.length_append] at ul6
     refine hN4 _ _ ⟨_,ks4 ++ [x],us',ds4 ++ [dd],_,_,rfl,same_chg nd1 (same_chg ndl (s4.trans s5) C6) (C7 _),C7 _ _ _ ddl.symm hl6,hds6.chgK hd6 (C7 _),R6,upd_same,dn.imp fun _ _ y => y.chg hd6 (by intro ys z; cases z) (by intro a ys z; cases z) (C7 _),?_,fun y hy => ?_,fun y hy => List.mem_append_left _ (kk4 y hy),?_,fun h => ?_⟩
     ·rw [List.nodup_append]
      exact ⟨knd4,by simp,fun a ha b hb e' => xk (by rw [← List.mem_singleton.mp hb,← e']; exact ha)⟩
     ·rcases List.mem_append.mp hy with q' | q'
      ·exact ksub4 y q'
      ·rw [List.mem_singleton.mp q']; exact xcs
     ·rw [List.length_append,List.length_singleton]
      have : [dd].length = 1:=rfl
      omega
     ·rcases tk h with q' | q'
      ·exact List.mem_append_left _ (he4 q')
      ·exact List.mem_append_right _ (List.mem_singleton.mpr q')
  ·rintro σ H4 ⟨kv4,ks4,us4,ds4,o5,o6,rfl,s4,hl4,hds4,R4,hd4,dv4,knd4,ksub4,kk4,ul4,he4⟩
   rw [List.length_map,List.take_length] at he4
   have lt:=sub_lt knd kk4 (he4 ecs) enk
   have le:=sub_len knd4 ksub4
   exact hN (cs.length - ks4.length) _ _ (by omega) ⟨kv4,ks4,us4,ds4,_,_,rfl,s4,hl4,hds4,R4,hd4,dv4,knd4,ksub4,kk4 _ k1,ul4,by omega⟩
 ·have le:=sub_len knd ksub
  have all : ∀ x ∈ cs,x ∈ ks:=fun x hx' => Classical.byContradiction fun y => by
   have:=sub_lt knd ksub hx' y
   omega
  (try (walk_at "WP")); (try (refine seq_out hR_ ?_)); (try (refine seq_in fun R_ hR_ => ?_)); (try (walk_at "WP"))
  have hl3':=s3 _ _ hl
  refine ⟨⟨_,SqL.of hl3'⟩,?_⟩
  have dl3:=hds3.len
  refine comp_intK (fun n p => PtOkV (1 + ds.length) (valsW [1] ds) p /\ outV (valsW [1] ds) p = n /\ (n = 0 -> p = ⟨0,0,0⟩) /\ (n ≠ 0 -> p.sg ≠ 0) /\ -40 <= p.sh /\ p.sh <= 400) hl3' (by omega) (fun i x H' R hxi s' hR => ?_) (fun acc ws gs H' na s' h' hk' lg rel => ?_)
  ·have hxm:=List.mem_of_getElem? hxi
   rw [show capV [4] [some (V.ref c),some (V.ref l),some (V.int top),some (V.ref dl),some (V.ref d),o5,o6] = [some (V.ref d)] from rfl]
   try walk_at "WP"
   exact ⟨x,d,kvs,ks,ds,rfl,s' _ _ hd3,dv3.imp fun _ _ y => y.same s',(hx x hxm).imp id fun y => all _ y,xb x hxm,fun r p H5 s5 h5 p1 p2 p3 p4 p5 p6 => hR r p H5 s5 h5 ⟨p1,p2,p3,p4,p5,p6⟩⟩
  ·intro p np
   have s5:=same_new np (.tup [V.int 1,V.ref dl,V.ref acc])
   exact q p dl acc us ws ds gs _ ((s3.trans s').trans s5) upd_same (s5 _ _ (s' _ _ hl3)) ((hds3.same s').same s5) (s5 _ _ h') (hk'.same s5) (by omega) R3 lg rel
end

section
variable {P : Program} {w : World} {K : PySem.W.Frag} {mg : Str -> Option Value} {base : Heap}
theorem ok_levX (T : Txt K mg) : Cal P w K mg base 5 "level_behind" ["levels","top"] spLevX:=by
 have B:=T.bl
 have C_grown:=ok_grown (P:=P) (w:=w) (base:=base) T
 refine mkCal T.t_level_behind sc_level_behind (fun vs H Q E h => ?_) (fun f cdv A outer s H vs Q E hr h => ?_)
 ·obtain ⟨_,_,_,_,rfl,_⟩:=h
  rfl
 obtain ⟨l,lvs,top,L,rfl,hl,t1,t2,hz,hlast,q⟩:=h
 refine ⟨_,(pss_cons (ps_if (pt_cmpR (op_eqE hr) (pv 0) (pe_lst pa_nil) (nomark _)) (pss_one (ps_ret (pe_lst (pa_cons (pe_tup (pa_cons pe_int pa_nil)) pa_nil)))) pss_nil)
  (pss_cons (ps_set (i:=2) sc_level_behind.nd rfl (by walk_at "o") pe_dnewT)
  (pss_cons (ps_for PassesOwn.never rfl (pi_list (pe_ix ix_M (pv 0) (pe_un un_neg pe_int) (fun _ _ => rfl))) (pg_name (i:=3) sc_level_behind.nd rfl (by walk_at "o")) (pss_one (ps_for PassesOwn.never rfl (pi_list (pe_cal C_grown hr rfl (pa_cons (pv 3) (pa_cons (pv 1) pa_nil)))) (pg_name (i:=4) sc_level_behind.nd rfl (by walk_at "o")) (pss_one (ps_dpT (hu_of hr) (pv 2) (pv 4) pe_bl rfl)))))
  (pss_one (ps_ret (pe_callTy (call_list_tks hr) rfl B.list bo_list (pa_cons (pv 2) pa_nil))))))),?_⟩
 rw [show start ["levels","top","found","cores","longer"] [.ref l,.int top] = [some (.ref l),some (.int top),none,none,none] from rfl]
 refine seq_in fun R_ hR_ => ?_
 try walk_at "WP"
 intro e ne
 refine abs_ ne fun H1 s1 h1 => ?_
 refine ⟨lvs,SqL.of (s1 _ _ hl),SqL.of h1,?_⟩
 try walk_at "WP"
 refine ite2 (fun z => ?_) (fun z => ?_)
 ·have lz : lvs = []:=List.eq_nil_of_length_eq_zero z
  subst lz
  intro t nt
  refine abs_ nt fun H2 s2 h2 => ?_
  intro r nr
  refine abs_ nr fun H3 s3 h3 => ?_
  have k1 : HTs iT H3 ([] ++ [V.ref t]) ([] ++ [[1]]):=hts_nil.snoc (s3 _ _ h2)
  exact q r [.ref t] [[1]] H3 ((s1.trans s2).free nr) ((s1.trans s2).trans s3) h3 k1 (levP_one t1) (by decide) (fun _ => rfl) (fun z => absurd rfl z)
 ·have ln : lvs ≠ []:=fun e => z (by rw [e]; rfl)
  obtain ⟨r,us,hg,hr,hL,P1,hc⟩:=hlast ln
  (try (walk_at "WP")); (try (refine seq_out hR_ ?_)); (try (refine seq_in fun R_ hR_ => ?_)); (try (walk_at "WP"))
  intro d nd
  refine abs_ nd fun H2 s2 h2 => ?_
  have s12:=s1.trans s2
  have nd0 : H d = none:=s1.free nd
  (try (walk_at "WP")); (try (refine seq_out hR_ ?_)); (try (refine seq_in fun R_ hR_ => ?_)); (try (walk_at "WP"))
  have hr2:=s12 _ _ hr
  have hL2:=hL.same s12
  have rd : r ≠ d:=ne_of hr2 h2 (by intro y; cases y)
  have ul:=hL.len
  have l3 : 99 ^ (lvs.length - 1) <= 99 ^ 2:=Nat.pow_le_pow_right (by decide) (by omega)
  refine ⟨lvs,s12 _ _ hl,.ref r,atI_gl hg,r,rfl,⟨_,SqL.of hr2⟩,?_⟩
  refine forL (xs:=us) (fun i σ H' => ∃ (o3 o4 : Option V) (kvs : List (List Key × V)) (Ss : List (List Int)),σ = [some (.ref l),some (.int top),some (.ref d),o3,o4] /\ Same H H' /\ H' d = some (.dT kvs) /\ KsT kvs Ss /\ (∀ S,S ∈ Ss ↔ ∃ S0 ∈ L.take i,S ∈ growL S0 top) /\ Ss.length <= 99 * i) ⟨none,none,[],[],rfl,s12,h2,rfl,fun S => ⟨fun z => (nomatch z),fun ⟨S0,z,_⟩ => (nomatch z)⟩,Nat.zero_le _⟩ ?_ ?_ ?_
  ·rintro i σ H' _ ⟨_,_,_,_,rfl,s',_⟩
   exact SqL.of (s' _ _ hr)
  ·rintro i v σ H3 N hv ⟨o3,o4,kvs,Ss,rfl,s3,h3,ks,hS,hc3⟩ hN
   have hi : i < L.length:=by rw [← ul]; exact (List.getElem?_eq_some_iff.mp hv).1
   obtain ⟨y,hy1,hy2⟩:=hL.at_ i _ (List.getElem?_eq_getElem hi)
   have hSi : L[i]? = some L[i]:=List.getElem?_eq_getElem hi
   generalize L[i] = S0 at hy2 hSi
   rw [hv] at hy1
   cases hy1
   have hm:=List.mem_of_getElem? hSi
   try walk_at "WP"
   refine ⟨y,S0,top,rfl,s3 _ _ hy2,P1.od S0 hm,t1,t2,by have:=P1.len S0 hm; omega,fun g gs H4 ng s4 hg4 hgs => ?_⟩
   have gl:=grow_len (cs:=S0) t2
   have gul:=hgs.len
   have h4:=s4 _ _ h3
   have gd : g ≠ d:=ne_of hg4 h4 (by intro y; cases y)
   try walk_at "WP"
   refine ⟨⟨_,SqL.of hg4⟩,?_⟩
   refine forL (xs:=gs) (fun j σ H' => ∃ (o4 : Option V) (kvs : List (List Key × V)) (Ss : List (List Int)),σ = [some (.ref l),some (.int top),some (.ref d),some (.ref y),o4] /\ Chg d H4 H' /\ H' d = some (.dT kvs) /\ KsT kvs Ss /\ (∀ S,S ∈ Ss ↔ (∃ S0 ∈ L.take i,S ∈ growL S0 top) \/ S ∈ (growL S0 top).take j) /\ Ss.length <= 99 * i + j) ⟨o4,kvs,Ss,rfl,Chg.refl,h4,ks,fun S => by rw [hS]; exact ⟨.inl,fun z => z.elim id fun z => (nomatch z)⟩,hc3⟩ ?_ ?_ ?_
   ·rintro j σ H' _ ⟨_,_,_,rfl,C,_⟩
    exact SqL.of (C _ _ gd hg4)
   ·rintro j v σ H5 N2 hv2 ⟨o4,kvs,Ss,rfl,C5,h5,ks,hS,hc5⟩ hN2
    have hj : j < (growL S0 top).length:=by rw [← gul]; exact (List.getElem?_eq_some_iff.mp hv2).1
    obtain ⟨y2,hy3,hy4⟩:=hgs.at_ j _ (List.getElem?_eq_getElem hj)
    have hSj : (growL S0 top)[j]? = some (growL S0 top)[j]:=List.getElem?_eq_getElem hj
    generalize (growL S0 top)[j] = S1 at hy4 hSj
    rw [hv2] at hy3
    cases hy3
    have yd : y2 ≠ d:=ne_of hy4 h4 (by intro y; cases y)
    try walk_at "WP"
    refine ⟨S1,kvs,h5,C5 _ _ yd hy4,by rw [ks.len]; exact Nat.lt_of_le_of_lt (m:=1000000) (by omega) (by decide),?_⟩
    refine hN2 _ _ ⟨_,_,_,rfl,C5.trans (Chg.upd _),upd_same,ks.put S1 _,fun S => ?_,?_⟩
    ·rw [List.take_succ,hSj,Option.toList_some,List.mem_append,List.mem_singleton,← or_assoc,← hS]
     split
     ·rename_i z
      exact ⟨.inl,fun y => y.elim id fun e => e ▸ z⟩
     ·rw [List.mem_append,List.mem_singleton]
    ·split
     ·omega
     ·rw [List.length_append,List.length_singleton]; omega
   ·rintro σ H5 ⟨o4,kvs,Ss,rfl,C5,h5,ks,hS,hc5⟩
    refine hN _ _ ⟨_,_,kvs,Ss,rfl,same_chg nd0 (s3.trans s4) C5,h5,ks,fun S => ?_,by omega⟩
    rw [hS,gul,List.take_length,List.take_succ,hSi,Option.toList_some]
    constructor
    ·rintro (⟨S',h1,h2⟩ | z)
     ·exact ⟨S',List.mem_append_left _ h1,h2⟩
     ·exact ⟨S0,List.mem_append_right _ (List.mem_singleton.mpr rfl),z⟩
    ·rintro ⟨S',h1,h2⟩
     rcases List.mem_append.mp h1 with y | y
     ·exact .inl ⟨S',y,h2⟩
     ·rw [List.mem_singleton.mp y] at h2
      exact .inr h2
  ·rintro σ H3 ⟨o3,o4,kvs,Ss,rfl,s3,h3,ks,hS,hc3⟩
   rw [ul,List.take_length] at hS
   rw [ul] at hc3
   (try (walk_at "WP")); (try (refine seq_out hR_ ?_)); (try (refine seq_in fun R_ hR_ => ?_)); (try (walk_at "WP"))
   refine ⟨d,kvs,rfl,h3,fun a ws na tk => ?_⟩
   rw [ks] at tk
   have ht:=tks_hts tk
   have s4:=same_new na (.lst ws)
   have hn : lvs.length = lvs.length - 1 + 1:=by have:=List.length_pos_iff.mpr ln; omega
   refine q a ws Ss _ (s3.free na) (s3.trans s4) upd_same (ht.same s4) (levP_next P1 (List.length_pos_iff.mpr ln) hS) ?_ (fun z => absurd z ln) (fun _ => hS)
   rw [hn,Nat.pow_succ]
   have:=Nat.mul_le_mul_right 99 hc
   omega
end

section
variable {P : Program} {w : World} {K : PySem.W.Frag} {mg : Str -> Option Value} {base : Heap}
theorem ok_fin (T : Txt K mg) : Cal P w K mg base 4 "finishes" ["cores","asked","top"] spFin:=by
 have B:=T.bl
 have C_made:=ok_madeT (P:=P) (w:=w) (base:=base) T
 refine mkCal T.t_finishes sc_finishes (fun vs H Q E h => ?_) (fun f cdv A outer s H vs Q E hr h => ?_)
 ·obtain ⟨_,_,_,_,_,rfl,_⟩:=h
  rfl
 obtain ⟨c,l,cs,as,top,rfl,hc,hl,al,O,t1,t2,cl,q⟩:=h
 refine ⟨_,(pss_cons (ps_setComp0 (ix:=3) (N:=["odd","cores"]) (nt:=1) (cs:=[0]) rfl (pi_list (pv 1)) (fun nd C s H fp => ⟨(pg_name (i:=0) nd rfl (by walk_at "o")),(pn_one (pt_cmpR (op_notInK K) (pv 0) (pv 1) (by with_unfolding_all rfl))),(pv 0)⟩) (by decide +kernel) (by first | rfl | decide +kernel) (by first | rfl | decide +kernel) rfl (fun _ => rfl) sc_finishes.nd rfl (by walk_at "o") (by walk_at "o") rfl)
  (pss_one (ps_ret (pe_or (pe_cmpR op_eq (pe_callB call_lenM rfl B.len bo_len (pa_cons (pv 3) pa_nil)) pe_int (nomark _)) (pe_one (pe_and (pe_cmpR op_eq (pe_callB call_lenM rfl B.len bo_len (pa_cons (pv 3) pa_nil)) pe_int (nomark _)) (pe_one (pe_cmpR op_in_seq (pe_ix ix_M (pv 3) pe_int (fun _ _ => rfl)) (pe_cal C_made hr rfl (pa_cons (pv 0) (pa_cons (pv 2) pa_nil))) (by with_unfolding_all rfl))))))))),?_⟩
 rw [show start ["cores","asked","top","lacking"] [.ref c,.ref l,.int top] = [some (.ref c),some (.ref l),some (.int top),none] from rfl]
 try walk_at "WP"
 refine ⟨⟨_,SqL.of hl⟩,?_⟩
 have ecap : ∀ o,capV [0] [some (V.ref c),some (V.ref l),some (V.int top),o] = [some (V.ref c)]:=fun _ => rfl
 refine comp_L (f:=notV cs) (SqL.of hl) (by rw [List.length_map]; exact le_big (by omega)) (fun x H' R hx hS' hR => ?_) (fun a na => ?_)
 ·obtain ⟨o,ho,rfl⟩:=List.mem_map.mp hx
  rw [ecap]
  try walk_at "WP"
  have hin:=inV_i cs o
  refine ⟨c,_,rfl,.inr (SqT.of (hS' _ _ hc)),rfl,flat_ints cs,?_⟩
  rw [if_pos rfl,hin]
  by_cases z : o ∈ cs
  ·rw [show notV cs (V.int o) = none from if_pos z] at hR
   rw [decide_eq_true z]
   exact ⟨_,rfl,hR⟩
  ·rw [show notV cs (V.int o) = some (V.int o) from if_neg z] at hR
   rw [decide_eq_false z]
   exact ⟨_,rfl,hR⟩
 rw [notV_map,show (as.filter fun o => decide (o ∉ cs)) = lackL cs as from rfl]
 refine abs_ na fun H2 s2 h2 => ?_
 have ll : ((lackL cs as).map V.int).length = (lackL cs as).length:=List.length_map ..
 refine ⟨a,rfl,_,h2,?_⟩
 refine ite2 (fun z => ?_) (fun z => ?_)
 ·exact q true H2 s2 ⟨fun _ => .inl (List.eq_nil_of_length_eq_zero (by rw [ll] at z; omega)),fun _ => rfl⟩
 refine ⟨a,rfl,_,h2,?_⟩
 refine ite2 (fun z2 => ?_) (fun z2 => ?_)
 ·obtain ⟨o,eo⟩ : ∃ o,lackL cs as = [o]:=List.length_eq_one_iff.mp (by rw [ll] at z2; omega)
  rw [eo] at h2
  (iterate 5 ((try (walk_at "WP")); (try (simp only [h2,Option.some.injEq,HO.tup.injEq,HO.lst.injEq,HO.dK.injEq,exists_eq_left',exists_eq_left])))); (try (walk_at "WP"))
  refine ⟨V.int o,rfl,c,cs,top,rfl,SqT.of (s2 _ _ hc),O,t1,t2,cl,fun m H3 n3 s3 h3 => ?_⟩
  refine ⟨m,_,rfl,.inl (SqL.of h3),rfl,flat_ints _,?_⟩
  rw [inV_i]
  refine q _ H3 (s2.trans s3) ?_
  rw [fin_one eo]
  simp
 ·refine q false H2 s2 ⟨fun h => absurd h (by decide),fun h => absurd h (fin_more (by rw [ll] at z z2; omega))⟩
theorem ok_wall (T : Txt K mg) : Cal P w K mg base 4 "with_all" ["cores","asked"] spWAll:=by
 have B:=T.bl
 refine mkCal T.t_with_all sc_with_all (fun vs H Q E h => ?_) (fun f cdv A outer s H vs Q E hr h => ?_)
 ·obtain ⟨_,_,_,_,rfl,_⟩:=h
  rfl
 obtain ⟨c,l,cs,as,rfl,hc,hl,al,cl,cn,q⟩:=h
 refine ⟨_,(pss_one (ps_ret (pe_op op_catT (pv 0) (pe_callTy call_tuple_of rfl B.tuple bo_tuple (pa_cons (pe_comp0 (N:=["odd","cores"]) (nt:=1) (cs:=[0]) rfl (pi_list (pv 1)) (fun nd C s H fp => ⟨(pg_name (i:=0) nd rfl (by walk_at "o")),(pn_one (pt_cmpR (op_notInK K) (pv 0) (pv 1) (by with_unfolding_all rfl))),(pv 0)⟩) (by decide +kernel) (by first | rfl | decide +kernel) (by first | rfl | decide +kernel) rfl (fun _ => rfl)) pa_nil))))),?_⟩
 rw [show start ["cores","asked"] [.ref c,.ref l] = [some (.ref c),some (.ref l)] from rfl]
 try walk_at "WP"
 refine ⟨⟨_,SqL.of hl⟩,?_⟩
 refine comp_L (f:=notV cs) (SqL.of hl) (by rw [List.length_map]; exact le_big (by omega)) (fun x H' R hx hS' hR => ?_) (fun a na => ?_)
 ·obtain ⟨o,ho,rfl⟩:=List.mem_map.mp hx
  rw [show capV [0] [some (V.ref c),some (V.ref l)] = [some (V.ref c)] from rfl]
  try walk_at "WP"
  have hin:=inV_i cs o
  refine ⟨c,_,rfl,.inr (SqT.of (hS' _ _ hc)),rfl,flat_ints cs,?_⟩
  rw [if_pos rfl,hin]
  by_cases z : o ∈ cs
  ·rw [show notV cs (V.int o) = none from if_pos z] at hR
   rw [decide_eq_true z]
   exact ⟨_,rfl,hR⟩
  ·rw [show notV cs (V.int o) = some (V.int o) from if_neg z] at hR
   rw [decide_eq_false z]
   exact ⟨_,rfl,hR⟩
 rw [notV_map,show (as.filter fun o => decide (o ∉ cs)) = lackL cs as from rfl]
 refine abs_ na fun H2 s2 h2 => ?_
 refine ⟨a,rfl,_,.inl ⟨SqL.of h2,fun l2 n2 => ?_⟩⟩
 refine abs_ n2 fun H3 s3 h3 => ?_
 have hc3:=(s2.trans s3) _ _ hc
 have lk : (lackL cs as).length <= as.length:=List.length_filter_le _ _
 refine ⟨c,l2,_,_,rfl,rfl,SqT.of hc3,SqT.of h3,fun e => cn (by simpa using e),le_big (by rw [List.length_map,List.length_map]; omega),fun e => ?_,fun _ p np => ?_⟩
 ·have e2 : lackL cs as = []:=by simpa using e
  exact q c H3 (s2.trans s3) (by rw [e2,List.append_nil]; exact hc3)
 ·exact q p _ ((s2.trans s3).trans (same_new np _)) (by rw [List.map_append]; exact upd_same)
end

section
variable {P : Program} {w : World} {K : PySem.W.Frag} {mg : Str -> Option Value} {base : Heap}
theorem ok_fewE (T : Txt K mg) {cst_TooMany : Addr} (X_refuse_beyond0 : CalX P w K mg base 1 "refuse_beyond" ["top","most"] (spRefB cst_TooMany)) : Cal P w K mg base 6 "fewest" ["numbers","top","most"] (spFewE K):=by
 have B:=T.bl
 have C_refuse_beyond:=X_refuse_beyond0.cal.mono (k:=5) (by decide)
 have C_wanted:=(ok_wanted (P:=P) (w:=w) (base:=base) T).mono (k:=5) (by decide)
 have C_level_behind:=ok_levX (P:=P) (w:=w) (base:=base) T
 have C_row_of:=(ok_rowE (P:=P) (w:=w) (base:=base) T).mono (k:=5) (by decide)
 have C_finishes:=(ok_fin (P:=P) (w:=w) (base:=base) T).mono (k:=5) (by decide)
 have C_with_all:=(ok_wall (P:=P) (w:=w) (base:=base) T).mono (k:=5) (by decide)
 refine mkCal T.t_fewest sc_fewest (fun vs H Q E h => ?_) (fun f cdv A outer s H vs Q E hr h => ?_)
 ·obtain ⟨_,_,_,_,rfl,_⟩:=h
  rfl
 obtain ⟨l,xs,top,most,rfl,hl,xl,xb,t1,t99,m4,nf,qn,qw⟩:=h
 refine ⟨_,(pss_cons (ps_expr (pe_cal C_refuse_beyond hr rfl (pa_cons (pv 1) (pa_cons (pv 2) pa_nil))))
  (pss_cons (ps_set (i:=3) sc_fewest.nd rfl (by walk_at "o") (pe_cal C_wanted hr rfl (pa_cons (pv 0) pa_nil)))
  (pss_cons (ps_if (pt_cmpR (op_eqD hr) (pv 3) (pe_lst pa_nil) (nomark _)) (pss_one (ps_ret (pe_tup (pa_cons pe_str (pa_cons (pe_cal C_row_of hr rfl (pa_cons (pe_tup (pa_cons pe_int pa_nil)) (pa_cons (pv 0) (pa_cons (pv 1) pa_nil)))) (pa_cons pe_non pa_nil)))))) pss_nil)
  (pss_cons (ps_set (i:=4) sc_fewest.nd rfl (by walk_at "o") (pe_lst pa_nil))
  (pss_cons (ps_whl PassesOwn.never (pt_cmpR op_lt (pe_callB call_lenM rfl B.len bo_len (pa_cons (pv 4) pa_nil)) (pv 2) (nomark _)) (pss_cons (ps_set (i:=5) sc_fewest.nd rfl (by walk_at "o") (pe_cal C_level_behind hr rfl (pa_cons (pv 4) (pa_cons (pv 1) pa_nil))))
  (pss_cons (ps_setComp0 (ix:=6) (N:=["cores","asked","top"]) (nt:=1) (cs:=[3,1]) rfl (pi_list (pv 5)) (fun nd C s H fp => ⟨(pg_name (i:=0) nd rfl (by walk_at "o")),(pn_one (pt_val (pe_cal C_finishes hr rfl (pa_cons (pv 0) (pa_cons (pv 1) (pa_cons (pv 2) pa_nil)))))),(pv 0)⟩) (by decide +kernel) (by first | rfl | decide +kernel) (by first | rfl | decide +kernel) rfl (fun _ => rfl) sc_fewest.nd rfl (by walk_at "o") (by walk_at "o") rfl)
  (pss_cons (ps_if (pt_cmpR (op_neE hr) (pv 6) (pe_lst pa_nil) (nomark _)) (pss_one (ps_ret (pe_tup (pa_cons pe_str (pa_cons (pe_cal C_row_of hr rfl (pa_cons (pe_cal C_with_all hr rfl (pa_cons (pe_ix ix_M (pv 6) pe_int (fun _ _ => rfl)) (pa_cons (pv 3) pa_nil))) (pa_cons (pv 0) (pa_cons (pv 1) pa_nil)))) (pa_cons (pv 4) pa_nil)))))) pss_nil)
  (pss_one (ps_expr (pe_bm PySem.F.plainAttrs_list PySem.F.slot_list_append PySem.F.type_list_append mt_append (pv 4) (pa_cons (pv 5) pa_nil))))))))
  (pss_one (ps_ret (pe_tup (pa_cons pe_str (pa_cons (pv 4) pa_nil)))))))))),?_⟩
 rw [show start ["numbers","top","most","asked","paper","level","ends"] [.ref l,.int top,.int most] = [some (.ref l),some (.int top),some (.int most),none,none,none,none] from rfl]
 refine seq_in fun R_ hR_ => ?_
 try walk_at "WP"
 refine ⟨top,most,rfl,fun _ => ?_,fun hf => absurd hf nf⟩
 (try (walk_at "WP")); (try (refine seq_out hR_ ?_)); (try (refine seq_in fun R_ hR_ => ?_)); (try (walk_at "WP"))
 refine ⟨l,xs,rfl,hl,xl,fun r H1 nr s1 h1 => ?_⟩
 (try (walk_at "WP")); (try (refine seq_out hR_ ?_)); (try (refine seq_in fun R_ hR_ => ?_)); (try (walk_at "WP"))
 intro e ne
 refine abs_ ne fun H2 s2 h2 => ?_
 have e2:=s1.trans s2
 refine eqLI (ns:=askL xs) (ms:=[]) (SqL.of (s2 _ _ h1)) (SqL.of h2) ?_
 try walk_at "WP"
 refine ite2 (fun z => ?_) (fun z => ?_)
 ·have ea : askL xs = []:=by simpa using z
  intro t nt
  refine abs_ nt fun H3 s3 h3 => ?_
  have e3:=e2.trans s3
  refine ⟨t,l,[1],xs,top,rfl,h3,e3 _ _ hl,xl,xb,by simp,by decide,⟨1,[1],.one,fun _ => Iff.rfl⟩,t1,t99,fun x hx => ?_,fun w0 dl gl us os ds gs H4 s4 hw hd hds hg hk hu R lg rel => ?_⟩
  ·by_cases x0 : x = 0
   ·exact .inl x0
   ·refine .inr (List.mem_singleton.mpr ?_)
    have p:=(core_props x0).1
    by_cases c1 : 1 < coreN x
    ·have:=mem_ask.mpr ⟨c1,x,hx,rfl⟩
     rw [ea] at this
     cases this
    ·omega
  ·intro r2 n2
   have s5:=same_new n2 (.tup [V.str "web",V.ref w0,V.non])
   have ul : ds.length = 0:=by have : ds.length + 1 = 1:=hu; omega
   exact qw r2 w0 dl gl us os ds gs [1] .non _ ((e3.trans s4).trans s5) upd_same (s5 _ _ hw) (s5 _ _ hd) (hds.same s5) (s5 _ _ hg) (hk.same s5) R (fun c hc => by rw [List.mem_singleton.mp hc]; exact ⟨by decide,t1⟩) lg rel (by omega) (by rw [ul]; exact few_nil ea) (.inl ⟨ul,rfl⟩)
 ·have ea : askL xs ≠ []:=by simpa using z
  have a0 : ∃ x ∈ askL xs,x ≠ 1:=by
   obtain ⟨x,hx⟩:=List.exists_mem_of_ne_nil _ ea
   exact ⟨x,hx,fun e => by have:=(mem_ask.mp hx).1; omega⟩
  (try (walk_at "WP")); (try (refine seq_out hR_ ?_)); (try (refine seq_in fun R_ hR_ => ?_)); (try (walk_at "WP"))
  intro lv nl
  have nl0 : H lv = none:=e2.free nl
  refine abs_ nl fun H3 s3 hl3 => ?_
  have h13 : H3 r = some (.lst ((askL xs).map V.int)):=s3 _ _ (s2 _ _ h1)
  have e3:=e2.trans s3
  have rl : r ≠ lv:=ne_of_none (s2 _ _ h1) nl
  (try (walk_at "WP")); (try (refine seq_out hR_ ?_)); (try (refine seq_in fun R_ hR_ => ?_)); (try (walk_at "WP"))
  refine whl (fun m σ H4 => ∃ (lvs : List V) (Ls : List (List (List Int))) (o5 o6 : Option V),σ = [some (.ref l),some (.int top),some (.int most),some (.ref r),some (.ref lv),o5,o6] /\ Same H2 H4 /\ lvs.length + m = most /\ Pap H4 lv lvs Ls /\ Lvs top (askL xs) Ls /\ ∀ d,d <= lvs.length -> ¬ Cov top d (askL xs)) most ⟨[],[],none,none,rfl,s3,by show 0 + most = most; omega,⟨hl3,rfl,fun i L h => by simp at h⟩,lvs_nil,fun d hd => by rw [Nat.le_zero.mp hd]; exact cov_zero a0⟩ ?_
  rintro m σ H4 N ⟨lvs,Ls,o5,o6,rfl,s4,hm,PP,LV,no⟩ hN
  have hl4:=PP.lst
  have lL:=PP.len
  (iterate 5 ((try (walk_at "WP")); (try (simp only [hl4,Option.some.injEq,HO.tup.injEq,HO.lst.injEq,HO.dK.injEq,exists_eq_left',exists_eq_left])))); (try (walk_at "WP"))
  refine ite2 (fun z => ?_) (fun z => ?_)
  ·refine ⟨lv,lvs,top,Ls.getLastD [],rfl,hl4,t1,t99,by omega,fun ln => ?_,fun v us L H5 n5 s5 h5 ht5 P5 c5 l0 lnx => ?_⟩
   ·have lp:=List.length_pos_iff.mpr ln
    have eL:=List.getElem?_eq_getElem (l:=Ls) (i:=Ls.length - 1) (by omega)
    have gl : Ls.getLast? = some (Ls[Ls.length - 1]'(by omega)):=by rw [List.getLast?_eq_getElem?]; exact eL
    have gD : Ls.getLastD [] = Ls[Ls.length - 1]'(by omega):=by rw [List.getLastD_eq_getLast?,gl]; rfl
    obtain ⟨r',us',a1,a2,a3,a4,a5⟩:=PP.at_ _ _ eL
    have P0:=LV.lev _ _ eL
    rw [show Ls.length - 1 + 1 = lvs.length by omega] at P0
    rw [gD]
    exact ⟨r',us',by rw [List.getLast?_eq_getElem?,lL]; exact a1,a3,a4,P0,by rw [lL]; exact a5⟩
   (try (walk_at "WP")); (try (refine seq_out hR_ ?_)); (try (refine seq_in fun R_ hR_ => ?_)); (try (walk_at "WP"))
   have l3 : 99 ^ lvs.length <= 99 ^ 3:=Nat.pow_le_pow_right (by decide) (by omega)
   have ul:=ht5.len
   have al:=ask_len xs
   have h15 : H5 r = some (.lst ((askL xs).map V.int)):=s5 _ _ (s4 _ _ (s2 _ _ h1))
   have hl5:=s5 _ _ hl4
   have e5:=(e2.trans s4).trans s5
   refine ⟨⟨_,SqL.of h5⟩,?_⟩
   refine comp_sel (fun S => Fin_ top S (askL xs)) h5 ht5 (by rw [ul]; omega) (fun t S H' R hS htS s' hR => ?_) (fun acc ys H6 na s6 ha hy hno => ?_)
   ·rw [show capV [3,1] [some (V.ref l),some (V.int top),some (V.int most),some (V.ref r),some (V.ref lv),some (V.ref v),o6] = [some (V.ref r),some (V.int top)] from rfl]
    try walk_at "WP"
    exact ⟨t,r,S,askL xs,top,rfl,s' _ _ htS,s' _ _ h15,by omega,P5.od S hS,t1,t99,by have:=P5.len S hS; omega,fun b H7 s7 hb => ⟨b,rfl,hR b H7 s7 hb⟩⟩
   intro e0 ne0
   refine abs_ ne0 fun H7 s7 h7 => ?_
   have ha7:=s7 _ _ ha
   have e57:=s6.trans s7
   try walk_at "WP"
   refine ⟨ys,SqL.of ha7,SqL.of h7,?_⟩
   try walk_at "WP"
   refine ite2 (fun z => ?_) (fun z => ?_)
   ·cases ys with
    | nil => exact absurd rfl z
    | cons y0 ys =>
     obtain ⟨S,hS,t,rfl,htS,hF⟩:=hy y0 List.mem_cons_self
     obtain ⟨F1,F2,⟨o,F3⟩,own,F4,F5⟩:=fin_cov P5 hS no hF
     have ho:=mem_lack.mp (by rw [F3]; exact List.mem_singleton.mpr rfl : o ∈ lackL S (askL xs))
     have e7:=e5.trans e57
     refine ⟨_,ha7,.ref t,atI_nat (j:=0) rfl,t,r,S,askL xs,rfl,e57 _ _ htS,e57 _ _ h15,by omega,by omega,(fun e => by rw [e] at F2; cases F2),fun c H8 s8 h8 => ?_⟩
     have cl : (S ++ lackL S (askL xs)).length = lvs.length + 2:=by rw [List.length_append,F2,F3]; rfl
     refine ⟨c,l,_,xs,top,rfl,h8,(e7.trans s8) _ _ hl,xl,xb,?_,by omega,⟨_,own,F4,F5⟩,t1,t99,fun x hx => ?_,fun w0 dl gl us2 os2 ds2 gs2 H9 s9 hw hd hds hg hk hu R2 lg rel => ?_⟩
     ·rw [F3,List.nodup_append]
      exact ⟨P5.nd S hS,by simp,fun x hx y hy e => ho.2 (by rw [← List.mem_singleton.mp hy,← e]; exact hx)⟩
     ·by_cases x0 : x = 0
      ·exact .inl x0
      ·refine .inr ?_
       have p:=(core_props x0).1
       by_cases c1 : 1 < coreN x
       ·have ha:=mem_ask.mpr ⟨c1,x,hx,rfl⟩
        by_cases zz : coreN x ∈ S
        ·exact List.mem_append_left _ zz
        ·exact List.mem_append_right _ (mem_lack.mpr ⟨ha,zz⟩)
       ·rw [show coreN x = 1 by omega]
        exact (F5 1).mpr (rch_has1 F4)
     ·intro p np
      have s10:=same_new np (.tup [V.str "web",V.ref w0,V.ref lv])
      have ul2 : ds2.length = lvs.length + 1:=by omega
      obtain ⟨OD,_,_⟩:=F4.ok t1
      exact qw p w0 dl gl us2 os2 ds2 gs2 _ _ _ (((e7.trans s8).trans s9).trans s10) upd_same (s10 _ _ hw) (s10 _ _ hd) (hds.same s10) (s10 _ _ hg) (hk.same s10) R2 (fun c hc => ⟨OD.lo c ((F5 c).mp hc),OD.hi c ((F5 c).mp hc)⟩) lg rel (by omega) (.inr ⟨lvs.length + 1,by omega,by rw [ul2],F1,fun e he => no e (by omega)⟩) (.inr ⟨lv,lvs,Ls,rfl,PP.same ((((s5.trans e57).trans s8).trans s9).trans s10),LV,by omega,ea⟩)
   ·have y0 : ys = []:=List.eq_nil_of_length_eq_zero (Classical.not_not.mp z)
    have hl7:=e57 _ _ hl5
    have vl : v ≠ lv:=(ne_of_none hl4 n5).symm
    have C8 : Chg lv H7 (upd H7 lv (.lst (lvs ++ [V.ref v]))):=Chg.upd _
    have el : (lvs ++ [V.ref v]).length = lvs.length + 1:=by rw [List.length_append,List.length_singleton]
    have P8:=(PP.same (s5.trans e57)).app vl (e57 _ _ h5) (ht5.same e57) (by rw [← lL]; exact c5)
    have L8 : Lvs top (askL xs) (Ls ++ [L]):=LV.snoc (by rw [← lL]; exact P5) (fun z => l0 (List.eq_nil_of_length_eq_zero (by rw [lL,z]; rfl))) (fun L0 h0 => by
     have ln : lvs ≠ []:=fun z => by rw [z] at lL; have:=List.eq_nil_of_length_eq_zero lL.symm; rw [this] at h0; cases h0
     have:=lnx ln
     rw [show Ls.getLastD [] = L0 by rw [List.getLastD_eq_getLast?,h0]; rfl] at this
     exact this) (hno y0)
    refine ⟨ty_list hl7,lvs,hl7,lt_big (by omega),hN (m - 1) _ _ (by omega) ⟨lvs ++ [.ref v],Ls ++ [L],_,_,rfl,same_chg nl ((s4.trans s5).trans e57) C8,by omega,P8,L8,fun d hd => ?_⟩⟩
    rw [el] at hd
    by_cases dz : d = lvs.length + 1
    ·rw [dz]
     exact nofin_cov P5 (ask_nd xs) (hno y0)
    ·exact no d (by omega)
  ·(try (walk_at "WP")); (try (refine seq_out hR_ ?_)); (try (refine seq_in fun R_ hR_ => ?_)); (try (walk_at "WP"))
   intro r2 n2
   have s5:=same_new n2 (.tup [V.str "none",V.ref lv])
   have lm : lvs.length = most:=by omega
   exact qn r2 lv lvs Ls _ ((e2.trans s4).trans s5) upd_same (PP.same s5) LV (by omega) ea (.inl ⟨rfl,fun d hd => no d (by omega)⟩)
end

section
variable {P : Program} {w : World} {K : PySem.W.Frag} {mg : Str -> Option Value} {base : Heap}
theorem ok_odd36 (T : Txt K mg) : Cal P w K mg base 1 "_law_odd" ["_law_number"] spLCoreZ:=by
 have B:=T.bl
 refine mkCal T.t_l_odd sc_l_odd (fun vs H Q E h => ?_) (fun f cdv A outer s H vs Q E hr h => ?_)
 ·obtain ⟨n,rfl,_⟩:=h
  rfl
 obtain ⟨n,rfl,hb,q⟩:=h
 refine ⟨_,(pss_cons (ps_set (i:=0) sc_l_odd.nd rfl (by walk_at "o") (pe_callB call_abs rfl B.abs bo_abs (pa_cons (pv 0) pa_nil)))
  (pss_mid (ps_whl PassesOwn.never (PW.pt (pw_and (pt_cmpR op_gt (pv 0) pe_int (nomark _)) (pw_and1 (pt_cmpR op_eq (pe_op op_mod (pv 0) pe_int) pe_int (nomark _))))) (pss_one (ps_set (i:=0) sc_l_odd.nd rfl (by walk_at "o") (pe_op op_fdivB (pv 0) pe_int))))
  (pss_one (ps_ret (pv 0))))),?_⟩
 rw [show start ["_law_number"] [.int n] = [some (.int n)] from rfl]
 try walk_at "WP"
 have abs0 : ∃ m : Nat,(if n < 0 then -n else n) = coreN n * 2 ^ m:=by
  by_cases z : n = 0
  ·subst z
   exact ⟨0,by decide⟩
  ·obtain ⟨k,e1,_⟩:=abs_core z
   exact ⟨k,e1⟩
 obtain ⟨m0,e0⟩:=abs0
 rw [e0]
 have cz : coreN n = 0 \/ (0 < coreN n /\ coreN n % 2 = 1):=by
  by_cases z : n = 0
  ·subst z
   exact .inl (by decide)
  ·obtain ⟨c1,c2,_⟩:=core_props z
   exact .inr ⟨c1,c2⟩
 refine mid_of (fun σ H1 => σ = [some (.int (coreN n))] /\ H1 = H) (fun N hN => ?_) ?_
 ·refine whl (fun m σ H1 => σ = [some (.int (coreN n * 2 ^ m))] /\ H1 = H) m0 ⟨rfl,rfl⟩ ?_
  rintro m σ H1 N2 ⟨rfl,rfl⟩ hN2
  try walk_at "WP"
  rcases cz with c0 | ⟨c1,c2⟩
  ·rw [c0,Int.zero_mul,if_neg (by decide)]
   exact hN _ _ ⟨by rw [c0],rfl⟩
  ·cases m with
   | zero =>
    rw [Int.pow_zero,Int.mul_one,if_pos c1,if_neg (by omega)]
    exact hN _ _ ⟨rfl,rfl⟩
   | succ k =>
    have e : coreN n * 2 ^ (k + 1) = 2 * (coreN n * 2 ^ k):=by rw [Int.pow_succ]; ac_rfl
    have p:=Int.mul_pos c1 (pow_pos2 k)
    rw [e,if_pos (by omega),if_pos (by omega),show 2 * (coreN n * 2 ^ k) / 2 = coreN n * 2 ^ k by omega]
    exact ⟨divB (by decide) (by decide),hN2 k _ _ (by omega) ⟨rfl,rfl⟩⟩
 ·rintro σ H1 ⟨rfl,rfl⟩
  try walk_at "WP"
  exact q
theorem ok_lpair (T : Txt K mg) : Cal P w K mg base 2 "_law_pair" ["_law_one","_law_other","_law_top"] spLPair:=by
 have B:=T.bl
 have C_l_odd:=ok_odd36 (P:=P) (w:=w) (base:=base) T
 refine mkCal T.t_l_pair sc_l_pair (fun vs H Q E h => ?_) (fun f cdv A outer s H vs Q E hr h => ?_)
 ·obtain ⟨_,_,_,rfl,_⟩:=h
  rfl
 obtain ⟨a,b,top,rfl,a0,a1,a2,b0,b1,b2,ht,q⟩:=h
 refine ⟨_,(pss_cons (ps_set (i:=3) sc_l_pair.nd rfl (by walk_at "o") pe_int)
  (pss_cons (ps_for PassesOwn.never rfl (pi_list (pe_lst (pa_cons (pe_tup (pa_cons (pv 0) (pa_cons (pv 1) pa_nil))) (pa_cons (pe_tup (pa_cons (pv 1) (pa_cons (pv 0) pa_nil))) pa_nil)))) (pg_tupM 2 rfl (pgs_cons (pg_name (i:=4) sc_l_pair.nd rfl (by walk_at "o")) (pgs_cons (pg_name (i:=5) sc_l_pair.nd rfl (by walk_at "o")) pgs_nil))) (pss_one (ps_whl PassesOwn.never (pt_cmpR op_le (pv 4) (pe_op op_add (pv 2) (pv 5)) (nomark _)) (pss_cons (ps_for PassesOwn.never rfl (pi_tup (pe_tup (pa_cons (pe_cal C_l_odd hr rfl (pa_cons (pe_op op_add (pv 4) (pv 5)) pa_nil)) (pa_cons (pe_cal C_l_odd hr rfl (pa_cons (pe_op op_sub (pv 4) (pv 5)) pa_nil)) pa_nil)))) (pg_name (i:=6) sc_l_pair.nd rfl (by walk_at "o")) (pss_one (ps_if (pt_chain op_lt op_le pe_int (pv 6) (pv 2)) (pss_one (ps_set (i:=3) sc_l_pair.nd rfl (by walk_at "o") (pe_op op_or (pv 3) (pe_op op_shlB pe_int (pv 6))))) pss_nil)))
  (pss_one (ps_set (i:=4) sc_l_pair.nd rfl (by walk_at "o") (pe_op op_mulB pe_int (pv 4))))))))
  (pss_one (ps_ret (pv 3))))),?_⟩
 rw [show start ["_law_one","_law_other","_law_top","_law_found","_law_low","_law_high","_law_odd_here"] [.int a,.int b,.int top] = [some (.int a),some (.int b),some (.int top),none,none,none,none] from rfl]
 refine seq_in fun R_ hR_ => ?_
 (try (walk_at "WP")); (try (refine seq_out hR_ ?_)); (try (refine seq_in fun R_ hR_ => ?_)); (try (walk_at "WP"))
 (try (walk_at "WP")); (try (refine seq_out hR_ ?_)); (try (refine seq_in fun R_ hR_ => ?_)); (try (walk_at "WP"))
 intro p1 n1
 refine abs_ n1 fun H1 s1 h1 => ?_
 intro p2 n2
 refine abs_ n2 fun H2 s2 h2 => ?_
 intro p3 n3
 refine abs_ n3 fun H3 s3 h3 => ?_
 have h13:=(s2.trans s3) _ _ h1
 have h23:=s3 _ _ h2
 have s13:=(s1.trans s2).trans s3
 refine ⟨⟨_,SqL.of h3⟩,?_⟩
 refine forL (xs:=[V.ref p1,V.ref p2]) (fun i σ H' => ∃ (xs : List Int) (o4 o5 o6 : Option V),σ = [some (.int a),some (.int b),some (.int top),some (.int (maskN xs : Nat)),o4,o5,o6] /\ Same H3 H' /\ (i = 0 -> xs = []) /\ (i = 1 -> Half a b top xs) /\ (i = 2 -> ∃ x1 x2,xs = x1 ++ x2 /\ Half a b top x1 /\ Half b a top x2)) ⟨[],none,none,none,rfl,Same.refl _,fun _ => rfl,fun z => absurd z (by decide),fun z => absurd z (by decide)⟩ ?_ ?_ ?_
 ·rintro i σ H' _ ⟨_,_,_,_,rfl,s',_⟩
  exact SqL.of (s' _ _ h3)
 ·rintro i v σ H4 N hv ⟨pre,o4,o5,o6,rfl,s4,i0,i1,i2⟩ hN
  have half : ∀ (x y : Int) (D : Ends) (tb : TS),1 <= x -> x <= top -> 1 <= y -> y <= top -> True:=fun _ _ _ _ _ _ _ _ => trivial
  obtain ⟨t,x,y,rfl,ht4,x1,x2,y1,y2,fin⟩ : ∃ (t : Addr) (x y : Int),v = .ref t /\ H4 t = some (.tup [.int x,.int y]) /\ 1 <= x /\ x <= top /\ 1 <= y /\ y <= top /\ ∀ (h : List Int) (o4 o5 o6 : Option V) H',Same H4 H' -> Half x y top h -> N [some (.int a),some (.int b),some (.int top),some (.int (maskN (pre ++ h) : Nat)),o4,o5,o6] H':=by
   rcases (show i = 0 \/ i = 1 by have:=(List.getElem?_eq_some_iff.mp hv).1; simp at this; omega) with rfl | rfl
   ·cases hv
    refine ⟨p1,a,b,rfl,s4 _ _ h13,a1,a2,b1,b2,fun h o4 o5 o6 H' s' hh => hN _ _ ⟨_,_,_,_,rfl,s4.trans s',fun z => absurd z (by decide),fun _ => ?_,fun z => absurd z (by decide)⟩⟩
    rw [i0 rfl]
    exact hh
   ·cases hv
    refine ⟨p2,b,a,rfl,s4 _ _ h23,b1,b2,a1,a2,fun h o4 o5 o6 H' s' hh => hN _ _ ⟨_,_,_,_,rfl,s4.trans s',fun z => absurd z (by decide),fun z => absurd z (by decide),fun _ => ⟨pre,h,rfl,i1 rfl,hh⟩⟩⟩
  clear half hN i0 i1 i2
  (iterate 5 ((try (walk_at "WP")); (try (simp only [ht4,Option.some.injEq,HO.tup.injEq,HO.lst.injEq,HO.dK.injEq,exists_eq_left',exists_eq_left])))); (try (walk_at "WP"))
  refine whl (fun m σ H' => ∃ (k : Nat) (o6 : Option V),σ = [some (.int a),some (.int b),some (.int top),some (.int (maskN (pre ++ lawP x y top k) : Nat)),some (.int (x * 2 ^ k)),some (.int y),o6] /\ Same H4 H' /\ m + k = 8 /\ ∀ j,j < k -> x * 2 ^ j <= top + y) 8 ⟨0,o6,by rw [Int.pow_zero,Int.mul_one]; unfold lawP; rw [List.range_zero,List.flatMap_nil,List.append_nil],Same.refl _,rfl,fun j hj => absurd hj (by omega)⟩ ?_
  rintro m σ H5 N5 ⟨k,o6,rfl,s5,hm,hk⟩ hN5
  have pp : 0 < x * 2 ^ k:=Int.mul_pos (by omega) (pow_pos2 k)
  try walk_at "WP"
  refine ite2 (fun z => ?_) (fun z => ?_)
  ·have k7:=few8 x1 ht y2 z
   have xy : (x * 2 ^ k).natAbs < 2 ^ 20:=by
    have : x * 2 ^ k <= 198:=by omega
    omega
   refine ⟨_,rfl,by omega,?_⟩
   try walk_at "WP"
   refine ⟨_,rfl,by omega,?_⟩
   intro p6 n6
   refine abs_ n6 fun H6 s6 h6 => ?_
   refine ⟨⟨_,SqT.of h6⟩,?_⟩
   refine forT (xs:=[V.int (coreN (x * 2 ^ k + y)),V.int (coreN (x * 2 ^ k - y))]) (fun j σ H' => ∃ (o6 : Option V),σ = [some (.int a),some (.int b),some (.int top),some (.int (maskN (pre ++ lawP x y top k ++ ([coreN (x * 2 ^ k + y),coreN (x * 2 ^ k - y)].take j).flatMap (kpO top)) : Nat)),some (.int (x * 2 ^ k)),some (.int y),o6] /\ H' = H6) ⟨o6,by simp,rfl⟩ ?_ ?_ ?_
   ·rintro j σ H' _ ⟨_,rfl,rfl⟩
    exact SqT.of h6
   ·rintro j v σ H' N7 hv ⟨o6,rfl,rfl⟩ hN7
    obtain ⟨n,hn,rfl⟩ : ∃ n,[coreN (x * 2 ^ k + y),coreN (x * 2 ^ k - y)][j]? = some n /\ v = .int n:=by
     have : ([coreN (x * 2 ^ k + y),coreN (x * 2 ^ k - y)].map V.int)[j]? = some v:=hv
     rw [List.getElem?_map] at this
     obtain ⟨n,h1,h2⟩:=Option.map_eq_some_iff.mp this
     exact ⟨n,h1,h2.symm⟩
    have fin7 : ∀ (c : List Int),kpO top n = c -> N7 [some (.int a),some (.int b),some (.int top),some (.int (maskN (pre ++ lawP x y top k ++ ([coreN (x * 2 ^ k + y),coreN (x * 2 ^ k - y)].take j).flatMap (kpO top) ++ c) : Nat)),some (.int (x * 2 ^ k)),some (.int y),some (.int n)] H':=fun c hc => hN7 _ _ ⟨_,by rw [List.take_succ,hn,Option.toList_some,List.flatMap_append,List.flatMap_cons,List.flatMap_nil,List.append_nil,hc,List.append_assoc],rfl⟩
    generalize pre ++ lawP x y top k ++ ([coreN (x * 2 ^ k + y),coreN (x * 2 ^ k - y)].take j).flatMap (kpO top) = ls at fin7 ⊢
    try walk_at "WP"
    have no : ¬ (0 < n /\ n <= top) -> N7 [some (.int a),some (.int b),some (.int top),some (.int (maskN ls : Nat)),some (.int (x * 2 ^ k)),some (.int y),some (.int n)] H':=fun z => by
     have:=fin7 [] (by unfold kpO; rw [if_neg z])
     rw [List.append_nil] at this
     exact this
    refine ite2 (fun c1 => ?_) (fun c1 => no (fun z => c1 z.1))
    refine ite2 (fun c2 => ?_) (fun c2 => no (fun z => c2 z.2))
    refine ⟨⟨by omega,by omega⟩,?_⟩
    have:=fin7 [n] (by unfold kpO; rw [if_pos ⟨c1,c2⟩])
    rw [mask_snoc] at this
    rw [Int.one_mul,or_pow]
    exact this
   ·rintro σ H' ⟨o6,rfl,rfl⟩
    try walk_at "WP"
    refine ⟨mul_l (by decide) (by decide),?_⟩
    refine hN5 (m - 1) _ _ (by omega) ⟨k + 1,o6,?_,s5.trans s6,by omega,fun j hj => ?_⟩
    ·rw [lawP_succ,Int.pow_succ,show 2 * (x * 2 ^ k) = x * (2 ^ k * 2) by rw [Int.mul_comm 2,Int.mul_assoc]]
     simp only [List.length_cons,List.length_nil,List.take_succ_cons,List.take_zero,List.take_nil,List.flatMap_cons,List.flatMap_nil,List.append_nil,List.append_assoc]
     rw [kp_keep top (n:=x * 2 ^ k - y),kp_keepA top (n:=x * 2 ^ k + y) (by omega)]
    ·rcases Nat.lt_succ_iff_lt_or_eq.mp hj with y' | rfl
     ·exact hk j y'
     ·exact z
  ·exact fin _ _ _ _ _ s5 ⟨k,rfl,hk,by omega⟩
 ·rintro σ H4 ⟨xs,o4,o5,o6,rfl,s4,_,_,i2⟩
  obtain ⟨x1,x2,rfl,e1,e2⟩:=i2 rfl
  (try (walk_at "WP")); (try (refine seq_out hR_ ?_)); (try (refine seq_in fun R_ hR_ => ?_)); (try (walk_at "WP"))
  rw [half_mask a0 a1 a2 b0 b1 b2 ht e1 e2]
  exact q _ (s13.trans s4)
theorem ok_reach (T : Txt K mg) : Cal P w K mg base 3 "_law_reach" ["_law_pairs","_law_some","_law_top"] spReach:=by
 have B:=T.bl
 have C_l_pair:=ok_lpair (P:=P) (w:=w) (base:=base) T
 refine mkCal T.t_l_reach sc_l_reach (fun vs H Q E h => ?_) (fun f cdv A outer s H vs Q E hr h => ?_)
 ·obtain ⟨_,_,_,_,_,rfl,_⟩:=h
  rfl
 obtain ⟨pd,c,pk,S,top,rfl,hpd,PP,hc,OD,t1,t2,sl,q⟩:=h
 refine ⟨_,(pss_cons (ps_set (i:=3) sc_l_reach.nd rfl (by walk_at "o") pe_int)
  (pss_cons (ps_for PassesOwn.never rfl (pi_tup (pv 1)) (pg_name (i:=4) sc_l_reach.nd rfl (by walk_at "o")) (pss_one (ps_for PassesOwn.never rfl (pi_tup (pv 1)) (pg_name (i:=5) sc_l_reach.nd rfl (by walk_at "o")) (pss_cons (ps_if (PW.pt (pw_and (pt_cmpR op_le (pv 4) (pv 5) (nomark _)) (pw_and1 (pt_cmpR (op_dNT (hu_of hr)) (pe_tup (pa_cons (pv 4) (pa_cons (pv 5) pa_nil))) (pv 0) (by with_unfolding_all rfl))))) (pss_one (ps_dpT (hu_of hr) (pv 0) (pe_tup (pa_cons (pv 4) (pa_cons (pv 5) pa_nil))) (pe_cal C_l_pair hr rfl (pa_cons (pv 4) (pa_cons (pv 5) (pa_cons (pv 2) pa_nil)))) rfl)) pss_nil)
  (pss_one (ps_if (pt_cmpR op_le (pv 4) (pv 5) (nomark _)) (pss_one (ps_set (i:=3) sc_l_reach.nd rfl (by walk_at "o") (pe_op op_or (pv 3) (pe_dgT (hu_of hr) (pv 0) (pe_tup (pa_cons (pv 4) (pa_cons (pv 5) pa_nil))) (fun _ _ => rfl))))) pss_nil))))))
  (pss_one (ps_ret (pv 3))))),?_⟩
 rw [show start ["_law_pairs","_law_some","_law_top","_law_found","_law_one","_law_other"] [.ref pd,.ref c,.int top] = [some (.ref pd),some (.ref c),some (.int top),none,none,none] from rfl]
 have cp : c ≠ pd:=ne_of hc hpd (by intro z; cases z)
 try walk_at "WP"
 refine ⟨⟨_,SqT.of hc⟩,?_⟩
 refine forT (xs:=S.map V.int) (fun i σ H' => ∃ (pk : List (List Key × V)) (xs : List Int) (o4 o5 : Option V),σ = [some (.ref pd),some (.ref c),some (.int top),some (.int (maskN xs : Nat)),o4,o5] /\ Chg pd H H' /\ H' pd = some (.dT pk) /\ PairsP top pk /\ (∀ x ∈ xs,0 <= x) /\ ∀ x,x ∈ xs ↔ ∃ a ∈ S.take i,∃ b ∈ S,a <= b /\ x ∈ pairL a b top) ⟨pk,[],none,none,rfl,Chg.refl,hpd,PP,(fun x h => by cases h),fun x => ⟨fun h => (by cases h),fun ⟨a,h,_⟩ => absurd h (by rw [List.take_zero]; exact List.not_mem_nil)⟩⟩ ?_ ?_ ?_
 ·rintro i σ H' _ ⟨_,_,_,_,_,C,_⟩
  exact SqT.of (C _ _ cp hc)
 ·rintro i v σ H1 N hv ⟨pk1,xs1,o4,o5,rfl,C1,hp1,PP1,n1,m1⟩ hN
  obtain ⟨one,ho,rfl⟩:=map_at hv
  have om:=List.mem_of_getElem? ho
  have o1:=OD.odd one om
  have o2:=OD.lo one om
  have o3:=OD.hi one om
  try walk_at "WP"
  refine ⟨⟨_,SqT.of (C1 _ _ cp hc)⟩,?_⟩
  refine forT (xs:=S.map V.int) (fun j σ H' => ∃ (pk : List (List Key × V)) (xs : List Int) (o5 : Option V),σ = [some (.ref pd),some (.ref c),some (.int top),some (.int (maskN xs : Nat)),some (.int one),o5] /\ Chg pd H H' /\ H' pd = some (.dT pk) /\ PairsP top pk /\ (∀ x ∈ xs,0 <= x) /\ ∀ x,x ∈ xs ↔ (∃ a ∈ S.take i,∃ b ∈ S,a <= b /\ x ∈ pairL a b top) \/ ∃ b ∈ S.take j,one <= b /\ x ∈ pairL one b top) ⟨pk1,xs1,o5,rfl,C1,hp1,PP1,n1,fun x => ⟨fun h => .inl ((m1 x).mp h),fun h => h.elim (m1 x).mpr fun ⟨b,hb,_⟩ => absurd hb (by rw [List.take_zero]; exact List.not_mem_nil)⟩⟩ ?_ ?_ ?_
  ·rintro j σ H' _ ⟨_,_,_,_,C,_⟩
   exact SqT.of (C _ _ cp hc)
  ·rintro j v σ H2 N2 hv2 ⟨pk2,xs2,o5,rfl,C2,hp2,PP2,n2,m2⟩ hN2
   obtain ⟨ot,hot,rfl⟩:=map_at hv2
   have tm:=List.mem_of_getElem? hot
   have u1:=OD.odd ot tm
   have u2:=OD.lo ot tm
   have u3:=OD.hi ot tm
   have tk : ∀ x,(∃ b ∈ S.take (j + 1),one <= b /\ x ∈ pairL one b top) ↔ (∃ b ∈ S.take j,one <= b /\ x ∈ pairL one b top) \/ (one <= ot /\ x ∈ pairL one ot top):=fun x => by
    rw [List.take_succ,hot,Option.toList_some]
    constructor
    ·rintro ⟨b,hb,h⟩
     rcases List.mem_append.mp hb with z | z
     ·exact .inl ⟨b,z,h⟩
     ·rw [List.mem_singleton.mp z] at h
      exact .inr h
    ·rintro (⟨b,hb,h⟩ | h)
     ·exact ⟨b,List.mem_append_left _ hb,h⟩
     ·exact ⟨ot,List.mem_append_right _ (List.mem_singleton.mpr rfl),h⟩
   have pl:=PP2.len
   refine seq_inG fun R_ hR_ => ?_
   try walk_at "WP"
   refine ite2 (fun le => ?_) (fun le => ?_)
   rotate_left
   ·subst hR_
    try walk_at "WP"
    rw [if_neg le]
    exact hN2 _ _ ⟨pk2,xs2,_,rfl,C2,hp2,PP2,n2,fun x => by rw [m2 x,tk x]; exact ⟨fun h => h.elim .inl fun z => .inr (.inl z),fun h => h.elim .inl fun z => z.elim .inr fun y => absurd y.1 le⟩⟩
   intro t1' nt1
   refine abs_ nt1 fun H7 s7 h7 => ?_
   have p7:=s7 _ _ hp2
   refine ⟨[one,ot],pk2,p7,rfl,?_⟩
   have rest : ∀ (pk' : List (List Key × V)) H8,Chg pd H H8 -> H8 pd = some (.dT pk') -> PairsP top pk' -> (valV pk' (tkey [one,ot])).isSome = true -> R_ { nx:=N2,rt:=Q,bk:=N,ct:=N2 } [some (.ref pd),some (.ref c),some (.int top),some (.int (maskN xs2 : Nat)),some (.int one),some (.int ot)] H8:=fun pk' H8 C8 p8 PP8 hs8 => by
    subst hR_
    try walk_at "WP"
    rw [if_pos le]
    intro t2' nt2
    refine abs_ nt2 fun H9 s9 h9 => ?_
    obtain ⟨v,hv⟩:=Option.isSome_iff_exists.mp hs8
    refine ⟨[one,ot],pk',s9 _ _ p8,rfl,v,hv,?_⟩
    have ev:=PP8.val _ _ _ hv
    subst ev
    try walk_at "WP"
    rw [or_nat,← mask_app]
    refine hN2 _ _ ⟨pk',xs2 ++ pairL one ot top,_,rfl,C8.trans s9.chg,s9 _ _ p8,PP8,fun x hx => ?_,fun x => ?_⟩
    ·rcases List.mem_append.mp hx with z | z
     ·exact n2 x z
     ·have:=pair_in z
      omega
    ·rw [List.mem_append,m2 x,tk x]
     exact ⟨fun h => h.elim (fun z => z.elim .inl fun y => .inr (.inl y)) fun z => .inr (.inr ⟨le,z⟩),fun h => h.elim (fun z => .inl (.inl z)) fun z => z.elim (fun y => .inl (.inr y)) fun y => .inr y.2⟩
   refine ite2 (fun z => ?_) (fun z => rest pk2 H7 (C2.trans s7.chg) p7 PP2 (by cases e : (valV pk2 (tkey [one,ot])).isSome with | false => exact absurd e z | true => rfl))
   refine ⟨one,ot,top,rfl,o1,o2,o3,u1,u2,u3,t2,fun H8 s8 => ?_⟩
   intro t3' nt3
   refine abs_ nt3 fun H9 s9 h9 => ?_
   refine ⟨[one,ot],pk2,(s8.trans s9) _ _ p7,rfl,lt_big (by omega),?_⟩
   exact rest _ _ ((C2.trans ((s7.trans s8).trans s9).chg).trans (Chg.upd _)) upd_same (PP2.put o2 (by omega) u2 (by omega) z) (by rw [valV_put,if_pos rfl]; rfl)
  ·rintro σ H2 ⟨pk2,xs2,o5,rfl,C2,hp2,PP2,n2,m2⟩
   rw [List.length_map,List.take_length] at m2
   refine hN _ _ ⟨pk2,xs2,_,_,rfl,C2,hp2,PP2,n2,fun x => ?_⟩
   rw [m2 x,List.take_succ,ho,Option.toList_some]
   constructor
   ·rintro (⟨a,ha,h⟩ | h)
    ·exact ⟨a,List.mem_append_left _ ha,h⟩
    ·exact ⟨one,List.mem_append_right _ (List.mem_singleton.mpr rfl),h⟩
   ·rintro ⟨a,ha,h⟩
    rcases List.mem_append.mp ha with z | z
    ·exact .inl ⟨a,z,h⟩
    ·rw [List.mem_singleton.mp z] at h
     exact .inr h
 ·rintro σ H1 ⟨pk1,xs1,o4,o5,rfl,C1,hp1,PP1,n1,m1⟩
  rw [List.length_map,List.take_length] at m1
  try walk_at "WP"
  rw [show maskN xs1 = maskN (madeL S top) from mask_congr n1 made_nn fun x => by
   rw [m1 x,made_pairs]
   constructor
   ·rintro ⟨a,ha,b,hb,_,h⟩
    exact ⟨a,ha,b,hb,h⟩
   ·rintro ⟨a,ha,b,hb,h⟩
    rcases Int.le_total a b with z | z
    ·exact ⟨a,ha,b,hb,z,h⟩
    ·exact ⟨b,hb,a,ha,z,pair_comm.mp h⟩]
  exact q _ _ C1 hp1 PP1
end

section
variable {P : Program} {w : World} {K : PySem.W.Frag} {mg : Str -> Option Value} {base : Heap}
theorem ok_ends (T : Txt K mg) : Cal P w K mg base 4 "_law_ends" ["_law_pairs","_law_some","_law_owed","_law_top"] spEndsX:=by
 have B:=T.bl
 have C_l_reach:=ok_reach (P:=P) (w:=w) (base:=base) T
 refine mkCal T.t_l_ends sc_l_ends (fun vs H Q E h => ?_) (fun f cdv A outer s H vs Q E hr h => ?_)
 ·obtain ⟨_,_,_,_,_,_,_,rfl,_⟩:=h
  rfl
 obtain ⟨pd,c,l,pk,S,as,top,rfl,hpd,PP,hc,hl,al,a0,O,t1,t2,sl,q⟩:=h
 refine ⟨_,(pss_cons (ps_setComp0 (ix:=4) (N:=["_law_own","_law_some"]) (nt:=1) (cs:=[1]) rfl (pi_list (pv 2)) (fun nd C s H fp => ⟨(pg_name (i:=0) nd rfl (by walk_at "o")),(pn_one (pt_cmpR (op_notInK K) (pv 0) (pv 1) (by with_unfolding_all rfl))),(pv 0)⟩) (by decide +kernel) (by first | rfl | decide +kernel) (by first | rfl | decide +kernel) rfl (fun _ => rfl) sc_l_ends.nd rfl (by walk_at "o") (by walk_at "o") rfl)
  (pss_cons (ps_if (pt_cmpR op_eq (pe_callB call_lenM rfl B.len bo_len (pa_cons (pv 4) pa_nil)) pe_int (nomark _)) (pss_one (ps_ret (pe_and (pe_cmpR op_le (pe_ix ix_M (pv 4) pe_int (fun _ _ => rfl)) (pv 3) (nomark _)) (pe_one (pe_cmpR op_eq (pe_op op_and (pe_op op_shr (pe_cal C_l_reach hr rfl (pa_cons (pv 0) (pa_cons (pv 1) (pa_cons (pv 3) pa_nil)))) (pe_ix ix_M (pv 4) pe_int (fun _ _ => rfl))) pe_int) pe_int (nomark _)))))) pss_nil)
  (pss_one (ps_ret (pe_cmpR (op_eqD hr) (pv 4) (pe_lst pa_nil) (nomark _)))))),?_⟩
 rw [show start ["_law_pairs","_law_some","_law_owed","_law_top","_law_left"] [.ref pd,.ref c,.ref l,.int top] = [some (.ref pd),some (.ref c),some (.ref l),some (.int top),none] from rfl]
 try walk_at "WP"
 refine ⟨⟨_,SqL.of hl⟩,?_⟩
 refine comp_L (f:=notV S) (SqL.of hl) (by rw [List.length_map]; exact le_big (by omega)) (fun x H' R hx hS' hR => ?_) (fun a na => ?_)
 ·obtain ⟨o,ho,rfl⟩:=List.mem_map.mp hx
  rw [show capV [1] [some (V.ref pd),some (V.ref c),some (V.ref l),some (V.int top),none] = [some (V.ref c)] from rfl]
  try walk_at "WP"
  have hin:=inV_i S o
  refine ⟨c,_,rfl,.inr (SqT.of (hS' _ _ hc)),rfl,flat_ints S,?_⟩
  rw [if_pos rfl,hin]
  by_cases z : o ∈ S
  ·rw [show notV S (V.int o) = none from if_pos z] at hR
   rw [decide_eq_true z]
   exact ⟨_,rfl,hR⟩
  ·rw [show notV S (V.int o) = some (V.int o) from if_neg z] at hR
   rw [decide_eq_false z]
   exact ⟨_,rfl,hR⟩
 rw [notV_map,show (as.filter fun o => decide (o ∉ S)) = lackL S as from rfl]
 refine abs_ na fun H2 s2 h2 => ?_
 have ll : ((lackL S as).map V.int).length = (lackL S as).length:=List.length_map ..
 (iterate 5 ((try (walk_at "WP")); (try (simp only [h2,Option.some.injEq,HO.tup.injEq,HO.lst.injEq,HO.dK.injEq,exists_eq_left',exists_eq_left])))); (try (walk_at "WP"))
 refine ite2 (fun z => ?_) (fun z => ?_)
 ·obtain ⟨o,eo⟩ : ∃ o,lackL S as = [o]:=List.length_eq_one_iff.mp (by rw [ll] at z; omega)
  rw [eo] at h2
  have om:=mem_lack.mp (by rw [eo]; exact List.mem_singleton.mpr rfl : o ∈ lackL S as)
  have o0:=a0 o om.1
  have ap : a ≠ pd:=ne_of h2 (s2 _ _ hpd) (by intro y; cases y)
  have hon : ((o.toNat : Nat) : Int) = o:=Int.toNat_of_nonneg o0
  have bitm : ((maskN (madeL S top) : Int) / 2 ^ o.toNat) % 2 = 1 ↔ o ∈ madeL S top:=by
   rw [bit_test,mask_bit made_nn,hon]
  (iterate 5 ((try (walk_at "WP")); (try (simp only [h2,Option.some.injEq,HO.tup.injEq,HO.lst.injEq,HO.dK.injEq,exists_eq_left',exists_eq_left])))); (try (walk_at "WP"))
  rw [eo]
  refine ⟨V.int o,rfl,?_⟩
  try walk_at "WP"
  refine ite2 (fun le => ?_) (fun le => ?_)
  ·refine ⟨pd,c,pk,S,top,rfl,s2 _ _ hpd,PP,s2 _ _ hc,O,t1,t2,sl,fun pk' H3 C3 p3 PP3 => ?_⟩
   have h3:=C3 _ _ ap h2
   (iterate 5 ((try (walk_at "WP")); (try (simp only [h3,Option.some.injEq,HO.tup.injEq,HO.lst.injEq,HO.dK.injEq,exists_eq_left',exists_eq_left])))); (try (walk_at "WP"))
   refine ⟨V.int o,rfl,?_⟩
   try walk_at "WP"
   refine ⟨o0,?_⟩
   rw [and1]
   refine q _ pk' H3 (s2.chg.trans C3) p3 PP3 ?_
   rw [decide_eq_true_eq,bitm,fin_one eo]
  ·refine q _ pk H2 s2.chg (s2 _ _ hpd) PP ⟨fun y => (by cases y),fun y => ?_⟩
   exact absurd (made_in ((fin_one eo).mp y)).2 le
 ·intro e ne
  refine abs_ ne fun H3 s3 h3 => ?_
  refine eqLI (ns:=lackL S as) (ms:=[]) (SqL.of (s3 _ _ h2)) (SqL.of h3) ?_
  have s23:=s2.trans s3
  refine q _ pk H3 s23.chg (s23 _ _ hpd) PP ?_
  rw [ll] at z
  constructor
  ·intro y
   exact .inl (by simpa using y)
  ·intro y
   rcases y with y | ⟨o,y,_⟩
   ·rw [y]; rfl
   ·exact absurd (by rw [y]; rfl) z
theorem ok_leastX (T : Txt K mg) : Cal P w K mg base 5 "_law_least" ["_law_pairs","_law_owed","_law_top","_law_most"] spLeastX:=by
 have B:=T.bl
 have C_l_reach:=(ok_reach (P:=P) (w:=w) (base:=base) T).mono (k:=4) (by decide)
 have C_l_ends:=ok_ends (P:=P) (w:=w) (base:=base) T
 refine mkCal T.t_l_least sc_l_least (fun vs H Q E h => ?_) (fun f cdv A outer s H vs Q E hr h => ?_)
 ·obtain ⟨_,_,_,_,_,_,rfl,_⟩:=h
  rfl
 obtain ⟨pd,l,pk,as,top,most,rfl,hpd,PP,hl,al,nd,a1,t1,t2,m4,q⟩:=h
 refine ⟨_,(pss_cons (ps_if (pt_cmpR (op_eqD hr) (pv 1) (pe_lst pa_nil) (nomark _)) (pss_one (ps_ret pe_int)) pss_nil)
  (pss_cons (ps_set (i:=4) sc_l_least.nd rfl (by walk_at "o") (pe_lst (pa_cons (pe_tup (pa_cons pe_int pa_nil)) pa_nil)))
  (pss_cons (ps_for PassesOwn.never rfl (pi_range2 rfl B.range (pa_cons pe_int (pa_cons (pe_op op_add (pv 3) pe_int) pa_nil))) (pg_name (i:=5) sc_l_least.nd rfl (by walk_at "o")) (pss_mid (ps_for PassesOwn.never rfl (pi_list (pv 4)) (pg_name (i:=6) sc_l_least.nd rfl (by walk_at "o")) (pss_one (ps_if (pt_val (pe_cal C_l_ends hr rfl (pa_cons (pv 0) (pa_cons (pv 6) (pa_cons (pv 1) (pa_cons (pv 2) pa_nil)))))) (pss_one (ps_ret (pv 5))) pss_nil)))
  (pss_cons (ps_set (i:=7) sc_l_least.nd rfl (by walk_at "o") pe_dnewT)
  (pss_mid (ps_for PassesOwn.never rfl (pi_list (pv 4)) (pg_name (i:=6) sc_l_least.nd rfl (by walk_at "o")) (pss_cons (ps_set (i:=8) sc_l_least.nd rfl (by walk_at "o") (pe_cal C_l_reach hr rfl (pa_cons (pv 0) (pa_cons (pv 6) (pa_cons (pv 2) pa_nil)))))
  (pss_one (ps_for PassesOwn.never rfl (pi_range3 rfl B.range (pa_cons pe_int (pa_cons (pe_op op_add (pv 2) pe_int) (pa_cons pe_int pa_nil)))) (pg_name (i:=9) sc_l_least.nd rfl (by walk_at "o")) (pss_one (ps_if (PW.pt (pw_and (pt_cmpR op_lt (pv 5) (pv 3) (nomark _)) (pw_and (pt_cmpR op_eq (pe_op op_and (pe_op op_shr (pv 8) (pv 9)) pe_int) pe_int (nomark _)) (pw_and1 (pt_cmpR op_notIn_seq (pv 9) (pv 6) (by with_unfolding_all rfl)))))) (pss_one (ps_dpT (hu_of hr) (pv 7) (pe_callTy call_tuple_of rfl B.tuple bo_tuple (pa_cons (pe_callB (call_sortT K) rfl B.sorted bo_sorted (pa_cons (pe_op (op_catCK K) (pv 6) (pe_tup (pa_cons (pv 9) pa_nil))) pa_nil)) pa_nil)) pe_bl rfl)) pss_nil))))))
  (pss_one (ps_set (i:=4) sc_l_least.nd rfl (by walk_at "o") (pe_callTy (call_list_tks hr) rfl B.list bo_list (pa_cons (pv 7) pa_nil))))))))
  (pss_one (ps_ret pe_non))))),?_⟩
 rw [show start ["_law_pairs","_law_owed","_law_top","_law_most","_law_sets","_law_count","_law_some","_law_later","_law_reach_here","_law_own"] [.ref pd,.ref l,.int top,.int (most : Int)] = [some (.ref pd),some (.ref l),some (.int top),some (.int (most : Int)),none,none,none,none,none,none] from rfl]
 have lp : l ≠ pd:=ne_of hl hpd (by intro y; cases y)
 refine seq_in fun R_ hR_ => ?_
 try walk_at "WP"
 intro e0 ne0
 refine abs_ ne0 fun H1 s1 h1 => ?_
 refine eqLI (ns:=as) (ms:=[]) (SqL.of (s1 _ _ hl)) (SqL.of h1) ?_
 try walk_at "WP"
 refine ite2 (fun z => ?_) (fun z => ?_)
 ·have ea : as = []:=by simpa using z
  exact q _ pk H1 s1.chg (s1 _ _ hpd) PP (.inr ⟨0,rfl,few_nil ea,fun _ => ea,fun _ => rfl⟩)
 have ea : as ≠ []:=by simpa using z
 (try (walk_at "WP")); (try (refine seq_out hR_ ?_)); (try (refine seq_in fun R_ hR_ => ?_)); (try (walk_at "WP"))
 intro t0 nt0
 refine abs_ nt0 fun H2 s2 h2 => ?_
 intro sa nsa
 refine abs_ nsa fun H3 s3 h3 => ?_
 have s13:=(s1.trans s2).trans s3
 have a0 : ∃ x ∈ as,x ≠ 1:=by
  obtain ⟨x,hx⟩:=List.exists_mem_of_ne_nil _ ea
  exact ⟨x,hx,fun e => by have:=a1 x hx; omega⟩
 subst hR_
 try walk_at "WP"
 refine ⟨⟨by omega,by omega⟩,?_⟩
 rw [show ((most : Int) + 1 - 1).toNat = most by omega]
 refine forR (fun i σ G => ∃ (sa : Addr) (us : List V) (L : List (List Int)) (pk : List (List Key × V)) (o5 o6 o7 o8 o9 : Option V),σ = [some (.ref pd),some (.ref l),some (.int top),some (.int (most : Int)),some (.ref sa),o5,o6,o7,o8,o9] /\ Chg pd H G /\ G pd = some (.dT pk) /\ PairsP top pk /\ (∀ d,d <= i -> ¬ Cov top d as) /\ G sa = some (.lst us) /\ HTs iT G us L /\ L.length <= 99 ^ i /\ (i < most -> LevP top (i + 1) L /\ ∀ S ∈ L,∃ own,RchO top (i + 1) own /\ ∀ x,x ∈ S ↔ x ∈ own)) ⟨sa,[.ref t0],[[1]],pk,none,none,none,none,none,rfl,s13.chg,s13 _ _ hpd,PP,fun d hd => by rw [Nat.le_zero.mp hd]; exact cov_zero a0,h3,hts_nil.snoc (s3 _ _ h2),by decide,fun _ => ⟨levP_one t1,sets_one⟩⟩ ?_ ?_
 ·rintro i σ G N hi ⟨sa,us,L,pk1,o5,o6,o7,o8,o9,rfl,C1,p1,PP1,no,hs1,ht1,lz,hL⟩ hN
  obtain ⟨LP,LR⟩:=hL hi
  have ul:=ht1.len
  have l3 : 99 ^ i <= 99 ^ 3:=Nat.pow_le_pow_right (by decide) (by omega)
  have sp : sa ≠ pd:=ne_of hs1 p1 (by intro y; cases y)
  try walk_at "WP"
  refine mid_of (fun σ G2 => ∃ (pk : List (List Key × V)) (o6 : Option V),σ = [some (.ref pd),some (.ref l),some (.int top),some (.int (most : Int)),some (.ref sa),some (.int (1 + (i : Int))),o6,o7,o8,o9] /\ Chg pd G G2 /\ G2 pd = some (.dT pk) /\ PairsP top pk /\ ∀ S ∈ L,¬ Fin_ top S as) (fun N1 hN1 => ?_) ?_
  ·try walk_at "WP"
   refine ⟨⟨_,SqL.of hs1⟩,?_⟩
   refine forL (xs:=us) (fun j σ G2 => ∃ (pk : List (List Key × V)) (o6 : Option V),σ = [some (.ref pd),some (.ref l),some (.int top),some (.int (most : Int)),some (.ref sa),some (.int (1 + (i : Int))),o6,o7,o8,o9] /\ Chg pd G G2 /\ G2 pd = some (.dT pk) /\ PairsP top pk /\ ∀ S ∈ L.take j,¬ Fin_ top S as) ⟨pk1,o6,rfl,Chg.refl,p1,PP1,fun S hS => absurd hS (by rw [List.take_zero]; exact List.not_mem_nil)⟩ ?_ ?_ ?_
   ·rintro j σ G2 _ ⟨_,_,_,C,_⟩
    exact SqL.of (C _ _ sp hs1)
   ·rintro j v σ G2 N2 hv ⟨pk2,o6,rfl,C2,p2,PP2,nf⟩ hN2
    have jl : j < L.length:=by rw [← ul]; exact (List.getElem?_eq_some_iff.mp hv).1
    have ej:=List.getElem?_eq_getElem jl
    obtain ⟨x,x1,x2⟩:=ht1.at_ j _ ej
    rw [hv] at x1
    cases x1
    have Sm:=List.mem_of_getElem? ej
    generalize L[j] = S at ej x2 Sm
    have hc2:=C2 _ _ (ne_of x2 p1 (by intro y; cases y)) x2
    have hl2:=C2 _ _ lp (C1 _ _ lp hl)
    try walk_at "WP"
    refine ⟨pd,x,l,pk2,S,as,top,rfl,p2,PP2,hc2,hl2,al,fun y hy => by have:=a1 y hy; omega,LP.od S Sm,t1,t2,by have:=LP.len S Sm; omega,fun b pk3 G3 C3 p3 PP3 hb => ?_⟩
    try walk_at "WP"
    refine ite2 (fun z => ?_) (fun z => ?_)
    ·have F:=fin_cov LP Sm no (hb.mp z)
     refine q _ pk3 G3 ((C1.trans C2).trans C3) p3 PP3 (.inr ⟨i + 1,by rw [show (1 : Int) + (i : Int) = ((i + 1 : Nat) : Int) by omega],.inr ⟨i + 1,by omega,rfl,F.1,fun e he => no e (by omega)⟩,fun y => by omega,fun y => absurd y ea⟩)
    ·refine hN2 _ _ ⟨pk3,_,rfl,C2.trans C3,p3,PP3,fun S' hS' => ?_⟩
     rw [List.take_succ,ej,Option.toList_some] at hS'
     rcases List.mem_append.mp hS' with y | y
     ·exact nf S' y
     ·rw [List.mem_singleton.mp y]
      exact fun f => z (hb.mpr f)
   ·rintro σ G2 ⟨pk2,o6,rfl,C2,p2,PP2,nf⟩
    rw [ul,List.take_length] at nf
    exact hN1 _ _ ⟨pk2,o6,rfl,C2,p2,PP2,nf⟩
  ·rintro σ G2 ⟨pk2,o6,rfl,C2,p2,PP2,nf⟩
   have nc:=nofin_cov LP nd nf
   try walk_at "WP"
   intro ld nld
   refine abs_ nld fun G3 s3' hd3 => ?_
   have ldp : ld ≠ pd:=(ne_of_none p2 nld).symm
   have hs3:=s3' _ _ (C2 _ _ sp hs1)
   have ht3:=((ht1.chgO p1 (by intro ys z; cases z) C2).same s3')
   have p3:=s3' _ _ p2
   have sld : sa ≠ ld:=ne_of_none (C2 _ _ sp hs1) nld
   refine mid_of (fun σ G4 => ∃ (pk : List (List Key × V)) (kvs : List (List Key × V)) (Ss : List (List Int)) (o6 o8 o9 : Option V),σ = [some (.ref pd),some (.ref l),some (.int top),some (.int (most : Int)),some (.ref sa),some (.int (1 + (i : Int))),o6,some (.ref ld),o8,o9] /\ Chg pd G2 G4 /\ G4 pd = some (.dT pk) /\ PairsP top pk /\ G4 ld = some (.dT kvs) /\ KsT kvs Ss /\ (i + 1 < most -> ∀ S,S ∈ Ss ↔ ∃ S0 ∈ L,∃ o ∈ moreL S0 top,S = sortI (S0 ++ [o])) /\ Ss.length <= 99 * L.length) (fun N1 hN1 => ?_) ?_
   ·try walk_at "WP"
    refine ⟨⟨_,SqL.of hs3⟩,?_⟩
    refine forL (xs:=us) (fun j σ G4 => ∃ (pk : List (List Key × V)) (kvs : List (List Key × V)) (Ss : List (List Int)) (o6 o8 o9 : Option V),σ = [some (.ref pd),some (.ref l),some (.int top),some (.int (most : Int)),some (.ref sa),some (.int (1 + (i : Int))),o6,some (.ref ld),o8,o9] /\ Chg pd G2 G4 /\ G4 pd = some (.dT pk) /\ PairsP top pk /\ G4 ld = some (.dT kvs) /\ KsT kvs Ss /\ (i + 1 < most -> ∀ S,S ∈ Ss ↔ ∃ S0 ∈ L.take j,∃ o ∈ moreL S0 top,S = sortI (S0 ++ [o])) /\ Ss.length <= 99 * j) ⟨pk2,[],[],o6,o8,o9,rfl,s3'.chg,p3,PP2,hd3,rfl,fun _ S => ⟨fun z => (nomatch z),fun ⟨S0,z,_⟩ => (nomatch z)⟩,Nat.zero_le _⟩ ?_ ?_ ?_
    ·rintro j σ G4 _ ⟨_,_,_,_,_,_,_,C,_⟩
     exact SqL.of (C _ _ sp (C2 _ _ sp hs1))
    ·rintro j v σ G4 N2 hv ⟨pk4,kvs,Ss,o6,o8,o9,rfl,C4,p4,PP4,d4,ks,hS,hc4⟩ hN2
     have jl : j < L.length:=by rw [← ul]; exact (List.getElem?_eq_some_iff.mp hv).1
     have ej:=List.getElem?_eq_getElem jl
     obtain ⟨x,x1,x2⟩:=(ht1.chgO p1 (by intro ys z; cases z) C2).at_ j _ ej
     rw [hv] at x1
     cases x1
     have Sm:=List.mem_of_getElem? ej
     generalize L[j] = S0 at ej x2 Sm
     have xp : x ≠ pd:=ne_of x2 p2 (by intro y; cases y)
     have hc2:=C4 _ _ xp x2
     refine seq_inG fun R_ hR_ => ?_
     try walk_at "WP"
     refine ⟨pd,x,pk4,S0,top,rfl,p4,PP4,hc2,LP.od S0 Sm,t1,t2,by have:=LP.len S0 Sm; omega,fun pk5 G5 C5 p5 PP5 => ?_⟩
     have hc5:=C5 _ _ xp hc2
     have d5:=C5 _ _ ldp d4
     (try (walk_at "WP")); (try (refine seq_out hR_ ?_)); (try (refine seq_in fun R_ hR_ => ?_)); (try (walk_at "WP"))
     refine ⟨3,top + 1,2,⟨rfl,rfl,rfl⟩,⟨by decide,by decide,by omega,by omega,rfl⟩,?_⟩
     obtain ⟨st50,stm⟩:=odd_from3 t1 t2
     refine forR3 (fun c σ G6 => ∃ (kvs : List (List Key × V)) (Ss : List (List Int)) (o9 : Option V),σ = [some (.ref pd),some (.ref l),some (.int top),some (.int (most : Int)),some (.ref sa),some (.int (1 + (i : Int))),some (.ref x),some (.ref ld),some (.int (maskN (madeL S0 top) : Nat)),o9] /\ Chg ld G5 G6 /\ G6 ld = some (.dT kvs) /\ KsT kvs Ss /\ (i + 1 < most -> ∀ S,S ∈ Ss ↔ (∃ S0 ∈ L.take j,∃ o ∈ moreL S0 top,S = sortI (S0 ++ [o])) \/ ∃ o ∈ moreL S0 top,(∃ d : Nat,d < c /\ o = 3 + (d : Int) * 2) /\ S = sortI (S0 ++ [o])) /\ Ss.length <= 99 * j + c) ⟨kvs,Ss,o9,rfl,Chg.refl,d5,ks,fun h S => by rw [hS h]; exact ⟨.inl,fun z => z.elim id fun ⟨_,_,⟨_,y,_⟩,_⟩ => absurd y (Nat.not_lt_zero _)⟩,hc4⟩ ?_ ?_
     ·rintro c σ G6 N6 hc ⟨kvs,Ss,o9,rfl,C6,d6,ks,hS,hc6⟩ hN6
      have b0 : (0 : Int) <= 3 + (c : Int) * 2:=by omega
      have skip : (i + 1 < most -> 3 + (c : Int) * 2 ∈ moreL S0 top -> False) -> N6 [some (.ref pd),some (.ref l),some (.int top),some (.int (most : Int)),some (.ref sa),some (.int (1 + (i : Int))),some (.ref x),some (.ref ld),some (.int (maskN (madeL S0 top) : Nat)),some (.int (3 + (c : Int) * 2))] G6:=fun hs => by
       refine hN6 _ _ ⟨kvs,Ss,_,rfl,C6,d6,ks,fun h S => ?_,by omega⟩
       rw [hS h]
       refine or_congr Iff.rfl ⟨fun ⟨o,a,⟨d,b,e⟩,f⟩ => ⟨o,a,⟨d,by omega,e⟩,f⟩,fun ⟨o,a,⟨d,b,e⟩,f⟩ => ⟨o,a,⟨d,?_,e⟩,f⟩⟩
       rcases Nat.lt_or_ge d c with y | y
       ·exact y
       ·exact (hs h (by rw [show 3 + (c : Int) * 2 = o by rw [e]; omega]; exact a)).elim
      have bitm : ((maskN (madeL S0 top) : Int) / 2 ^ (3 + (c : Int) * 2).toNat) % 2 = 1 ↔ 3 + (c : Int) * 2 ∈ madeL S0 top:=by
       rw [bit_test,mask_bit made_nn,Int.toNat_of_nonneg b0]
      have add : ∀ S,(∃ o ∈ moreL S0 top,(∃ d : Nat,d < c /\ o = 3 + (d : Int) * 2) /\ S = sortI (S0 ++ [o])) \/ (3 + (c : Int) * 2 ∈ moreL S0 top /\ S = sortI (S0 ++ [3 + (c : Int) * 2])) ↔ ∃ o ∈ moreL S0 top,(∃ d : Nat,d < c + 1 /\ o = 3 + (d : Int) * 2) /\ S = sortI (S0 ++ [o]):=fun S => by
       constructor
       ·rintro (⟨o,a,⟨d,b,e⟩,f⟩ | ⟨a,f⟩)
        ·exact ⟨o,a,⟨d,by omega,e⟩,f⟩
        ·exact ⟨_,a,⟨c,by omega,rfl⟩,f⟩
       ·rintro ⟨o,a,⟨d,b,e⟩,f⟩
        rcases Nat.lt_or_ge d c with y | y
        ·exact .inl ⟨o,a,⟨d,y,e⟩,f⟩
        ·have eo : o = 3 + (c : Int) * 2:=by rw [e]; omega
         rw [eo] at a f
         exact .inr ⟨a,f⟩
      generalize 3 + (c : Int) * 2 = b at b0 skip bitm add ⊢
      have hc6':=C6 _ _ (ne_of hc5 d5 (by intro y; cases y)) hc5
      (iterate 5 ((try (walk_at "WP")); (try (simp only [and1,Option.some.injEq,HO.tup.injEq,HO.lst.injEq,HO.dK.injEq,exists_eq_left',exists_eq_left])))); (try (walk_at "WP"))
      refine ite2 (fun z1 => ?_) (fun z1 => skip fun h => absurd (show (1 : Int) + (i : Int) < (most : Int) by omega) z1)
      refine ⟨b0,?_⟩
      refine ite2 (fun z2 => ?_) (fun z2 => skip fun _ h => z2 (bitm.mpr (mem_more.mp h).1))
      refine ⟨x,S0.map V.int,rfl,.inr (SqT.of hc6'),rfl,flat_ints S0,?_⟩
      rw [if_pos rfl,inV_i]
      by_cases z3 : b ∈ S0
      ·rw [decide_eq_true z3]
       exact ⟨_,rfl,skip fun _ h => (mem_more.mp h).2 z3⟩
      rw [decide_eq_false z3]
      have bm : b ∈ moreL S0 top:=mem_more.mpr ⟨bitm.mp z2,z3⟩
      have sl:=LP.len S0 Sm
      refine ⟨_,rfl,?_⟩
      rw [Bool.not_false,if_pos rfl]
      intro p np
      refine abs_ np fun H7 s7 h7 => ?_
      refine ⟨x,p,S0.map V.int,[.int b],rfl,rfl,SqT.of (s7 _ _ hc6'),SqT.of h7,le_big (by rw [List.length_map]; show _ + 1 <= _; omega),fun r H8 s8 hr8 => ?_⟩
      rw [show S0.map V.int ++ [V.int b] = (S0 ++ [b]).map V.int by rw [List.map_append]; rfl] at hr8
      refine ⟨r,S0 ++ [b],rfl,hr8,by rw [List.length_append]; show _ + 1 < _; omega,fun l1 nl1 => ?_⟩
      refine abs_ nl1 fun H9 s9 h9 => ?_
      have s69:=(s7.trans s8).trans s9
      refine ⟨l1,rfl,_,.inl ⟨SqL.of h9,fun l2 nl2 => ?_⟩⟩
      have s10:=same_new nl2 (.tup ((sortI (S0 ++ [b])).map V.int))
      have ul2:=ks.len
      refine ⟨sortI (S0 ++ [b]),kvs,s10 _ _ (s69 _ _ d6),rfl,by rw [ul2]; exact Nat.lt_of_le_of_lt (m:=1000000) (by have:=Nat.le_trans lz (Nat.pow_le_pow_right (by decide) (by omega : i <= 2)); omega) (by decide),?_⟩
      refine hN6 _ _ ⟨_,_,_,rfl,C6.trans ((s69.trans s10).chg.trans (Chg.upd _)),upd_same,ks.put _ _,fun h S => ?_,?_⟩
      ·rw [← add S,← or_assoc,← hS h]
       split
       ·rename_i y
        exact ⟨.inl,fun u => u.elim id fun u => by rw [u.2]; exact y⟩
       ·rw [List.mem_append,List.mem_singleton]
        exact or_congr Iff.rfl ⟨fun u => ⟨bm,u⟩,fun u => u.2⟩
      ·split
       ·omega
       ·rw [List.length_append,List.length_singleton]; omega
     ·rintro σ G6 ⟨kvs,Ss,o9,rfl,C6,d6,ks,hS,hc6⟩
      have C26 : Chg pd G2 G6:=(C4.trans C5).two nld C6
      subst hR_
      refine hN2 _ _ ⟨pk5,kvs,Ss,_,_,_,rfl,C26,C6 _ _ ldp.symm p5,PP5,d6,ks,fun h S => ?_,by omega⟩
      rw [hS h,List.take_succ,ej,Option.toList_some]
      constructor
      ·rintro (⟨S',a,b⟩ | ⟨o,a,_,b⟩)
       ·exact ⟨S',List.mem_append_left _ a,b⟩
       ·exact ⟨S0,List.mem_append_right _ (List.mem_singleton.mpr rfl),o,a,b⟩
      ·rintro ⟨S',a,o,b,e⟩
       rcases List.mem_append.mp a with y | y
       ·exact .inl ⟨S',y,o,b,e⟩
       ·rw [List.mem_singleton.mp y] at b e
        refine .inr ⟨o,b,?_,e⟩
        obtain ⟨hm,hno⟩:=mem_more.mp b
        have hin:=made_in hm
        have ho:=made_odd hm
        have o1 : o ≠ 1:=fun e => by
         obtain ⟨own,hr,he⟩:=LR S0 Sm
         exact hno ((he o).mpr (by rw [e]; exact rch_has hr))
        exact stm o (by omega) hin.2 ho
    ·rintro σ G4 ⟨pk4,kvs,Ss,o6,o8,o9,rfl,C4,p4,PP4,d4,ks,hS,hc4⟩
     rw [ul,List.take_length] at hS
     rw [ul] at hc4
     exact hN1 _ _ ⟨pk4,kvs,Ss,o6,o8,o9,rfl,C4,p4,PP4,d4,ks,hS,hc4⟩
   ·rintro σ G4 ⟨pk4,kvs,Ss,o6,o8,o9,rfl,C4,p4,PP4,d4,ks,hS,hc4⟩
    (try (walk_at "WP")); (try (refine seq_out hR_ ?_)); (try (refine seq_in fun R_ hR_ => ?_)); (try (walk_at "WP"))
    refine ⟨ld,kvs,rfl,d4,fun a ws na tk => ?_⟩
    rw [ks] at tk
    have ht:=tks_hts tk
    have s4:=same_new na (.lst ws)
    have lz' : Ss.length <= 99 ^ (i + 1):=by
     rw [Nat.pow_succ]
     have:=Nat.mul_le_mul_right 99 lz
     omega
    refine hN _ _ ⟨a,ws,Ss,pk4,_,_,_,_,_,rfl,((C1.trans C2).trans C4).trans s4.chg,s4 _ _ p4,PP4,fun d hd => ?_,upd_same,ht.same s4,lz',fun h => levP_more LP LR (by omega) (hS h)⟩
    rcases Nat.lt_or_ge i d with y | y
    ·rw [show d = i + 1 by omega]; exact nc
    ·exact no d y
 ·rintro σ G ⟨sa,us,L,pk1,o5,o6,o7,o8,o9,rfl,C1,p1,PP1,no,hs1,ht1,lz,hL⟩
  try walk_at "WP"
  exact q _ pk1 G C1 p1 PP1 (.inl ⟨rfl,.inl ⟨rfl,no⟩⟩)
end

section
variable {P : Program} {w : World} {K : PySem.W.Frag} {mg : Str -> Option Value} {base : Heap}
theorem ok_iswh (T : Txt K mg) : Cal P w K mg base 1 "_law_is_whole" ["_law_thing"] spWhole:=by
 have B:=T.bl
 refine mkCal T.t_l_is_whole sc_l_is_whole (fun vs H Q E h => ?_) (fun f cdv A outer s H vs Q E hr h => ?_)
 ·obtain ⟨i,rfl,_⟩:=h
  rfl
 obtain ⟨i,rfl,q⟩:=h
 refine ⟨_,(pss_one (ps_ret (pe_and (pe_callB call_isI rfl B.isinstance bo_isinstance (pa_cons (pv 0) (pa_cons (pe_bltn (v:=.ty "int") rfl B.int bo_int rfl) pa_nil))) (pe_one (pe_not (pe_callB call_isI rfl B.isinstance bo_isinstance (pa_cons (pv 0) (pa_cons (pe_bltn (v:=.ty "bool") rfl B.bool bo_bool rfl) pa_nil)))))))),?_⟩
 rw [show start ["_law_thing"] [.int i] = [some (.int i)] from rfl]
 try walk_at "WP"
 exact q
theorem ok_part36 (T : Txt K mg) : Cal P w K mg base 2 "_law_part" ["_law_told","_law_thing","_law_shift"] spPart36:=by
 have B:=T.bl
 have C_l_is_whole:=ok_iswh (P:=P) (w:=w) (base:=base) T
 refine mkCal T.t_l_part sc_l_part (fun vs H Q E h => ?_) (fun f cdv A outer s H vs Q E hr h => ?_)
 ·obtain ⟨l,ns,th,sh,rfl,_⟩:=h
  rfl
 obtain ⟨l,ns,th,sh,rfl,hl,ht,ex,h0,h1,hb,q⟩:=h
 have et:=List.getElem?_eq_getElem ht
 have hat : atI (ns.map V.int) (th : Int) = some (.int (ns.getD th 0)):=atI_nat (by rw [List.getElem?_map,et,getD_of et]; rfl)
 generalize ns.getD th 0 = n at *
 refine ⟨_,(pss_cons (ps_if (PW.pt (pw_or (pt_not (pt_val (pe_cal C_l_is_whole hr rfl (pa_cons (pv 1) pa_nil)))) (pw_or (pt_not (pt_val (pe_cal C_l_is_whole hr rfl (pa_cons (pv 2) pa_nil)))) (pw_or1 (pt_not (pt_chain op_le op_lt pe_int (pv 1) (pe_callB call_lenM rfl B.len bo_len (pa_cons (pv 0) pa_nil)))))))) (pss_one (ps_ret pe_non)) pss_nil)
  (pss_cons (ps_if (pt_cmpR op_ge (pv 2) pe_int (nomark _)) (pss_one (ps_ret (pe_op op_shlB (pe_ix ix_M (pv 0) (pv 1) (fun _ _ => rfl)) (pv 2)))) pss_nil)
  (pss_cons (ps_if (pt_cmpR op_ne (pe_op op_mod (pe_ix ix_M (pv 0) (pv 1) (fun _ _ => rfl)) (pe_op op_shlB pe_int (pe_un un_neg (pv 2)))) pe_int (nomark _)) (pss_one (ps_ret pe_non)) pss_nil)
  (pss_one (ps_ret (pe_op op_shr (pe_ix ix_M (pv 0) (pv 1) (fun _ _ => rfl)) (pe_un un_neg (pv 2)))))))),?_⟩
 rw [show start ["_law_told","_law_thing","_law_shift"] [.ref l,.int (th : Int),.int sh] = [some (.ref l),some (.int (th : Int)),some (.int sh)] from rfl]
 (iterate 5 ((try (walk_at "WP")); (try (simp only [hl,Option.some.injEq,HO.tup.injEq,HO.lst.injEq,HO.dK.injEq,exists_eq_left',exists_eq_left])))); (try (walk_at "WP"))
 refine ⟨_,rfl,?_⟩
 (iterate 5 ((try (walk_at "WP")); (try (simp only [hl,Option.some.injEq,HO.tup.injEq,HO.lst.injEq,HO.dK.injEq,exists_eq_left',exists_eq_left])))); (try (walk_at "WP"))
 refine ⟨_,rfl,?_⟩
 (iterate 5 ((try (walk_at "WP")); (try (simp only [hl,Option.some.injEq,HO.tup.injEq,HO.lst.injEq,HO.dK.injEq,exists_eq_left',exists_eq_left])))); (try (walk_at "WP"))
 rw [if_pos (by omega : (0 : Int) <= th),if_neg (by rw [List.length_map]; omega)]
 by_cases c : 0 <= sh
 ·rw [if_pos c]
  refine ⟨_,hat,?_⟩
  try walk_at "WP"
  rw [mvI_up c] at q
  have bl:=bits_le hb
  clear hb
  exact ⟨⟨c,by omega⟩,q⟩
 ·rw [if_neg c]
  refine ⟨_,hat,⟨by omega,by omega⟩,?_⟩
  (iterate 5 ((try (walk_at "WP")); (try (simp only [hl,Option.some.injEq,HO.tup.injEq,HO.lst.injEq,HO.dK.injEq,exists_eq_left',exists_eq_left])))); (try (walk_at "WP"))
  rw [Int.one_mul]
  refine ⟨pow_pos2 _,?_⟩
  (iterate 5 ((try (walk_at "WP")); (try (simp only [hl,Option.some.injEq,HO.tup.injEq,HO.lst.injEq,HO.dK.injEq,exists_eq_left',exists_eq_left])))); (try (walk_at "WP"))
  rw [if_neg (fun z => z (Int.emod_eq_zero_of_dvd (ex (by omega))))]
  refine ⟨_,hat,?_⟩
  try walk_at "WP"
  rw [mvI_down (by omega)] at q
  exact ⟨by omega,q⟩
theorem ok_walk36 (T : Txt K mg) : Cal P w K mg base 3 "_law_walked" ["_law_deeds"] spWalk36:=by
 have B:=T.bl
 have C_l_part:=ok_part36 (P:=P) (w:=w) (base:=base) T
 refine mkCal T.t_l_walked sc_l_walked (fun vs H Q E h => ?_) (fun f cdv A outer s H vs Q E hr h => ?_)
 ·obtain ⟨dl,us,ds,cs,rfl,_⟩:=h
  rfl
 obtain ⟨dl,us,ds,cs,rfl,hl,ht,R,dl10,q⟩:=h
 have ul:=ht.len
 refine ⟨_,(pss_cons (ps_set (i:=1) sc_l_walked.nd rfl (by walk_at "o") (pe_lst (pa_cons pe_int pa_nil)))
  (pss_cons (ps_for PassesOwn.never rfl (pi_list (pv 0)) (pg_name (i:=2) sc_l_walked.nd rfl (by walk_at "o")) (pss_cons (ps_if (PW.pt (pw_or (pt_not (pt_val (pe_callB call_isI rfl B.isinstance bo_isinstance (pa_cons (pv 2) (pa_cons (pe_bltn (v:=.ty "tuple") rfl B.tuple bo_tuple rfl) pa_nil))))) (pw_or (pt_cmpR op_ne (pe_callB call_lenU rfl B.len bo_len (pa_cons (pv 2) pa_nil)) pe_int (nomark _)) (pw_or1 (pt_cmpR op_notIn_seq (pe_ix ix_U (pv 2) pe_int (fun _ _ => rfl)) (pe_tup (pa_cons pe_str (pa_cons pe_str pa_nil))) (by with_unfolding_all rfl)))))) (pss_one (ps_ret pe_non)) pss_nil)
  (pss_cons (ps_set (i:=3) sc_l_walked.nd rfl (by walk_at "o") (pe_cal C_l_part hr rfl (pa_cons (pv 1) (pa_cons (pe_ix ix_U (pv 2) pe_int (fun _ _ => rfl)) (pa_cons (pe_ix ix_U (pv 2) pe_int (fun _ _ => rfl)) pa_nil)))))
  (pss_cons (ps_set (i:=4) sc_l_walked.nd rfl (by walk_at "o") (pe_cal C_l_part hr rfl (pa_cons (pv 1) (pa_cons (pe_ix ix_U (pv 2) pe_int (fun _ _ => rfl)) (pa_cons (pe_ix ix_U (pv 2) pe_int (fun _ _ => rfl)) pa_nil)))))
  (pss_cons (ps_if (PW.pt (pw_or (pt_cmp (pc_isN (pv 3))) (pw_or1 (pt_cmp (pc_isN (pv 4)))))) (pss_one (ps_ret pe_non)) pss_nil)
  (pss_one (ps_expr (pe_bm PySem.F.plainAttrs_list PySem.F.slot_list_append PySem.F.type_list_append mt_append (pv 1) (pa_cons (pe_ix ix_M (pe_lst (pa_cons (pe_op op_sub (pv 3) (pv 4)) (pa_cons (pe_op op_add (pv 3) (pv 4)) pa_nil))) (pe_callTy call_int1 rfl B.int bo_int (pa_cons (pe_cmpR op_eq (pe_ix ix_U (pv 2) pe_int (fun _ _ => rfl)) pe_str (nomark _)) pa_nil)) (fun _ _ => rfl)) pa_nil)))))))))
  (pss_one (ps_ret (pv 1))))),?_⟩
 rw [show start ["_law_deeds","_law_told","_law_deed","_law_one","_law_other"] [.ref dl] = [some (.ref dl),none,none,none,none] from rfl]
 try walk_at "WP"
 intro r nr
 refine abs_ nr fun H1 s1 h1 => ?_
 try walk_at "WP"
 refine ⟨⟨_,SqL.of (s1 _ _ hl)⟩,?_⟩
 refine forL (xs:=us) (fun i σ H' => ∃ o2 o3 o4,σ = [some (.ref dl),some (.ref r),o2,o3,o4] /\ H' r = some (.lst ((valsW [1] (ds.take i)).map V.int)) /\ Same H H') ⟨none,none,none,rfl,h1,s1⟩ (fun i σ H' _ z => by obtain ⟨_,_,_,_,_,s⟩:=z; exact SqL.of (s _ _ hl)) ?_ ?_
 ·rintro i x σ H2 N hx ⟨o2,o3,o4,rfl,h2,s2⟩ hN
  have hi : i < ds.length:=by rw [← ul]; exact (List.getElem?_eq_some_iff.mp hx).1
  have hdi : ds[i]? = some ds[i]:=List.getElem?_eq_getElem hi
  generalize ds[i] = d at hdi
  obtain ⟨y,hy1,hy2⟩:=ht.at_ i d hdi
  rw [hy1] at hx
  cases hx
  obtain ⟨da,db,dw,sa,sb⟩:=R.dk i d hdi
  have hy:=s2 _ _ hy2
  unfold wTup at hy
  have vl : (valsW [1] (ds.take i)).length = 1 + i:=by rw [valsW_len,List.length_take]; show 1 + _ = _; omega
  have ea : (valsW [1] (ds.take i)).getD d.a 0 = (valsW [1] ds).getD d.a 0:=valsW_takeD (by omega) da
  have eb : (valsW [1] (ds.take i)).getD d.b 0 = (valsW [1] ds).getD d.b 0:=valsW_takeD (by omega) db
  have bd : ∀ j,j < 1 + ds.length -> ((valsW [1] ds).getD j 0).natAbs < 2 ^ 400:=fun j hj => by
   obtain ⟨v,_,e,hv⟩:=valsW_at (xs:=[1]) (ds:=ds) (j:=j) hj
   rw [e]
   exact Nat.lt_trans (R.co v hv).2.2 (Nat.pow_lt_pow_right (by decide) (by decide))
  (iterate 5 ((try (walk_at "WP")); (try (simp only [hy,Option.some.injEq,HO.tup.injEq,HO.lst.injEq,HO.dK.injEq,exists_eq_left',exists_eq_left])))); (try (walk_at "WP"))
  rw [isI_tt hy]
  (iterate 5 ((try (walk_at "WP")); (try (simp only [hy,Option.some.injEq,HO.tup.injEq,HO.lst.injEq,HO.dK.injEq,exists_eq_left',exists_eq_left])))); (try (walk_at "WP"))
  rw [if_neg (show ¬ ¬ (((0 + 1 + 1 + 1 + 1 + 1 : Nat) : Int) = 5) by decide)]
  intro t nt
  have st:=same_new nt (.tup [V.str "sum",V.str "less"])
  refine in_tup upd_same rfl rfl ?_
  have hin : (if true then !inV (.str d.w) [V.str "sum",V.str "less"] else inV (.str d.w) [V.str "sum",V.str "less"]) = false:=by
   rcases dw with e | e <;> rw [e] <;> decide
  rw [hin]
  have hy3:=st _ _ hy
  have h3:=st _ _ h2
  have s3:=s2.trans st
  generalize upd H2 t (.tup [V.str "sum",V.str "less"]) = H3 at st s3 hy3 h3 ⊢
  (iterate 5 ((try (walk_at "WP")); (try (simp only [hy3,Option.some.injEq,HO.tup.injEq,HO.lst.injEq,HO.dK.injEq,exists_eq_left',exists_eq_left])))); (try (walk_at "WP"))
  refine ⟨r,_,d.a,d.s,rfl,h3,by omega,by rw [ea]; exact sa.1,sa.2.1,by omega,by rw [ea]; exact bd _ (by omega),?_⟩
  (iterate 5 ((try (walk_at "WP")); (try (simp only [hy3,Option.some.injEq,HO.tup.injEq,HO.lst.injEq,HO.dK.injEq,exists_eq_left',exists_eq_left])))); (try (walk_at "WP"))
  refine ⟨_,rfl,?_⟩
  refine ⟨r,_,d.b,d.t,rfl,h3,by omega,by rw [eb]; exact sb.1,sb.2.1,by omega,by rw [eb]; exact bd _ (by omega),?_⟩
  (iterate 5 ((try (walk_at "WP")); (try (simp only [hy3,Option.some.injEq,HO.tup.injEq,HO.lst.injEq,HO.dK.injEq,exists_eq_left',exists_eq_left])))); (try (walk_at "WP"))
  refine ⟨ty_list h3,fun t2 nt2 => ?_⟩
  refine abs_ nt2 fun H4 s4 h4 => ?_
  have hsl : ¬ ("less" : Str) = "sum":=by decide
  refine ⟨_,s4 _ _ hy3,_,rfl,?_⟩
  (iterate 5 ((try (walk_at "WP")); (try (simp only [h4,Option.some.injEq,HO.tup.injEq,HO.lst.injEq,HO.dK.injEq,exists_eq_left',exists_eq_left])))); (try (walk_at "WP"))
  refine ⟨.int (valD (valsW [1] (ds.take i)) d),?_,_,s4 _ _ h3,by rw [List.length_map,vl]; exact lt_big (by omega),hN _ _ ⟨_,_,_,rfl,?_,same_upd nr (s3.trans s4)⟩⟩
  ·unfold valD sgW
   rcases dw with e | e
   ·rw [e,if_pos rfl,if_neg (fun z => hsl z.symm),Int.one_mul]
    rfl
   ·rw [e,if_neg hsl,if_pos rfl,show ∀ a b : Int,a + -1 * b = a - b from fun a b => by omega]
    rfl
  ·rw [upd_same,valsW_take hdi,List.map_append]
   rfl
 ·rintro σ H2 ⟨o2,o3,o4,rfl,h2,s2⟩
  try walk_at "WP"
  rw [ul,List.take_length] at h2
  exact q _ _ s2 h2
theorem ok_isrow36 (T : Txt K mg) : Cal P w K mg base 4 "_law_is_row" ["_law_web","_law_row_here","_law_top","_law_count"] (spIsRow36 K):=by
 have B:=T.bl
 have C_l_is_whole:=(ok_iswh (P:=P) (w:=w) (base:=base) T).mono (k:=3) (by decide)
 have C_l_part:=(ok_part36 (P:=P) (w:=w) (base:=base) T).mono (k:=3) (by decide)
 have C_l_odd:=(ok_odd36 (P:=P) (w:=w) (base:=base) T).mono (k:=3) (by decide)
 have C_l_walked:=ok_walk36 (P:=P) (w:=w) (base:=base) T
 refine mkCal T.t_l_is_row sc_l_is_row (fun vs H Q E h => ?_) (fun f cdv A outer s H vs Q E hr h => ?_)
 ·obtain ⟨_,_,_,_,_,_,_,_,_,_,_,rfl,_⟩:=h
  rfl
 obtain ⟨w0,l,dl,gl,us,os,ds,gs,xs,cs,top,rfl,hw,hd,htd,hg,hkg,hl,R,d10,hc,x60,⟨gx,O⟩,q⟩:=h
 have ul:=htd.len
 have ol:=hkg.len
 have R_co:=R.co
 refine ⟨_,(pss_cons (ps_if (PW.pt (pw_or (pt_not (pt_val (pe_callB call_isI rfl B.isinstance bo_isinstance (pa_cons (pv 0) (pa_cons (pe_bltn (v:=.ty "tuple") rfl B.tuple bo_tuple rfl) pa_nil))))) (pw_or (pt_cmpR op_ne (pe_callB call_lenU rfl B.len bo_len (pa_cons (pv 0) pa_nil)) pe_int (nomark _)) (pw_or (pt_not (pt_val (pe_cal C_l_is_whole hr rfl (pa_cons (pe_ix ix_U (pv 0) pe_int (fun _ _ => rfl)) pa_nil)))) (pw_or1 (pt_cmpR op_ne (pe_ix ix_U (pv 0) pe_int (fun _ _ => rfl)) pe_int (nomark _))))))) (pss_one (ps_ret pe_bl)) pss_nil)
  (pss_cons (ps_if (PW.pt (pw_or (pt_not (pt_val (pe_callB call_isI rfl B.isinstance bo_isinstance (pa_cons (pe_ix ix_U (pv 0) pe_int (fun _ _ => rfl)) (pa_cons (pe_bltn (v:=.ty "list") rfl B.list bo_list rfl) pa_nil))))) (pw_or (pt_not (pt_val (pe_callB call_isI rfl B.isinstance bo_isinstance (pa_cons (pe_ix ix_U (pv 0) pe_int (fun _ _ => rfl)) (pa_cons (pe_bltn (v:=.ty "list") rfl B.list bo_list rfl) pa_nil))))) (pw_or1 (pt_cmpR op_ne (pe_callB call_lenM rfl B.len bo_len (pa_cons (pe_ix ix_U (pv 0) pe_int (fun _ _ => rfl)) pa_nil)) (pv 3) (nomark _)))))) (pss_one (ps_ret pe_bl)) pss_nil)
  (pss_cons (ps_set (i:=4) sc_l_is_row.nd rfl (by walk_at "o") (pe_cal C_l_walked hr rfl (pa_cons (pe_ix ix_U (pv 0) pe_int (fun _ _ => rfl)) pa_nil)))
  (pss_cons (ps_if (PW.pt (pw_or (pt_cmp (pc_isN (pv 4))) (pw_or (pt_cmpR (op_neE hr) (pe_comp0 (N:=["_law_number","_law_top"]) (nt:=1) (cs:=[2]) rfl (pi_list (pv 4)) (fun nd C s H fp => ⟨(pg_name (i:=0) nd rfl (by walk_at "o")),(pn_one (pt_cmpR op_gt (pe_cal C_l_odd hr rfl (pa_cons (pv 0) pa_nil)) (pv 1) (nomark _))),(pv 0)⟩) (by decide +kernel) (by first | rfl | decide +kernel) (by first | rfl | decide +kernel) rfl (fun _ => rfl)) (pe_lst pa_nil) (nomark _)) (pw_or1 (pt_cmpR op_ne (pe_callB call_lenM rfl B.len bo_len (pa_cons (pe_ix ix_U (pv 0) pe_int (fun _ _ => rfl)) pa_nil)) (pe_callB call_lenM rfl B.len bo_len (pa_cons (pv 1) pa_nil)) (nomark _)))))) (pss_one (ps_ret pe_bl)) pss_nil)
  (pss_cons (ps_for PassesOwn.never rfl (pi_zip rfl B.zip (pa_cons (pe_ix ix_U (pv 0) pe_int (fun _ _ => rfl)) (pa_cons (pv 1) pa_nil))) (pg_tupM 2 rfl (pgs_cons (pg_name (i:=5) sc_l_is_row.nd rfl (by walk_at "o")) (pgs_cons (pg_name (i:=6) sc_l_is_row.nd rfl (by walk_at "o")) pgs_nil))) (pss_cons (ps_if (PW.pt (pw_or (pt_not (pt_val (pe_callB call_isT rfl B.isinstance bo_isinstance (pa_cons (pv 5) (pa_cons (pe_bltn (v:=.ty "tuple") rfl B.tuple bo_tuple rfl) pa_nil))))) (pw_or (pt_cmpR op_ne (pe_callB call_len_seq rfl B.len bo_len (pa_cons (pv 5) pa_nil)) pe_int (nomark _)) (pw_or (pt_not (pt_val (pe_cal C_l_is_whole hr rfl (pa_cons (pe_ix ix_tup (pv 5) pe_int (fun _ _ => rfl)) pa_nil)))) (pw_or1 (pt_cmpR op_notIn_seq (pe_ix ix_tup (pv 5) pe_int (fun _ _ => rfl)) (pe_tup (pa_cons (pe_un un_neg pe_int) (pa_cons pe_int (pa_cons pe_int pa_nil)))) (by with_unfolding_all rfl))))))) (pss_one (ps_ret pe_bl)) pss_nil)
  (pss_cons (ps_set (i:=7) sc_l_is_row.nd rfl (by walk_at "o") (pe_cal C_l_part hr rfl (pa_cons (pv 4) (pa_cons (pe_ix ix_tup (pv 5) pe_int (fun _ _ => rfl)) (pa_cons (pe_ix ix_tup (pv 5) pe_int (fun _ _ => rfl)) pa_nil)))))
  (pss_one (ps_if (PW.pt (pw_or (pt_cmp (pc_isN (pv 7))) (pw_or (pt_cmpR op_ne (pe_op op_mulB (pe_ix ix_tup (pv 5) pe_int (fun _ _ => rfl)) (pv 7)) (pv 6) (nomark _)) (pw_or1 (PW.pt (pw_and (pt_cmpR op_eq (pe_ix ix_tup (pv 5) pe_int (fun _ _ => rfl)) pe_int (nomark _)) (pw_and1 (pt_cmpR (op_neD hr) (pv 5) (pe_tup (pa_cons pe_int (pa_cons pe_int (pa_cons pe_int pa_nil)))) (nomark _))))))))) (pss_one (ps_ret pe_bl)) pss_nil)))))
  (pss_one (ps_ret pe_bl))))))),?_⟩
 rw [show start ["_law_web","_law_row_here","_law_top","_law_count","_law_told","_law_out","_law_number","_law_number_made"] [.ref w0,.ref l,.int top,.int (ds.length : Int)] = [some (.ref w0),some (.ref l),some (.int top),some (.int (ds.length : Int)),none,none,none,none] from rfl]
 (iterate 5 ((try (walk_at "WP")); (try (simp only [hw,Option.some.injEq,HO.tup.injEq,HO.lst.injEq,HO.dK.injEq,exists_eq_left',exists_eq_left])))); (try (walk_at "WP"))
 rw [isI_tt hw]
 (iterate 5 ((try (walk_at "WP")); (try (simp only [hw,Option.some.injEq,HO.tup.injEq,HO.lst.injEq,HO.dK.injEq,exists_eq_left',exists_eq_left])))); (try (walk_at "WP"))
 rw [if_neg (show ¬ ¬ (((0 + 1 + 1 + 1 : Nat) : Int) = 3) by decide)]
 refine ⟨1,rfl,?_⟩
 (iterate 5 ((try (walk_at "WP")); (try (simp only [hw,Option.some.injEq,HO.tup.injEq,HO.lst.injEq,HO.dK.injEq,exists_eq_left',exists_eq_left])))); (try (walk_at "WP"))
 rw [isI_ll hd]
 (iterate 5 ((try (walk_at "WP")); (try (simp only [hw,Option.some.injEq,HO.tup.injEq,HO.lst.injEq,HO.dK.injEq,exists_eq_left',exists_eq_left])))); (try (walk_at "WP"))
 rw [isI_ll hg]
 (iterate 5 ((try (walk_at "WP")); (try (simp only [hw,hd,Option.some.injEq,HO.tup.injEq,HO.lst.injEq,HO.dK.injEq,exists_eq_left',exists_eq_left])))); (try (walk_at "WP"))
 rw [if_neg (by rw [ul]; exact fun z => z rfl)]
 (iterate 5 ((try (walk_at "WP")); (try (simp only [hw,hd,Option.some.injEq,HO.tup.injEq,HO.lst.injEq,HO.dK.injEq,exists_eq_left',exists_eq_left])))); (try (walk_at "WP"))
 refine ⟨dl,us,ds,cs,rfl,hd,htd,R,d10,fun r H1 s1 h1 => ?_⟩
 try walk_at "WP"
 refine ⟨⟨_,SqL.of h1⟩,?_⟩
 have vl : (valsW [1] ds).length = 1 + ds.length:=valsW_len [1] ds
 refine comp_L (f:=fun _ => none) (SqL.of h1) (by rw [List.length_map]; exact le_big (by omega)) (fun x H' R hx hS' hR => ?_) (fun a na => ?_)
 ·obtain ⟨n,hn,rfl⟩:=List.mem_map.mp hx
  obtain ⟨n0,nc,nb⟩:=R_co n hn
  rw [show capV [2] [some (V.ref w0),some (V.ref l),some (V.int top),some (V.int (ds.length : Int)),some (V.ref r),none,none,none] = [some (V.int top)] from rfl]
  try walk_at "WP"
  refine ⟨n,rfl,Nat.lt_trans nb (Nat.pow_lt_pow_right (by decide) (by decide)),?_⟩
  try walk_at "WP"
  rw [if_neg (by have:=(hc _ nc).2; omega)]
  exact hR
 refine abs_ na fun H2 s2 h2 => ?_
 intro e ne
 refine abs_ ne fun H3 s3 h3 => ?_
 have S3:=(s1.trans s2).trans s3
 have hw3:=S3 _ _ hw
 have hg3:=S3 _ _ hg
 have hl3:=S3 _ _ hl
 have h13:=(s2.trans s3) _ _ h1
 try walk_at "WP"
 refine ⟨_,SqL.of (s3 _ _ h2),SqL.of h3,?_⟩
 (iterate 5 ((try (walk_at "WP")); (try (simp only [hw3,hg3,hl3,Option.some.injEq,HO.tup.injEq,HO.lst.injEq,HO.dK.injEq,exists_eq_left',exists_eq_left])))); (try (walk_at "WP"))
 rw [if_neg (show ¬ (((valsW [1] ds).map V.int).filterMap fun _ => (none : Option V)).length ≠ 0 by rw [fm_none]; decide),if_neg (by rw [List.length_map]; omega)]
 rw [w_forZ]
 (iterate 5 ((try (walk_at "WP")); (try (simp only [hw3,Option.some.injEq,HO.tup.injEq,HO.lst.injEq,HO.dK.injEq,exists_eq_left',exists_eq_left])))); (try (walk_at "WP"))
 refine ⟨gl,l,⟨rfl,rfl⟩,_,SqL.of hg3,_,SqL.of hl3,?_⟩
 refine forZ (xs:=os) (ys:=xs.map V.int) (by rw [List.length_map]; omega) (fun i σ H4 => ∃ (o5 o6 o7 : Option V),σ = [some (.ref w0),some (.ref l),some (.int top),some (.int (ds.length : Int)),some (.ref r),o5,o6,o7] /\ Same H3 H4) ⟨none,none,none,rfl,Same.refl _⟩ ?_ ?_ ?_
 ·rintro i σ H4 _ ⟨_,_,_,_,s4⟩
  exact ⟨SqL.of (s4 _ _ hg3),SqL.of (s4 _ _ hl3)⟩
 ·rintro i y z T0 σ H4 N hy hz hT ⟨o5,o6,o7,rfl,s4⟩ hN
  have hi : i < gs.length:=by rw [← ol]; exact (List.getElem?_eq_some_iff.mp hy).1
  obtain ⟨yp,hy1,hy2⟩:=hkg.at_ i _ (List.getElem?_eq_getElem hi)
  have hgi : gs[i]? = some gs[i]:=List.getElem?_eq_getElem hi
  generalize gs[i] = g at hy2 hgi
  rw [hy] at hy1
  cases hy1
  obtain ⟨n,hn,rfl⟩:=map_at hz
  obtain ⟨pt,ov,oz,on,sl,sh⟩:=O i n g hn hgi
  have sT:=same_new hT (.tup [V.ref yp,V.int n])
  have hTT : upd H4 T0 (.tup [V.ref yp,V.int n]) T0 = some (.tup [V.ref yp,V.int n]):=upd_same
  have s5:=s4.trans sT
  generalize upd H4 T0 (.tup [V.ref yp,V.int n]) = H5 at hTT s5 ⊢
  have hy3:=(S3.trans s5).seqT hy2
  have h15:=s5 _ _ h13
  unfold gTp at hy3
  (iterate 5 ((try (walk_at "WP")); (try (simp only [hTT,Option.some.injEq,HO.tup.injEq,HO.lst.injEq,HO.dK.injEq,exists_eq_left',exists_eq_left])))); (try (walk_at "WP"))
  refine ⟨yp,_,rfl,hy3,?_⟩
  try walk_at "WP"
  refine ⟨_,.inr hy3,?_⟩
  try walk_at "WP"
  rw [if_neg (show ¬ ¬ (((0 + 1 + 1 + 1 : Nat) : Int) = 3) by decide)]
  refine ⟨_,hy3,_,rfl,?_⟩
  refine ⟨g.sg,rfl,?_⟩
  try walk_at "WP"
  refine ⟨_,hy3,_,rfl,fun t nt => ?_⟩
  have st:=same_new nt (.tup [V.int (-1),V.int 0,V.int 1])
  refine in_tup upd_same rfl rfl ?_
  have hin : (if true then !inV (V.int g.sg) [V.int (-1),V.int 0,V.int 1] else inV (V.int g.sg) [V.int (-1),V.int 0,V.int 1]) = false:=by
   rcases pt.sg.cases with ⟨e,_⟩ | e | e <;> rw [e] <;> decide
  rw [hin]
  have hy4:=st.seqT hy3
  have h16:=st _ _ h15
  have s6:=s5.trans st
  generalize upd H5 t (.tup [V.int (-1),V.int 0,V.int 1]) = H6 at st s6 hy4 h16 ⊢
  try walk_at "WP"
  refine ⟨_,hy4,_,rfl,_,hy4,_,rfl,?_⟩
  obtain ⟨v,ev,eg,mv⟩:=valsW_at (xs:=[1]) (ds:=ds) (j:=g.th) pt.th
  refine ⟨r,_,g.th,g.sh,rfl,h16,by rw [vl]; exact pt.th,pt.ex,sl,sh,by rw [eg]; exact Nat.lt_trans (R_co v mv).2.2 (Nat.pow_lt_pow_right (by decide) (by decide)),?_⟩
  try walk_at "WP"
  refine ⟨_,hy4,_,rfl,?_⟩
  try walk_at "WP"
  have ov' : g.sg * mvI g.sh ((valsW [1] ds).getD g.th 0) = n:=ov
  refine ⟨by rcases pt.sg.cases with ⟨e,_⟩ | e | e <;> rw [e] <;> exact mul_l (by decide) (by decide),?_⟩
  rw [if_neg (fun z => z ov')]
  refine ⟨_,hy4,_,rfl,?_⟩
  try walk_at "WP"
  refine ite2 (fun z => ?_) (fun z => hN _ _ ⟨_,_,_,rfl,s6⟩)
  intro p np
  have sp:=same_new np (.tup [V.int 0,V.int 0,V.int 0])
  refine neTI (ns:=[(g.th : Int),g.sh,g.sg]) (ms:=[0,0,0]) (sp.seqT hy4) (SqT.of upd_same) ?_
  try walk_at "WP"
  have eg0 : g = ⟨0,0,0⟩:=oz (by rw [← ov',z,Int.zero_mul])
  rw [eg0,if_neg (by decide)]
  exact hN _ _ ⟨_,_,_,rfl,s6.trans sp⟩
 ·rintro σ H4 ⟨o5,o6,o7,rfl,s4⟩
  try walk_at "WP"
  exact q _ (S3.trans s4)
end

section
variable {P : Program} {w : World} {K : PySem.W.Frag} {mg : Str -> Option Value} {base : Heap}
theorem ok_isset36 (T : Txt K mg) : Cal P w K mg base 2 "_law_is_set" ["_law_thing","_law_top"] spIsSet36:=by
 have B:=T.bl
 have C_l_is_whole:=ok_iswh (P:=P) (w:=w) (base:=base) T
 refine mkCal T.t_l_is_set sc_l_is_set (fun vs H Q E h => ?_) (fun f cdv A outer s H vs Q E hr h => ?_)
 ·obtain ⟨_,_,_,rfl,_⟩:=h
  rfl
 obtain ⟨c,S,top,rfl,hc,O,nd,so,sl,q⟩:=h
 refine ⟨_,(pss_cons (ps_if (pt_not (pt_val (pe_callB call_isI rfl B.isinstance bo_isinstance (pa_cons (pv 0) (pa_cons (pe_bltn (v:=.ty "tuple") rfl B.tuple bo_tuple rfl) pa_nil))))) (pss_one (ps_ret pe_bl)) pss_nil)
  (pss_cons (ps_setComp0 (ix:=2) (N:=["_law_own","_law_top"]) (nt:=1) (cs:=[1]) rfl (pi_tup (pv 0)) (fun nd C s H fp => ⟨(pg_name (i:=0) nd rfl (by walk_at "o")),(pn_one (PW.pt (pw_and (pt_val (pe_cal C_l_is_whole hr rfl (pa_cons (pv 0) pa_nil))) (pw_and (pt_cmpR op_eq (pe_op op_mod (pv 0) pe_int) pe_int (nomark _)) (pw_and1 (pt_chain op_lt op_le pe_int (pv 0) (pv 1))))))),(pv 0)⟩) (by decide +kernel) (by first | rfl | decide +kernel) (by first | rfl | decide +kernel) rfl (fun _ => rfl) sc_l_is_set.nd rfl (by walk_at "o") (by walk_at "o") rfl)
  (pss_one (ps_ret (pe_and (pe_cmpR op_eq (pe_callB call_lenM rfl B.len bo_len (pa_cons (pv 2) pa_nil)) (pe_callB call_lenU rfl B.len bo_len (pa_cons (pv 0) pa_nil)) (nomark _)) (pe_one (pe_cmpR (op_eqD hr) (pv 2) (pe_callB (call_sortW w rfl) rfl B.sorted bo_sorted (pa_cons (pe_callTy (call_setW w rfl) rfl B.set bo_set (pa_cons (pv 2) pa_nil)) pa_nil)) (nomark _)))))))),?_⟩
 rw [show start ["_law_thing","_law_top","_law_odd_here"] [.ref c,.int top] = [some (.ref c),some (.int top),none] from rfl]
 (iterate 5 ((try (walk_at "WP")); (try (simp only [hc,Option.some.injEq,HO.tup.injEq,HO.lst.injEq,HO.dK.injEq,exists_eq_left',exists_eq_left])))); (try (walk_at "WP"))
 rw [isI_tt hc]
 try walk_at "WP"
 have hq:=SqT.of (K:=K) hc
 refine ⟨⟨_,hq⟩,?_⟩
 refine comp_T (f:=fun x => some x) hq (by rw [List.length_map]; exact le_big (by omega)) (fun x H' R hx hS' hR => ?_) (fun a na => ?_)
 ·obtain ⟨n,hn,rfl⟩:=List.mem_map.mp hx
  rw [show capV [1] [some (V.ref c),some (V.int top),none] = [some (V.int top)] from rfl]
  try walk_at "WP"
  refine ⟨n,rfl,?_⟩
  try walk_at "WP"
  rw [if_pos (O.odd n hn),if_pos (by have:=O.lo n hn; omega),if_pos (O.hi n hn)]
  exact hR
 rw [List.filterMap_some]
 refine abs_ na fun H1 s1 h1 => ?_
 (iterate 5 ((try (walk_at "WP")); (try (simp only [h1,Option.some.injEq,HO.tup.injEq,HO.lst.injEq,HO.dK.injEq,exists_eq_left',exists_eq_left])))); (try (walk_at "WP"))
 have hc1:=s1 _ _ hc
 refine ⟨_,hc1,?_⟩
 try walk_at "WP"
 refine ⟨a,S,rfl,h1,by omega,fun sa nsa => ?_⟩
 refine abs_ nsa fun H2 s2 h2 => ?_
 rw [show S.foldl PyProof.Rows.step_dedup [] = S from ded_id _ nd] at h2
 refine ⟨sa,S,rfl,h2,by omega,fun r nr => ?_⟩
 rw [sort_id so]
 have s3:=same_new nr (.lst (S.map V.int))
 refine eqLI (ns:=S) (ms:=S) (SqL.of (s3 _ _ (s2 _ _ h1))) (SqL.of upd_same) ?_
 rw [decide_eq_true rfl]
 exact q _ ((s1.trans s2).trans s3)
theorem ok_isled36 (T : Txt K mg) : Cal P w K mg base 4 "_law_is_led" ["_law_pairs","_law_some","_law_later","_law_top"] spIsLed36:=by
 have B:=T.bl
 have C_l_reach:=ok_reach (P:=P) (w:=w) (base:=base) T
 refine mkCal T.t_l_is_led sc_l_is_led (fun vs H Q E h => ?_) (fun f cdv A outer s H vs Q E hr h => ?_)
 ·obtain ⟨_,_,_,_,_,_,_,_,rfl,_⟩:=h
  rfl
 obtain ⟨pd,c,l,pk,S,us,L,top,rfl,hpd,PP,hc,hl,ht,lz,O,t1,t2,sl,oL,cov,q⟩:=h
 refine ⟨_,(pss_cons (ps_set (i:=4) sc_l_is_led.nd rfl (by walk_at "o") pe_int)
  (pss_mid (ps_for PassesOwn.never rfl (pi_list (pv 2)) (pg_name (i:=5) sc_l_is_led.nd rfl (by walk_at "o")) (pss_one (ps_if (pt_cmpR (op_eqE hr) (pe_comp0 (N:=["_law_own","_law_other"]) (nt:=1) (cs:=[5]) rfl (pi_tup (pv 1)) (fun nd C s H fp => ⟨(pg_name (i:=0) nd rfl (by walk_at "o")),(pn_one (pt_cmpR (op_notInK K) (pv 0) (pv 1) (by with_unfolding_all rfl))),(pv 0)⟩) (by decide +kernel) (by first | rfl | decide +kernel) (by first | rfl | decide +kernel) rfl (fun _ => rfl)) (pe_lst pa_nil) (nomark _)) (pss_one (ps_for PassesOwn.never rfl (pi_tup (pv 5)) (pg_name (i:=6) sc_l_is_led.nd rfl (by walk_at "o")) (pss_one (ps_set (i:=4) sc_l_is_led.nd rfl (by walk_at "o") (pe_op op_or (pv 4) (pe_op op_shlB pe_int (pv 6))))))) pss_nil)))
  (pss_one (ps_ret (pe_cmpR op_eq (pe_op op_and (pe_cal C_l_reach hr rfl (pa_cons (pv 0) (pa_cons (pv 1) (pa_cons (pv 3) pa_nil)))) (pe_un un_inv (pv 4))) pe_int (nomark _)))))),?_⟩
 rw [show start ["_law_pairs","_law_some","_law_later","_law_top","_law_held","_law_other","_law_own"] [.ref pd,.ref c,.ref l,.int top] = [some (.ref pd),some (.ref c),some (.ref l),some (.int top),none,none,none] from rfl]
 try walk_at "WP"
 refine mid_of (fun σ G => ∃ (hs : List Int) (o5 o6 : Option V),σ = [some (.ref pd),some (.ref c),some (.ref l),some (.int top),some (.int (maskN hs : Nat)),o5,o6] /\ Same H G /\ ∀ x,x ∈ hs ↔ ∃ S' ∈ L,(∀ o ∈ S,o ∈ S') /\ x ∈ S') (fun N1 hN1 => ?_) ?_
 ·try walk_at "WP"
  refine ⟨⟨_,SqL.of hl⟩,?_⟩
  have ul:=ht.len
  refine forL (xs:=us) (fun i σ G => ∃ (hs : List Int) (o5 o6 : Option V),σ = [some (.ref pd),some (.ref c),some (.ref l),some (.int top),some (.int (maskN hs : Nat)),o5,o6] /\ Same H G /\ ∀ x,x ∈ hs ↔ ∃ S' ∈ L.take i,(∀ o ∈ S,o ∈ S') /\ x ∈ S') ⟨[],none,none,rfl,Same.refl _,fun x => ⟨fun h => (by cases h),fun ⟨a,h,_⟩ => absurd h (by rw [List.take_zero]; exact List.not_mem_nil)⟩⟩ ?_ ?_ ?_
  ·rintro i σ G _ ⟨_,_,_,_,s,_⟩
   exact SqL.of (s _ _ hl)
  ·rintro i v σ G N hv ⟨hs,o5,o6,rfl,s1,hm⟩ hN
   have hi : i < L.length:=by rw [← ul]; exact (List.getElem?_eq_some_iff.mp hv).1
   have ei:=List.getElem?_eq_getElem hi
   obtain ⟨y,y1,y2⟩:=ht.at_ i _ ei
   rw [hv] at y1
   cases y1
   have Sm:=List.mem_of_getElem? ei
   generalize L[i] = S' at ei y2 Sm
   obtain ⟨O',l'⟩:=oL S' Sm
   have tk : ∀ x,(∃ T ∈ L.take (i + 1),(∀ o ∈ S,o ∈ T) /\ x ∈ T) ↔ (∃ T ∈ L.take i,(∀ o ∈ S,o ∈ T) /\ x ∈ T) \/ ((∀ o ∈ S,o ∈ S') /\ x ∈ S'):=fun x => by
    rw [List.take_succ,ei,Option.toList_some]
    constructor
    ·rintro ⟨b,hb,h⟩
     rcases List.mem_append.mp hb with z | z
     ·exact .inl ⟨b,z,h⟩
     ·rw [List.mem_singleton.mp z] at h
      exact .inr h
    ·rintro (⟨b,hb,h⟩ | h)
     ·exact ⟨b,List.mem_append_left _ hb,h⟩
     ·exact ⟨S',List.mem_append_right _ (List.mem_singleton.mpr rfl),h⟩
   have hy:=s1 _ _ y2
   try walk_at "WP"
   have hc1:=s1 _ _ hc
   have hq:=SqT.of (K:=K) hc1
   refine ⟨⟨_,hq⟩,?_⟩
   refine comp_T (f:=notV S') hq (by rw [List.length_map]; exact le_big (by omega)) (fun x H' R hx hS' hR => ?_) (fun a na => ?_)
   ·obtain ⟨o,ho,rfl⟩:=List.mem_map.mp hx
    rw [show capV [5] [some (V.ref pd),some (V.ref c),some (V.ref l),some (V.int top),some (V.int (maskN hs : Nat)),some (V.ref y),o6] = [some (V.ref y)] from rfl]
    try walk_at "WP"
    refine ⟨y,S'.map V.int,rfl,.inr (SqT.of (hS' _ _ hy)),rfl,flat_ints S',?_⟩
    rw [if_pos rfl,inV_i]
    by_cases z : o ∈ S'
    ·rw [show notV S' (V.int o) = none from if_pos z] at hR
     rw [decide_eq_true z]
     exact ⟨_,rfl,hR⟩
    ·rw [show notV S' (V.int o) = some (V.int o) from if_neg z] at hR
     rw [decide_eq_false z]
     exact ⟨_,rfl,hR⟩
   rw [notV_map]
   refine abs_ na fun G2 s2 h2 => ?_
   intro e ne
   refine abs_ ne fun G3 s3 h3 => ?_
   have s13:=(s1.trans s2).trans s3
   have hy3:=(s2.trans s3) _ _ hy
   try walk_at "WP"
   refine ⟨_,SqL.of (s3 _ _ h2),SqL.of h3,?_⟩
   try walk_at "WP"
   have key : ((S.filter fun o => decide (o ∉ S')).map V.int).length = 0 ↔ ∀ o ∈ S,o ∈ S':=by
    rw [List.length_map,List.length_eq_zero_iff,List.filter_eq_nil_iff]
    exact ⟨fun h o ho => by simpa using h o ho,fun h o ho => by simpa using h o ho⟩
   refine ite2 (fun z => ?_) (fun z => ?_)
   ·have al:=key.mp (by simpa using z)
    have hq3:=SqT.of (K:=K) hy3
    refine ⟨⟨_,hq3⟩,?_⟩
    refine forT (xs:=S'.map V.int) (fun j σ G4 => ∃ (hs2 : List Int) (o6 : Option V),σ = [some (.ref pd),some (.ref c),some (.ref l),some (.int top),some (.int (maskN hs2 : Nat)),some (.ref y),o6] /\ Same G3 G4 /\ ∀ x,x ∈ hs2 ↔ x ∈ hs \/ x ∈ S'.take j) ⟨hs,o6,rfl,Same.refl _,fun x => ⟨.inl,fun h => h.elim id fun h => absurd h (by rw [List.take_zero]; exact List.not_mem_nil)⟩⟩ ?_ ?_ ?_
    ·rintro j σ G4 _ ⟨_,_,_,s4,_⟩
     exact s4.seqT hq3
    ·rintro j v σ G4 N4 hv4 ⟨hs2,o6,rfl,s4,hm4⟩ hN4
     obtain ⟨o,ho,rfl⟩:=map_at hv4
     have om:=List.mem_of_getElem? ho
     try walk_at "WP"
     have olo:=O'.lo o om
     have ohi:=O'.hi o om
     refine ⟨⟨by omega,by omega⟩,?_⟩
     rw [Int.one_mul,or_pow,← mask_snoc]
     refine hN4 _ _ ⟨hs2 ++ [o],_,rfl,s4,fun x => ?_⟩
     rw [List.take_succ,ho,Option.toList_some,List.mem_append,List.mem_append,← or_assoc,← hm4]
    ·rintro σ G4 ⟨hs2,o6,rfl,s4,hm4⟩
     rw [List.length_map,List.take_length] at hm4
     refine hN _ _ ⟨hs2,_,_,rfl,s13.trans s4,fun x => ?_⟩
     rw [hm4,hm,tk]
     exact or_congr Iff.rfl ⟨fun h => ⟨al,h⟩,fun h => h.2⟩
   ·refine hN _ _ ⟨hs,_,_,rfl,s13,fun x => ?_⟩
    rw [hm,tk]
    exact ⟨.inl,fun h => h.elim id fun h => absurd (key.mpr h.1) (by simpa using z)⟩
  ·rintro σ G ⟨hs,o5,o6,rfl,s1,hm⟩
   rw [ul,List.take_length] at hm
   exact hN1 _ _ ⟨hs,_,_,rfl,s1,hm⟩
 rintro σ G ⟨hs,o5,o6,rfl,s1,hm⟩
 try walk_at "WP"
 refine ⟨pd,c,pk,S,top,rfl,s1 _ _ hpd,PP,s1 _ _ hc,O,t1,t2,by omega,fun pk' H3 C3 p3 PP3 => ?_⟩
 try walk_at "WP"
 have nn : ∀ n ∈ hs,0 <= n:=fun n hn => by
  obtain ⟨S',a,_,b⟩:=(hm n).mp hn
  have:=(oL S' a).1.lo n b
  omega
 rw [and_not0 (mask_sub made_nn nn fun n hn => (hm n).mpr (cov n hn)),decide_eq_true rfl]
 exact q pk' H3 (s1.chg.trans C3) p3 PP3
end

section
variable {P : Program} {w : World} {K : PySem.W.Frag} {mg : Str -> Option Value} {base : Heap}
theorem ok_shows36 (T : Txt K mg) : Cal P w K mg base 5 "_law_shows" ["_law_pairs","_law_paper","_law_owed","_law_top","_law_most"] spShows36:=by
 have B:=T.bl
 have C_l_is_set:=(ok_isset36 (P:=P) (w:=w) (base:=base) T).mono (k:=4) (by decide)
 have C_l_is_led:=ok_isled36 (P:=P) (w:=w) (base:=base) T
 have C_l_ends:=ok_ends (P:=P) (w:=w) (base:=base) T
 refine mkCal T.t_l_shows sc_l_shows (fun vs H Q E h => ?_) (fun f cdv A outer s H vs Q E hr h => ?_)
 ·obtain ⟨_,_,_,_,_,_,_,_,rfl,_⟩:=h
  rfl
 obtain ⟨pd,lv,ow,lvs,Ls,as,top,most,rfl,D0,Pa,LV,ll,m4,how,ane,al,a0,t1,t2,q⟩:=h
 obtain ⟨pk0,hp0,PP0⟩:=D0
 have D0 : PDt top pd H:=⟨pk0,hp0,PP0⟩
 have hlv:=Pa.lst
 have lvl:=Pa.len
 have lp : lv ≠ pd:=ne_of hlv hp0 (by intro y; cases y)
 have op : ow ≠ pd:=ne_of how hp0 (by intro y; cases y)
 have lev : ∀ i,i < most -> ∃ L r us,Ls[i]? = some L /\ lvs[i]? = some (.ref r) /\ r ≠ pd /\ H r = some (.lst us) /\ HTs iT H us L /\ us.length <= 1000000 /\ L.length <= 99 ^ 3 /\ LevP top (i + 1) L:=fun i hi => by
  have e:=List.getElem?_eq_getElem (l:=Ls) (i:=i) (by omega)
  obtain ⟨r,us,e1,e2,e3,e4,e5⟩:=Pa.at_ i _ e
  have : 99 ^ i <= 99 ^ 3:=Nat.pow_le_pow_right (by decide) (by omega)
  exact ⟨_,r,us,e,e1,ne_of e3 hp0 (by intro y; cases y),e3,e4,by rw [e4.len]; omega,by omega,LV.lev i _ e⟩
 refine ⟨_,(pss_cons (ps_if (PW.pt (pw_or (pt_not (pt_val (pe_callB call_isI rfl B.isinstance bo_isinstance (pa_cons (pv 1) (pa_cons (pe_bltn (v:=.ty "list") rfl B.list bo_list rfl) pa_nil))))) (pw_or (pt_cmpR op_ne (pe_callB call_lenM rfl B.len bo_len (pa_cons (pv 1) pa_nil)) (pv 4) (nomark _)) (pw_or1 (pt_cmpR (op_eqD hr) (pv 2) (pe_lst pa_nil) (nomark _)))))) (pss_one (ps_ret pe_bl)) pss_nil)
  (pss_mid (ps_for PassesOwn.never rfl (pi_list (pv 1)) (pg_name (i:=5) sc_l_shows.nd rfl (by walk_at "o")) (pss_one (ps_if (PW.pt (pw_or (pt_not (pt_val (pe_callB call_isI rfl B.isinstance bo_isinstance (pa_cons (pv 5) (pa_cons (pe_bltn (v:=.ty "list") rfl B.list bo_list rfl) pa_nil))))) (pw_or1 (pt_cmpR (op_neE hr) (pe_comp0 (N:=["_law_some","_law_top"]) (nt:=1) (cs:=[3]) rfl (pi_list (pv 5)) (fun nd C s H fp => ⟨(pg_name (i:=0) nd rfl (by walk_at "o")),(pn_one (pt_not (pt_val (pe_cal C_l_is_set hr rfl (pa_cons (pv 0) (pa_cons (pv 1) pa_nil)))))),(pv 0)⟩) (by decide +kernel) (by first | rfl | decide +kernel) (by first | rfl | decide +kernel) rfl (fun _ => rfl)) (pe_lst pa_nil) (nomark _))))) (pss_one (ps_ret pe_bl)) pss_nil)))
  (pss_mid (ps_if (PW.pt (pw_and (pt_cmpR op_gt (pv 4) pe_int (nomark _)) (pw_and1 (pt_cmpR (op_eqE hr) (pe_comp0 (N:=["_law_some"]) (nt:=1) (cs:=[]) rfl (pi_list (pe_ix ix_M (pv 1) pe_int (fun _ _ => rfl))) (fun nd C s H fp => ⟨(pg_name (i:=0) nd rfl (by walk_at "o")),(pn_one (pt_cmpR (op_inK K) pe_int (pv 0) (by with_unfolding_all rfl))),(pv 0)⟩) (by decide +kernel) (by first | rfl | decide +kernel) (by first | rfl | decide +kernel) rfl (fun _ => rfl)) (pe_lst pa_nil) (nomark _))))) (pss_one (ps_ret pe_bl)) pss_nil)
  (pss_mid (ps_for PassesOwn.never rfl (pi_range1 rfl B.range (pa_cons (pe_op op_sub (pv 4) pe_int) pa_nil)) (pg_name (i:=6) sc_l_shows.nd rfl (by walk_at "o")) (pss_one (ps_if (pt_cmpR (op_neE hr) (pe_comp0 (N:=["_law_some","_law_pairs","_law_paper","_law_k","_law_top"]) (nt:=1) (cs:=[0,1,6,3]) rfl (pi_list (pe_ix ix_M (pv 1) (pv 6) (fun _ _ => rfl))) (fun nd C s H fp => ⟨(pg_name (i:=0) nd rfl (by walk_at "o")),(pn_one (pt_not (pt_val (pe_cal C_l_is_led hr rfl (pa_cons (pv 1) (pa_cons (pv 0) (pa_cons (pe_ix ix_M (pv 2) (pe_op op_add (pv 3) pe_int) (fun _ _ => rfl)) (pa_cons (pv 4) pa_nil)))))))),(pv 0)⟩) (by decide +kernel) (by first | rfl | decide +kernel) (by first | rfl | decide +kernel) rfl (fun _ => rfl)) (pe_lst pa_nil) (nomark _)) (pss_one (ps_ret pe_bl)) pss_nil)))
  (pss_cons (ps_if (pt_cmpR op_eq (pv 4) pe_int (nomark _)) (pss_one (ps_ret pe_bl)) pss_nil)
  (pss_one (ps_ret (pe_cmpR (op_eqE hr) (pe_comp0 (N:=["_law_some","_law_pairs","_law_owed","_law_top"]) (nt:=1) (cs:=[0,2,3]) rfl (pi_list (pe_ix ix_M (pv 1) (pe_un un_neg pe_int) (fun _ _ => rfl))) (fun nd C s H fp => ⟨(pg_name (i:=0) nd rfl (by walk_at "o")),(pn_one (pt_val (pe_cal C_l_ends hr rfl (pa_cons (pv 1) (pa_cons (pv 0) (pa_cons (pv 2) (pa_cons (pv 3) pa_nil))))))),(pv 0)⟩) (by decide +kernel) (by first | rfl | decide +kernel) (by first | rfl | decide +kernel) rfl (fun _ => rfl)) (pe_lst pa_nil) (nomark _))))))))),?_⟩
 rw [show start ["_law_pairs","_law_paper","_law_owed","_law_top","_law_most","_law_level","_law_k"] [.ref pd,.ref lv,.ref ow,.int top,.int (most : Int)] = [some (.ref pd),some (.ref lv),some (.ref ow),some (.int top),some (.int (most : Int)),none,none] from rfl]
 refine seq_in fun R_ hR_ => ?_
 try walk_at "WP"
 rw [isI_ll hlv]
 (iterate 5 ((try (walk_at "WP")); (try (simp only [hlv,Option.some.injEq,HO.tup.injEq,HO.lst.injEq,HO.dK.injEq,exists_eq_left',exists_eq_left])))); (try (walk_at "WP"))
 rw [if_neg (by omega)]
 intro e ne
 refine abs_ ne fun H1 s1 h1 => ?_
 refine eqLI (ns:=as) (ms:=[]) (SqL.of (s1 _ _ how)) (SqL.of h1) ?_
 try walk_at "WP"
 rw [if_neg ane]
 subst hR_
 try walk_at "WP"
 refine mid_of (fun σ G => ∃ o5 : Option V,σ = [some (.ref pd),some (.ref lv),some (.ref ow),some (.int top),some (.int (most : Int)),o5,none] /\ Chg pd H G /\ PDt top pd G) (fun N1 hN1 => ?_) ?_
 ·try walk_at "WP"
  refine ⟨⟨_,SqL.of (s1 _ _ hlv)⟩,?_⟩
  refine forL (xs:=lvs) (fun i σ G => ∃ o5 : Option V,σ = [some (.ref pd),some (.ref lv),some (.ref ow),some (.int top),some (.int (most : Int)),o5,none] /\ Chg pd H G /\ PDt top pd G) ⟨none,rfl,s1.chg,D0.same s1⟩ ?_ ?_ ?_
  ·rintro i σ G _ ⟨_,_,C,_⟩
   exact SqL.of (C _ _ lp hlv)
  ·rintro i v σ G N hv ⟨o5,rfl,C,D⟩ hN
   have il : i < most:=by rw [← ll,← lvl]; exact (List.getElem?_eq_some_iff.mp hv).1
   obtain ⟨L,r,us,e0,e1,rp,hr,htr,uz,lz,LP⟩:=lev i il
   rw [hv] at e1
   cases e1
   have hrG:=C _ _ rp hr
   have htG:=htr.chgO hp0 (by intro ys z; cases z) C
   try walk_at "WP"
   rw [isI_ll hrG]
   try walk_at "WP"
   refine ⟨⟨_,SqL.of hrG⟩,?_⟩
   refine comp_selC (fun _ => False) hrG htG uz D (fun t S H' R hS ht' C' D' hR => ?_) (fun acc ys H' na C' D' ha hy hno => ?_)
   ·rw [show capV [3] [some (V.ref pd),some (V.ref lv),some (V.ref ow),some (V.int top),some (V.int (most : Int)),some (V.ref r),none] = [some (V.int top)] from rfl]
    try walk_at "WP"
    refine ⟨t,S,top,rfl,ht',LP.od S hS,LP.nd S hS,LV.sort i L e0 S hS,by have:=LP.len S hS; omega,fun H5 s5 => ?_⟩
    try walk_at "WP"
    exact hR _ _ s5.chg (D'.same s5) ⟨fun y => (by cases y),fun y => y.elim⟩
   intro e ne
   refine abs_ ne fun H6 s6 h6 => ?_
   have yn : ys = []:=nil_of hy fun _ _ h => h
   rw [yn] at ha
   try walk_at "WP"
   refine ⟨_,SqL.of (s6 _ _ ha),SqL.of h6,?_⟩
   try walk_at "WP"
   rw [if_neg (fun z => z rfl)]
   exact hN _ _ ⟨_,rfl,(C.trans C').trans s6.chg,D'.same s6⟩
  ·rintro σ G ⟨o5,rfl,C,D⟩
   exact hN1 _ _ ⟨_,rfl,C,D⟩
 rintro σ G ⟨o5,rfl,C1,D1⟩
 refine mid_of (fun σ G => ∃ o5 : Option V,σ = [some (.ref pd),some (.ref lv),some (.ref ow),some (.int top),some (.int (most : Int)),o5,none] /\ Chg pd H G /\ PDt top pd G) (fun N1 hN1 => ?_) ?_
 ·try walk_at "WP"
  refine ite2 (fun z => ?_) (fun z => hN1 _ _ ⟨_,rfl,C1,D1⟩)
  obtain ⟨L,r,us,e0,e1,rp,hr,htr,uz,lz,LP⟩:=lev 0 (by omega)
  have hrG:=C1 _ _ rp hr
  have htG:=htr.chgO hp0 (by intro ys z; cases z) C1
  refine ⟨lvs,C1 _ _ lp hlv,.ref r,atI_nat (j:=0) e1,r,rfl,⟨_,SqL.of hrG⟩,?_⟩
  refine comp_selC (fun S => (1 : Int) ∈ S) hrG htG uz D1 (fun t S H' R hS ht' C' D' hR => ?_) (fun acc ys H' na C' D' ha hy hno => ?_)
  ·rw [show capV [] _ = [] from rfl]
   try walk_at "WP"
   refine ⟨t,S.map V.int,rfl,.inr (SqT.of ht'),rfl,flat_ints S,?_⟩
   rw [if_neg (by decide),inV_i]
   exact ⟨_,rfl,hR _ _ Chg.refl D' decide_eq_true_iff⟩
  intro e ne
  refine abs_ ne fun H6 s6 h6 => ?_
  try walk_at "WP"
  refine ⟨_,SqL.of (s6 _ _ ha),SqL.of h6,?_⟩
  try walk_at "WP"
  refine ite2 (fun y => ?_) (fun y => hN1 _ _ ⟨_,rfl,(C1.trans C').trans s6.chg,D'.same s6⟩)
  have yn : ys = []:=List.eq_nil_of_length_eq_zero y
  refine absurd (List.mem_singleton.mpr rfl) (hno yn [1] ?_)
  rw [LV.one L e0]
  exact List.mem_singleton.mpr rfl
 rintro σ G ⟨o5,rfl,C2,D2⟩
 refine mid_of (fun σ G => ∃ o5 o6 : Option V,σ = [some (.ref pd),some (.ref lv),some (.ref ow),some (.int top),some (.int (most : Int)),o5,o6] /\ Chg pd H G /\ PDt top pd G) (fun N1 hN1 => ?_) ?_
 ·try walk_at "WP"
  refine ⟨by omega,by omega,?_⟩
  refine forR (fun i σ G => ∃ o6 : Option V,σ = [some (.ref pd),some (.ref lv),some (.ref ow),some (.int top),some (.int (most : Int)),o5,o6] /\ Chg pd H G /\ PDt top pd G) ⟨none,rfl,C2,D2⟩ ?_ ?_
  ·rintro i σ G N hi ⟨o6,rfl,C,D⟩ hN
   obtain ⟨L,r,us,e0,e1,rp,hr,htr,uz,lz,LP⟩:=lev i (by omega)
   obtain ⟨L',r',us',e0',e1',rp',hr',htr',uz',lz',LP'⟩:=lev (i + 1) (by omega)
   have hrG:=C _ _ rp hr
   have htG:=htr.chgO hp0 (by intro ys z; cases z) C
   try walk_at "WP"
   refine ⟨lvs,C _ _ lp hlv,.ref r,?_,r,rfl,⟨_,SqL.of hrG⟩,?_⟩
   ·rw [show (0 : Int) + (i : Int) = (i : Int) by omega]
    exact atI_nat e1
   refine comp_selC (fun _ => False) hrG htG uz D (fun t S H' R hS ht' C' D' hR => ?_) (fun acc ys H' na C' D' ha hy hno => ?_)
   ·rw [show capV [0,1,6,3] [some (V.ref pd),some (V.ref lv),some (V.ref ow),some (V.int top),some (V.int (most : Int)),o5,some (V.int (0 + (i : Int)))] = [some (V.ref pd),some (V.ref lv),some (V.int (0 + (i : Int))),some (V.int top)] from rfl]
    have CC:=C.trans C'
    try walk_at "WP"
    refine ⟨lvs,CC _ _ lp hlv,.ref r',?_,?_⟩
    ·rw [show (0 : Int) + (i : Int) + 1 = ((i + 1 : Nat) : Int) by omega]
     exact atI_nat e1'
    obtain ⟨pk',hp',PP'⟩:=D'
    refine ⟨pd,t,r',pk',S,us',L',top,rfl,hp',PP',ht',CC _ _ rp' hr',htr'.chgO hp0 (by intro ys z; cases z) CC,lz',LP.od S hS,t1,t2,by have:=LP.len S hS; omega,fun S' hS' => ⟨LP'.od S' hS',by have:=LP'.len S' hS'; omega⟩,fun o ho => ?_,fun pk5 H5 C5 h5 PP5 => ?_⟩
    ·obtain ⟨S',a,b⟩:=grow_cov ho
     exact ⟨S',(LV.nx i L L' e0 e0' S').mpr ⟨S,hS,a⟩,b⟩
    try walk_at "WP"
    exact hR _ _ C5 ⟨pk5,h5,PP5⟩ ⟨fun y => (by cases y),fun y => y.elim⟩
   intro e ne
   refine abs_ ne fun H6 s6 h6 => ?_
   have yn : ys = []:=nil_of hy fun _ _ h => h
   rw [yn] at ha
   try walk_at "WP"
   refine ⟨_,SqL.of (s6 _ _ ha),SqL.of h6,?_⟩
   try walk_at "WP"
   rw [if_neg (fun z => z rfl)]
   exact hN _ _ ⟨_,rfl,(C.trans C').trans s6.chg,D'.same s6⟩
  ·rintro σ G ⟨o6,rfl,C,D⟩
   exact hN1 _ _ ⟨_,_,rfl,C,D⟩
 rintro σ G ⟨o5,o6,rfl,C3,D3⟩
 try walk_at "WP"
 refine ite2 (fun z => q _ C3 D3) (fun z => ?_)
 obtain ⟨L,r,us,e0,e1,rp,hr,htr,uz,lz,LP⟩:=lev (most - 1) (by omega)
 have hrG:=C3 _ _ rp hr
 have htG:=htr.chgO hp0 (by intro ys z; cases z) C3
 refine ⟨lvs,C3 _ _ lp hlv,.ref r,atI_gl (by rw [List.getLast?_eq_getElem?,lvl,ll]; exact e1),r,rfl,⟨_,SqL.of hrG⟩,?_⟩
 refine comp_selC (fun S => Fin_ top S as) hrG htG uz D3 (fun t S H' R hS ht' C' D' hR => ?_) (fun acc ys H' na C' D' ha hy hno => ?_)
 ·rw [show capV [0,2,3] [some (V.ref pd),some (V.ref lv),some (V.ref ow),some (V.int top),some (V.int (most : Int)),o5,o6] = [some (V.ref pd),some (V.ref ow),some (V.int top)] from rfl]
  try walk_at "WP"
  obtain ⟨pk',hp',PP'⟩:=D'
  refine ⟨pd,t,ow,pk',S,as,top,rfl,hp',PP',ht',(C3.trans C') _ _ op how,al,a0,LP.od S hS,t1,t2,by have:=LP.len S hS; omega,fun b pk5 H5 C5 h5 PP5 hb => ?_⟩
  try walk_at "WP"
  exact hR _ _ C5 ⟨pk5,h5,PP5⟩ hb
 intro e ne
 refine abs_ ne fun H6 s6 h6 => ?_
 have yn : ys = []:=nil_of hy fun S hS => LV.no L (List.mem_of_getElem? e0) S hS
 rw [yn] at ha
 try walk_at "WP"
 refine ⟨_,SqL.of (s6 _ _ ha),SqL.of h6,?_⟩
 exact q _ ((C3.trans C').trans s6.chg) (D'.same s6)
end

section
variable {P : Program} {w : World} {K : PySem.W.Frag} {mg : Str -> Option Value} {base : Heap}
theorem ok_bnd36 (T : Txt K mg) : Cal P w K mg base 2 "_law_bounds" ["_law_pen_here"] (spBnd36 K):=by
 have B:=T.bl
 have C_l_pick:=ok_pick (P:=P) (w:=w) (base:=base) T
 refine mkCal T.t_l_bounds sc_l_bounds (fun vs H Q E h => ?_) (fun f cdv A outer s H vs Q E hr h => ?_)
 ·obtain ⟨_,_,_,_,rfl,_⟩:=h
  rfl
 obtain ⟨p,a,ns,c,rfl,hP,hS,h63,hc,q⟩:=h
 refine ⟨_,(pss_cons (ps_set (i:=1) sc_l_bounds.nd rfl (by walk_at "o") (pe_cal C_l_pick hr rfl (pa_cons (pv 0) (pa_cons pe_int pa_nil))))
  (pss_cons (ps_if (pt_cmpR op_eq (pv 1) pe_int (nomark _)) (pss_one (ps_ret (pe_lst (pa_cons (pe_op op_add pe_int (pe_cal C_l_pick hr rfl (pa_cons (pv 0) (pa_cons pe_int pa_nil)))) (pa_cons pe_int pa_nil))))) pss_nil)
  (pss_cons (ps_if (pt_cmpR op_eq (pv 1) pe_int (nomark _)) (pss_one (ps_ret (pe_lst (pa_cons (pe_op op_add pe_int (pe_cal C_l_pick hr rfl (pa_cons (pv 0) (pa_cons pe_int pa_nil)))) (pa_cons (pe_cal C_l_pick hr rfl (pa_cons (pv 0) (pa_cons pe_int pa_nil))) pa_nil))))) pss_nil)
  (pss_cons (ps_if (pt_cmpR op_lt (pv 1) pe_int (nomark _)) (pss_one (ps_ret (pe_lst (pa_cons (pe_op op_add pe_int (pe_cal C_l_pick hr rfl (pa_cons (pv 0) (pa_cons pe_int pa_nil)))) (pa_cons (pe_cal C_l_pick hr rfl (pa_cons (pv 0) (pa_cons pe_int pa_nil))) pa_nil))))) pss_nil)
  (pss_one (ps_ret (pe_lst (pa_cons (pe_op op_add pe_int (pe_cal C_l_pick hr rfl (pa_cons (pv 0) (pa_cons pe_int pa_nil)))) (pa_cons (pe_cal C_l_pick hr rfl (pa_cons (pv 0) (pa_cons pe_int pa_nil))) pa_nil))))))))),?_⟩
 rw [show start ["_law_pen_here","_law_way"] [.ref p] = [some (.ref p),none] from rfl]
 have fin : ∀ (x y : Int) H',Chg p H H' -> PPen H' p a (c + 3) -> Scr K H' a ns -> 1 <= x -> x <= 99 -> 0 <= y -> y <= 4 -> ¬ farB x y -> ∀ r,H' r = none -> Q (.ref r) (upd H' r (.lst [.int x,.int y])):=fun x y H' C P1 S1 x0 x1 y0 y1 nf r nr => by
  obtain ⟨m,rfl⟩ : ∃ m : Nat,y = m:=⟨y.toNat,by omega⟩
  have s:=same_new nr (.lst [.int x,.int (m : Int)])
  exact q r x m _ upd_same x0 x1 (by omega) nf (P1.same s) (S1.same s) (C.trans s.chg)
 try walk_at "WP"
 refine pick_ hP hS h63 (by omega) (by decide) (by decide) fun w1 H1 a0 a1 P1 S1 C1 => ?_
 try walk_at "WP"
 refine ite2 (fun z => ?_) (fun z => ?_)
 ·refine pick_ P1 S1 h63 (by omega) (by decide) (by decide) fun x H2 x0 x1 P2 S2 C2 => ?_
  try walk_at "WP"
  exact fin _ _ _ (C1.trans C2) (P2.mono (by omega)) S2 (by omega) (by omega) (by omega) (by omega) (by unfold farB; omega)
 refine ite2 (fun z => ?_) (fun z => ?_)
 ·refine pick_ P1 S1 h63 (by omega) (by decide) (by decide) fun x H2 x0 x1 P2 S2 C2 => ?_
  try walk_at "WP"
  refine pick_ P2 S2 h63 (by omega) (by decide) (by decide) fun y H3 y0 y1 P3 S3 C3 => ?_
  exact fin _ _ _ ((C1.trans C2).trans C3) (P3.mono (by omega)) S3 (by omega) (by omega) (by omega) (by omega) (by unfold farB; omega)
 refine ite2 (fun z => ?_) (fun z => ?_)
 ·refine pick_ P1 S1 h63 (by omega) (by decide) (by decide) fun x H2 x0 x1 P2 S2 C2 => ?_
  try walk_at "WP"
  refine pick_ P2 S2 h63 (by omega) (by decide) (by decide) fun y H3 y0 y1 P3 S3 C3 => ?_
  exact fin _ _ _ ((C1.trans C2).trans C3) (P3.mono (by omega)) S3 (by omega) (by omega) (by omega) (by omega) (by unfold farB; omega)
 ·refine pick_ P1 S1 h63 (by omega) (by decide) (by decide) fun x H2 x0 x1 P2 S2 C2 => ?_
  try walk_at "WP"
  refine pick_ P2 S2 h63 (by omega) (by decide) (by decide) fun y H3 y0 y1 P3 S3 C3 => ?_
  exact fin _ _ _ ((C1.trans C2).trans C3) (P3.mono (by omega)) S3 (by omega) (by omega) (by omega) (by omega) (by unfold farB; omega)
theorem ok_row36 (T : Txt K mg) : Cal P w K mg base 2 "_law_row" ["_law_pen_here","_law_top"] (spRow36 K):=by
 have B:=T.bl
 have C_l_pick:=ok_pick (P:=P) (w:=w) (base:=base) T
 refine mkCal T.t_l_row sc_l_row (fun vs H Q E h => ?_) (fun f cdv A outer s H vs Q E hr h => ?_)
 ·obtain ⟨_,_,_,_,_,rfl,_⟩:=h
  rfl
 obtain ⟨p,a,ns,c,top,rfl,hP,hS,h63,hc,t1,t2,q⟩:=h
 refine ⟨_,(pss_cons (ps_set (i:=2) sc_l_row.nd rfl (by walk_at "o") (pe_lst pa_nil))
  (pss_cons (ps_for PassesOwn.never rfl (pi_range1 rfl B.range (pa_cons (pe_ix ix_M (pe_lst (pa_cons pe_int (pa_cons pe_int (pa_cons pe_int (pa_cons (pe_cal C_l_pick hr rfl (pa_cons (pv 0) (pa_cons pe_int pa_nil))) pa_nil))))) (pe_cal C_l_pick hr rfl (pa_cons (pv 0) (pa_cons pe_int pa_nil))) (fun _ _ => rfl)) pa_nil)) (pg_name (i:=3) sc_l_row.nd rfl (by walk_at "o")) (pss_cons (ps_set (i:=4) sc_l_row.nd rfl (by walk_at "o") (pe_op op_add pe_int (pe_op op_mulB pe_int (pe_cal C_l_pick hr rfl (pa_cons (pv 0) (pa_cons (pe_op op_fdivB (pe_op op_add (pv 1) pe_int) pe_int) pa_nil))))))
  (pss_cons (ps_set (i:=4) sc_l_row.nd rfl (by walk_at "o") (pe_ix ix_M (pe_lst (pa_cons (pv 4) (pa_cons (pv 4) (pa_cons pe_int (pa_cons pe_int pa_nil))))) (pe_cal C_l_pick hr rfl (pa_cons (pv 0) (pa_cons pe_int pa_nil))) (fun _ _ => rfl)))
  (pss_mid (ps_if (pt_cmpR op_eq (pe_cal C_l_pick hr rfl (pa_cons (pv 0) (pa_cons pe_int pa_nil))) pe_int (nomark _)) (pss_one (ps_set (i:=4) sc_l_row.nd rfl (by walk_at "o") (pe_op op_add (pe_op op_add (pv 1) pe_int) (pe_cal C_l_pick hr rfl (pa_cons (pv 0) (pa_cons pe_int pa_nil)))))) pss_nil)
  (pss_cons (ps_set (i:=5) sc_l_row.nd rfl (by walk_at "o") (pe_ix ix_M (pe_lst (pa_cons (pe_cal C_l_pick hr rfl (pa_cons (pv 0) (pa_cons pe_int pa_nil))) (pa_cons (pe_cal C_l_pick hr rfl (pa_cons (pv 0) (pa_cons pe_int pa_nil))) pa_nil))) (pe_cal C_l_pick hr rfl (pa_cons (pv 0) (pa_cons pe_int pa_nil))) (fun _ _ => rfl)))
  (pss_mid (ps_if (pt_cmpR op_eq (pe_cal C_l_pick hr rfl (pa_cons (pv 0) (pa_cons pe_int pa_nil))) pe_int (nomark _)) (pss_cons (ps_set (i:=4) sc_l_row.nd rfl (by walk_at "o") (pe_op op_add (pe_op op_powB pe_int pe_int) (pe_cal C_l_pick hr rfl (pa_cons (pv 0) (pa_cons (pe_op op_powB pe_int pe_int) pa_nil)))))
  (pss_one (ps_set (i:=5) sc_l_row.nd rfl (by walk_at "o") pe_int))) pss_nil)
  (pss_one (ps_expr (pe_bm PySem.F.plainAttrs_list PySem.F.slot_list_append PySem.F.type_list_append mt_append (pv 2) (pa_cons (pe_op op_mulB (pe_op op_shlB (pv 4) (pv 5)) (pe_op op_sub pe_int (pe_op op_mulB pe_int (pe_cal C_l_pick hr rfl (pa_cons (pv 0) (pa_cons pe_int pa_nil)))))) pa_nil))))))))))
  (pss_one (ps_ret (pv 2))))),?_⟩
 rw [show start ["_law_pen_here","_law_top","_law_row_here","_law_k","_law_own","_law_shift"] [.ref p,.int top] = [some (.ref p),some (.int top),none,none,none,none] from rfl]
 try walk_at "WP"
 intro l nl
 refine abs_ nl fun H1 s1 h1 => ?_
 have lp:=hP.ne nl
 try walk_at "WP"
 refine pick_ (hP.same s1) (hS.same s1) h63 (by omega) (by decide) (by decide) fun n H2 n0 n1 P2 S2 C2 => ?_
 try walk_at "WP"
 intro e ne
 refine abs_ ne fun H3 s3 h3 => ?_
 try walk_at "WP"
 refine pick_ (P2.same s3) (S2.same s3) h63 (by omega) (by decide) (by decide) fun i H4 i0 i1 P4 S4 C4 => ?_
 have ep : e ≠ p:=P2.ne ne
 have h4:=C4 _ _ ep h3
 obtain ⟨m,em,hm⟩:=atI_int (ns:=[1,2,3,n]) i0 i1
 have mb : 0 <= m /\ m <= 6:=by
  have:=List.mem_of_getElem? hm
  simp only [List.mem_cons,List.not_mem_nil,or_false] at this
  omega
 have em : atI [V.int 1,V.int 2,V.int 3,V.int n] i = some (.int m):=em
 (iterate 5 ((try (walk_at "WP")); (try (simp only [h4,em,Option.some.injEq,HO.tup.injEq,HO.lst.injEq,HO.dK.injEq,exists_eq_left',exists_eq_left])))); (try (walk_at "WP"))
 refine ⟨by omega,by omega,?_⟩
 have C14 : Chg p H H4:=((s1.chg.trans C2).trans s3.chg).trans C4
 have hl4:=C4 _ _ lp (s3 _ _ (C2 _ _ lp h1))
 refine forR (fun i σ G => ∃ (xs : List Int) (o3 o4 o5 : Option V),σ = [some (.ref p),some (.int top),some (.ref l),o3,o4,o5] /\ G l = some (.lst (xs.map V.int)) /\ xs.length = i /\ (∀ x ∈ xs,x.natAbs < 2 ^ 300) /\ PPen G p a (c + 2 + 20 * i) /\ Scr K G a ns /\ Chg p H G) ⟨[],none,none,none,rfl,hl4,rfl,fun x h => (by cases h),P4.mono (by omega),S4,C14⟩ ?_ ?_
 ·rintro i σ G N hi ⟨xs,o3,o4,o5,rfl,hlG,xl,xb,PG,SG,CG⟩ hN
  have i6 : i < 6:=by omega
  refine seq_inG fun R_ hR_ => ?_
  try walk_at "WP"
  refine ⟨divB (by decide) (by decide),?_⟩
  refine pick_ PG SG h63 (by omega) (by omega) (by omega) fun x G1 x0 x1 P1 S1 C1 => ?_
  try walk_at "WP"
  refine ⟨mul_l (by decide) (by decide),?_⟩
  have ob : 1 <= 1 + 2 * x /\ 1 + 2 * x <= 200:=by omega
  generalize 1 + 2 * x = own at ob ⊢
  (try (walk_at "WP")); (try (refine seq_out hR_ ?_)); (try (refine seq_in fun R_ hR_ => ?_)); (try (walk_at "WP"))
  intro e2 ne2
  refine abs_ ne2 fun G2 s2 h2 => ?_
  try walk_at "WP"
  refine pick_ (P1.same s2) (S1.same s2) h63 (by omega) (by decide) (by decide) fun r G3 r0 r1 P3 S3 C3 => ?_
  have h3:=C3 _ _ (P1.ne ne2) h2
  obtain ⟨own2,eo,ho⟩:=atI_int (ns:=[own,own,0,1]) r0 r1
  have ob2 : 0 <= own2 /\ own2 <= 200:=by
   have:=List.mem_of_getElem? ho
   simp only [List.mem_cons,List.not_mem_nil,or_false] at this
   omega
  have eo : atI [V.int own,V.int own,V.int 0,V.int 1] r = some (.int own2):=eo
  (iterate 5 ((try (walk_at "WP")); (try (simp only [h3,eo,Option.some.injEq,HO.tup.injEq,HO.lst.injEq,HO.dK.injEq,exists_eq_left',exists_eq_left])))); (try (walk_at "WP"))
  have hl3:=C3 _ _ lp (s2 _ _ (C1 _ _ lp hlG))
  have CG3:=((CG.trans C1).trans s2.chg).trans C3
  clear h2 h3 eo ho C1 C3 s2 P1 S1
  subst hR_
  try walk_at "WP"
  refine mid_of (fun σ G4 => ∃ own : Int,σ = [some (.ref p),some (.int top),some (.ref l),some (.int (0 + (i : Int))),some (.int own),o5] /\ 0 <= own /\ own <= 200 /\ G4 l = some (.lst (xs.map V.int)) /\ PPen G4 p a (c + 2 + 20 * i + 5) /\ Scr K G4 a ns /\ Chg p H G4) (fun N1 hN1 => ?_) ?_
  ·try walk_at "WP"
   refine pick_ P3 S3 h63 (by omega) (by decide) (by decide) fun y G4 y0 y1 P4 S4 C4 => ?_
   try walk_at "WP"
   refine ite2 (fun z => ?_) (fun z => hN1 _ _ ⟨own2,rfl,ob2.1,ob2.2,C4 _ _ lp hl3,P4.mono (by omega),S4,CG3.trans C4⟩)
   refine pick_ P4 S4 h63 (by omega) (by decide) (by decide) fun u G5 u0 u1 P5 S5 C5 => ?_
   try walk_at "WP"
   exact hN1 _ _ ⟨top + 1 + u,rfl,by omega,by omega,C5 _ _ lp (C4 _ _ lp hl3),P5.mono (by omega),S5,(CG3.trans C4).trans C5⟩
  rintro σ G4 ⟨own,rfl,o0,o1,hl4,P4,S4,CG4⟩
  refine seq_in fun R_ hR_ => ?_
  try walk_at "WP"
  refine pick_ P4 S4 h63 (by omega) (by decide) (by decide) fun y1 G5 ya yb P5 S5 C5 => ?_
  try walk_at "WP"
  refine pick_ P5 S5 h63 (by omega) (by decide) (by decide) fun y2 G6 za zb P6 S6 C6 => ?_
  try walk_at "WP"
  intro e3 ne3
  refine abs_ ne3 fun G7 s7 h7 => ?_
  try walk_at "WP"
  refine pick_ (P6.same s7) (S6.same s7) h63 (by omega) (by decide) (by decide) fun j G8 j0 j1 P8 S8 C8 => ?_
  have h8:=C8 _ _ (P6.ne ne3) h7
  obtain ⟨shf,es,hs⟩:=atI_int (ns:=[y1,y2]) j0 j1
  have sb : 0 <= shf /\ shf < 190:=by
   have:=List.mem_of_getElem? hs
   simp only [List.mem_cons,List.not_mem_nil,or_false] at this
   omega
  have es : atI [V.int y1,V.int y2] j = some (.int shf):=es
  (iterate 5 ((try (walk_at "WP")); (try (simp only [h8,es,Option.some.injEq,HO.tup.injEq,HO.lst.injEq,HO.dK.injEq,exists_eq_left',exists_eq_left])))); (try (walk_at "WP"))
  have hl8:=C8 _ _ lp (s7 _ _ (C6 _ _ lp (C5 _ _ lp hl4)))
  have CG8:=(((CG4.trans C5).trans C6).trans s7.chg).trans C8
  clear h7 h8 es hs C5 C6 C8 s7 P5 S5 P6 S6
  subst hR_
  try walk_at "WP"
  refine mid_of (fun σ G9 => ∃ own sh : Int,σ = [some (.ref p),some (.int top),some (.ref l),some (.int (0 + (i : Int))),some (.int own),some (.int sh)] /\ 0 <= sh /\ sh < 190 /\ own.natAbs < 2 ^ 200 /\ (own * 2 ^ sh.toNat).natAbs < 2 ^ 300 /\ G9 l = some (.lst (xs.map V.int)) /\ PPen G9 p a (c + 2 + 20 * i + 10) /\ Scr K G9 a ns /\ Chg p H G9) (fun N1 hN1 => ?_) ?_
  ·try walk_at "WP"
   refine pick_ P8 S8 h63 (by omega) (by decide) (by decide) fun y G9 y0 y1 P9 S9 C9 => ?_
   try walk_at "WP"
   refine ite2 (fun z => ?_) (fun z => hN1 _ _ ⟨own,shf,rfl,sb.1,sb.2,Nat.lt_of_le_of_lt (m:=200) (by omega) (by decide),sh300 o0 o1 sb.2,C9 _ _ lp hl8,P9.mono (by omega),S9,CG8.trans C9⟩)
   refine pick_ P9 S9 h63 (by omega) (by decide) (by decide) fun u G10 u0 u1 P10 S10 C10 => ?_
   try walk_at "WP"
   have ub : (100000000000000000000000000000000000000000000000000000000000 + u).natAbs < 2 ^ 200:=by
    refine Nat.lt_of_le_of_lt (m:=100000000000000000000000000000000000000000000000000000000000 + 1000000000000000) (by omega) (by decide)
   exact hN1 _ _ ⟨_,0,rfl,by decide,by decide,ub,by rw [show (0 : Int).toNat = 0 from rfl,Int.pow_zero,Int.mul_one]; exact Nat.lt_trans ub (Nat.pow_lt_pow_right (by decide) (by decide)),C10 _ _ lp (C9 _ _ lp hl8),P10.mono (by omega),S10,(CG8.trans C9).trans C10⟩
  rintro σ G9 ⟨own,sh,rfl,s0,s1,ow,pw,hl9,P9,S9,CG9⟩
  try walk_at "WP"
  refine ⟨ty_list hl9,shl_ok (k:=200) s0 (by omega) ow (by decide),?_⟩
  refine pick_ P9 S9 h63 (by omega) (by decide) (by decide) fun g G10 g0 g1 P10 S10 C10 => ?_
  try walk_at "WP"
  have gg : 1 - 2 * g = 1 \/ 1 - 2 * g = -1:=by omega
  have hl10:=C10 _ _ lp hl9
  have C11 : Chg l G10 (upd G10 l (.lst (xs.map V.int ++ [V.int (own * 2 ^ sh.toNat * (1 - 2 * g))]))):=Chg.upd _
  refine ⟨mul_l (by decide) (by decide),mul_r (by omega) (by omega),_,hl10,by rw [List.length_map]; exact lt_big (by omega),?_⟩
  refine hN _ _ ⟨xs ++ [own * 2 ^ sh.toNat * (1 - 2 * g)],_,_,_,rfl,by rw [upd_same,List.map_append]; rfl,by rw [List.length_append,xl]; rfl,fun x hx => ?_,(P10.mono (by omega)).chg (q:=l) lp.symm C11,S10.chg hl10 C11,(CG9.trans C10).updN nl⟩
  rcases List.mem_append.mp hx with z | z
  ·exact xb x z
  ·rw [List.mem_singleton.mp z,Int.natAbs_mul]
   rcases gg with e | e <;> rw [e] <;> simpa using pw
 ·rintro σ G ⟨xs,o3,o4,o5,rfl,hlG,xl,xb,PG,SG,CG⟩
  try walk_at "WP"
  exact q _ xs _ hlG (by omega) xb CG
end

section
variable {P : Program} {w : World} {K : PySem.W.Frag} {mg : Str -> Option Value} {base : Heap}
theorem ok_law (T : Txt K mg) {f : Addr} {fd : FuncData} (F : Fun K "law" "law" s_law f fd) : FnOk P w K mg base CX0 20 f fd ["_law_script"] (spLaw K):=by
 have B:=T.bl
 obtain ⟨cst_TooMany,mg_TooMany,xi_TooMany⟩:=T.cls
 have X_r:=ok_refb (P:=P) (w:=w) (base:=base) T mg_TooMany xi_TooMany
 have C_fewest:=(ok_fewE (P:=P) (w:=w) (base:=base) T X_r).mono (k:=19) (by decide)
 have C_l_pen:=(ok_ppen (P:=P) (w:=w) (base:=base) T).mono (k:=19) (by decide)
 have C_l_bounds:=(ok_bnd36 (P:=P) (w:=w) (base:=base) T).mono (k:=19) (by decide)
 have C_l_row:=(ok_row36 (P:=P) (w:=w) (base:=base) T).mono (k:=19) (by decide)
 have C_l_odd:=(ok_odd36 (P:=P) (w:=w) (base:=base) T).mono (k:=19) (by decide)
 have C_l_least:=(ok_leastX (P:=P) (w:=w) (base:=base) T).mono (k:=19) (by decide)
 have C_l_is_row:=(ok_isrow36 (P:=P) (w:=w) (base:=base) T).mono (k:=19) (by decide)
 have C_l_shows:=(ok_shows36 (P:=P) (w:=w) (base:=base) T).mono (k:=19) (by decide)
 refine F.ok sc_law (fun vs H Q E h => ?_) (fun cdv A outer s H vs Q E hr h => ?_)
 ·obtain ⟨a,ns,rfl,_⟩:=h
  rfl
 obtain ⟨a,ns,rfl,hS,h63,q⟩:=h
 refine ⟨_,(pss_cons (ps_set (i:=1) sc_law.nd rfl (by walk_at "o") (pe_cal C_l_pen hr rfl (pa_cons (pv 0) pa_nil)))
  (pss_cons (ps_asg (pe_cal C_l_bounds hr rfl (pa_cons (pv 1) pa_nil)) (pg_lst 2 rfl (pgs_cons (pg_name (i:=2) sc_law.nd rfl (by walk_at "o")) (pgs_cons (pg_name (i:=3) sc_law.nd rfl (by walk_at "o")) pgs_nil))))
  (pss_cons (ps_set (i:=4) sc_law.nd rfl (by walk_at "o") (pe_cal C_l_row hr rfl (pa_cons (pv 1) (pa_cons (pv 2) pa_nil))))
  (pss_cons (ps_set (i:=5) sc_law.nd rfl (by walk_at "o") (pe_callB (call_sortW w rfl) rfl B.sorted bo_sorted (pa_cons (pe_callTy (call_setW w rfl) rfl B.set bo_set (pa_cons (pe_comp0 (N:=["_law_number"]) (nt:=1) (cs:=[]) rfl (pi_list (pv 4)) (fun nd C s H fp => ⟨(pg_name (i:=0) nd rfl (by walk_at "o")),(pn_one (pt_cmpR op_gt (pe_cal C_l_odd hr rfl (pa_cons (pv 0) pa_nil)) pe_int (nomark _))),(pe_cal C_l_odd hr rfl (pa_cons (pv 0) pa_nil))⟩) (by decide +kernel) (by first | rfl | decide +kernel) (by first | rfl | decide +kernel) rfl (fun _ => rfl)) pa_nil)) pa_nil)))
  (pss_cons (ps_set (i:=6) sc_law.nd rfl (by walk_at "o") pe_dnewT)
  (pss_cons (ps_set (i:=7) sc_law.nd rfl (by walk_at "o") (pe_cal C_l_least hr rfl (pa_cons (pv 6) (pa_cons (pv 5) (pa_cons (pv 2) (pa_cons (pv 3) pa_nil))))))
  (pss_cons (ps_set (i:=8) sc_law.nd rfl (by walk_at "o") (pe_callTy call_list_of rfl B.list bo_list (pa_cons (pv 4) pa_nil)))
  (pss_cons (ps_set (i:=9) sc_law.nd rfl (by walk_at "o") (pe_cal C_fewest hr rfl (pa_cons (pv 8) (pa_cons (pv 2) (pa_cons (pv 3) pa_nil)))))
  (pss_cons (ps_if (PW.pt (pw_or (pt_cmpR (op_neD hr) (pv 8) (pv 4) (nomark _)) (pw_or (pt_not (pt_val (pe_callB call_isI rfl B.isinstance bo_isinstance (pa_cons (pv 9) (pa_cons (pe_bltn (v:=.ty "tuple") rfl B.tuple bo_tuple rfl) pa_nil))))) (pw_or1 (pt_not (pt_val (pe_callB call_isI rfl B.isinstance bo_isinstance (pa_cons (pe_ix ix_U (pv 9) pe_int (fun _ _ => rfl)) (pa_cons (pe_bltn (v:=.ty "str") rfl B.str bo_str rfl) pa_nil))))))))) (pss_one (ps_ret pe_bl)) pss_nil)
  (pss_cons (ps_if (pt_cmp (pc_isN (pv 7))) (pss_cons (ps_if (PW.pt (pw_or (pt_cmpR op_ne (pe_callB call_lenU rfl B.len bo_len (pa_cons (pv 9) pa_nil)) pe_int (nomark _)) (pw_or1 (pt_cmpR op_ne (pe_ix ix_U (pv 9) pe_int (fun _ _ => rfl)) pe_str (nomark _))))) (pss_one (ps_ret pe_bl)) pss_nil)
  (pss_one (ps_ret (pe_cal C_l_shows hr rfl (pa_cons (pv 6) (pa_cons (pe_ix ix_U (pv 9) pe_int (fun _ _ => rfl)) (pa_cons (pv 5) (pa_cons (pv 2) (pa_cons (pv 3) pa_nil))))))))) pss_nil)
  (pss_cons (ps_if (PW.pt (pw_or (pt_cmpR op_ne (pe_callB call_lenU rfl B.len bo_len (pa_cons (pv 9) pa_nil)) pe_int (nomark _)) (pw_or (pt_cmpR op_ne (pe_ix ix_U (pv 9) pe_int (fun _ _ => rfl)) pe_str (nomark _)) (pw_or1 (pt_not (pt_val (pe_cal C_l_is_row hr rfl (pa_cons (pe_ix ix_U (pv 9) pe_int (fun _ _ => rfl)) (pa_cons (pv 4) (pa_cons (pv 2) (pa_cons (pv 7) pa_nil))))))))))) (pss_one (ps_ret pe_bl)) pss_nil)
  (pss_cons (ps_if (pt_cmpR op_eq (pv 7) pe_int (nomark _)) (pss_one (ps_ret (pe_cmp (pc_isN (pe_ix ix_U (pv 9) pe_int (fun _ _ => rfl)))))) pss_nil)
  (pss_one (ps_ret (pe_cal C_l_shows hr rfl (pa_cons (pv 6) (pa_cons (pe_ix ix_U (pv 9) pe_int (fun _ _ => rfl)) (pa_cons (pv 5) (pa_cons (pv 2) (pa_cons (pe_op op_sub (pv 7) pe_int) pa_nil)))))))))))))))))))),?_⟩
 rw [show start ["_law_script","_law_pen_here","_law_top","_law_most","_law_row_here","_law_owed","_law_pairs","_law_count","_law_handed","_law_found"] [.ref a] = [some (.ref a),none,none,none,none,none,none,none,none,none] from rfl]
 refine seq_in fun R_ hR_ => ?_
 try walk_at "WP"
 refine ⟨a,rfl,fun p H1 np s1 P1 => ?_⟩
 (try (walk_at "WP")); (try (refine seq_out hR_ ?_)); (try (refine seq_in fun R_ hR_ => ?_)); (try (walk_at "WP"))
 refine ⟨p,a,ns,_,rfl,P1,hS.same s1,h63,by decide,fun b top most H2 hb t1 t2 m4 nf P2 S2 C2 => ?_⟩
 (iterate 5 ((try (walk_at "WP")); (try (simp only [hb,Option.some.injEq,HO.tup.injEq,HO.lst.injEq,HO.dK.injEq,exists_eq_left',exists_eq_left])))); (try (walk_at "WP"))
 (try (walk_at "WP")); (try (refine seq_out hR_ ?_)); (try (refine seq_in fun R_ hR_ => ?_)); (try (walk_at "WP"))
 refine ⟨p,a,ns,_,top,rfl,P2,S2,h63,by decide,t1,t2,fun l xs H3 h3 xl xb C3 => ?_⟩
 clear np P1 P2 S2 C2 C3 hb
 (try (walk_at "WP")); (try (refine seq_out hR_ ?_)); (try (refine seq_in fun R_ hR_ => ?_)); (try (walk_at "WP"))
 refine ⟨⟨_,SqL.of h3⟩,?_⟩
 refine comp_L (f:=wantV) (SqL.of h3) (by rw [List.length_map]; exact le_big (by omega)) (fun x H' R hx hS' hR => ?_) (fun acc na => ?_)
 ·obtain ⟨n,hn,rfl⟩:=List.mem_map.mp hx
  have nb : n.natAbs < 2 ^ 9000:=Nat.lt_trans (xb n hn) (Nat.pow_lt_pow_right (by decide) (by decide))
  try walk_at "WP"
  refine ⟨n,rfl,nb,?_⟩
  try walk_at "WP"
  by_cases z : 1 < coreN n
  ·rw [show wantV (.int n) = some (.int (coreN n)) from if_pos z] at hR
   rw [if_pos z]
   exact ⟨n,rfl,nb,hR⟩
  ·rw [show wantV (.int n) = none from if_neg z] at hR
   rw [if_neg z]
   exact hR
 rw [wantV_map]
 refine abs_ na fun H4 s4 h4 => ?_
 have wl:=wantC_len xs
 refine ⟨acc,wantC xs,rfl,h4,by omega,fun sa nsa => ?_⟩
 refine abs_ nsa fun H5 s5 h5 => ?_
 have dl:=ded_len (wantC xs)
 refine ⟨sa,ded (wantC xs),rfl,h5,by omega,fun ow now => ?_⟩
 refine abs_ now fun H6 s6 h6 => ?_
 have h6 : H6 ow = some (.lst ((askL xs).map V.int)):=h6
 have h36:=s6 _ _ (s5 _ _ (s4 _ _ h3))
 clear h4 h5 na nsa now s4 s5 s6
 (try (walk_at "WP")); (try (refine seq_out hR_ ?_)); (try (refine seq_in fun R_ hR_ => ?_)); (try (walk_at "WP"))
 intro pd npd
 refine abs_ npd fun H7 s7 h7 => ?_
 have h37:=s7 _ _ h36
 have ow7:=s7 _ _ h6
 have askl:=ask_len xs
 (try (walk_at "WP")); (try (refine seq_out hR_ ?_)); (try (refine seq_in fun R_ hR_ => ?_)); (try (walk_at "WP"))
 refine ⟨pd,ow,[],askL xs,top,most,rfl,h7,pairsP_nil,ow7,by omega,ask_nd xs,fun x hx => (mem_ask.mp hx).1,t1,t2,m4,fun v pk H8 C8 p8 PP8 LV => ?_⟩
 have h38:=C8 _ _ (ne_of h37 h7 (by intro y; cases y)) h37
 have ow8:=C8 _ _ (ne_of ow7 h7 (by intro y; cases y)) ow7
 (try (walk_at "WP")); (try (refine seq_out hR_ ?_)); (try (refine seq_in fun R_ hR_ => ?_)); (try (walk_at "WP"))
 refine ⟨_,.inl (SqL.of h38),fun l2 n2 => ?_⟩
 refine abs_ n2 fun H9 s9 h9 => ?_
 (try (walk_at "WP")); (try (refine seq_out hR_ ?_)); (try (refine seq_in fun R_ hR_ => ?_)); (try (walk_at "WP"))
 refine ⟨l2,xs,top,most,rfl,h9,xl,xb,t1,t2,m4,nf,fun r lv lvs Ls H10 s10 hr10 Pa LVs ll ane fi => ?_,fun r w0 dl gl us os ds gs cs pv H10 s10 hr10 hw0 hdl hts hgl hks RE cb gxl O dm fi pp => ?_⟩
 ·have h310:=s10 _ _ (s9 _ _ h38)
  have h910:=s10 _ _ h9
  have PD : PDt top pd H10:=⟨pk,s10 _ _ (s9 _ _ p8),PP8⟩
  have ow10:=s10 _ _ (s9 _ _ ow8)
  (try (walk_at "WP")); (try (refine seq_out hR_ ?_)); (try (refine seq_in fun R_ hR_ => ?_)); (try (walk_at "WP"))
  refine neLI (ns:=xs) (ms:=xs) (SqL.of h910) (SqL.of h310) ?_
  try walk_at "WP"
  rw [isI_tt hr10]
  (iterate 5 ((try (walk_at "WP")); (try (simp only [hr10,isI_ss,Option.some.injEq,HO.tup.injEq,HO.lst.injEq,HO.dK.injEq,exists_eq_left',exists_eq_left])))); (try (walk_at "WP"))
  (try (walk_at "WP")); (try (refine seq_out hR_ ?_)); (try (refine seq_in fun R_ hR_ => ?_)); (try (walk_at "WP"))
  rcases LV with ⟨rfl,_⟩ | ⟨d,rfl,fd',_⟩
  ·(iterate 5 ((try (walk_at "WP")); (try (simp only [hr10,Option.some.injEq,HO.tup.injEq,HO.lst.injEq,HO.dK.injEq,exists_eq_left',exists_eq_left])))); (try (walk_at "WP"))
   rw [if_neg (show ¬ ¬ (((0 + 1 + 1 : Nat) : Int) = 2) by decide)]
   refine ne_ss ⟨false,rfl,?_⟩
   (iterate 5 ((try (walk_at "WP")); (try (simp only [hr10,Option.some.injEq,HO.tup.injEq,HO.lst.injEq,HO.dK.injEq,exists_eq_left',exists_eq_left])))); (try (walk_at "WP"))
   refine ⟨pd,lv,ow,lvs,Ls,askL xs,top,most,rfl,PD,Pa,LVs,ll,m4,ow10,ane,by omega,fun x hx => by have:=(mem_ask.mp hx).1; omega,t1,t2,fun H11 _ _ => ?_⟩
   exact q _
  ·exact absurd (few_uniq fi fd') (by omega)
 ·have h310:=s10 _ _ (s9 _ _ h38)
  have h910:=s10 _ _ h9
  have PD : PDt top pd H10:=⟨pk,s10 _ _ (s9 _ _ p8),PP8⟩
  have ow10:=s10 _ _ (s9 _ _ ow8)
  (try (walk_at "WP")); (try (refine seq_out hR_ ?_)); (try (refine seq_in fun R_ hR_ => ?_)); (try (walk_at "WP"))
  refine neLI (ns:=xs) (ms:=xs) (SqL.of h910) (SqL.of h310) ?_
  try walk_at "WP"
  rw [isI_tt hr10]
  (iterate 5 ((try (walk_at "WP")); (try (simp only [hr10,isI_ss,Option.some.injEq,HO.tup.injEq,HO.lst.injEq,HO.dK.injEq,exists_eq_left',exists_eq_left])))); (try (walk_at "WP"))
  (try (walk_at "WP")); (try (refine seq_out hR_ ?_)); (try (refine seq_in fun R_ hR_ => ?_)); (try (walk_at "WP"))
  rcases LV with ⟨rfl,f1⟩ | ⟨d,rfl,fd',z0⟩
  ·exact absurd (few_uniq f1 fi) (by omega)
  have ed : d = ds.length:=by have:=few_uniq fd' fi; omega
  subst ed
  (try (walk_at "WP")); (try (refine seq_out hR_ ?_)); (try (refine seq_in fun R_ hR_ => ?_)); (try (walk_at "WP"))
  (iterate 5 ((try (walk_at "WP")); (try (simp only [hr10,Option.some.injEq,HO.tup.injEq,HO.lst.injEq,HO.dK.injEq,exists_eq_left',exists_eq_left])))); (try (walk_at "WP"))
  rw [if_neg (show ¬ ¬ (((0 + 1 + 1 + 1 : Nat) : Int) = 3) by decide)]
  refine ne_ss ⟨false,rfl,?_⟩
  (iterate 5 ((try (walk_at "WP")); (try (simp only [hr10,Option.some.injEq,HO.tup.injEq,HO.lst.injEq,HO.dK.injEq,exists_eq_left',exists_eq_left])))); (try (walk_at "WP"))
  refine ⟨w0,l,dl,gl,us,os,ds,gs,xs,cs,top,rfl,hw0,hdl,hts,hgl,hks,h310,RE,by omega,cb,xl,⟨gxl,O⟩,fun H11 s11 => ?_⟩
  have hr11:=s11 _ _ hr10
  try walk_at "WP"
  (try (walk_at "WP")); (try (refine seq_out hR_ ?_)); (try (refine seq_in fun R_ hR_ => ?_)); (try (walk_at "WP"))
  refine ite2 (fun z => ?_) (fun z => ?_)
  ·rcases pp with ⟨_,rfl⟩ | ⟨_,_,_,_,_,_,e,_⟩
   ·(iterate 5 ((try (walk_at "WP")); (try (simp only [hr11,Option.some.injEq,HO.tup.injEq,HO.lst.injEq,HO.dK.injEq,exists_eq_left',exists_eq_left])))); (try (walk_at "WP"))
    exact q _
   ·omega
  ·rcases pp with ⟨e,_⟩ | ⟨lv,lvs,Ls,rfl,Pa,LVs,e,ane⟩
   ·omega
   ·(try (walk_at "WP")); (try (refine seq_out hR_ ?_)); (try (refine seq_in fun R_ hR_ => ?_)); (try (walk_at "WP"))
    (iterate 5 ((try (walk_at "WP")); (try (simp only [hr11,Option.some.injEq,HO.tup.injEq,HO.lst.injEq,HO.dK.injEq,exists_eq_left',exists_eq_left])))); (try (walk_at "WP"))
    rw [show ((ds.length : Nat) : Int) - 1 = ((ds.length - 1 : Nat) : Int) by omega]
    exact ⟨pd,lv,ow,lvs,Ls,askL xs,top,ds.length - 1,rfl,PD.same s11,Pa.same s11,LVs,by omega,by omega,s11 _ _ ow10,ane,by omega,fun x hx => by have:=(mem_ask.mp hx).1; omega,t1,t2,fun H12 _ _ => q _⟩
end

theorem ln1 {α : Type} {us : List α} (h : us.length = 1) : ∃ a0,us = [a0]:=match us,h with | [a0],_ => ⟨a0,rfl⟩
theorem ln2 {α : Type} {us : List α} (h : us.length = 2) : ∃ a0 a1,us = [a0,a1]:=match us,h with | [a0,a1],_ => ⟨a0,a1,rfl⟩
theorem ln3 {α : Type} {us : List α} (h : us.length = 3) : ∃ a0 a1 a2,us = [a0,a1,a2]:=match us,h with | [a0,a1,a2],_ => ⟨a0,a1,a2,rfl⟩
theorem ln4 {α : Type} {us : List α} (h : us.length = 4) : ∃ a0 a1 a2 a3,us = [a0,a1,a2,a3]:=match us,h with | [a0,a1,a2,a3],_ => ⟨a0,a1,a2,a3,rfl⟩
theorem ln5 {α : Type} {us : List α} (h : us.length = 5) : ∃ a0 a1 a2 a3 a4,us = [a0,a1,a2,a3,a4]:=match us,h with | [a0,a1,a2,a3,a4],_ => ⟨a0,a1,a2,a3,a4,rfl⟩
theorem all_mk {l : PySem.W.OpenLaw} {w : World} {K : PySem.W.Frag} {h : Heap} {mg : Str -> Option Value} {fa : Addr} (X : K.In h) (G : h.Ns mainGlobals mg) (hfa : mg "law" = some (.ref fa))
  {f1 : Addr} {od1 an1 : Option Addr} {sl1 : Array (Option Value)} {oc1 kV1 dc1 pm1 cd1 ct1 : Value} {f2 : Addr} {od2 an2 : Option Addr} {sl2 : Array (Option Value)} {oc2 kV2 dc2 pm2 cd2 ct2 : Value} {f3 : Addr} {od3 an3 : Option Addr} {sl3 : Array (Option Value)} {oc3 kV3 dc3 pm3 cd3 ct3 : Value} {f4 : Addr} {od4 an4 : Option Addr} {sl4 : Array (Option Value)} {oc4 kV4 dc4 pm4 cd4 ct4 : Value} {f5 : Addr} {od5 an5 : Option Addr} {sl5 : Array (Option Value)} {oc5 kV5 dc5 pm5 cd5 ct5 : Value} {f6 : Addr} {od6 an6 : Option Addr} {sl6 : Array (Option Value)} {oc6 kV6 dc6 pm6 cd6 ct6 : Value} {f7 : Addr} {od7 an7 : Option Addr} {sl7 : Array (Option Value)} {oc7 kV7 dc7 pm7 cd7 ct7 : Value} {f8 : Addr} {od8 an8 : Option Addr} {sl8 : Array (Option Value)} {oc8 kV8 dc8 pm8 cd8 ct8 : Value} {f9 : Addr} {od9 an9 : Option Addr} {sl9 : Array (Option Value)} {oc9 kV9 dc9 pm9 cd9 ct9 : Value} {f10 : Addr} {od10 an10 : Option Addr} {sl10 : Array (Option Value)} {oc10 kV10 dc10 pm10 cd10 ct10 : Value} {f11 : Addr} {od11 an11 : Option Addr} {sl11 : Array (Option Value)} {oc11 kV11 dc11 pm11 cd11 ct11 : Value} {f12 : Addr} {od12 an12 : Option Addr} {sl12 : Array (Option Value)} {oc12 kV12 dc12 pm12 cd12 ct12 : Value} {f13 : Addr} {od13 an13 : Option Addr} {sl13 : Array (Option Value)} {oc13 kV13 dc13 pm13 cd13 ct13 : Value} {f14 : Addr} {od14 an14 : Option Addr} {sl14 : Array (Option Value)} {oc14 kV14 dc14 pm14 cd14 ct14 : Value} {f15 : Addr} {od15 an15 : Option Addr} {sl15 : Array (Option Value)} {oc15 kV15 dc15 pm15 cd15 ct15 : Value} {f16 : Addr} {od16 an16 : Option Addr} {sl16 : Array (Option Value)} {oc16 kV16 dc16 pm16 cd16 ct16 : Value} {f17 : Addr} {od17 an17 : Option Addr} {sl17 : Array (Option Value)} {oc17 kV17 dc17 pm17 cd17 ct17 : Value} {f18 : Addr} {od18 an18 : Option Addr} {sl18 : Array (Option Value)} {oc18 kV18 dc18 pm18 cd18 ct18 : Value} {f19 : Addr} {od19 an19 : Option Addr} {sl19 : Array (Option Value)} {oc19 kV19 dc19 pm19 cd19 ct19 : Value} {f20 : Addr} {od20 an20 : Option Addr} {sl20 : Array (Option Value)} {oc20 kV20 dc20 pm20 cd20 ct20 : Value} {f21 : Addr} {od21 an21 : Option Addr} {sl21 : Array (Option Value)} {oc21 kV21 dc21 pm21 cd21 ct21 : Value} {f22 : Addr} {od22 an22 : Option Addr} {sl22 : Array (Option Value)} {oc22 kV22 dc22 pm22 cd22 ct22 : Value} {f23 : Addr} {od23 an23 : Option Addr} {sl23 : Array (Option Value)} {oc23 kV23 dc23 pm23 cd23 ct23 : Value} {f24 : Addr} {od24 an24 : Option Addr} {sl24 : Array (Option Value)} {oc24 kV24 dc24 pm24 cd24 ct24 : Value} {f25 : Addr} {od25 an25 : Option Addr} {sl25 : Array (Option Value)} {oc25 kV25 dc25 pm25 cd25 ct25 : Value} {f26 : Addr} {od26 an26 : Option Addr} {sl26 : Array (Option Value)} {oc26 kV26 dc26 pm26 cd26 ct26 : Value} {f27 : Addr} {od27 an27 : Option Addr} {sl27 : Array (Option Value)} {oc27 kV27 dc27 pm27 cd27 ct27 : Value} {f28 : Addr} {od28 an28 : Option Addr} {sl28 : Array (Option Value)} {oc28 kV28 dc28 pm28 cd28 ct28 : Value} {f29 : Addr} {od29 an29 : Option Addr} {sl29 : Array (Option Value)} {oc29 kV29 dc29 pm29 cd29 ct29 : Value} {f30 : Addr} {od30 an30 : Option Addr} {sl30 : Array (Option Value)} {oc30 kV30 dc30 pm30 cd30 ct30 : Value} {f31 : Addr} {od31 an31 : Option Addr} {sl31 : Array (Option Value)} {oc31 kV31 dc31 pm31 cd31 ct31 : Value} {f32 : Addr} {od32 an32 : Option Addr} {sl32 : Array (Option Value)} {oc32 kV32 dc32 pm32 cd32 ct32 : Value} {f33 : Addr} {od33 an33 : Option Addr} {sl33 : Array (Option Value)} {oc33 kV33 dc33 pm33 cd33 ct33 : Value} {f34 : Addr} {od34 an34 : Option Addr} {sl34 : Array (Option Value)} {oc34 kV34 dc34 pm34 cd34 ct34 : Value} {f35 : Addr} {od35 an35 : Option Addr} {sl35 : Array (Option Value)} {oc35 kV35 dc35 pm35 cd35 ct35 : Value} {f36 : Addr} {od36 an36 : Option Addr} {sl36 : Array (Option Value)} {oc36 kV36 dc36 pm36 cd36 ct36 : Value} {fc1 : Addr} {oe1 : Option Addr} {sm1 : Array (Option Value)} {nc1 : Nat} {ta1 tb1 td1 : Tok} {ti1 : Tok} {ti2 : Tok} {ti3 : Tok} {cst_TooMany : Addr}
  (a1 : PySem.W.nsIn K mainGlobals "core" = some (some (.ref f1))) (l1 : K.lookup f1 = some ⟨oc1,od1,.func (PySem.W.fnOf "core" "core" (defArgs s_core) (defBody s_core) (defScope s_core) .none kV1 dc1 pm1 an1 cd1 ct1),sl1⟩) (c1 : PySem.W.codeIn K cd1 "core" = true) (k1 : PySem.W.keepIn K (.ref f1) = true)
  (a2 : PySem.W.nsIn K mainGlobals "made" = some (some (.ref f2))) (l2 : K.lookup f2 = some ⟨oc2,od2,.func (PySem.W.fnOf "made" "made" (defArgs s_made) (defBody s_made) (defScope s_made) .none kV2 dc2 pm2 an2 cd2 ct2),sl2⟩) (c2 : PySem.W.codeIn K cd2 "made" = true) (k2 : PySem.W.keepIn K (.ref f2) = true)
  (a3 : PySem.W.nsIn K mainGlobals "doublings" = some (some (.ref f3))) (l3 : K.lookup f3 = some ⟨oc3,od3,.func (PySem.W.fnOf "doublings" "doublings" (defArgs s_doublings) (defBody s_doublings) (defScope s_doublings) .none kV3 dc3 pm3 an3 cd3 ct3),sl3⟩) (c3 : PySem.W.codeIn K cd3 "doublings" = true) (k3 : PySem.W.keepIn K (.ref f3) = true)
  (a4 : PySem.W.nsIn K mainGlobals "cores_of" = some (some (.ref f4))) (l4 : K.lookup f4 = some ⟨oc4,od4,.func (PySem.W.fnOf "cores_of" "cores_of" (defArgs s_cores_of) (defBody s_cores_of) (defScope s_cores_of) .none kV4 dc4 pm4 an4 cd4 ct4),sl4⟩) (c4 : PySem.W.codeIn K cd4 "cores_of" = true) (k4 : PySem.W.keepIn K (.ref f4) = true)
  (a5 : PySem.W.nsIn K mainGlobals "wanted" = some (some (.ref f5))) (l5 : K.lookup f5 = some ⟨oc5,od5,.func (PySem.W.fnOf "wanted" "wanted" (defArgs s_wanted) (defBody s_wanted) (defScope s_wanted) .none kV5 dc5 pm5 an5 cd5 ct5),sl5⟩) (c5 : PySem.W.codeIn K cd5 "wanted" = true) (k5 : PySem.W.keepIn K (.ref f5) = true)
  (a6 : PySem.W.nsIn K mainGlobals "refuse_beyond" = some (some (.ref f6))) (l6 : K.lookup f6 = some ⟨oc6,od6,.func (PySem.W.fnOf "refuse_beyond" "refuse_beyond" (defArgs s_refuse_beyond) (defBody s_refuse_beyond) (defScope s_refuse_beyond) .none kV6 dc6 pm6 an6 cd6 ct6),sl6⟩) (c6 : PySem.W.codeIn K cd6 "refuse_beyond" = true) (k6 : PySem.W.keepIn K (.ref f6) = true)
  (a7 : PySem.W.nsIn K mainGlobals "level_behind" = some (some (.ref f7))) (l7 : K.lookup f7 = some ⟨oc7,od7,.func (PySem.W.fnOf "level_behind" "level_behind" (defArgs s_level_behind) (defBody s_level_behind) (defScope s_level_behind) .none kV7 dc7 pm7 an7 cd7 ct7),sl7⟩) (c7 : PySem.W.codeIn K cd7 "level_behind" = true) (k7 : PySem.W.keepIn K (.ref f7) = true)
  (a8 : PySem.W.nsIn K mainGlobals "grown" = some (some (.ref f8))) (l8 : K.lookup f8 = some ⟨oc8,od8,.func (PySem.W.fnOf "grown" "grown" (defArgs s_grown) (defBody s_grown) (defScope s_grown) .none kV8 dc8 pm8 an8 cd8 ct8),sl8⟩) (c8 : PySem.W.codeIn K cd8 "grown" = true) (k8 : PySem.W.keepIn K (.ref f8) = true)
  (a9 : PySem.W.nsIn K mainGlobals "finishes" = some (some (.ref f9))) (l9 : K.lookup f9 = some ⟨oc9,od9,.func (PySem.W.fnOf "finishes" "finishes" (defArgs s_finishes) (defBody s_finishes) (defScope s_finishes) .none kV9 dc9 pm9 an9 cd9 ct9),sl9⟩) (c9 : PySem.W.codeIn K cd9 "finishes" = true) (k9 : PySem.W.keepIn K (.ref f9) = true)
  (a10 : PySem.W.nsIn K mainGlobals "moved" = some (some (.ref f10))) (l10 : K.lookup f10 = some ⟨oc10,od10,.func (PySem.W.fnOf "moved" "moved" (defArgs s_moved) (defBody s_moved) (defScope s_moved) .none kV10 dc10 pm10 an10 cd10 ct10),sl10⟩) (c10 : PySem.W.codeIn K cd10 "moved" = true) (k10 : PySem.W.keepIn K (.ref f10) = true)
  (a11 : PySem.W.nsIn K mainGlobals "deed_of" = some (some (.ref f11))) (l11 : K.lookup f11 = some ⟨oc11,od11,.func (PySem.W.fnOf "deed_of" "deed_of" (defArgs s_deed_of) (defBody s_deed_of) (defScope s_deed_of) .none kV11 dc11 pm11 an11 cd11 ct11),sl11⟩) (c11 : PySem.W.codeIn K cd11 "deed_of" = true) (k11 : PySem.W.keepIn K (.ref f11) = true)
  (a12 : PySem.W.nsIn K mainGlobals "sign_of" = some (some (.ref f12))) (l12 : K.lookup f12 = some ⟨oc12,od12,.func (PySem.W.fnOf "sign_of" "sign_of" (defArgs s_sign_of) (defBody s_sign_of) (defScope s_sign_of) .none kV12 dc12 pm12 an12 cd12 ct12),sl12⟩) (c12 : PySem.W.codeIn K cd12 "sign_of" = true) (k12 : PySem.W.keepIn K (.ref f12) = true)
  (a13 : PySem.W.nsIn K mainGlobals "add_sum" = some (some (.ref f13))) (l13 : K.lookup f13 = some ⟨oc13,od13,.func (PySem.W.fnOf "add_sum" "add_sum" (defArgs s_add_sum) (defBody s_add_sum) (defScope s_add_sum) .none kV13 dc13 pm13 an13 cd13 ct13),sl13⟩) (c13 : PySem.W.codeIn K cd13 "add_sum" = true) (k13 : PySem.W.keepIn K (.ref f13) = true)
  (a14 : PySem.W.nsIn K mainGlobals "out_for" = some (some (.ref f14))) (l14 : K.lookup f14 = some ⟨oc14,od14,.func (PySem.W.fnOf "out_for" "out_for" (defArgs s_out_for) (defBody s_out_for) (defScope s_out_for) .none kV14 dc14 pm14 an14 cd14 ct14),sl14⟩) (c14 : PySem.W.codeIn K cd14 "out_for" = true) (k14 : PySem.W.keepIn K (.ref f14) = true)
  (a15 : PySem.W.nsIn K mainGlobals "fewest" = some (some (.ref f15))) (l15 : K.lookup f15 = some ⟨oc15,od15,.func (PySem.W.fnOf "fewest" "fewest" (defArgs s_fewest) (defBody s_fewest) (defScope s_fewest) .none kV15 dc15 pm15 an15 cd15 ct15),sl15⟩) (c15 : PySem.W.codeIn K cd15 "fewest" = true) (k15 : PySem.W.keepIn K (.ref f15) = true)
  (a16 : PySem.W.nsIn K mainGlobals "with_all" = some (some (.ref f16))) (l16 : K.lookup f16 = some ⟨oc16,od16,.func (PySem.W.fnOf "with_all" "with_all" (defArgs s_with_all) (defBody s_with_all) (defScope s_with_all) .none kV16 dc16 pm16 an16 cd16 ct16),sl16⟩) (c16 : PySem.W.codeIn K cd16 "with_all" = true) (k16 : PySem.W.keepIn K (.ref f16) = true)
  (a17 : PySem.W.nsIn K mainGlobals "row_of" = some (some (.ref f17))) (l17 : K.lookup f17 = some ⟨oc17,od17,.func (PySem.W.fnOf "row_of" "row_of" (defArgs s_row_of) (defBody s_row_of) (defScope s_row_of) .none kV17 dc17 pm17 an17 cd17 ct17),sl17⟩) (c17 : PySem.W.codeIn K cd17 "row_of" = true) (k17 : PySem.W.keepIn K (.ref f17) = true)
  (a18 : PySem.W.nsIn K mainGlobals "way_to" = some (some (.ref f18))) (l18 : K.lookup f18 = some ⟨oc18,od18,.func (PySem.W.fnOf "way_to" "way_to" (defArgs s_way_to) (defBody s_way_to) (defScope s_way_to) .none kV18 dc18 pm18 an18 cd18 ct18),sl18⟩) (c18 : PySem.W.codeIn K cd18 "way_to" = true) (k18 : PySem.W.keepIn K (.ref f18) = true)
  (a19 : PySem.W.nsIn K mainGlobals "add_core" = some (some (.ref f19))) (l19 : K.lookup f19 = some ⟨oc19,od19,.func (PySem.W.fnOf "add_core" "add_core" (defArgs s_add_core) (defBody s_add_core) (defScope s_add_core) .none kV19 dc19 pm19 an19 cd19 ct19),sl19⟩) (c19 : PySem.W.codeIn K cd19 "add_core" = true) (k19 : PySem.W.keepIn K (.ref f19) = true)
  (a20 : PySem.W.nsIn K mainGlobals "_law_pen" = some (some (.ref f20))) (l20 : K.lookup f20 = some ⟨oc20,od20,.func (PySem.W.fnOf "_law_pen" "_law_pen" (defArgs s_l_pen) (defBody s_l_pen) (defScope s_l_pen) .none kV20 dc20 pm20 an20 cd20 ct20),sl20⟩) (c20 : PySem.W.codeIn K cd20 "_law_pen" = true) (k20 : PySem.W.keepIn K (.ref f20) = true)
  (a21 : PySem.W.nsIn K mainGlobals "_law_pick" = some (some (.ref f21))) (l21 : K.lookup f21 = some ⟨oc21,od21,.func (PySem.W.fnOf "_law_pick" "_law_pick" (defArgs s_l_pick) (defBody s_l_pick) (defScope s_l_pick) .none kV21 dc21 pm21 an21 cd21 ct21),sl21⟩) (c21 : PySem.W.codeIn K cd21 "_law_pick" = true) (k21 : PySem.W.keepIn K (.ref f21) = true)
  (a22 : PySem.W.nsIn K mainGlobals "_law_bounds" = some (some (.ref f22))) (l22 : K.lookup f22 = some ⟨oc22,od22,.func (PySem.W.fnOf "_law_bounds" "_law_bounds" (defArgs s_l_bounds) (defBody s_l_bounds) (defScope s_l_bounds) .none kV22 dc22 pm22 an22 cd22 ct22),sl22⟩) (c22 : PySem.W.codeIn K cd22 "_law_bounds" = true) (k22 : PySem.W.keepIn K (.ref f22) = true)
  (a23 : PySem.W.nsIn K mainGlobals "_law_row" = some (some (.ref f23))) (l23 : K.lookup f23 = some ⟨oc23,od23,.func (PySem.W.fnOf "_law_row" "_law_row" (defArgs s_l_row) (defBody s_l_row) (defScope s_l_row) .none kV23 dc23 pm23 an23 cd23 ct23),sl23⟩) (c23 : PySem.W.codeIn K cd23 "_law_row" = true) (k23 : PySem.W.keepIn K (.ref f23) = true)
  (a24 : PySem.W.nsIn K mainGlobals "_law_odd" = some (some (.ref f24))) (l24 : K.lookup f24 = some ⟨oc24,od24,.func (PySem.W.fnOf "_law_odd" "_law_odd" (defArgs s_l_odd) (defBody s_l_odd) (defScope s_l_odd) .none kV24 dc24 pm24 an24 cd24 ct24),sl24⟩) (c24 : PySem.W.codeIn K cd24 "_law_odd" = true) (k24 : PySem.W.keepIn K (.ref f24) = true)
  (a25 : PySem.W.nsIn K mainGlobals "_law_pair" = some (some (.ref f25))) (l25 : K.lookup f25 = some ⟨oc25,od25,.func (PySem.W.fnOf "_law_pair" "_law_pair" (defArgs s_l_pair) (defBody s_l_pair) (defScope s_l_pair) .none kV25 dc25 pm25 an25 cd25 ct25),sl25⟩) (c25 : PySem.W.codeIn K cd25 "_law_pair" = true) (k25 : PySem.W.keepIn K (.ref f25) = true)
  (a26 : PySem.W.nsIn K mainGlobals "_law_reach" = some (some (.ref f26))) (l26 : K.lookup f26 = some ⟨oc26,od26,.func (PySem.W.fnOf "_law_reach" "_law_reach" (defArgs s_l_reach) (defBody s_l_reach) (defScope s_l_reach) .none kV26 dc26 pm26 an26 cd26 ct26),sl26⟩) (c26 : PySem.W.codeIn K cd26 "_law_reach" = true) (k26 : PySem.W.keepIn K (.ref f26) = true)
  (a27 : PySem.W.nsIn K mainGlobals "_law_ends" = some (some (.ref f27))) (l27 : K.lookup f27 = some ⟨oc27,od27,.func (PySem.W.fnOf "_law_ends" "_law_ends" (defArgs s_l_ends) (defBody s_l_ends) (defScope s_l_ends) .none kV27 dc27 pm27 an27 cd27 ct27),sl27⟩) (c27 : PySem.W.codeIn K cd27 "_law_ends" = true) (k27 : PySem.W.keepIn K (.ref f27) = true)
  (a28 : PySem.W.nsIn K mainGlobals "_law_least" = some (some (.ref f28))) (l28 : K.lookup f28 = some ⟨oc28,od28,.func (PySem.W.fnOf "_law_least" "_law_least" (defArgs s_l_least) (defBody s_l_least) (defScope s_l_least) .none kV28 dc28 pm28 an28 cd28 ct28),sl28⟩) (c28 : PySem.W.codeIn K cd28 "_law_least" = true) (k28 : PySem.W.keepIn K (.ref f28) = true)
  (a29 : PySem.W.nsIn K mainGlobals "_law_is_whole" = some (some (.ref f29))) (l29 : K.lookup f29 = some ⟨oc29,od29,.func (PySem.W.fnOf "_law_is_whole" "_law_is_whole" (defArgs s_l_is_whole) (defBody s_l_is_whole) (defScope s_l_is_whole) .none kV29 dc29 pm29 an29 cd29 ct29),sl29⟩) (c29 : PySem.W.codeIn K cd29 "_law_is_whole" = true) (k29 : PySem.W.keepIn K (.ref f29) = true)
  (a30 : PySem.W.nsIn K mainGlobals "_law_part" = some (some (.ref f30))) (l30 : K.lookup f30 = some ⟨oc30,od30,.func (PySem.W.fnOf "_law_part" "_law_part" (defArgs s_l_part) (defBody s_l_part) (defScope s_l_part) .none kV30 dc30 pm30 an30 cd30 ct30),sl30⟩) (c30 : PySem.W.codeIn K cd30 "_law_part" = true) (k30 : PySem.W.keepIn K (.ref f30) = true)
  (a31 : PySem.W.nsIn K mainGlobals "_law_walked" = some (some (.ref f31))) (l31 : K.lookup f31 = some ⟨oc31,od31,.func (PySem.W.fnOf "_law_walked" "_law_walked" (defArgs s_l_walked) (defBody s_l_walked) (defScope s_l_walked) .none kV31 dc31 pm31 an31 cd31 ct31),sl31⟩) (c31 : PySem.W.codeIn K cd31 "_law_walked" = true) (k31 : PySem.W.keepIn K (.ref f31) = true)
  (a32 : PySem.W.nsIn K mainGlobals "_law_is_row" = some (some (.ref f32))) (l32 : K.lookup f32 = some ⟨oc32,od32,.func (PySem.W.fnOf "_law_is_row" "_law_is_row" (defArgs s_l_is_row) (defBody s_l_is_row) (defScope s_l_is_row) .none kV32 dc32 pm32 an32 cd32 ct32),sl32⟩) (c32 : PySem.W.codeIn K cd32 "_law_is_row" = true) (k32 : PySem.W.keepIn K (.ref f32) = true)
  (a33 : PySem.W.nsIn K mainGlobals "_law_is_set" = some (some (.ref f33))) (l33 : K.lookup f33 = some ⟨oc33,od33,.func (PySem.W.fnOf "_law_is_set" "_law_is_set" (defArgs s_l_is_set) (defBody s_l_is_set) (defScope s_l_is_set) .none kV33 dc33 pm33 an33 cd33 ct33),sl33⟩) (c33 : PySem.W.codeIn K cd33 "_law_is_set" = true) (k33 : PySem.W.keepIn K (.ref f33) = true)
  (a34 : PySem.W.nsIn K mainGlobals "_law_is_led" = some (some (.ref f34))) (l34 : K.lookup f34 = some ⟨oc34,od34,.func (PySem.W.fnOf "_law_is_led" "_law_is_led" (defArgs s_l_is_led) (defBody s_l_is_led) (defScope s_l_is_led) .none kV34 dc34 pm34 an34 cd34 ct34),sl34⟩) (c34 : PySem.W.codeIn K cd34 "_law_is_led" = true) (k34 : PySem.W.keepIn K (.ref f34) = true)
  (a35 : PySem.W.nsIn K mainGlobals "_law_shows" = some (some (.ref f35))) (l35 : K.lookup f35 = some ⟨oc35,od35,.func (PySem.W.fnOf "_law_shows" "_law_shows" (defArgs s_l_shows) (defBody s_l_shows) (defScope s_l_shows) .none kV35 dc35 pm35 an35 cd35 ct35),sl35⟩) (c35 : PySem.W.codeIn K cd35 "_law_shows" = true) (k35 : PySem.W.keepIn K (.ref f35) = true)
  (a36 : PySem.W.nsIn K mainGlobals "law" = some (some (.ref f36))) (l36 : K.lookup f36 = some ⟨oc36,od36,.func (PySem.W.fnOf "law" "law" (defArgs s_law) (defBody s_law) (defScope s_law) .none kV36 dc36 pm36 an36 cd36 ct36),sl36⟩) (c36 : PySem.W.codeIn K cd36 "law" = true) (k36 : PySem.W.keepIn K (.ref f36) = true)
  (ac1 : PySem.W.nsIn K mainGlobals "NO_OUT" = some (some (.ref fc1))) (lc1 : K.lookup fc1 = some ⟨.type "tuple",oe1,.seq #[.int 0 ta1,.int 0 tb1,.int 0 td1] nc1,sm1⟩)
  (ai1 : PySem.W.nsIn K mainGlobals "TOP_AT_MOST" = some (some (.int 99 ti1)))
  (ai2 : PySem.W.nsIn K mainGlobals "DEEDS_AT_MOST" = some (some (.int 4 ti2)))
  (ai3 : PySem.W.nsIn K mainGlobals "TOP_WITH_ALL_DEEDS" = some (some (.int 31 ti3)))
  (ak1 : PySem.W.nsIn K mainGlobals "TooMany" = some (some (.ref cst_TooMany)))
  (fk1 : PySem.W.excIn K cst_TooMany [.type "ValueError",.type "Exception",.type "BaseException",.type "object"] "ValueError.__new__" = true)
  (z1 : PySem.W.nsIn K mainGlobals "abs" = some none)
  (z2 : PySem.W.nsIn K mainGlobals "bool" = some none)
  (z3 : PySem.W.nsIn K mainGlobals "enumerate" = some none)
  (z4 : PySem.W.nsIn K mainGlobals "int" = some none)
  (z5 : PySem.W.nsIn K mainGlobals "isinstance" = some none)
  (z6 : PySem.W.nsIn K mainGlobals "len" = some none)
  (z7 : PySem.W.nsIn K mainGlobals "list" = some none)
  (z8 : PySem.W.nsIn K mainGlobals "range" = some none)
  (z9 : PySem.W.nsIn K mainGlobals "set" = some none)
  (z10 : PySem.W.nsIn K mainGlobals "sorted" = some none)
  (z11 : PySem.W.nsIn K mainGlobals "str" = some none)
  (z12 : PySem.W.nsIn K mainGlobals "tuple" = some none)
  (z13 : PySem.W.nsIn K mainGlobals "zip" = some none)
  : ∃ fd : FuncData,(∀ (s : Shared) (v : Value),BindsTo s fd ⟨[v],[]⟩ [("_law_script",v)]) /\ ∀ base : Heap,K.In base -> base.Ns mainGlobals mg -> FnOk l.prog w K mg base CX0 20 fa fd ["_law_script"] (spLaw K):=by
 have e:=hfa.symm.trans (PySem.W.mg_of X G a36)
 cases e
 have F1:=fun_mk (st:=s_core) l1 c1 k1
 have b1:=F1.binds (ps:=["number"]) fun _ _ _ _ _ _ us hl => by obtain ⟨a0_,rfl⟩:=ln1 (us:=us) hl; rfl
 have F2:=fun_mk (st:=s_made) l2 c2 k2
 have b2:=F2.binds (ps:=["cores","top"]) fun _ _ _ _ _ _ us hl => by obtain ⟨a0_,a1_,rfl⟩:=ln2 (us:=us) hl; rfl
 have F3:=fun_mk (st:=s_doublings) l3 c3 k3
 have b3:=F3.binds (ps:=["odd","top"]) fun _ _ _ _ _ _ us hl => by obtain ⟨a0_,a1_,rfl⟩:=ln2 (us:=us) hl; rfl
 have F4:=fun_mk (st:=s_cores_of) l4 c4 k4
 have b4:=F4.binds (ps:=["numbers"]) fun _ _ _ _ _ _ us hl => by obtain ⟨a0_,rfl⟩:=ln1 (us:=us) hl; rfl
 have F5:=fun_mk (st:=s_wanted) l5 c5 k5
 have b5:=F5.binds (ps:=["numbers"]) fun _ _ _ _ _ _ us hl => by obtain ⟨a0_,rfl⟩:=ln1 (us:=us) hl; rfl
 have F6:=fun_mk (st:=s_refuse_beyond) l6 c6 k6
 have b6:=F6.binds (ps:=["top","most"]) fun _ _ _ _ _ _ us hl => by obtain ⟨a0_,a1_,rfl⟩:=ln2 (us:=us) hl; rfl
 have F7:=fun_mk (st:=s_level_behind) l7 c7 k7
 have b7:=F7.binds (ps:=["levels","top"]) fun _ _ _ _ _ _ us hl => by obtain ⟨a0_,a1_,rfl⟩:=ln2 (us:=us) hl; rfl
 have F8:=fun_mk (st:=s_grown) l8 c8 k8
 have b8:=F8.binds (ps:=["cores","top"]) fun _ _ _ _ _ _ us hl => by obtain ⟨a0_,a1_,rfl⟩:=ln2 (us:=us) hl; rfl
 have F9:=fun_mk (st:=s_finishes) l9 c9 k9
 have b9:=F9.binds (ps:=["cores","asked","top"]) fun _ _ _ _ _ _ us hl => by obtain ⟨a0_,a1_,a2_,rfl⟩:=ln3 (us:=us) hl; rfl
 have F10:=fun_mk (st:=s_moved) l10 c10 k10
 have b10:=F10.binds (ps:=["part","shift","sign"]) fun _ _ _ _ _ _ us hl => by obtain ⟨a0_,a1_,a2_,rfl⟩:=ln3 (us:=us) hl; rfl
 have F11:=fun_mk (st:=s_deed_of) l11 c11 k11
 have b11:=F11.binds (ps:=["one","other"]) fun _ _ _ _ _ _ us hl => by obtain ⟨a0_,a1_,rfl⟩:=ln2 (us:=us) hl; rfl
 have F12:=fun_mk (st:=s_sign_of) l12 c12 k12
 have b12:=F12.binds (ps:=["one","other"]) fun _ _ _ _ _ _ us hl => by obtain ⟨a0_,a1_,rfl⟩:=ln2 (us:=us) hl; rfl
 have F13:=fun_mk (st:=s_add_sum) l13 c13 k13
 have b13:=F13.binds (ps:=["ins","deeds","one","other"]) fun _ _ _ _ _ _ us hl => by obtain ⟨a0_,a1_,a2_,a3_,rfl⟩:=ln4 (us:=us) hl; rfl
 have F14:=fun_mk (st:=s_out_for) l14 c14 k14
 have b14:=F14.binds (ps:=["number","parts"]) fun _ _ _ _ _ _ us hl => by obtain ⟨a0_,a1_,rfl⟩:=ln2 (us:=us) hl; rfl
 have F15:=fun_mk (st:=s_fewest) l15 c15 k15
 have b15:=F15.binds (ps:=["numbers","top","most"]) fun _ _ _ _ _ _ us hl => by obtain ⟨a0_,a1_,a2_,rfl⟩:=ln3 (us:=us) hl; rfl
 have F16:=fun_mk (st:=s_with_all) l16 c16 k16
 have b16:=F16.binds (ps:=["cores","asked"]) fun _ _ _ _ _ _ us hl => by obtain ⟨a0_,a1_,rfl⟩:=ln2 (us:=us) hl; rfl
 have F17:=fun_mk (st:=s_row_of) l17 c17 k17
 have b17:=F17.binds (ps:=["cores","numbers","top"]) fun _ _ _ _ _ _ us hl => by obtain ⟨a0_,a1_,a2_,rfl⟩:=ln3 (us:=us) hl; rfl
 have F18:=fun_mk (st:=s_way_to) l18 c18 k18
 have b18:=F18.binds (ps:=["odd","parts","top"]) fun _ _ _ _ _ _ us hl => by obtain ⟨a0_,a1_,a2_,rfl⟩:=ln3 (us:=us) hl; rfl
 have F19:=fun_mk (st:=s_add_core) l19 c19 k19
 have b19:=F19.binds (ps:=["deeds","parts","way"]) fun _ _ _ _ _ _ us hl => by obtain ⟨a0_,a1_,a2_,rfl⟩:=ln3 (us:=us) hl; rfl
 have F20:=fun_mk (st:=s_l_pen) l20 c20 k20
 have b20:=F20.binds (ps:=["_law_script"]) fun _ _ _ _ _ _ us hl => by obtain ⟨a0_,rfl⟩:=ln1 (us:=us) hl; rfl
 have F21:=fun_mk (st:=s_l_pick) l21 c21 k21
 have b21:=F21.binds (ps:=["_law_pen_here","_law_many"]) fun _ _ _ _ _ _ us hl => by obtain ⟨a0_,a1_,rfl⟩:=ln2 (us:=us) hl; rfl
 have F22:=fun_mk (st:=s_l_bounds) l22 c22 k22
 have b22:=F22.binds (ps:=["_law_pen_here"]) fun _ _ _ _ _ _ us hl => by obtain ⟨a0_,rfl⟩:=ln1 (us:=us) hl; rfl
 have F23:=fun_mk (st:=s_l_row) l23 c23 k23
 have b23:=F23.binds (ps:=["_law_pen_here","_law_top"]) fun _ _ _ _ _ _ us hl => by obtain ⟨a0_,a1_,rfl⟩:=ln2 (us:=us) hl; rfl
 have F24:=fun_mk (st:=s_l_odd) l24 c24 k24
 have b24:=F24.binds (ps:=["_law_number"]) fun _ _ _ _ _ _ us hl => by obtain ⟨a0_,rfl⟩:=ln1 (us:=us) hl; rfl
 have F25:=fun_mk (st:=s_l_pair) l25 c25 k25
 have b25:=F25.binds (ps:=["_law_one","_law_other","_law_top"]) fun _ _ _ _ _ _ us hl => by obtain ⟨a0_,a1_,a2_,rfl⟩:=ln3 (us:=us) hl; rfl
 have F26:=fun_mk (st:=s_l_reach) l26 c26 k26
 have b26:=F26.binds (ps:=["_law_pairs","_law_some","_law_top"]) fun _ _ _ _ _ _ us hl => by obtain ⟨a0_,a1_,a2_,rfl⟩:=ln3 (us:=us) hl; rfl
 have F27:=fun_mk (st:=s_l_ends) l27 c27 k27
 have b27:=F27.binds (ps:=["_law_pairs","_law_some","_law_owed","_law_top"]) fun _ _ _ _ _ _ us hl => by obtain ⟨a0_,a1_,a2_,a3_,rfl⟩:=ln4 (us:=us) hl; rfl
 have F28:=fun_mk (st:=s_l_least) l28 c28 k28
 have b28:=F28.binds (ps:=["_law_pairs","_law_owed","_law_top","_law_most"]) fun _ _ _ _ _ _ us hl => by obtain ⟨a0_,a1_,a2_,a3_,rfl⟩:=ln4 (us:=us) hl; rfl
 have F29:=fun_mk (st:=s_l_is_whole) l29 c29 k29
 have b29:=F29.binds (ps:=["_law_thing"]) fun _ _ _ _ _ _ us hl => by obtain ⟨a0_,rfl⟩:=ln1 (us:=us) hl; rfl
 have F30:=fun_mk (st:=s_l_part) l30 c30 k30
 have b30:=F30.binds (ps:=["_law_told","_law_thing","_law_shift"]) fun _ _ _ _ _ _ us hl => by obtain ⟨a0_,a1_,a2_,rfl⟩:=ln3 (us:=us) hl; rfl
 have F31:=fun_mk (st:=s_l_walked) l31 c31 k31
 have b31:=F31.binds (ps:=["_law_deeds"]) fun _ _ _ _ _ _ us hl => by obtain ⟨a0_,rfl⟩:=ln1 (us:=us) hl; rfl
 have F32:=fun_mk (st:=s_l_is_row) l32 c32 k32
 have b32:=F32.binds (ps:=["_law_web","_law_row_here","_law_top","_law_count"]) fun _ _ _ _ _ _ us hl => by obtain ⟨a0_,a1_,a2_,a3_,rfl⟩:=ln4 (us:=us) hl; rfl
 have F33:=fun_mk (st:=s_l_is_set) l33 c33 k33
 have b33:=F33.binds (ps:=["_law_thing","_law_top"]) fun _ _ _ _ _ _ us hl => by obtain ⟨a0_,a1_,rfl⟩:=ln2 (us:=us) hl; rfl
 have F34:=fun_mk (st:=s_l_is_led) l34 c34 k34
 have b34:=F34.binds (ps:=["_law_pairs","_law_some","_law_later","_law_top"]) fun _ _ _ _ _ _ us hl => by obtain ⟨a0_,a1_,a2_,a3_,rfl⟩:=ln4 (us:=us) hl; rfl
 have F35:=fun_mk (st:=s_l_shows) l35 c35 k35
 have b35:=F35.binds (ps:=["_law_pairs","_law_paper","_law_owed","_law_top","_law_most"]) fun _ _ _ _ _ _ us hl => by obtain ⟨a0_,a1_,a2_,a3_,a4_,rfl⟩:=ln5 (us:=us) hl; rfl
 have F36:=fun_mk (st:=s_law) l36 c36 k36
 have b36:=F36.binds (ps:=["_law_script"]) fun _ _ _ _ _ _ us hl => by obtain ⟨a0_,rfl⟩:=ln1 (us:=us) hl; rfl
 have T : Txt K mg:=⟨⟨PySem.W.mg_none_of X G z1,PySem.W.mg_none_of X G z2,PySem.W.mg_none_of X G z3,PySem.W.mg_none_of X G z4,PySem.W.mg_none_of X G z5,PySem.W.mg_none_of X G z6,PySem.W.mg_none_of X G z7,PySem.W.mg_none_of X G z8,PySem.W.mg_none_of X G z9,PySem.W.mg_none_of X G z10,PySem.W.mg_none_of X G z11,PySem.W.mg_none_of X G z12,PySem.W.mg_none_of X G z13⟩,⟨_,_,F1,PySem.W.mg_of X G a1,b1⟩,⟨_,_,F2,PySem.W.mg_of X G a2,b2⟩,⟨_,_,F3,PySem.W.mg_of X G a3,b3⟩,⟨_,_,F4,PySem.W.mg_of X G a4,b4⟩,⟨_,_,F5,PySem.W.mg_of X G a5,b5⟩,⟨_,_,F6,PySem.W.mg_of X G a6,b6⟩,⟨_,_,F7,PySem.W.mg_of X G a7,b7⟩,⟨_,_,F8,PySem.W.mg_of X G a8,b8⟩,⟨_,_,F9,PySem.W.mg_of X G a9,b9⟩,⟨_,_,F10,PySem.W.mg_of X G a10,b10⟩,⟨_,_,F11,PySem.W.mg_of X G a11,b11⟩,⟨_,_,F12,PySem.W.mg_of X G a12,b12⟩,⟨_,_,F13,PySem.W.mg_of X G a13,b13⟩,⟨_,_,F14,PySem.W.mg_of X G a14,b14⟩,⟨_,_,F15,PySem.W.mg_of X G a15,b15⟩,⟨_,_,F16,PySem.W.mg_of X G a16,b16⟩,⟨_,_,F17,PySem.W.mg_of X G a17,b17⟩,⟨_,_,F18,PySem.W.mg_of X G a18,b18⟩,⟨_,_,F19,PySem.W.mg_of X G a19,b19⟩,⟨_,_,F20,PySem.W.mg_of X G a20,b20⟩,⟨_,_,F21,PySem.W.mg_of X G a21,b21⟩,⟨_,_,F22,PySem.W.mg_of X G a22,b22⟩,⟨_,_,F23,PySem.W.mg_of X G a23,b23⟩,⟨_,_,F24,PySem.W.mg_of X G a24,b24⟩,⟨_,_,F25,PySem.W.mg_of X G a25,b25⟩,⟨_,_,F26,PySem.W.mg_of X G a26,b26⟩,⟨_,_,F27,PySem.W.mg_of X G a27,b27⟩,⟨_,_,F28,PySem.W.mg_of X G a28,b28⟩,⟨_,_,F29,PySem.W.mg_of X G a29,b29⟩,⟨_,_,F30,PySem.W.mg_of X G a30,b30⟩,⟨_,_,F31,PySem.W.mg_of X G a31,b31⟩,⟨_,_,F32,PySem.W.mg_of X G a32,b32⟩,⟨_,_,F33,PySem.W.mg_of X G a33,b33⟩,⟨_,_,F34,PySem.W.mg_of X G a34,b34⟩,⟨_,_,F35,PySem.W.mg_of X G a35,b35⟩,⟨_,_,F36,PySem.W.mg_of X G a36,b36⟩,⟨fc1,PySem.W.mg_of X G ac1,_,_,_,lc1,rfl,rfl,le_size (by show 3 <= 1000; decide),.cons ⟨_,rfl⟩ (.cons ⟨_,rfl⟩ (.cons ⟨_,rfl⟩ .nil))⟩,⟨ti1,PySem.W.mg_of X G ai1⟩,⟨ti2,PySem.W.mg_of X G ai2⟩,⟨ti3,PySem.W.mg_of X G ai3⟩,⟨cst_TooMany,PySem.W.mg_of X G ak1,fk1⟩⟩
 refine ⟨PySem.W.fnOf "law" "law" (defArgs s_law) (defBody s_law) (defScope s_law) .none kV36 dc36 pm36 an36 cd36 ct36,fun s v => .of_eq rfl,fun base _ _ => ?_⟩
 exact ok_law T F36
theorem walk {l : PySem.W.OpenLaw} {q : Program} {loose : List Str} {XP : (Str -> Option Value) -> Heap -> Prop} {YP : World -> Heap -> Prop} {d : DefRec} {K : Params -> PySem.W.Frag} (hn : l.most = some 63) (hdf : d.params.defaults = [])
  (hY : ∀ (w : World) (h : Heap),YP w h -> (K w.params).In h)
  (F : ∀ (w : World) (mg : Str -> Option Value) (fa : Addr) (h : Heap),(K w.params).In h -> h.Ns mainGlobals mg -> mg d.name = some (.ref fa) ->
   ∃ fd : FuncData,(∀ (s : Shared) (u : Value),BindsTo s fd ⟨[u],[]⟩ [("_law_script",u)]) /\ ∀ base : Heap,(K w.params).In base -> base.Ns mainGlobals mg -> FnOk l.prog w (K w.params) mg base CX0 20 fa fd ["_law_script"] (spLaw (K w.params))) :
  PySem.W.WalkO q loose XP YP l.row.toRowW d [] (fun f vs => PySem.call f vs) :=
 L2.walk_of (n:=63) (k:=20) (x:="_law_script") (CX:=fun _ => CX0) (sp:=fun w => spLaw (K w.params)) hn (by decide) hdf ⟨rfl,by decide,by decide⟩ hY F (fun _ _ a ns hl hO hS => ⟨a,ns,rfl,scr_of hO hS,hl,fun _ => rfl⟩) fun _ _ _ _ _ z => z
end Law
def PySem.W.Fast.tw7496746413987992499 : Unit:=()
def PySem.W.Fast.tw10211985892317201613 : Unit:=()
def PySem.W.Fast.tw3480070885043202386 : Unit:=()
def PySem.W.Fast.tw10522458290934952716 : Unit:=()
def PySem.W.Fast.tw17604431270836361512 : Unit:=()
def PySem.W.Fast.tw14438068124537428456 : Unit:=()
def PySem.W.Fast.tw6142822137578810850 : Unit:=()
def PySem.W.Fast.tw11697993355965675926 : Unit:=()
def PySem.W.Fast.tw8483442063028029113 : Unit:=()
def PySem.W.Fast.tw8047955074362519059 : Unit:=()
def PySem.W.Fast.tw11823686264573598411 : Unit:=()
def PySem.W.Fast.tw3931353192253716516 : Unit:=()
def PySem.W.Fast.tw4216123763741785775 : Unit:=()
def PySem.W.Fast.tw2124040097039651103 : Unit:=()
def PySem.W.Fast.tw16931122342290853042 : Unit:=()
def PySem.W.Fast.tw10228378615015298007 : Unit:=()
def PySem.W.Fast.tw14316044328792124327 : Unit:=()
def PySem.W.Fast.tw4216268890595652056 : Unit:=()
open PySem PySem.W PyProof.Rows
set_option maxRecDepth 100000 in
set_option maxHeartbeats 0 in
theorem PySem.Challenge.cw_shiftsums_k36_fewest_told_holds : PySem.Challenge.rw_shiftsums_k36_fewest_told.Holds := by
 w_on; o_law; k_head; (case hw => w_witness2)
 k_fill
 refine Law.walk (l:=PySem.Challenge.rw_shiftsums_k36_fewest_told) rfl rfl (fun w h Y => PySem.W.kIn_of Y) ?F
 case F =>
  intro w mg fa h KX G hmg
  refine' Law.all_mk KX G hmg ?a1 ?l1 ?c1 ?k1 ?a2 ?l2 ?c2 ?k2 ?a3 ?l3 ?c3 ?k3 ?a4 ?l4 ?c4 ?k4 ?a5 ?l5 ?c5 ?k5 ?a6 ?l6 ?c6 ?k6 ?a7 ?l7 ?c7 ?k7 ?a8 ?l8 ?c8 ?k8 ?a9 ?l9 ?c9 ?k9 ?a10 ?l10 ?c10 ?k10 ?a11 ?l11 ?c11 ?k11 ?a12 ?l12 ?c12 ?k12 ?a13 ?l13 ?c13 ?k13 ?a14 ?l14 ?c14 ?k14 ?a15 ?l15 ?c15 ?k15 ?a16 ?l16 ?c16 ?k16 ?a17 ?l17 ?c17 ?k17 ?a18 ?l18 ?c18 ?k18 ?a19 ?l19 ?c19 ?k19 ?a20 ?l20 ?c20 ?k20 ?a21 ?l21 ?c21 ?k21 ?a22 ?l22 ?c22 ?k22 ?a23 ?l23 ?c23 ?k23 ?a24 ?l24 ?c24 ?k24 ?a25 ?l25 ?c25 ?k25 ?a26 ?l26 ?c26 ?k26 ?a27 ?l27 ?c27 ?k27 ?a28 ?l28 ?c28 ?k28 ?a29 ?l29 ?c29 ?k29 ?a30 ?l30 ?c30 ?k30 ?a31 ?l31 ?c31 ?k31 ?a32 ?l32 ?c32 ?k32 ?a33 ?l33 ?c33 ?k33 ?a34 ?l34 ?c34 ?k34 ?a35 ?l35 ?c35 ?k35 ?a36 ?l36 ?c36 ?k36 ?ac1 ?lc1 ?ai1 ?ai2 ?ai3 ?ak1 ?fk1 ?z1 ?z2 ?z3 ?z4 ?z5 ?z6 ?z7 ?z8 ?z9 ?z10 ?z11 ?z12 ?z13
  (case a1 => k_is); (case l1 => k_is); (case c1 => k_is); (case k1 => k_is)
  (case a2 => k_is); (case l2 => k_is); (case c2 => k_is); (case k2 => k_is)
  (case a3 => k_is); (case l3 => k_is); (case c3 => k_is); (case k3 => k_is)
  (case a4 => k_is); (case l4 => k_is); (case c4 => k_is); (case k4 => k_is)
  (case a5 => k_is); (case l5 => k_is); (case c5 => k_is); (case k5 => k_is)
  (case a6 => k_is); (case l6 => k_is); (case c6 => k_is); (case k6 => k_is)
  (case a7 => k_is); (case l7 => k_is); (case c7 => k_is); (case k7 => k_is)
  (case a8 => k_is); (case l8 => k_is); (case c8 => k_is); (case k8 => k_is)
  (case a9 => k_is); (case l9 => k_is); (case c9 => k_is); (case k9 => k_is)
  (case a10 => k_is); (case l10 => k_is); (case c10 => k_is); (case k10 => k_is)
  (case a11 => k_is); (case l11 => k_is); (case c11 => k_is); (case k11 => k_is)
  (case a12 => k_is); (case l12 => k_is); (case c12 => k_is); (case k12 => k_is)
  (case a13 => k_is); (case l13 => k_is); (case c13 => k_is); (case k13 => k_is)
  (case a14 => k_is); (case l14 => k_is); (case c14 => k_is); (case k14 => k_is)
  (case a15 => k_is); (case l15 => k_is); (case c15 => k_is); (case k15 => k_is)
  (case a16 => k_is); (case l16 => k_is); (case c16 => k_is); (case k16 => k_is)
  (case a17 => k_is); (case l17 => k_is); (case c17 => k_is); (case k17 => k_is)
  (case a18 => k_is); (case l18 => k_is); (case c18 => k_is); (case k18 => k_is)
  (case a19 => k_is); (case l19 => k_is); (case c19 => k_is); (case k19 => k_is)
  (case a20 => k_is); (case l20 => k_is); (case c20 => k_is); (case k20 => k_is)
  (case a21 => k_is); (case l21 => k_is); (case c21 => k_is); (case k21 => k_is)
  (case a22 => k_is); (case l22 => k_is); (case c22 => k_is); (case k22 => k_is)
  (case a23 => k_is); (case l23 => k_is); (case c23 => k_is); (case k23 => k_is)
  (case a24 => k_is); (case l24 => k_is); (case c24 => k_is); (case k24 => k_is)
  (case a25 => k_is); (case l25 => k_is); (case c25 => k_is); (case k25 => k_is)
  (case a26 => k_is); (case l26 => k_is); (case c26 => k_is); (case k26 => k_is)
  (case a27 => k_is); (case l27 => k_is); (case c27 => k_is); (case k27 => k_is)
  (case a28 => k_is); (case l28 => k_is); (case c28 => k_is); (case k28 => k_is)
  (case a29 => k_is); (case l29 => k_is); (case c29 => k_is); (case k29 => k_is)
  (case a30 => k_is); (case l30 => k_is); (case c30 => k_is); (case k30 => k_is)
  (case a31 => k_is); (case l31 => k_is); (case c31 => k_is); (case k31 => k_is)
  (case a32 => k_is); (case l32 => k_is); (case c32 => k_is); (case k32 => k_is)
  (case a33 => k_is); (case l33 => k_is); (case c33 => k_is); (case k33 => k_is)
  (case a34 => k_is); (case l34 => k_is); (case c34 => k_is); (case k34 => k_is)
  (case a35 => k_is); (case l35 => k_is); (case c35 => k_is); (case k35 => k_is)
  (case a36 => k_is); (case l36 => k_is); (case c36 => k_is); (case k36 => k_is)
  (case ac1 => k_is); (case lc1 => k_is); (case ai1 => k_is); (case ai2 => k_is)
  (case ai3 => k_is); (case ak1 => k_is); (case fk1 => first | kernel_rfl | k_exc); (case z1 => k_is)
  (case z2 => k_is); (case z3 => k_is); (case z4 => k_is); (case z5 => k_is)
  (case z6 => k_is); (case z7 => k_is); (case z8 => k_is); (case z9 => k_is)
  (case z10 => k_is); (case z11 => k_is); (case z12 => k_is); (case z13 => k_is)
end
