import PyProof.Rows.All
import Wide.All
import OpenK.AllK
import Wide.FinOn
import Lean
import PyProof.EqAt
import PyProof.EqKinds
import PyProof.TupleCall
import PyProof.NeKinds
import KE.KMinBuiltin
import PyProof.Rows.CallKwBuiltin
import KE.KDictList
import PyProof.ZipIter
import PyProof.EnumFor
import PyProof.EnumMake
import PyProof.EnumStmt
import PyProof.Rows.Range3
import KE.KItemsList
import PyProof.ListRange
import KE.KIsAll
import PyProof.TupleIter
import PyProof.StationsW
import OpenK.KOwn
import PyProof.RulesDel
import PyProof.ExcArgsOwn
import PyProof.ExcAttrAll.ValueError
import KE.IntBitsLaws
import PyProof.IsRules
import PyProof.SetKind
import PyProof.Rows.SetFrom
import PyProof.CollectWalk
import PyProof.ListNew
import PyProof.Seq
import KE.KSortedM
import PyProof.InstStoreFacts
import PyProof.ExcInit
import KE.KSortTup
import PyProof.AttrMissSeq
import KE.KEqDict
import PyProof.Rows.FStr
import PyProof.Rows.StrJoin2
import OpenK.KTop
import PyProof.StrLaws
import PyProof.TupleKey
import PyProof.SetRoads
import PySem.Challenge.RW_shiftsums_k59_whole_widths
open List renaming getElem?_eq_getElem → qA
open List renaming getElem?_eq_some_iff → qB
open List renaming length_map → qC
open List renaming getD_eq_getElem?_getD → qD
open List renaming mem_of_getElem? → qE
open List renaming length_append → qF
open List renaming getElem?_append_right → qG
open List renaming getElem?_append_left → qH
open List renaming getElem?_map → qI
open Nat renaming lt_of_lt_of_le → qJ
open List renaming mem_append_right → qK
open List renaming length_replicate → qL
open List renaming size_toArray → qM
open Nat renaming pow_le_pow_right → qN
open List renaming length_take → qO
open List renaming mem_map → qP
open List renaming replicate → qQ
section
set_option Elab.async false
set_option linter.all false
set_option maxRecDepth 100000
namespace L2
open PySem PySem.Spec PyProof.Rows
abbrev Key:=Sum Int Str
def keyIs:Key -> Value -> Bool
 | .inl k,v=>Value.isInt k v
 | .inr x,v=>Value.isStrOf x v
def keyH (w:World):Key -> Int
 | .inl k=>hashInt k
 | .inr x=>hashStr w x
theorem keyIs_shape:∀ {k:Key}{v:Value},keyIs k v=true -> (∃ i t,k=Sum.inl i /\ v=Value.int i t) \/ (∃ x t,k=Sum.inr x /\ v=Value.str x t)
 | .inl i,v,h=>by
  obtain ⟨t,e⟩:=Value.isInt_shape (k:=i) (v:=v) h
  exact .inl ⟨i,t,rfl,e⟩
 | .inr x,v,h=>by
  obtain ⟨t,e⟩:=Value.isStrOf_shape (x:=x) (v:=v) h
  exact .inr ⟨x,t,rfl,e⟩
theorem key_ll (a b:Int):decide ((Sum.inl a:Key)=Sum.inl b)=(a == b):=by
 by_cases e:a=b
 ·subst e; simp
 ·have h:¬ (Sum.inl a:Key)=Sum.inl b:=fun q=>e (Sum.inl.inj q)
  rw [decide_eq_false h]
  exact (beq_eq_false_iff_ne.mpr e).symm
theorem key_rr (a b:Str):decide ((Sum.inr a:Key)=Sum.inr b)=decide (a=b):=by
 by_cases e:a=b
 ·subst e; simp
 ·have h:¬ (Sum.inr a:Key)=Sum.inr b:=fun q=>e (Sum.inr.inj q)
  rw [decide_eq_false h,decide_eq_false e]
theorem key_lr (a:Int)(b:Str):decide ((Sum.inl a:Key)=Sum.inr b)=false:=decide_eq_false (fun q=>nomatch q)
theorem key_rl (a:Str)(b:Int):decide ((Sum.inr a:Key)=Sum.inl b)=false:=decide_eq_false (fun q=>nomatch q)
def mixKind (prog:Program)(w:World):PySem.KeyKind prog w Key where
 is:=keyIs
 hash:=keyH w
 inj:=fun v a b ha hb=>by
  rcases keyIs_shape ha with ⟨i,t,rfl,rfl⟩ | ⟨x,t,rfl,rfl⟩
  ·rcases keyIs_shape hb with ⟨j,u,rfl,e⟩ | ⟨y,u,rfl,e⟩
   ·injection e with e1 _; rw [e1]
   ·exact nomatch e
  ·rcases keyIs_shape hb with ⟨j,u,rfl,e⟩ | ⟨y,u,rfl,e⟩
   ·exact nomatch e
   ·injection e with e1 _; rw [e1]
 byValue:=fun k v h=>by
  rcases keyIs_shape h with ⟨i,t,rfl,rfl⟩ | ⟨x,t,rfl,rfl⟩ <;> rfl
 pyHash:=fun hv h=>by
  rcases keyIs_shape hv with ⟨i,t,rfl,rfl⟩ | ⟨x,t,rfl,rfl⟩
  ·exact wpAny_pyHash_int h
  ·exact wpAny_pyHash_str h
 eqBool:=fun hu hv h=>by
  rcases keyIs_shape hu with ⟨i,t,rfl,rfl⟩ | ⟨x,t,rfl,rfl⟩
  ·rcases keyIs_shape hv with ⟨j,u,rfl,rfl⟩ | ⟨y,u,rfl,rfl⟩
   ·rw [key_ll] at h; exact wpAny_eqBool_int h
   ·rw [key_lr] at h; exact SeqAt.EqAt.int_str i t y u _ _ _ _ h
  ·rcases keyIs_shape hv with ⟨j,u,rfl,rfl⟩ | ⟨y,u,rfl,rfl⟩
   ·rw [key_rl] at h; exact SeqAt.EqAt.str_int x t j u _ _ _ _ h
   ·rw [key_rr] at h; exact wpAny_eqBool_str h
 «strs»:=fun k x t v h=>by
  rcases keyIs_shape h with ⟨i,u,rfl,e⟩ | ⟨y,u,rfl,e⟩
  ·exact nomatch e
  ·injection e with e1 _
   subst e1
   cases v <;> rfl
end L2
namespace L2
open PySem PySem.Spec PyProof.Rows
inductive V where
 | non | bl (b:Bool) | int (i:Int) | str (x:Str) | byt (b:Array UInt8) | flt (b:UInt64) | ref (a:Addr) | ty (n:String)
 deriving DecidableEq
def RelV:V -> Value -> Prop
 | .non,u=>u=Value.none
 | .bl b,u=>u=Value.bool b
 | .int i,u=>∃ t,u=Value.int i t
 | .str x,u=>∃ t,u=Value.str x t
 | .byt b,u=>∃ t,u=Value.bytes b t
 | .flt b,u=>∃ t,u=Value.float b t
 | .ref a,u=>u=Value.ref a
 | .ty n,u=>u=Value.type n
abbrev Vals:List V -> List Value -> Prop:=Paired RelV
theorem Vals.length {xs:List V}{us:List Value}(r:Vals xs us):xs.length=us.length:=Paired.length r
theorem Vals.get:∀ {xs:List V}{us:List Value}{i:Nat}{x:V},Vals xs us -> xs[i]? = some x -> ∃ u,us[i]? = some u /\ RelV x u
 | _,_,_,_,.nil,e=>by simp at e
 | _,_,0,_,.cons r _,e=>by simp at e; subst e; exact ⟨_,rfl,r⟩
 | _,_,i+1,x,.cons _ t,e=>by
  obtain ⟨u,h1,h2⟩:=Vals.get (i:=i) (x:=x) t (by simpa using e)
  exact ⟨u,by simpa using h1,h2⟩
theorem Vals.set {x:V}{u:Value}(r:RelV x u):∀ {xs:List V} {us:List Value} (i:Nat),Vals xs us -> Vals (xs.set i x) (us.set i u)
 | _,_,_,.nil=>.nil
 | _,_,0,.cons _ t=>.cons r t
 | _,_,i+1,.cons q t=>.cons q (Vals.set r i t)
theorem Vals.append:∀ {xs ys:List V}{us ws:List Value},Vals xs us -> Vals ys ws -> Vals (xs ++ ys) (us ++ ws)
 | _,_,_,_,.nil,s=>s
 | _,_,_,_,.cons r t,s=>.cons r (Vals.append t s)
theorem Vals.take:∀ {xs:List V}{us:List Value}(n:Nat),Vals xs us -> Vals (xs.take n) (us.take n)
 | _,_,0,_=>.nil
 | _,_,_+1,.nil=>.nil
 | _,_,n+1,.cons r t=>.cons r (Vals.take n t)
theorem Vals.drop:∀ {xs:List V}{us:List Value}(n:Nat),Vals xs us -> Vals (xs.drop n) (us.drop n)
 | _,_,0,r=>r
 | _,_,_+1,.nil=>.nil
 | _,_,n+1,.cons _ t=>Vals.drop n t
def RelO:Option V -> Option Value -> Prop
 | some v,some u=>RelV v u
 | none,none=>True
 | _,_=>False
def KV {κ:Type}:List (κ × V) -> List (κ × Value) -> Prop:=Paired fun (p:κ × V) (q:κ × Value)=>p.1=q.1 /\ RelV p.2 q.2
def kV:Key -> V
 | .inl i=>.int i
 | .inr x=>.str x
inductive HO where
 | lst (xs:List V)
 | tup (xs:List V)
 | dK (kvs:List (Key × V)) | dT (kvs:List (List Key × V))
 | set (S:Int -> Bool) (n:Nat)
 | ins (C dx:Addr) (fs:List (Str × V))
 | own (x:Addr)
 | xd (fs:List (Str × V))
 | met (f x:Addr)
 | rng (lo hi:Int)
 | frz (o:Obj) (u:HO)
 | tbl (ps:Array Value)
 | ext (φ:Heap -> Prop)
abbrev Hp:=Addr -> Option HO
def upd (H:Hp)(a:Addr)(o:HO):Hp:=fun b=>if b=a then some o else H b
theorem upd_same {H:Hp}{a:Addr}{o:HO}:upd H a o a=some o:=by unfold upd; rw [if_pos rfl]
theorem upd_ne {H:Hp}{a b:Addr}{o:HO}(h:b ≠ a):upd H a o b=H b:=by unfold upd; rw [if_neg h]
theorem upd_upd {H:Hp}{a:Addr}{o u:HO}:upd (upd H a o) a u=upd H a u:=by
 funext b; unfold upd; split <;> rfl
theorem ne_of {H:Hp}{a b:Addr}{o u:HO}(h:H a=some o)(h':H b=some u)(d:o ≠ u):a ≠ b:=by
 intro e; subst e; rw [h] at h'; exact d (Option.some.inj h')
theorem ne_of_none {H:Hp}{a b:Addr}{o:HO}(h:H a=some o)(h':H b=none):a ≠ b:=by
 intro e; subst e; rw [h] at h'; cases h'
section
variable (P:Program)(w:World)
def ObjOk (H:Hp)(h:Heap)(a:Addr):HO -> Prop
 | .lst xs=>xs.length <= sizeLine /\ ∃ (its:List Value) (n:Nat),Vals xs its /\ h.get? a=some { cls:=.type "list",data:=.seq its.toArray n }
 | .tup xs=>xs.length <= sizeLine /\ ∃ its:List Value,Vals xs its /\ IsTup h a its.toArray
 | .dK kvs=>kvs.length <= sizeLine /\ (a == sysModules)=false /\ ∃ vs,KV kvs vs /\ h.DictOf (mixKind P w) a vs
 | .dT kvs=>kvs.length <= sizeLine /\ (a == sysModules)=false /\ ∃ xs:List (List Key × Addr × Value),
   Paired (fun (p:List Key × V) (q:List Key × Addr × Value)=>p.1=q.1 /\ H q.2.1=some (.tup (p.1.map kV)) /\ RelV p.2 q.2.2) kvs xs /\
   ∃ o es ep,h.get? a=some o /\ o.ExactDict /\ o.data = .dict es ep /\ es.toList=xs.map (entryOfKey (tupleKind (mixKind P w))) /\ (xs.map (·.1)).Nodup
 | .set S n=>h.SetOf (intKind P w) a S n
 | .ins C dx fs=>H dx=some (.own a) /\ fs.length <= 1000 /\ dx ≠ a /\ h.get? a=some (PySem.W.instObj C dx) /\
   ∃ mA,h.Ns1 dx mA /\ (∀ f,RelO (fs.lookup f) (mA f)) /\ PySem.Within mA (fs.map (·.1))
 | .own _=>∃ o,h.get? a=some o
 | .xd fs=>∃ mA,h.Ns1 a mA /\ ∀ f,RelO (fs.lookup f) (mA f)
 | .rng lo hi=>∃ t u v,h.get? a=some { cls:=.type "range",data:=.fields #[.int lo t,.int hi u,.int 1 v] }
 | .frz o u=>h.get? a=some o /\ ObjOk H h a u
 | .tbl ps=>h.get? a=some { cls:=.none,data:=.fields ps }
 | .met f x=>h.get? a=some (PySem.W.methodObj (.ref f) (.ref x))
 | .ext φ=>φ h /\ (∃ o,h.get? a=some o) /\ ∀ h1 h2:Heap,φ h1 -> (∀ o,h1.get? a=some o -> h2.get? a=some o) -> φ h2
def HOk (H:Hp)(h:Heap):Prop:=∀ a o,H a=some o -> ObjOk P w H h a o
end
section
variable {P:Program}{w:World}{H H':Hp}{h h':Heap}{a:Addr}{o:HO}
theorem ObjOk.lt (x:ObjOk P w H h a o):a < h.objs.size:=by
 cases o with
 | lst xs=>obtain ⟨_,_,_,_,e⟩:=x; exact Heap.lt_size e
 | tup xs=>obtain ⟨_,_,_,p⟩:=x; exact p.lt
 | dK kvs=>obtain ⟨_,_,_,_,o,_,_,e,_⟩:=x; exact Heap.lt_size e
 | dT kvs=>obtain ⟨_,_,_,_,o,_,_,e,_⟩:=x; exact Heap.lt_size e
 | set S n=>obtain ⟨o,_,_,_,e,_⟩:=x; exact Heap.lt_size e
 | ins C dx fs=>obtain ⟨_,_,_,e,_⟩:=x; exact Heap.lt_size e
 | own y=>obtain ⟨_,e⟩:=x; exact Heap.lt_size e
 | xd fs=>obtain ⟨_,⟨_,_,_,e,_⟩,_⟩:=x; exact Heap.lt_size e
 | rng lo hi=>obtain ⟨_,_,_,e⟩:=x; exact Heap.lt_size e
 | frz ob u=>obtain ⟨e,_⟩:=x; exact Heap.lt_size e
 | tbl ps=>exact Heap.lt_size (show h.get? a=some _ from x)
 | met f y=>exact Heap.lt_size (show h.get? a=some _ from x)
 | ext φ=>obtain ⟨_,⟨_,e⟩,_⟩:=x; exact Heap.lt_size e
theorem Paired.mapP {α β:Type}{F G:α -> β -> Prop}:∀ {l₁:List α} {l₂:List β},Paired F l₁ l₂ -> (∀ a b,F a b -> G a b) -> Paired G l₁ l₂
 | _,_,.nil,_=>.nil
 | _,_,.cons r t,f=>.cons (f _ _ r) (Paired.mapP t f)
theorem ObjOk.stay (x:ObjOk P w H h a o)(k:∀ b u,(b=a \/ H b=some (.own a)) -> h.get? b=some u -> h'.get? b=some u)
  (ho:∀ b,H b=some (.own a) -> H' b=some (.own a)) (ht:∀ b xs,H b=some (.tup xs) -> H' b=some (.tup xs)):ObjOk P w H' h' a o:=by
 induction o with
 | lst xs=>obtain ⟨z,its,n,r,e⟩:=x; exact ⟨z,its,n,r,k _ _ (.inl rfl) e⟩
 | tup xs=>obtain ⟨z,its,r,ob,e,c⟩:=x; exact ⟨z,its,r,ob,k _ _ (.inl rfl) e,c⟩
 | dK kvs=>obtain ⟨z,y,vs,r,ob,es,ep,e,c⟩:=x; exact ⟨z,y,vs,r,ob,es,ep,k _ _ (.inl rfl) e,c⟩
 | dT kvs =>
  obtain ⟨z,y,xs,r,ob,es,ep,e,c⟩:=x
  exact ⟨z,y,xs,Paired.mapP r fun p q z=>⟨z.1,ht _ _ z.2.1,z.2.2⟩,ob,es,ep,k _ _ (.inl rfl) e,c⟩
 | set S n=>obtain ⟨ob,es,ep,t,e,c⟩:=x; exact ⟨ob,es,ep,t,k _ _ (.inl rfl) e,c⟩
 | ins C dx fs =>
  obtain ⟨d,z,ne,e,mA,⟨od,es,ep,e2,c⟩,r⟩:=x
  exact ⟨ho _ d,z,ne,k _ _ (.inl rfl) e,mA,⟨od,es,ep,k _ _ (.inr d) e2,c⟩,r⟩
 | own y=>obtain ⟨ob,e⟩:=x; exact ⟨ob,k _ _ (.inl rfl) e⟩
 | xd fs=>obtain ⟨mA,⟨od,es,ep,e,c⟩,r⟩:=x; exact ⟨mA,⟨od,es,ep,k _ _ (.inl rfl) e,c⟩,r⟩
 | rng lo hi=>obtain ⟨t,u,v,e⟩:=x; exact ⟨t,u,v,k _ _ (.inl rfl) e⟩
 | frz ob u ih=>obtain ⟨e,q⟩:=x; exact ⟨k _ _ (.inl rfl) e,ih q⟩
 | tbl ps =>
  have e:h.get? a=some { cls:=.none,data:=.fields ps }:=x
  show h'.get? a=some { cls:=.none,data:=.fields ps }
  exact k a _ (.inl rfl) e
 | met f y =>
  have e:h.get? a=some (PySem.W.methodObj (.ref f) (.ref y)):=x
  show h'.get? a=some (PySem.W.methodObj (.ref f) (.ref y))
  exact k a _ (.inl rfl) e
 | ext φ=>obtain ⟨p,⟨o,e⟩,st⟩:=x; exact ⟨st _ _ p fun o q=>k _ _ (.inl rfl) q,⟨o,k _ _ (.inl rfl) e⟩,st⟩
theorem HOk.lt (x:HOk P w H h)(e:H a=some o):a < h.objs.size:=(x a o e).lt
theorem HOk.fresh (x:HOk P w H h)(e:h.objs.size <= a):H a=none:=by
 cases q:H a with
 | none=>rfl
 | some u=>exact absurd (qJ (x.lt q) e) (Nat.lt_irrefl _)
theorem HOk.kept (x:HOk P w H h)(k:∀ b u,h.get? b=some u -> h'.get? b=some u):HOk P w H h':=fun a o e =>
 (x a o e).stay (fun b u _ q=>k b u q) (fun _ q=>q) fun _ _ q=>q
theorem HOk.laid (x:HOk P w H h)(k:∀ b u,h.get? b=some u -> h'.get? b=some u)(hp:h.objs.size <= a)(new:ObjOk P w (upd H a o) h' a o):HOk P w (upd H a o) h':=fun b u e=>by
 have hn:=x.fresh hp
 by_cases hb:b=a
 ·subst hb; rw [upd_same] at e; cases e; exact new
 ·rw [upd_ne hb] at e
  exact (x b u e).stay (fun c v _ q=>k c v q) (fun c q=>by rw [upd_ne (ne_of_none q hn)]; exact q) fun c xs q=>by rw [upd_ne (ne_of_none q hn)]; exact q
end
def Rd (H:Hp)(a:Addr)(u:HO):Prop:=H a=some u \/ ∃ o,H a=some (.frz o u)
theorem Rd.ok {P:Program}{w:World}{H:Hp}{h:Heap}{a:Addr}{u:HO}(r:Rd H a u)(x:HOk P w H h):ObjOk P w H h a u:=by
 rcases r with r | ⟨o,r⟩
 ·exact x a u r
 ·obtain ⟨_,q⟩:=x a _ r
  exact q
def Mut:Option HO -> Prop
 | some (.lst _)=>True
 | some (.dK _)=>True
 | some (.dT _)=>True
 | some (.set _ _)=>True
 | some (.ins _ _ _)=>True
 | some (.ext _)=>True
 | _=>False
section
variable {P:Program}{w:World}{H:Hp}{h h':Heap}{x e:Addr}{o':HO}
theorem HOk.write (ok:HOk P w H h)(mu:Mut (H x))(he:e=x \/ H e=some (.own x))(k:∀ b u,b ≠ e -> h.get? b=some u -> h'.get? b=some u)(heo:∃ u,h'.get? e=some u)
  (new:ObjOk P w (upd H x o') h' x o'):HOk P w (upd H x o') h':=fun b u q=>by
 have nown:∀ c y,H c=some (.own y) -> c ≠ x:=fun c y r z=>by subst z; rw [r] at mu; exact mu
 have ntup:∀ c xs,H c=some (.tup xs) -> c ≠ x:=fun c xs r z=>by subst z; rw [r] at mu; exact mu
 by_cases hb:b=x
 ·subst hb; rw [upd_same] at q; cases q; exact new
 ·rw [upd_ne hb] at q
  by_cases hbe:b=e
  ·have q':H b=some (.own x):=by
    rcases he with z | z
    ·exact absurd (hbe.trans z) hb
    ·rw [hbe]; exact z
   rw [q] at q'; cases q'
   obtain ⟨v,hv⟩:=heo
   exact ⟨v,by rw [hbe]; exact hv⟩
  ·refine (ok b u q).stay (fun c v hc r=>k c v ?_ r) (fun c r=>by rw [upd_ne (nown c b r)]; exact r) fun c xs r=>by rw [upd_ne (ntup c xs r)]; exact r
   rcases hc with rfl | hc
   ·exact hbe
   ·rintro rfl
    rcases he with z | z
    ·exact nown c b hc z
    ·rw [hc] at z; cases z; exact hb rfl
end
structure Un (fs ex:List Addr) (H H':Hp) (h h':Heap):Prop where
 keep:∀ b o,h.get? b=some o -> H b=none -> b ∉ fs -> b ∉ ex -> h'.get? b=some o
 slot:∀ b o,h.get? b=some o -> H b=none -> b ∈ fs -> b ∉ ex -> ∃ sl,h'.get? b=some { o with slots:=sl }
 free:∀ b o,h.get? b=some o -> H b=none -> b ∉ ex -> H' b=none
 there:∀ b o,h.get? b=some o -> b ∉ ex -> ∃ o',h'.get? b=some o'
 tups:∀ b xs,H b=some (.tup xs) -> H' b=some (.tup xs)
 frzs:∀ b o u,H b=some (.frz o u) -> H' b=some (.frz o u)
 tbls:∀ b ps,H b=some (.tbl ps) -> ∃ more,H' b=some (.tbl (ps ++ more))
section
variable {fs fs' ex ex':List Addr}{H H1 H2:Hp}{h h1 h2 h':Heap}{a x e:Addr}{o:HO}
theorem Un.any (u:Un fs ex H H1 h h1){b:Addr}{ob:Obj}(q:h.get? b=some ob)(n:H b=none)(hx:b ∉ ex):∃ sl,h1.get? b=some { ob with slots:=sl }:=by
 by_cases hb:b ∈ fs
 ·exact u.slot b ob q n hb hx
 ·exact ⟨ob.slots,u.keep b ob q n hb hx⟩
theorem Un.kept (k:∀ b u,h.get? b=some u -> h'.get? b=some u):Un fs ex H H h h' :=
 ⟨fun b ob q _ _ _=>k b ob q,fun b ob q _ _ _=>⟨ob.slots,k b ob q⟩,fun _ _ _ n _=>n,fun b ob q _=>⟨ob,k b ob q⟩,fun _ _ q=>q,fun _ _ _ q=>q,fun _ ps q=>⟨#[],by rw [q]; simp⟩⟩
theorem Un.refl:Un fs ex H H h h:=Un.kept fun _ _ q=>q
theorem Un.laid (k:∀ b u,h.get? b=some u -> h'.get? b=some u)(hp:h.objs.size <= a)(hn:H a=none):Un fs ex H (upd H a o) h h' where
 keep:=fun b u q _ _ _=>k b u q
 slot:=fun b u q _ _ _=>⟨u.slots,k b u q⟩
 free:=fun b u q n _=>by rw [upd_ne (Nat.ne_of_lt (qJ (Heap.lt_size q) hp))]; exact n
 there:=fun b u q _=>⟨u,k b u q⟩
 tups:=fun b xs q=>by rw [upd_ne (ne_of_none q hn)]; exact q
 frzs:=fun b u xs q=>by rw [upd_ne (ne_of_none q hn)]; exact q
 tbls:=fun b ps q=>⟨#[],by rw [upd_ne (ne_of_none q hn),q]; simp⟩
theorem Un.write (mu:Mut (H x))(he:e=x \/ H e=some (.own x))(k:∀ b u,b ≠ e -> h.get? b=some u -> h'.get? b=some u)(heo:∃ u,h'.get? e=some u):Un fs ex H (upd H x o) h h':=by
 have hx:∀ b,H b=none -> b ≠ x:=fun b n z=>by subst z; rw [n] at mu; exact mu
 have hb:∀ b,H b=none -> b ≠ e:=fun b n z=>by
  subst z
  rcases he with r | r
  ·exact hx b n r
  ·rw [n] at r; cases r
 have hm:∀ b u,H b=some u -> ¬ Mut (some u) -> b ≠ x:=fun b u q nm z=>by subst z; rw [q] at mu; exact nm mu
 refine ⟨fun b u q n _ _=>k b u (hb b n) q,fun b u q n _ _=>⟨u.slots,k b u (hb b n) q⟩,fun b u q n _=>by rw [upd_ne (hx b n)]; exact n,fun b u q _=>?_,
  fun b xs q=>by rw [upd_ne (hm b _ q fun z=>z)]; exact q,fun b u xs q=>by rw [upd_ne (hm b _ q fun z=>z)]; exact q,fun b ps q=>⟨#[],by rw [upd_ne (hm b _ q fun z=>z),q]; simp⟩⟩
 by_cases hbe:b=e
 ·subst hbe; exact heo
 ·exact ⟨u,k b u hbe q⟩
end
def trk (h:Heap)(H:Hp):List Addr:=(List.range h.objs.size).filter fun a=>(H a).isSome
def hidT (h:Heap)(H:Hp):Heap:=PySem.W.hideAll h (trk h H)
theorem hidT_size (h:Heap)(H:Hp):(hidT h H).objs.size=h.objs.size:=PySem.W.hideAll_size _ _
theorem hidT_get {h:Heap}{H:Hp}{b:Addr}{o:Obj}(e:h.get? b=some o)(n:H b=none):(hidT h H).get? b=some o :=
 PySem.W.hideAll_get _ e fun hm=>by
  have q:(H b).isSome=true:=(List.mem_filter.mp hm).2
  rw [n] at q; simp at q
theorem of_hidT {h:Heap}{H:Hp}{b:Addr}{o:Obj}(e:(hidT h H).get? b=some o):h.get? b=some o /\ H b=none:=by
 have e':h.get? b=some o:=PySem.W.of_hideAll (trk h H) e
 refine ⟨e',?_⟩
 cases q:H b with
 | none=>rfl
 | some x =>
  have hm:b ∈ trk h H:=List.mem_filter.mpr ⟨List.mem_range.mpr (Heap.lt_size e'),by simp [q]⟩
  have z:(hidT h H).get? b=none:=PySem.W.hideAll_none (trk h H) hm
  rw [z] at e; cases e
def allNews (g h:Heap)(L:Addr):List (Addr × Obj):=(List.range h.objs.size).filterMap fun a=>if a=L \/ (g.get? a).isSome=true then none else (h.get? a).map fun o=>(a,o)
def rest (g h:Heap)(L d:Addr):List (Addr × Obj):=(allNews g h L).filter fun p=>decide (p.1 ≠ d)
end L2
namespace L2
open PySem PySem.Spec PyProof.Rows
structure Mod (K:PySem.W.Frag) (mg:Str -> Option Value) (base:Heap):Prop where
 kin:K.In base
 glob:base.Ns mainGlobals mg
 blt:∃ mb,base.Ns builtinsNs mb /\ ∀ x:Str,x ≠ "__name__" -> mb x=bootBuiltins x
 nolimit:base.NoLimit
structure Cx where
 prog:Program
 w:World
 K:PySem.W.Frag
 mg:Str -> Option Value
 base:Heap
 A:Around
 N:List Str
 s₀:Shared
 H₀:Hp
 env:Env
 outer:List Env
 stack:List Env
 ex:List Addr
 fn:Str -> Bool
 calm:Bool
 pn:List (Addr × Obj)
 xe:Value -> Shared -> Prop
def frs (l:List Env):List Addr:=l.filterMap (·.frame)
abbrev Cx.fs (X:Cx):List Addr:=frs X.outer
def Vis (sc:Scope)(x:Str):Prop:=sc.names.lookup x=some .local \/ sc.names.lookup x=some .cell \/ sc.names.lookup x=some .free
def Loc (sc:Scope)(x:Str):Prop:=sc.names.lookup x=some .local \/ sc.names.lookup x=some .cell
def Look (env:Env)(h:Heap)(m:Str -> Option Value)(x:Str)(u:Value):Prop :=
 (env.kindOf x=some .local /\ m x=some u) \/ ((env.kindOf x=some .cell \/ env.kindOf x=some .free) /\ ∃ c,env.cells.lookup x=some c /\ h.IsCell c (some u))
structure Cx.Ok (X:Cx):Prop where
 mod:Mod X.K X.mg X.base
 kind:X.env.scope.kind = .function
 glob:X.env.globals=mainGlobals
 blt:X.env.builtins=builtinsNs
 above:X.s₀.heap.objs.size <= X.env.locals
 inj:∀ x y c,X.env.cells.lookup x=some c -> X.env.cells.lookup y=some c -> x=y
 has:∀ x,(X.env.kindOf x=some .cell \/ X.env.kindOf x=some .free) -> ∃ c,X.env.cells.lookup x=some c
 cab:∀ x c,X.fn x=true -> X.env.cells.lookup x=some c -> X.s₀.heap.objs.size <= c
 hd:X.calm=true -> X.A.handled=none
 frames:X.A.frames=some X.stack
 stk:X.stack=X.outer \/ (X.stack=X.env :: X.outer /\ X.env.frame=some X.env.locals)
 exf:∀ b ∈ X.ex,b ≠ X.env.locals /\ ∀ x c,X.env.cells.lookup x=some c -> c ≠ b
 bs:∀ b o,X.base.get? b=some o -> X.s₀.heap.get? b=some o /\ X.H₀ b=none
 bsz:X.base.objs.size <= X.s₀.heap.objs.size
 noex:∀ b o,X.base.get? b=some o -> b ∉ X.ex
 exfs:∀ b ∈ X.ex,b ∉ X.fs
 funs:X.s₀.heap.FunFrames X.base X.outer
 frf:∀ b ∈ X.fs,X.H₀ b=none
structure Inv (X:Cx) (pins:List (Addr × Obj)) (σ:List (Option V)) (H:Hp) (s:Shared):Prop where
 ok:X.Ok
 os:s.os=X.s₀.os
 bare:AllBare s.gens
 base:Un X.fs X.ex X.H₀ H X.s₀.heap s.heap
 loc:∃ m,s.heap.Ns X.env.locals m /\ ∀ (i:Nat) (x:Str) (v:V),X.N[i]? = some x -> σ[i]? = some (some v) -> Vis X.env.scope x -> ∃ u,RelV v u /\ Look X.env s.heap m x u
 cell:∀ x c,X.env.cells.lookup x=some c -> ∃ v,s.heap.IsCell c v
 free:H X.env.locals=none
 freeC:∀ x c,X.env.cells.lookup x=some c -> H c=none
 pin:∀ p ∈ X.pn ++ pins,s.heap.get? p.1=some p.2 /\ H p.1=none /\ p.1 ≠ X.env.locals /\ p.1 ∉ X.fs /\ ∀ v,p.2.data ≠ .cell v
 hok:HOk X.prog X.w H s.heap
 len:σ.length=X.N.length
section
variable {X:Cx}{pins:List (Addr × Obj)}{σ:List (Option V)}{H H':Hp}{s:Shared}{h':Heap}
theorem Cx.Ok.nofr (ok:X.Ok){b:Addr}{o:Obj}(e:X.base.get? b=some o):b ∉ X.fs:=fun hb=>by
 have:=(ok.funs.mem hb).1
 rw [e] at this; cases this
theorem Inv.bs (I:Inv X pins σ H s):∀ b o,X.base.get? b=some o -> s.heap.get? b=some o /\ H b=none:=fun b o e =>
 ⟨I.base.keep b o (I.ok.bs b o e).1 (I.ok.bs b o e).2 (I.ok.nofr e) (I.ok.noex b o e),I.base.free b o (I.ok.bs b o e).1 (I.ok.bs b o e).2 (I.ok.noex b o e)⟩
theorem Inv.bk (I:Inv X pins σ H s):∀ b o,X.base.get? b=some o -> s.heap.get? b=some o:=fun b o e=>(I.bs b o e).1
theorem Inv.mod (I:Inv X pins σ H s):Mod X.K X.mg X.base:=I.ok.mod
theorem Inv.kIn (I:Inv X pins σ H s):X.K.In s.heap:=I.ok.mod.kin.keeps I.bk
theorem Inv.lt (I:Inv X pins σ H s):X.env.locals < s.heap.objs.size:=let ⟨_,hn,_⟩:=I.loc; hn.lt
theorem Inv.sz (I:Inv X pins σ H s):X.s₀.heap.objs.size <= s.heap.objs.size:=Nat.le_trans I.ok.above (Nat.le_of_lt I.lt)
theorem Inv.nofs (I:Inv X pins σ H s){a:Addr}(h:s.heap.objs.size <= a):a ∉ X.fs:=fun hb=>by
 obtain ⟨_,o,ho,_⟩:=I.ok.funs.mem hb
 exact absurd (qJ (Heap.lt_size ho) (Nat.le_trans I.sz h)) (Nat.lt_irrefl _)
theorem Inv.cne (I:Inv X pins σ H s):∀ x c,X.env.cells.lookup x=some c -> c ≠ X.env.locals:=fun x c e z=>by
 obtain ⟨v,o,ho,hd⟩:=I.cell x c e
 obtain ⟨m,⟨o',es,ep,ho',hd',_⟩,_⟩:=I.loc
 rw [z,ho'] at ho; cases ho; rw [hd'] at hd; cases hd
theorem Inv.funs (I:Inv X pins σ H s):s.heap.FunFrames X.base X.outer:=by
 have all:∀ (l:List Env),(∀ b ∈ frs l,b ∈ X.fs) -> X.s₀.heap.FunFrames X.base l -> s.heap.FunFrames X.base l:=by
  intro l
  induction l with
  | nil=>intro _ _; trivial
  | cons env r ih =>
   intro hs hl
   obtain ⟨hk,⟨L,o,hf,hn,ho,hd⟩,hr⟩:=hl
   have hL:L ∈ X.fs:=hs L (by unfold frs; rw [List.filterMap_cons,hf]; exact List.mem_cons_self)
   obtain ⟨sl,e⟩:=I.base.slot L o ho (I.ok.frf L hL) hL fun z=>I.ok.exfs L z hL
   exact ⟨hk,⟨L,_,hf,hn,e,hd⟩,ih (fun b hb=>hs b (by unfold frs; rw [List.filterMap_cons,hf]; exact List.mem_cons_of_mem _ hb)) hr⟩
 exact all X.outer (fun _ hb=>hb) I.ok.funs
theorem Inv.stack (I:Inv X pins σ H s):s.heap.FunFrames X.base X.stack:=by
 rcases I.ok.stk with e | ⟨e,hf⟩
 ·rw [e]; exact I.funs
 ·rw [e]
  obtain ⟨m,hn,_⟩:=I.loc
  refine .cons (by rw [I.ok.kind]; decide) hf hn ?_ I.funs
  exact Heap.get?_none_of_le (Nat.le_trans I.ok.bsz I.ok.above)
theorem Inv.stkSub (I:Inv X pins σ H s):∀ b ∈ frs X.stack,b ∈ X.env.locals :: X.fs:=fun b hb=>by
 rcases I.ok.stk with e | ⟨e,hf⟩
 ·rw [e] at hb; exact List.mem_cons_of_mem _ hb
 ·rw [e] at hb
  unfold frs at hb
  rw [List.filterMap_cons,hf] at hb
  exact hb
theorem Inv.stkFree (I:Inv X pins σ H s):∀ b ∈ frs X.stack,H b=none:=fun b hb=>by
 rcases List.mem_cons.mp (I.stkSub b hb) with e | hb
 ·rw [e]; exact I.free
 ·obtain ⟨_,o,ho,_⟩:=I.ok.funs.mem hb
  exact I.base.free b o ho (I.ok.frf b hb) fun z=>I.ok.exfs b z hb
theorem Inv.step {g':Array GenState}{t':Nat}{d':Drawn}{ch:List Addr}(I:Inv X pins σ H s)
  (hch:∀ b ∈ ch,(b ∈ X.ex \/ X.s₀.heap.objs.size <= b) /\ b ≠ X.env.locals /\ (∀ x c,X.env.cells.lookup x=some c -> c ≠ b) /\ ∀ p ∈ X.pn ++ pins,p.1 ≠ b)
  (keep:∀ b o,b ≠ X.env.locals -> b ∉ X.fs -> b ∉ ch -> s.heap.get? b=some o -> H b=none -> h'.get? b=some o)
  (slot:∀ b o,b ≠ X.env.locals -> b ∈ X.fs -> b ∉ ch -> s.heap.get? b=some o -> H b=none -> ∃ sl,h'.get? b=some { o with slots:=sl }) (free:∀ b o,b ∉ ch -> s.heap.get? b=some o -> H b=none -> H' b=none)
  (there:∀ b o,b ∉ ch -> s.heap.get? b=some o -> ∃ o',h'.get? b=some o')
  (tups:∀ b xs,H b=some (.tup xs) -> H' b=some (.tup xs)) (frzs:∀ b o u,H b=some (.frz o u) -> H' b=some (.frz o u)) (tbls:∀ b ps,H b=some (.tbl ps) -> ∃ more,H' b=some (.tbl (ps ++ more)))
  (ns:∀ m,s.heap.Ns X.env.locals m -> h'.Ns X.env.locals m) (hok:HOk X.prog X.w H' h') (hg:AllBare g') :
  Inv X pins σ H' { s with heap:=h',gens:=g',drawn:=d',toks:=t' }:=by
 have neL:∀ b o,X.s₀.heap.get? b=some o -> b ≠ X.env.locals:=fun b o e=>Nat.ne_of_lt (qJ (Heap.lt_size e) I.ok.above)
 have neC:∀ b o,X.s₀.heap.get? b=some o -> b ∉ X.ex -> b ∉ ch:=fun b o e hx hb=>by
  rcases (hch b hb).1 with z | z
  ·exact hx z
  ·exact absurd (qJ (Heap.lt_size e) z) (Nat.lt_irrefl _)
 have cellK:∀ x c,X.env.cells.lookup x=some c -> ∀ v,s.heap.IsCell c v -> h'.IsCell c v:=fun x c e v ⟨o,ho,hd⟩=>by
  have nch:c ∉ ch:=fun z=>(hch c z).2.2.1 x c e rfl
  by_cases hc:c ∈ X.fs
  ·obtain ⟨sl,q⟩:=slot c o (I.cne x c e) hc nch ho (I.freeC x c e)
   exact ⟨_,q,hd⟩
  ·exact ⟨o,keep c o (I.cne x c e) hc nch ho (I.freeC x c e),hd⟩
 refine ⟨I.ok,I.os,hg,⟨fun b o e n hb hx=>?_,fun b o e n hb hx=>?_,fun b o e n hx=>?_,fun b o e hx=>?_,fun b xs e=>tups b xs (I.base.tups b xs e),fun b o xs e=>frzs b o xs (I.base.frzs b o xs e),fun b ps e=>?_⟩,?_,fun x c e=>?_,?_,fun x c e=>?_,fun p hp=>?_,hok,I.len⟩
 ·exact keep b o (neL b o e) hb (neC b o e hx) (I.base.keep b o e n hb hx) (I.base.free b o e n hx)
 ·obtain ⟨sl,e1⟩:=I.base.slot b o e n hb hx
  obtain ⟨sl',e2⟩:=slot b _ (neL b o e) hb (neC b o e hx) e1 (I.base.free b o e n hx)
  exact ⟨sl',e2⟩
 ·obtain ⟨o',e1⟩:=I.base.there b o e hx
  exact free b o' (neC b o e hx) e1 (I.base.free b o e n hx)
 ·obtain ⟨o',e1⟩:=I.base.there b o e hx
  exact there b o' (neC b o e hx) e1
 ·obtain ⟨m1,e1⟩:=I.base.tbls b ps e
  obtain ⟨m2,e2⟩:=tbls b _ e1
  exact ⟨m1 ++ m2,by rw [e2,Array.append_assoc]⟩
 ·obtain ⟨m,hn,hl⟩:=I.loc
  refine ⟨m,ns m hn,fun i x v e1 e2 e3=>?_⟩
  obtain ⟨u,r,l⟩:=hl i x v e1 e2 e3
  refine ⟨u,r,?_⟩
  rcases l with l | ⟨k,c,e,z⟩
  ·exact .inl l
  ·exact .inr ⟨k,c,e,cellK x c e _ z⟩
 ·obtain ⟨v,z⟩:=I.cell x c e
  exact ⟨v,cellK x c e v z⟩
 ·obtain ⟨m,⟨o,_,_,ho,_⟩,_⟩:=I.loc
  exact free _ o (fun z=>(hch _ z).2.1 rfl) ho I.free
 ·obtain ⟨v,o,ho,hd⟩:=I.cell x c e
  exact free c o (fun z=>(hch c z).2.2.1 x c e rfl) ho (I.freeC x c e)
 ·obtain ⟨e,n,ne,nf,d⟩:=I.pin p hp
  have nch:p.1 ∉ ch:=fun z=>(hch p.1 z).2.2.2 p hp rfl
  exact ⟨keep p.1 p.2 ne nf nch e n,free p.1 p.2 nch e n,ne,nf,d⟩
theorem Inv.un {t':Nat}(I:Inv X pins σ H s)(u:Un X.fs [] H H' s.heap h')(hok:HOk X.prog X.w H' h'):Inv X pins σ H' { s with heap:=h',toks:=t' }:=by
 obtain ⟨m,⟨o,es,ep,ho,r⟩,_⟩:=id I.loc
 obtain ⟨sl,hL⟩:=u.any ho I.free (by simp)
 exact I.step (g':=s.gens) (d':=s.drawn) (ch:=[]) (fun _ z=>nomatch z) (fun b o _ hb _ e n=>u.keep b o e n hb (by simp)) (fun b o _ hb _ e n=>u.slot b o e n hb (by simp)) (fun b o _ e n=>u.free b o e n (by simp)) (fun b o _ e=>u.there b o e (by simp)) u.tups u.frzs u.tbls (fun m' hm=>by
  obtain ⟨o',es',ep',ho',r'⟩:=hm
  rw [ho] at ho'; cases ho'
  exact ⟨_,es',ep',hL,r'⟩) hok I.bare
theorem Inv.call {g':Array GenState}{t':Nat}{d':Drawn}{ch:List Addr}(I:Inv X pins σ H s)(u:Un (frs X.stack) ch H H' s.heap h')(hok:HOk X.prog X.w H' h')(hg:AllBare g')
  (hch:∀ b ∈ ch,(b ∈ X.ex \/ X.s₀.heap.objs.size <= b) /\ b ≠ X.env.locals /\ (∀ x c,X.env.cells.lookup x=some c -> c ≠ b) /\ ∀ p ∈ X.pn ++ pins,p.1 ≠ b) :
  Inv X pins σ H' { s with heap:=h',gens:=g',drawn:=d',toks:=t' }:=by
 obtain ⟨m,⟨o,es,ep,ho,r⟩,_⟩:=id I.loc
 obtain ⟨sl,hL⟩:=u.any ho I.free fun z=>(hch _ z).2.1 rfl
 exact I.step (ch:=ch) hch (fun b o hL hb hc e n=>u.keep b o e n (fun z=>(List.mem_cons.mp (I.stkSub b z)).elim hL hb) hc) (fun b o _ _ hc e n=>u.any e n hc) (fun b o hc e n=>u.free b o e n hc) (fun b o hc e=>u.there b o e hc) u.tups u.frzs u.tbls (fun m' hm=>by
  obtain ⟨o',es',ep',ho',r'⟩:=hm
  rw [ho] at ho'; cases ho'
  exact ⟨_,es',ep',hL,r'⟩) hok hg
theorem Inv.turned {t':Nat}{it:Addr}(I:Inv X pins σ H s)(k:∀ b o,b ≠ it -> s.heap.get? b=some o -> h'.get? b=some o)(hn:H it=none)(hL:it ≠ X.env.locals)
  (h1:it ∈ X.ex \/ X.s₀.heap.objs.size <= it) (h2:∀ x c,X.env.cells.lookup x=some c -> c ≠ it) (h3:∀ p ∈ X.pn ++ pins,p.1 ≠ it):Inv X pins σ H { s with heap:=h',toks:=t' }:=by
 have nit:∀ b u,H b=some u -> b ≠ it:=fun b u e z=>by rw [z,hn] at e; cases e
 refine I.step (g':=s.gens) (d':=s.drawn) (ch:=[it]) (fun b hb=>?_) (fun b o _ _ hc e _=>k b o (fun z=>hc (by simp [z])) e) (fun b o _ _ hc e _=>⟨o.slots,k b o (fun z=>hc (by simp [z])) e⟩) (fun _ _ _ _ n=>n)
  (fun b o hc e=>⟨o,k b o (fun z=>hc (by simp [z])) e⟩) (fun _ _ e=>e) (fun _ _ _ e=>e) (fun b ps e=>⟨#[],by rw [e]; simp⟩) (fun m hm=>?_) (fun b u e=>?_) I.bare
 ·have e:b=it:=by simpa using hb
  subst e
  exact ⟨h1,hL,h2,h3⟩
 ·obtain ⟨o,es,ep,ho,r⟩:=hm
  exact ⟨o,es,ep,k _ o (Ne.symm hL) ho,r⟩
 ·refine (I.hok b u e).stay (fun c v hc q=>k c v ?_ q) (fun _ q=>q) fun _ _ q=>q
  rcases hc with z | z
  ·rw [z]; exact nit b u e
  ·exact nit c _ z
theorem Inv.tok (I:Inv X pins σ H s)(t:Nat):Inv X pins σ H { s with toks:=t }:=I.un (h':=s.heap) (t':=t) Un.refl I.hok
theorem Inv.kept {t':Nat}(I:Inv X pins σ H s)(k:∀ b u,s.heap.get? b=some u -> h'.get? b=some u):Inv X pins σ H { s with heap:=h',toks:=t' }:=I.un (Un.kept k) (I.hok.kept k)
theorem Inv.laid {a:Addr}{o:HO}{t':Nat}(I:Inv X pins σ H s)(k:∀ b u,s.heap.get? b=some u -> h'.get? b=some u)(hp:s.heap.objs.size <= a)(new:ObjOk X.prog X.w (upd H a o) h' a o) :
  Inv X pins σ (upd H a o) { s with heap:=h',toks:=t' }:=I.un (Un.laid k hp (I.hok.fresh hp)) (I.hok.laid k hp new)
theorem Inv.write {x e:Addr}{o:HO}{t':Nat}(I:Inv X pins σ H s)(mu:Mut (H x))(he:e=x \/ H e=some (.own x))(k:∀ b u,b ≠ e -> s.heap.get? b=some u -> h'.get? b=some u)(heo:∃ u,h'.get? e=some u)
  (new:ObjOk X.prog X.w (upd H x o) h' x o):Inv X pins σ (upd H x o) { s with heap:=h',toks:=t' }:=I.un (Un.write mu he k heo) (I.hok.write mu he k heo new)
theorem Inv.pins_of {pins':List (Addr × Obj)}(I:Inv X pins σ H s)(h:∀ p ∈ pins',s.heap.get? p.1=some p.2 /\ H p.1=none /\ p.1 ≠ X.env.locals /\ p.1 ∉ X.fs /\ ∀ v,p.2.data ≠ .cell v):Inv X pins' σ H s :=
 ⟨I.ok,I.os,I.bare,I.base,I.loc,I.cell,I.free,I.freeC,fun p hp=>(List.mem_append.mp hp).elim (fun z=>I.pin p (List.mem_append_left _ z)) (h p),I.hok,I.len⟩
theorem nodup_ix {N:List Str}(hN:N.Nodup){i j:Nat}{x:Str}(a:N[i]? = some x)(b:N[j]? = some x):i=j:=by
 obtain ⟨h1,e1⟩:=qB.mp a
 obtain ⟨h2,e2⟩:=qB.mp b
 exact (List.getElem_inj hN).mp (e1.trans e2.symm)
theorem store_ok2 {M:Model}{A:Around}{E:Value -> Shared -> Prop}{i:Nat}{x:Str}{v:V}{u:Value}{Q:Unit -> Shared -> Prop}(I:Inv X pins σ H s)(hN:X.N.Nodup)(hi:X.N[i]? = some x)(hx:Loc X.env.scope x)(r:RelV v u)
  (h:∀ s',Inv X pins (σ.set i (some v)) H s' -> (∃ a,Heap.SameBut a s.heap s'.heap /\ (a=X.env.locals \/ X.env.cells.lookup x=some a)) -> Q () s') (hf:X.fn x=true \/ X.env.scope.names.lookup x=some .local:=by first | exact .inl rfl | exact .inr rfl | assumption):wpAny M A (storeName X.env x u) Q E s:=by
 obtain ⟨m,hn,hl⟩:=id I.loc
 have hcls:(X.env.scope.kind == .class || (X.env.scope.kind == .module && X.env.locals != X.env.globals))=false:=by rw [I.ok.kind]; rfl
 have hiσ:i < σ.length:=by rw [I.len]; exact (qB.mp hi).1
 have cne:=I.cne
 have tracked:∀ {a:Addr} {h':Heap},(∃ o,s.heap.get? a=some o /\ H a=none) -> Heap.SameBut a s.heap h' -> HOk X.prog X.w H h':=fun {a h'} ha hs b ob e=>by
  obtain ⟨_,_,hfree⟩:=ha
  refine (I.hok b ob e).stay (fun c w' hc q=>(hs.2 c ?_).trans q) (fun _ q=>q) fun _ _ q=>q
  rintro rfl
  rcases hc with rfl | hc
  ·rw [hfree] at e; cases e
  ·rw [hfree] at hc; cases hc
 rcases hx with hk | hk
 ·refine wpAny_storeName_local hk hn (fun h' hn' hs=>?_) hcls
  obtain ⟨oL,_,_,hoL,_⟩:=id hn
  refine h _ ⟨I.ok,I.os,I.bare,⟨fun b o e n hb hx=>?_,fun b o e n hb hx=>?_,I.base.free,fun b o e hx=>?_,I.base.tups,I.base.frzs,I.base.tbls⟩,⟨_,hn',fun j y v' e1 e2 e3=>?_⟩,fun y c e=>?_,I.free,I.freeC,fun p hp=>?_,tracked ⟨oL,hoL,I.free⟩ hs,by simpa using I.len⟩ ⟨_,hs,.inl rfl⟩
  ·exact (hs.2 b (Nat.ne_of_lt (qJ (Heap.lt_size e) I.ok.above))).trans (I.base.keep b o e n hb hx)
  ·obtain ⟨sl,e1⟩:=I.base.slot b o e n hb hx
   exact ⟨sl,(hs.2 b (Nat.ne_of_lt (qJ (Heap.lt_size e) I.ok.above))).trans e1⟩
  ·obtain ⟨o',e1⟩:=I.base.there b o e hx
   exact ⟨o',(hs.2 b (Nat.ne_of_lt (qJ (Heap.lt_size e) I.ok.above))).trans e1⟩
  ·by_cases hj:j=i
   ·subst hj
    rw [hi] at e1; cases e1
    rw [List.getElem?_set_self hiσ] at e2
    cases e2
    exact ⟨u,r,.inl ⟨hk,by simp⟩⟩
   ·rw [List.getElem?_set_ne (Ne.symm hj)] at e2
    obtain ⟨u',r',q⟩:=hl j y v' e1 e2 e3
    refine ⟨u',r',?_⟩
    rcases q with ⟨k,e⟩ | ⟨k,c,e,z⟩
    ·refine .inl ⟨k,?_⟩
     have:y ≠ x:=fun e=>hj (nodup_ix hN e1 (e ▸ hi))
     simp [this,e]
    ·exact .inr ⟨k,c,e,z.sameBut hs (cne y c e)⟩
  ·obtain ⟨w',z⟩:=I.cell y c e
   exact ⟨w',z.sameBut hs (cne y c e)⟩
  ·obtain ⟨e,n,ne,nf,d⟩:=I.pin p hp
   exact ⟨(hs.2 p.1 ne).trans e,n,ne,nf,d⟩
 ·have hfn:X.fn x=true:=by
   rcases hf with z | z
   ·exact z
   ·rw [z] at hk; cases hk
  obtain ⟨c,hc⟩:=I.ok.has x (.inl hk)
  obtain ⟨w',z⟩:=I.cell x c hc
  refine wpAny_storeName_cell I.ok.kind hk hc z (fun h' hc' hs=>?_)
  obtain ⟨oc,hoc,hocd⟩:=id z
  refine h { s with heap:=h' } ⟨I.ok,I.os,I.bare,⟨fun b o e n hb hx=>?_,fun b o e n hb hx=>?_,I.base.free,fun b o e hx=>?_,I.base.tups,I.base.frzs,I.base.tbls⟩,⟨m,hn.sameBut hs (Ne.symm (cne x c hc)),fun j y v' e1 e2 e3=>?_⟩,fun y c' e=>?_,I.free,I.freeC,fun p hp=>?_,tracked ⟨oc,hoc,I.freeC x c hc⟩ hs,by simpa using I.len⟩ ⟨c,hs,.inr hc⟩
  ·exact (hs.2 b (Nat.ne_of_lt (qJ (Heap.lt_size e) (I.ok.cab x c hfn hc)))).trans (I.base.keep b o e n hb hx)
  ·obtain ⟨sl,e1⟩:=I.base.slot b o e n hb hx
   exact ⟨sl,(hs.2 b (Nat.ne_of_lt (qJ (Heap.lt_size e) (I.ok.cab x c hfn hc)))).trans e1⟩
  ·obtain ⟨o',e1⟩:=I.base.there b o e hx
   exact ⟨o',(hs.2 b (Nat.ne_of_lt (qJ (Heap.lt_size e) (I.ok.cab x c hfn hc)))).trans e1⟩
  ·by_cases hj:j=i
   ·subst hj
    rw [hi] at e1; cases e1
    rw [List.getElem?_set_self hiσ] at e2
    cases e2
    exact ⟨u,r,.inr ⟨.inl hk,c,hc,hc'⟩⟩
   ·rw [List.getElem?_set_ne (Ne.symm hj)] at e2
    obtain ⟨u',r',q⟩:=hl j y v' e1 e2 e3
    refine ⟨u',r',?_⟩
    rcases q with q | ⟨k,c',e,z'⟩
    ·exact .inl q
    ·refine .inr ⟨k,c',e,z'.sameBut hs ?_⟩
     rintro rfl
     exact hj (nodup_ix hN e1 (I.ok.inj _ _ _ e hc ▸ hi))
  ·by_cases hcc:c'=c
   ·subst hcc; exact ⟨_,hc'⟩
   ·obtain ⟨w2,z2⟩:=I.cell y c' e
    exact ⟨w2,z2.sameBut hs hcc⟩
  ·obtain ⟨e,n,ne,nf,d⟩:=I.pin p hp
   refine ⟨(hs.2 p.1 ?_).trans e,n,ne,nf,d⟩
   intro q
   rw [q,hoc] at e
   have q':oc=p.2:=Option.some.inj e
   exact d w' (by rw [← q']; exact hocd)
theorem store_ok {M:Model}{A:Around}{E:Value -> Shared -> Prop}{i:Nat}{x:Str}{v:V}{u:Value}{Q:Unit -> Shared -> Prop}(I:Inv X pins σ H s)(hN:X.N.Nodup)(hi:X.N[i]? = some x)(hx:Loc X.env.scope x)(r:RelV v u)
  (h:∀ s',Inv X pins (σ.set i (some v)) H s' -> Q () s') (hf:X.fn x=true \/ X.env.scope.names.lookup x=some .local:=by first | exact .inl rfl | exact .inr rfl | assumption):wpAny M A (storeName X.env x u) Q E s :=
 store_ok2 I hN hi hx r (fun s' I' _=>h s' I') hf
theorem Inv.call' {s':Shared}{ch:List Addr}(I:Inv X pins σ H s)(ho:s'.os=s.os)(u:Un (frs X.stack) ch H H' s.heap s'.heap)(hok:HOk X.prog X.w H' s'.heap)(hg:AllBare s'.gens)
  (hch:∀ b ∈ ch,(b ∈ X.ex \/ X.s₀.heap.objs.size <= b) /\ b ≠ X.env.locals /\ (∀ x c,X.env.cells.lookup x=some c -> c ≠ b) /\ ∀ p ∈ X.pn ++ pins,p.1 ≠ b):Inv X pins σ H' s':=by
 obtain ⟨h',g',d',t',o'⟩:=s'
 have e:o'=s.os:=ho
 subst e
 exact I.call (g':=g') (t':=t') (d':=d') u hok hg hch
end
abbrev XK:=Value -> Option Addr -> Hp -> Prop
abbrev St:=List (Option V)
abbrev VK:=V -> Hp -> Prop
abbrev TE:=St -> Hp -> VK -> Prop
abbrev TT:=St -> Hp -> (Bool -> Hp -> Prop) -> Prop
abbrev TA:=St -> Hp -> (List V -> Hp -> Prop) -> Prop
structure Ends where
 nx:St -> Hp -> Prop
 rt:VK
 bk:St -> Hp -> Prop:=fun _ _=>False
 ct:St -> Hp -> Prop:=fun _ _=>False
abbrev TS:=Ends -> St -> Hp -> Prop
def EP (X:Cx)(pins:List (Addr × Obj))(σ:St)(Q:VK)(u:Value)(s':Shared):Prop:=∃ v H',Inv X pins σ H' s' /\ RelV v u /\ Q v H'
def TP (X:Cx)(pins:List (Addr × Obj))(σ:St)(Q:Bool -> Hp -> Prop)(b:Bool)(s':Shared):Prop:=∃ H',Inv X pins σ H' s' /\ Q b H'
def AP (X:Cx)(pins:List (Addr × Obj))(σ:St)(Q:List V -> Hp -> Prop)(us:List Value)(s':Shared):Prop:=∃ vs H',Inv X pins σ H' s' /\ Vals vs us /\ Q vs H'
def SP (X:Cx)(pins:List (Addr × Obj))(D:Ends)(f:Flow)(s':Shared):Prop :=
 match f with
 | .next=>∃ σ' H',Inv X pins σ' H' s' /\ D.nx σ' H'
 | .brk=>∃ σ' H',Inv X pins σ' H' s' /\ D.bk σ' H'
 | .cont=>∃ σ' H',Inv X pins σ' H' s' /\ D.ct σ' H'
 | .ret u=>∃ v σ' H',Inv X pins σ' H' s' /\ RelV v u /\ D.rt v H'
def PE (X:Cx)(e:Expr)(t:TE):Prop :=
 ∀ (pins:List (Addr × Obj)) (s:Shared) (σ:St) (H:Hp) (Q:VK),Inv X pins σ H s -> t σ H Q -> wpAny (model X.prog X.w) X.A (eval e X.env) (EP X pins σ Q) X.xe s
def PT (X:Cx)(e:Expr)(t:TT):Prop :=
 ∀ (pins:List (Addr × Obj)) (s:Shared) (σ:St) (H:Hp) (Q:Bool -> Hp -> Prop),Inv X pins σ H s -> t σ H Q -> wpAny (model X.prog X.w) X.A (isTrue e X.env (eval e X.env)) (TP X pins σ Q) X.xe s
def PW (X:Cx)(e:Expr)(t:TT):Prop :=
 ∀ (whole:Sem Value) (pins:List (Addr × Obj)) (s:Shared) (σ:St) (H:Hp) (Q:Bool -> Hp -> Prop),Inv X pins σ H s -> t σ H Q -> wpAny (model X.prog X.w) X.A (isTrue e X.env whole) (TP X pins σ Q) X.xe s
theorem PW.pt {X:Cx}{e:Expr}{t:TT}(h:PW X e t):PT X e t:=h _
def PA (X:Cx)(es:List Expr)(t:TA):Prop :=
 ∀ (pos:Pos) (pins:List (Addr × Obj)) (s:Shared) (σ:St) (H:Hp) (Q:List V -> Hp -> Prop),Inv X pins σ H s -> t σ H Q -> wpAny (model X.prog X.w) X.A (spliced (backTo pos (starEach es X.env))) (AP X pins σ Q) X.xe s
def PS (X:Cx)(st:Stmt)(t:TS):Prop :=
 ∀ (pins:List (Addr × Obj)) (s:Shared) (σ:St) (H:Hp) (D:Ends),Inv X pins σ H s -> t D σ H -> wpAny (model X.prog X.w) X.A (exec st X.env) (SP X pins D) X.xe s
def PSs (X:Cx)(st:List Stmt)(t:TS):Prop :=
 ∀ (pins:List (Addr × Obj)) (s:Shared) (σ:St) (H:Hp) (D:Ends),Inv X pins σ H s -> t D σ H -> wpAny (model X.prog X.w) X.A (execs st X.env) (SP X pins D) X.xe s
theorem thn {α:Type}{t:Sem α}{Q Q':α -> Shared -> Prop}{M:Model}{A:Around}{E:Value -> Shared -> Prop}{s:Shared}(h:wpAny M A t Q E s)(hQ:∀ a s,Q a s -> Q' a s):wpAny M A t Q' E s:=wpAny_mono h hQ fun _ _ x=>x
end L2
namespace L2
open PySem PySem.Spec PyProof.Rows
section
variable {X:Cx}
def tVar (i:Nat):TE:=fun σ H Q=>∃ v,σ[i]? = some (some v) /\ Q v H
def tC (v:V):TE:=fun _ H Q=>Q v H
theorem pe_var {i:Nat} {x:Str} {pos:Pos} (hN:X.N[i]? = some x) (hv:Vis X.env.scope x) (hd:(x == ("__debug__" : Str))=false:=by decide) (hcd:(x == ("__classdict__" : Str))=false:=by decide):PE X (.Name x pos) (tVar i):=by
 intro pins s σ H Q I h
 obtain ⟨v,e,h⟩:=h
 obtain ⟨m,hn,hl⟩:=I.loc
 obtain ⟨u,r,l⟩:=hl i x v hN e hv
 have fin:EP X pins σ Q u s:=⟨v,H,I,r,h⟩
 rcases l with ⟨hk,hm⟩ | ⟨hk,c,hc,hcell⟩
 ·exact wpAny_Name (wpAny_loadName_local I.ok.kind hk hn hm fin) hd
 ·rcases hk with hk | hk
  ·exact wpAny_Name (wpAny_loadName_cell I.ok.kind hk hc hcell fin) hd
  ·exact wpAny_Name (wpAny_loadName_free I.ok.kind hk hc hcell fin hcd) hd
theorem pe_int {i j pos}:PE X (.Constant (.int i) j pos) (tC (.int i)):=fun _ _ _ H _ I h=>wpAny_Constant_int ⟨.int i,H,I.tok _,⟨_,rfl⟩,h⟩
theorem pe_bl {b j pos}:PE X (.Constant (.bool b) j pos) (tC (.bl b)):=fun _ _ _ H _ I h=>Constant_bool ⟨.bl b,H,I,rfl,h⟩
theorem pe_non {j pos}:PE X (.Constant .none j pos) (tC .non):=fun _ _ _ H _ I h=>Constant_none ⟨.non,H,I,rfl,h⟩
theorem pe_str {x j pos}:PE X (.Constant (.str x) j pos) (tC (.str x)):=fun _ _ _ H _ I h=>Calls.Constant_str ⟨.str x,H,I.tok _,⟨_,rfl⟩,h⟩
def Gl (X:Cx)(x:Str):Prop:=X.env.kindOf x=some .globalImplicit
theorem ld_glob {E:Value -> Shared -> Prop}{pins:List (Addr × Obj)}{s:Shared}{σ:St}{H:Hp}{x:Str}{u:Value}{pos:Pos}{Q:Value -> Shared -> Prop}(I:Inv X pins σ H s)(hg:Gl X x)(hm:X.mg x=some u)(h:Q u s)
  (hd:(x == ("__debug__" : Str))=false:=by decide):wpAny (model X.prog X.w) X.A (eval (.Name x pos) X.env) Q E s :=
 Calls.Name_function_global I.ok.kind hg (Calls.loadGlobal_global (by rw [I.ok.glob]; exact I.mod.glob.keeps I.bk) hm h) hd
theorem ld_blt {E:Value -> Shared -> Prop}{pins:List (Addr × Obj)}{s:Shared}{σ:St}{H:Hp}{x:Str}{u:Value}{pos:Pos}{Q:Value -> Shared -> Prop}(I:Inv X pins σ H s)(hg:Gl X x)(hm:X.mg x=none)(hv:bootBuiltins x=some u)(h:Q u s)
  (hn:x ≠ "__name__":=by decide) (hd:(x == ("__debug__" : Str))=false:=by decide):wpAny (model X.prog X.w) X.A (eval (.Name x pos) X.env) Q E s:=by
 obtain ⟨mb,h1,h2⟩:=I.mod.blt
 exact Calls.Name_function_global I.ok.kind hg (Calls.loadGlobal_builtin (by rw [I.ok.glob]; exact I.mod.glob.keeps I.bk) hm (by rw [I.ok.blt]; exact h1.keeps I.bk) ((h2 x hn).trans hv) h) hd
theorem pe_glob {x:Str} {v:V} {u:Value} {pos:Pos} (hg:Gl X x) (hm:X.mg x=some u) (r:RelV v u) (hd:(x == ("__debug__" : Str))=false:=by decide):PE X (.Name x pos) (tC v) :=
 fun _ _ _ H _ I h=>ld_glob I hg hm ⟨v,H,I,r,h⟩ hd
variable {a b:Expr}{ta tb:TE}{pos:Pos}
def tIsN (ta:TE):TE:=fun σ H Q=>ta σ H fun x H1=>Q (.bl (decide (x = .non))) H1
def tNotN (ta:TE):TE:=fun σ H Q=>ta σ H fun x H1=>Q (.bl (!decide (x = .non))) H1
def tB (t:TE):TT:=fun σ H Q=>t σ H fun x H1=>∃ c,x = .bl c /\ Q c H1
theorem pt_val {e:Expr}{t:TE}(h:PE X e t)(he:∀ whole,isTrue e X.env whole=(do let v ← whole; standAt e.pos; holding [v] (truthy v)):=by intro _; rfl):PT X e (tB t):=by
 intro pins s σ H Q I hw
 refine isTrue_plain (thn (h pins s σ H _ I hw) fun v s1 ⟨x,H1,I1,r1,q1⟩=>?_) (he _)
 obtain ⟨d,rfl,q⟩:=q1
 cases r1
 exact wpAny_truthy_bool ⟨H1,I1,q⟩
variable {tA tB':TT}{rest:List Expr}
def tAnd (t u:TT):TT:=fun σ H Q=>t σ H fun c H1=>if c=true then u σ H1 Q else Q false H1
def tOr (t u:TT):TT:=fun σ H Q=>t σ H fun c H1=>if c=true then Q true H1 else u σ H1 Q
def tNot (t:TT):TT:=fun σ H Q=>t σ H fun c H1=>Q (!c) H1
theorem pw_and1 (ha:PT X a tA):PW X (.BoolOp .And [a] pos) tA:=by
 intro wh pins s σ H Q I h
 refine isTrue_and (thn (ha pins s σ H Q I h) fun c s1 e=>?_)
 cases c with
 | true=>exact isTrue_and_nil e
 | false=>exact e
theorem pw_or1 (ha:PT X a tA):PW X (.BoolOp .Or [a] pos) tA:=by
 intro wh pins s σ H Q I h
 refine isTrue_or (thn (ha pins s σ H Q I h) fun c s1 e=>?_)
 cases c with
 | false=>exact isTrue_or_nil e
 | true=>exact e
theorem pw_and (ha:PT X a tA)(hb:PW X (.BoolOp .And (b :: rest) pos) tB'):PW X (.BoolOp .And (a :: b :: rest) pos) (tAnd tA tB'):=by
 intro wh pins s σ H Q I h
 refine isTrue_and (thn (ha pins s σ H _ I h) fun c s1 ⟨H1,I1,q1⟩=>?_)
 cases c with
 | true=>exact hb wh pins s1 σ H1 Q I1 q1
 | false=>exact ⟨H1,I1,q1⟩
theorem pw_or (ha:PT X a tA)(hb:PW X (.BoolOp .Or (b :: rest) pos) tB'):PW X (.BoolOp .Or (a :: b :: rest) pos) (tOr tA tB'):=by
 intro wh pins s σ H Q I h
 refine isTrue_or (thn (ha pins s σ H _ I h) fun c s1 ⟨H1,I1,q1⟩=>?_)
 cases c with
 | true=>exact ⟨H1,I1,q1⟩
 | false=>exact hb wh pins s1 σ H1 Q I1 q1
theorem pt_not (ha:PT X a tA):PT X (.UnaryOp .Not a pos) (tNot tA):=by
 intro pins s σ H Q I h
 exact isTrue_not (ha pins s σ H (fun c H1=>Q (!c) H1) I h)
def tAndV (ta tb:TE):TE:=fun σ H Q=>ta σ H fun x H1=>∃ c,x = .bl c /\ if c=true then tb σ H1 Q else Q (.bl false) H1
def tOrV (ta tb:TE):TE:=fun σ H Q=>ta σ H fun x H1=>∃ c,x = .bl c /\ if c=true then Q (.bl true) H1 else tb σ H1 Q
def tNotV (ta:TE):TE:=fun σ H Q=>ta σ H fun x H1=>∃ c,x = .bl c /\ Q (.bl (!c)) H1
theorem pe_one {op}{t:TE}(h:PE X a t):PE X (.BoolOp op [a] pos) t:=fun pins s σ H Q I hw=>BoolOp_one (h pins s σ H Q I hw)
theorem pe_or (ha:PE X a ta)(hb:PE X (.BoolOp .Or (b :: rest) pos) tb):PE X (.BoolOp .Or (a :: b :: rest) pos) (tOrV ta tb):=by
 intro pins s σ H Q I h
 refine BoolOp_or (thn (ha pins s σ H _ I h) fun v s1 ⟨x,H1,I1,r1,q1⟩=>?_)
 obtain ⟨c,rfl,q1⟩:=q1
 cases r1
 refine wpAny_truthy_bool ?_
 cases c with
 | false=>exact hb pins s1 σ H1 Q I1 q1
 | true=>exact ⟨.bl true,H1,I1,rfl,q1⟩
def tIf (t:TT)(ta tb:TE):TE:=fun σ H Q=>t σ H fun c H1=>if c=true then ta σ H1 Q else tb σ H1 Q
theorem pe_ifExp {c:Expr}(hc:PT X c tA)(ha:PE X a ta)(hb:PE X b tb):PE X (.IfExp c a b pos) (tIf tA ta tb):=by
 intro pins s σ H Q I h
 refine wpAny_IfExp (thn (hc pins s σ H _ I h) fun d s1 ⟨H1,I1,q1⟩=>?_)
 cases d with
 | true=>exact ha pins s1 σ H1 Q I1 q1
 | false=>exact hb pins s1 σ H1 Q I1 q1
end
end L2
namespace L2
open PySem PySem.Spec PyProof.Rows
def SqL (K:PySem.W.Frag)(H:Hp)(a:Addr)(xs:List V):Prop :=
 Rd H a (.lst xs) \/
  ∃ (o:Obj) (its:Array Value) (n:Nat),K.lookup a=some o /\ o.cls = .type "list" /\ o.dict=none /\ o.data = .seq its n /\ its.size <= sizeLine /\ Vals xs its.toList
def SqT (K:PySem.W.Frag)(H:Hp)(a:Addr)(xs:List V):Prop :=
 Rd H a (.tup xs) \/
  ∃ (o:Obj) (its:Array Value) (n:Nat),K.lookup a=some o /\ o.cls = .type "tuple" /\ o.data = .seq its n /\ its.size <= sizeLine /\ Vals xs its.toList
def absV:Value -> Option V
 | .none=>some .non
 | .bool b=>some (.bl b)
 | .int i _=>some (.int i)
 | .str x _=>some (.str x)
 | .bytes b _=>some (.byt b)
 | .float b _=>some (.flt b)
 | .ref a=>some (.ref a)
 | .type n=>some (.ty n)
 | _=>none
theorem RelV.abs {x:V}{u:Value}(r:RelV x u):absV u=some x:=by
 cases x with
 | non=>cases r; rfl
 | bl _=>cases r; rfl
 | int _=>obtain ⟨t,rfl⟩:=r; rfl
 | str _=>obtain ⟨t,rfl⟩:=r; rfl
 | byt _=>obtain ⟨t,rfl⟩:=r; rfl
 | flt _=>obtain ⟨t,rfl⟩:=r; rfl
 | ref _=>cases r; rfl
 | ty _=>cases r; rfl
theorem RelV.inj {x y:V}{u:Value}(r:RelV x u)(q:RelV y u):x=y:=Option.some.inj (r.abs.symm.trans q.abs)
theorem Vals.inj:∀ {xs ys:List V}{us:List Value},Vals xs us -> Vals ys us -> xs=ys
 | _,_,_,.nil,.nil=>rfl
 | _,_,_,.cons r t,.cons r' t'=>by rw [r.inj r',Vals.inj t t']
section
variable {X:Cx}{pins:List (Addr × Obj)}{σ:St}{H:Hp}{s:Shared}{a:Addr}{xs ys:List V}
theorem SqL.of {K:PySem.W.Frag}(h:H a=some (.lst xs)):SqL K H a xs:=.inl (.inl h)
theorem SqT.of {K:PySem.W.Frag}(h:H a=some (.tup xs)):SqT K H a xs:=.inl (.inl h)
theorem Inv.list (I:Inv X pins σ H s)(h:SqL X.K H a xs):∃ its:List Value,Vals xs its /\ PlainL s.heap a its.toArray /\ xs.length <= sizeLine:=by
 rcases h with h | ⟨o,its,n,hk,hc,hd,hs,hz,r⟩
 ·obtain ⟨z,its,n,r,e⟩:=h.ok I.hok
  exact ⟨its,r,⟨_,n,e,rfl,rfl,rfl⟩,z⟩
 ·refine ⟨its.toList,r,⟨o,n,I.kIn a o hk,hc,hd,by simpa using hs⟩,?_⟩
  have e:=r.length
  simp only [Array.length_toList] at e
  omega
theorem Inv.tuple (I:Inv X pins σ H s)(h:SqT X.K H a xs):∃ its:List Value,Vals xs its /\ IsTup s.heap a its.toArray /\ xs.length <= sizeLine:=by
 rcases h with h | ⟨o,its,n,hk,hc,hs,hz,r⟩
 ·obtain ⟨z,its,r,p⟩:=h.ok I.hok
  exact ⟨its,r,p,z⟩
 ·refine ⟨its.toList,r,⟨o,I.kIn a o hk,hc,n,by simpa using hs⟩,?_⟩
  have e:=r.length
  simp only [Array.length_toList] at e
  omega
theorem Inv.list_inj (I:Inv X pins σ H s)(h:SqL X.K H a xs)(h':SqL X.K H a ys):xs=ys:=by
 obtain ⟨its,r,⟨o,n,e,_,_,d⟩,_⟩:=I.list h
 obtain ⟨its',r',⟨o',n',e',_,_,d'⟩,_⟩:=I.list h'
 rw [e] at e'; cases e'
 rw [d] at d'
 injection d' with d1 _
 have:its=its':=by simpa using congrArg Array.toList d1
 subst this
 exact r.inj r'
theorem Inv.tuple_inj (I:Inv X pins σ H s)(h:SqT X.K H a xs)(h':SqT X.K H a ys):xs=ys:=by
 obtain ⟨its,r,⟨o,e,_,n,d⟩,_⟩:=I.tuple h
 obtain ⟨its',r',⟨o',e',_,n',d'⟩,_⟩:=I.tuple h'
 rw [e] at e'; cases e'
 rw [d] at d'
 injection d' with d1 _
 have:its=its':=by simpa using congrArg Array.toList d1
 subst this
 exact r.inj r'
end
abbrev Cx.wish (X:Cx) (E:Value -> Shared -> Prop):Cx:={ X with xe:=E }
abbrev Cx.nox (X:Cx):Cx:=X.wish fun _ _=>False
theorem Cx.Ok.wish {X:Cx}(ok:X.Ok)(E:Value -> Shared -> Prop):(X.wish E).Ok :=
 ⟨ok.mod,ok.kind,ok.glob,ok.blt,ok.above,ok.inj,ok.has,ok.cab,ok.hd,ok.frames,ok.stk,ok.exf,ok.bs,ok.bsz,ok.noex,ok.exfs,ok.funs,ok.frf⟩
theorem Cx.Ok.unwish {X:Cx}{E:Value -> Shared -> Prop}(ok:(X.wish E).Ok):X.Ok :=
 ⟨ok.mod,ok.kind,ok.glob,ok.blt,ok.above,ok.inj,ok.has,ok.cab,ok.hd,ok.frames,ok.stk,ok.exf,ok.bs,ok.bsz,ok.noex,ok.exfs,ok.funs,ok.frf⟩
section
variable {X:Cx}{pins:List (Addr × Obj)}{σ:St}{H:Hp}{s:Shared}{E:Value -> Shared -> Prop}
theorem Inv.wish (I:Inv X pins σ H s)(E:Value -> Shared -> Prop):Inv (X.wish E) pins σ H s:=⟨I.ok.wish E,I.os,I.bare,I.base,I.loc,I.cell,I.free,I.freeC,I.pin,I.hok,I.len⟩
theorem Inv.unwish (I:Inv (X.wish E) pins σ H s):Inv X pins σ H s:=⟨I.ok.unwish,I.os,I.bare,I.base,I.loc,I.cell,I.free,I.freeC,I.pin,I.hok,I.len⟩
theorem SP.unwish {D:Ends}{f:Flow}{s':Shared}(h:SP (X.wish E) pins D f s'):SP X pins D f s':=by
 cases f with
 | next=>obtain ⟨σ',H',I,q⟩:=h; exact ⟨σ',H',I.unwish,q⟩
 | brk=>obtain ⟨σ',H',I,q⟩:=h; exact ⟨σ',H',I.unwish,q⟩
 | cont=>obtain ⟨σ',H',I,q⟩:=h; exact ⟨σ',H',I.unwish,q⟩
 | ret u=>obtain ⟨v,σ',H',I,r,q⟩:=h; exact ⟨v,σ',H',I.unwish,r,q⟩
theorem PSs.nox {st:List Stmt}{t:TS}(h:PSs X.nox st t):PSs X st t:=fun pins s σ H D I hw =>
 wpAny_mono (h pins s σ H D (I.wish _) hw) (fun _ _ q=>q.unwish) fun _ _ z=>False.elim z
end
section
variable {X:Cx}{st:Stmt}{rest:List Stmt}{t u:TS}{e:Expr}{te:TE}{pos:Pos}
def tNext:TS:=fun D σ H=>D.nx σ H
def tSeq (t u:TS):TS:=fun D σ H=>t { D with nx:=u D } σ H
theorem pss_nil:PSs X [] tNext:=fun _ _ σ H _ I h=>wpAny_execs_nil ⟨σ,H,I,h⟩
theorem pss_cons (h1:PS X st t)(h2:PSs X rest u):PSs X (st :: rest) (tSeq t u):=by
 intro pins s σ H D I h
 refine wpAny_execs_cons (thn (h1 pins s σ H { D with nx:=u D } I h) fun f s1 q=>?_)
 cases f with
 | next =>
  obtain ⟨σ',H',I',q⟩:=q
  exact h2 pins s1 σ' H' D I' q
 | ret v=>exact q
 | brk=>exact q
 | cont=>exact q
theorem pss_one (h1:PS X st t):PSs X [st] t:=by
 intro pins s σ H D I h
 refine wpAny_execs_cons (thn (h1 pins s σ H D I h) fun f s1 q=>?_)
 cases f with
 | next=>exact wpAny_execs_nil q
 | ret v=>exact q
 | brk=>exact q
 | cont=>exact q
def tBreak:TS:=fun D σ H=>D.bk σ H
def tCont:TS:=fun D σ H=>D.ct σ H
theorem Inv.quiet {pins:List (Addr × Obj)}{σ:St}{H:Hp}{s:Shared}(I:Inv X pins σ H s):interactive X.env=false:=by simp [interactive,I.ok.kind]
def tDrop (te:TE):TS:=fun D σ H=>te σ H fun _ H1=>D.nx σ H1
theorem ps_expr (he:PE X e te)(hs:swapsWith e none pos.line X.env=pure false:=by rfl):PS X (.Expr e pos) (tDrop te):=by
 intro pins s σ H D I h
 exact wpAny_Expr_any (thn (he pins s σ H _ I h) fun v s1 ⟨x,H1,I1,r1,q1⟩=>⟨σ,H1,I1,q1⟩) I.quiet hs
def tRet (te:TE):TS:=fun D σ H=>te σ H D.rt
theorem ps_ret (he:PE X e te):PS X (.Return (some e) pos) (tRet te):=by
 intro pins s σ H D I h
 exact wpAny_Return_some (thn (he pins s σ H _ I h) fun v s1 ⟨x,H1,I1,r1,q1⟩=>⟨x,σ,H1,I1,r1,q1⟩)
def tRetN:TS:=fun D _ H=>D.rt .non H
def tIfS (c:TT)(t u:TS):TS:=fun D σ H=>c σ H fun b H1=>if b=true then t D σ H1 else u D σ H1
theorem ps_if {c:Expr}{a b:List Stmt}{tc:TT}(hc:PT X c tc)(ha:PSs X a t)(hb:PSs X b u):PS X (.If c a b pos) (tIfS tc t u):=by
 intro pins s σ H D I h
 refine wpAny_If (thn (hc pins s σ H _ I h) fun d s1 ⟨H1,I1,q1⟩=>?_)
 cases d with
 | true=>exact ha pins s1 σ H1 D I1 q1
 | false=>exact hb pins s1 σ H1 D I1 q1
def tNever:TS:=fun _ _ _=>False
theorem ps_never:PS X st tNever:=fun _ _ _ _ _ _ h=>h.elim
end
abbrev TG:=V -> St -> Hp -> (St -> Hp -> Prop) -> Prop
abbrev TGs:=List V -> St -> Hp -> (St -> Hp -> Prop) -> Prop
def PG (X:Cx)(target:Expr)(t:TG):Prop :=
 ∀ (pins:List (Addr × Obj)) (s:Shared) (σ:St) (H:Hp) (v:V) (u:Value) (Q:St -> Hp -> Prop),Inv X pins σ H s -> RelV v u -> t v σ H Q ->
  wpAny (model X.prog X.w) X.A (assign target X.env u) (fun _ s'=>∃ σ' H',Inv X pins σ' H' s' /\ Q σ' H') X.xe s
def PGs (X:Cx)(ts:List Expr)(t:TGs):Prop :=
 ∀ (pins:List (Addr × Obj)) (s:Shared) (σ:St) (H:Hp) (vs:List V) (us:List Value) (Q:St -> Hp -> Prop),Inv X pins σ H s -> Vals vs us -> t vs σ H Q ->
  wpAny (model X.prog X.w) X.A (assignInOrder ((assignEach ts X.env).map (·.2)) us) (fun _ s'=>∃ σ' H',Inv X pins σ' H' s' /\ Q σ' H') X.xe s
abbrev TSet:=V -> V -> V -> Hp -> (Hp -> Prop) -> Prop
def PSet (X:Cx)(t:TSet):Prop :=
 ∀ (pins:List (Addr × Obj)) (s:Shared) (σ:St) (H:Hp) (o i v:V) (ov iv u:Value) (Q:Hp -> Prop),Inv X pins σ H s -> RelV o ov -> RelV i iv -> RelV v u -> t o i v H Q ->
  wpAny (model X.prog X.w) X.A (setItem ov iv u) (fun _ s'=>∃ H',Inv X pins σ H' s' /\ Q H') X.xe s
abbrev TIp:=V -> V -> Hp -> VK -> Prop
section
variable {X:Cx}{pos:Pos}
def gName (i:Nat):TG:=fun v σ H Q=>Q (σ.set i (some v)) H
theorem pg_name {i:Nat}{x:Str}(hN:X.N.Nodup)(hi:X.N[i]? = some x)(hx:Loc X.env.scope x)(hf:X.fn x=true \/ X.env.scope.names.lookup x=some .local:=by first | exact .inl rfl | exact .inr rfl | assumption):PG X (.Name x pos) (gName i):=by
 intro pins s σ H v u Q I r h
 exact wpAny_assign_Name (store_ok I hN hi hx r (fun s' I'=>⟨_,H,I',h⟩) hf)
def gNil:TGs:=fun vs σ H Q=>vs=[] /\ Q σ H
def gCons (t:TG)(u:TGs):TGs:=fun vs σ H Q=>∃ v r,vs=v :: r /\ t v σ H fun σ' H'=>u r σ' H' Q
theorem pgs_nil:PGs X [] gNil:=by
 intro pins s σ H vs us Q I r h
 obtain ⟨e,h⟩:=h
 subst e
 cases r
 exact assignInOrder_nil ⟨σ,H,I,h⟩
theorem pgs_cons {e:Expr}{es:List Expr}{t:TG}{u:TGs}(h1:PG X e t)(h2:PGs X es u)
  (hs:(assignEach (e :: es) X.env).map (·.2)=assign e X.env :: (assignEach es X.env).map (·.2):=by rfl):PGs X (e :: es) (gCons t u):=by
 intro pins s σ H vs us Q I r h
 obtain ⟨v,vr,e1,h⟩:=h
 subst e1
 cases r with
 | cons r rr =>
  rw [hs]
  refine assignInOrder_cons (thn (h1 pins s σ H _ _ _ I r h) fun _ s1 ⟨σ1,H1,I1,q1⟩=>?_)
  exact h2 pins s1 σ1 H1 _ _ Q I1 rr q1
def gTup (K:PySem.W.Frag)(n:Nat)(t:TGs):TG:=fun v σ H Q=>∃ a xs,v = .ref a /\ SqT K H a xs /\ xs.length=n /\ t xs σ H Q
theorem pg_tup {es:List Expr}{k:Nat}{t:TGs}{n:Nat}(hc:X.calm=true)(h:PGs X es t)
  (hn:(assignEach es X.env).length=n:=by rfl) (hst:(assignEach es X.env).findIdx? (·.1)=none:=by rfl):PG X (.Tuple es k pos) (gTup X.K n t):=by
 intro pins s σ H v u Q I r hw
 obtain ⟨a,xs,e1,hq,hl,hw⟩:=hw
 subst e1
 cases r
 obtain ⟨its,rv,ht,hz⟩:=I.tuple hq
 refine assign_Tuple_tuple (I.ok.hd hc) ht (by simp [hn,← hl,rv.length]) hst fun h' hx=>?_
 have I1:Inv X pins σ H { s with heap:=h' }:=I.kept (t':=s.toks) fun b o e=>hx b o (Nat.ne_of_lt (Heap.lt_size e)) e
 exact h pins _ σ H xs _ Q I1 (by simpa using rv) hw
def gSub (to ti:TE)(t:TSet):TG:=fun v σ H Q=>to σ H fun o H1=>ti σ H1 fun i H2=>t o i v H2 fun H3=>Q σ H3
theorem pg_sub {o i:Expr}{to ti:TE}{t:TSet}(ho:PE X o to)(hi:PE X i ti)(hs:PSet X t)
  (ha:∀ v,assign (.Subscript o i pos) X.env v=(do
   let ov ← holding [v] (eval o X.env)
   let iv ← holding [v,ov] (eval i X.env)
   standAt pos
   holding [v,ov,iv] (setItem ov iv v)
   release [v,ov,iv] []):=by intro _; rfl):PG X (.Subscript o i pos) (gSub to ti t):=by
 intro pins s σ H v u Q I r h
 rw [ha]
 refine wpAny_bind (wpAny_holding (thn (ho pins s σ H _ I h) fun ov s1 ⟨x,H1,I1,r1,q1⟩=>?_))
 refine wpAny_bind (wpAny_holding (thn (hi pins s1 σ H1 _ I1 q1) fun iv s2 ⟨y,H2,I2,r2,q2⟩=>?_))
 refine wpAny_bind (wpAny_standAt (wpAny_bind (wpAny_holding (thn (hs pins s2 σ H2 x y v ov iv u _ I2 r1 r2 r q2) fun _ s3 ⟨H3,I3,q3⟩=>?_))))
 exact wpAny_release ⟨σ,H3,I3,q3⟩
def tAsg (te:TE)(g:TG):TS:=fun D σ H=>te σ H fun x H1=>g x σ H1 D.nx
theorem ps_asg {tg e:Expr}{te:TE}{g:TG}(he:PE X e te)(hg:PG X tg g)(hs:swapsWithSole [tg] e pos.line X.env=pure false:=by rfl)(hw:swappedStores [tg] e X.env=pure none:=by rfl)
  (h1:(assignEach [tg] X.env).map (·.2)=[assign tg X.env]:=by rfl):PS X (.Assign [tg] e pos) (tAsg te g):=by
 intro pins s σ H D I h
 refine wpAny_Assign_stores (thn (he pins s σ H _ I h) fun v s1 ⟨x,H1,I1,r1,q1⟩=>?_) hs hw
 rw [h1]
 exact thn (hg pins s1 σ H1 x v _ I1 r1 q1) fun _ s2 q=>q
theorem ps_set {i:Nat}{x:Str}{e:Expr}{te:TE}{pos':Pos}(hN:X.N.Nodup)(hi:X.N[i]? = some x)(hx:Loc X.env.scope x)(he:PE X e te)(hs:swapsWith e (some (.Name x pos')) pos.line X.env=pure false:=by rfl)(hf:X.fn x=true \/ X.env.scope.names.lookup x=some .local:=by first | exact .inl rfl | exact .inr rfl | assumption) :
  PS X (.Assign [.Name x pos'] e pos) (tAsg te (gName i)):=by
 intro pins s σ H D I h
 refine wpAny_Assign_Name (thn (he pins s σ H _ I h) fun v s1 ⟨y,H1,I1,r1,q1⟩=>?_) hs
 exact store_ok I1 hN hi hx r1 (fun s2 I2=>⟨_,H1,I2,q1⟩) hf
def tAug (i:Nat)(te:TE)(ti:TIp):TS:=fun D σ H=>∃ x,σ[i]? = some (some x) /\ te σ H fun y H1=>ti x y H1 fun z H2=>D.nx (σ.set i (some z)) H2
def ipI (f:Int -> Int -> Int):TIp:=fun x y H Q=>∃ i j,x = .int i /\ y = .int j /\ Q (.int (f i j)) H
end
section
variable {X:Cx}{pos:Pos}
end
structure It where
 go:Nat -> Hp -> Prop
 yld:Nat -> Hp -> V -> Hp -> Prop
 stop:Nat -> Hp -> Prop
def FpOk (X:Cx)(pins:List (Addr × Obj))(H:Hp)(b:Addr):Prop :=
 H b=none /\ b ≠ X.env.locals /\ b ∉ X.fs /\ (b ∈ X.ex \/ X.s₀.heap.objs.size <= b) /\ (∀ x c,X.env.cells.lookup x=some c -> c ≠ b) /\ ∀ p ∈ X.pn ++ pins,p.1 ≠ b
theorem Inv.fpOk {X:Cx}{pins:List (Addr × Obj)}{σ:St}{H H':Hp}{s:Shared}{b:Addr}(I:Inv X pins σ H s)(hb:s.heap.objs.size <= b)(hn:H' b=none):FpOk X pins H' b:=by
 refine ⟨hn,Nat.ne_of_gt (qJ I.lt hb),I.nofs hb,.inr (Nat.le_trans I.sz hb),fun x c e z=>?_,fun p hp z=>?_⟩
 ·obtain ⟨v,q⟩:=I.cell x c e
  exact absurd (qJ q.lt (by rw [z]; exact hb)) (Nat.lt_irrefl _)
 ·exact absurd (qJ (Heap.lt_size (I.pin p hp).1) (by rw [z]; exact hb)) (Nat.lt_irrefl _)
structure Turn (P:Program) (w:World) (K:PySem.W.Frag) (tg:Expr) (J:It) (fp:List Addr) (it:Addr) (tn:Nat -> Heap -> Prop):Prop where
 mem:it ∈ fp
 obj:∀ i h,tn i h -> ∀ b ∈ fp,∃ o,h.get? b=some o /\ ∀ v,o.data ≠ .cell v
 keep:∀ i h h',tn i h -> (∀ b ∈ fp,∀ o,h.get? b=some o -> h'.get? b=some o) -> tn i h'
 item:∀ (X:Cx),X.prog=P -> X.w=w -> X.K=K -> X.calm=true -> ∀ (i:Nat) (pins:List (Addr × Obj)) (s:Shared) (σ:St) (H:Hp) (E:Value -> Shared -> Prop),Inv X pins σ H s -> (∀ b ∈ fp,FpOk X pins H b) -> tn i s.heap -> J.go i H ->
  wpAny (model P w) X.A (pyNext (.ref it)) (fun r s1=>∃ u,r=some u /\
   wpAny (model P w) X.A (letOwnedTupleGo tg (.ref it) u) (fun _ s2=>∃ x H',Inv X pins σ H' s2 /\ RelV x u /\ J.yld i H x H' /\ tn (i+1) s2.heap /\ ∀ b ∈ fp,H' b=none) E s1) E s
 done:∀ (X:Cx),X.prog=P -> X.w=w -> X.K=K -> X.calm=true -> ∀ (i:Nat) (pins:List (Addr × Obj)) (s:Shared) (σ:St) (H:Hp) (E:Value -> Shared -> Prop),Inv X pins σ H s -> (∀ b ∈ fp,FpOk X pins H b) -> tn i s.heap -> J.stop i H ->
  wpAny (model P w) X.A (pyNext (.ref it)) (fun r s1=>r=none /\ Inv X pins σ H s1) E s
 self:∀ (A:Around) (i:Nat) (s:Shared) (Q:Value -> Shared -> Prop) (E:Value -> Shared -> Prop),tn i s.heap -> Q (.ref it) s -> wpAny (model P w) A (pyIter (.ref it)) Q E s
abbrev TI:=St -> Hp -> (It -> Hp -> Prop) -> Prop
def PIE (X:Cx)(pins:List (Addr × Obj))(σ:St)(tg:Expr)(R:It -> Hp -> Prop)(itv:Value)(s2:Shared):Prop :=
 ∃ (it:Addr) (fp:List Addr) (tn:Nat -> Heap -> Prop) (J:It) (H':Hp),itv = .ref it /\ Inv X pins σ H' s2 /\ Turn X.prog X.w X.K tg J fp it tn /\ tn 0 s2.heap /\ (∀ b ∈ fp,FpOk X pins H' b) /\ R J H'
def PI (X:Cx)(tg iter:Expr)(wi:TI):Prop :=
 ∀ (pins:List (Addr × Obj)) (s:Shared) (σ:St) (H:Hp) (R:It -> Hp -> Prop),Inv X pins σ H s -> wi σ H R ->
  wpAny (model X.prog X.w) X.A (eval iter X.env) (fun v s1=>wpAny (model X.prog X.w) X.A (pyIter v) (PIE X pins σ tg R) X.xe s1) X.xe s
theorem go_of {M : Model}{A : Around}{E : Value → Shared → Prop}{s : Shared}{tg : Expr}{it : Addr}{u : Value}{o : Obj}{n : String}{vs : Array Value}{Q : Unit → Shared → Prop}(ho : s.heap.get? it = some o)(hc : o.cls = .type n)(hd : o.data = .fields vs)
    (hn : ["enumerate", "zip", "dict_itemiterator", "dict_reverseitemiterator", "odict_iterator", "itertools.zip_longest", "itertools.pairwise"].contains n = false) (hQ : Q () s) : wpAny M A (letOwnedTupleGo tg (.ref it) u) Q E s := by
  unfold letOwnedTupleGo
  cases tg <;> first
    | exact wpAny_pure hQ
    | (cases u <;> first
        | exact wpAny_pure hQ
        | (refine wpAny_bind (wpAny_load ho ?_)
           rw [hc, hd]
           show wpAny M A (if (["enumerate", "zip", "dict_itemiterator", "dict_reverseitemiterator", "odict_iterator", "itertools.zip_longest", "itertools.pairwise"].contains n && vs[0]? == some (rawInt _)) = true then _ else _) Q E s
           rw [if_neg (by intro h; rw [hn, Bool.false_and] at h; cases h)]
           exact wpAny_pure hQ))
def Itl (K:PySem.W.Frag)(a:Addr):It :=
 ⟨fun i H=>∃ xs x,SqL K H a xs /\ xs[i]? = some x,fun i H x H'=>H'=H /\ ∀ xs,SqL K H a xs -> xs[i]? = some x,fun i H=>∃ xs,SqL K H a xs /\ xs.length <= i⟩
def Itt (K:PySem.W.Frag)(a:Addr):It :=
 ⟨fun i H=>∃ xs x,SqT K H a xs /\ xs[i]? = some x,fun i H x H'=>H'=H /\ ∀ xs,SqT K H a xs -> xs[i]? = some x,fun i H=>∃ xs,SqT K H a xs /\ xs.length <= i⟩
def Itr (lo:Int)(n:Nat):It:=⟨fun i _=>i < n,fun i H x H'=>H'=H /\ x = .int (lo+i),fun i _=>n <= i⟩
theorem turn_list {P:Program}{w:World}{K:PySem.W.Frag}{tg:Expr}(a it:Addr):Turn P w K tg (Itl K a) [it] it (fun i h=>h.IsListIter it a i) where
 mem:=by simp
 obj:=fun i h st b hb=>by
  have e:b=it:=by simpa using hb
  subst e
  obtain ⟨o,e,c,d⟩:=st
  exact ⟨o,e,fun v z=>by rw [d] at z; cases z⟩
 keep:=fun i h h' st k=>st.at fun o e=>k it (by simp) o e
 item:=by
  intro X hP hw hK hc i pins s σ H E I hf st hg
  subst hP hw hK
  obtain ⟨xs,x,hq,hx⟩:=hg
  obtain ⟨its,rv,p,hz⟩:=I.list hq
  obtain ⟨u,hu,ru⟩:=rv.get hx
  obtain ⟨f0,f1,f2,f3,f4,f5⟩:=hf it (by simp)
  refine wpAny_pyNext_list_item st p.isList (x:=u) (by simpa using hu) fun h' st' sb=>?_
  have I1:Inv X pins σ H { s with heap:=h' }:=I.turned (t':=s.toks) (fun b o hb e=>(sb.2 b hb).trans e) f0 f1 f3 f4 f5
  obtain ⟨o,e,c,d⟩:=id st'
  exact ⟨u,rfl,go_of (s:={ s with heap:=h' }) e c d (by decide) ⟨x,H,I1,ru,⟨rfl,fun ys hy=>by rw [I.list_inj hy hq]; exact hx⟩,st',fun b hb=>(hf b hb).1⟩⟩
 done:=by
  intro X hP hw hK hc i pins s σ H E I hf st hg
  subst hP hw hK
  obtain ⟨xs,hq,hx⟩:=hg
  obtain ⟨its,rv,p,hz⟩:=I.list hq
  obtain ⟨f0,f1,f2,f3,f4,f5⟩:=hf it (by simp)
  have hl:=rv.length
  exact wpAny_pyNext_list_end (I.ok.hd hc) st p.isList (by simp; omega) fun h' eb=>⟨rfl,I.turned (t':=s.toks) (fun b o hb e=>eb b o hb e) f0 f1 f3 f4 f5⟩
 self:=fun _ _ _ _ _ st h=>wpAny_pyIter_listiter st h
theorem turn_tuple {P:Program}{w:World}{K:PySem.W.Frag}{tg:Expr}(a it:Addr):Turn P w K tg (Itt K a) [it] it (fun i h=>h.IsTupleIter it a i) where
 mem:=by simp
 obj:=fun i h st b hb=>by
  have e:b=it:=by simpa using hb
  subst e
  obtain ⟨o,e,c,d⟩:=st
  exact ⟨o,e,fun v z=>by rw [d] at z; cases z⟩
 keep:=fun i h h' st k=>st.at fun o e=>k it (by simp) o e
 item:=by
  intro X hP hw hK hc i pins s σ H E I hf st hg
  subst hP hw hK
  obtain ⟨xs,x,hq,hx⟩:=hg
  obtain ⟨its,rv,p,hz⟩:=I.tuple hq
  obtain ⟨u,hu,ru⟩:=rv.get hx
  obtain ⟨f0,f1,f2,f3,f4,f5⟩:=hf it (by simp)
  refine wpAny_pyNext_tuple_item st (show s.heap.IsTuple a its.toArray from p) (x:=u) (by simpa using hu) fun h' st' sb=>?_
  have I1:Inv X pins σ H { s with heap:=h' }:=I.turned (t':=s.toks) (fun b o hb e=>(sb.2 b hb).trans e) f0 f1 f3 f4 f5
  obtain ⟨o,e,c,d⟩:=id st'
  exact ⟨u,rfl,go_of (s:={ s with heap:=h' }) e c d (by decide) ⟨x,H,I1,ru,⟨rfl,fun ys hy=>by rw [I.tuple_inj hy hq]; exact hx⟩,st',fun b hb=>(hf b hb).1⟩⟩
 done:=by
  intro X hP hw hK hc i pins s σ H E I hf st hg
  subst hP hw hK
  obtain ⟨xs,hq,hx⟩:=hg
  obtain ⟨its,rv,p,hz⟩:=I.tuple hq
  obtain ⟨f0,f1,f2,f3,f4,f5⟩:=hf it (by simp)
  have hl:=rv.length
  exact wpAny_pyNext_tuple_end (I.ok.hd hc) st (show s.heap.IsTuple a its.toArray from p) (by simp; omega) fun h' eb=>⟨rfl,I.turned (t':=s.toks) (fun b o hb e=>eb b o hb e) f0 f1 f3 f4 f5⟩
 self:=fun _ _ _ _ _ st h=>wpAny_pyIter_tupleiter st h
theorem turn_range {P:Program}{w:World}{K:PySem.W.Frag}{tg:Expr}(it:Addr)(lo:Int)(n:Nat):Turn P w K tg (Itr lo n) [it] it (fun i h=>IsRangeIter h it (lo+(i:Nat) * 1) ((n:Int) - (i:Nat)) 1) where
 mem:=by simp
 obj:=fun i h st b hb=>by
  have e:b=it:=by simpa using hb
  subst e
  exact ⟨_,st,fun v z=>by
   have z':Data.fields _=Data.cell v:=z
   cases z'⟩
 keep:=fun i h h' st k=>k it (by simp) _ st
 item:=by
  intro X hP hw hK hc i pins s σ H E I hf st hg
  subst hP hw hK
  obtain ⟨f0,f1,f2,f3,f4,f5⟩:=hf it (by simp)
  have W:=Walks.range (prog:=X.prog) (w:=X.w) (I.ok.hd hc) it lo 1 n
  refine W.item i s _ _ hg st fun v h' tk hv st' kk=>?_
  obtain ⟨t,rfl⟩:=hv
  have I1:Inv X pins σ H { s with heap:=h',toks:=tk }:=I.turned (fun b o hb e=>kk b o (by simpa using hb) e) f0 f1 f3 f4 f5
  refine ⟨_,rfl,go_of (s:={ s with heap:=h',toks:=tk }) (n:="range_iterator") st' rfl rfl (by decide) ⟨.int (lo+i),H,I1,⟨t,?_⟩,⟨rfl,rfl⟩,st',fun b hb=>(hf b hb).1⟩⟩
  rw [Int.mul_one]
 done:=by
  intro X hP hw hK hc i pins s σ H E I hf st hg
  subst hP hw hK
  obtain ⟨f0,f1,f2,f3,f4,f5⟩:=hf it (by simp)
  exact wpAny_pyNext_range_end (I.ok.hd hc) st (by have:n <= i:=hg; omega) fun h' eb=>⟨rfl,I.turned (t':=s.toks) (fun b o hb e=>eb b o hb e) f0 f1 f3 f4 f5⟩
 self:=fun _ _ _ _ _ st h=>wpAny_pyIter_rangeiter st h
end L2
namespace L2
open PySem PySem.Spec PyProof.Rows
section
variable {X:Cx}{tg:Expr}
def iList (K:PySem.W.Frag)(tl:TE):TI:=fun σ H R=>tl σ H fun x H1=>∃ a,x = .ref a /\ (∃ xs,SqL K H1 a xs) /\ R (Itl K a) H1
def iTup (K:PySem.W.Frag)(tl:TE):TI:=fun σ H R=>tl σ H fun x H1=>∃ a,x = .ref a /\ (∃ xs,SqT K H1 a xs) /\ R (Itt K a) H1
theorem pi_list {l:Expr}{tl:TE}(hl:PE X l tl):PI X tg l (iList X.K tl):=by
 intro pins s σ H R I h
 refine thn (hl pins s σ H _ I h) fun v s1 ⟨x,H1,I1,r1,q1⟩=>?_
 obtain ⟨a,e,⟨xs,hq⟩,q⟩:=q1
 subst e
 cases r1
 obtain ⟨its,rv,p,hz⟩:=I1.list hq
 refine wpAny_pyIter_list p.isList ?_
 refine ⟨s1.heap.objs.size,[s1.heap.objs.size],_,_,H1,rfl,I1.kept (t':=s1.toks) fun b o e=>Heap.get?_push_of_some _ e,turn_list a _,⟨_,Heap.get?_push_size _ rfl,rfl,rfl⟩,fun b hb=>?_,q⟩
 have e:b=s1.heap.objs.size:=by simpa using hb
 subst e
 exact I1.fpOk (Nat.le_refl _) (I1.hok.fresh (Nat.le_refl _))
theorem pi_tup {l:Expr}{tl:TE}(hl:PE X l tl):PI X tg l (iTup X.K tl):=by
 intro pins s σ H R I h
 refine thn (hl pins s σ H _ I h) fun v s1 ⟨x,H1,I1,r1,q1⟩=>?_
 obtain ⟨a,e,⟨xs,hq⟩,q⟩:=q1
 subst e
 cases r1
 obtain ⟨its,rv,p,hz⟩:=I1.tuple hq
 refine wpAny_pyIter_tuple (show s1.heap.IsTuple a its.toArray from p) ?_
 refine ⟨s1.heap.objs.size,[s1.heap.objs.size],_,_,H1,rfl,I1.kept (t':=s1.toks) fun b o e=>Heap.get?_push_of_some _ e,turn_tuple a _,⟨_,Heap.get?_push_size _ rfl,rfl,rfl⟩,fun b hb=>?_,q⟩
 have e:b=s1.heap.objs.size:=by simpa using hb
 subst e
 exact I1.fpOk (Nat.le_refl _) (I1.hok.fresh (Nat.le_refl _))
theorem range_it {pins:List (Addr × Obj)}{σ:St}{H:Hp}{s:Shared}{R:It -> Hp -> Prop}{E:Value -> Shared -> Prop}{lo hi:Int}{t u v:Tok}{tk:Nat}(I:Inv X pins σ H s)(h1:-(2 ^ 62) <= lo)(h2:lo < 2 ^ 62)(h3:-(2 ^ 62) <= hi)(h4:hi < 2 ^ 62)
  (q:R (Itr lo (hi - lo).toNat) H):wpAny (model X.prog X.w) X.A (pyIter (.ref s.heap.objs.size)) (PIE X pins σ tg R) E { s with heap:=s.heap.push { cls:=.type "range",data:=.fields #[.int lo t,.int hi u,.int 1 v] },toks:=tk }:=by
 refine wpAny_pyIter_range (IsRange.new ..) (small_one h1 h2 h3 h4) ?_
 have I1:Inv X pins σ H { s with heap:=s.heap.push { cls:=.type "range",data:=.fields #[.int lo t,.int hi u,.int 1 v] },toks:=tk }:=I.kept fun b o e=>Heap.get?_push_of_some _ e
 refine ⟨(s.heap.push { cls:=.type "range",data:=.fields #[.int lo t,.int hi u,.int 1 v] }).objs.size,[(s.heap.push { cls:=.type "range",data:=.fields #[.int lo t,.int hi u,.int 1 v] }).objs.size],_,_,H,rfl,
  I1.kept (t':=tk) fun b o e=>Heap.get?_push_of_some _ e,turn_range _ lo (hi - lo).toNat,?_,fun b hb=>?_,q⟩
 ·have e1:lo+((0:Nat):Int) * 1=lo:=by simp
  have e2:(((hi - lo).toNat:Nat):Int) - ((0:Nat):Int)=Builtin.Range.rangeSize lo hi 1:=by rw [rangeSize_one]; split <;> omega
  show IsRangeIter _ _ (lo+((0:Nat):Int) * 1) ((((hi - lo).toNat:Nat):Int) - ((0:Nat):Int)) 1
  rw [e1,e2]
  exact Heap.get?_push_size _ rfl
 ·have e:b=(s.heap.push { cls:=.type "range",data:=.fields #[.int lo t,.int hi u,.int 1 v] }).objs.size:=by simpa using hb
  subst e
  exact I1.fpOk (Nat.le_refl _) (I1.hok.fresh (Nat.le_refl _))
def iRng1 (ta:TA):TI:=fun σ H R=>ta σ H fun vs H1=>∃ j:Int,vs=[.int j] /\ -(2 ^ 62) <= j /\ j < 2 ^ 62 /\ R (Itr 0 j.toNat) H1
def iRng2 (ta:TA):TI:=fun σ H R=>ta σ H fun vs H1=>∃ i j:Int,vs=[.int i,.int j] /\ (-(2 ^ 62) <= i /\ i < 2 ^ 62 /\ -(2 ^ 62) <= j /\ j < 2 ^ 62) /\ R (Itr i (j - i).toNat) H1
theorem pi_range1 {a:Expr} {ta:TA} {p pos:Pos} (hg:Gl X "range") (hm:X.mg "range" = none) (ha:PA X [a] ta) (hs:starEach [a] X.env=[(false,eval a X.env)]:=by rfl):PI X tg (.Call (.Name "range" p) [a] [] pos) (iRng1 ta):=by
 intro pins s σ H R I h
 refine Call_ (ld_blt I hg hm boot_range (PyProof.Rows.callWith_type1 (thn (ha pos pins s σ H _ I h) fun us s1 ⟨vs,H1,I1,r1,q1⟩=>?_) hs rfl))
 obtain ⟨j,e,q1,q2,q⟩:=q1
 subst e
 cases r1 with
 | cons r rr =>
  cases rr
  obtain ⟨t,rfl⟩:=r
  exact call_range_1 (range_it I1 (by omega) (by omega) q1 q2 (by simpa using q))
def tFor (wi:TI)(g:TG)(tb:TS):TS:=fun D σ H=>wi σ H fun J H1=>∃ W:Nat -> Nat -> St -> Hp -> Prop,(∃ m,W 0 m σ H1) /\ ∀ i m σ H,W i m σ H ->
 (J.stop i H /\ D.nx σ H) \/ (J.go i H /\ ∃ N:St -> Hp -> Prop,(∀ σ' H',N σ' H' -> ∃ m',m' < m /\ W (i+1) m' σ' H') /\ ∀ x H',J.yld i H x H' -> g x σ H' fun σ2 H2=>tb { D with nx:=N,ct:=N,bk:=D.nx } σ2 H2)
def pinsAt (fp:List Addr)(h:Heap):List (Addr × Obj):=fp.filterMap fun b=>(h.get? b).map fun o=>(b,o)
theorem mem_pinsAt {fp:List Addr}{h:Heap}{b:Addr}{o:Obj}(hb:b ∈ fp)(e:h.get? b=some o):(b,o) ∈ pinsAt fp h:=List.mem_filterMap.mpr ⟨b,hb,by rw [e]; rfl⟩
theorem of_pinsAt {fp:List Addr}{h:Heap}{p:Addr × Obj}(hp:p ∈ pinsAt fp h):p.1 ∈ fp /\ h.get? p.1=some p.2:=by
 obtain ⟨b,hb,e⟩:=List.mem_filterMap.mp hp
 cases q:h.get? b with
 | none=>rw [q] at e; cases e
 | some o =>
  rw [q] at e
  have e':(b,o)=p:=Option.some.inj e
  subst e'
  exact ⟨hb,q⟩
theorem Inv.pinned {pins:List (Addr × Obj)}{σ:St}{H:Hp}{s:Shared}{fp:List Addr}(I:Inv X pins σ H s)(hf:∀ b ∈ fp,FpOk X pins H b)(ho:∀ b ∈ fp,∃ o,s.heap.get? b=some o /\ ∀ v,o.data ≠ .cell v):Inv X (pins ++ pinsAt fp s.heap) σ H s :=
 I.pins_of fun p hp=>(List.mem_append.mp hp).elim (fun z=>I.pin p (qK _ z)) fun z=>by
  obtain ⟨hb,e⟩:=of_pinsAt z
  obtain ⟨f0,f1,f2,_⟩:=hf p.1 hb
  obtain ⟨o,e',d⟩:=ho p.1 hb
  rw [e] at e'; cases e'
  exact ⟨e,f0,f1,f2,d⟩
theorem Inv.unpinned {pins pl:List (Addr × Obj)}{σ:St}{H:Hp}{s:Shared}(I:Inv X (pins ++ pl) σ H s):Inv X pins σ H s:=I.pins_of fun p hp=>I.pin p (qK _ (List.mem_append_left _ hp))
theorem ps_for {iter:Expr}{body:List Stmt}{wi:TI}{g:TG}{tb:TS}{pos:Pos}(hp:PassesOwn (model X.prog X.w) X.A X.env X.xe)(hc:X.calm=true)(hi:PI X tg iter wi)(hg:PG X tg g)(hb:PSs X body tb)
  (hs:∀ x,foldedSetIterable iter X.env x=pure x:=by intro _; rfl):PS X (.For tg iter body [] pos) (tFor wi g tb):=by
 intro pins s σ H D I h
 refine wpAny_For (thn (hi pins s σ H _ I h) fun v s1 h1=>thn h1 fun itv s2 h2=>?_) hs
 obtain ⟨it,fp,tn,J,H2,e,I2,T,st2,f2,W,⟨m0,w0⟩,turn⟩:=h2
 subst e
 -- what stays true of the iterator's objects through the loop
 have stat:∀ {H':Hp},(∀ b ∈ fp,H' b=none) -> ∀ b ∈ fp,FpOk X pins H' b:=fun hn b hb=>⟨hn b hb,(f2 b hb).2⟩
 refine codeAny_forLoop_any (fun n s'=>∃ i σ' H',Inv X pins σ' H' s' /\ tn i s'.heap /\ (∀ b ∈ fp,H' b=none) /\ W i n σ' H') ?_ m0 ⟨0,σ,H2,I2,st2,fun b hb=>(f2 b hb).1,w0⟩
 rintro n s3 ⟨i,σ3,H3,I3,st3,fr3,w3⟩
 rcases turn i n σ3 H3 w3 with ⟨stop,qn⟩ | ⟨go,N,hN,step⟩
 ·refine wpAny_passesOwn hp (thn (T.done X rfl rfl rfl hc i pins s3 σ3 H3 X.xe I3 (stat fr3) st3 stop) fun r s4 ⟨hr,I4⟩=>?_)
  subst hr
  exact wpAny_execs_nil ⟨σ3,H3,I4,qn⟩
 ·refine wpAny_passesOwn hp (thn (T.item X rfl rfl rfl hc i pins s3 σ3 H3 X.xe I3 (stat fr3) st3 go) fun r s4 ⟨u,hr,h4⟩=>?_)
  subst hr
  refine wpAny_passesOwn hp (thn h4 fun _ s5 ⟨x,H5,I5,r5,y5,st5,fr5⟩=>?_)
  have I5':=I5.pinned (stat fr5) (T.obj _ _ st5)
  refine wpAny_passesOwn hp (thn (hg _ s5 σ3 H5 x u _ I5' r5 (step x H5 y5)) fun _ s6 ⟨σ6,H6,I6,q6⟩=>?_)
  refine wpAny_passesOwn hp (thn (hb _ s6 σ6 H6 _ I6 q6) fun f s7 q7=>?_)
  have again:∀ {σ7:St} {H7:Hp},Inv X (pins ++ pinsAt fp s5.heap) σ7 H7 s7 -> N σ7 H7 -> ∃ m,m < n /\ ∃ i σ' H',Inv X pins σ' H' s7 /\ tn i s7.heap /\ (∀ b ∈ fp,H' b=none) /\ W i m σ' H':=fun {σ7 H7} I7 n7=>by
   obtain ⟨m',hm,w7⟩:=hN σ7 H7 n7
   refine ⟨m',hm,i+1,σ7,H7,I7.unpinned,T.keep _ _ _ st5 fun b hb o e=>(I7.pin (b,o) (qK _ (qK _ (mem_pinsAt hb e)))).1,fun b hb=>?_,w7⟩
   obtain ⟨o,e,d⟩:=T.obj _ _ st5 b hb
   exact (I7.pin (b,o) (qK _ (qK _ (mem_pinsAt hb e)))).2.1
  cases f with
  | next=>obtain ⟨σ7,H7,I7,n7⟩:=q7; exact again I7 n7
  | cont=>obtain ⟨σ7,H7,I7,n7⟩:=q7; exact again I7 n7
  | brk=>obtain ⟨σ7,H7,I7,q7⟩:=q7; exact ⟨σ7,H7,I7.unpinned,q7⟩
  | ret v=>obtain ⟨x7,σ7,H7,I7,r7,q7⟩:=q7; exact ⟨x7,σ7,H7,I7.unpinned,r7,q7⟩
end
theorem for_list {K:PySem.W.Frag}{a:Addr}{xs:List V}{g:TG}{tb:TS}{D:Ends}{σ:St}{H:Hp}(Pv:Nat -> St -> Hp -> Prop)(h0:Pv 0 σ H)(hl:∀ i σ H,i <= xs.length -> Pv i σ H -> SqL K H a xs)
  (hs:∀ i x σ H,xs[i]? = some x -> Pv i σ H -> g x σ H fun σ2 H2=>tb { D with nx:=Pv (i+1),ct:=Pv (i+1),bk:=D.nx } σ2 H2) (hd:∀ σ H,Pv xs.length σ H -> D.nx σ H) :
  ∃ W:Nat -> Nat -> St -> Hp -> Prop,(∃ m,W 0 m σ H) /\ ∀ i m σ H,W i m σ H ->
   ((Itl K a).stop i H /\ D.nx σ H) \/ ((Itl K a).go i H /\ ∃ N:St -> Hp -> Prop,(∀ σ' H',N σ' H' -> ∃ m',m' < m /\ W (i+1) m' σ' H') /\ ∀ x H',(Itl K a).yld i H x H' -> g x σ H' fun σ2 H2=>tb { D with nx:=N,ct:=N,bk:=D.nx } σ2 H2):=by
 refine ⟨fun i m σ H=>m=xs.length - i /\ i <= xs.length /\ Pv i σ H,⟨xs.length,by simp,Nat.zero_le _,h0⟩,?_⟩
 rintro i m σ H ⟨rfl,hi,p⟩
 have q:=hl i σ H hi p
 by_cases hlt:i < xs.length
 ·refine .inr ⟨⟨xs,xs[i],q,by simp [hlt]⟩,Pv (i+1),fun σ' H' p'=>⟨xs.length - (i+1),by omega,rfl,hlt,p'⟩,fun x H' y=>?_⟩
  obtain ⟨e,y⟩:=y
  subst e
  exact hs i x σ _ (y xs q) p
 ·have e:i=xs.length:=by omega
  subst e
  exact .inl ⟨⟨xs,q,Nat.le_refl _⟩,hd σ H p⟩
theorem for_range {lo:Int}{n:Nat}{g:TG}{tb:TS}{D:Ends}{σ:St}{H:Hp}(Pv:Nat -> St -> Hp -> Prop)(h0:Pv 0 σ H)
  (hs:∀ i σ H,i < n -> Pv i σ H -> g (.int (lo+i)) σ H fun σ2 H2=>tb { D with nx:=Pv (i+1),ct:=Pv (i+1),bk:=D.nx } σ2 H2) (hd:∀ σ H,Pv n σ H -> D.nx σ H) :
  ∃ W:Nat -> Nat -> St -> Hp -> Prop,(∃ m,W 0 m σ H) /\ ∀ i m σ H,W i m σ H ->
   ((Itr lo n).stop i H /\ D.nx σ H) \/ ((Itr lo n).go i H /\ ∃ N:St -> Hp -> Prop,(∀ σ' H',N σ' H' -> ∃ m',m' < m /\ W (i+1) m' σ' H') /\ ∀ x H',(Itr lo n).yld i H x H' -> g x σ H' fun σ2 H2=>tb { D with nx:=N,ct:=N,bk:=D.nx } σ2 H2):=by
 refine ⟨fun i m σ H=>m=n - i /\ i <= n /\ Pv i σ H,⟨n,by simp,Nat.zero_le _,h0⟩,?_⟩
 rintro i m σ H ⟨rfl,hi,p⟩
 by_cases hlt:i < n
 ·refine .inr ⟨hlt,Pv (i+1),fun σ' H' p'=>⟨n - (i+1),by omega,rfl,hlt,p'⟩,fun x H' y=>?_⟩
  obtain ⟨e,y⟩:=y
  subst e y
  exact hs i σ _ hlt p
 ·have e:i=n:=by omega
  subst e
  exact .inl ⟨Nat.le_refl _,hd σ H p⟩
end L2
namespace L2
open PySem PySem.Spec PyProof.Rows
abbrev R2:=V -> V -> Hp -> VK -> Prop
def OpR (X:Cx)(f:Value -> Value -> Sem Value)(r:R2):Prop :=
 ∀ (pins:List (Addr × Obj)) (s:Shared) (σ:St) (H:Hp) (x y:V) (v u:Value) (Q:VK),Inv X pins σ H s -> RelV x v -> RelV y u -> r x y H Q ->
  wpAny (model X.prog X.w) X.A (f v u) (EP X pins σ Q) X.xe s
def UnR (X:Cx)(f:Value -> Sem Value)(r:V -> Hp -> VK -> Prop):Prop :=
 ∀ (pins:List (Addr × Obj)) (s:Shared) (σ:St) (H:Hp) (x:V) (v:Value) (Q:VK),Inv X pins σ H s -> RelV x v -> r x H Q ->
  wpAny (model X.prog X.w) X.A (f v) (EP X pins σ Q) X.xe s
def CallR (X:Cx)(f:Value)(r:List V -> Hp -> VK -> Prop):Prop :=
 ∀ (pins:List (Addr × Obj)) (s:Shared) (σ:St) (H:Hp) (xs:List V) (us:List Value) (Q:VK),Inv X pins σ H s -> Vals xs us -> r xs H Q ->
  wpAny (model X.prog X.w) X.A (call f us) (EP X pins σ Q) X.xe s
def tOp (r:R2)(ta tb:TE):TE:=fun σ H Q=>ta σ H fun x H1=>tb σ H1 fun y H2=>r x y H2 Q
def tUn (r:V -> Hp -> VK -> Prop)(ta:TE):TE:=fun σ H Q=>ta σ H fun x H1=>r x H1 Q
def rI (C:Int -> Int -> Prop)(g:Int -> Int -> V):R2:=fun x y H Q=>∃ i j,x = .int i /\ y = .int j /\ C i j /\ Q (g i j) H
def rI0 (g:Int -> Int -> V):R2:=fun x y H Q=>∃ i j,x = .int i /\ y = .int j /\ Q (g i j) H
def rU (g:Int -> V):V -> Hp -> VK -> Prop:=fun x H Q=>∃ i,x = .int i /\ Q (g i) H
section
variable {X:Cx}{a b c:Expr}{ta tb tc:TE}{pos:Pos}
theorem binT (ha:PE X a ta)(hb:PE X b tb){pins:List (Addr × Obj)}{s:Shared}{σ:St}{H:Hp}{R:V -> V -> Hp -> Prop}(I:Inv X pins σ H s)
  (h:ta σ H fun x H1=>tb σ H1 fun y H2=>R x y H2) {Q:Value -> Shared -> Prop} {f:Value -> Value -> Sem Value}
  (hf:∀ v u s2 x y H2,Inv X pins σ H2 s2 -> RelV x v -> RelV y u -> R x y H2 -> wpAny (model X.prog X.w) X.A (f v u) Q X.xe s2) :
  wpAny (model X.prog X.w) X.A (eval a X.env) (fun v s₁=>wpAny (model X.prog X.w) X.A (eval b X.env) (fun u s₂=>wpAny (model X.prog X.w) X.A (f v u) Q X.xe s₂) X.xe s₁) X.xe s:=by
 refine thn (ha pins s σ H _ I h) fun v s1 ⟨x,H1,I1,r1,q1⟩=>?_
 refine thn (hb pins s1 σ H1 _ I1 q1) fun u s2 ⟨y,H2,I2,r2,q2⟩=>?_
 exact hf v u s2 x y H2 I2 r1 r2 q2
theorem pe_op {op:Operator}{r:R2}(ho:OpR X (binaryOp op) r)(ha:PE X a ta)(hb:PE X b tb):PE X (.BinOp a op b pos) (tOp r ta tb):=by
 intro pins s σ H Q I h
 exact wpAny_BinOp (binT ha hb I h fun v u s2 x y H2 I2 rx ry q=>ho pins s2 σ H2 x y v u Q I2 rx ry q)
theorem pe_un {op:UnaryOp}{r:V -> Hp -> VK -> Prop}(ho:UnR X (unaryOp op) r)(ha:PE X a ta):PE X (.UnaryOp op a pos) (tUn r ta):=by
 intro pins s σ H Q I h
 exact UnaryOp_ (thn (ha pins s σ H _ I h) fun v s1 ⟨x,H1,I1,r1,q1⟩=>ho pins s1 σ H1 x v Q I1 r1 q1)
theorem opI {f:Value -> Value -> Sem Value}{C:Int -> Int -> Prop}{g:Int -> Int -> Int}
  (rule:∀ (i j:Int) (t u:Tok) (s:Shared) (Q:Value -> Shared -> Prop) (E:Value -> Shared -> Prop),C i j -> Q (.int (g i j) s.toks) { s with toks:=s.toks+1 } -> wpAny (model X.prog X.w) X.A (f (.int i t) (.int j u)) Q E s) :
  OpR X f (rI C fun i j=>.int (g i j)):=by
 intro pins s σ H x y v u Q I rx ry h
 obtain ⟨i,j,rfl,rfl,hc,q⟩:=h
 obtain ⟨t,rfl⟩:=rx
 obtain ⟨t',rfl⟩:=ry
 exact rule i j t t' s _ _ hc ⟨.int (g i j),H,I.tok _,⟨_,rfl⟩,q⟩
theorem opI0 {f:Value -> Value -> Sem Value}{g:Int -> Int -> Int}
  (rule:∀ (i j:Int) (t u:Tok) (s:Shared) (Q:Value -> Shared -> Prop) (E:Value -> Shared -> Prop),Q (.int (g i j) s.toks) { s with toks:=s.toks+1 } -> wpAny (model X.prog X.w) X.A (f (.int i t) (.int j u)) Q E s) :
  OpR X f (rI0 fun i j=>.int (g i j)):=by
 intro pins s σ H x y v u Q I rx ry h
 obtain ⟨i,j,rfl,rfl,q⟩:=h
 obtain ⟨t,rfl⟩:=rx
 obtain ⟨t',rfl⟩:=ry
 exact rule i j t t' s _ _ ⟨.int (g i j),H,I.tok _,⟨_,rfl⟩,q⟩
theorem opB0 {f:Value -> Value -> Sem Value}{g:Int -> Int -> Bool}
  (rule:∀ (i j:Int) (t u:Tok) (s:Shared) (Q:Value -> Shared -> Prop) (E:Value -> Shared -> Prop),Q (.bool (g i j)) s -> wpAny (model X.prog X.w) X.A (f (.int i t) (.int j u)) Q E s) :
  OpR X f (rI0 fun i j=>.bl (g i j)):=by
 intro pins s σ H x y v u Q I rx ry h
 obtain ⟨i,j,rfl,rfl,q⟩:=h
 obtain ⟨t,rfl⟩:=rx
 obtain ⟨t',rfl⟩:=ry
 exact rule i j t t' s _ _ ⟨.bl (g i j),H,I,rfl,q⟩
theorem two_pow_nn (k:Nat):(0:Int) <= 2 ^ k:=by
 rw [two_pow_cast]
 exact Int.natCast_nonneg _
theorem op_add:OpR X (binaryOp .Add) (rI0 fun i j=>.int (i+j)):=opI0 fun _ _ _ _ _ _ _ q=>add_int q
theorem op_sub:OpR X (binaryOp .Sub) (rI0 fun i j=>.int (i - j)):=opI0 fun _ _ _ _ _ _ _ q=>sub_int q
theorem op_mod:OpR X (binaryOp .Mod) (rI (fun _ j=>0 < j) fun i j=>.int (i % j)):=opI fun i j _ _ _ _ _ hc q=>by
 have h1:(0:Int) < j:=hc
 exact mod_int' (by omega) (by rw [Int.fmod_eq_emod_of_nonneg i (by omega)]; exact q)
theorem op_shr:OpR X (binaryOp .RShift) (rI (fun _ j=>0 <= j) fun i j=>.int (i / 2 ^ j.toNat)):=opI fun i j _ _ _ _ _ hc q =>
 rshift_int hc (by rw [Int.fdiv_eq_ediv_of_nonneg i (two_pow_nn _)]; exact q)
theorem op_and:OpR X (binaryOp .BitAnd) (rI0 fun i j=>.int (Builtin.bitAnd i j)):=opI0 fun _ _ _ _ _ _ _ q=>and_int q
theorem unI {f:Value -> Sem Value}{g:Int -> Int}
  (rule:∀ (i:Int) (t:Tok) (s:Shared) (Q:Value -> Shared -> Prop) (E:Value -> Shared -> Prop),Q (.int (g i) s.toks) { s with toks:=s.toks+1 } -> wpAny (model X.prog X.w) X.A (f (.int i t)) Q E s) :
  UnR X f (rU fun i=>.int (g i)):=by
 intro pins s σ H x v Q I rx h
 obtain ⟨i,rfl,q⟩:=h
 obtain ⟨t,rfl⟩:=rx
 exact rule i t s _ _ ⟨.int (g i),H,I.tok _,⟨_,rfl⟩,q⟩
theorem un_neg:UnR X (unaryOp .USub) (rU fun i=>.int (-i)):=unI fun _ _ _ _ _ q=>neg_int q
end
def scal:V -> V -> Bool
 | .non,.non=>true | .non,.int _=>true | .int _,.non=>true | .non,.bl _=>true | .bl _,.non=>true | .non,.str _=>true | .str _,.non=>true
 | .int _,.int _=>true | .bl _,.bl _=>true | .str _,.str _=>true | .byt _,.byt _=>true
 | .int _,.str _=>true | .str _,.int _=>true | .bl _,.str _=>true | .str _,.bl _=>true
 | _,_=>false
def rEq:R2:=fun x y H Q=>scal x y=true /\ Q (.bl (decide (x=y))) H
def rNe:R2:=fun x y H Q=>scal x y=true /\ Q (.bl (!decide (x=y))) H
theorem dec_int {i j:Int}:decide (V.int i=V.int j)=(i == j):=by
 rw [Bool.eq_iff_iff]
 simp
theorem dec_bl {i j:Bool}:decide (V.bl i=V.bl j)=(i == j):=by
 rw [Bool.eq_iff_iff]
 simp
theorem dec_str {i j:Str}:decide (V.str i=V.str j)=(i == j):=by
 rw [Bool.eq_iff_iff]
 simp
theorem dec_byt {i j:Array UInt8}:decide (V.byt i=V.byt j)=(i.toList == j.toList):=by
 rw [Bool.eq_iff_iff]
 cases i
 cases j
 simp
section
variable {X:Cx}{a b c:Expr}{ta tb tc:TE}{pos:Pos}
theorem fin_bl {pins:List (Addr × Obj)}{σ:St}{H:Hp}{s:Shared}{Q:VK}{k k':Bool}(I:Inv X pins σ H s)(q:Q (.bl k) H)(e:k=k'):EP X pins σ Q (.bool k') s:=by
 subst e
 exact ⟨.bl k,H,I,rfl,q⟩
theorem op_eq:OpR X (compareOp .Eq) rEq:=by
 intro pins s σ H x y v u Q I rx ry h
 obtain ⟨hs,q⟩:=h
 cases x with
 | non =>
  cases rx
  cases y with
  | non=>cases ry; exact PySem.EqNone.eq_none_none (fin_bl I q (by simp))
  | bl j=>cases ry; exact PySem.EqNone.eq_none_bool (fin_bl I q (by simp))
  | int j=>obtain ⟨t',rfl⟩:=ry; exact PySem.EqNone.eq_none_int (fin_bl I q (by simp))
  | str j=>obtain ⟨t',rfl⟩:=ry; exact PySem.EqNone.eq_none_str (fin_bl I q (by simp))
  | _=>exact absurd (show false=true from hs) Bool.false_ne_true
 | bl i =>
  cases rx
  cases y with
  | non=>cases ry; exact PySem.EqNone.eq_bool_none (fin_bl I q (by simp))
  | bl j=>cases ry; exact eq_bool (fin_bl I q dec_bl)
  | str j=>obtain ⟨t',rfl⟩:=ry; exact PySem.EqMixed.eq_bool_str (fin_bl I q (by simp))
  | _=>exact absurd (show false=true from hs) Bool.false_ne_true
 | int i =>
  obtain ⟨t,rfl⟩:=rx
  cases y with
  | non=>cases ry; exact PySem.EqNone.eq_int_none (fin_bl I q (by simp))
  | int j=>obtain ⟨t',rfl⟩:=ry; exact eq_int (fin_bl I q dec_int)
  | str j=>obtain ⟨t',rfl⟩:=ry; exact PySem.EqMixed.eq_int_str (fin_bl I q (by simp))
  | _=>exact absurd (show false=true from hs) Bool.false_ne_true
 | str i =>
  obtain ⟨t,rfl⟩:=rx
  cases y with
  | non=>cases ry; exact PySem.EqNone.eq_str_none (fin_bl I q (by simp))
  | bl j=>cases ry; exact PySem.EqMixed.eq_str_bool (fin_bl I q (by simp))
  | int j=>obtain ⟨t',rfl⟩:=ry; exact PySem.EqMixed.eq_str_int (fin_bl I q (by simp))
  | str j=>obtain ⟨t',rfl⟩:=ry; exact eq_str (fin_bl I q dec_str)
  | _=>exact absurd (show false=true from hs) Bool.false_ne_true
 | byt i =>
  obtain ⟨t,rfl⟩:=rx
  cases y with
  | byt j=>obtain ⟨t',rfl⟩:=ry; exact PySem.W.eq_bytes (fin_bl I q dec_byt)
  | _=>exact absurd (show false=true from hs) Bool.false_ne_true
 | _=>cases y <;> exact absurd (show false=true from hs) Bool.false_ne_true
theorem op_ne:OpR X (compareOp .NotEq) rNe:=by
 intro pins s σ H x y v u Q I rx ry h
 obtain ⟨hs,q⟩:=h
 cases x with
 | non =>
  cases rx
  cases y with
  | non=>cases ry; exact PySem.EqNone.ne_none_none (fin_bl I q (by simp))
  | bl j=>cases ry; exact PySem.EqNone.ne_none_bool (fin_bl I q (by simp))
  | int j=>obtain ⟨t',rfl⟩:=ry; exact PySem.EqNone.ne_none_int (fin_bl I q (by simp))
  | str j=>obtain ⟨t',rfl⟩:=ry; exact PySem.EqNone.ne_none_str (fin_bl I q (by simp))
  | _=>exact absurd (show false=true from hs) Bool.false_ne_true
 | bl i =>
  cases rx
  cases y with
  | non=>cases ry; exact PySem.EqNone.ne_bool_none (fin_bl I q (by simp))
  | bl j=>cases ry; exact ne_bool (fin_bl I q (congrArg not dec_bl))
  | str j=>obtain ⟨t',rfl⟩:=ry; exact PySem.EqMixed.ne_bool_str (fin_bl I q (by simp))
  | _=>exact absurd (show false=true from hs) Bool.false_ne_true
 | int i =>
  obtain ⟨t,rfl⟩:=rx
  cases y with
  | non=>cases ry; exact PySem.EqNone.ne_int_none (fin_bl I q (by simp))
  | int j=>obtain ⟨t',rfl⟩:=ry; exact ne_int (fin_bl I q (congrArg not dec_int))
  | str j=>obtain ⟨t',rfl⟩:=ry; exact PySem.EqMixed.ne_int_str (fin_bl I q (by simp))
  | _=>exact absurd (show false=true from hs) Bool.false_ne_true
 | str i =>
  obtain ⟨t,rfl⟩:=rx
  cases y with
  | non=>cases ry; exact PySem.EqNone.ne_str_none (fin_bl I q (by simp))
  | bl j=>cases ry; exact PySem.EqMixed.ne_str_bool (fin_bl I q (by simp))
  | int j=>obtain ⟨t',rfl⟩:=ry; exact PySem.EqMixed.ne_str_int (fin_bl I q (by simp))
  | str j=>obtain ⟨t',rfl⟩:=ry; exact ne_str (fin_bl I q (congrArg not dec_str))
  | _=>exact absurd (show false=true from hs) Bool.false_ne_true
 | byt i =>
  obtain ⟨t,rfl⟩:=rx
  cases y with
  | byt j=>obtain ⟨t',rfl⟩:=ry; exact PySem.W.ne_bytes (fin_bl I q (congrArg not dec_byt))
  | _=>exact absurd (show false=true from hs) Bool.false_ne_true
 | _=>cases y <;> exact absurd (show false=true from hs) Bool.false_ne_true
theorem op_lt:OpR X (compareOp .Lt) (rI0 fun i j=>.bl (decide (i < j))):=opB0 fun _ _ _ _ _ _ _ q=>lt_int q
theorem op_le:OpR X (compareOp .LtE) (rI0 fun i j=>.bl (decide (i <= j))):=opB0 fun _ _ _ _ _ _ _ q=>le_int q
theorem op_gt:OpR X (compareOp .Gt) (rI0 fun i j=>.bl (decide (j < i))):=opB0 fun _ _ _ _ _ _ _ q=>gt_int q
theorem op_ge:OpR X (compareOp .GtE) (rI0 fun i j=>.bl (decide (j <= i))):=opB0 fun _ _ _ _ _ _ _ q=>ge_int q
theorem nomark (b:Expr){op:CmpOp}(h:op ≠ .In:=by decide)(h2:op ≠ .NotIn:=by decide):behindInMarks op b=false:=by
 have e1:(op == CmpOp.In)=false:=by cases op <;> first | rfl | exact absurd rfl h
 have e2:(op == CmpOp.NotIn)=false:=by cases op <;> first | rfl | exact absurd rfl h2
 cases b <;> simp [behindInMarks,e1,e2]
theorem pe_cmpR {op:CmpOp}{r:R2}(ho:OpR X (compareOp op) r)(ha:PE X a ta)(hb:PE X b tb)(hm:behindInMarks op b=false):PE X (.Compare a [op] [b] pos) (tOp r ta tb):=by
 intro pins s σ H Q I h
 exact wpAny_Compare1 (binT ha hb I h fun v u s2 x y H2 I2 rx ry q=>ho pins s2 σ H2 x y v u Q I2 rx ry q) hm
def tTest (t:TE):TT:=fun σ H Q=>t σ H fun x H'=>∃ k,x = .bl k /\ Q k H'
theorem pt_cmpR {op:CmpOp}{r:R2}(ho:OpR X (compareOp op) r)(ha:PE X a ta)(hb:PE X b tb)(hm:behindInMarks op b=false):PT X (.Compare a [op] [b] pos) (tTest (tOp r ta tb)):=by
 intro pins s σ H Q I h
 refine wpAny_isTrue_Compare1 (thn (ha pins s σ H _ I h) fun v s1 ⟨x,H1,I1,r1,q1⟩=>thn (hb pins s1 σ H1 _ I1 q1) fun u s2 ⟨y,H2,I2,r2,q2⟩ =>
  thn (ho pins s2 σ H2 x y v u _ I2 r1 r2 q2) fun c s3 ⟨z,H3,I3,r3,k,e,q3⟩=>?_) hm
 subst e
 cases r3
 exact wpAny_truthy_bool ⟨H3,I3,q3⟩
def tChain (r r':R2)(ta tb tc:TE):TE:=fun σ H Q=>ta σ H fun x H1=>tb σ H1 fun y H2=>r x y H2 fun z H3=>∃ k,z = .bl k /\
 (if k=true then tc σ H3 fun w' H4=>r' y w' H4 Q else Q (.bl false) H3)
theorem line63:(sizeLine:Nat) < 2 ^ 63:=by rw [sizeLine_eq]; decide
theorem vals1 {x:V}{us:List Value}(r:Vals [x] us):∃ u,us=[u] /\ RelV x u:=by
 cases r with
 | cons r1 r2=>cases r2; exact ⟨_,rfl,r1⟩
theorem vals2 {x y:V}{us:List Value}(r:Vals [x,y] us):∃ u w',us=[u,w'] /\ RelV x u /\ RelV y w':=by
 cases r with
 | cons r1 r2 =>
  cases r2 with
  | cons r3 r4=>cases r4; exact ⟨_,_,rfl,r1,r3⟩
theorem call_abs:CallR X (.builtin "abs") (fun xs H Q=>∃ i,xs=[.int i] /\ Q (.int (if i < 0 then -i else i)) H):=by
 intro pins s σ H xs us Q I r h
 obtain ⟨i,rfl,q⟩:=h
 obtain ⟨u,rfl,t,rfl⟩:=vals1 r
 exact call_abs_int fun u tk=>⟨.int (if i < 0 then -i else i),H,I.tok _,⟨_,rfl⟩,q⟩
theorem call_max2 (hc:X.calm=true):CallR X (.builtin "max") (fun xs H Q=>∃ i j,xs=[.int i,.int j] /\ Q (.int (if j > i then j else i)) H):=by
 intro pins s σ H xs us Q I r h
 obtain ⟨i,j,rfl,q⟩:=h
 obtain ⟨u,w',rfl,⟨t,rfl⟩,⟨t',rfl⟩⟩:=vals2 r
 refine max_two_ints (I.ok.hd hc) fun h' tk k=>⟨_,H,I.kept k,?_,q⟩
 by_cases hj:j > i
 ·rw [if_pos hj,if_pos hj]; exact ⟨_,rfl⟩
 ·rw [if_neg hj,if_neg hj]; exact ⟨_,rfl⟩
theorem call_min2 (hc:X.calm=true):CallR X (.builtin "min") (fun xs H Q=>∃ i j,xs=[.int i,.int j] /\ Q (.int (if j < i then j else i)) H):=by
 intro pins s σ H xs us Q I r h
 obtain ⟨i,j,rfl,q⟩:=h
 obtain ⟨u,w',rfl,⟨t,rfl⟩,⟨t',rfl⟩⟩:=vals2 r
 refine min_two_ints (I.ok.hd hc) fun h' tk k=>⟨_,H,I.kept k,?_,q⟩
 by_cases hj:j < i
 ·rw [if_pos hj,if_pos hj]; exact ⟨_,rfl⟩
 ·rw [if_neg hj,if_neg hj]; exact ⟨_,rfl⟩
theorem call_int1:CallR X (.type "int") (fun xs H Q=>(∃ i,xs=[.int i] /\ Q (.int i) H) \/ ∃ k,xs=[.bl k] /\ Q (.int (if k then 1 else 0)) H):=by
 intro pins s σ H xs us Q I r h
 rcases h with ⟨i,rfl,q⟩ | ⟨k,rfl,q⟩
 ·obtain ⟨u,rfl,t,rfl⟩:=vals1 r
  exact call_int_int ⟨.int i,H,I,⟨_,rfl⟩,q⟩
 ·obtain ⟨u,rfl,r1⟩:=vals1 r
  cases r1
  exact call_int_bool ⟨.int (if k then 1 else 0),H,I.tok _,⟨_,rfl⟩,q⟩
end
end L2
namespace L2
open PySem PySem.Spec PyProof.Rows
section
variable {prog:Program}{w:World}{A:Around}{E:Value -> Shared -> Prop}{s:Shared}{K:PySem.W.Frag}{x dx C f:Addr}{mA:Str -> Option Value}{name:Str}{v:Value}
end
section
variable {P:Program}{w:World}{H H':Hp}{h h':Heap}{a C dx:Addr}{fs fs':List (Str × V)}
end
structure Cls (K:PySem.W.Frag) (C:Addr):Prop where
 pg:PySem.W.plainGet K C Str.empty=true
 hd:PySem.W.hasDictIn K C=true
 po:PySem.W.plainOver K C=true
 sa:PySem.W.findIn K (.ref C) "__setattr__" = some (some (.builtin "object.__setattr__"))
section
variable {X:Cx}{pins:List (Addr × Obj)}{σ:St}{H:Hp}{s:Shared}{a C dx:Addr}{fs:List (Str × V)}{f:Str}{v:V}{A:Around}{E:Value -> Shared -> Prop}
end
section
variable {X:Cx}{o e value:Expr}{f:Str}{pos pos' tpos:Pos}{ta tv:TE}
end
section
variable {X:Cx}{pins:List (Addr × Obj)}{σ:St}{H:Hp}{s:Shared}{A:Around}{E:Value -> Shared -> Prop}{Q:Value -> Shared -> Prop}{c:Value}{b:Bool}
inductive TyOf (K:PySem.W.Frag) (H:Hp):V -> Value -> Prop where
 | non:TyOf K H .non (.type "NoneType")
 | bl (x:Bool):TyOf K H (.bl x) (.type "bool")
 | int (i:Int):TyOf K H (.int i) (.type "int")
 | str (x:Str):TyOf K H (.str x) (.type "str")
 | flt (x:UInt64):TyOf K H (.flt x) (.type "float")
 | lst {a:Addr} {xs:List V} (e:H a=some (.lst xs)):TyOf K H (.ref a) (.type "list")
 | frz {a:Addr} {o:Obj} {xs:List V} (e:H a=some (.frz o (.lst xs))):TyOf K H (.ref a) (.type "list")
 | tup {a:Addr} {xs:List V} (e:H a=some (.tup xs)):TyOf K H (.ref a) (.type "tuple")
 | dK {a:Addr} {kvs:List (Key × V)} (e:H a=some (.dK kvs)):TyOf K H (.ref a) (.type "dict")
 | dT {a:Addr} {kvs:List (List Key × V)} (e:H a=some (.dT kvs)):TyOf K H (.ref a) (.type "dict")
 | ins {a C dx:Addr} {fs:List (Str × V)} (e:H a=some (.ins C dx fs)) (cl:Cls K C) (ha:PySem.W.findIn K (.ref C) "__class__" = some (some (.builtin "object.__class__")))
   (hn:PySem.W.specialIn K (.builtin "object.__class__") "__get__" = some (some (.builtin "getset_descriptor.__get__"))) (htk:PySem.W.takesIn K (.builtin "object.__class__")=some true)
   (hm:PySem.W.mroIn K C (.type "object")=some true):TyOf K H (.ref a) (.ref C)
end
end L2
namespace L2
open PySem PySem.Spec PyProof.Rows
structure Room (k:Nat) (A:Around):Prop where
 hd:A.handled=none
 dp:A.depth+3 * k+5 < recursionLimit
 un:A.units+16 * k+200 < cLine
theorem Room.mono {j k:Nat}{A:Around}(r:Room k A)(h:j <= k):Room j A:=⟨r.hd,by have:=r.dp; omega,by have:=r.un; omega⟩
theorem Room.deeper {k:Nat}{A:Around}(r:Room (k+1) A)(env:Env):Room k (A.deeper env) :=
 ⟨r.hd,by have:=r.dp; show A.depth+1+3 * k+5 < _; omega,by have:=r.un; show A.units+3+16 * k+200 < _; omega⟩
theorem Room.depth {k:Nat}{A:Around}(r:Room k A):A.depth < recursionLimit:=by have:=r.dp; omega
theorem Room.units {k:Nat}{A:Around}(r:Room k A):A.units+64 < cLine:=by have:=r.un; omega
def tNil:TA:=fun _ H Q=>Q [] H
def tCons (ta:TE)(tr:TA):TA:=fun σ H Q=>ta σ H fun x H1=>tr σ H1 fun xs H2=>Q (x :: xs) H2
section
variable {X:Cx}{e:Expr}{es:List Expr}{te:TE}{t:TA}{pos:Pos}
theorem pa_nil:PA X [] tNil:=fun _ _ _ _ H Q I h=>Calls.spliced_nil ⟨[],H,I,.nil,h⟩
theorem pa_cons (ha:PE X e te)(hr:PA X es t)(hs:starEach (e :: es) X.env=(false,eval e X.env) :: starEach es X.env:=by rfl):PA X (e :: es) (tCons te t):=by
 intro pos pins s σ H Q I h
 rw [hs]
 show wpAny _ _ (spliced ((false,eval e X.env) :: backTo pos (starEach es X.env))) _ _ s
 refine Calls.spliced_cons (thn (ha pins s σ H _ I h) fun u s1 ⟨x,H1,I1,r1,q1⟩=>?_)
 exact thn (hr pos pins s1 σ H1 _ I1 q1) fun us s2 ⟨xs,H2,I2,r2,q2⟩=>⟨x :: xs,H2,I2,.cons r1 r2,q2⟩
def tTup (t:TA):TE:=fun σ H Q=>t σ H fun xs H1=>xs.length <= sizeLine /\ ∀ p,H1 p=none -> Q (.ref p) (upd H1 p (.tup xs))
def tLst (t:TA):TE:=fun σ H Q=>t σ H fun xs H1=>xs.length <= sizeLine /\ ∀ p,H1 p=none -> Q (.ref p) (upd H1 p (.lst xs))
theorem pe_tup {x1}(h:PA X es t):PE X (.Tuple es x1 pos) (tTup t):=by
 intro pins s σ H Q I hq
 refine wpAny_Tuple_spliced (thn (h pos pins s σ H _ I hq) fun us s1 ⟨xs,H1,I1,r,z,q⟩=>⟨by rw [← r.length]; exact z,?_⟩)
 have hf:H1 s1.heap.objs.size=none:=I1.hok.fresh (Nat.le_refl _)
 refine ⟨.ref s1.heap.objs.size,upd H1 s1.heap.objs.size (.tup xs),I1.laid (t':=s1.toks) (fun b u e=>Heap.get?_push_of_some _ e) (Nat.le_refl _) ?_,rfl,q _ hf⟩
 exact ⟨z,us,r,⟨_,Heap.get?_push_size _ rfl,rfl,_,rfl⟩⟩
theorem pe_lst (h:PA X es t):PE X (.List es pos) (tLst t):=by
 intro pins s σ H Q I hq
 refine wpAny_List_spliced (thn (h pos pins s σ H _ I hq) fun us s1 ⟨xs,H1,I1,r,z,q⟩=>⟨by rw [← r.length]; exact z,?_⟩)
 have hf:H1 s1.heap.objs.size=none:=I1.hok.fresh (Nat.le_refl _)
 refine ⟨.ref s1.heap.objs.size,upd H1 s1.heap.objs.size (.lst xs),I1.laid (t':=s1.toks) (fun b u e=>Heap.get?_push_of_some _ e) (Nat.le_refl _) ?_,rfl,q _ hf⟩
 exact ⟨z,us,0,r,Heap.get?_push_size _ rfl⟩
end
abbrev Sp:=List V -> Hp -> VK -> XK -> Prop
abbrev CXT:=List Env -> Hp -> Shared -> XK -> Value -> Shared -> Prop
structure Env0 (P:Program) (w:World) (K:PySem.W.Frag) (mg:Str -> Option Value) (base:Heap) (A:Around) (outer:List Env) (s:Shared) (H:Hp):Prop where
 frames:A.frames=some outer
 mod:Mod K mg base
 bs:∀ b o,base.get? b=some o -> s.heap.get? b=some o /\ H b=none
 bsz:base.objs.size <= s.heap.objs.size
 funs:s.heap.FunFrames base outer
 frf:∀ b ∈ frs outer,H b=none
 hok:HOk P w H s.heap
 bare:AllBare s.gens
def CE (outer:List Env)(P:Program)(w:World)(H:Hp)(s:Shared)(Q:VK)(u:Value)(s':Shared):Prop :=
 ∃ v H',s'.os=s.os /\ AllBare s'.gens /\ Un (frs outer) [] H H' s.heap s'.heap /\ HOk P w H' s'.heap /\ RelV v u /\ Q v H'
def CR (CX:CXT)(outer:List Env)(P:Program)(w:World)(H:Hp)(s:Shared)(Q:VK)(E:XK)(r:Result)(s':Shared):Prop :=
 match r with
 | .ok (.ret u)=>CE outer P w H s Q u s'
 | .ok _=>False
 | .error e=>CX outer H s E e s'
structure FnOk (P:Program) (w:World) (K:PySem.W.Frag) (mg:Str -> Option Value) (base:Heap) (CX:CXT) (k:Nat) (f:Addr) (fd:FuncData) (ps:List Str) (sp:Sp):Prop where
 len:∀ vs H Q E,sp vs H Q E -> vs.length=ps.length
 run:∀ (A:Around) (outer:List Env) (s:Shared) (H:Hp) (args:Args) (us:List Value) (vs:List V) (Q:VK) (E:XK),Room k A -> Env0 P w K mg base A outer s H -> BindsTo s fd args (ps.zip us) -> Vals vs us -> sp vs H Q E ->
  codeAny (model P w) A (.call (.ref f) args) (CR CX outer P w H s Q E) s
theorem FnOk.mono {P:Program}{w:World}{K:PySem.W.Frag}{mg:Str -> Option Value}{base:Heap}{CX:CXT}{j k:Nat}{f:Addr}{fd:FuncData}{ps:List Str}{sp:Sp}(F:FnOk P w K mg base CX j f fd ps sp)(h:j <= k) :
  FnOk P w K mg base CX k f fd ps sp:=⟨F.len,fun A outer s H args us vs Q E hr=>F.run A outer s H args us vs Q E (hr.mono h)⟩
theorem FnOk.imp {P:Program}{w:World}{K:PySem.W.Frag}{mg:Str -> Option Value}{base:Heap}{CX:CXT}{k:Nat}{f:Addr}{fd:FuncData}{ps:List Str}{sp sp':Sp}(F:FnOk P w K mg base CX k f fd ps sp)
  (h:∀ vs H Q E,sp' vs H Q E -> sp vs H Q E):FnOk P w K mg base CX k f fd ps sp' :=
 ⟨fun vs H Q E q=>F.len vs H Q E (h _ _ _ _ q),fun A outer s H args us vs Q E hr he hb hv hs=>F.run A outer s H args us vs Q E hr he hb hv (h _ _ _ _ hs)⟩
section
variable {X:Cx}{pins:List (Addr × Obj)}{σ:St}{H:Hp}{s s':Shared}
theorem Inv.env0 (I:Inv X pins σ H s):Env0 X.prog X.w X.K X.mg X.base X.A X.stack s H :=
 ⟨I.ok.frames,I.ok.mod,I.bs,Nat.le_trans I.ok.bsz I.sz,I.stack,I.stkFree,I.hok,I.bare⟩
theorem Inv.after {Q:VK}{u:Value}(I:Inv X pins σ H s)(h:CE X.stack X.prog X.w H s Q u s'):EP X pins σ Q u s':=by
 obtain ⟨v,H',os,bare,un,hok,r,q⟩:=h
 obtain ⟨hh,g,d,t,os'⟩:=s'
 obtain rfl:os'=s.os:=os
 exact ⟨v,H',I.call (h':=hh) (g':=g) (d':=d) (t':=t) (ch:=[]) un hok bare (fun b z=>absurd z (by simp)),r,q⟩
end
def tCall (sp:Sp)(dvs:List V)(E:XK)(t:TA):TE:=fun σ H Q=>t σ H fun vs H1=>sp (vs ++ dvs) H1 Q E
def Binds (K:PySem.W.Frag)(fd:FuncData)(ps:List Str)(ds:List Value):Prop :=
 ∀ (s:Shared) (us:List Value),K.In s.heap -> (us ++ ds).length=ps.length -> BindsTo s fd ⟨us,[]⟩ (ps.zip (us ++ ds))
theorem Binds.all {K:PySem.W.Frag}{fd:FuncData}{ps:List Str}(h:∀ us:List Value,us.length=ps.length -> bindArgs fd ⟨us,[]⟩=pure (ps.zip us)):Binds K fd ps []:=fun s us _ hl=>by
 rw [List.append_nil] at hl ⊢
 exact .of_eq (h us hl)
def Passes (CX:CXT)(X:Cx)(E:XK):Prop:=∀ (pins:List (Addr × Obj)) (σ:St) (H:Hp) (s:Shared) (e:Value) (s':Shared),Inv X pins σ H s -> CX X.stack H s E e s' -> X.xe e s'
section
variable {X:Cx}{CX:CXT}{k:Nat}{f C:Addr}{fd:FuncData}{ps:List Str}{sp:Sp}{dvs:List V}{ds:List Value}{E:XK}{x m:Str}{p pos apos:Pos}{e o:Expr}{es:List Expr}{ta:TE}{t:TA}
theorem run_fn {pins:List (Addr × Obj)}{σ:St}{H:Hp}{s:Shared}{Q:VK}{us:List Value}{vs:List V}(F:FnOk X.prog X.w X.K X.mg X.base CX k f fd ps sp)(hr:Room k X.A)(hb:Binds X.K fd ps ds)(hd:Vals dvs ds)(hx:Passes CX X E)
  (I:Inv X pins σ H s) (r:Vals vs us) (h:sp (vs ++ dvs) H Q E):wpAny (model X.prog X.w) X.A (call (.ref f) us) (EP X pins σ Q) X.xe s:=by
 have r2:Vals (vs ++ dvs) (us ++ ds):=r.append hd
 have hl:(us ++ ds).length=ps.length:=by rw [← r2.length]; exact F.len _ _ _ _ h
 refine wpAny_call (codeAny_mono (F.run X.A X.stack s H ⟨us,[]⟩ (us ++ ds) (vs ++ dvs) Q E hr I.env0 (hb s us I.kIn hl) r2 h) fun r s' hq=>?_)
 cases r with
 | error e=>exact hx pins σ H s e s' I hq
 | ok fl =>
  cases fl with
  | ret u=>exact I.after hq
  | next=>exact False.elim hq
  | brk=>exact False.elim hq
  | cont=>exact False.elim hq
theorem pe_call (F:FnOk X.prog X.w X.K X.mg X.base CX k f fd ps sp)(hr:Room k X.A)(hg:Gl X x)(hm:X.mg x=some (.ref f))(hk:PySem.W.keepIn X.K (.ref f)=true)(hb:Binds X.K fd ps ds)(hd:Vals dvs ds)(hx:Passes CX X E)
  (ha:PA X (e :: es) t) (hdb:(x == ("__debug__" : Str))=false:=by decide) (he:starEach (e :: es) X.env=(false,eval e X.env) :: starEach es X.env:=by rfl) (hpl:(backTo pos (starEach es X.env)).any (·.1)=false:=by rfl) :
  PE X (.Call (.Name x p) (e :: es) [] pos) (tCall sp dvs E t):=by
 intro pins s σ H Q I h
 refine wpAny_Call_Name_kw (ld_glob I hg hm ?_ hdb)
 refine PySem.W.callWith_K (h₀:=X.base) I.ok.mod.kin hk (thn (ha pos pins s σ H _ I h) fun us s1 ⟨vs,H1,I1,r,q⟩=>⟨I1.kIn,?_⟩) he hpl
 exact run_fn F hr hb hd hx I1 r q
end
section
variable {X:Cx}{CX:CXT}{k:Nat}{f C:Addr}{fd:FuncData}{ps ks:List Str}{sp:Sp}{E:XK}{x m:Str}{p pos apos kpos:Pos}{e o:Expr}{es:List Expr}{kws:List Keyword}{te ta:TE}{t tk:TA}{nm:Option Str}
variable {g:List Value -> List Value -> List Value}{gV:List V -> List V -> List V}
end
structure FnScope (N P:List Str) (sc:Scope):Prop where
 kind:sc.kind = .function
 co:sc.isCoroutine=false
 gen:sc.isGenerator=false
 nd:N.Nodup
 pre:N.take P.length=P
 par:∀ x ∈ P,sc.names.lookup x=some .local \/ sc.names.lookup x=some .cell
 nofree:∀ y ∈ sc.names,y.2 ≠ .free
theorem bindL_out {kindOf:Str -> Option NameKind}{x:Str}:∀ {binds:List (Str × Value)} {m:Str -> Option Value},(∀ v,(x,v) ∉ binds) -> bindL kindOf binds m x=m x
 | [],_,_=>rfl
 | (n,v) :: r,m,h=>by
  unfold bindL
  rw [bindL_out fun w hw=>h w (List.mem_cons_of_mem _ hw)]
  split
  ·have:x ≠ n:=by rintro rfl; exact h v List.mem_cons_self
   simp [this]
  ·rfl
theorem bindC_out {kindOf:Str -> Option NameKind}{x:Str}:∀ {binds:List (Str × Value)} {m:Str -> Option Value},(∀ v,(x,v) ∉ binds) -> bindC kindOf binds m x=m x
 | [],_,_=>rfl
 | (n,v) :: r,m,h=>by
  unfold bindC
  rw [bindC_out fun w hw=>h w (List.mem_cons_of_mem _ hw)]
  split
  ·rfl
  ·have:x ≠ n:=by rintro rfl; exact h v List.mem_cons_self
   simp [this]
theorem bindL_get {kindOf:Str -> Option NameKind}{x:Str}{v:Value}:∀ {P:List Str} {vs:List Value} {i:Nat} {m:Str -> Option Value},P.Nodup -> P[i]? = some x -> vs[i]? = some v -> kindOf x=some .local ->
  bindL kindOf (P.zip vs) m x=some v
 | [],_,_,_,_,h,_,_=>by simp at h
 | _ :: _,[],_,_,_,_,h,_=>by simp at h
 | p :: P,w :: vs,0,m,nd,h1,h2,hk=>by
  simp at h1 h2; subst h1; subst h2
  show bindL kindOf ((p,w) :: P.zip vs) m p=_
  unfold bindL
  rw [bindL_out fun v hv=>(List.nodup_cons.mp nd).1 (List.of_mem_zip hv).1,if_pos hk]
  simp
 | p :: P,w :: vs,i+1,m,nd,h1,h2,hk=>by
  show bindL kindOf ((p,w) :: P.zip vs) m x=_
  unfold bindL
  exact bindL_get (i:=i) (List.nodup_cons.mp nd).2 (by simpa using h1) (by simpa using h2) hk
theorem bindC_get {kindOf:Str -> Option NameKind}{x:Str}{v:Value}:∀ {P:List Str} {vs:List Value} {i:Nat} {m:Str -> Option Value},P.Nodup -> P[i]? = some x -> vs[i]? = some v -> kindOf x ≠ some .local ->
  bindC kindOf (P.zip vs) m x=some v
 | [],_,_,_,_,h,_,_=>by simp at h
 | _ :: _,[],_,_,_,_,h,_=>by simp at h
 | p :: P,w :: vs,0,m,nd,h1,h2,hk=>by
  simp at h1 h2; subst h1; subst h2
  show bindC kindOf ((p,w) :: P.zip vs) m p=_
  unfold bindC
  rw [bindC_out fun v hv=>(List.nodup_cons.mp nd).1 (List.of_mem_zip hv).1,if_neg hk]
  simp
 | p :: P,w :: vs,i+1,m,nd,h1,h2,hk=>by
  show bindC kindOf ((p,w) :: P.zip vs) m x=_
  unfold bindC
  exact bindC_get (i:=i) (List.nodup_cons.mp nd).2 (by simpa using h1) (by simpa using h2) hk
def start (N:List Str)(vs:List V):St:=vs.map some ++ qQ (N.length - vs.length) none
def cxOf (CX:CXT)(P:Program)(w:World)(K:PySem.W.Frag)(mg:Str -> Option Value)(base:Heap)(N:List Str)(qual:Str)(scope:Scope)(f:Addr)(cd:Value)(A:Around)(outer:List Env)(s:Shared)(H:Hp)(E:XK):Cx where
 prog:=P
 w:=w
 K:=K
 mg:=mg
 base:=base
 A:=A.deeper (envOfC qual scope s.heap.objs.size f cd)
 N:=N
 s₀:=s
 H₀:=H
 env:=envOfC qual scope s.heap.objs.size f cd
 outer:=outer
 stack:=envOfC qual scope s.heap.objs.size f cd :: outer
 ex:=[]
 calm:=true
 fn:=fun _=>true
 pn:=[]
 xe:=fun e s'=>wpAny (model P w) (A.deeper (envOfC qual scope s.heap.objs.size f cd)) (leaving (envOfC qual scope s.heap.objs.size f cd) e) (fun _ s''=>CX outer H s E e s'') (fun e' s''=>CX outer H s E e' s'') s'
theorem cell_has {sc:Scope}{n:Nat}{x:Str}(h:sc.names.lookup x=some .cell):∃ c,(cellsFrom n sc.names []).lookup x=some c:=by
 have q:=PySem.W.cellsFrom_some sc.names n [] (.inl h)
 exact Option.isSome_iff_exists.mp q
theorem inv_start {CX:CXT}{P:Program}{w:World}{K:PySem.W.Frag}{mg:Str -> Option Value}{base:Heap}{N ps:List Str}{qual:Str}{scope:Scope}{f:Addr}{cd:Value}{A:Around}{outer:List Env}{s s1:Shared}{H:Hp}{E:XK}{us:List Value}{vs:List V}
  (S:FnScope N ps scope) (hd:A.handled=none) (e0:Env0 P w K mg base A outer s H) (hl:vs.length=ps.length) (r:Vals vs us)
  (x:InCallC s s.heap.objs.size (bindL (envOfC qual scope s.heap.objs.size f cd).kindOf (ps.zip us) fun _=>none) (cellsFrom (s.heap.objs.size+1) scope.names []) (bindC (envOfC qual scope s.heap.objs.size f cd).kindOf (ps.zip us) fun _=>none) s1) :
  Inv (cxOf CX P w K mg base N qual scope f cd A outer s H E) [] (start N vs) H s1:=by
 have hpl:ps.length <= N.length:=by have:=congrArg List.length S.pre; rw [qO] at this; omega
 obtain ⟨h1,tk,rfl,hk⟩:=x.done
 have noA:∀ b:Addr,b ∉ (cxOf CX P w K mg base N qual scope f cd A outer s H E).ex:=fun b z=>absurd (show b ∈ ([]:List Addr) from z) (by simp)
 refine ⟨⟨e0.mod,S.kind,rfl,rfl,Nat.le_refl _,fun y z c h1 h2=>?_,fun y hy=>?_,fun y c _ h=>?_,fun _=>hd,Around.frames_deeper e0.frames,.inr ⟨rfl,rfl⟩,fun b z=>absurd z (noA b),e0.bs,e0.bsz,fun b _ _=>noA b,fun b z=>absurd z (noA b),e0.funs,e0.frf⟩,
  rfl,e0.bare,Un.kept hk,⟨_,x.toInCall.ns,fun i y v h1 h2 h3=>?_⟩,fun y c h=>⟨_,x.cell y c h⟩,e0.hok.fresh (Nat.le_refl _),fun y c h=>?_,fun p hp=>absurd (show p ∈ ([]:List (Addr × Obj)) from hp) (by simp),e0.hok.kept hk,?_⟩
 ·exact name_of_addr x.apart (PySem.mem_of_lookup h1) (PySem.mem_of_lookup h2)
 ·have hy:scope.names.lookup y=some .cell \/ scope.names.lookup y=some .free:=hy
  rcases hy with hy | hy
  ·exact cell_has hy
  ·exact absurd rfl (S.nofree _ (PySem.mem_of_lookup hy))
 ·exact Nat.le_of_lt (x.above y c (PySem.mem_of_lookup h))
 ·have hi:i < vs.length:=by
   unfold start at h2
   by_cases hi:i < vs.length
   ·exact hi
   ·rw [qG (by simpa using hi)] at h2
    rw [List.getElem?_replicate] at h2
    split at h2 <;> cases h2
  have ha:vs[i]? = some v:=by
   unfold start at h2
   rw [qH (by simpa using hi),qI] at h2
   cases e:vs[i]? with
   | none=>rw [e] at h2; cases h2
   | some a=>rw [e] at h2; cases h2; rfl
  obtain ⟨u,hu,rv⟩:=r.get ha
  have hp:ps[i]? = some y:=by
   rw [← S.pre,List.getElem?_take_of_lt (by omega)]; exact h1
  have ndP:ps.Nodup:=by rw [← S.pre]; exact S.nd.sublist (List.take_sublist _ _)
  refine ⟨u,rv,?_⟩
  rcases S.par y (qE hp) with k | k
  ·exact .inl ⟨k,bindL_get ndP hp hu k⟩
  ·obtain ⟨c,e⟩:=cell_has (n:=s.heap.objs.size+1) k
   refine .inr ⟨.inl k,c,e,?_⟩
   have q:=x.cell y c e
   rw [bindC_get ndP hp hu (by show scope.names.lookup y ≠ _; rw [k]; decide)] at q
   exact q
 ·exact e0.hok.fresh (Nat.le_of_lt (x.above y c (PySem.mem_of_lookup h)))
 ·unfold start
  show _=N.length
  rw [qF,qC,qL]
  omega
theorem fn_of {CX:CXT}{P:Program}{w:World}{K:PySem.W.Frag}{mg:Str -> Option Value}{base:Heap}{k:Nat}{f:Addr}{name qual:Str}{params:Arguments}{body:List Stmt}{scope:Scope}{dV kV doc pm cdv ct oc:Value}{an od:Option Addr}
  {osl:Array (Option Value)} {N ps:List Str} {sp:Sp} (lk:K.lookup f=some ⟨oc,od,.func (PySem.W.fnOf name qual params body scope dV kV doc pm an cdv ct),osl⟩) (hcd:PySem.W.codeIn K cdv qual=true) (S:FnScope N ps scope)
  (len:∀ vs H Q E,sp vs H Q E -> vs.length=ps.length)
  (hbody:∀ (A:Around) (outer:List Env) (s:Shared) (H:Hp) (vs:List V) (Q:VK) (E:XK),Room k (A.deeper (envOfC qual scope s.heap.objs.size f cdv)) -> sp vs H Q E ->
   ∃ t,PSs (cxOf CX P w K mg base N qual scope f cdv A outer s H E) body t /\ t { nx:=fun _ H'=>Q .non H',rt:=Q } (start N vs) H) :
  FnOk P w K mg base CX (k+1) f (PySem.W.fnOf name qual params body scope dV kV doc pm an cdv ct) ps sp:=by
 refine ⟨len,fun A outer s H args us vs Q E hr e0 hb r hsp=>?_⟩
 have hl:=len _ _ _ _ hsp
 have KX:K.In s.heap:=e0.mod.kin.keeps fun b o e=>(e0.bs b o e).1
 have lim:s.heap.NoLimit:=e0.mod.nolimit.keeps fun b o e=>(e0.bs b o e).1
 have hkind:∀ y ∈ ps.zip us,scope.names.lookup y.1=some .local \/ (scope.names.lookup y.1=some .cell /\ ((cellsFrom (s.heap.objs.size+1) scope.names []).lookup y.1).isSome=true):=fun ⟨n,v⟩ hy=>by
  rcases S.par n (List.of_mem_zip hy).1 with q | q
  ·exact .inl q
  ·exact .inr ⟨q,PySem.W.cellsFrom_some _ _ _ (.inl q)⟩
 refine codeAny_call_function hr.depth (KX _ _ lk) rfl S.co S.gen rfl (PySem.W.codeRec_of KX hcd) (hb _ _ _ _ ?_)
 refine wpAny_newFunctionEnv_cells S.kind hkind fun env he s1 x=>?_
 subst he
 refine ⟨lim.keeps x.toInCall.keep,codeAny_func ?_⟩
 obtain ⟨t,ht,hq⟩:=hbody A outer s H vs Q E (hr.deeper _) hsp
 have I:Inv (cxOf CX P w K mg base N qual scope f cdv A outer s H E) [] (start N vs) H s1:=inv_start S hr.hd e0 hl r x
 refine wpAny_mono (ht [] s1 (start N vs) H _ I hq) (fun fl s' hs=>?_) fun e s' hs=>hs
 have fin:∀ {σ':St} {H':Hp} {v:V} {u:Value},Inv (cxOf CX P w K mg base N qual scope f cdv A outer s H E) [] σ' H' s' -> RelV v u -> Q v H' -> CE outer P w H s Q u s' :=
  fun {σ' H' v u} J rv q=>⟨v,H',J.os,J.bare,J.base,J.hok,rv,q⟩
 cases fl with
 | ret u =>
  obtain ⟨v,σ',H',J,rv,q⟩:=hs
  exact fin J rv q
 | next =>
  obtain ⟨σ',H',J,q⟩:=hs
  exact fin (v:=V.non) (u:=Value.none) J rfl q
 | brk =>
  obtain ⟨_,_,_,q⟩:=hs
  exact False.elim q
 | cont =>
  obtain ⟨_,_,_,q⟩:=hs
  exact False.elim q
end L2
namespace L2
open PySem PySem.Spec PyProof.Rows
section
variable {X:Cx}{x:Str}{p pos:Pos}{e:Expr}{es:List Expr}{t:TA}{id T:String}{r:List V -> Hp -> VK -> Prop}
def tCB (r:List V -> Hp -> VK -> Prop)(t:TA):TE:=fun σ H Q=>t σ H fun vs H1=>r vs H1 Q
theorem pe_callB (hc:CallR X (.builtin id) r) (hg:Gl X x) (hm:X.mg x=none) (hv:bootBuiltins x=some (.builtin id)) (ha:PA X (e :: es) t) (hn:x ≠ "__name__":=by decide) (hdb:(x == ("__debug__" : Str))=false:=by decide)
  (he:starEach (e :: es) X.env=(false,eval e X.env) :: starEach es X.env:=by rfl) (hpl:(backTo pos (starEach es X.env)).any (·.1)=false:=by rfl):PE X (.Call (.Name x p) (e :: es) [] pos) (tCB r t):=by
 intro pins s σ H Q I h
 refine wpAny_Call_Name_kw (ld_blt I hg hm hv ?_ hn hdb)
 exact PyProof.Rows.callWith_builtin1 (thn (ha pos pins s σ H _ I h) fun us s1 ⟨vs,H1,I1,r1,q1⟩=>hc pins s1 σ H1 vs us Q I1 r1 q1) he hpl
theorem pe_callTy (hc:CallR X (.type T) r) (hg:Gl X x) (hm:X.mg x=none) (hv:bootBuiltins x=some (.type T)) (ha:PA X (e :: es) t) (hn:x ≠ "__name__":=by decide) (hdb:(x == ("__debug__" : Str))=false:=by decide)
  (he:starEach (e :: es) X.env=(false,eval e X.env) :: starEach es X.env:=by rfl) (hpl:(backTo pos (starEach es X.env)).any (·.1)=false:=by rfl):PE X (.Call (.Name x p) (e :: es) [] pos) (tCB r t):=by
 intro pins s σ H Q I h
 refine wpAny_Call_Name_kw (ld_blt I hg hm hv ?_ hn hdb)
 exact PyProof.Rows.callWith_type1 (thn (ha pos pins s σ H _ I h) fun us s1 ⟨vs,H1,I1,r1,q1⟩=>hc pins s1 σ H1 vs us Q I1 r1 q1) he hpl
end
end L2
namespace HT
open PySem PyProof.Rows
section
open PySem.SeqAt
open PySem.AutoSeq1 (wpAny_loadPart')
open PySem.MeetsSeq PySem.MeetsSeq2 PySem.MeetsSeq3
end
section
variable {prog:Program}{w:World}{A:Around}{E:Value -> Shared -> Prop}{s:Shared}
def sIx (n d:Nat):Option Int -> Nat
 | none=>d
 | some v=>if v < 0 then (v+(n:Int)).toNat else min v.toNat n
theorem sIx_none (n d:Nat):sIx n d none=d:=rfl
theorem sIx_nat (n d k:Nat):sIx n d (some (k:Int))=min k n:=by
 show (if (k:Int) < 0 then ((k:Int)+(n:Int)).toNat else min (k:Int).toNat n)=min k n
 rw [if_neg (by omega),Int.toNat_natCast]
end
end HT
namespace L2
open PySem PySem.Spec PyProof.Rows
abbrev TO:=St -> Hp -> (Option Int -> Hp -> Prop) -> Prop
def PO (X:Cx)(e:Option Expr)(t:TO):Prop :=
 ∀ (pins:List (Addr × Obj)) (s:Shared) (σ:St) (H:Hp) (Q:Option Int -> Hp -> Prop),Inv X pins σ H s -> t σ H Q ->
  wpAny (model X.prog X.w) X.A (evalPart e X.env) (fun u s'=>∃ o H',Inv X pins σ H' s' /\ IsPart u o /\ Q o H') X.xe s
def tNoPart:TO:=fun _ H Q=>Q none H
def tPart (t:TE):TO:=fun σ H Q=>t σ H fun x H1=>∃ i,x = .int i /\ Q (some i) H1
section
variable {X:Cx}{e:Expr}{te:TE}{lo hi:Option Expr}{tl th:TO}{pos p2:Pos}
theorem po_none:PO X none tNoPart:=by
 intro pins s σ H Q I h
 rw [evalPart_none]
 exact wpAny_pure ⟨none,H,I,.none,h⟩
theorem po_some (h:PE X e te):PO X (some e) (tPart te):=by
 intro pins s σ H Q I hw
 rw [evalPart_some]
 refine thn (h pins s σ H _ I hw) fun u s1 ⟨x,H1,I1,r1,q1⟩=>?_
 obtain ⟨i,rfl,q⟩:=q1
 obtain ⟨t,rfl⟩:=r1
 exact ⟨some i,H1,I1,.int i t,q⟩
def SlR (X:Cx)(r:V -> Option Int -> Option Int -> Hp -> VK -> Prop):Prop :=
 ∀ (pins:List (Addr × Obj)) (s:Shared) (σ:St) (H:Hp) (x:V) (v vl vu:Value) (lo hi:Option Int) (sl:Addr) (Q:VK),Inv X pins σ H s -> RelV x v -> s.heap.IsSliceOf sl vl vu .none -> IsPart vl lo -> IsPart vu hi -> r x lo hi H Q ->
  ∃ T id,typeLookup (.type T) "__getitem__" = pure (some (.builtin id)) /\ s.TypeIs v T /\ wpAny (model X.prog X.w) X.A (getItem v (.ref sl)) (EP X pins σ Q) X.xe s
def tSl (r:V -> Option Int -> Option Int -> Hp -> VK -> Prop)(te:TE)(tl th:TO):TE:=fun σ H Q=>te σ H fun x H1=>tl σ H1 fun l H2=>th σ H2 fun u H3=>r x l u H3 Q
theorem pe_slice {r:V -> Option Int -> Option Int -> Hp -> VK -> Prop}(hr:SlR X r)(he:PE X e te)(hl:PO X lo tl)(hu:PO X hi th):PE X (.Subscript e (.Slice lo hi none p2) pos) (tSl r te tl th):=by
 intro pins s σ H Q I h
 refine Subscript_ (thn (he pins s σ H _ I h) fun v s1 ⟨x,H1,I1,r1,q1⟩=>?_)
 refine wpAny_Slice (thn (hl pins s1 σ H1 _ I1 q1) fun vl s2 ⟨l,H2,I2,pl,q2⟩=>thn (hu pins s2 σ H2 _ I2 q2) fun vu s3 ⟨u,H3,I3,pu,q3⟩=>?_)
 rw [evalPart_none]
 refine wpAny_pure ?_
 have I4:Inv X pins σ H3 { s3 with heap:=s3.heap.push { cls:=.type "slice",data:=.fields #[vl,vu,.none] } }:=I3.kept (t':=s3.toks) fun b ob q=>Heap.get?_push_of_some _ q
 obtain ⟨T,id,hT,ht,hg⟩:=hr pins { s3 with heap:=s3.heap.push { cls:=.type "slice",data:=.fields #[vl,vu,.none] } } σ H3 x v vl vu l u s3.heap.objs.size Q I4 r1 (Heap.IsSliceOf.new ..) pl pu q3
 show wpAny (model X.prog X.w) X.A (subscriptTail e (.Slice lo hi none p2) v (.ref s3.heap.objs.size)) (EP X pins σ Q) X.xe { s3 with heap:=s3.heap.push { cls:=.type "slice",data:=.fields #[vl,vu,.none] } }
 exact tail_any (ops:=[.ref s3.heap.objs.size,v]) ht hT hg (by with_unfolding_all rfl)
def cutV (xs:List V)(lo hi:Option Int):List V:=(xs.drop (HT.sIx xs.length 0 lo)).take (HT.sIx xs.length xs.length hi - HT.sIx xs.length 0 lo)
theorem cutV_length (xs:List V)(lo hi:Option Int):(cutV xs lo hi).length <= xs.length:=by
 unfold cutV
 rw [qO,List.length_drop]
 omega
end
end L2
namespace L2
open PySem PySem.Spec PyProof.Rows
def ixN (n:Nat)(i:Int):Option Nat:=if 0 <= i then (if i < n then some i.toNat else none) else if -(n:Int) <= i then some (i+n).toNat else none
def atI {α:Type}(xs:List α)(i:Int):Option α:=(ixN xs.length i).bind fun j=>xs[j]?
theorem ixN_seq {n:Nat}{i:Int}{j:Nat}(h:ixN n i=some j):seqIndex? i n=some j /\ j < n /\ -(n:Int) <= i /\ i < n:=by
 unfold ixN at h
 by_cases h0:0 <= i
 ·rw [if_pos h0] at h
  by_cases h1:i < n
  ·rw [if_pos h1] at h
   have e:i.toNat=j:=Option.some.inj h
   exact ⟨by rw [seqIndex_of h0 h1,e],by omega,by omega,h1⟩
  ·rw [if_neg h1] at h; cases h
 ·rw [if_neg h0] at h
  by_cases h1:-(n:Int) <= i
  ·rw [if_pos h1] at h
   have e:(i+n).toNat=j:=Option.some.inj h
   exact ⟨by rw [seqIndex_neg (by omega) h1,e],by omega,h1,by omega⟩
  ·rw [if_neg h1] at h; cases h
theorem atI_get {α:Type}{xs:List α}{i:Int}{v:α}(h:atI xs i=some v):∃ j,seqIndex? i xs.length=some j /\ xs[j]? = some v /\ j < xs.length /\ -(xs.length:Int) <= i /\ i < xs.length:=by
 unfold atI at h
 cases e:ixN xs.length i with
 | none=>rw [e] at h; cases h
 | some j =>
  rw [e] at h
  obtain ⟨h1,h2,h3,h4⟩:=ixN_seq e
  exact ⟨j,h1,h,h2,h3,h4⟩
theorem atI_nat {α:Type}{xs:List α}{j:Nat}{v:α}(h:xs[j]? = some v):atI xs (j:Int)=some v:=by
 have hj:j < xs.length:=(qB.mp h).1
 have e:ixN xs.length (j:Int)=some j:=by
  unfold ixN
  rw [if_pos (by omega),if_pos (by omega)]; simp
 unfold atI; rw [e]; exact h
def PlainIx (b:Expr):Prop:=∀ o i,subscripted b false o i=operate [o,i] (getItem o i)
def IxR (X:Cx)(r:R2):Prop :=
 ∀ (value slice:Expr) (pins:List (Addr × Obj)) (s:Shared) (σ:St) (H:Hp) (x y:V) (v u:Value) (Q:VK),Inv X pins σ H s -> RelV x v -> RelV y u -> r x y H Q ->
  subscripted slice false v u=operate [v,u] (getItem v u) -> wpAny (model X.prog X.w) X.A (subscriptTail value slice v u) (EP X pins σ Q) X.xe s
def MtR (X:Cx)(id:String)(r:V -> List V -> Hp -> VK -> Prop):Prop :=
 ∀ (pins:List (Addr × Obj)) (s:Shared) (σ:St) (H:Hp) (x:V) (xs:List V) (v:Value) (us:List Value) (Q:VK),Inv X pins σ H s -> RelV x v -> Vals xs us -> r x xs H Q ->
  wpAny (model X.prog X.w) X.A (call (.builtin id) (v :: us)) (EP X pins σ Q) X.xe s
section
variable {X:Cx}{a b:Expr}{ta tb:TE}{pos:Pos}
theorem pe_ix {r:R2}(hr:IxR X r)(ha:PE X a ta)(hb:PE X b tb)(hs:PlainIx b):PE X (.Subscript a b pos) (tOp r ta tb):=by
 intro pins s σ H Q I h
 exact Subscript_ (binT ha hb I h fun v u s2 x y H2 I2 rx ry q=>hr a b pins s2 σ H2 x y v u Q I2 rx ry q (hs _ _))
def rIxL (K:PySem.W.Frag):R2:=fun x y H Q=>∃ p xs i v,x = .ref p /\ y = .int i /\ SqL K H p xs /\ atI xs i=some v /\ Q v H
def rIxT (K:PySem.W.Frag):R2:=fun x y H Q=>∃ p xs i v,x = .ref p /\ y = .int i /\ SqT K H p xs /\ atI xs i=some v /\ Q v H
theorem ix_list:IxR X (rIxL X.K):=by
 intro value slice pins s σ H x y v u Q I rx ry h hs
 obtain ⟨p,xs,i,z,rfl,rfl,hq,he,q⟩:=h
 cases rx
 obtain ⟨t,rfl⟩:=ry
 obtain ⟨its,r,pl,hz⟩:=I.list hq
 obtain ⟨j,h1,h2,h3,h4,h5⟩:=atI_get he
 obtain ⟨w,ew,rw'⟩:=r.get h2
 have hl:=r.length
 have hn:=line63
 have fin:EP X pins σ Q w s:=⟨z,H,I,rw',q⟩
 by_cases h0:0 <= i
 ·have hj:i.toNat=j:=by
   rw [seqIndex_of h0 h5] at h1
   exact Option.some.inj h1
  exact item_listR pl.isList h0 (by omega) (by rw [hj]; simpa using ew) fin hs
 ·have hj:(i+(its.toArray.size:Int)).toNat=j:=by
   rw [seqIndex_neg (by omega) h4] at h1
   rw [qM,← hl]
   exact Option.some.inj h1
  exact subscriptTail_builtinR (x:=w) pl.isList.typeIs slot_list_getitem.lookup
   (wpAny_getItem_list_neg (Q:=fun r s'=>r=w /\ EP X pins σ Q r s') pl.isList (by omega) (by rw [qM] <;> omega) (by omega) (by rw [hj]; simpa using ew) ⟨rfl,fin⟩) hs
theorem ix_tup:IxR X (rIxT X.K):=by
 intro value slice pins s σ H x y v u Q I rx ry h hs
 obtain ⟨p,xs,i,z,rfl,rfl,hq,he,q⟩:=h
 cases rx
 obtain ⟨t,rfl⟩:=ry
 obtain ⟨its,r,pl,hz⟩:=I.tuple hq
 obtain ⟨j,h1,h2,h3,h4,h5⟩:=atI_get he
 obtain ⟨w,ew,rw'⟩:=r.get h2
 have hl:=r.length
 have hn:=line63
 have fin:EP X pins σ Q w s:=⟨z,H,I,rw',q⟩
 exact subscriptTail_builtinR (x:=w) pl.typeIs slot_tuple_getitem.lookup
  (getItem_tuple (j:=j) (Q:=fun r s'=>r=w /\ EP X pins σ Q r s') pl (by omega) (by omega) (by rw [qM,← hl]; exact h1) (by simpa using ew) ⟨rfl,fin⟩) hs
theorem mapSeq_set (its:List Value)(n j:Nat)(u:Value):Obj.mapSeq (·.setIfInBounds j u) { cls:=.type "list",data:=.seq its.toArray n } = { cls:=.type "list",data:=.seq (its.set j u).toArray n }:=by
 simp [Obj.mapSeq]
theorem Inv.lst {pins:List (Addr × Obj)}{σ:St}{H:Hp}{s:Shared}{p:Addr}{xs:List V}(I:Inv X pins σ H s)(h:H p=some (.lst xs)) :
  ∃ (its:List Value) (n:Nat),Vals xs its /\ s.heap.get? p=some { cls:=.type "list",data:=.seq its.toArray n } /\ xs.length <= sizeLine:=by
 obtain ⟨z,its,n,r,e⟩:=I.hok p _ h
 exact ⟨its,n,r,e,z⟩
theorem Inv.lstUpd {pins:List (Addr × Obj)}{σ:St}{H:Hp}{s:Shared}{p:Addr}{xs ys:List V}{its its':List Value}{n n':Nat}{f:Obj -> Obj}(I:Inv X pins σ H s)(h:H p=some (.lst xs))
  (ho:s.heap.get? p=some { cls:=.type "list",data:=.seq its.toArray n }) (hf:f { cls:=.type "list",data:=.seq its.toArray n } = { cls:=.type "list",data:=.seq its'.toArray n' }) (r:Vals ys its') (hz:ys.length <= sizeLine) (t:Nat) :
  Inv X pins σ (upd H p (.lst ys)) { s with heap:=s.heap.update p f,toks:=t }:=by
 have e:(s.heap.update p f).get? p=some { cls:=.type "list",data:=.seq its'.toArray n' }:=by
  rw [Heap.get?_update_self f ho (by rw [hf] <;> rfl),hf]
 refine I.write (x:=p) (e:=p) (by rw [h]; trivial) (.inl rfl) (fun b u hb q=>(Heap.get?_update_other _ _ (Ne.symm hb)).trans q) ⟨_,e⟩ ?_
 exact ⟨hz,its',n',r,e⟩
def rSetL:V -> V -> V -> Hp -> (Hp -> Prop) -> Prop:=fun o i v H Q=>∃ p xs k j,o = .ref p /\ i = .int k /\ H p=some (.lst xs) /\ ixN xs.length k=some j /\ Q (upd H p (.lst (xs.set j v)))
theorem set_list:PSet X rSetL:=by
 intro pins s σ H o i v ov iv u Q I ro ri rv h
 obtain ⟨p,xs,k,j,rfl,rfl,hp,hj,q⟩:=h
 cases ro
 obtain ⟨t,rfl⟩:=ri
 obtain ⟨its,n,r,ho,hz⟩:=I.lst hp
 obtain ⟨h1,h2,h3,h4⟩:=ixN_seq hj
 have hl:=r.length
 have hn:=line63
 have I':Inv X pins σ (upd H p (.lst (xs.set j v))) { s with heap:=s.heap.update p (Obj.mapSeq (·.setIfInBounds j u)) } :=
  I.lstUpd hp ho (mapSeq_set its n j u) (r.set rv j) (by rw [List.length_set]; exact hz) s.toks
 by_cases h0:0 <= k
 ·have hk:k.toNat=j:=by
   rw [seqIndex_of h0 h4] at h1
   exact Option.some.inj h1
  exact PySem.W.ki_setAt ho h0 (by omega) (by rw [qM,← hl]; exact h4) (by rw [hk]; exact ⟨_,I',q⟩)
 ·have hk:(k+(its.toArray.size:Int)).toNat=j:=by
   rw [seqIndex_neg (by omega) h3] at h1
   rw [qM,← hl]
   exact Option.some.inj h1
  exact PySem.W.ki_setBack ho (by omega) (by rw [qM,← hl]; exact h3) (by omega) (by rw [hk]; exact ⟨_,I',q⟩)
theorem slice_bounds (lo hi:Option Int)(n:Nat):(sliceBounds lo hi none n).1=((HT.sIx n 0 lo:Nat):Int) /\ (sliceBounds lo hi none n).2.1=((HT.sIx n n hi:Nat):Int) /\ (sliceBounds lo hi none n).2.2=1:=by
 refine ⟨?_,?_,rfl⟩
 ·cases lo with
  | none=>simp [sliceBounds,HT.sIx]
  | some i =>
   simp only [sliceBounds,HT.sIx,Option.getD_none,show (1:Int) > 0 by decide,if_true]
   by_cases h:i < 0
   ·simp only [h,if_true] <;> omega
   ·simp only [h,if_false] <;> omega
 ·cases hi with
  | none=>simp [sliceBounds,HT.sIx]
  | some i =>
   simp only [sliceBounds,HT.sIx,Option.getD_none,show (1:Int) > 0 by decide,if_true]
   by_cases h:i < 0
   ·simp only [h,if_true] <;> omega
   ·simp only [h,if_false] <;> omega
theorem slicePick_cut (its:List Value)(lo hi:Option Int):slicePick its.toArray lo hi none=((its.drop (HT.sIx its.length 0 lo)).take (HT.sIx its.length its.length hi - HT.sIx its.length 0 lo)).toArray:=by
 obtain ⟨h1,h2,h3⟩:=slice_bounds lo hi its.toArray.size
 unfold slicePick
 rw [h1,h2,h3]
 simp only [sliceRange_one,pick_run,qM] <;> rfl
def rSlL (K:PySem.W.Frag):V -> Option Int -> Option Int -> Hp -> VK -> Prop:=fun x lo hi H Q=>∃ a xs,x = .ref a /\ SqL K H a xs /\ ∀ p,H p=none -> Q (.ref p) (upd H p (.lst (cutV xs lo hi)))
theorem sl_list:SlR X (rSlL X.K):=by
 intro pins s σ H x v vl vu lo hi sl Q I rx hs pl pu h
 obtain ⟨a,xs,rfl,hx,q⟩:=h
 cases rx
 obtain ⟨its,r,ht,hz⟩:=I.list hx
 have hlen:=r.length
 refine ⟨"list",_,slot_list_getitem.lookup,ht.isList.typeIs,?_⟩
 refine wpAny_getItem_list_slice ht.isList hs pl pu .none (by simp) ?_ (by rw [qM] <;> omega)
 rw [slicePick_cut,← hlen]
 refine ⟨.ref s.heap.objs.size,_,I.laid (t':=s.toks) (o:=.lst (cutV xs lo hi)) (fun b ob q=>Heap.get?_push_of_some _ q) (Nat.le_refl _) ?_,rfl,q _ (I.hok.fresh (Nat.le_refl _))⟩
 exact ⟨Nat.le_trans (cutV_length xs lo hi) hz,_,0,(r.drop (HT.sIx xs.length 0 lo)).take (HT.sIx xs.length xs.length hi - HT.sIx xs.length 0 lo),Heap.get?_push_size _ rfl⟩
def flatV:V -> Bool
 | .non=>true
 | .bl _=>true
 | .int _=>true
 | .str _=>true
 | _=>false
def eqV:V -> V -> Bool
 | .non,.non=>true
 | .bl a,.bl b=>a == b
 | .bl a,.int b=>(if a then 1 else 0) == b
 | .int a,.bl b=>a == (if b then 1 else 0)
 | .int a,.int b=>a == b
 | .str a,.str b=>a == b
 | _,_=>false
theorem eqAt_V {A:Around}{s:Shared}{y x:V}{u v:Value}(ry:RelV y u)(rx:RelV x v)(fy:flatV y=true)(fx:flatV x=true):SeqAt.EqAt A s u v (eqV y x):=by
 cases y with
 | non =>
  cases ry
  cases x with
  | non=>cases rx; exact SeqAt.EqAt.same _
  | bl b=>cases rx; exact SeqAt.EqAt.none_bool b
  | int b=>obtain ⟨t,rfl⟩:=rx; exact SeqAt.EqAt.none_int b t
  | str b=>obtain ⟨t,rfl⟩:=rx; exact SeqAt.EqAt.none_str b t
  | _=>exact absurd (show false=true from fx) Bool.false_ne_true
 | bl a =>
  cases ry
  cases x with
  | non=>cases rx; exact SeqAt.EqAt.bool_none a
  | bl b=>cases rx; exact SeqAt.EqAt.bool_bool a b
  | int b=>obtain ⟨t,rfl⟩:=rx; exact SeqAt.EqAt.bool_int a b t
  | str b=>obtain ⟨t,rfl⟩:=rx; exact SeqAt.EqAt.bool_str a b t
  | _=>exact absurd (show false=true from fx) Bool.false_ne_true
 | int a =>
  obtain ⟨t',rfl⟩:=ry
  cases x with
  | non=>cases rx; exact SeqAt.EqAt.int_none a t'
  | bl b=>cases rx; exact SeqAt.EqAt.int_bool a t' b
  | int b=>obtain ⟨t,rfl⟩:=rx; exact SeqAt.EqAt.int_int a t' b t
  | str b=>obtain ⟨t,rfl⟩:=rx; exact SeqAt.EqAt.int_str a t' b t
  | _=>exact absurd (show false=true from fx) Bool.false_ne_true
 | str a =>
  obtain ⟨t',rfl⟩:=ry
  cases x with
  | non=>cases rx; exact SeqAt.EqAt.str_none a t'
  | bl b=>cases rx; exact SeqAt.EqAt.str_bool a t' b
  | int b=>obtain ⟨t,rfl⟩:=rx; exact SeqAt.EqAt.str_int a t' b t
  | str b=>obtain ⟨t,rfl⟩:=rx; exact SeqAt.EqAt.str_str a t' b t
  | _=>exact absurd (show false=true from fx) Bool.false_ne_true
 | _=>exact absurd (show false=true from fy) Bool.false_ne_true
theorem call_len_seq:CallR X (.builtin "len") (fun xs H Q=>∃ p ys,xs=[.ref p] /\ (SqL X.K H p ys \/ SqT X.K H p ys) /\ Q (.int ys.length) H):=by
 intro pins s σ H xs us Q I r h
 obtain ⟨p,ys,rfl,hq,q⟩:=h
 obtain ⟨u,rfl,rx⟩:=vals1 r
 cases rx
 have hn:=line63
 rcases hq with hq | hq
 ·obtain ⟨its,r',pl,hz⟩:=I.list hq
  have hlen:=r'.length
  exact Calls.call_len_list pl.isList (by simp only [qM] <;> omega) ⟨.int ys.length,H,I.tok _,⟨s.toks+1,by rw [qM,hlen]⟩,q⟩
 ·obtain ⟨its,r',pl,hz⟩:=I.tuple hq
  have hlen:=r'.length
  exact len_tuple pl (by simp only [qM] <;> omega) ⟨.int ys.length,H,I.tok _,⟨s.toks+1,by rw [qM,hlen]⟩,q⟩
theorem call_list_of:CallR X (.type "list") (fun xs H Q=>∃ p ys,xs=[.ref p] /\ (SqL X.K H p ys \/ SqT X.K H p ys) /\ ∀ l,H l=none -> Q (.ref l) (upd H l (.lst ys))):=by
 intro pins s σ H xs us Q I r h
 obtain ⟨p,ys,rfl,hq,q⟩:=h
 obtain ⟨u,rfl,rx⟩:=vals1 r
 cases rx
 have fin:∀ (its:List Value),Vals ys its -> ys.length <= sizeLine -> ∀ (h':Heap) (c':Nat),(∀ b o',s.heap.get? b=some o' -> h'.get? b=some o') ->
   h'.get? s.heap.objs.size=some { cls:=.type "list",dict:=none,data:=.seq its.toArray c',slots:=#[] } -> EP X pins σ Q (.ref s.heap.objs.size) { s with heap:=h' }:=fun its r' hz h' c' kp e =>
  ⟨.ref s.heap.objs.size,_,I.laid (t':=s.toks) kp (Nat.le_refl _) (show ObjOk X.prog X.w _ h' _ (.lst ys) from ⟨hz,its,c',r',e⟩),rfl,q _ (I.hok.fresh (Nat.le_refl _))⟩
 rcases hq with hq | hq
 ·obtain ⟨its,r',pl,hz⟩:=I.list hq
  have hlen:=r'.length
  obtain ⟨o,ho,hc,n,hd⟩:=pl.isList
  exact call_list_seq p (.inl rfl) ho hc hd (fun h' c' kp e=>fin its r' hz h' c' kp e) (by simp only [qM] <;> omega)
 ·obtain ⟨its,r',pl,hz⟩:=I.tuple hq
  have hlen:=r'.length
  obtain ⟨o,ho,hc,n,hd⟩:=pl
  exact call_list_seq p (.inr rfl) ho hc hd (fun h' c' kp e=>fin its r' hz h' c' kp e) (by simp only [qM] <;> omega)
theorem call_tuple_of:CallR X (.type "tuple") (fun xs H Q=>∃ p ys,xs=[.ref p] /\ ((SqL X.K H p ys /\ ∀ l,H l=none -> Q (.ref l) (upd H l (.tup ys))) \/ (SqT X.K H p ys /\ Q (.ref p) H))):=by
 intro pins s σ H xs us Q I r h
 obtain ⟨p,ys,rfl,h⟩:=h
 obtain ⟨u,rfl,rx⟩:=vals1 r
 cases rx
 rcases h with ⟨hq,q⟩ | ⟨hq,q⟩
 ·obtain ⟨its,r',pl,hz⟩:=I.list hq
  have hlen:=r'.length
  refine call_tuple_list pl.isList (fun h' kp=>?_) (by simp only [qM] <;> omega)
  have I1:Inv X pins σ H { s with heap:=h' }:=I.kept (t':=s.toks) kp
  have I2:Inv X pins σ (upd H h'.objs.size (.tup ys)) { s with heap:=h'.push { cls:=.type "tuple",data:=.seq its.toArray } } :=
   I1.laid (t':=s.toks) (fun b o e=>Heap.get?_push_of_some _ e) (Nat.le_refl _) (show ObjOk X.prog X.w _ _ _ (.tup ys) from ⟨hz,its,r',IsTup.new _ _⟩)
  exact ⟨.ref h'.objs.size,_,I2,rfl,q _ (I1.hok.fresh (Nat.le_refl _))⟩
 ·obtain ⟨its,r',pl,hz⟩:=I.tuple hq
  exact call_tuple_same pl ⟨.ref p,H,I,rfl,q⟩
def tyV (K:PySem.W.Frag)(T:String)(x:V)(H:Hp):Prop:=match x with
 | .str _=>T = "str"
 | .int _=>T = "int"
 | .ref p=>(T = "list" /\ ∃ xs,SqL K H p xs) \/ (T = "tuple" /\ ∃ o,K.lookup p=some o /\ o.cls = .type "tuple" /\ o.dict=none) \/
   (T = "dict" /\ ((∃ kvs,H p=some (.dK kvs)) \/ ∃ kvs,H p=some (.dT kvs))) \/ (T = "set" /\ ∃ S n,H p=some (.set S n))
 | _=>False
theorem tyV_is {pins:List (Addr × Obj)}{σ:St}{H:Hp}{s:Shared}{T:String}{x:V}{v:Value}(I:Inv X pins σ H s)(r:RelV x v)(ty:tyV X.K T x H) :
  s.TypeIs v T /\ ∀ a,v = .ref a -> ∃ ob,s.heap.get? a=some ob /\ ob.dict=none:=by
 cases x with
 | str z =>
  obtain ⟨t,rfl⟩:=r
  cases (show T = "str" from ty)
  exact ⟨typeIs_str s z t,fun _ e=>nomatch e⟩
 | int i =>
  obtain ⟨t,rfl⟩:=r
  cases (show T = "int" from ty)
  exact ⟨typeIs_int s i t,fun _ e=>nomatch e⟩
 | ref p =>
  cases r
  rcases ty with ⟨rfl,xs,hq⟩ | ⟨rfl,o,hk,hc,hd⟩ | ⟨rfl,hk⟩ | ⟨rfl,S,n,hk⟩
  ·obtain ⟨its,_,pl,_⟩:=I.list hq
   refine ⟨pl.isList.typeIs,fun a e=>?_⟩
   cases e
   obtain ⟨o,n,e,c,hd,_⟩:=pl
   exact ⟨o,e,hd⟩
  ·refine ⟨⟨o,I.kIn p o hk,hc⟩,fun a e=>?_⟩
   cases e
   exact ⟨o,I.kIn _ o hk,hd⟩
  ·have z:∃ o,s.heap.get? p=some o /\ o.ExactDict:=by
    rcases hk with ⟨kvs,hk⟩ | ⟨kvs,hk⟩
    ·obtain ⟨_,_,_,_,o,_,_,e,ex,_⟩:=I.hok p _ hk
     exact ⟨o,e,ex⟩
    ·obtain ⟨_,_,_,_,o,_,_,e,ex,_⟩:=I.hok p _ hk
     exact ⟨o,e,ex⟩
   obtain ⟨o,e,ex⟩:=z
   refine ⟨⟨o,e,ex.1⟩,fun a e2=>?_⟩
   cases e2
   exact ⟨o,e,ex.2.1⟩
  ·obtain ⟨o,_,_,_,e,ex,_⟩:=I.hok p _ hk
   refine ⟨⟨o,e,ex.1⟩,fun a e2=>?_⟩
   cases e2
   exact ⟨o,e,ex.2.1⟩
 | _=>exact False.elim ty
def tBM0 (K:PySem.W.Frag)(T:String)(r:V -> List V -> Hp -> VK -> Prop)(to:TE):TE:=fun σ H Q=>to σ H fun x H1=>tyV K T x H1 /\ r x [] H1 Q
def tBM (K:PySem.W.Frag)(T:String)(r:V -> List V -> Hp -> VK -> Prop)(to:TE)(t:TA):TE:=fun σ H Q=>to σ H fun x H1=>tyV K T x H1 /\ t σ H1 fun xs H2=>r x xs H2 Q
variable {o e:Expr}{es:List Expr}{to:TE}{t:TA}{name:Str}{apos cpos:Pos}{T id:String}{r:V -> List V -> Hp -> VK -> Prop}
theorem pe_bm0 (pa:PlainAttrs T) (slot:Slot T name id) (hty:typeOf (.builtin id)=pure (.type "method_descriptor")) (hm:MtR X id r) (ho:PE X o to)
  (hbase:attributeBase o name X.env (eval o X.env)=eval o X.env:=by rfl) (hline:(apos.endLine == cpos.line)=true:=by rfl):PE X (.Call (.Attribute o name apos) [] [] cpos) (tBM0 X.K T r to):=by
 intro pins s σ H Q I h
 refine wpAny_Call_method0_late hbase hline (thn (ho pins s σ H _ I h) fun v s1 ⟨x,H1,I1,r1,ty,q1⟩=>?_)
 obtain ⟨h1,h2⟩:=tyV_is I1 r1 ty
 exact ⟨T,id,pa,slot,hty,h1,h2,Calls.callWith_builtin rfl (PySem.evalArgs_none (hm pins s1 σ H1 x [] v [] Q I1 r1 .nil q1))⟩
theorem pe_bm (pa:PlainAttrs T) (slot:Slot T name id) (hty:typeOf (.builtin id)=pure (.type "method_descriptor")) (hm:MtR X id r) (ho:PE X o to) (ha:PA X (e :: es) t)
  (hbase:attributeBase o name X.env (eval o X.env)=eval o X.env:=by rfl)
  (hfew:((backTo cpos (starEach (e :: es) X.env)).all (fun x=>!x.1) && (backToKw cpos (keywordEach [] X.env)).all (fun x=>x.1.isSome)
   && decide ((e :: es).length+([]:List Keyword).length+(if ([]:List Keyword).isEmpty then 0 else 1) < 30))=true:=by rfl)
  (hline:(apos.endLine == cpos.line)=true:=by rfl) (hs:starEach (e :: es) X.env=(false,eval e X.env) :: starEach es X.env:=by rfl) (hplain:(backTo cpos (starEach es X.env)).any (·.1)=false:=by rfl) :
  PE X (.Call (.Attribute o name apos) (e :: es) [] cpos) (tBM X.K T r to t):=by
 intro pins s σ H Q I h
 refine wpAny_Call_method_late hbase hfew hline rfl (thn (ho pins s σ H _ I h) fun v s1 ⟨x,H1,I1,r1,ty,q1⟩=>?_)
 obtain ⟨h1,h2⟩:=tyV_is I1 r1 ty
 refine ⟨T,id,pa,slot,hty,h1,h2,?_⟩
 have hA:=ha cpos pins s1 σ H1 _ I1 q1
 rw [hs] at hA ⊢
 refine Calls.callWith_builtin (by show (false || (backTo cpos (starEach es X.env)).any (·.1))=false; rw [hplain] <;> rfl) (Calls.evalArgs_plain ?_)
 exact thn hA fun us s2 ⟨vs,H2,I2,r2,q2⟩=>hm pins s2 σ H2 x vs v us Q I2 r1 r2 q2
end
end L2
namespace L2
open PySem PySem.Spec PyProof.Rows
def MtM (X:Cx)(id:String)(r:V -> List V -> Hp -> VK -> Prop):Prop :=
 ∀ (pins:List (Addr × Obj)) (s:Shared) (σ:St) (H:Hp) (x:V) (xs:List V) (v:Value) (us:List Value) (Q:VK),Inv X pins σ H s -> RelV x v -> Vals xs us -> r x xs H Q ->
  wpAny (model X.prog X.w) X.A (call (.builtin id) (v :: us)) (EP X pins σ Q) X.xe s
theorem Vals.one:∀ {x:V}{us:List Value},Vals [x] us -> ∃ u,us=[u] /\ RelV x u
 | _,_,.cons r .nil=>⟨_,rfl,r⟩
theorem Vals.rep {xs:List V}{us:List Value}(h:Vals xs us):∀ k:Nat,Vals (qQ k xs).flatten (qQ k us).flatten
 | 0=>.nil
 | k+1=>by
  rw [List.replicate_succ,List.replicate_succ,List.flatten_cons,List.flatten_cons]
  exact Vals.append h (Vals.rep h k)
theorem foldl_rep (its:List Value):∀ (k:Nat) (acc:List Value),
  List.foldl (fun x1 x2=>x1 ++ x2) acc.toArray (qQ k its.toArray)=(acc ++ (qQ k its).flatten).toArray
 | 0,acc=>by simp
 | k+1,acc=>by
  have e:acc.toArray ++ its.toArray=(acc ++ its).toArray:=by simp
  have e2:(acc ++ its) ++ (qQ k its).flatten=acc ++ (qQ (k+1) its).flatten:=by
   rw [List.replicate_succ,List.flatten_cons,List.append_assoc]
  rw [← e2,← foldl_rep its k (acc ++ its),← e,List.replicate_succ,List.foldl_cons]
section
variable {X:Cx}{pins:List (Addr × Obj)}{σ:St}{H:Hp}{s:Shared}{l b:Addr}{xs ys zs:List V}
theorem Inv.lset {its its':List Value}{n:Nat}{f:Array Value -> Array Value}{t':Nat}(I:Inv X pins σ H s)(hH:H l=some (.lst xs))
  (e:s.heap.get? l=some { cls:=.type "list",data:=.seq its.toArray n }) (hf:f its.toArray=its'.toArray) (hv:Vals ys its') (hz:ys.length <= sizeLine) :
  Inv X pins σ (upd H l (.lst ys)) { s with heap:=s.heap.update l (Obj.mapSeq f),toks:=t' }:=by
 have q:=PySem.IsL.update e f
 rw [hf] at q
 refine I.write (x:=l) (e:=l) (by rw [hH]; exact trivial) (.inl rfl) (fun b' u hb hu=>(Heap.get?_update_other s.heap (Obj.mapSeq f) (Ne.symm hb)).trans hu) ⟨_,q⟩ ?_
 exact ⟨hz,its',_,hv,q⟩
theorem Inv.lnew {its:List Value}{t':Nat}(I:Inv X pins σ H s)(hv:Vals ys its)(hz:ys.length <= sizeLine) :
  Inv X pins σ (upd H s.heap.objs.size (.lst ys)) { s with heap:=s.heap.push { cls:=.type "list",data:=.seq its.toArray },toks:=t' } :=
 I.laid (fun _ _ q=>Heap.get?_push_of_some _ q) (Nat.le_refl _) ⟨hz,its,0,hv,Heap.get?_push_size _ rfl⟩
theorem Inv.fresh (I:Inv X pins σ H s):H s.heap.objs.size=none:=I.hok.fresh (Nat.le_refl _)
theorem Inv.lstM (I:Inv X pins σ H s)(hH:H l=some (.lst xs)):xs.length <= sizeLine /\ ∃ (its:List Value) (n:Nat),Vals xs its /\ xs.length=its.length /\ s.heap.get? l=some { cls:=.type "list",data:=.seq its.toArray n }:=by
 obtain ⟨z,its,n,r,e⟩:=I.hok l _ hH
 exact ⟨z,its,n,r,r.length,e⟩
theorem notLongL {n:Nat}(h:n <= sizeLine):Builtin.List.listTooLong n=false:=by
 unfold Builtin.List.listTooLong
 exact decide_eq_false (by omega)
end
section
variable {X:Cx}
def rAppend:V -> List V -> Hp -> VK -> Prop:=fun x vs H Q=>∃ l xs y,x = .ref l /\ vs=[y] /\ H l=some (.lst xs) /\ xs.length < sizeLine /\ Q .non (upd H l (.lst (xs ++ [y])))
theorem mt_append:MtM X "list.append" rAppend:=by
 intro pins s σ H x vs v us Q I rx rv h
 obtain ⟨l,xs,y,rfl,rfl,hH,hz,q⟩:=h
 cases rx
 obtain ⟨u,rfl,ru⟩:=rv.one
 obtain ⟨z,its,n,r,hl,e⟩:=I.lstM hH
 refine call_meets F.slot_list_append ⟨_,e,rfl⟩ F.entry_list_append (F.args_list_append_2 _ _) (PySem.list_append l its.toArray n u (by rw [qM]; omega)) ⟨e,?_⟩
 refine ⟨.non,_,I.lset (its':=its ++ [u]) hH e (by simp) (r.append (.cons ru .nil)) ?_,rfl,q⟩
 rw [qF,List.length_singleton]
 omega
def rExtend:V -> List V -> Hp -> VK -> Prop:=fun x vs H Q=>∃ l b xs zs,x = .ref l /\ vs=[.ref b] /\ H l=some (.lst xs) /\ H b=some (.lst zs) /\ xs.length+zs.length <= sizeLine /\ Q .non (upd H l (.lst (xs ++ zs)))
def rPop:V -> List V -> Hp -> VK -> Prop:=fun x vs H Q=>∃ l xs y,x = .ref l /\ vs=[] /\ H l=some (.lst xs) /\ xs[xs.length - 1]? = some y /\ Q y (upd H l (.lst xs.dropLast))
def rReverse:V -> List V -> Hp -> VK -> Prop:=fun x vs H Q=>∃ l xs,x = .ref l /\ vs=[] /\ H l=some (.lst xs) /\ Q .non (upd H l (.lst xs.reverse))
def rClear:V -> List V -> Hp -> VK -> Prop:=fun x vs H Q=>∃ l xs,x = .ref l /\ vs=[] /\ H l=some (.lst xs) /\ Q .non (upd H l (.lst []))
def rCat:R2:=fun x y H Q=>∃ l b xs zs,x = .ref l /\ y = .ref b /\ H l=some (.lst xs) /\ H b=some (.lst zs) /\ xs.length+zs.length <= sizeLine /\ ∀ p,H p=none -> Q (.ref p) (upd H p (.lst (xs ++ zs)))
theorem op_cat:OpR X (binaryOp .Add) rCat:=by
 intro pins s σ H x y v u Q I rx ry h
 obtain ⟨l,b,xs,zs,rfl,rfl,hH,hB,hz,q⟩:=h
 cases rx
 cases ry
 obtain ⟨z,its,n,r,hl,e⟩:=I.lstM hH
 obtain ⟨z2,its2,n2,r2,hl2,e2⟩:=I.lstM hB
 refine PySem.P.add_list e e2 ?_ (by rw [qM,qM]; omega)
 have ea:its.toArray ++ its2.toArray=(its ++ its2).toArray:=by simp
 rw [ea]
 exact ⟨.ref _,_,I.lnew (t':=s.toks) (r.append r2) (by rw [qF]; omega),rfl,q _ I.fresh⟩
def rRep:R2:=fun x y H Q=>∃ l k xs,x = .ref l /\ y = .int k /\ H l=some (.lst xs) /\ -(2 ^ 63) <= k /\ k < 2 ^ 63 /\ xs.length * k.toNat <= sizeLine /\
 ∀ p,H p=none -> Q (.ref p) (upd H p (.lst (qQ k.toNat xs).flatten))
theorem len_rep {α:Type}(xs:List α)(k:Nat):(qQ k xs).flatten.length=k * xs.length:=by
 induction k with
 | zero=>simp
 | succ k ih=>rw [List.replicate_succ,List.flatten_cons,qF,ih,Nat.succ_mul,Nat.add_comm]
theorem op_rep:OpR X (binaryOp .Mult) rRep:=by
 intro pins s σ H x y v u Q I rx ry h
 obtain ⟨l,k,xs,rfl,rfl,hH,h1,h2,hz,q⟩:=h
 cases rx
 obtain ⟨t,rfl⟩:=ry
 obtain ⟨z,its,n,r,hl,e⟩:=I.lstM hH
 have hlen:its.toArray.size * k.toNat <= sizeLine:=by rw [qM,← hl]; exact hz
 have hcap:¬ its.toArray.size * k.toNat > (2 ^ 63 - 1) / 8:=by
  have:(sizeLine:Nat) <= (2 ^ 63 - 1) / 8:=by decide
  omega
 have hfit:¬ (!Builtin.List.listFitsIndex k)=true:=by
  rw [fitsIndex_both h1 h2]
  exact Bool.false_ne_true
 have hlong:¬ Builtin.List.listTooLong (its.toArray.size * k.toNat)=true:=by
  rw [notLongL hlen]
  exact Bool.false_ne_true
 have hnew:List.foldl (fun x1 x2=>x1 ++ x2) #[] (qQ (if its.toArray.isEmpty=true then 0 else k.toNat) its.toArray)=(qQ k.toNat its).flatten.toArray:=by
  have f0:∀ m:Nat,List.foldl (fun x1 x2=>x1 ++ x2) #[] (qQ m its.toArray)=(qQ m its).flatten.toArray:=fun m=>by
   have:=foldl_rep its m []
   rw [List.nil_append] at this
   exact this
  rw [f0]
  cases its with
  | nil=>simp
  | cons a r'=>rw [if_neg (by simp)]
 refine wpAny_binaryOp_repeat_ref (T:="list") (U:="int") (by decide) ⟨_,e,rfl⟩ (fun s'=>typeIs_int s' k t) noFill_list_mul F.fills_int_mul F.slot_int_rmul repeat_list F.slot_int_index.lookup
  (call_meets F.slot_int_rmul (typeIs_int s k t) F.entry_int_rmul (F.args_int_rmul_2 _ _) (int___rmul___int_list k t l its.toArray n)
   ⟨e,rfl,⟨_,e,rfl⟩,call_meets F.slot_list_mul ⟨_,e,rfl⟩ F.entry_list_mul (F.args_list_mul_2 _ _) (AutoListH.list___mul___list_int_3 l its.toArray n k t hfit hcap hlong) ⟨e,?_⟩⟩)
 rw [hnew]
 exact ⟨.ref _,_,I.lnew (t':=s.toks) (r.rep k.toNat) (by rw [len_rep,Nat.mul_comm]; exact hz),rfl,q _ I.fresh⟩
end
section
variable {prog:Program}{w:World}{A:Around}{E:Value -> Shared -> Prop}{s:Shared}
end
section
variable {X:Cx}
end
end L2
namespace L2
open PySem PySem.Spec PyProof.Rows
section
variable {κ:Type}[DecidableEq κ]
def valV (kvs:List (κ × V))(k:κ):Option V:=(kvs.find? fun kv=>decide (kv.1=k)).map (·.2)
def putK (kvs:List (κ × V))(k:κ)(v:V):List (κ × V) :=
 if (kvs.any fun kv=>decide (kv.1=k))=true then kvs.map (fun kv=>if kv.1=k then (kv.1,v) else kv) else kvs ++ [(k,v)]
theorem valV_pos {p:κ × V}{r:List (κ × V)}{k:κ}(e:p.1=k):valV (p :: r) k=some p.2:=by simp [valV,List.find?_cons,e]
theorem valV_neg {p:κ × V}{r:List (κ × V)}{k:κ}(e:¬ p.1=k):valV (p :: r) k=valV r k:=by simp [valV,List.find?_cons,e]
theorem valV_any (k:κ):∀ kvs:List (κ × V),(kvs.any fun kv=>decide (kv.1=k))=(valV kvs k).isSome
 | []=>rfl
 | p :: r=>by
  rw [List.any_cons]
  by_cases e:p.1=k
  ·simp only [valV_pos e,decide_eq_true e,Bool.true_or,Option.isSome_some]
  ·rw [valV_neg e,decide_eq_false e,Bool.false_or]; exact valV_any k r
end
section
variable {P:Program}{w:World}{H:Hp}{h:Heap}{a:Addr}
end
section
variable {X:Cx}{pins:List (Addr × Obj)}{σ:St}{H:Hp}{s:Shared}{a:Addr}{y v:V}{u r:Value}{o:Option V}{A:Around}{E:Value -> Shared -> Prop}
end
section
variable {X:Cx}{pins:List (Addr × Obj)}{σ:St}{H:Hp}{s:Shared}{a:Addr}{kvs:List (Key × V)}{k:Key}{u:Value}{A:Around}{E:Value -> Shared -> Prop}
end
section
variable {X:Cx}{o i e value:Expr}{pos pos' tpos:Pos}{td ty tv:TE}
end
def tDNewK:TE:=fun _ H Q=>∀ p,H p=none -> Q (.ref p) (upd H p (.dK []))
section
variable {X:Cx}{pos:Pos}
end
def tPairs:List (TE × TE) -> St -> Hp -> (List (V × V) -> Hp -> Prop) -> Prop
 | [],_,H,Q=>Q [] H
 | (tk,tv) :: r,σ,H,Q=>tk σ H fun x H1=>tv σ H1 fun y H2=>tPairs r σ H2 fun ps H3=>Q ((x,y) :: ps) H3
def mergeK (kvs more:List (Key × V)):List (Key × V):=more.foldl (fun acc kv=>putK acc kv.1 kv.2) kvs
def tDisp (trs:List (TE × TE)):TE:=fun σ H Q=>∀ p,H p=none -> tPairs trs σ (upd H p (.dK [])) fun ps H2=>H2 p=some (.dK []) /\ ∃ kvs:List (Key × V),ps=kvs.map (fun kv=>(kV kv.1,kv.2)) /\ kvs.length <= 15 /\ Q (.ref p) (upd H2 p (.dK (mergeK [] kvs)))
section
variable {X:Cx}{pins:List (Addr × Obj)}{σ:St}{H:Hp}{s:Shared}{a:Addr}{y d:V}{u r:Value}{o:Option V}{A:Around}{E:Value -> Shared -> Prop}
end
section
variable {X:Cx}{o e f:Expr}{apos cpos:Pos}{td ty tx:TE}
end
section
variable {X:Cx}{pins:List (Addr × Obj)}{σ:St}{H:Hp}{s:Shared}{a:Addr}{kvs:List (Key × V)}{A:Around}{E:Value -> Shared -> Prop}
end
section
variable {X:Cx}{pins:List (Addr × Obj)}{σ:St}{H:Hp}{s:Shared}{a:Addr}{y:V}{u:Value}{A:Around}{E:Value -> Shared -> Prop}
end
end L2
namespace Att
open PySem PySem.W PySem.Calls PyProof.Rows
theorem ints_of_wellAll {P:Params}{h:Heap}:∀ (ns:List Int) (vs:List Value),WellAll P h vs (ns.map WData.int) -> IntsAre vs ns:=by
 intro ns
 induction ns with
 | nil =>
  intro vs w
  rw [List.map_nil] at w
  cases w
  exact .nil
 | cons n ns ih =>
  intro vs w
  rw [List.map_cons] at w
  cases w with
  | cons a b =>
   cases a
   exact .cons _ _ (ih _ b)
theorem script_of {l:OpenLaw}{n:Nat}(hn:l.most=some n){P:Params}{h:Heap}{args:List WData}{vals:List Value}
  (hpre:l.row.toRowW.claim.pre args=true) (hwl:WellAll P h vals args) :
  ∃ a vs ns,vals=[Value.ref a] /\ args=[WData.list (ns.map WData.int)] /\ h.get? a=some { cls:=.type "list",data:=.seq vs.toArray } /\ IntsAre vs ns /\ ns.length <= n:=by
 have hsh:WShape.hasAll [] args [.list .int]=true:=(pre_splitW hpre).1
 have hc:l.pre.holds [] { args:=args } = true:=(pre_splitW hpre).2
 obtain ⟨d,r,rfl,h1,h2⟩:=hasAllW_cons hsh
 obtain rfl:=hasAllW_nil h2
 obtain ⟨xs,rfl,h3⟩:=hasW_list h1
 obtain ⟨ns,rfl⟩:=items_int h3
 have hlen:ns.length <= n:=by
  unfold OpenLaw.pre at hc
  have h4:(WTm.not (.lt (.lit (.int (n:Int))) (.len (.arg 0)))).holds [] { args:=[.list (ns.map .int)] } = true:=by
   have h4:=(holds_andW hc).1
   rw [hn] at h4
   exact h4
  have h5:=condW_of h4 (w_not (w_lt w_lit (w_len_list (w_arg rfl))))
  rw [qC] at h5
  refine Nat.le_of_not_lt fun q=>?_
  have q':(n:Int) < ((ns.length:Nat):Int):=by omega
  first
   | (rw [decide_eq_true q'] at h5; exact absurd h5 (by decide))
   | (simp at h5; omega)
 cases hwl with
 | cons w1 w2 =>
  cases w2
  cases w1 with
  | list ho hall=>exact ⟨_,_,ns,rfl,rfl,ho,ints_of_wellAll ns _ hall,hlen⟩
theorem post_true (l:OpenLaw)(args:List WData):l.row.toRowW.claim.post args (.bool true) args=true :=
 postW_of (r:=l.row.toRowW) (X:=(true == true))
  (show WShape.has [] (.bool true) .bool=true by first | rfl | decide | simp [WShape.has,WShape.arms,WShape.armsAll])
  (show (WTm.eq .res (.lit (.bool true))).value [] { args:=args,res:=some (.bool true),after:=args } = some (.bool (true == true)) from w_eq_bool (w_res rfl) w_lit) rfl
theorem attach_call {l:OpenLaw}{n:Nat}{q:Program}{loose:List Str}{XP:(Str -> Option Value) -> Heap -> Prop}{YP:World -> Heap -> Prop}{d:DefRec}
  (hn:l.most=some n) (hdf:d.params.defaults=[])
  (call:∀ (w:World) (s₀ s₁:Shared) (mg mb:Str -> Option Value) (fa:Addr) (o:Obj) (pm cd doc:Value) (a:Addr) (vs:List Value) (ns:List Int),
   Ground q loose [] XP w s₀ mg mb s₁.heap -> YP w s₁.heap ->
   s₁.heap.get? fa=some o -> o.data = .func (docDef d.name d.params d.body d.scope pm cd doc) -> s₁.heap.CodeRec cd d.name -> mg d.name=some (.ref fa) ->
   s₁.heap.get? a=some { cls:=.type "list",data:=.seq vs.toArray } -> IntsAre vs ns -> ns.length <= n -> s₁.gens = #[] ->
   codeAny (model l.prog w) callerA (.call (.ref fa) ⟨[.ref a],[]⟩) (fun r s'=>r = .ok (.ret (.bool true)) /\ OldK s₁.heap s'.heap /\ s'.os=s₁.os /\ AllBare s'.gens) s₁) :
  WalkO q loose XP YP l.row.toRowW d [] (fun f vs=>PySem.call f vs):=by
 intro w s₀ s₁ mg mb G Y fa o pm cd doc dV kV ho hd hcd hD hmg hg args vals as hpre hlay hrd hwl hlo
 obtain rfl:dV = .none:=Dflts.none hD hdf
 obtain rfl:kV = .none:=Dflts.noKw hD
 obtain ⟨a,vs,ns,rfl,rfl,hobj,hints,hlen⟩:=script_of hn hpre hwl
 refine enter_call (codeAny_mono (call w s₀ s₁ mg mb fa o pm cd doc a vs ns G Y ho (fd_plain hd) hcd hmg hobj hints hlen hg) fun r s' hq=>?_)
 obtain ⟨rfl,h2,h3,h4⟩:=hq
 exact ⟨.inl ⟨.bool true,.bool true,[],rfl,fun _=>rfl,.bool true,post_true l _,fun _=>⟨List.Pairwise.nil,fun _ hm=>(nomatch hm)⟩⟩,h2,h3,h4⟩
section
variable {prog:Program}{w:World}{A:Around}{E:Value -> Shared -> Prop}{s:Shared}{K:Frag}
end
end Att
namespace L2
open PySem PySem.Spec PyProof.Rows
theorem vals_ints:∀ {vs:List Value}{ns:List Int},IntsAre vs ns -> Vals (ns.map V.int) vs
 | _,_,.nil=>.nil
 | _,_,.cons n t h=>.cons ⟨t,rfl⟩ (vals_ints h)
def Only (H:Hp):Prop:=∀ b,H b=none \/ ∃ o xs,H b=some (.frz o (.lst xs))
theorem law_call {P:Program}{w:World}{K:PySem.W.Frag}{mg mb:Str -> Option Value}{CX:CXT}{k:Nat}{fa a:Addr}{fd:FuncData}{x:Str}{sp:Sp}{s₁:Shared}{vs:List Value}{ns:List Int}
  (KX:K.In s₁.heap) (hns:s₁.heap.Ns mainGlobals mg) (hb:s₁.heap.Ns builtinsNs mb) (hbb:∀ x:Str,x ≠ "__name__" -> mb x=bootBuiltins x) (hlim:s₁.heap.NoLimit) (hg:s₁.gens = #[])
  (ha:s₁.heap.get? a=some { cls:=.type "list",data:=.seq vs.toArray }) (hi:IntsAre vs ns) (hl:ns.length <= sizeLine) (hr:Room k callerA)
  (F:∀ base:Heap,K.In base -> base.Ns mainGlobals mg -> FnOk P w K mg base CX k fa fd [x] sp) (hbind:∀ (s:Shared) (u:Value),BindsTo s fd ⟨[u],[]⟩ [(x,u)])
  (hsp:∀ H:Hp,Only H -> SqL K H a (ns.map V.int) -> sp [.ref a] H (fun v _=>v = .bl true) fun _ _ _=>False)
  (hCX:∀ H e s',CX [] H s₁ (fun _ _ _=>False) e s' -> False) :
  codeAny (model P w) callerA (.call (.ref fa) ⟨[.ref a],[]⟩) (fun r s'=>r = .ok (.ret (.bool true)) /\ OldK s₁.heap s'.heap /\ s'.os=s₁.os /\ AllBare s'.gens) s₁:=by
 have rv:=vals_ints hi
 have lenV:=hi.length
 -- from an abstract heap in which nothing but the script may be tracked
 have core:∀ H:Hp,Only H -> SqL K H a (ns.map V.int) -> HOk P w H s₁.heap -> (∀ b,H b ≠ none -> b=a) -> (H a ≠ none -> K.lookup a=none) ->
   codeAny (model P w) callerA (.call (.ref fa) ⟨[.ref a],[]⟩) (fun r s'=>r = .ok (.ret (.bool true)) /\ OldK s₁.heap s'.heap /\ s'.os=s₁.os /\ AllBare s'.gens) s₁:=by
  intro H hO hS hok hA hK
  have base_of:∀ {b:Addr} {o:Obj},s₁.heap.get? b=some o -> H b=none -> (hidT s₁.heap H).get? b=some o:=fun e n=>hidT_get e n
  have noA:∀ {b:Addr} {o:Obj} {es:Array DictEntry} {ep:Nat},s₁.heap.get? b=some o -> o.data = .dict es ep -> H b=none:=fun {b o es ep} e d=>by
   cases q:H b with
   | none=>rfl
   | some u =>
    have e':b=a:=hA b (by rw [q]; simp)
    subst e'
    rw [ha] at e; cases e
    have d':Data.seq vs.toArray _=Data.dict es ep:=d
    cases d'
  have nsK:∀ {b:Addr} {m:Str -> Option Value},s₁.heap.Ns b m -> (hidT s₁.heap H).Ns b m:=fun {b m} ⟨o,es,ep,e,d,r⟩=>⟨o,es,ep,base_of e (noA e d),d,r⟩
  have hKb:K.In (hidT s₁.heap H):=fun b o e=>base_of (KX b o e) (by
   cases q:H b with
   | none=>rfl
   | some u =>
    have e':b=a:=hA b (by rw [q]; simp)
    subst e'
    rw [hK (by rw [q]; simp)] at e; cases e)
  have hM:Mod K mg (hidT s₁.heap H):=⟨hKb,nsK hns,⟨mb,nsK hb,hbb⟩,let ⟨mc,h1,h2⟩:=hlim; ⟨mc,nsK h1,h2⟩⟩
  have e0:Env0 P w K mg (hidT s₁.heap H) callerA [] s₁ H:=⟨rfl,hM,fun b o e=>of_hidT e,Nat.le_of_eq (hidT_size _ _),trivial,fun b hb=>absurd (show b ∈ ([]:List Addr) from hb) (by simp),hok,.of_eq hg⟩
  refine codeAny_mono ((F _ hKb (nsK hns)).run callerA [] s₁ H ⟨[.ref a],[]⟩ [.ref a] [.ref a] _ _ hr e0 (hbind s₁ (.ref a)) (.cons rfl .nil) (hsp H hO hS)) fun r s' h=>?_
  cases r with
  | error e=>exact (hCX H e s' h).elim
  | ok fl =>
   cases fl with
   | next=>exact False.elim h
   | brk=>exact False.elim h
   | cont=>exact False.elim h
   | ret u =>
    obtain ⟨v,H',os,bare,un,hok',r',q⟩:=h
    have q':v = .bl true:=q
    subst q'
    obtain rfl:u=Value.bool true:=r'
    refine ⟨rfl,OldK.of_keep fun b o e=>?_,os,bare⟩
    cases q:H b with
    | none=>exact un.keep b o e q (by intro z; exact absurd (show b ∈ ([]:List Addr) from z) (by simp)) (by simp)
    | some u =>
     rcases hO b with z | ⟨ob,xs,z⟩
     ·rw [q] at z; cases z
     ·have z2:=un.frzs b ob _ z
      obtain ⟨e1,_⟩:=hok b _ z
      obtain ⟨e2,_⟩:=hok' b _ z2
      rw [e] at e1; cases e1
      exact e2
 cases hk:K.lookup a with
 | some o =>
  -- the script is one of the module's own objects
  have e:=KX a o hk
  rw [ha] at e
  cases e
  refine core (fun _=>none) (fun _=>.inl rfl) (.inr ⟨_,vs.toArray,_,hk,rfl,rfl,rfl,by rw [qM,lenV]; exact hl,by simpa using rv⟩) (fun b u z=>by have z':(none:Option HO)=some u:=z; cases z') (fun b z=>absurd rfl z) fun z=>absurd rfl z
 | none =>
  refine core (fun b=>if b=a then some (.frz { cls:=.type "list",data:=.seq vs.toArray } (.lst (ns.map V.int))) else none) (fun b=>?_) (.inl (.inr ⟨{ cls:=.type "list",data:=.seq vs.toArray },if_pos rfl⟩)) (fun b u z=>?_) (fun b z=>?_) fun _=>hk
  ·by_cases hb:b=a
   ·exact .inr ⟨_,_,if_pos hb⟩
   ·exact .inl (if_neg hb)
  ·by_cases hb:b=a
   ·have z':=(if_pos hb).symm.trans z
    cases z'
    subst hb
    exact ⟨ha,by rw [qC]; exact hl,vs,_,rv,ha⟩
   ·have z':=(if_neg hb).symm.trans z
    cases z'
  ·by_cases hb:b=a
   ·exact hb
   ·exact absurd (if_neg hb) z
end L2
namespace L2
open PySem PySem.Spec PyProof.Rows
theorem walk_of {l:PySem.W.OpenLaw}{n k:Nat}{q:Program}{loose:List Str}{XP:(Str -> Option Value) -> Heap -> Prop}{YP:World -> Heap -> Prop}{d:DefRec}{K:Params -> PySem.W.Frag}{CX:World -> CXT}{sp:World -> Sp}{x:Str}
  (hn:l.most=some n) (hn2:n <= sizeLine) (hdf:d.params.defaults=[]) (hr:Room k callerA)
  (hY:∀ (w:World) (h:Heap),YP w h -> (K w.params).In h)
  (F:∀ (w:World) (mg:Str -> Option Value) (fa:Addr) (h:Heap),(K w.params).In h -> h.Ns mainGlobals mg -> mg d.name=some (.ref fa) ->
   ∃ fd:FuncData,(∀ (s:Shared) (u:Value),BindsTo s fd ⟨[u],[]⟩ [(x,u)]) /\
    ∀ base:Heap,(K w.params).In base -> base.Ns mainGlobals mg -> FnOk l.prog w (K w.params) mg base (CX w) k fa fd [x] (sp w))
  (hsp:∀ (w:World) (H:Hp) (a:Addr) (ns:List Int),ns.length <= n -> Only H -> SqL (K w.params) H a (ns.map V.int) -> sp w [.ref a] H (fun v _=>v = .bl true) fun _ _ _=>False)
  (hCX:∀ (w:World) (H:Hp) (s:Shared) (e:Value) (s':Shared),CX w [] H s (fun _ _ _=>False) e s' -> False) :
  PySem.W.WalkO q loose XP YP l.row.toRowW d [] (fun f vs=>PySem.call f vs):=by
 refine Att.attach_call hn hdf fun w s₀ s₁ mg mb fa o pm cd doc a vs ns G Y ho hd hcd hmg hobj hints hlen hg=>?_
 have KX:=hY w _ Y
 obtain ⟨fd,hb,hF⟩:=F w mg fa _ KX G.T.g hmg
 exact law_call KX G.T.g G.T.b G.T.builtins G.T.nolimit hg hobj hints (Nat.le_trans hlen hn2) hr hF hb (fun H hO hS=>hsp w H a ns hlen hO hS) fun H e s'=>hCX w H s₁ e s'
end L2
namespace L2
open PySem PySem.Spec PyProof.Rows
def defArgs (s:Stmt):Arguments:=match s with
 | .FunctionDef _ a _ _ _ _ _ _ _ _=>a
 | _=>{ posonlyargs:=[],args:=[],vararg:=none,kwonlyargs:=[],kw_defaults:=[],kwarg:=none,defaults:=[] }
def defBody (s:Stmt):List Stmt:=match s with
 | .FunctionDef _ _ b _ _ _ _ _ _ _=>b
 | _=>[]
def defScope (s:Stmt):Scope:=match s with
 | .FunctionDef _ _ _ _ _ _ sc _ _ _=>sc
 | _=>{ kind:=.function,names:=[],isGenerator:=false,isCoroutine:=false }
abbrev CX0:CXT:=fun _ _ _ _ _ _=>False
abbrev E0:XK:=fun _ _ _=>False
theorem pass0 {X:Cx}:Passes CX0 X E0:=fun _ _ _ _ _ _ _ h=>h.elim
structure Fun (K:PySem.W.Frag) (x qual:Str) (st:Stmt) (f:Addr) (fd:FuncData):Prop where
 ex:∃ (oc:Value) (od:Option Addr) (kV doc pm:Value) (an:Option Addr) (cdv ct:Value) (osl:Array (Option Value)),
  fd=PySem.W.fnOf x qual (defArgs st) (defBody st) (defScope st) .none kV doc pm an cdv ct /\ K.lookup f=some ⟨oc,od,.func fd,osl⟩ /\ PySem.W.codeIn K cdv qual=true
 kp:PySem.W.keepIn K (.ref f)=true
section
variable {P:Program}{w:World}{K:PySem.W.Frag}{mg:Str -> Option Value}{base:Heap}
theorem Fun.ok {x qual:Str}{st:Stmt}{f:Addr}{fd:FuncData}{N ps:List Str}{k:Nat}{sp:Sp}(F:Fun K x qual st f fd)(S:FnScope N ps (defScope st))(len:∀ vs H Q E,sp vs H Q E -> vs.length=ps.length)
  (hbody:∀ (cdv:Value) (A:Around) (outer:List Env) (s:Shared) (H:Hp) (vs:List V) (Q:VK) (E:XK),Room k (A.deeper (envOfC qual (defScope st) s.heap.objs.size f cdv)) -> sp vs H Q E ->
   ∃ t,PSs (cxOf CX0 P w K mg base N qual (defScope st) f cdv A outer s H E).nox (defBody st) t /\ t { nx:=fun _ H'=>Q .non H',rt:=Q } (start N vs) H):FnOk P w K mg base CX0 (k+1) f fd ps sp:=by
 obtain ⟨oc,od,kV,doc,pm,an,cdv,ct,osl,rfl,lk,hcd⟩:=F.ex
 refine fn_of lk hcd S len fun A outer s H vs Q E hr hsp=>?_
 obtain ⟨t,h,q⟩:=hbody cdv A outer s H vs Q E hr hsp
 exact ⟨t,h.nox,q⟩
theorem Fun.binds {x qual:Str}{st:Stmt}{f:Addr}{fd:FuncData}{ps:List Str}(F:Fun K x qual st f fd)
  (h:∀ (kV doc pm:Value) (an:Option Addr) (cdv ct:Value) (us:List Value),us.length=ps.length -> bindArgs (PySem.W.fnOf x qual (defArgs st) (defBody st) (defScope st) .none kV doc pm an cdv ct) ⟨us,[]⟩=pure (ps.zip us)):Binds K fd ps []:=by
 obtain ⟨oc,od,kV,doc,pm,an,cdv,ct,osl,rfl,lk,hcd⟩:=F.ex
 exact .all (h kV doc pm an cdv ct)
theorem fun_mk {x qual:Str}{st:Stmt}{f:Addr}{oc:Value}{od an:Option Addr}{osl:Array (Option Value)}{kV doc pm cdv ct:Value}(l:K.lookup f=some ⟨oc,od,.func (PySem.W.fnOf x qual (defArgs st) (defBody st) (defScope st) .none kV doc pm an cdv ct),osl⟩)
  (c:PySem.W.codeIn K cdv qual=true) (k:PySem.W.keepIn K (.ref f)=true):Fun K x qual st f (PySem.W.fnOf x qual (defArgs st) (defBody st) (defScope st) .none kV doc pm an cdv ct):=⟨⟨oc,od,kV,doc,pm,an,cdv,ct,osl,rfl,l,c⟩,k⟩
end
theorem small1000 {n:Nat}(h:n <= 1000):n < sizeLine:=Nat.lt_of_le_of_lt h (by decide)
section
variable {X:Cx}
theorem pv (i:Nat) {x:Str} {pos:Pos} (hN:X.N[i]? = some x:=by rfl) (hv:Vis X.env.scope x:=by first | exact Or.inl rfl | exact Or.inr (Or.inl rfl) | exact Or.inr (Or.inr rfl)) (hd:(x == ("__debug__" : Str))=false:=by decide)
  (hcd:(x == ("__classdict__" : Str))=false:=by decide):PE X (.Name x pos) (tVar i):=pe_var hN hv hd hcd
end
theorem ite2 {c A B:Prop}[Decidable c](h1:c -> A)(h2:¬ c -> B):if c then A else B:=by
 by_cases h:c
 ·rw [if_pos h]
  exact h1 h
 ·rw [if_neg h]
  exact h2 h
def Same (H H':Hp):Prop:=∀ b o,H b=some o -> H' b=some o
theorem Same.refl (H:Hp):Same H H:=fun _ _ h=>h
theorem Same.trans {H H1 H2:Hp}(a:Same H H1)(b:Same H1 H2):Same H H2:=fun c o h=>b c o (a c o h)
theorem Same.free {H H':Hp}(e:Same H H'){l:Addr}(h:H' l=Option.none):H l=Option.none:=by
 cases q:H l with
 | none=>rfl
 | some o =>
  rw [e l o q] at h
  cases h
theorem Same.seq {K:PySem.W.Frag}{H H':Hp}{a:Addr}{xs:List V}(e:Same H H')(h:SqL K H a xs):SqL K H' a xs:=by
 rcases h with (h | ⟨o,h⟩) | h
 ·exact .inl (.inl (e _ _ h))
 ·exact .inl (.inr ⟨o,e _ _ h⟩)
 ·exact .inr h
end L2
namespace L2
open PySem PySem.Spec PyProof.Rows
section
variable {X:Cx}
end
end L2
namespace L2
open PySem PySem.Spec PyProof.Rows
section
variable {κ:Type}[DecidableEq κ]
end
end L2
set_option Elab.async false
set_option linter.all false
set_option maxRecDepth 100000
namespace L2
open PySem PySem.Spec PyProof.Rows
section
variable {σ:St}{H:Hp}{Q:VK}{D:Ends}
theorem w_var {i:Nat}:tVar i σ H Q = ∃ v,σ[i]? = some (some v) /\ Q v H:=rfl
theorem w_C {v:V}:tC v σ H Q=Q v H:=rfl
theorem w_op {r:R2}{ta tb:TE}:tOp r ta tb σ H Q=ta σ H fun x H1=>tb σ H1 fun y H2=>r x y H2 Q:=rfl
theorem w_un {r:V -> Hp -> VK -> Prop}{ta:TE}:tUn r ta σ H Q=ta σ H fun x H1=>r x H1 Q:=rfl
theorem w_rI {C:Int -> Int -> Prop}{g:Int -> Int -> V}{i j:Int}:rI C g (.int i) (.int j) H Q=(C i j /\ Q (g i j) H) :=
 propext ⟨fun ⟨a,b,e1,e2,c,q⟩=>by cases e1; cases e2; exact ⟨c,q⟩,fun ⟨c,q⟩=>⟨i,j,rfl,rfl,c,q⟩⟩
theorem w_rI0 {g:Int -> Int -> V}{i j:Int}:rI0 g (.int i) (.int j) H Q=Q (g i j) H :=
 propext ⟨fun ⟨a,b,e1,e2,q⟩=>by cases e1; cases e2; exact q,fun q=>⟨i,j,rfl,rfl,q⟩⟩
theorem w_rU {g:Int -> V}{i:Int}:rU g (.int i) H Q=Q (g i) H :=
 propext ⟨fun ⟨a,e1,q⟩=>by cases e1; exact q,fun q=>⟨i,rfl,q⟩⟩
theorem w_eqI {i j:Int}:rEq (.int i) (.int j) H Q=Q (.bl (decide (i=j))) H :=
 propext (by
  have e:decide (V.int i=V.int j)=decide (i=j):=by by_cases h:i=j <;> simp [h]
  unfold rEq; rw [e]; exact ⟨fun h=>h.2,fun h=>⟨rfl,h⟩⟩)
theorem w_neI {i j:Int}:rNe (.int i) (.int j) H Q=Q (.bl (!decide (i=j))) H :=
 propext (by
  have e:decide (V.int i=V.int j)=decide (i=j):=by by_cases h:i=j <;> simp [h]
  unfold rNe; rw [e]; exact ⟨fun h=>h.2,fun h=>⟨rfl,h⟩⟩)
theorem w_seq {t u:TS}:tSeq t u D σ H=t { D with nx:=u D } σ H:=rfl
theorem w_next:tNext D σ H=D.nx σ H:=rfl
theorem w_break:tBreak D σ H=D.bk σ H:=rfl
theorem w_cont:tCont D σ H=D.ct σ H:=rfl
theorem w_ifS {c:TT}{t u:TS}:tIfS c t u D σ H=c σ H fun b H1=>if b=true then t D σ H1 else u D σ H1:=rfl
theorem w_ret {te:TE}:tRet te D σ H=te σ H D.rt:=rfl
theorem w_retN:tRetN D σ H=D.rt .non H:=rfl
theorem w_drop {te:TE}:tDrop te D σ H=te σ H fun _ H1=>D.nx σ H1:=rfl
theorem w_asg {te:TE}{g:TG}:tAsg te g D σ H=te σ H fun x H1=>g x σ H1 D.nx:=rfl
theorem w_gName {i:Nat}{v:V}{R:St -> Hp -> Prop}:gName i v σ H R=R (σ.set i (some v)) H:=rfl
theorem w_gSub {to ti:TE}{t:TSet}{v:V}{R:St -> Hp -> Prop}:gSub to ti t v σ H R=to σ H fun o H1=>ti σ H1 fun i H2=>t o i v H2 fun H3=>R σ H3:=rfl
theorem w_test {t:TE}{R:Bool -> Hp -> Prop}:tTest t σ H R=t σ H fun x H'=>∃ k,x = .bl k /\ R k H':=rfl
theorem w_B {t:TE}{R:Bool -> Hp -> Prop}:tB t σ H R=t σ H fun x H'=>∃ k,x = .bl k /\ R k H':=rfl
theorem w_and {t u:TT}{R:Bool -> Hp -> Prop}:tAnd t u σ H R=t σ H fun c H1=>if c=true then u σ H1 R else R false H1:=rfl
theorem w_or {t u:TT}{R:Bool -> Hp -> Prop}:tOr t u σ H R=t σ H fun c H1=>if c=true then R true H1 else u σ H1 R:=rfl
theorem w_not {t:TT}{R:Bool -> Hp -> Prop}:tNot t σ H R=t σ H fun c H1=>R (!c) H1:=rfl
theorem w_andV {ta tb:TE}:tAndV ta tb σ H Q=ta σ H fun x H1=>∃ c,x = .bl c /\ if c=true then tb σ H1 Q else Q (.bl false) H1:=rfl
theorem w_orV {ta tb:TE}:tOrV ta tb σ H Q=ta σ H fun x H1=>∃ c,x = .bl c /\ if c=true then Q (.bl true) H1 else tb σ H1 Q:=rfl
theorem w_notV {ta:TE}:tNotV ta σ H Q=ta σ H fun x H1=>∃ c,x = .bl c /\ Q (.bl (!c)) H1:=rfl
theorem w_if {t:TT}{ta tb:TE}:tIf t ta tb σ H Q=t σ H fun c H1=>if c=true then ta σ H1 Q else tb σ H1 Q:=rfl
theorem w_call {sp:Sp}{dvs:List V}{E:XK}{t:TA}:tCall sp dvs E t σ H Q=t σ H fun vs H1=>sp (vs ++ dvs) H1 Q E:=rfl
theorem w_nil {R:List V -> Hp -> Prop}:tNil σ H R=R [] H:=rfl
theorem w_cons {ta:TE}{tr:TA}{R:List V -> Hp -> Prop}:tCons ta tr σ H R=ta σ H fun x H1=>tr σ H1 fun xs H2=>R (x :: xs) H2:=rfl
theorem w_CB {r:List V -> Hp -> VK -> Prop}{t:TA}:tCB r t σ H Q=t σ H fun vs H1=>r vs H1 Q:=rfl
theorem w_lst {t:TA}:tLst t σ H Q=t σ H fun xs H1=>xs.length <= sizeLine /\ ∀ p,H1 p=none -> Q (.ref p) (upd H1 p (.lst xs)):=rfl
theorem w_tup {t:TA}:tTup t σ H Q=t σ H fun xs H1=>xs.length <= sizeLine /\ ∀ p,H1 p=none -> Q (.ref p) (upd H1 p (.tup xs)):=rfl
theorem w_isN {ta:TE}:tIsN ta σ H Q=ta σ H fun x H1=>Q (.bl (decide (x = .non))) H1:=rfl
theorem w_notN {ta:TE}:tNotN ta σ H Q=ta σ H fun x H1=>Q (.bl (!decide (x = .non))) H1:=rfl
theorem w_chain {r r':R2}{ta tb tc:TE}:tChain r r' ta tb tc σ H Q=(ta σ H fun x H1=>tb σ H1 fun y H2=>r x y H2 fun z H3=>∃ k,z = .bl k /\
 if k=true then tc σ H3 fun w H4=>r' y w H4 Q else Q (.bl false) H3):=by first | rfl | (unfold tChain; rfl)
end
section
variable {X:Cx}{st:Stmt}{rest:List Stmt}{t u:TS}
def tMid (t u:TS):TS:=fun D σ H=>∃ mid:St -> Hp -> Prop,t { D with nx:=mid } σ H /\ ∀ σ' H',mid σ' H' -> u D σ' H'
theorem pss_mid (h1:PS X st t)(h2:PSs X rest u):PSs X (st :: rest) (tMid t u):=by
 intro pins s σ H D I h
 obtain ⟨mid,q,k⟩:=h
 refine wpAny_execs_cons (thn (h1 pins s σ H { D with nx:=mid } I q) fun f s1 q=>?_)
 cases f with
 | next =>
  obtain ⟨σ',H',I',q⟩:=q
  exact h2 pins s1 σ' H' D I' (k _ _ q)
 | ret v=>exact q
 | brk=>exact q
 | cont=>exact q
end
structure Cal (P:Program) (w:World) (K:PySem.W.Frag) (mg:Str -> Option Value) (base:Heap) (k:Nat) (x:Str) (ps:List Str) (sp:Sp):Prop where
 ex:∃ (f:Addr) (fd:FuncData),FnOk P w K mg base CX0 k f fd ps sp /\ mg x=some (.ref f) /\ PySem.W.keepIn K (.ref f)=true /\ Binds K fd ps []
theorem Cal.mono {P:Program}{w:World}{K:PySem.W.Frag}{mg:Str -> Option Value}{base:Heap}{j k:Nat}{x:Str}{ps:List Str}{sp:Sp}(C:Cal P w K mg base j x ps sp)(h:j <= k):Cal P w K mg base k x ps sp:=by
 obtain ⟨f,fd,a,b,c,d⟩:=C.ex
 exact ⟨f,fd,a.mono h,b,c,d⟩
theorem Cal.imp {P:Program}{w:World}{K:PySem.W.Frag}{mg:Str -> Option Value}{base:Heap}{k:Nat}{x:Str}{ps:List Str}{sp sp':Sp}(C:Cal P w K mg base k x ps sp)(h:∀ vs H Q E,sp' vs H Q E -> sp vs H Q E):Cal P w K mg base k x ps sp':=by
 obtain ⟨f,fd,a,b,c,d⟩:=C.ex
 exact ⟨f,fd,a.imp h,b,c,d⟩
section
variable {X:Cx}{k:Nat}{x:Str}{ps:List Str}{sp:Sp}{e:Expr}{es:List Expr}{t:TA}{p pos:Pos}
theorem pe_cal (C:Cal X.prog X.w X.K X.mg X.base k x ps sp) (hr:Room k X.A) (hg:Gl X x) (ha:PA X (e :: es) t) (hd:(x == ("__debug__" : Str))=false:=by decide)
  (he:starEach (e :: es) X.env=(false,eval e X.env) :: starEach es X.env:=by rfl) (hpl:(backTo pos (starEach es X.env)).any (·.1)=false:=by rfl):PE X (.Call (.Name x p) (e :: es) [] pos) (tCall sp [] E0 t):=by
 obtain ⟨f,fd,a,b,c,d⟩:=C.ex
 exact pe_call a hr hg b c d .nil pass0 ha hd he hpl
end
theorem bits_le {i:Int}{n:Nat}(h:i.natAbs < 2 ^ n):Builtin.Int.intBits i <= n:=by
 unfold Builtin.Int.intBits
 split
 ·exact Nat.zero_le _
 ·rename_i h0
  have hp:i.natAbs ≠ 0:=by
   intro z
   exact h0 (by simpa using z)
  have:i.natAbs.log2 < n:=(Nat.log2_lt hp).mpr h
  omega
def CShl (i j:Int):Prop:=0 <= j /\ j <= 1000000 /\ Builtin.Int.intBits i <= 1000000
def CDivB (i j:Int):Prop:=0 < j /\ j.natAbs.log2 < 9000
section
variable {X:Cx}
theorem op_shlB:OpR X (binaryOp .LShift) (rI CShl fun i j=>.int (i * 2 ^ j.toNat)):=opI fun i j _ _ _ _ _ hc q=>lshift_int hc.1 (by have h1:=hc.2.1; have h2:=hc.2.2; omega) q
theorem op_mulB:OpR X (binaryOp .Mult) (rI IntMulOk fun i j=>.int (i * j)):=opI fun _ _ _ _ _ _ _ hc q=>mul_int q hc
theorem op_fdivB:OpR X (binaryOp .FloorDiv) (rI CDivB fun i j=>.int (i / j)):=opI fun i j _ _ _ _ _ hc q=>by
 have e:i / j=i.fdiv j:=(Int.fdiv_eq_ediv_of_nonneg i (Int.le_of_lt hc.1)).symm
 rw [e] at q
 exact floordiv_int (by have:=hc.1; omega) q (.inl (PyProof.noPylong_of_log2 hc.2))
def rIsI (K:PySem.W.Frag):List V -> Hp -> VK -> Prop:=fun xs H Q=>∃ x T t b,xs=[x,.ty T] /\ TyOf K H x t /\ PySem.W.kitOne K t (.type T)=some b /\ Q (.bl b) H
end
theorem mul_l {i j:Int}(h1:-(2 ^ 64) < i)(h2:i < 2 ^ 64):IntMulOk i j:=.of_left (intBits_le_64 h1 h2)
theorem mul_r {i j:Int}(h1:-(2 ^ 64) < j)(h2:j < 2 ^ 64):IntMulOk i j:=.of_right (intBits_le_64 h1 h2)
theorem mul_b {i j:Int}{m n:Nat}(h1:i.natAbs < 2 ^ m)(h2:j.natAbs < 2 ^ n)(h:m+n <= 2 ^ 27):IntMulOk i j:=by
 have a:=bits_le h1
 have b:=bits_le h2
 unfold IntMulOk
 have c:Builtin.Int.intTooBig (((Builtin.Int.intBits i+Builtin.Int.intBits j:Nat):Int))=false:=decide_eq_false (Int.not_lt.mpr (show ((Builtin.Int.intBits i+Builtin.Int.intBits j:Nat):Int) <= 2 ^ 27 by omega))
 intro z
 rw [Bool.and_eq_true] at z
 have z2:=z.2
 first | (rw [show ((Builtin.Int.intBits i:Nat):Int)+((Builtin.Int.intBits j:Nat):Int)=((Builtin.Int.intBits i+Builtin.Int.intBits j:Nat):Int) from rfl,c] at z2; cases z2) | (simp [c] at z2)
theorem kit_same {K:PySem.W.Frag}(T:String):PySem.W.kitOne K (.type T) (.type T)=some true:=by unfold PySem.W.kitOne; rw [if_pos (by simp)]
theorem kit_int_bool {K:PySem.W.Frag}:PySem.W.kitOne K (.type "int") (.type "bool")=some false:=by first | rfl | decide +kernel | (unfold PySem.W.kitOne PySem.W.kitCls; decide +kernel)
theorem kit_bool_int {K:PySem.W.Frag}:PySem.W.kitOne K (.type "bool") (.type "int")=some true:=by first | rfl | decide +kernel
theorem kit_non_int {K:PySem.W.Frag}:PySem.W.kitOne K (.type "NoneType") (.type "int")=some false:=by first | rfl | decide +kernel
theorem kit_str_int {K:PySem.W.Frag}:PySem.W.kitOne K (.type "str") (.type "int")=some false:=by first | rfl | decide +kernel
end L2
set_option Elab.async false
set_option linter.all false
set_option maxRecDepth 100000
namespace L2
open PySem PySem.Spec PyProof.Rows
theorem bo_len:bootBuiltins "len" = some (.builtin "len"):=by decide +kernel
theorem bo_abs:bootBuiltins "abs" = some (.builtin "abs"):=by decide +kernel
theorem bo_min:bootBuiltins "min" = some (.builtin "min"):=by decide +kernel
theorem bo_max:bootBuiltins "max" = some (.builtin "max"):=by decide +kernel
theorem bo_sum:bootBuiltins "sum" = some (.builtin "sum"):=by decide +kernel
theorem bo_int:bootBuiltins "int" = some (.type "int"):=by decide +kernel
theorem bo_list:bootBuiltins "list" = some (.type "list"):=by decide +kernel
theorem bo_tuple:bootBuiltins "tuple" = some (.type "tuple"):=by decide +kernel
theorem bo_zip:bootBuiltins "zip" = some (.type "zip"):=by decide +kernel
theorem bo_reversed:bootBuiltins "reversed" = some (.type "reversed"):=by decide +kernel
def CPowB (i j:Int):Prop:=0 <= j /\ j <= 1000000 /\ -(2 ^ 64) < i /\ i < 2 ^ 64
section
variable {X:Cx}
theorem op_powB:OpR X (binaryOp .Pow) (rI CPowB fun i j=>.int (i ^ j.toNat)):=opI fun i j _ _ _ _ _ hc q=>pow_int_small hc.1 hc.2.1 (by have h1:=hc.2.2.1; have h2:=hc.2.2.2; omega) q
end
theorem w_shl1 {j:Int}:CShl 1 j=(0 <= j /\ j <= 1000000):=propext ⟨fun h=>⟨h.1,h.2.1⟩,fun h=>⟨h.1,h.2,Nat.le_trans (bits_le (n:=1) (by decide)) (by decide)⟩⟩
theorem divB {i j:Int}(h:0 < j)(h2:j < 2 ^ 64):CDivB i j:=⟨h,by
 have e:j.natAbs < 2 ^ 64:=by omega
 have e2:j.natAbs ≠ 0:=by omega
 have:=(Nat.log2_lt e2).mpr e
 omega⟩
section
variable {P:Program}{w:World}{K:PySem.W.Frag}{mg:Str -> Option Value}{base:Heap}
theorem mkCal {x qual:Str}{st:Stmt}{N ps:List Str}{k:Nat}{sp:Sp}(T:∃ (f:Addr) (fd:FuncData),Fun K x qual st f fd /\ mg x=some (.ref f) /\ Binds K fd ps [])(S:FnScope N ps (defScope st))(len:∀ vs H Q E,sp vs H Q E -> vs.length=ps.length)
  (hbody:∀ (f:Addr) (cdv:Value) (A:Around) (outer:List Env) (s:Shared) (H:Hp) (vs:List V) (Q:VK) (E:XK),Room k (A.deeper (envOfC qual (defScope st) s.heap.objs.size f cdv)) -> sp vs H Q E ->
   ∃ t,PSs (cxOf CX0 P w K mg base N qual (defScope st) f cdv A outer s H E).nox (defBody st) t /\ t { nx:=fun _ H'=>Q .non H',rt:=Q } (start N vs) H):Cal P w K mg base (k+1) x ps sp:=by
 obtain ⟨f,fd,F,m,b⟩:=T
 exact ⟨f,fd,F.ok S len fun cdv A outer s H vs Q E hr h=>hbody f cdv A outer s H vs Q E hr h,m,F.kp,b⟩
end
def Chg (p:Addr)(H H':Hp):Prop:=∀ b o,b ≠ p -> H b=some o -> H' b=some o
theorem Chg.trans {p:Addr}{H H1 H2:Hp}(a:Chg p H H1)(b:Chg p H1 H2):Chg p H H2:=fun c o n h=>b c o n (a c o n h)
theorem Same.chg {p:Addr}{H H':Hp}(h:Same H H'):Chg p H H':=fun b o _ q=>h b o q
theorem Chg.upd {p:Addr}{H:Hp}(o:HO):Chg p H (upd H p o):=fun b u n q=>by rw [upd_ne n]; exact q
theorem same_new {H:Hp}{p:Addr}(h:H p=none)(o:HO):Same H (upd H p o):=fun b u q=>by rw [upd_ne (ne_of_none q h)]; exact q
def Scr (K:PySem.W.Frag)(H:Hp)(a:Addr)(ns:List Int):Prop :=
 (∃ o,H a=some (.frz o (.lst (ns.map V.int)))) \/ (∃ (o:Obj) (its:Array Value) (n:Nat),K.lookup a=some o /\ o.cls = .type "list" /\ o.dict=none /\ o.data = .seq its n /\ its.size <= sizeLine /\ Vals (ns.map V.int) its.toList)
section
variable {K:PySem.W.Frag}{H H':Hp}{a p:Addr}{ns:List Int}
theorem Scr.sq (h:Scr K H a ns):SqL K H a (ns.map V.int):=by
 rcases h with h | h
 ·exact .inl (.inr h)
 ·exact .inr h
theorem scr_of (hO:Only H)(hS:SqL K H a (ns.map V.int)):Scr K H a ns:=by
 rcases hS with (h | h) | h
 ·rcases hO a with z | ⟨o,xs,z⟩
  ·rw [z] at h; cases h
  ·rw [z] at h; cases h
 ·exact .inl h
 ·exact .inr h
theorem Scr.same (h:Scr K H a ns)(s:Same H H'):Scr K H' a ns:=by
 rcases h with ⟨o,h⟩ | h
 ·exact .inl ⟨o,s _ _ h⟩
 ·exact .inr h
theorem Scr.chg {xs:List V}(h:Scr K H a ns)(hp:H p=some (.lst xs))(s:Chg p H H'):Scr K H' a ns:=by
 rcases h with ⟨o,h⟩ | h
 ·exact .inl ⟨o,s _ _ (ne_of h hp (by intro z; cases z)) h⟩
 ·exact .inr h
end
def spLaw (K:PySem.W.Frag):Sp:=fun vs H Q _=>∃ (a:Addr) (ns:List Int),vs=[.ref a] /\ Scr K H a ns /\ ns.length <= 63 /\ ∀ H',Q (.bl true) H'
theorem atI_int {ns:List Int}{i:Int}(h0:0 <= i)(h1:i < (ns.length:Int)):∃ v:Int,atI (ns.map V.int) i=some (.int v) /\ ns[i.toNat]? = some v:=by
 have hk:i.toNat < ns.length:=by omega
 have e:i=((i.toNat:Nat):Int):=by omega
 have q:atI (ns.map V.int) ((i.toNat:Nat):Int)=some (.int ns[i.toNat]):=atI_nat (by rw [qI,qA hk] <;> rfl)
 rw [← e] at q
 exact ⟨ns[i.toNat],q,qA hk⟩
def lim:Nat -> Int
 | 0=>11
 | n+1=>1000000 * (lim n - 1)
def rIxM:R2:=fun x y H Q=>∃ p xs i v,x = .ref p /\ y = .int i /\ H p=some (.lst xs) /\ atI xs i=some v /\ Q v H
def rIxU:R2:=fun x y H Q=>∃ p xs i v,x = .ref p /\ y = .int i /\ H p=some (.tup xs) /\ atI xs i=some v /\ Q v H
section
variable {X:Cx}
theorem IxR.mono {r r':R2}(h:IxR X r)(m:∀ x y H Q,r' x y H Q -> r x y H Q):IxR X r':=fun va sl pins s σ H x y v u Q I rx ry q hs=>h va sl pins s σ H x y v u Q I rx ry (m _ _ _ _ q) hs
theorem ix_M:IxR X rIxM:=ix_list.mono fun x y H Q ⟨p,xs,i,v,e1,e2,h,a,q⟩=>⟨p,xs,i,v,e1,e2,SqL.of h,a,q⟩
theorem ix_U:IxR X rIxU:=ix_tup.mono fun x y H Q ⟨p,xs,i,v,e1,e2,h,a,q⟩=>⟨p,xs,i,v,e1,e2,SqT.of h,a,q⟩
theorem CallR.mono {f:Value}{r r':List V -> Hp -> VK -> Prop}(h:CallR X f r)(m:∀ xs H Q,r' xs H Q -> r xs H Q):CallR X f r':=fun pins s σ H xs us Q I rx q=>h pins s σ H xs us Q I rx (m _ _ _ q)
theorem call_lenM:CallR X (.builtin "len") (fun xs H Q=>∃ p ys,xs=[.ref p] /\ H p=some (.lst ys) /\ Q (.int ys.length) H):=call_len_seq.mono fun xs H Q ⟨p,ys,e,h,q⟩=>⟨p,ys,e,.inl (SqL.of h),q⟩
theorem call_lenS:CallR X (.builtin "len") (fun xs H Q=>∃ p ys,xs=[.ref p] /\ SqL X.K H p ys /\ Q (.int ys.length) H):=call_len_seq.mono fun xs H Q ⟨p,ys,e,h,q⟩=>⟨p,ys,e,.inl h,q⟩
end
section
variable {H:Hp}{Q:VK}
theorem w_ixM {p:Addr}{i:Int}:rIxM (.ref p) (.int i) H Q = ∃ xs,H p=some (.lst xs) /\ ∃ v,atI xs i=some v /\ Q v H :=
 propext ⟨fun ⟨p',xs,i',v,e1,e2,h,a,q⟩=>by cases e1; cases e2; exact ⟨xs,h,v,a,q⟩,fun ⟨xs,h,v,a,q⟩=>⟨p,xs,i,v,rfl,rfl,h,a,q⟩⟩
theorem w_ixU {p:Addr}{i:Int}:rIxU (.ref p) (.int i) H Q = ∃ xs,H p=some (.tup xs) /\ ∃ v,atI xs i=some v /\ Q v H :=
 propext ⟨fun ⟨p',xs,i',v,e1,e2,h,a,q⟩=>by cases e1; cases e2; exact ⟨xs,h,v,a,q⟩,fun ⟨xs,h,v,a,q⟩=>⟨p,xs,i,v,rfl,rfl,h,a,q⟩⟩
theorem w_ixL {K:PySem.W.Frag}{p:Addr}{i:Int}:rIxL K (.ref p) (.int i) H Q = ∃ xs,SqL K H p xs /\ ∃ v,atI xs i=some v /\ Q v H :=
 propext ⟨fun ⟨p',xs,i',v,e1,e2,h,a,q⟩=>by cases e1; cases e2; exact ⟨xs,h,v,a,q⟩,fun ⟨xs,h,v,a,q⟩=>⟨p,xs,i,v,rfl,rfl,h,a,q⟩⟩
theorem w_setL {p:Addr}{k:Int}{v:V}{R:Hp -> Prop}:rSetL (.ref p) (.int k) v H R = ∃ xs,H p=some (.lst xs) /\ ∃ j,ixN xs.length k=some j /\ R (upd H p (.lst (xs.set j v))) :=
 propext ⟨fun ⟨p',xs,k',j,e1,e2,h,a,q⟩=>by cases e1; cases e2; exact ⟨xs,h,j,a,q⟩,fun ⟨xs,h,j,a,q⟩=>⟨p,xs,k,j,rfl,rfl,h,a,q⟩⟩
end
theorem at_0 {α:Type}{a:α}{l:List α}:atI (a :: l) 0=some a:=atI_nat (j:=0) rfl
theorem at_1 {α:Type}{a b:α}{l:List α}:atI (a :: b :: l) 1=some b:=atI_nat (j:=1) rfl
theorem at_2 {α:Type}{a b c:α}{l:List α}:atI (a :: b :: c :: l) 2=some c:=atI_nat (j:=2) rfl
theorem at_3 {α:Type}{a b c d:α}{l:List α}:atI (a :: b :: c :: d :: l) 3=some d:=atI_nat (j:=3) rfl
theorem ixN_0 {n:Nat}:ixN (n+1) 0=some 0:=by unfold ixN; rw [if_pos (Int.le_refl 0),if_pos (by omega)]; rfl
theorem ixN_1 {n:Nat}:ixN (n+1+1) 1=some 1:=by unfold ixN; rw [if_pos (by decide),if_pos (by omega)]; rfl
theorem ixN_2 {n:Nat}:ixN (n+1+1+1) 2=some 2:=by unfold ixN; rw [if_pos (by decide),if_pos (by omega)]; rfl
section
variable {CX:CXT}{P:Program}{w:World}{K:PySem.W.Frag}{mg:Str -> Option Value}{base:Heap}{N:List Str}{qual:Str}{scope:Scope}{f:Addr}{cd:Value}{A:Around}{outer:List Env}{s:Shared}{H:Hp}{E:XK}
theorem w_cxK:(cxOf CX P w K mg base N qual scope f cd A outer s H E).K=K:=rfl
end
theorem le_size {n:Nat}(h:n <= 1000):n <= sizeLine:=Nat.le_of_lt (small1000 h)
theorem sl_1:(0+1 <= sizeLine)=True:=eq_true (le_size (by decide))
theorem sl_2:(0+1+1 <= sizeLine)=True:=eq_true (le_size (by decide))
theorem sl_3:(0+1+1+1 <= sizeLine)=True:=eq_true (le_size (by decide))
theorem sl_4:(0+1+1+1+1 <= sizeLine)=True:=eq_true (le_size (by decide))
theorem sl_5:(0+1+1+1+1+1 <= sizeLine)=True:=eq_true (le_size (by decide))
theorem sl_6:(0+1+1+1+1+1+1 <= sizeLine)=True:=eq_true (le_size (by decide))
theorem sl_7:(0+1+1+1+1+1+1+1 <= sizeLine)=True:=eq_true (le_size (by decide))
theorem sl_8:(0+1+1+1+1+1+1+1+1 <= sizeLine)=True:=eq_true (le_size (by decide))
theorem sl_0:(0 <= sizeLine)=True:=eq_true (le_size (by decide))
theorem divq {g m:Int}(hg:0 <= g)(hm:0 < m):0 <= g / m:=Int.ediv_nonneg hg (Int.le_of_lt hm)
theorem modq {g m:Int}(hm:0 < m):0 <= g % m /\ g % m < m:=⟨Int.emod_nonneg _ (by omega),Int.emod_lt_of_pos _ hm⟩
def ForR (lo:Int)(n:Nat)(g:TG)(tb:TS)(D:Ends)(σ:St)(H:Hp):Prop:=∃ W:Nat -> Nat -> St -> Hp -> Prop,(∃ m,W 0 m σ H) /\ ∀ i m σ H,W i m σ H ->
 ((Itr lo n).stop i H /\ D.nx σ H) \/ ((Itr lo n).go i H /\ ∃ N:St -> Hp -> Prop,(∀ σ' H',N σ' H' -> ∃ m',m' < m /\ W (i+1) m' σ' H') /\ ∀ x H',(Itr lo n).yld i H x H' -> g x σ H' fun σ2 H2=>tb { D with nx:=N,ct:=N,bk:=D.nx } σ2 H2)
def ForL (K:PySem.W.Frag)(a:Addr)(g:TG)(tb:TS)(D:Ends)(σ:St)(H:Hp):Prop:=∃ W:Nat -> Nat -> St -> Hp -> Prop,(∃ m,W 0 m σ H) /\ ∀ i m σ H,W i m σ H ->
 ((Itl K a).stop i H /\ D.nx σ H) \/ ((Itl K a).go i H /\ ∃ N:St -> Hp -> Prop,(∀ σ' H',N σ' H' -> ∃ m',m' < m /\ W (i+1) m' σ' H') /\ ∀ x H',(Itl K a).yld i H x H' -> g x σ H' fun σ2 H2=>tb { D with nx:=N,ct:=N,bk:=D.nx } σ2 H2)
def ForT (K:PySem.W.Frag)(a:Addr)(g:TG)(tb:TS)(D:Ends)(σ:St)(H:Hp):Prop:=∃ W:Nat -> Nat -> St -> Hp -> Prop,(∃ m,W 0 m σ H) /\ ∀ i m σ H,W i m σ H ->
 ((Itt K a).stop i H /\ D.nx σ H) \/ ((Itt K a).go i H /\ ∃ N:St -> Hp -> Prop,(∀ σ' H',N σ' H' -> ∃ m',m' < m /\ W (i+1) m' σ' H') /\ ∀ x H',(Itt K a).yld i H x H' -> g x σ H' fun σ2 H2=>tb { D with nx:=N,ct:=N,bk:=D.nx } σ2 H2)
section
variable {σ:St}{H:Hp}{D:Ends}{g:TG}{tb:TS}{K:PySem.W.Frag}{a:Addr}
theorem w_for1 {ta:TA}:tFor (iRng1 ta) g tb D σ H=(ta σ H fun vs H1=>∃ j:Int,vs=[.int j] /\ -(2 ^ 62) <= j /\ j < 2 ^ 62 /\ ForR 0 j.toNat g tb D σ H1):=rfl
theorem w_forL {tl:TE}:tFor (iList K tl) g tb D σ H=(tl σ H fun x H1=>∃ a,x = .ref a /\ (∃ xs,SqL K H1 a xs) /\ ForL K a g tb D σ H1):=rfl
theorem w_forT {tl:TE}:tFor (iTup K tl) g tb D σ H=(tl σ H fun x H1=>∃ a,x = .ref a /\ (∃ xs,SqT K H1 a xs) /\ ForT K a g tb D σ H1):=rfl
theorem forR {lo:Int}{n:Nat}(Pv:Nat -> St -> Hp -> Prop)(h0:Pv 0 σ H)
  (hs:∀ i σ H (N:St -> Hp -> Prop),i < n -> Pv i σ H -> (∀ σ' H',Pv (i+1) σ' H' -> N σ' H') -> g (.int (lo+i)) σ H fun σ2 H2=>tb { D with nx:=N,ct:=N,bk:=D.nx } σ2 H2) (hd:∀ σ H,Pv n σ H -> D.nx σ H):ForR lo n g tb D σ H :=
 for_range Pv h0 (fun i σ H h p=>hs i σ H _ h p fun _ _ q=>q) hd
theorem forL {xs:List V}(Pv:Nat -> St -> Hp -> Prop)(h0:Pv 0 σ H)(hl:∀ i σ H,i <= xs.length -> Pv i σ H -> SqL K H a xs)
  (hs:∀ i x σ H (N:St -> Hp -> Prop),xs[i]? = some x -> Pv i σ H -> (∀ σ' H',Pv (i+1) σ' H' -> N σ' H') -> g x σ H fun σ2 H2=>tb { D with nx:=N,ct:=N,bk:=D.nx } σ2 H2) (hd:∀ σ H,Pv xs.length σ H -> D.nx σ H):ForL K a g tb D σ H:=for_list Pv h0 hl (fun i x σ H h p=>hs i x σ H _ h p fun _ _ q=>q) hd
end
theorem shl_ok {n s:Int}{k:Nat}(h0:0 <= s)(h1:s <= 1000000)(h:n.natAbs < 2 ^ k)(hk:k <= 1000000):CShl n s:=⟨h0,h1,Nat.le_trans (bits_le h) hk⟩
theorem abs_div {n:Int}{k:Nat}{d:Int}(hd:0 < d)(h:n.natAbs < 2 ^ k):(n / d).natAbs < 2 ^ k:=by
 refine Nat.lt_of_le_of_lt ?_ h
 have e1:n / d <= (n.natAbs:Int):=by
  rcases Int.lt_or_le n 0 with z | z
  ·have:=Int.ediv_neg_of_neg_of_pos z hd
   omega
  ·have:=Int.ediv_le_self d z
   omega
 have e2:-(n.natAbs:Int) <= n / d:=by
  rcases Int.lt_or_le n 0 with z | z
  ·have h1:n <= n / d:=by
    refine Int.le_ediv_of_mul_le hd ?_
    have:n * d <= n * 1:=Int.mul_le_mul_of_nonpos_left (Int.le_of_lt z) hd
    omega
   omega
  ·have:=Int.ediv_nonneg z (Int.le_of_lt hd)
   omega
 omega
theorem mid_of {t u:TS}{D:Ends}{σ:St}{H:Hp}(M:St -> Hp -> Prop)(h1:∀ N:St -> Hp -> Prop,(∀ σ H,M σ H -> N σ H) -> t { D with nx:=N } σ H)(h2:∀ σ H,M σ H -> u D σ H):tMid t u D σ H:=⟨M,h1 M fun _ _ q=>q,h2⟩
section
variable {K:PySem.W.Frag}{H:Hp}{Q:VK}
theorem isI_mk {x:V}{T:String}{t:Value}{b:Bool}(ty:TyOf K H x t)(u:∀ t',TyOf K H x t' -> t'=t)(k:PySem.W.kitOne K t (.type T)=some b):rIsI K [x,.ty T] H Q=Q (.bl b) H :=
 propext ⟨fun ⟨x',T',t',b',e,ty',k',q⟩=>by
  cases e
  rw [u _ ty',k] at k'
  cases k'
  exact q,fun q=>⟨x,T,t,b,rfl,ty,k,q⟩⟩
theorem kit_non_bool:PySem.W.kitOne K (.type "NoneType") (.type "bool")=some false:=by first | rfl | decide +kernel
theorem kit_str_bool:PySem.W.kitOne K (.type "str") (.type "bool")=some false:=by first | rfl | decide +kernel
theorem w_isI_ii {i:Int}:rIsI K [.int i,.ty "int"] H Q=Q (.bl true) H:=isI_mk (.int i) (fun _ h=>by cases h; rfl) (kit_same _)
theorem w_isI_ib {i:Int}:rIsI K [.int i,.ty "bool"] H Q=Q (.bl false) H:=isI_mk (.int i) (fun _ h=>by cases h; rfl) kit_int_bool
theorem w_isI_bi {i:Bool}:rIsI K [.bl i,.ty "int"] H Q=Q (.bl true) H:=isI_mk (.bl i) (fun _ h=>by cases h; rfl) kit_bool_int
theorem w_isI_bb {i:Bool}:rIsI K [.bl i,.ty "bool"] H Q=Q (.bl true) H:=isI_mk (.bl i) (fun _ h=>by cases h; rfl) (kit_same _)
theorem w_isI_ni:rIsI K [.non,.ty "int"] H Q=Q (.bl false) H:=isI_mk .non (fun _ h=>by cases h; rfl) kit_non_int
theorem w_isI_nb:rIsI K [.non,.ty "bool"] H Q=Q (.bl false) H:=isI_mk .non (fun _ h=>by cases h; rfl) kit_non_bool
theorem w_isI_si {x:Str}:rIsI K [.str x,.ty "int"] H Q=Q (.bl false) H:=isI_mk (.str x) (fun _ h=>by cases h; rfl) kit_str_int
theorem w_isI_sb {x:Str}:rIsI K [.str x,.ty "bool"] H Q=Q (.bl false) H:=isI_mk (.str x) (fun _ h=>by cases h; rfl) kit_str_bool
end
theorem pow_pos2 (k:Nat):(0:Int) < 2 ^ k:=Int.pow_pos (by decide)
theorem ediv_iff {n d:Int}:n / d * d=n ↔ d ∣ n:=⟨fun h=>⟨n / d,by rw [Int.mul_comm]; exact h.symm⟩,fun h=>Int.ediv_mul_cancel h⟩
end L2
set_option Elab.async false
set_option linter.all false
set_option maxRecDepth 100000
set_option maxHeartbeats 1000000
namespace L2
open PySem PySem.Spec PyProof.Rows
def closOf (scope:Scope)(env:Env):List (Str × Addr):=(scope.names.filterMap fun x=>if x.2 == .free then (env.cells.lookup x.1).map fun c=>(x.1,c) else none).reverse
theorem closureFor_ok {scope:Scope}{env:Env}(h:∀ x ∈ scope.names,x.2 = .free -> ∃ c,env.cells.lookup x.1=some c):closureFor scope env=pure (closOf scope env):=by
 unfold closureFor closOf
 have all:∀ (l:List (Str × NameKind)) (acc:List (Str × Addr)),(∀ x ∈ l,x.2 = .free -> ∃ c,env.cells.lookup x.1=some c) ->
   (forIn l acc fun x r=>(match x with | (name,kind)=>if (kind == .free)=true then do let a ← cellOf env name; pure (ForInStep.yield ((name,a) :: r)) else pure (ForInStep.yield r):Sem (ForInStep (List (Str × Addr))))) =
    pure ((l.filterMap fun x=>if x.2 == .free then (env.cells.lookup x.1).map fun c=>(x.1,c) else none).reverse ++ acc):=by
  intro l
  induction l with
  | nil=>intro acc _; simp
  | cons x r ih =>
   intro acc hx
   obtain ⟨n,k⟩:=x
   have hr:∀ y ∈ r,y.2 = .free -> ∃ c,env.cells.lookup y.1=some c:=fun y hy=>hx y (List.mem_cons_of_mem _ hy)
   by_cases hk:k = .free
   ·subst hk
    obtain ⟨c,hc⟩:=hx (n,.free) List.mem_cons_self rfl
    have e1:cellOf env n=pure c:=by unfold cellOf; rw [show env.cells.lookup n=some c from hc]
    simp only [List.forIn_cons,beq_self_eq_true,if_true,e1,pure_bind,List.filterMap_cons]
    rw [ih _ hr]
    simp [show env.cells.lookup n=some c from hc]
   ·have hb:(k == NameKind.free)=false:=by simpa using hk
    simp only [List.forIn_cons,hb,Bool.false_eq_true,if_false,pure_bind,List.filterMap_cons]
    rw [ih _ hr]
 have:=all scope.names [] h
 rw [List.append_nil] at this
 simp only [bind_pure]
 first | exact this | (rw [this]) | (simpa using this)
theorem mem_clos {scope:Scope}{env:Env}{x:Str}{c:Addr}(h:(closOf scope env).lookup x=some c):env.cells.lookup x=some c:=by
 have m:=PySem.mem_of_lookup h
 unfold closOf at m
 rw [List.mem_reverse,List.mem_filterMap] at m
 obtain ⟨y,hy,e⟩:=m
 split at e
 ·cases q:env.cells.lookup y.1 with
  | none=>rw [q] at e; cases e
  | some d =>
   rw [q] at e
   simp only [Option.map_some,Option.some.injEq,Prod.mk.injEq] at e
   rw [← e.1,q,e.2]
 ·cases e
theorem lookup_mem {α:Type}:∀ {l:List (Str × α)} {x:Str} {c:α},(x,c) ∈ l -> ∃ d,l.lookup x=some d
 | (k,v) :: r,x,c,h=>by
  rw [List.lookup_cons]
  cases hb:x == k with
  | true=>exact ⟨v,rfl⟩
  | false =>
   rcases List.mem_cons.mp h with e | e
   ·injection e with e1 e2
    subst e1
    simp at hb
   ·exact lookup_mem e
theorem clos_has {scope:Scope}{env:Env}{x:Str}{c:Addr}(h:(x,NameKind.free) ∈ scope.names)(hc:env.cells.lookup x=some c):(closOf scope env).lookup x=some c:=by
 have m:(x,c) ∈ closOf scope env:=by
  unfold closOf
  rw [List.mem_reverse,List.mem_filterMap]
  exact ⟨(x,.free),h,by simp [hc]⟩
 obtain ⟨d,hd⟩:=lookup_mem m
 have:=mem_clos hd
 rw [hc] at this
 rw [hd,← this]
theorem relabel_lookup {env:Env}:∀ {names:List (Str × NameKind)} {x:Str} {k:NameKind},
  (names.map fun (n,k)=>if (k == NameKind.free && env.scope.kind == .function && env.kindOf n == some .cell) then (n,NameKind.cell) else (n,k)).lookup x=some k ->
  ∃ k0,names.lookup x=some k0 /\ (k0=k \/ (k0 = .free /\ k = .cell))
 | [],_,_,h=>by simp at h
 | (n,k) :: r,x,k',h=>by
  simp only [List.map_cons] at h
  by_cases hc:(k == NameKind.free && env.scope.kind == .function && env.kindOf n == some .cell)=true
  ·rw [if_pos hc,List.lookup_cons] at h
   rw [List.lookup_cons]
   cases hb:x == n with
   | true =>
    rw [hb] at h
    simp only [Option.some.injEq] at h
    refine ⟨k,rfl,.inr ⟨?_,h.symm⟩⟩
    simp only [Bool.and_eq_true,beq_iff_eq] at hc
    exact hc.1.1
   | false =>
    rw [hb] at h
    exact relabel_lookup h
  ·rw [if_neg hc,List.lookup_cons] at h
   rw [List.lookup_cons]
   cases hb:x == n with
   | true =>
    rw [hb] at h
    simp only [Option.some.injEq] at h
    exact ⟨k,rfl,.inl h⟩
   | false =>
    rw [hb] at h
    exact relabel_lookup h
theorem codeAny_compLoop_gen {prog:Program}{w:World}{A:Around}{R:Result -> Shared -> Prop}{s:Shared}{elt target iter:Expr}{ifs:List Expr}{scope:Scope}{pos:Pos}{it acc:Value}{env:Env}(I:Nat -> Shared -> Prop)
  (turn:∀ n s,I n s -> wpAny (model prog w) A (pyNext it) (fun r s₁=>match r with
   | none=>R (.ok .next) s₁
   | some v=>wpAny (model prog w) A (letOwnedTupleGo target it v) (fun _ s₁'=>wpAny (model prog w) A (assign target env v) (fun _ s₂ =>
     wpAny (model prog w) A (forIn ifs true fun c r=>if r=true then do let ok ← isTrue c env (eval c env); pure (ForInStep.yield ok) else pure (ForInStep.yield r)) (fun ok s₃ =>
      if ok=true then wpAny (model prog w) A (eval elt env) (fun x s₄ =>
       wpAny (model prog w) A (call (.builtin "list.append") [acc,x]) (fun _ s₅=>∃ m,m < n /\ I m s₅) (fun _ _=>False) s₄) (fun _ _=>False) s₃
      else ∃ m,m < n /\ I m s₃) (fun _ _=>False) s₂) (fun _ _=>False) s₁') (fun _ _=>False) s₁) (fun _ _=>False) s)
  (n:Nat) (h:I n s) :
  codeAny (model prog w) A (.compLoop (.ListComp elt [⟨target,iter,ifs,0⟩] scope pos) 0 it acc env) R s:=by
 refine codeAny_loop rfl I (fun n s hI=>?_) n h
 show wpAny _ A ((compTurn (.ListComp elt [⟨target,iter,ifs,0⟩] scope pos) 0 it acc env).onRaise (fun x=>do noteFrame x env; theTreesLotGoes x)) _ _ s
 refine wpAny_noted ?_
 rw [compTurn_list]
 refine wpAny_bind (wpAny_standAt (wpAny_bind (wpAny_mono (turn n s hI) (fun r s₁ h₁=>?_) fun _ _ h'=>h'.elim)))
 cases r with
 | none=>exact wpAny_pure h₁
 | some v =>
  refine wpAny_bind (wpAny_mono h₁ (fun _ s₁' h₁'=>?_) fun _ _ h'=>h'.elim)
  refine wpAny_bind (wpAny_mono h₁' (fun _ s₂ h₂=>wpAny_bind (wpAny_mono h₂ (fun ok s₃ h₃=>?_) fun _ _ h'=>h'.elim)) fun _ _ h'=>h'.elim)
  cases ok with
  | false=>exact wpAny_pure ⟨rfl,h₃⟩
  | true =>
   exact wpAny_bind (wpAny_bind (wpAny_mono h₃ (fun x s₄ h₄=>wpAny_bind (wpAny_mono h₄ (fun _ s₅ h₅=>wpAny_pure (wpAny_pure ⟨rfl,h₅⟩)) fun _ _ h'=>h'.elim)) fun _ _ h'=>h'.elim))
def PN (X:Cx)(ifs:List Expr)(t:TT):Prop :=
 ∀ (pins:List (Addr × Obj)) (s:Shared) (σ:St) (H:Hp) (Q:Bool -> Hp -> Prop),Inv X pins σ H s -> t σ H Q ->
  wpAny (model X.prog X.w) X.A (forIn ifs true fun c r=>if r=true then do let ok ← isTrue c X.env (eval c X.env); pure (ForInStep.yield ok) else pure (ForInStep.yield r)) (TP X pins σ Q) X.xe s
def tYes:TT:=fun _ H Q=>Q true H
section
variable {X:Cx}
theorem pn_nil:PN X [] tYes:=fun _ _ σ H Q I h=>wpAny_pure ⟨H,I,h⟩
theorem pn_one {c:Expr}{t:TT}(h:PT X c t):PN X [c] t:=by
 intro pins s σ H Q I q
 refine PySem.wpAny_tests_one (h pins s σ H Q I q)
end
def compCx (X:Cx)(N:List Str)(scope:Scope)(C:Addr)(s:Shared)(H:Hp)(fp:List Addr):Cx :=
 { X with N:=N,s₀:=s,H₀:=H,env:=compEnvC scope (closOf scope X.env) C X.env,outer:=X.stack,stack:=X.stack,ex:=fp,fn:=fun _=>false,pn:=[],xe:=fun _ _=>False }
structure CompBody (X:Cx) (tg:Expr) (ifs:List Expr) (elt:Expr) (g:TG) (tt:TT) (te:TE):Prop where
 tg:PG X tg g
 tt:PN X ifs tt
 te:PE X elt te
def scB (sc xsc:Scope):Bool:=(sc.kind == .function) && sc.names.all fun x=>(x.2 != .cell) && (x.2 != .local || sc.names.lookup x.1 == some .local) && (x.2 != .free || (xsc.names.lookup x.1 == some .cell) || (xsc.names.lookup x.1 == some .free))
def capB (cs:List Nat)(ns XN:List Str)(sc xsc:Scope):Bool:=(cs.zip ns).all fun p=>(XN[p.1]? == some p.2) && (sc.names.lookup p.2 == some .free) && (xsc.names.lookup p.2 != some .local)
def capSt (nt:Nat)(cs:List Nat)(σ:St):St:=qQ nt none ++ cs.map fun c=>(σ[c]?).join
def tComp (wi:TI)(nt:Nat)(cs:List Nat)(g:TG)(tt:TT)(te:TE):TE:=fun σ H Q=>wi σ H fun J H1=>∀ acc,H1 acc=none ->
 ∃ W:Nat -> Nat -> List V -> St -> Hp -> Prop,(∃ m,W 0 m [] (capSt nt cs σ) (upd H1 acc (.lst []))) /\ ∀ i m ys σ' H',W i m ys σ' H' -> H' acc=some (.lst ys) /\
  ((J.stop i H' /\ Q (.ref acc) H') \/ (J.go i H' /\ ys.length < sizeLine /\ ∃ N:List V -> St -> Hp -> Prop,(∀ zs σ2 H2,N zs σ2 H2 -> ∃ m',m' < m /\ W (i+1) m' zs σ2 H2) /\
   ∀ x H2,J.yld i H' x H2 -> g x σ' H2 fun σ3 H3=>tt σ3 H3 fun b H4=>if b=true then te σ3 H4 fun y H5=>H5 acc=some (.lst ys) /\ N (ys ++ [y]) σ3 (upd H5 acc (.lst (ys ++ [y]))) else N ys σ3 H4))
section
variable {X:Cx}
theorem compCx_inv {pins:List (Addr × Obj)}{σ:St}{H:Hp}{s:Shared}{N:List Str}{scope:Scope}{nt:Nat}{cs:List Nat}{fp:List Addr}{h1:Heap}{tk:Nat}(I:Inv X pins σ H s)
  (hsc:scB scope X.env.scope=true) (hcap:capB cs (N.drop nt) X.N scope X.env.scope=true) (hlen:N.length=nt+cs.length)
  (hf:∀ b ∈ fp,FpOk X pins H b) (hfl:∀ b ∈ fp,b < s.heap.objs.size) (hn:h1.Ns s.heap.objs.size fun _=>none) (hk:∀ b o,s.heap.get? b=some o -> h1.get? b=some o) :
  Inv (compCx X N scope s.heap.objs.size s H fp) [] (capSt nt cs σ) H { s with heap:=h1,toks:=tk }:=by
 unfold scB at hsc
 rw [Bool.and_eq_true] at hsc
 obtain ⟨hkd,hall⟩:=hsc
 have hkd:scope.kind = .function:=by simpa using hkd
 rw [List.all_eq_true] at hall
 have nocell:∀ x ∈ scope.names,x.2 ≠ .cell:=fun x hx e=>by have:=hall x hx; rw [e] at this; simp at this
 have free2:∀ x,(x,NameKind.free) ∈ scope.names -> X.env.kindOf x=some .cell \/ X.env.kindOf x=some .free:=fun x hx=>by
  have:=hall _ hx
  simp only [bne_self_eq_false,Bool.false_or,Bool.and_eq_true,Bool.or_eq_true,beq_iff_eq] at this
  exact this.2
 have kinds:∀ x,((compCx X N scope s.heap.objs.size s H fp).env.kindOf x=some .cell \/ (compCx X N scope s.heap.objs.size s H fp).env.kindOf x=some .free) -> (x,NameKind.free) ∈ scope.names:=fun x hx=>by
  have q:∃ k,(relabel scope X.env).names.lookup x=some k /\ (k = .cell \/ k = .free):=by
   rcases hx with e | e
   ·exact ⟨_,e,.inl rfl⟩
   ·exact ⟨_,e,.inr rfl⟩
  obtain ⟨k,e,hk'⟩:=q
  obtain ⟨k0,e0,r⟩:=relabel_lookup e
  have m:=PySem.mem_of_lookup e0
  rcases r with r | ⟨r,_⟩
  ·subst r
   rcases hk' with z | z
   ·exact absurd z (nocell _ m)
   ·rw [z] at m; exact m
  ·rw [r] at m; exact m
 have cellOf:∀ x c,(closOf scope X.env).lookup x=some c -> X.env.cells.lookup x=some c:=fun x c e=>mem_clos e
 have clt:∀ x c,X.env.cells.lookup x=some c -> c < s.heap.objs.size:=fun x c e=>by
  obtain ⟨v,q⟩:=I.cell x c e
  exact q.lt
 refine ⟨⟨I.ok.mod,?_,I.ok.glob,I.ok.blt,Nat.le_refl _,?_,?_,?_,I.ok.hd,I.ok.frames,.inl rfl,?_,?_,?_,?_,?_,?_,?_⟩,rfl,I.bare,Un.kept hk,⟨_,hn,?_⟩,?_,?_,?_,?_,I.hok.kept hk,?_⟩
 ·show (relabel scope X.env).kind=_
  exact hkd
 ·intro x y c e1 e2
  exact I.ok.inj x y c (cellOf x c e1) (cellOf y c e2)
 ·intro x hx
  have m:=kinds x hx
  obtain ⟨c,hc⟩:=I.ok.has x (free2 x m)
  exact ⟨c,clos_has m hc⟩
 ·intro x c z
  cases z
 ·intro b hb
  obtain ⟨f0,f1,f2,f3,f4,f5⟩:=hf b hb
  exact ⟨Nat.ne_of_lt (hfl b hb),fun x c e=>f4 x c (cellOf x c e)⟩
 ·intro b o e
  exact I.bs b o e
 ·exact Nat.le_trans I.ok.bsz I.sz
 ·intro b o e hb
  obtain ⟨f0,f1,f2,f3,f4,f5⟩:=hf b hb
  rcases f3 with z | z
  ·exact I.ok.noex b o e z
  ·exact absurd (qJ (Heap.lt_size (I.ok.bs b o e).1) z) (Nat.lt_irrefl _)
 ·intro b hb hs
  obtain ⟨f0,f1,f2,f3,f4,f5⟩:=hf b hb
  rcases List.mem_cons.mp (I.stkSub b hs) with z | z
  ·exact f1 z
  ·exact f2 z
 ·exact I.stack
 ·exact I.stkFree
 ·intro i x v e1 e2 _
  have hi:nt <= i:=by
   refine Nat.le_of_not_lt fun z=>?_
   unfold capSt at e2
   rw [qH (by simpa using z),List.getElem?_replicate,if_pos z] at e2
   cases e2
  unfold capSt at e2
  rw [qG (by simpa using hi),qL,qI] at e2
  cases q:cs[i - nt]? with
  | none=>rw [q] at e2; cases e2
  | some c =>
   rw [q] at e2
   simp only [Option.map_some,Option.some.injEq] at e2
   have e3:σ[c]? = some (some v):=by
    cases z:σ[c]? with
    | none=>rw [z] at e2; cases e2
    | some o=>rw [z] at e2; exact congrArg some e2
   unfold capB at hcap
   rw [List.all_eq_true] at hcap
   have e4:(N.drop nt)[i - nt]? = some x:=by
    rw [List.getElem?_drop,show nt+(i - nt)=i by omega]
    exact e1
   have m:(c,x) ∈ cs.zip (N.drop nt):=by
    have:(cs.zip (N.drop nt))[i - nt]? = some (c,x):=by rw [List.getElem?_zip_eq_some]; exact ⟨q,e4⟩
    exact qE this
   have hm:=hcap _ m
   simp only [Bool.and_eq_true,beq_iff_eq,bne_iff_ne,ne_eq] at hm
   obtain ⟨⟨h1',h2'⟩,h3'⟩:=hm
   have hlk:scope.names.lookup x=some .free:=h2'
   have h2':(x,NameKind.free) ∈ scope.names:=PySem.mem_of_lookup hlk
   obtain ⟨mm,hmm,hl⟩:=I.loc
   have vis:Vis X.env.scope x:=.inr (free2 x h2')
   obtain ⟨u,r,l⟩:=hl c x v h1' e3 vis
   rcases l with ⟨z,_⟩ | ⟨z,d,hd,hcell⟩
   ·exact absurd z h3'
   ·refine ⟨u,r,.inr ⟨?_,d,clos_has h2' hd,?_⟩⟩
    ·-- its kind in the block
     have isf:∃ k,(relabel scope X.env).names.lookup x=some k:=by
      have:∃ k',(x,k') ∈ (relabel scope X.env).names:=by
       unfold relabel
       by_cases cc:(X.env.scope.kind == .function && X.env.kindOf x == some .cell)=true
       ·refine ⟨.cell,qP.mpr ⟨(x,.free),h2',?_⟩⟩
        simp only [Bool.and_eq_true] at cc
        simp [cc.1,cc.2]
       ·refine ⟨.free,qP.mpr ⟨(x,.free),h2',?_⟩⟩
        simp only [Bool.and_eq_true] at cc
        have cc':¬ ((NameKind.free == NameKind.free && X.env.scope.kind == .function && X.env.kindOf x == some .cell)=true):=by
         simp only [beq_self_eq_true,Bool.true_and,Bool.and_eq_true]
         exact cc
        show (if (NameKind.free == NameKind.free && X.env.scope.kind == .function && X.env.kindOf x == some .cell)=true then (x,NameKind.cell) else (x,NameKind.free))=(x,NameKind.free)
        rw [if_neg cc']
      obtain ⟨k',hk'⟩:=this
      exact lookup_mem hk'
     obtain ⟨k,ek⟩:=isf
     obtain ⟨k0,e0,rr⟩:=relabel_lookup ek
     rcases rr with rr | ⟨_,rr⟩
     ·subst rr
      rw [hlk] at e0
      cases e0
      exact .inr ek
     ·subst rr
      exact .inl ek
    ·obtain ⟨o,ho,hd'⟩:=hcell
     exact ⟨o,hk _ _ ho,hd'⟩
 ·intro x c e
  obtain ⟨v,o,ho,hd⟩:=I.cell x c (cellOf x c e)
  exact ⟨v,o,hk _ _ ho,hd⟩
 ·exact I.hok.fresh (Nat.le_refl _)
 ·intro x c e
  exact I.freeC x c (cellOf x c e)
 ·intro p hp
  cases hp
 ·show (capSt nt cs σ).length=N.length
  unfold capSt
  rw [qF,qL,qC,hlen]
theorem un_same {fs ex:List Addr}{H H':Hp}{h h1 h':Heap}{C:Addr}(u:Un fs ex H H' h h1)(hs:Heap.SameBut C h1 h')(hC:h.objs.size <= C):Un fs ex H H' h h' where
 keep:=fun b o e n hb hx=>(hs.2 b (Nat.ne_of_lt (qJ (Heap.lt_size e) hC))).trans (u.keep b o e n hb hx)
 slot:=fun b o e n hb hx=>by
  obtain ⟨sl,q⟩:=u.slot b o e n hb hx
  exact ⟨sl,(hs.2 b (Nat.ne_of_lt (qJ (Heap.lt_size e) hC))).trans q⟩
 free:=u.free
 there:=fun b o e hx=>by
  obtain ⟨o',q⟩:=u.there b o e hx
  exact ⟨o',(hs.2 b (Nat.ne_of_lt (qJ (Heap.lt_size e) hC))).trans q⟩
 tups:=u.tups
 frzs:=u.frzs
 tbls:=u.tbls
theorem hok_same {P:Program}{w:World}{H:Hp}{h h':Heap}{C:Addr}(x:HOk P w H h)(hs:Heap.SameBut C h h')(hC:H C=none):HOk P w H h':=fun b u e =>
 (x b u e).stay (fun c v hc q=>(hs.2 c (fun z=>by
  subst z
  rcases hc with z | z
  ·subst z; rw [hC] at e; cases e
  ·rw [hC] at z; cases z)).trans q) (fun _ q=>q) fun _ _ q=>q
theorem pe_comp0 {tg iter elt:Expr}{ifs:List Expr}{scope:Scope}{pos:Pos}{wi:TI}{N:List Str}{nt:Nat}{cs:List Nat}{g:TG}{tt:TT}{te:TE}(hc:X.calm=true)(hi:PI X tg iter wi)
  (hb:N.Nodup -> ∀ (C:Addr) (s:Shared) (H:Hp) (fp:List Addr),CompBody (compCx X N scope C s H fp) tg ifs elt g tt te)
  (hnd:N.Nodup) (hsc:scB scope X.env.scope=true) (hcap:capB cs (N.drop nt) X.N scope X.env.scope=true) (hlen:N.length=nt+cs.length)
  (hs:∀ x,foldedSetIterable iter X.env x=pure x):PE X (.ListComp elt [⟨tg,iter,ifs,0⟩] scope pos) (tComp wi nt cs g tt te):=by
 intro pins s σ H Q I h
 have hsc':=hsc
 unfold scB at hsc'
 rw [Bool.and_eq_true] at hsc'
 obtain ⟨hkd,hall⟩:=hsc'
 have hkd:scope.kind = .function:=by simpa using hkd
 rw [List.all_eq_true] at hall
 have nocell:∀ x ∈ scope.names,x.2 ≠ .cell:=fun x hx e=>by have:=hall x hx; rw [e] at this; simp at this
 have hnames:∀ x ∈ scope.names,x.2 = .local -> scope.names.lookup x.1=some .local:=fun x hx e=>by
  have:=hall x hx
  rw [e] at this
  simp only [bne_self_eq_false,Bool.false_or,Bool.and_eq_true,beq_iff_eq] at this
  exact this.1.2
 have hclos:closureFor scope X.env=pure (closOf scope X.env):=closureFor_ok fun x hx e=>by
  have:=hall x hx
  rw [e] at this
  simp only [bne_self_eq_false,Bool.false_or,Bool.and_eq_true,Bool.or_eq_true,beq_iff_eq] at this
  exact I.ok.has x.1 this.2
 rw [eval_ListComp]
 refine wpAny_comprehension_free (use:=none) rfl hs hclos hkd hnames (thn (hi pins s σ H _ I h) fun v s1 h1=>thn h1 fun itv s2 h2=>?_)
 obtain ⟨it,fp,tn,J,H2,e,I2,T,st2,f2,hR⟩:=h2
 subst e
 refine wpAny_newObj_type (wpAny_newFunctionEnv nocell (by intro y hy; simp at hy) (fun h3 hn3 hs3=>?_) hkd)
 have fr:=I2.fresh
 have I3:Inv X pins σ (upd H2 s2.heap.objs.size (.lst [])) { s2 with heap:=s2.heap.push { cls:=.type "list",data:=.seq ([]:List Value).toArray },toks:=s2.toks }:=I2.lnew .nil (le_size (by decide))
 obtain ⟨W,⟨m0,w0⟩,turn⟩:=hR _ fr
 generalize hacc:s2.heap.objs.size=acc at *
 generalize hsx:({ s2 with heap:=s2.heap.push { cls:=.type "list",data:=.seq ([]:List Value).toArray },toks:=s2.toks }:Shared)=sx at *
 have hC:sx.heap.objs.size=acc+1:=by rw [← hsx,← hacc]; exact Heap.size_push _ _
 have fpl:∀ b ∈ fp,b < acc:=fun b hb=>by
  obtain ⟨o,ho,_⟩:=T.obj _ _ st2 b hb
  rw [← hacc]
  exact Heap.lt_size ho
 have f3:∀ b ∈ fp,FpOk X pins (upd H2 acc (.lst [])) b:=fun b hb=>by
  obtain ⟨f0,f1⟩:=f2 b hb
  exact ⟨by rw [upd_ne (Nat.ne_of_lt (fpl b hb))]; exact f0,f1⟩
 have keep3:∀ b o,sx.heap.get? b=some o -> h3.get? b=some o:=fun b o e=>by
  have hne:b ≠ sx.heap.objs.size:=Nat.ne_of_lt (Heap.lt_size e)
  exact (hs3.2 b hne).trans (Heap.get?_push_of_some _ e)
 have IC:Inv (compCx X N scope sx.heap.objs.size sx (upd H2 acc (.lst [])) fp) [] (capSt nt cs σ) (upd H2 acc (.lst [])) { sx with heap:=h3,toks:=sx.toks+([]:List (Str × Value)).length } :=
  compCx_inv I3 hsc hcap hlen f3 (fun b hb=>by rw [hC]; exact Nat.lt_succ_of_lt (fpl b hb)) (by simpa using hn3) keep3
 have hn3':H2 acc=none:=fr
 generalize hXC:compCx X N scope sx.heap.objs.size sx (upd H2 acc (.lst [])) fp=XC at IC
 have ctxP:XC.prog=X.prog:=by rw [← hXC]; rfl
 have ctxW:XC.w=X.w:=by rw [← hXC]; rfl
 have ctxK:XC.K=X.K:=by rw [← hXC]; rfl
 have ctxA:XC.A=X.A:=by rw [← hXC]; rfl
 have ctxC:XC.calm=true:=by rw [← hXC]; exact hc
 have ctxX:XC.xe=fun _ _=>False:=by rw [← hXC]; rfl
 have ctxE:XC.env=compEnvC scope (closOf scope X.env) sx.heap.objs.size X.env:=by rw [← hXC]; rfl
 have body:CompBody XC tg ifs elt g tt te:=by rw [← hXC]; exact hb hnd _ _ _ _
 have st3:tn 0 h3:=T.keep _ _ _ st2 fun b hb o e=>keep3 b o (by rw [← hsx]; exact Heap.get?_push_of_some _ e)
 have stat:∀ {H':Hp},(∀ b ∈ fp,H' b=none) -> ∀ b ∈ fp,FpOk XC [] H' b:=fun hn b hb=>by
  obtain ⟨f0,f1,f2',f3',f4,f5⟩:=f3 b hb
  refine ⟨hn b hb,?_,?_,.inl (by rw [← hXC]; exact hb),fun x c e=>?_,fun p hp=>?_⟩
  ·rw [ctxE]
   exact Nat.ne_of_lt (by rw [hC]; exact Nat.lt_succ_of_lt (fpl b hb))
  ·rw [← hXC]
   intro z
   rcases List.mem_cons.mp (I3.stkSub b z) with z | z
   ·exact f1 z
   ·exact f2' z
  ·rw [ctxE] at e
   exact f4 x c (mem_clos e)
  ·rw [← hXC] at hp
   cases hp
 have fin:∀ {σ':St} {H':Hp} {s':Shared},Inv XC [] σ' H' s' -> Q (.ref acc) H' -> compPost (model X.prog X.w) X.A X.xe none (EP X pins σ Q) (.ref acc) sx.heap.objs.size (.ok .next) s':=by
  intro σ' H' s' J' q
  obtain ⟨m,hm,_⟩:=J'.loc
  have hfree:=J'.free
  rw [ctxE] at hm hfree
  refine ⟨m,hm,fun h' hs'=>⟨.ref acc,H',?_,rfl,q⟩⟩
  have u:=J'.base
  rw [← hXC] at u
  have ok:=J'.hok
  rw [ctxP,ctxW] at ok
  have os:=J'.os
  rw [← hXC] at os
  refine I3.call' (s':={ s' with heap:=h' }) os (un_same u hs' (Nat.le_refl _)) (hok_same ok hs' hfree) J'.bare fun b hb=>?_
  obtain ⟨f0,f1,f2',f3',f4,f5⟩:=f3 b hb
  exact ⟨f3',f1,f4,f5⟩
 have loop:codeAny (model X.prog X.w) X.A (.compLoop (.ListComp elt [⟨tg,iter,ifs,0⟩] scope pos) 0 (.ref it) (.ref acc) XC.env) (compPost (model X.prog X.w) X.A X.xe none (EP X pins σ Q) (.ref acc) sx.heap.objs.size)
   { sx with heap:=h3,toks:=sx.toks+([]:List (Str × Value)).length }:=by
  rw [← ctxP,← ctxW,← ctxA]
  refine codeAny_compLoop_gen (fun n s'=>∃ i ys σ' H',Inv XC [] σ' H' s' /\ tn i s'.heap /\ (∀ b ∈ fp,H' b=none) /\ W i n ys σ' H') ?_ m0 ⟨0,[],_,_,IC,st3,fun b hb=>(f3 b hb).1,w0⟩
  rintro n s3 ⟨i,ys,σ3,H3,I3',st3',fr3,w3⟩
  have T':=T
  rw [← ctxP,← ctxW,← ctxK] at T'
  obtain ⟨hacc3,alt⟩:=turn i n ys σ3 H3 w3
  rcases alt with ⟨stop,qn⟩ | ⟨go,hsz,NN,hNN,step⟩
  ·refine thn (T'.done XC rfl rfl rfl ctxC i [] s3 σ3 H3 _ I3' (stat fr3) st3' stop) fun r s4 ⟨hr,I4⟩=>?_
   subst hr
   rw [ctxP,ctxW,ctxA]
   exact fin I4 qn
  ·refine thn (T'.item XC rfl rfl rfl ctxC i [] s3 σ3 H3 _ I3' (stat fr3) st3' go) fun r s4 ⟨u,hr,h4⟩=>?_
   subst hr
   refine thn h4 fun _ s5 ⟨x,H5,I5,r5,y5,st5,fr5⟩=>?_
   have I5':=I5.pinned (stat fr5) (T'.obj _ _ st5)
   have a1:=body.tg _ s5 σ3 H5 x u _ I5' r5 (step x H5 y5)
   rw [ctxX] at a1
   refine thn a1 fun _ s6 ⟨σ6,H6,I6,q6⟩=>?_
   have a2:=body.tt _ s6 σ6 H6 _ I6 q6
   rw [ctxX] at a2
   refine thn a2 fun b s7 ⟨H7,I7,q7⟩=>?_
   have again:∀ {s8:Shared} {σ7:St} {H7:Hp} {zs:List V},Inv XC ([] ++ pinsAt fp s5.heap) σ7 H7 s8 -> NN zs σ7 H7 -> ∃ m,m < n /\ ∃ i ys σ' H',Inv XC [] σ' H' s8 /\ tn i s8.heap /\ (∀ b ∈ fp,H' b=none) /\ W i m ys σ' H':=fun {s8 σ7 H7 zs} I7 n7=>by
    obtain ⟨m',hm,w7⟩:=hNN zs σ7 H7 n7
    refine ⟨m',hm,i+1,zs,σ7,H7,I7.unpinned,T'.keep _ _ _ st5 fun b hb o e=>(I7.pin (b,o) (qK _ (qK _ (mem_pinsAt hb e)))).1,fun b hb=>?_,w7⟩
    obtain ⟨o,e,d⟩:=T'.obj _ _ st5 b hb
    exact (I7.pin (b,o) (qK _ (qK _ (mem_pinsAt hb e)))).2.1
   cases b with
   | false =>
    rw [if_neg Bool.false_ne_true] at q7 ⊢
    exact again I7 q7
   | true =>
    rw [if_pos rfl] at q7 ⊢
    have a3:=body.te _ s7 σ6 H7 _ I7 q7
    rw [ctxX] at a3
    refine thn a3 fun xv s8 ⟨y,H8,I8,r8,q8⟩=>?_
    obtain ⟨hl8,n8⟩:=q8
    have a4:=mt_append (X:=XC) _ s8 σ6 H8 (.ref acc) [y] (.ref acc) [xv] (fun _ H9=>NN (ys ++ [y]) σ6 H9) I8 rfl (.cons r8 .nil) ⟨acc,ys,y,rfl,rfl,hl8,hsz,n8⟩
    rw [ctxX] at a4
    refine thn a4 fun _ s9 ⟨_,H9,I9,_,q9⟩=>?_
    exact again I9 q9
 rw [ctxE] at loop
 exact codeAny_compStart_list loop (T.self X.A 0 _ _ _ st3 loop)
theorem ps_setComp0 {y:Str}{py spos:Pos}{ix:Nat}{tg iter elt:Expr}{ifs:List Expr}{scope:Scope}{pos:Pos}{wi:TI}{N:List Str}{nt:Nat}{cs:List Nat}{g:TG}{tt:TT}{te:TE}(hc:X.calm=true)(hi:PI X tg iter wi)
  (hb:N.Nodup -> ∀ (C:Addr) (s:Shared) (H:Hp) (fp:List Addr),CompBody (compCx X N scope C s H fp) tg ifs elt g tt te)
  (hnd:N.Nodup) (hsc:scB scope X.env.scope=true) (hcap:capB cs (N.drop nt) X.N scope X.env.scope=true) (hlen:N.length=nt+cs.length)
  (hs:∀ x,foldedSetIterable iter X.env x=pure x) (hN:X.N.Nodup) (hix:X.N[ix]? = some y) (hy:Loc X.env.scope y) (hf:X.fn y=true \/ X.env.scope.names.lookup y=some .local)
  (hsw:swapsWith (.ListComp elt [⟨tg,iter,ifs,0⟩] scope pos) (some (.Name y py)) spos.line X.env=pure true):PS X (.Assign [.Name y py] (.ListComp elt [⟨tg,iter,ifs,0⟩] scope pos) spos) (tAsg (tComp wi nt cs g tt te) (gName ix)):=by
 intro pins s σ H D I h
 have hsc':=hsc
 unfold scB at hsc'
 rw [Bool.and_eq_true] at hsc'
 obtain ⟨hkd,hall⟩:=hsc'
 have hkd:scope.kind = .function:=by simpa using hkd
 rw [List.all_eq_true] at hall
 have nocell:∀ x ∈ scope.names,x.2 ≠ .cell:=fun x hx e=>by have:=hall x hx; rw [e] at this; simp at this
 have hnames:∀ x ∈ scope.names,x.2 = .local -> scope.names.lookup x.1=some .local:=fun x hx e=>by
  have:=hall x hx
  rw [e] at this
  simp only [bne_self_eq_false,Bool.false_or,Bool.and_eq_true,beq_iff_eq] at this
  exact this.1.2
 have hclos:closureFor scope X.env=pure (closOf scope X.env):=closureFor_ok fun x hx e=>by
  have:=hall x hx
  rw [e] at this
  simp only [bne_self_eq_false,Bool.false_or,Bool.and_eq_true,Bool.or_eq_true,beq_iff_eq] at this
  exact I.ok.has x.1 this.2
 rw [exec_Assign_Name_used _ _ _ _ hsw]
 refine wpAny_bind (wpAny_standAt (wpAny_bind ?_))
 show wpAny _ X.A (do let _ ← comprehension (.ListComp elt [⟨tg,iter,ifs,0⟩] scope pos) scope X.env _ (newList []) false (eval iter X.env) (some (assign (.Name y py) X.env))) _ _ s
 refine wpAny_bind (wpAny_mono (wpAny_comprehension_free (use:=some (assign (.Name y py) X.env)) (Q:=fun _ s'=>SP X pins D .next s') rfl hs hclos hkd hnames
  (thn (hi pins s σ H _ I h) fun v s1 h1=>thn h1 fun itv s2 h2=>?_)) (fun _ s' hq=>wpAny_pure (wpAny_pure hq)) fun _ _ e=>e)
 obtain ⟨it,fp,tn,J,H2,e,I2,T,st2,f2,hR⟩:=h2
 subst e
 refine wpAny_newObj_type (wpAny_newFunctionEnv nocell (by intro y hy; simp at hy) (fun h3 hn3 hs3=>?_) hkd)
 have fr:=I2.fresh
 have I3:Inv X pins σ (upd H2 s2.heap.objs.size (.lst [])) { s2 with heap:=s2.heap.push { cls:=.type "list",data:=.seq ([]:List Value).toArray },toks:=s2.toks }:=I2.lnew .nil (le_size (by decide))
 obtain ⟨W,⟨m0,w0⟩,turn⟩:=hR _ fr
 generalize hacc:s2.heap.objs.size=acc at *
 generalize hsx:({ s2 with heap:=s2.heap.push { cls:=.type "list",data:=.seq ([]:List Value).toArray },toks:=s2.toks }:Shared)=sx at *
 have hC:sx.heap.objs.size=acc+1:=by rw [← hsx,← hacc]; exact Heap.size_push _ _
 have fpl:∀ b ∈ fp,b < acc:=fun b hb=>by
  obtain ⟨o,ho,_⟩:=T.obj _ _ st2 b hb
  rw [← hacc]
  exact Heap.lt_size ho
 have f3:∀ b ∈ fp,FpOk X pins (upd H2 acc (.lst [])) b:=fun b hb=>by
  obtain ⟨f0,f1⟩:=f2 b hb
  exact ⟨by rw [upd_ne (Nat.ne_of_lt (fpl b hb))]; exact f0,f1⟩
 have keep3:∀ b o,sx.heap.get? b=some o -> h3.get? b=some o:=fun b o e=>by
  have hne:b ≠ sx.heap.objs.size:=Nat.ne_of_lt (Heap.lt_size e)
  exact (hs3.2 b hne).trans (Heap.get?_push_of_some _ e)
 have IC:Inv (compCx X N scope sx.heap.objs.size sx (upd H2 acc (.lst [])) fp) [] (capSt nt cs σ) (upd H2 acc (.lst [])) { sx with heap:=h3,toks:=sx.toks+([]:List (Str × Value)).length } :=
  compCx_inv I3 hsc hcap hlen f3 (fun b hb=>by rw [hC]; exact Nat.lt_succ_of_lt (fpl b hb)) (by simpa using hn3) keep3
 have hn3':H2 acc=none:=fr
 generalize hXC:compCx X N scope sx.heap.objs.size sx (upd H2 acc (.lst [])) fp=XC at IC
 have ctxP:XC.prog=X.prog:=by rw [← hXC]; rfl
 have ctxW:XC.w=X.w:=by rw [← hXC]; rfl
 have ctxK:XC.K=X.K:=by rw [← hXC]; rfl
 have ctxA:XC.A=X.A:=by rw [← hXC]; rfl
 have ctxC:XC.calm=true:=by rw [← hXC]; exact hc
 have ctxX:XC.xe=fun _ _=>False:=by rw [← hXC]; rfl
 have ctxE:XC.env=compEnvC scope (closOf scope X.env) sx.heap.objs.size X.env:=by rw [← hXC]; rfl
 have body:CompBody XC tg ifs elt g tt te:=by rw [← hXC]; exact hb hnd _ _ _ _
 have st3:tn 0 h3:=T.keep _ _ _ st2 fun b hb o e=>keep3 b o (by rw [← hsx]; exact Heap.get?_push_of_some _ e)
 have stat:∀ {H':Hp},(∀ b ∈ fp,H' b=none) -> ∀ b ∈ fp,FpOk XC [] H' b:=fun hn b hb=>by
  obtain ⟨f0,f1,f2',f3',f4,f5⟩:=f3 b hb
  refine ⟨hn b hb,?_,?_,.inl (by rw [← hXC]; exact hb),fun x c e=>?_,fun p hp=>?_⟩
  ·rw [ctxE]
   exact Nat.ne_of_lt (by rw [hC]; exact Nat.lt_succ_of_lt (fpl b hb))
  ·rw [← hXC]
   intro z
   rcases List.mem_cons.mp (I3.stkSub b z) with z | z
   ·exact f1 z
   ·exact f2' z
  ·rw [ctxE] at e
   exact f4 x c (mem_clos e)
  ·rw [← hXC] at hp
   cases hp
 have fin:∀ {σ':St} {H':Hp} {s':Shared},Inv XC [] σ' H' s' -> D.nx (σ.set ix (some (.ref acc))) H' -> compPost (model X.prog X.w) X.A X.xe (some (assign (.Name y py) X.env)) (fun _ s'=>SP X pins D .next s') (.ref acc) sx.heap.objs.size (.ok .next) s':=by
  intro σ' H' s' J' q
  obtain ⟨m,hm,_⟩:=J'.loc
  have hfree:=J'.free
  rw [ctxE] at hm hfree
  have u:=J'.base
  rw [← hXC] at u
  have ok:=J'.hok
  rw [ctxP,ctxW] at ok
  have os:=J'.os
  rw [← hXC] at os
  have IX:Inv X pins σ H' s':=I3.call' os u ok J'.bare fun b hb=>by
   obtain ⟨f0,f1,f2',f3',f4,f5⟩:=f3 b hb
   exact ⟨f3',f1,f4,f5⟩
  have hCL:sx.heap.objs.size ≠ X.env.locals:=Nat.ne_of_gt I3.lt
  have hCc:∀ x c,X.env.cells.lookup x=some c -> c ≠ sx.heap.objs.size:=fun x c e=>by
   obtain ⟨v,z⟩:=I3.cell x c e
   exact Nat.ne_of_lt z.lt
  have hCp:∀ p ∈ X.pn ++ pins,p.1 ≠ sx.heap.objs.size:=fun p hp=>Nat.ne_of_lt (Heap.lt_size (I3.pin p hp).1)
  show wpAny _ X.A (assign (.Name y py) X.env (.ref acc)) _ _ s'
  refine wpAny_assign_Name (store_ok2 IX hN hix hy (v:=.ref acc) rfl (fun s'' I'' ⟨a,hsb,ha⟩=>?_) hf)
  have hCa:sx.heap.objs.size ≠ a:=fun z=>by
   rcases ha with e | e
   ·exact hCL (z.trans e)
   ·exact hCc _ _ e z.symm
  refine ⟨m,hm.sameBut hsb hCa,fun h' hs'=>⟨_,H',?_,q⟩⟩
  exact I''.turned (t':=s''.toks) (fun b o hb e=>(hs'.2 b hb).trans e) hfree hCL (.inr I3.sz) hCc hCp
 have loop:codeAny (model X.prog X.w) X.A (.compLoop (.ListComp elt [⟨tg,iter,ifs,0⟩] scope pos) 0 (.ref it) (.ref acc) XC.env) (compPost (model X.prog X.w) X.A X.xe (some (assign (.Name y py) X.env)) (fun _ s'=>SP X pins D .next s') (.ref acc) sx.heap.objs.size)
   { sx with heap:=h3,toks:=sx.toks+([]:List (Str × Value)).length }:=by
  rw [← ctxP,← ctxW,← ctxA]
  refine codeAny_compLoop_gen (fun n s'=>∃ i ys σ' H',Inv XC [] σ' H' s' /\ tn i s'.heap /\ (∀ b ∈ fp,H' b=none) /\ W i n ys σ' H') ?_ m0 ⟨0,[],_,_,IC,st3,fun b hb=>(f3 b hb).1,w0⟩
  rintro n s3 ⟨i,ys,σ3,H3,I3',st3',fr3,w3⟩
  have T':=T
  rw [← ctxP,← ctxW,← ctxK] at T'
  obtain ⟨hacc3,alt⟩:=turn i n ys σ3 H3 w3
  rcases alt with ⟨stop,qn⟩ | ⟨go,hsz,NN,hNN,step⟩
  ·refine thn (T'.done XC rfl rfl rfl ctxC i [] s3 σ3 H3 _ I3' (stat fr3) st3' stop) fun r s4 ⟨hr,I4⟩=>?_
   subst hr
   rw [ctxP,ctxW,ctxA]
   exact fin I4 qn
  ·refine thn (T'.item XC rfl rfl rfl ctxC i [] s3 σ3 H3 _ I3' (stat fr3) st3' go) fun r s4 ⟨u,hr,h4⟩=>?_
   subst hr
   refine thn h4 fun _ s5 ⟨x,H5,I5,r5,y5,st5,fr5⟩=>?_
   have I5':=I5.pinned (stat fr5) (T'.obj _ _ st5)
   have a1:=body.tg _ s5 σ3 H5 x u _ I5' r5 (step x H5 y5)
   rw [ctxX] at a1
   refine thn a1 fun _ s6 ⟨σ6,H6,I6,q6⟩=>?_
   have a2:=body.tt _ s6 σ6 H6 _ I6 q6
   rw [ctxX] at a2
   refine thn a2 fun b s7 ⟨H7,I7,q7⟩=>?_
   have again:∀ {s8:Shared} {σ7:St} {H7:Hp} {zs:List V},Inv XC ([] ++ pinsAt fp s5.heap) σ7 H7 s8 -> NN zs σ7 H7 -> ∃ m,m < n /\ ∃ i ys σ' H',Inv XC [] σ' H' s8 /\ tn i s8.heap /\ (∀ b ∈ fp,H' b=none) /\ W i m ys σ' H':=fun {s8 σ7 H7 zs} I7 n7=>by
    obtain ⟨m',hm,w7⟩:=hNN zs σ7 H7 n7
    refine ⟨m',hm,i+1,zs,σ7,H7,I7.unpinned,T'.keep _ _ _ st5 fun b hb o e=>(I7.pin (b,o) (qK _ (qK _ (mem_pinsAt hb e)))).1,fun b hb=>?_,w7⟩
    obtain ⟨o,e,d⟩:=T'.obj _ _ st5 b hb
    exact (I7.pin (b,o) (qK _ (qK _ (mem_pinsAt hb e)))).2.1
   cases b with
   | false =>
    rw [if_neg Bool.false_ne_true] at q7 ⊢
    exact again I7 q7
   | true =>
    rw [if_pos rfl] at q7 ⊢
    have a3:=body.te _ s7 σ6 H7 _ I7 q7
    rw [ctxX] at a3
    refine thn a3 fun xv s8 ⟨y,H8,I8,r8,q8⟩=>?_
    obtain ⟨hl8,n8⟩:=q8
    have a4:=mt_append (X:=XC) _ s8 σ6 H8 (.ref acc) [y] (.ref acc) [xv] (fun _ H9=>NN (ys ++ [y]) σ6 H9) I8 rfl (.cons r8 .nil) ⟨acc,ys,y,rfl,rfl,hl8,hsz,n8⟩
    rw [ctxX] at a4
    refine thn a4 fun _ s9 ⟨_,H9,I9,_,q9⟩=>?_
    exact again I9 q9
 rw [ctxE] at loop
 exact codeAny_compStart_list loop (T.self X.A 0 _ _ _ st3 loop)
end
end L2
set_option Elab.async false
set_option linter.all false
set_option maxRecDepth 100000
set_option maxHeartbeats 1000000
namespace L2
open PySem PySem.Spec PyProof.Rows
inductive Dt where
 | f (x:V)
 | l (xs:List Dt)
 | t (xs:List Dt)
mutual
def Is (K:PySem.W.Frag)(H:Hp)(x:V):Dt -> Prop
 | .f y=>x=y /\ flatV y=true
 | .l ds=>∃ p xs,x = .ref p /\ SqL K H p xs /\ IsL K H xs ds
 | .t ds=>∃ p xs,x = .ref p /\ SqT K H p xs /\ IsL K H xs ds
def IsL (K:PySem.W.Frag)(H:Hp)(xs:List V):List Dt -> Prop
 | []=>xs=[]
 | d :: ds=>∃ x r,xs=x :: r /\ Is K H x d /\ IsL K H r ds
end
mutual
def deq:Dt -> Dt -> Bool
 | .f x,.f y=>eqV x y
 | .l xs,.l ys=>deqL xs ys
 | .t xs,.t ys=>deqL xs ys
 | _,_=>false
def deqL:List Dt -> List Dt -> Bool
 | [],[]=>true
 | x :: xs,y :: ys=>deq x y && deqL xs ys
 | _,_=>false
end
mutual
def dep:Dt -> Nat
 | .f _=>0
 | .l xs=>depL xs+1
 | .t xs=>depL xs+1
def depL:List Dt -> Nat
 | []=>0
 | d :: ds=>max (dep d) (depL ds)
end
theorem IsL.len {K:PySem.W.Frag}{H:Hp}:∀ {ds:List Dt} {xs:List V},IsL K H xs ds -> xs.length=ds.length
 | [],xs,h=>by rw [IsL] at h; subst h; rfl
 | d :: ds,xs,h=>by
  rw [IsL] at h
  obtain ⟨x,r,rfl,_,h⟩:=h
  rw [List.length_cons,List.length_cons,IsL.len h]
theorem IsL.get {K:PySem.W.Frag}{H:Hp}:∀ {ds:List Dt} {xs:List V} {j:Nat} {x:V},IsL K H xs ds -> xs[j]? = some x -> ∃ d,ds[j]? = some d /\ Is K H x d
 | [],xs,j,x,h,e=>by rw [IsL] at h; subst h; simp at e
 | d :: ds,xs,j,x,h,e=>by
  rw [IsL] at h
  obtain ⟨y,r,rfl,hy,h⟩:=h
  cases j with
  | zero=>simp at e; subst e; exact ⟨d,rfl,hy⟩
  | succ j=>exact IsL.get (j:=j) h (by simpa using e)
theorem depL_mem {ds:List Dt}:∀ {d:Dt} {j:Nat},ds[j]? = some d -> dep d <= depL ds:=by
 induction ds with
 | nil=>intro d j e; simp at e
 | cons a r ih =>
  intro d j e
  rw [depL]
  cases j with
  | zero=>simp at e; subst e; omega
  | succ j=>have:=ih (d:=d) (j:=j) (by simpa using e); omega
mutual
theorem deq_refl:∀ (d:Dt){K:PySem.W.Frag}{H:Hp}{x:V},Is K H x d -> deq d d=true
 | .f y,K,H,x,h=>by
  rw [Is] at h
  rw [deq]
  have hy:=h.2
  cases y <;> first | (simp [eqV]; done) | (exact absurd hy (by decide)) | (cases hy)
 | .l ds,K,H,x,h=>by
  rw [Is] at h
  obtain ⟨p,xs,_,_,h⟩:=h
  rw [deq]
  exact deqL_refl ds h
 | .t ds,K,H,x,h=>by
  rw [Is] at h
  obtain ⟨p,xs,_,_,h⟩:=h
  rw [deq]
  exact deqL_refl ds h
theorem deqL_refl:∀ (ds:List Dt){K:PySem.W.Frag}{H:Hp}{xs:List V},IsL K H xs ds -> deqL ds ds=true
 | [],_,_,_,_=>by rw [deqL]
 | d :: ds,K,H,xs,h=>by
  rw [IsL] at h
  obtain ⟨y,r,_,hy,h⟩:=h
  rw [deqL,deq_refl d hy,deqL_refl ds h]
  rfl
end
theorem deqL_get:∀ {ds es:List Dt},deqL ds es=(decide (ds.length=es.length) && (List.range ds.length).all fun j=>match ds[j]?,es[j]? with | some d,some e=>deq d e | _,_=>false)
 | [],[]=>by simp [deqL]
 | [],e :: es=>by simp [deqL]
 | d :: ds,[]=>by simp [deqL]
 | d :: ds,e :: es=>by
  rw [deqL,deqL_get]
  have r:List.range (d :: ds).length=0 :: (List.range ds.length).map (· + 1):=by rw [List.length_cons,List.range_succ_eq_map]
  rw [r,List.all_cons,List.all_map]
  simp only [List.getElem?_cons_zero,List.length_cons,Nat.add_right_cancel_iff]
  have c:((fun j=>match (d :: ds)[j]?,(e :: es)[j]? with | some d,some e=>deq d e | _,_=>false) ∘ fun x=>x+1)=(fun j=>match ds[j]?,es[j]? with | some d,some e=>deq d e | _,_=>false):=by
   funext j
   simp
  rw [c]
  cases deq d e <;> cases decide (ds.length=es.length) <;> rfl
section
variable {X:Cx}{pins:List (Addr × Obj)}{σ:St}{H:Hp}{s:Shared}
mutual
theorem Is.inj:∀ (d:Dt){e:Dt}{x:V},Inv X pins σ H s -> Is X.K H x d -> Is X.K H x e -> (∀ p xs ys,SqL X.K H p xs -> ¬ SqT X.K H p ys) -> d=e
 | .f y,e,x,I,h,h',hk=>by
  rw [Is] at h
  obtain ⟨rfl,hy⟩:=h
  cases e with
  | f z=>rw [Is] at h'; rw [h'.1]
  | l ds=>rw [Is] at h'; obtain ⟨p,xs,e,_⟩:=h'; subst e; cases hy
  | t ds=>rw [Is] at h'; obtain ⟨p,xs,e,_⟩:=h'; subst e; cases hy
 | .l ds,e,x,I,h,h',hk=>by
  rw [Is] at h
  obtain ⟨p,xs,rfl,hs,h⟩:=h
  cases e with
  | f z=>rw [Is] at h'; obtain ⟨e,hz⟩:=h'; subst e; cases hz
  | l es =>
   rw [Is] at h'
   obtain ⟨q,ys,e,hs',h'⟩:=h'
   cases e
   rw [I.list_inj hs' hs] at h'
   rw [IsL.inj ds I h h' hk]
  | t es =>
   rw [Is] at h'
   obtain ⟨q,ys,e,hs',h'⟩:=h'
   cases e
   exact absurd hs' (hk _ _ _ hs)
 | .t ds,e,x,I,h,h',hk=>by
  rw [Is] at h
  obtain ⟨p,xs,rfl,hs,h⟩:=h
  cases e with
  | f z=>rw [Is] at h'; obtain ⟨e,hz⟩:=h'; subst e; cases hz
  | l es =>
   rw [Is] at h'
   obtain ⟨q,ys,e,hs',h'⟩:=h'
   cases e
   exact absurd hs (hk _ _ _ hs')
  | t es =>
   rw [Is] at h'
   obtain ⟨q,ys,e,hs',h'⟩:=h'
   cases e
   rw [I.tuple_inj hs' hs] at h'
   rw [IsL.inj ds I h h' hk]
theorem IsL.inj:∀ (ds:List Dt){es:List Dt}{xs:List V},Inv X pins σ H s -> IsL X.K H xs ds -> IsL X.K H xs es -> (∀ p xs ys,SqL X.K H p xs -> ¬ SqT X.K H p ys) -> ds=es
 | [],es,xs,I,h,h',hk=>by
  rw [IsL] at h
  subst h
  cases es with
  | nil=>rfl
  | cons e es=>rw [IsL] at h'; obtain ⟨_,_,e,_⟩:=h'; cases e
 | d :: ds,es,xs,I,h,h',hk=>by
  rw [IsL] at h
  obtain ⟨y,r,rfl,hy,h⟩:=h
  cases es with
  | nil=>rw [IsL] at h'; cases h'
  | cons e es =>
   rw [IsL] at h'
   obtain ⟨y',r',e1,hy',h'⟩:=h'
   cases e1
   rw [Is.inj d I hy hy' hk,IsL.inj ds I h h' hk]
end
theorem Inv.apart (I:Inv X pins σ H s):∀ p xs ys,SqL X.K H p xs -> ¬ SqT X.K H p ys:=fun p xs ys h h'=>by
 obtain ⟨its,_,⟨o,n,e,c,_⟩,_⟩:=I.list h
 obtain ⟨its',_,⟨o',e',c',_⟩,_⟩:=I.tuple h'
 rw [e] at e'
 cases e'
 rw [c] at c'
 exact absurd c' (by decide)
theorem eqAt_F {x:V}(e:Dt){A:Around}{y:V}{u v:Value}(hu:A.units < cLine)(I:Inv X pins σ H s)(fx:flatV x=true)(hy:Is X.K H y e)(rx:RelV x u)(ry:RelV y v):SeqAt.EqAt A s u v (deq (.f x) e):=by
 cases e with
 | f y' =>
  rw [Is] at hy
  obtain ⟨rfl,fy⟩:=hy
  rw [deq]
  exact eqAt_V rx ry fx fy
 | l ds =>
  rw [Is] at hy
  obtain ⟨p,ys,rfl,hs,_⟩:=hy
  cases ry
  obtain ⟨its,_,pl,_⟩:=I.list hs
  have hl:=pl.isList
  rw [show deq (.f x) (.l ds)=false by rw [deq]; all_goals (intros; simp_all)]
  cases x with
  | non=>cases rx; exact SeqAt.EqAt.none_list hl hu
  | bl b=>cases rx; exact SeqAt.EqAt.bool_list b hl hu
  | int i=>obtain ⟨t,rfl⟩:=rx; exact SeqAt.EqAt.int_list i t hl hu
  | str z=>obtain ⟨t,rfl⟩:=rx; exact SeqAt.EqAt.str_list z t hl hu
  | _=>cases fx
 | t ds =>
  rw [Is] at hy
  obtain ⟨p,ys,rfl,hs,_⟩:=hy
  cases ry
  obtain ⟨its,_,pl,_⟩:=I.tuple hs
  have hl:s.heap.IsTuple p its.toArray:=pl
  rw [show deq (.f x) (.t ds)=false by rw [deq]; all_goals (intros; simp_all)]
  cases x with
  | non=>cases rx; exact SeqAt.EqAt.none_tuple hl hu
  | bl b=>cases rx; exact SeqAt.EqAt.bool_tuple b hl hu
  | int i=>obtain ⟨t,rfl⟩:=rx; exact SeqAt.EqAt.int_tuple i t hl hu
  | str z=>obtain ⟨t,rfl⟩:=rx; exact SeqAt.EqAt.str_tuple z t hl hu
  | _=>cases fx
def deqAt (ds es:List Dt)(j:Nat):Bool:=match ds[j]?,es[j]? with | some d,some e=>deq d e | _,_=>false
theorem elems {n:Nat}{A:Around}(ih:∀ (d e:Dt) {A:Around} {x y:V} {u v:Value},dep d <= n -> A.units+n < cLine -> Inv X pins σ H s -> Is X.K H x d -> Is X.K H y e -> RelV x u -> RelV y v -> SeqAt.EqAt A s u v (deq d e))(hu:A.units+(n+1) < cLine)(I:Inv X pins σ H s)
  {ds es:List Dt} {xs ys:List V} {its its':List Value} (hd:depL ds <= n) (hx:IsL X.K H xs ds) (hy:IsL X.K H ys es) (rx:Vals xs its) (ry:Vals ys its') :
  ∀ j (h1:j < its.toArray.size) (h2:j < its'.toArray.size),SeqAt.EqAt A.in1 s its.toArray[j] its'.toArray[j] (deqAt ds es j):=by
 intro j h1 h2
 have l1:=rx.length
 have l2:=ry.length
 have k1:j < xs.length:=by simpa [l1] using h1
 have k2:j < ys.length:=by simpa [l2] using h2
 obtain ⟨d,e1,q1⟩:=hx.get (qA k1)
 obtain ⟨e,e2,q2⟩:=hy.get (qA k2)
 obtain ⟨u,hu',ru⟩:=rx.get (qA k1)
 obtain ⟨v,hv',rv⟩:=ry.get (qA k2)
 have f1:its.toArray[j]=u:=by
  have:its[j]? = some its.toArray[j]:=by simp
  rw [hu'] at this
  exact (Option.some.inj this).symm
 have f2:its'.toArray[j]=v:=by
  have:its'[j]? = some its'.toArray[j]:=by simp
  rw [hv'] at this
  exact (Option.some.inj this).symm
 rw [f1,f2]
 unfold deqAt
 rw [e1,e2]
 exact ih d e (Nat.le_trans (depL_mem e1) hd) (by rw [Around.in1_units]; omega) I q1 q2 ru rv
theorem all_deqAt {ds es:List Dt}(h:ds.length=es.length):(List.range ds.length).all (deqAt ds es)=deqL ds es:=by
 rw [deqL_get,decide_eq_true h,Bool.true_and]
 rfl
theorem deqL_ne {ds es:List Dt}(h:ds.length ≠ es.length):deqL ds es=false:=by
 rw [deqL_get,decide_eq_false h,Bool.false_and]
theorem rcAt_D:∀ (n:Nat)(d e:Dt){A:Around}{x y:V}{u v:Value},dep d <= n -> A.units+n < cLine -> Inv X pins σ H s -> Is X.K H x d -> Is X.K H y e -> RelV x u -> RelV y v -> SeqAt.EqAt A s u v (deq d e) /\ (∀ p,x = .ref p -> SeqAt.RcAt A s u v (deq d e))
 | n,.f x',e,A,x,y,u,v,hn,hu,I,hx,hy,rx,ry=>by
  rw [Is] at hx
  obtain ⟨rfl,fx⟩:=hx
  exact ⟨eqAt_F e (by omega) I fx hy rx ry,fun p e=>by subst e; cases fx⟩
 | 0,.l ds,e,A,x,y,u,v,hn,hu,I,hx,hy,rx,ry=>by rw [dep] at hn; omega
 | 0,.t ds,e,A,x,y,u,v,hn,hu,I,hx,hy,rx,ry=>by rw [dep] at hn; omega
 | n+1,.l ds,e,A,x,y,u,v,hn,hu,I,hx,hy,rx,ry=>by
  rw [dep] at hn
  have hx0:=hx
  rw [Is] at hx
  obtain ⟨p,xs,rfl,hs,hxs⟩:=hx
  cases rx
  obtain ⟨its,rv,pl,_⟩:=I.list hs
  have hl:=pl.isList
  have hu':A.units < cLine:=by omega
  have ih:=fun (d e:Dt) {A:Around} {x y:V} {u v:Value} (a:dep d <= n) (b:A.units+n < cLine) (c:Inv X pins σ H s) (f:Is X.K H x d) (g:Is X.K H y e) (h:RelV x u) (i:RelV y v)=>(rcAt_D n d e a b c f g h i).1
  cases e with
  | f y' =>
   rw [Is] at hy
   obtain ⟨rfl,fy⟩:=hy
   rw [show deq (.l ds) (.f y)=false by rw [deq]; all_goals (intros; simp_all)]
   cases y with
   | non=>cases ry; exact ⟨SeqAt.EqAt.list_none hl hu',fun _ _=>SeqAt.RcAt.list_none hl hu'⟩
   | bl b=>cases ry; exact ⟨SeqAt.EqAt.list_bool b hl hu',fun _ _=>SeqAt.RcAt.list_bool b hl hu'⟩
   | int i=>obtain ⟨t,rfl⟩:=ry; exact ⟨SeqAt.EqAt.list_int i t hl hu',fun _ _=>SeqAt.RcAt.list_int i t hl hu'⟩
   | str z=>obtain ⟨t,rfl⟩:=ry; exact ⟨SeqAt.EqAt.list_str z t hl hu',fun _ _=>SeqAt.RcAt.list_str z t hl hu'⟩
   | _=>cases fy
  | l es =>
   have hy0:=hy
   rw [Is] at hy
   obtain ⟨q,ys,rfl,hs',hys⟩:=hy
   cases ry
   obtain ⟨its',rv',pl',_⟩:=I.list hs'
   have hl':=pl'.isList
   have e1:its.toArray.size=ds.length:=by rw [qM,← rv.length,hxs.len]
   have e2:its'.toArray.size=es.length:=by rw [qM,← rv'.length,hys.len]
   have rc:SeqAt.RcAt A s (.ref p) (.ref q) (deq (.l ds) (.l es)):=by
    rw [deq]
    by_cases hz:ds.length=es.length
    ·have:=SeqAt.RcAt.lists hl hl' (by omega) hu' (elems ih hu I (by omega) hxs hys rv rv')
     rw [e1,all_deqAt hz] at this
     exact this
    ·rw [deqL_ne hz]
     exact SeqAt.RcAt.lists_lengths hl hl' (by rw [bne_iff_ne]; omega) hu'
   refine ⟨?_,fun _ _=>rc⟩
   by_cases hpq:p=q
   ·subst hpq
    have:=Is.inj _ I hx0 hy0 I.apart
    rw [← this,deq_refl _ hx0]
    exact SeqAt.EqAt.same _
   ·exact SeqAt.EqAt.of_refs hpq rc
  | t es =>
   rw [Is] at hy
   obtain ⟨q,ys,rfl,hs',hys⟩:=hy
   cases ry
   obtain ⟨its',rv',pl',_⟩:=I.tuple hs'
   have hl':s.heap.IsTuple q its'.toArray:=pl'
   rw [show deq (.l ds) (.t es)=false by rw [deq]; all_goals (intros; simp_all)]
   exact ⟨SeqAt.EqAt.list_tuple hl hl' hu',fun _ _=>SeqAt.RcAt.list_tuple hl hl' hu'⟩
 | n+1,.t ds,e,A,x,y,u,v,hn,hu,I,hx,hy,rx,ry=>by
  rw [dep] at hn
  have hx0:=hx
  rw [Is] at hx
  obtain ⟨p,xs,rfl,hs,hxs⟩:=hx
  cases rx
  obtain ⟨its,rv,pl,_⟩:=I.tuple hs
  have hl:s.heap.IsTuple p its.toArray:=pl
  have hu':A.units < cLine:=by omega
  have ih:=fun (d e:Dt) {A:Around} {x y:V} {u v:Value} (a:dep d <= n) (b:A.units+n < cLine) (c:Inv X pins σ H s) (f:Is X.K H x d) (g:Is X.K H y e) (h:RelV x u) (i:RelV y v)=>(rcAt_D n d e a b c f g h i).1
  cases e with
  | f y' =>
   rw [Is] at hy
   obtain ⟨rfl,fy⟩:=hy
   rw [show deq (.t ds) (.f y)=false by rw [deq]; all_goals (intros; simp_all)]
   cases y with
   | non=>cases ry; exact ⟨SeqAt.EqAt.tuple_none hl hu',fun _ _=>SeqAt.RcAt.tuple_none hl hu'⟩
   | bl b=>cases ry; exact ⟨SeqAt.EqAt.tuple_bool b hl hu',fun _ _=>SeqAt.RcAt.tuple_bool b hl hu'⟩
   | int i=>obtain ⟨t,rfl⟩:=ry; exact ⟨SeqAt.EqAt.tuple_int i t hl hu',fun _ _=>SeqAt.RcAt.tuple_int i t hl hu'⟩
   | str z=>obtain ⟨t,rfl⟩:=ry; exact ⟨SeqAt.EqAt.tuple_str z t hl hu',fun _ _=>SeqAt.RcAt.tuple_str z t hl hu'⟩
   | _=>cases fy
  | l es =>
   rw [Is] at hy
   obtain ⟨q,ys,rfl,hs',hys⟩:=hy
   cases ry
   obtain ⟨its',rv',pl',_⟩:=I.list hs'
   have hl':=pl'.isList
   rw [show deq (.t ds) (.l es)=false by rw [deq]; all_goals (intros; simp_all)]
   exact ⟨SeqAt.EqAt.tuple_list hl hl' hu',fun _ _=>SeqAt.RcAt.tuple_list hl hl' hu'⟩
  | t es =>
   have hy0:=hy
   rw [Is] at hy
   obtain ⟨q,ys,rfl,hs',hys⟩:=hy
   cases ry
   obtain ⟨its',rv',pl',_⟩:=I.tuple hs'
   have hl':s.heap.IsTuple q its'.toArray:=pl'
   have e1:its.toArray.size=ds.length:=by rw [qM,← rv.length,hxs.len]
   have e2:its'.toArray.size=es.length:=by rw [qM,← rv'.length,hys.len]
   have rc:SeqAt.RcAt A s (.ref p) (.ref q) (deq (.t ds) (.t es)):=by
    rw [deq]
    have:=SeqAt.RcAt.tuples hl hl' hu' (elems ih hu I (by omega) hxs hys rv rv')
    rw [e1,e2] at this
    by_cases hz:ds.length=es.length
    ·rw [← hz,Nat.min_self,all_deqAt hz,beq_self_eq_true,Bool.and_true] at this
     exact this
    ·rw [deqL_ne hz]
     have:(ds.length == es.length)=false:=by simpa using hz
     simp_all
   refine ⟨?_,fun _ _=>rc⟩
   by_cases hpq:p=q
   ·subst hpq
    have:=Is.inj _ I hx0 hy0 I.apart
    rw [← this,deq_refl _ hx0]
    exact SeqAt.EqAt.same _
   ·exact SeqAt.EqAt.of_refs hpq rc
end
def rEqD (K:PySem.W.Frag):R2:=fun x y H Q=>∃ p d e,x = .ref p /\ Is K H x d /\ Is K H y e /\ dep d <= 50 /\ Q (.bl (deq d e)) H
def rNeD (K:PySem.W.Frag):R2:=fun x y H Q=>∃ p d e,x = .ref p /\ Is K H x d /\ Is K H y e /\ dep d <= 50 /\ Q (.bl (!deq d e)) H
section
variable {X:Cx}
theorem op_eqD {k:Nat}(hr:Room k X.A):OpR X (compareOp .Eq) (rEqD X.K):=by
 intro pins s σ H x y v u Q I rx ry h
 obtain ⟨p,d,e,rfl,hx,hy,hd,q⟩:=h
 have:=(rcAt_D 50 d e (A:=X.A) hd (by have:=hr.units; omega) I hx hy rx ry).2 p rfl
 exact this X.prog X.w X.xe _ ⟨.bl _,H,I,rfl,q⟩
end
end L2
set_option Elab.async false
set_option linter.all false
set_option maxRecDepth 100000
set_option maxHeartbeats 1000000
namespace L2
open PySem PySem.Spec PyProof.Rows
section
variable {X:Cx}{pins:List (Addr × Obj)}{σ:St}{H:Hp}{s:Shared}
theorem ih50 (n:Nat)(d e:Dt){A:Around}{x y:V}{u v:Value}(a:dep d <= n)(b:A.units+n < cLine)(c:Inv X pins σ H s)(f:Is X.K H x d)(g:Is X.K H y e)(h:RelV x u)(i:RelV y v):SeqAt.EqAt A s u v (deq d e):=(rcAt_D n d e a b c f g h i).1
theorem neAt_D (n:Nat)(d e:Dt){A:Around}{p:Addr}{y:V}{v:Value}(hn:dep d <= n+1)(hu:A.units+(n+1) < cLine)(I:Inv X pins σ H s)(hx:Is X.K H (.ref p) d)(hy:Is X.K H y e)(ry:RelV y v):SeqAt.RcNeAt A s (.ref p) v (!deq d e):=by
 have hu':A.units < cLine:=by omega
 cases d with
 | f x=>rw [Is] at hx; obtain ⟨e,hz⟩:=hx; subst e; cases hz
 | l ds =>
  rw [dep] at hn
  rw [Is] at hx
  obtain ⟨p',xs,e0,hs,hxs⟩:=hx
  cases e0
  obtain ⟨its,rv,pl,_⟩:=I.list hs
  have hl:=pl.isList
  cases e with
  | f y' =>
   rw [Is] at hy
   obtain ⟨rfl,fy⟩:=hy
   rw [show deq (.l ds) (.f y)=false by rw [deq]; all_goals (intros; simp_all)]
   cases y with
   | non=>cases ry; exact SeqAt.RcNeAt.list_none hl hu'
   | bl b=>cases ry; exact SeqAt.RcNeAt.list_bool b hl hu'
   | int i=>obtain ⟨t,rfl⟩:=ry; exact SeqAt.RcNeAt.list_int i t hl hu'
   | str z=>obtain ⟨t,rfl⟩:=ry; exact SeqAt.RcNeAt.list_str z t hl hu'
   | _=>cases fy
  | l es =>
   rw [Is] at hy
   obtain ⟨q,ys,rfl,hs',hys⟩:=hy
   cases ry
   obtain ⟨its',rv',pl',_⟩:=I.list hs'
   have hl':=pl'.isList
   have e1:its.toArray.size=ds.length:=by rw [qM,← rv.length,hxs.len]
   have e2:its'.toArray.size=es.length:=by rw [qM,← rv'.length,hys.len]
   rw [deq]
   by_cases hz:ds.length=es.length
   ·have:=SeqAt.RcNeAt.lists hl hl' (by omega) hu' (elems (ih50 n) hu I (by omega) hxs hys rv rv')
    rw [e1,all_deqAt hz] at this
    exact this
   ·rw [deqL_ne hz]
    exact SeqAt.RcNeAt.lists_lengths hl hl' (by rw [bne_iff_ne]; omega) hu'
  | t es =>
   rw [Is] at hy
   obtain ⟨q,ys,rfl,hs',hys⟩:=hy
   cases ry
   obtain ⟨its',rv',pl',_⟩:=I.tuple hs'
   have hl':s.heap.IsTuple q its'.toArray:=pl'
   rw [show deq (.l ds) (.t es)=false by rw [deq]; all_goals (intros; simp_all)]
   exact SeqAt.RcNeAt.list_tuple hl hl' hu'
 | t ds =>
  rw [dep] at hn
  rw [Is] at hx
  obtain ⟨p',xs,e0,hs,hxs⟩:=hx
  cases e0
  obtain ⟨its,rv,pl,_⟩:=I.tuple hs
  have hl:s.heap.IsTuple p its.toArray:=pl
  cases e with
  | f y' =>
   rw [Is] at hy
   obtain ⟨rfl,fy⟩:=hy
   rw [show deq (.t ds) (.f y)=false by rw [deq]; all_goals (intros; simp_all)]
   cases y with
   | non=>cases ry; exact SeqAt.RcNeAt.tuple_none hl hu'
   | bl b=>cases ry; exact SeqAt.RcNeAt.tuple_bool b hl hu'
   | int i=>obtain ⟨t,rfl⟩:=ry; exact SeqAt.RcNeAt.tuple_int i t hl hu'
   | str z=>obtain ⟨t,rfl⟩:=ry; exact SeqAt.RcNeAt.tuple_str z t hl hu'
   | _=>cases fy
  | l es =>
   rw [Is] at hy
   obtain ⟨q,ys,rfl,hs',hys⟩:=hy
   cases ry
   obtain ⟨its',rv',pl',_⟩:=I.list hs'
   have hl':=pl'.isList
   rw [show deq (.t ds) (.l es)=false by rw [deq]; all_goals (intros; simp_all)]
   exact SeqAt.RcNeAt.tuple_list hl hl' hu'
  | t es =>
   rw [Is] at hy
   obtain ⟨q,ys,rfl,hs',hys⟩:=hy
   cases ry
   obtain ⟨its',rv',pl',_⟩:=I.tuple hs'
   have hl':s.heap.IsTuple q its'.toArray:=pl'
   have e1:its.toArray.size=ds.length:=by rw [qM,← rv.length,hxs.len]
   have e2:its'.toArray.size=es.length:=by rw [qM,← rv'.length,hys.len]
   rw [deq]
   have:=SeqAt.RcNeAt.tuples hl hl' hu' (elems (ih50 n) hu I (by omega) hxs hys rv rv')
   rw [e1,e2] at this
   by_cases hz:ds.length=es.length
   ·rw [← hz,Nat.min_self,all_deqAt hz,beq_self_eq_true,Bool.and_true] at this
    exact this
   ·rw [deqL_ne hz]
    have:(ds.length == es.length)=false:=by simpa using hz
    simp_all
end
section
variable {X:Cx}
theorem op_neD {k:Nat}(hr:Room k X.A):OpR X (compareOp .NotEq) (rNeD X.K):=by
 intro pins s σ H x y v u Q I rx ry h
 obtain ⟨p,d,e,rfl,hx,hy,hd,q⟩:=h
 cases rx
 have:=neAt_D 50 d e (A:=X.A) (by omega) (by have:=hr.units; omega) I hx hy ry
 exact this X.prog X.w X.xe _ ⟨.bl _,H,I,rfl,q⟩
end
theorem isL_flat {K:PySem.W.Frag}{H:Hp}:∀ {xs:List V},xs.all flatV=true -> IsL K H xs (xs.map Dt.f)
 | [],_=>by rw [List.map_nil,IsL]
 | x :: r,h=>by
  rw [List.all_cons,Bool.and_eq_true] at h
  rw [List.map_cons,IsL]
  exact ⟨x,r,rfl,by rw [Is]; exact ⟨rfl,h.1⟩,isL_flat h.2⟩
theorem is_lst {K:PySem.W.Frag}{H:Hp}{p:Addr}{xs:List V}(h:SqL K H p xs)(f:xs.all flatV=true):Is K H (.ref p) (.l (xs.map Dt.f)):=by rw [Is]; exact ⟨p,xs,rfl,h,isL_flat f⟩
theorem depL_flat:∀ {xs:List V},depL (xs.map Dt.f)=0
 | []=>by rw [List.map_nil,depL]
 | x :: r=>by rw [List.map_cons,depL,depL_flat,dep]; rfl
theorem dep_l {xs:List V}:dep (.l (xs.map Dt.f))=1:=by rw [dep,depL_flat]
theorem flat_ints (ns:List Int):(ns.map V.int).all flatV=true:=by rw [List.all_map]; simp [flatV]
theorem deqL_ints:∀ (ns ms:List Int),deqL ((ns.map V.int).map Dt.f) ((ms.map V.int).map Dt.f)=decide (ns=ms)
 | [],[]=>by simp [deqL]
 | [],m :: ms=>by simp [deqL]
 | n :: ns,[]=>by simp [deqL]
 | n :: ns,m :: ms=>by
  rw [List.map_cons,List.map_cons,List.map_cons,List.map_cons,deqL,deqL_ints ns ms,deq]
  by_cases h1:n=m <;> by_cases h2:ns=ms <;> simp [eqV,h1,h2]
theorem deq_lints (ns ms:List Int):deq (.l ((ns.map V.int).map Dt.f)) (.l ((ms.map V.int).map Dt.f))=decide (ns=ms):=by rw [deq,deqL_ints]
theorem eqLI {K:PySem.W.Frag}{H:Hp}{p q:Addr}{ns ms:List Int}{Q:VK}(h1:SqL K H p (ns.map V.int))(h2:SqL K H q (ms.map V.int))(h:Q (.bl (decide (ns=ms))) H):rEqD K (.ref p) (.ref q) H Q :=
 ⟨p,_,_,rfl,is_lst h1 (flat_ints _),is_lst h2 (flat_ints _),by rw [dep_l]; decide,by rw [deq_lints]; exact h⟩
theorem neLI {K:PySem.W.Frag}{H:Hp}{p q:Addr}{ns ms:List Int}{Q:VK}(h1:SqL K H p (ns.map V.int))(h2:SqL K H q (ms.map V.int))(h:Q (.bl (!decide (ns=ms))) H):rNeD K (.ref p) (.ref q) H Q :=
 ⟨p,_,_,rfl,is_lst h1 (flat_ints _),is_lst h2 (flat_ints _),by rw [dep_l]; decide,by rw [deq_lints]; exact h⟩
def CompIt (J:It)(nt:Nat)(cs:List Nat)(g:TG)(tt:TT)(te:TE)(σ:St)(H1:Hp)(Q:VK):Prop:=∀ acc,H1 acc=none ->
 ∃ W:Nat -> Nat -> List V -> St -> Hp -> Prop,(∃ m,W 0 m [] (capSt nt cs σ) (upd H1 acc (.lst []))) /\ ∀ i m ys σ' H',W i m ys σ' H' -> H' acc=some (.lst ys) /\
  ((J.stop i H' /\ Q (.ref acc) H') \/ (J.go i H' /\ ys.length < sizeLine /\ ∃ N:List V -> St -> Hp -> Prop,(∀ zs σ2 H2,N zs σ2 H2 -> ∃ m',m' < m /\ W (i+1) m' zs σ2 H2) /\
   ∀ x H2,J.yld i H' x H2 -> g x σ' H2 fun σ3 H3=>tt σ3 H3 fun b H4=>if b=true then te σ3 H4 fun y H5=>H5 acc=some (.lst ys) /\ N (ys ++ [y]) σ3 (upd H5 acc (.lst (ys ++ [y]))) else N ys σ3 H4))
section
variable {K:PySem.W.Frag}{σ:St}{H:Hp}{Q:VK}{nt:Nat}{cs:List Nat}{g:TG}{tt:TT}{te:TE}{a:Addr}
theorem w_compL {tl:TE}:tComp (iList K tl) nt cs g tt te σ H Q=(tl σ H fun x H1=>∃ a,x = .ref a /\ (∃ xs,SqL K H1 a xs) /\ CompIt (Itl K a) nt cs g tt te σ H1 Q):=rfl
theorem w_compT {tl:TE}:tComp (iTup K tl) nt cs g tt te σ H Q=(tl σ H fun x H1=>∃ a,x = .ref a /\ (∃ xs,SqT K H1 a xs) /\ CompIt (Itt K a) nt cs g tt te σ H1 Q):=rfl
theorem w_comp1 {ta:TA}:tComp (iRng1 ta) nt cs g tt te σ H Q=(ta σ H fun vs H1=>∃ j:Int,vs=[.int j] /\ -(2 ^ 62) <= j /\ j < 2 ^ 62 /\ CompIt (Itr 0 j.toNat) nt cs g tt te σ H1 Q):=rfl
theorem w_yes {R:Bool -> Hp -> Prop}:tYes σ H R=R true H:=rfl
def capV (cs:List Nat)(σ:St):St:=cs.map fun c=>(σ[c]?).join
theorem comp_pure {J:It}{xs:List V}(f:V -> Option V)(hz:xs.length <= sizeLine)
  (hJ:∀ H',Same H H' -> (∀ i,i < xs.length -> J.go i H') /\ (∀ i x H2,J.yld i H' x H2 -> H2=H' /\ (i < xs.length -> xs[i]? = some x)) /\ J.stop xs.length H')
  (hb:∀ x H' (R:Option V -> Hp -> Prop),x ∈ xs -> Same H H' -> R (f x) H' -> tt (some x :: capV cs σ) H' fun b H4=>if b=true then te (some x :: capV cs σ) H4 fun y H5=>R (some y) H5 else R none H4)
  (hd:∀ acc,H acc=none -> Q (.ref acc) (upd H acc (.lst (xs.filterMap f)))):CompIt J 1 cs (gName 0) tt te σ H Q:=by
 intro acc hn
 have sm:∀ ys,Same H (upd H acc (.lst ys)):=fun ys=>same_new hn _
 refine ⟨fun i m ys σ' H'=>m=xs.length - i /\ i <= xs.length /\ (∃ o,σ'=o :: capV cs σ) /\ ys=(xs.take i).filterMap f /\ H'=upd H acc (.lst ys),⟨_,rfl,Nat.zero_le _,⟨none,rfl⟩,by simp,rfl⟩,?_⟩
 rintro i m ys σ' H' ⟨rfl,hi,⟨o,rfl⟩,hys,rfl⟩
 refine ⟨upd_same,?_⟩
 have hl:ys.length <= i:=by
  rw [hys]
  exact Nat.le_trans (List.length_filterMap_le _ _) (by rw [qO]; omega)
 by_cases hlt:i < xs.length
 ·refine .inr ⟨(hJ _ (sm ys)).1 i hlt,by omega,fun zs σ2 H2=>(∃ o,σ2=o :: capV cs σ) /\ zs=(xs.take (i+1)).filterMap f /\ H2=upd H acc (.lst zs),fun zs σ2 H2 ⟨q1,q2,q3⟩=>⟨xs.length - (i+1),by omega,rfl,hlt,q1,q2,q3⟩,fun x H2 y=>?_⟩
  obtain ⟨e,hx⟩:=(hJ _ (sm ys)).2.1 i x H2 y
  have hx:=hx hlt
  subst e
  show tt (some x :: capV cs σ) _ _
  have tk:xs.take (i+1)=xs.take i ++ [x]:=by rw [List.take_add_one,hx]; rfl
  refine hb x _ (fun o H5=>match o with | some y=>H5 acc=some (.lst ys) /\ (∃ o,some x :: capV cs σ = o :: capV cs σ) /\ ys ++ [y]=(xs.take (i+1)).filterMap f /\ upd H5 acc (.lst (ys ++ [y]))=upd H acc (.lst (ys ++ [y])) | none=>(∃ o,some x :: capV cs σ = o :: capV cs σ) /\ ys=(xs.take (i+1)).filterMap f /\ H5=upd H acc (.lst ys)) (qE hx) (sm ys) ?_
  cases hf:f x with
  | none =>
   refine ⟨⟨_,rfl⟩,?_,rfl⟩
   rw [tk,List.filterMap_append,← hys]
   simp [hf]
  | some y =>
   refine ⟨upd_same,⟨_,rfl⟩,?_,upd_upd⟩
   rw [tk,List.filterMap_append,← hys]
   simp [hf]
 ·have e:i=xs.length:=by omega
  subst e
  rw [List.take_length] at hys
  subst hys
  exact .inl ⟨(hJ _ (sm _)).2.2,hd acc hn⟩
theorem comp_L {xs:List V}(h:SqL K H a xs)(hz:xs.length <= sizeLine)(f:V -> Option V)
  (hb:∀ x H' (R:Option V -> Hp -> Prop),x ∈ xs -> Same H H' -> R (f x) H' -> tt (some x :: capV cs σ) H' fun b H4=>if b=true then te (some x :: capV cs σ) H4 fun y H5=>R (some y) H5 else R none H4)
  (hd:∀ acc,H acc=none -> Q (.ref acc) (upd H acc (.lst (xs.filterMap f)))):CompIt (Itl K a) 1 cs (gName 0) tt te σ H Q :=
 comp_pure f hz (fun H' s=>by
  have h':=s.seq h
  exact ⟨fun i hi=>⟨xs,xs[i],h',by simp [hi]⟩,fun i x H2 y=>⟨y.1,fun _=>y.2 xs h'⟩,⟨xs,h',Nat.le_refl _⟩⟩) hb hd
theorem Same.seqT {K:PySem.W.Frag}{H H':Hp}{a:Addr}{xs:List V}(e:Same H H')(h:SqT K H a xs):SqT K H' a xs:=by
 rcases h with (h | ⟨o,h⟩) | h
 ·exact .inl (.inl (e _ _ h))
 ·exact .inl (.inr ⟨o,e _ _ h⟩)
 ·exact .inr h
theorem comp_T {xs:List V}(h:SqT K H a xs)(hz:xs.length <= sizeLine)(f:V -> Option V)
  (hb:∀ x H' (R:Option V -> Hp -> Prop),x ∈ xs -> Same H H' -> R (f x) H' -> tt (some x :: capV cs σ) H' fun b H4=>if b=true then te (some x :: capV cs σ) H4 fun y H5=>R (some y) H5 else R none H4)
  (hd:∀ acc,H acc=none -> Q (.ref acc) (upd H acc (.lst (xs.filterMap f)))):CompIt (Itt K a) 1 cs (gName 0) tt te σ H Q :=
 comp_pure f hz (fun H' s=>by
  have h':=s.seqT h
  exact ⟨fun i hi=>⟨xs,xs[i],h',by simp [hi]⟩,fun i x H2 y=>⟨y.1,fun _=>y.2 xs h'⟩,⟨xs,h',Nat.le_refl _⟩⟩) hb hd
def rngV (lo:Int)(n:Nat):List V:=(List.range n).map fun (i:Nat)=>V.int (lo+(i:Int))
theorem rngV_get {lo:Int}{n i:Nat}(h:i < n):(rngV lo n)[i]? = some (.int (lo+i)):=by unfold rngV; rw [qI,List.getElem?_range h]; rfl
theorem rngV_len {lo:Int}{n:Nat}:(rngV lo n).length=n:=by unfold rngV; rw [qC,List.length_range]
theorem comp_R {lo:Int}{n:Nat}(hz:n <= sizeLine)(f:V -> Option V)
  (hb:∀ x H' (R:Option V -> Hp -> Prop),x ∈ rngV lo n -> Same H H' -> R (f x) H' -> tt (some x :: capV cs σ) H' fun b H4=>if b=true then te (some x :: capV cs σ) H4 fun y H5=>R (some y) H5 else R none H4)
  (hd:∀ acc,H acc=none -> Q (.ref acc) (upd H acc (.lst ((rngV lo n).filterMap f)))):CompIt (Itr lo n) 1 cs (gName 0) tt te σ H Q :=
 comp_pure (xs:=rngV lo n) f (by rw [rngV_len]; exact hz) (fun H' s=>by
  rw [rngV_len]
  exact ⟨fun i hi=>hi,fun i x H2 y=>⟨y.1,fun hi=>by rw [rngV_get hi,y.2]⟩,Nat.le_refl _⟩) hb hd
end
end L2
set_option Elab.async false
set_option linter.all false
set_option maxRecDepth 100000
set_option maxHeartbeats 1000000
namespace L2
open PySem PySem.Spec PyProof.Rows
section
variable {X:Cx}
theorem walk_list {pins:List (Addr × Obj)}{σ:St}{H:Hp}{s:Shared}{p:Addr}{xs:List V}(hc:X.calm=true)(I:Inv X pins σ H s)(hp:H p=some (.lst xs)){Q:Value -> Shared -> Prop}{E:Value -> Shared -> Prop}
  (h:∀ (its:List Value),Vals xs its -> ∀ s2:Shared,s2.heap.IsListIter s.heap.objs.size p 0 /\ s2.heap.IsList p its.toArray -> (∀ b ∈ [s.heap.objs.size,p],b < s2.heap.objs.size) -> p ≠ s.heap.objs.size -> Walks X.prog X.w X.A.in1 s.heap.objs.size [s.heap.objs.size,p] [s.heap.objs.size] its.toArray.size (fun i v=>its.toArray[i]? = some v) (fun i h=>h.IsListIter s.heap.objs.size p i /\ h.IsList p its.toArray) ->
   (∀ h' tk,(∀ b o,b ∉ [s.heap.objs.size] -> s2.heap.get? b=some o -> h'.get? b=some o) -> Inv X pins σ H { s2 with heap:=h',toks:=tk }) -> Q (.ref s.heap.objs.size) s2):wpAny (model X.prog X.w) X.A.in1 (pyIter (.ref p)) Q E s:=by
 obtain ⟨its,rv,pl,_⟩:=I.list (SqL.of hp)
 have hlt:p < s.heap.objs.size:=I.hok.lt hp
 refine wpAny_pyIter_list pl.isList (h its rv _ ⟨⟨_,Heap.get?_push_size _ rfl,rfl,rfl⟩,pl.isList.push _⟩ (fun b hb=>?_) (Nat.ne_of_lt hlt) (Walks.list (A:=X.A.in1) (I.ok.hd hc) _ p (Nat.ne_of_lt hlt) its.toArray) fun h' tk hk=>?_)
 ·show b < (s.heap.push _).objs.size
  rw [Heap.size_push]
  rcases List.mem_cons.mp hb with e | e
  ·rw [e]; exact Nat.lt_succ_self _
  ·have:b=p:=by simpa using e
   rw [this]; exact Nat.lt_succ_of_lt hlt
 ·exact I.kept (h':=h') (t':=tk) fun b o e=>hk b o (by simpa using Nat.ne_of_lt (Heap.lt_size e)) (Heap.get?_push_of_some _ e)
theorem vals_intItems:∀ {ns:List Int}{us:List Value},Vals (ns.map V.int) us -> ∃ xs:List (Int × Tok),us=xs.map (fun p=>Value.int p.1 p.2) /\ xs.map (·.1)=ns
 | [],_,h=>by cases h; exact ⟨[],rfl,rfl⟩
 | n :: r,_,h=>by
  cases h with
  | cons q t =>
   obtain ⟨tk,rfl⟩:=q
   obtain ⟨xs,rfl,e⟩:=vals_intItems t
   exact ⟨(n,tk) :: xs,rfl,by simp [e]⟩
def rSum:List V -> Hp -> VK -> Prop:=fun xs H Q=>∃ (p:Addr) (ns:List Int),xs=[.ref p] /\ H p=some (.lst (ns.map V.int)) /\ Q (.int ns.sum) H
theorem call_sum (hc:X.calm=true):CallR X (.builtin "sum") rSum:=by
 intro pins s σ H xs us Q I r h
 obtain ⟨p,ns,rfl,hp,q⟩:=h
 obtain ⟨u,rfl,ru⟩:=Vals.one r
 cases ru
 obtain ⟨its,rv,pl,_⟩:=I.list (SqL.of hp)
 obtain ⟨xs,rfl,e⟩:=vals_intItems rv
 have hl:s.heap.IsList p (intItems xs.toArray):=by
  have:=pl.isList
  rw [show (List.map (fun p=>Value.int p.1 p.2) xs).toArray=intItems xs.toArray by unfold intItems; simp] at this
  exact this
 refine sum_intListG (I.ok.hd hc) hl fun h' tk t' hk=>⟨.int ns.sum,H,I.kept hk,⟨t',?_⟩,q⟩
 rw [preSum_eq,List.take_of_length_le (by simp),← e]
def rBits:V -> List V -> Hp -> VK -> Prop:=fun x vs H Q=>∃ i,x = .int i /\ vs=[] /\ Q (.int (Builtin.Int.intBits i:Nat)) H
theorem mt_bits:MtR X "int.bit_length" rBits:=by
 intro pins s σ H x xs v us Q I rx rs h
 obtain ⟨i,rfl,rfl,q⟩:=h
 obtain ⟨t,rfl⟩:=rx
 cases rs
 exact call_gives slot_int_bit_length (typeIs_int s i t) entry_int_bit_length (args_int_bit_length _) (AutoIntG2.int_bit_length_int_0 i t) ⟨.int _,H,I.tok _,⟨_,rfl⟩,q⟩
theorem w_rBits {i:Int}{H:Hp}{Q:VK}:rBits (.int i) [] H Q=Q (.int (Builtin.Int.intBits i:Nat)) H:=propext ⟨fun ⟨j,e,_,q⟩=>by cases e; exact q,fun q=>⟨i,rfl,rfl,q⟩⟩
theorem w_tyInt {K:PySem.W.Frag}{i:Int}{H:Hp}:tyV K "int" (.int i) H=True:=eq_true (by first | exact rfl | (unfold tyV; rfl) | (unfold tyV; simp))
end
section
variable {K:PySem.W.Frag}{σ:St}{H:Hp}{Q:VK}
theorem w_bm {T:String}{r:V -> List V -> Hp -> VK -> Prop}{to:TE}{t:TA}:tBM K T r to t σ H Q=(to σ H fun x H1=>tyV K T x H1 /\ t σ H1 fun xs H2=>r x xs H2 Q):=rfl
theorem w_bm0 {T:String}{r:V -> List V -> Hp -> VK -> Prop}{to:TE}:tBM0 K T r to σ H Q=(to σ H fun x H1=>tyV K T x H1 /\ r x [] H1 Q):=rfl
theorem w_append {l:Addr}{y:V}:rAppend (.ref l) [y] H Q = ∃ xs,H l=some (.lst xs) /\ xs.length < sizeLine /\ Q .non (upd H l (.lst (xs ++ [y]))) :=
 propext ⟨fun ⟨l',xs,y',e1,e2,h,z,q⟩=>by cases e1; cases e2; exact ⟨xs,h,z,q⟩,fun ⟨xs,h,z,q⟩=>⟨l,xs,y,rfl,rfl,h,z,q⟩⟩
theorem ty_list {l:Addr}{xs:List V}(h:H l=some (.lst xs)):tyV K "list" (.ref l) H:=by
 first | exact .inl ⟨rfl,_,SqL.of h⟩ | (unfold tyV; exact .inl ⟨rfl,_,SqL.of h⟩)
end
end L2
set_option Elab.async false
set_option linter.all false
set_option maxRecDepth 100000
namespace L2
open PySem PySem.Spec PyProof.Rows PySem.W
def absI (n:Int):Int:=if n < 0 then -n else n
def lowK (n:Int):Int:=(Builtin.Int.intBits (Builtin.bitAnd (absI n) (-absI n)):Int) - 1
def coreL (n:Int):List Int:=if n=0 then [0,0,0] else [absI n / 2 ^ (lowK n).toNat,lowK n,if 0 < n then 1 else -1]
end L2
set_option Elab.async false
set_option linter.all false
set_option maxRecDepth 100000
namespace L2
open PySem PySem.Spec PyProof.Rows
def gTupM (n:Nat)(t:TGs):TG:=fun v σ H Q=>∃ a xs,v = .ref a /\ H a=some (.tup xs) /\ xs.length=n /\ t xs σ H Q
theorem pg_tupM {X:Cx}{es:List Expr}{k:Nat}{t:TGs}{pos:Pos}(n:Nat)(hc:X.calm=true)(h:PGs X es t)(hn:(assignEach es X.env).length=n:=by rfl)(hst:(assignEach es X.env).findIdx? (·.1)=none:=by rfl):PG X (.Tuple es k pos) (gTupM n t):=by
 intro pins s σ H v u Q I r hw
 obtain ⟨a,xs,e1,hq,hl,hw⟩:=hw
 exact pg_tup (X:=X) (n:=n) hc h hn hst pins s σ H v u Q I r ⟨a,xs,e1,SqT.of hq,hl,hw⟩
section
variable {K:PySem.W.Frag}{σ:St}{H:Hp}{Q:VK}{R:St -> Hp -> Prop}
theorem w_gTupM {n:Nat}{t:TGs}{a:Addr}:gTupM n t (.ref a) σ H R = ∃ xs,H a=some (.tup xs) /\ xs.length=n /\ t xs σ H R :=
 propext ⟨fun ⟨a',xs,e,h,l,q⟩=>by cases e; exact ⟨xs,h,l,q⟩,fun ⟨xs,h,l,q⟩=>⟨a,xs,rfl,h,l,q⟩⟩
theorem w_gCons {t:TG}{u:TGs}{v:V}{r:List V}:gCons t u (v :: r) σ H R=t v σ H fun σ' H'=>u r σ' H' R :=
 propext ⟨fun ⟨v',r',e,q⟩=>by cases e; exact q,fun q=>⟨v,r,rfl,q⟩⟩
theorem w_gNil:gNil [] σ H R=R σ H:=propext ⟨fun ⟨_,q⟩=>q,fun q=>⟨rfl,q⟩⟩
end
end L2
set_option Elab.async false
set_option linter.all false
set_option maxRecDepth 100000
namespace L2
open PySem PySem.Spec PyProof.Rows
def rDG:R2:=fun x y H Q=>∃ a k,x = .ref a /\ y=kV k /\ ∃ kvs,H a=some (.dK kvs) /\ ∃ v,valV kvs k=some v /\ Q v H
def rDP:V -> V -> V -> Hp -> (Hp -> Prop) -> Prop:=fun x y v H R=>∃ a k,x = .ref a /\ y=kV k /\ ∃ kvs,H a=some (.dK kvs) /\ kvs.length < sizeLine /\ R (upd H a (.dK (putK kvs k v)))
def sDP (td ty tv:TE):TS:=fun D σ H=>tv σ H fun v H1=>td σ H1 fun x H2=>ty σ H2 fun y H3=>rDP x y v H3 fun H4=>D.nx σ H4
def rDI (neg:Bool):R2:=fun y x H Q=>∃ a k,x = .ref a /\ y=kV k /\ ∃ kvs,H a=some (.dK kvs) /\ Q (.bl (if neg then !(valV kvs k).isSome else (valV kvs k).isSome)) H
section
variable {X:Cx}{o i e value:Expr}{pos pos' tpos:Pos}{td ty tv:TE}
end
section
variable {σ:St}{H:Hp}{Q:VK}{D:Ends}{a:Addr}{v:V}{R:Hp -> Prop}
theorem kV_s {k:Key}{x:Str}:(V.str x=kV k)=(k = .inr x):=propext ⟨fun e=>by cases k <;> cases e; rfl,fun e=>by subst e; rfl⟩
theorem kV_i {k:Key}{x:Int}:(V.int x=kV k)=(k = .inl x):=propext ⟨fun e=>by cases k <;> cases e; rfl,fun e=>by subst e; rfl⟩
theorem w_dgS {x:Str}:rDG (.ref a) (.str x) H Q = ∃ kvs,H a=some (.dK kvs) /\ ∃ v,valV kvs (.inr x)=some v /\ Q v H :=
 propext ⟨fun ⟨a',k,e1,e2,q⟩=>by cases e1; rw [kV_s] at e2; subst e2; exact q,fun q=>⟨a,.inr x,rfl,rfl,q⟩⟩
theorem w_dgI {x:Int}:rDG (.ref a) (.int x) H Q = ∃ kvs,H a=some (.dK kvs) /\ ∃ v,valV kvs (.inl x)=some v /\ Q v H :=
 propext ⟨fun ⟨a',k,e1,e2,q⟩=>by cases e1; rw [kV_i] at e2; subst e2; exact q,fun q=>⟨a,.inl x,rfl,rfl,q⟩⟩
theorem w_sDP {td ty tv:TE}:sDP td ty tv D σ H=(tv σ H fun v H1=>td σ H1 fun x H2=>ty σ H2 fun y H3=>rDP x y v H3 fun H4=>D.nx σ H4):=rfl
theorem w_dpS {x:Str}:rDP (.ref a) (.str x) v H R = ∃ kvs,H a=some (.dK kvs) /\ kvs.length < sizeLine /\ R (upd H a (.dK (putK kvs (.inr x) v))) :=
 propext ⟨fun ⟨a',k,e1,e2,q⟩=>by cases e1; rw [kV_s] at e2; subst e2; exact q,fun q=>⟨a,.inr x,rfl,rfl,q⟩⟩
theorem w_dpI {x:Int}:rDP (.ref a) (.int x) v H R = ∃ kvs,H a=some (.dK kvs) /\ kvs.length < sizeLine /\ R (upd H a (.dK (putK kvs (.inl x) v))) :=
 propext ⟨fun ⟨a',k,e1,e2,q⟩=>by cases e1; rw [kV_i] at e2; subst e2; exact q,fun q=>⟨a,.inl x,rfl,rfl,q⟩⟩
theorem w_dII {neg:Bool}{x:Int}:rDI neg (.int x) (.ref a) H Q = ∃ kvs,H a=some (.dK kvs) /\ Q (.bl (if neg then !(valV kvs (.inl x)).isSome else (valV kvs (.inl x)).isSome)) H :=
 propext ⟨fun ⟨a',k,e1,e2,q⟩=>by cases e1; rw [kV_i] at e2; subst e2; exact q,fun q=>⟨a,.inl x,rfl,rfl,q⟩⟩
theorem w_disp {trs:List (TE × TE)}:tDisp trs σ H Q = ∀ p,H p=none -> tPairs trs σ (upd H p (.dK [])) fun ps H2=>H2 p=some (.dK []) /\ ∃ kvs:List (Key × V),ps=kvs.map (fun kv=>(kV kv.1,kv.2)) /\ kvs.length <= 15 /\ Q (.ref p) (upd H2 p (.dK (mergeK [] kvs))):=rfl
end
def penKV (a:Addr)(at_ l:Int):List (Key × V):=[(.inr "script",.ref a),(.inr "at",.int at_),(.inr "left",.int l)]
theorem pen_s {a:Addr}{t l:Int}:valV (penKV a t l) (.inr "script")=some (.ref a):=by unfold penKV; rw [valV_pos rfl]
theorem key_sa:¬ (Sum.inr "script" : Key)=(Sum.inr "at" : Key):=by decide
theorem key_sl:¬ (Sum.inr "script" : Key)=(Sum.inr "left" : Key):=by decide
theorem key_al:¬ (Sum.inr "at" : Key)=(Sum.inr "left" : Key):=by decide
theorem pen_a {a:Addr}{t l:Int}:valV (penKV a t l) (.inr "at")=some (.int t):=by unfold penKV; rw [valV_neg key_sa,valV_pos rfl]
theorem pen_l {a:Addr}{t l:Int}:valV (penKV a t l) (.inr "left")=some (.int l):=by unfold penKV; rw [valV_neg key_sl,valV_neg key_al,valV_pos rfl]
theorem pen_len {a:Addr}{t l:Int}:((penKV a t l).length < sizeLine)=True:=eq_true (qJ (by decide:3 < 1000) (le_size (by decide)))
theorem pen_pa {a:Addr}{t l x:Int}:putK (penKV a t l) (.inr "at") (.int x)=penKV a x l:=by
 unfold putK
 rw [valV_any,pen_a]
 rfl
theorem pen_pl {a:Addr}{t l x:Int}:putK (penKV a t l) (.inr "left") (.int x)=penKV a t x:=by
 unfold putK
 rw [valV_any,pen_l]
 rfl
end L2
set_option Elab.async false
set_option linter.all false
set_option maxRecDepth 100000
namespace L2
open PySem PySem.Spec PyProof.Rows
def Itv (K:PySem.W.Frag)(a:Addr)(n:Nat):It :=
 ⟨fun i H=>i < n /\ ∃ xs,SqL K H a xs /\ xs.length=n,fun i H x H'=>H'=H /\ ∀ xs,SqL K H a xs -> xs.length=n -> xs[n - 1 - i]? = some x,fun i H=>i=n⟩
theorem turn_rev {P:Program}{w:World}{K:PySem.W.Frag}{tg:Expr}(a it:Addr)(n:Nat):Turn P w K tg (Itv K a n) [it] it (fun i h=>i <= n /\ h.IsRevIter it a ((n:Int) - 1 - (i:Int))) where
 mem:=by simp
 obj:=fun i h st b hb=>by
  have e:b=it:=by simpa using hb
  subst e
  obtain ⟨_,o,e,c,d⟩:=st
  exact ⟨o,e,fun v z=>by rw [d] at z; cases z⟩
 keep:=fun i h h' st k=>⟨st.1,st.2.at fun o e=>k it (by simp) o e⟩
 item:=by
  intro X hP hw hK hc i pins s σ H E I hf st hg
  subst hP hw hK
  obtain ⟨hi,xs,hq,hn⟩:=hg
  obtain ⟨its,rv,p,hz⟩:=I.list hq
  have hlt:n - 1 - i < xs.length:=by omega
  obtain ⟨u,hu,ru⟩:=rv.get (qA hlt)
  obtain ⟨f0,f1,f2,f3,f4,f5⟩:=hf it (by simp)
  have e1:(n:Int) - 1 - (i:Int)=((n - 1 - i:Nat):Int):=by omega
  have st2:=st.2
  rw [e1] at st2
  refine wpAny_pyNext_rev_item st2 p.isList (x:=u) (by simpa using hu) fun h' st' sb=>?_
  have I1:Inv X pins σ H { s with heap:=h' }:=I.turned (t':=s.toks) (fun b o hb e=>(sb.2 b hb).trans e) f0 f1 f3 f4 f5
  obtain ⟨o,e,c,d⟩:=id st'
  have e2:((n - 1 - i:Nat):Int) - 1=(n:Int) - 1 - ((i+1:Nat):Int):=by omega
  rw [e2] at st'
  exact ⟨u,rfl,go_of (s:={ s with heap:=h' }) e c d (by decide) ⟨xs[n - 1 - i],H,I1,ru,⟨rfl,fun ys hy _=>by rw [I.list_inj hy hq]; exact qA hlt⟩,⟨hi,st'⟩,fun b hb=>(hf b hb).1⟩⟩
 done:=by
  intro X hP hw hK hc i pins s σ H E I hf st hg
  subst hP hw hK
  obtain ⟨f0,f1,f2,f3,f4,f5⟩:=hf it (by simp)
  have hg:i=n:=hg
  have st2:=st.2
  rw [show (n:Int) - 1 - (i:Int) = -1 by omega] at st2
  exact wpAny_pyNext_rev_end (I.ok.hd hc) st2 fun h' eb=>⟨rfl,I.turned (t':=s.toks) (fun b o hb e=>eb b o hb e) f0 f1 f3 f4 f5⟩
 self:=fun _ _ _ _ _ st h=>wpAny_pyIter_revIter st.2 h
def iRev (K:PySem.W.Frag)(ta:TA):TI:=fun σ H R=>ta σ H fun vs H1=>∃ a xs,vs=[.ref a] /\ SqL K H1 a xs /\ R (Itv K a xs.length) H1
theorem pi_rev {X:Cx} {tg a:Expr} {ta:TA} {p pos:Pos} (hg:Gl X "reversed") (hm:X.mg "reversed" = none) (ha:PA X [a] ta) (hs:starEach [a] X.env=[(false,eval a X.env)]:=by rfl):PI X tg (.Call (.Name "reversed" p) [a] [] pos) (iRev X.K ta):=by
 intro pins s σ H R I h
 refine Call_ (ld_blt I hg hm bo_reversed (PyProof.Rows.callWith_type1 (thn (ha pos pins s σ H _ I h) fun us s1 ⟨vs,H1,I1,r1,q1⟩=>?_) hs rfl))
 obtain ⟨l,xs,e,hq,q⟩:=q1
 subst e
 obtain ⟨u,rfl,ru⟩:=Vals.one r1
 cases ru
 obtain ⟨its,rv,pl,hz⟩:=I1.list hq
 have hlen:its.toArray.size=xs.length:=by rw [qM,rv.length]
 refine call_reversed_list pl.isList ?_
 rw [hlen]
 have I2:Inv X pins σ H1 { s1 with heap:=s1.heap.push (revObj l ((xs.length:Int) - 1)) }:=I1.kept (t':=s1.toks) fun b o e=>Heap.get?_push_of_some _ e
 have st:(s1.heap.push (revObj l ((xs.length:Int) - 1))).IsRevIter s1.heap.objs.size l ((xs.length:Int) - 1 - ((0:Nat):Int)):=by
  rw [show (xs.length:Int) - 1 - ((0:Nat):Int)=(xs.length:Int) - 1 by omega]
  exact ⟨_,Heap.get?_push_size _ rfl,rfl,rfl⟩
 refine wpAny_pyIter_revIter st ?_
 refine ⟨s1.heap.objs.size,[s1.heap.objs.size],_,_,H1,rfl,I2,turn_rev l _ xs.length,⟨Nat.zero_le _,st⟩,fun b hb=>?_,q⟩
 have e:b=s1.heap.objs.size:=by simpa using hb
 subst e
 exact I1.fpOk (Nat.le_refl _) (I1.hok.fresh (Nat.le_refl _))
def ForV (K:PySem.W.Frag)(a:Addr)(n:Nat)(g:TG)(tb:TS)(D:Ends)(σ:St)(H:Hp):Prop:=∃ W:Nat -> Nat -> St -> Hp -> Prop,(∃ m,W 0 m σ H) /\ ∀ i m σ H,W i m σ H ->
 ((Itv K a n).stop i H /\ D.nx σ H) \/ ((Itv K a n).go i H /\ ∃ N:St -> Hp -> Prop,(∀ σ' H',N σ' H' -> ∃ m',m' < m /\ W (i+1) m' σ' H') /\ ∀ x H',(Itv K a n).yld i H x H' -> g x σ H' fun σ2 H2=>tb { D with nx:=N,ct:=N,bk:=D.nx } σ2 H2)
section
variable {σ:St}{H:Hp}{D:Ends}{g:TG}{tb:TS}{K:PySem.W.Frag}{a:Addr}
theorem w_forV {ta:TA}:tFor (iRev K ta) g tb D σ H=(ta σ H fun vs H1=>∃ a xs,vs=[.ref a] /\ SqL K H1 a xs /\ ForV K a xs.length g tb D σ H1):=rfl
theorem forV {xs:List V}(Pv:Nat -> St -> Hp -> Prop)(h0:Pv 0 σ H)(hl:∀ i σ H,i <= xs.length -> Pv i σ H -> SqL K H a xs)
  (hs:∀ i x σ H (N:St -> Hp -> Prop),xs.reverse[i]? = some x -> Pv i σ H -> (∀ σ' H',Pv (i+1) σ' H' -> N σ' H') -> g x σ H fun σ2 H2=>tb { D with nx:=N,ct:=N,bk:=D.nx } σ2 H2) (hd:∀ σ H,Pv xs.length σ H -> D.nx σ H):ForV K a xs.length g tb D σ H:=by
 refine ⟨fun i m σ H=>m=xs.length - i /\ i <= xs.length /\ Pv i σ H,⟨xs.length,by simp,Nat.zero_le _,h0⟩,?_⟩
 rintro i m σ H ⟨rfl,hi,p⟩
 have q:=hl i σ H hi p
 by_cases hlt:i < xs.length
 ·refine .inr ⟨⟨hlt,xs,q,rfl⟩,Pv (i+1),fun σ' H' p'=>⟨xs.length - (i+1),by omega,rfl,hlt,p'⟩,fun x H' y=>?_⟩
  obtain ⟨e,y⟩:=y
  subst e
  refine hs i x σ _ (Pv (i+1)) ?_ p fun _ _ z=>z
  rw [List.getElem?_reverse hlt]
  exact y xs q rfl
 ·have e:i=xs.length:=by omega
  subst e
  exact .inl ⟨rfl,hd σ H p⟩
end
end L2
set_option Elab.async false
set_option linter.all false
set_option maxRecDepth 100000
namespace L2
open PySem
def fs (n:Int):Int:=if n % 2=0 then 0 else 2 - n % 4
def val:List Int -> Int
 | []=>0
 | d :: r=>d+2 * val r
end L2
set_option Elab.async false
set_option linter.all false
set_option maxRecDepth 100000
namespace L2
open PySem PySem.Spec PyProof.Rows
def tWhl (c:TT)(tb:TS):TS:=fun D σ H=>∃ W:Nat -> St -> Hp -> Prop,(∃ m,W m σ H) /\ ∀ m σ H,W m σ H -> ∀ N:St -> Hp -> Prop,(∀ m' σ' H',m' < m -> W m' σ' H' -> N σ' H') ->
 c σ H fun b H1=>if b=true then tb { D with nx:=N,ct:=N,bk:=D.nx } σ H1 else D.nx σ H1
theorem ps_whl {X:Cx}{pos:Pos}{c:Expr}{body:List Stmt}{tc:TT}{tb:TS}(hp:PassesOwn (model X.prog X.w) X.A X.env X.xe)(hc:PT X c tc)(hb:PSs X body tb):PS X (.While c body [] pos) (tWhl tc tb):=by
 intro pins s σ H D I h
 obtain ⟨W,⟨m0,w0⟩,turn⟩:=h
 refine wpAny_While (codeAny_whileLoop (fun n s'=>∃ σ' H',Inv X pins σ' H' s' /\ W n σ' H') ?_ m0 ⟨σ,H,I,w0⟩)
 rintro n s1 ⟨σ1,H1,I1,w1⟩
 refine wpAny_passesOwn hp (thn (hc pins s1 σ1 H1 _ I1 (turn n σ1 H1 w1 (fun σ' H'=>∃ m',m' < n /\ W m' σ' H') fun m' _ _ l z=>⟨m',l,z⟩)) fun b s2 ⟨H2,I2,q2⟩=>?_)
 cases b with
 | true =>
  rw [if_pos rfl] at q2 ⊢
  refine wpAny_passesOwn hp (thn (hb pins s2 σ1 H2 _ I2 q2) fun f s3 q3=>?_)
  cases f with
  | next =>
   obtain ⟨σ3,H3,I3,m',hm,w3⟩:=q3
   exact ⟨m',hm,σ3,H3,I3,w3⟩
  | cont =>
   obtain ⟨σ3,H3,I3,m',hm,w3⟩:=q3
   exact ⟨m',hm,σ3,H3,I3,w3⟩
  | brk=>exact q3
  | ret v=>exact q3
 | false =>
  rw [if_neg Bool.false_ne_true] at q2 ⊢
  exact wpAny_execs_nil ⟨σ1,H2,I2,q2⟩
theorem whl {c:TT}{tb:TS}{D:Ends}{σ:St}{H:Hp}(Pv:Nat -> St -> Hp -> Prop)(m:Nat)(h0:Pv m σ H)
  (hs:∀ m σ H (N:St -> Hp -> Prop),Pv m σ H -> (∀ m' σ' H',m' < m -> Pv m' σ' H' -> N σ' H') -> c σ H fun b H1=>if b=true then tb { D with nx:=N,ct:=N,bk:=D.nx } σ H1 else D.nx σ H1):tWhl c tb D σ H :=
 ⟨Pv,⟨m,h0⟩,fun m σ H p N hN=>hs m σ H N p hN⟩
theorem filterMap_some {α β:Type}(f:α -> β)(xs:List α):xs.filterMap (fun x=>some (f x))=xs.map f:=by
 induction xs with
 | nil=>rfl
 | cons x r ih=>rw [List.filterMap_cons,ih]; rfl
end L2
set_option Elab.async false
set_option linter.all false
set_option maxRecDepth 100000
namespace L2
open PySem
theorem le_big {n:Nat}(h:n <= 100000):n <= sizeLine:=Nat.le_trans h (by decide)
theorem lt_big {n:Nat}(h:n < 100000):n < sizeLine:=qJ h (by decide)
theorem same_upd {H H':Hp}{r:Addr}{o:HO}(h:H r=none)(s:Same H H'):Same H (upd H' r o):=fun b u q=>by rw [upd_ne (ne_of_none q h)]; exact s b u q
def shV (n s:Int):V:=if 0 <= s then .int (n * 2 ^ s.toNat) else if n / 2 ^ (-s).toNat * 2 ^ (-s).toNat=n then .int (n / 2 ^ (-s).toNat) else .non
def spShifted:Sp:=fun vs H Q _=>∃ n s:Int,vs=[.int n,.int s] /\ -4000 <= s /\ s <= 4000 /\ n.natAbs < 2 ^ 10000 /\ Q (shV n s) H
theorem big_of {n:Int}{j k:Nat}(h:n.natAbs < 2 ^ j)(l:j <= k):n.natAbs < 2 ^ k:=qJ h (qN (by decide) l)
def On2 (vs:List V)(P:Int -> Int -> Prop):Prop:=∃ i j,vs=[.int i,.int j] /\ P i j
theorem w_On2 {i j:Int}{P:Int -> Int -> Prop}:On2 [.int i,.int j] P=P i j:=propext ⟨fun ⟨i',j',e,q⟩=>by cases e; exact q,fun q=>⟨i,j,rfl,q⟩⟩
section
variable {σ:St}{H:Hp}{D:Ends}{g:TG}{tb:TS}{K:PySem.W.Frag}{Q:VK}{nt:Nat}{cs:List Nat}{tt:TT}{te:TE}
theorem w_for2b {ta:TA}:tFor (iRng2 ta) g tb D σ H=(ta σ H fun vs H1=>On2 vs fun i j=>(-(2 ^ 62) <= i /\ i < 2 ^ 62 /\ -(2 ^ 62) <= j /\ j < 2 ^ 62) /\ ForR i (j - i).toNat g tb D σ H1):=rfl
theorem w_comp2b {ta:TA}:tComp (iRng2 ta) nt cs g tt te σ H Q=(ta σ H fun vs H1=>On2 vs fun i j=>(-(2 ^ 62) <= i /\ i < 2 ^ 62 /\ -(2 ^ 62) <= j /\ j < 2 ^ 62) /\ CompIt (Itr i (j - i).toNat) nt cs g tt te σ H1 Q):=rfl
end
end L2
set_option Elab.async false
set_option linter.all false
set_option maxRecDepth 100000
namespace L2
open PySem
theorem w_neB {a b:Bool}{H:Hp}{Q:VK}:rNe (.bl a) (.bl b) H Q=Q (.bl (!decide (a=b))) H :=
 propext (by
  have e:decide (V.bl a=V.bl b)=decide (a=b):=by by_cases h:a=b <;> simp [h]
  unfold rNe; rw [e]; exact ⟨fun h=>h.2,fun h=>⟨rfl,h⟩⟩)
theorem w_eqB {a b:Bool}{H:Hp}{Q:VK}:rEq (.bl a) (.bl b) H Q=Q (.bl (decide (a=b))) H :=
 propext (by
  have e:decide (V.bl a=V.bl b)=decide (a=b):=by by_cases h:a=b <;> simp [h]
  unfold rEq; rw [e]; exact ⟨fun h=>h.2,fun h=>⟨rfl,h⟩⟩)
end L2
set_option Elab.async false
set_option linter.all false
set_option maxRecDepth 100000
namespace L2
open PySem
abbrev SS:=List (Int × Int) × List Int
def stp (m:Int)(s:SS)(o:Int):SS:=if (s.1.lookup o).isSome=false /\ (if o < 0 then -o else o) < 200 then (s.1 ++ [(o,m)],s.2 ++ [o]) else s
def kin (m n:Int)(s:SS)(k:Nat):SS:=stp m (stp m s (n+1 * 2 ^ k)) (n - 1 * 2 ^ k)
end L2
set_option Elab.async false
set_option linter.all false
set_option maxRecDepth 100000
set_option maxHeartbeats 1000000
namespace L2
open PySem PySem.Spec PyProof.Rows
section
variable {prog:Program}{w:World}{A:Around}{R:Result -> Shared -> Prop}{I S:Addr}{fp wr:List Addr}{n:Nat}{P:Nat -> Value -> Prop}{St:Nat -> Heap -> Prop}{bt:Nat -> Nat -> Bool}{d:Value}
end
section
variable {prog:Program}{w:World}{A:Around}{E:Value -> Shared -> Prop}{s:Shared}{d x:Value}
end
def mz:List Int -> Int
 | []=>0
 | x :: r=>if mz r < x then x else mz r
theorem best_val (val:Nat -> Int):∀ k i,i <= k -> val i <= val (argBest (fun i j=>decide (val i > val j)) k)
 | 0,i,h=>by
  have:i=0:=by omega
  subst this
  exact Int.le_refl _
 | k+1,i,h=>by
  rw [argBest]
  by_cases hb:val (k+1) > val (argBest (fun i j=>decide (val i > val j)) k)
  ·rw [if_pos (by simpa using hb)]
   by_cases e:i=k+1
   ·subst e; exact Int.le_refl _
   ·have:=best_val val k i (by omega)
    omega
  ·rw [if_neg (by simpa using hb)]
   by_cases e:i=k+1
   ·subst e; omega
   ·exact best_val val k i (by omega)
section
variable {X:Cx}{e:Expr}{es:List Expr}{kws:List Keyword}{t tk:TA}{p pos:Pos}
theorem at_int {xs:List (Int × Tok)}{ns:List Int}(e:xs.map (·.1)=ns)(i:Nat)(v:Value)(h:(xs.map fun p=>Value.int p.1 p.2).toArray[i]? = some v):∃ t,v = .int (ns.getD i 0) t:=by
 rw [List.getElem?_toArray,qI] at h
 cases hx:xs[i]? with
 | none=>rw [hx] at h; cases h
 | some q =>
  rw [hx] at h
  cases h
  refine ⟨q.2,?_⟩
  have:ns[i]? = some q.1:=by rw [← e,qI,hx]; rfl
  simp [List.getD,this]
def tMaxD (t tk:TA):TE:=fun σ H Q=>t σ H fun vs H1=>tk σ H1 fun zs H2=>∃ (p:Addr) (ns:List Int),vs=[.ref p] /\ zs=[.int 0] /\ H2 p=some (.lst (ns.map V.int)) /\ (∀ n ∈ ns,0 <= n) /\ Q (.int (mz ns)) H2
end
section
variable {K:PySem.W.Frag}{σ:St}{H:Hp}{Q:VK}
theorem w_maxD {t tk:TA}:tMaxD t tk σ H Q=t σ H fun vs H1=>tk σ H1 fun zs H2=>∃ (p:Addr) (ns:List Int),vs=[.ref p] /\ zs=[.int 0] /\ H2 p=some (.lst (ns.map V.int)) /\ (∀ n ∈ ns,0 <= n) /\ Q (.int (mz ns)) H2:=rfl
theorem w_sl {r:V -> Option Int -> Option Int -> Hp -> VK -> Prop}{te:TE}{tl th:TO}:tSl r te tl th σ H Q=te σ H fun x H1=>tl σ H1 fun l H2=>th σ H2 fun u H3=>r x l u H3 Q:=rfl
theorem w_noPart {R:Option Int -> Hp -> Prop}:tNoPart σ H R=R none H:=rfl
theorem w_part {t:TE}{R:Option Int -> Hp -> Prop}:tPart t σ H R=t σ H fun x H1=>∃ i,x = .int i /\ R (some i) H1:=rfl
theorem w_slL {a:Addr}{lo hi:Option Int}:rSlL K (.ref a) lo hi H Q = ∃ xs,SqL K H a xs /\ ∀ p,H p=none -> Q (.ref p) (upd H p (.lst (cutV xs lo hi))) :=
 propext ⟨fun ⟨a',xs,e,h,q⟩=>by cases e; exact ⟨xs,h,q⟩,fun ⟨xs,h,q⟩=>⟨a,xs,rfl,h,q⟩⟩
def liI (g:Int -> Int):V -> Option V:=fun x=>match x with
 | .int n=>some (.int (g n))
 | _=>none
theorem liI_map (g:Int -> Int):∀ (ns:List Int),(ns.map V.int).filterMap (liI g)=(ns.map g).map V.int
 | []=>rfl
 | n :: r=>by
  rw [List.map_cons,List.filterMap_cons_some (f:=liI g) (a:=V.int n) (b:=V.int (g n)) rfl,liI_map g r]
  rfl
end
end L2
set_option Elab.async false
set_option linter.all false
set_option maxRecDepth 100000
set_option maxHeartbeats 1000000
namespace L2
open PySem PySem.Spec PyProof.Rows
section
variable {σ:St}{H:Hp}{Q:VK}{D:Ends}
theorem w_aug {i:Nat}{te:TE}{ti:TIp}:tAug i te ti D σ H = ∃ x,σ[i]? = some (some x) /\ te σ H fun y H1=>ti x y H1 fun z H2=>D.nx (σ.set i (some z)) H2:=rfl
theorem w_ipI {f:Int -> Int -> Int}{i j:Int}:ipI f (.int i) (.int j) H Q=Q (.int (f i j)) H:=propext ⟨fun ⟨_,_,e1,e2,q⟩=>by cases e1; cases e2; exact q,fun q=>⟨i,j,rfl,rfl,q⟩⟩
theorem w_dnK:tDNewK σ H Q = ∀ p,H p=none -> Q (.ref p) (upd H p (.dK [])):=rfl
end
structure Dd where
 g:Int
 a:Nat
 s:Nat
 b:Nat
 t:Nat
def dnum (ns:List Int)(d:Dd):Int:=ns.getD d.a 0 * 2 ^ d.s+d.g * (ns.getD d.b 0 * 2 ^ d.t)
def ev (ds:List Dd):List Int:=ds.foldl (fun ns d=>ns ++ [dnum ns d]) [1]
theorem snoc_ind {α:Type}{p:List α -> Prop}(h0:p [])(hs:∀ xs x,p xs -> p (xs ++ [x]))(xs:List α):p xs:=by
 have:p xs.reverse.reverse:=by
  generalize xs.reverse=ys
  induction ys with
  | nil=>exact h0
  | cons y r ih=>rw [List.reverse_cons]; exact hs _ _ ih
 rwa [List.reverse_reverse] at this
def coreN (n:Int):Int:=(coreL n).headD 0
def CT0 (K:PySem.W.Frag)(t:Addr):Prop:=∃ (o:Obj) (its:Array Value) (n:Nat),K.lookup t=some o /\ o.cls = .type "tuple" /\ o.data = .seq its n /\ its.size <= sizeLine /\ Vals [.int 0,.int 0,.int 0] its.toList
theorem CT0.sq {K:PySem.W.Frag}{t:Addr}(h:CT0 K t)(H:Hp):SqT K H t [.int 0,.int 0,.int 0]:=.inr h
section
variable {X:Cx}
end
section
variable {K:PySem.W.Frag}{H:Hp}{Q:VK}
theorem w_ixT {p:Addr}{i:Int}:rIxT K (.ref p) (.int i) H Q = ∃ xs,SqT K H p xs /\ ∃ v,atI xs i=some v /\ Q v H :=
 propext ⟨fun ⟨p',xs,i',v,e1,e2,h,a,q⟩=>by cases e1; cases e2; exact ⟨xs,h,v,a,q⟩,fun ⟨xs,h,v,a,q⟩=>⟨p,xs,i,v,rfl,rfl,h,a,q⟩⟩
theorem w_eqS {x y:Str}:rEq (.str x) (.str y) H Q=Q (.bl (decide (x=y))) H :=
 propext (by
  have e:decide (V.str x=V.str y)=decide (x=y):=by by_cases h:x=y <;> simp [h]
  unfold rEq
  rw [e]
  exact ⟨fun h=>h.2,fun h=>⟨rfl,h⟩⟩)
end
end L2
set_option Elab.async false
set_option linter.all false
set_option maxRecDepth 100000
set_option maxHeartbeats 1000000
namespace L2
open PySem PySem.Spec PyProof.Rows
theorem Inv.turnedL {X:Cx}{pins:List (Addr × Obj)}{σ:St}{H:Hp}{s:Shared}{h':Heap}{t':Nat}(ch:List Addr)(I:Inv X pins σ H s)(k:∀ b o,b ∉ ch -> s.heap.get? b=some o -> h'.get? b=some o)(hf:∀ b ∈ ch,FpOk X pins H b):Inv X pins σ H { s with heap:=h',toks:=t' }:=by
 have nit:∀ b u,H b=some u -> b ∉ ch:=fun b u e z=>by rw [(hf b z).1] at e; cases e
 refine I.step (g':=s.gens) (d':=s.drawn) (ch:=ch) (fun b hb=>?_) (fun b o _ _ hc e _=>k b o hc e) (fun b o _ _ hc e _=>⟨o.slots,k b o hc e⟩) (fun _ _ _ _ n=>n)
  (fun b o hc e=>⟨o,k b o hc e⟩) (fun _ _ e=>e) (fun _ _ _ e=>e) (fun b ps e=>⟨#[],by rw [e]; simp⟩) (fun m hm=>?_) (fun b u e=>?_) I.bare
 ·obtain ⟨f0,f1,f2,f3,f4,f5⟩:=hf b hb
  exact ⟨f3,f1,f4,f5⟩
 ·obtain ⟨o,es,ep,ho,r⟩:=hm
  exact ⟨o,es,ep,k _ o (fun z=>(hf _ z).2.1 rfl) ho,r⟩
 ·refine (I.hok b u e).stay (fun c v hc q=>k c v ?_ q) (fun _ q=>q) fun _ _ q=>q
  rcases hc with z | z
  ·rw [z]; exact nit b u e
  ·exact nit c _ z
theorem get_push_ne {h:Heap}{b:Addr}{o o':Obj}(n:b ≠ h.objs.size)(e:(h.push o').get? b=some o):h.get? b=some o:=by
 rw [Heap.get?_push_ne h b o' n] at e
 exact e
def Itz (K : PySem.W.Frag)(a b : Addr) : It :=
  ⟨fun i H => ∃ xs ys, SqL K H a xs ∧ SqL K H b ys ∧ i < xs.length ∧ i < ys.length,
   fun i H x H' => ∃ T u v, x = .ref T ∧ H T = none ∧ H' = upd H T (.tup [u, v]) ∧ (∀ xs, SqL K H a xs → xs[i]? = some u) ∧ (∀ ys, SqL K H b ys → ys[i]? = some v),
   fun i H => ∃ xs ys, SqL K H a xs ∧ SqL K H b ys ∧ (xs.length ≤ i ∨ ys.length ≤ i)⟩
def tnZ (z TI TO i1 i2 a b:Addr)(i:Nat)(h:Heap):Prop:=IsZip h z TI TO .none /\ IsPair h TI (.ref i1) (.ref i2) /\ (∃ x y,IsPair h TO x y) /\ h.IsListIter i1 a i /\ h.IsListIter i2 b i
theorem turn_zip {P:Program}{w:World}{K:PySem.W.Frag}{elts:List Expr}{x1:Nat}{pos:Pos}{z TI TO i1 i2 a b:Addr}(D:ZipApart z TI TO i1 i2 a b):Turn P w K (.Tuple elts x1 pos) (Itz K a b) [z,TI,TO,i1,i2] z (tnZ z TI TO i1 i2 a b) where
 mem:=by simp
 obj:=fun i h st c hc=>by
  obtain ⟨t1,t2,⟨x0,y0,t3⟩,⟨o4,e4,c4,d4⟩,⟨o5,e5,c5,d5⟩⟩:=st
  simp only [List.mem_cons,List.not_mem_nil,or_false] at hc
  rcases hc with e | e | e | e | e <;> subst e
  ·exact ⟨_,t1,fun v q=>by cases q⟩
  ·exact ⟨_,t2,fun v q=>by cases q⟩
  ·exact ⟨_,t3,fun v q=>by cases q⟩
  ·exact ⟨o4,e4,fun v q=>by rw [d4] at q; cases q⟩
  ·exact ⟨o5,e5,fun v q=>by rw [d5] at q; cases q⟩
 keep:=fun i h h' st k=>by
  obtain ⟨t1,t2,⟨x0,y0,t3⟩,t4,t5⟩:=st
  exact ⟨k z (by simp) _ t1,k TI (by simp) _ t2,⟨x0,y0,k TO (by simp) _ t3⟩,t4.at fun o e=>k i1 (by simp) o e,t5.at fun o e=>k i2 (by simp) o e⟩
 item:=by
  intro X hP hw hK hc i pins s σ H E I hf st hg
  subst hP hw hK
  obtain ⟨xs,ys,hq,hq2,hi,hi2⟩:=hg
  obtain ⟨its,rv,p,hz⟩:=I.list hq
  obtain ⟨its2,rv2,p2,hz2⟩:=I.list hq2
  obtain ⟨u,hu,ru⟩:=rv.get (qA hi)
  obtain ⟨v,hv,rv'⟩:=rv2.get (qA hi2)
  obtain ⟨t1,t2,⟨x0,y0,t3⟩,t4,t5⟩:=st
  have hl1:z < s.heap.objs.size:=Heap.lt_size t1
  have hl3:TO < s.heap.objs.size:=Heap.lt_size t3
  have hl2:TI < s.heap.objs.size:=Heap.lt_size t2
  have hl4:i1 < s.heap.objs.size:=by obtain ⟨o,e,_⟩:=t4; exact Heap.lt_size e
  have hl5:i2 < s.heap.objs.size:=by obtain ⟨o,e,_⟩:=t5; exact Heap.lt_size e
  refine wpAny_pyNext_zip_item D t1 t2 t3 t4 t5 p.isList p2.isList (x:=u) (y:=v) (by simpa using hu) (by simpa using hv) fun h' a1 a2 a3 a4 a5 a6 a7=>⟨_,rfl,?_⟩
  refine wpAny_letOwnedTupleGo_zip a1 fun h2 b1 b2=>?_
  have hT0:H s.heap.objs.size=none:=I.hok.fresh (Nat.le_refl _)
  have I1:Inv X pins σ (upd H s.heap.objs.size (.tup [xs[i],ys[i]])) { s with heap:=s.heap.push { cls:=.type "tuple",data:=.seq [u,v].toArray } } :=
   I.laid (t':=s.toks) (fun b o e=>Heap.get?_push_of_some _ e) (Nat.le_refl _) (show ObjOk X.prog X.w _ _ _ (.tup [xs[i],ys[i]]) from ⟨le_size (by show 2 <= 1000; decide),[u,v],.cons ru (.cons rv' .nil),IsTup.new _ _⟩)
  have fpk:∀ c ∈ [z,TI,TO,i1,i2],c ≠ s.heap.objs.size:=fun c hc=>by
   simp only [List.mem_cons,List.not_mem_nil,or_false] at hc
   rcases hc with e | e | e | e | e <;> subst e <;> exact Nat.ne_of_lt (by assumption)
  have fp2:∀ c ∈ [z,TI,TO,i1,i2],FpOk X pins (upd H s.heap.objs.size (.tup [xs[i],ys[i]])) c:=fun c hc=>by
   obtain ⟨f0,f⟩:=hf c hc
   exact ⟨by rw [upd_ne (fpk c hc)]; exact f0,f⟩
  have I2:Inv X pins σ (upd H s.heap.objs.size (.tup [xs[i],ys[i]])) { s with heap:=h2 }:=by
   refine Inv.turnedL (s:={ s with heap:=s.heap.push { cls:=.type "tuple",data:=.seq [u,v].toArray } }) (t':=s.toks) (h':=h2) [z,TO,i1,i2] I1 (fun b o hb e=>?_) (fun c hc=>fp2 c (by simp only [List.mem_cons,List.not_mem_nil,or_false] at hc ⊢; rcases hc with e | e | e | e <;> simp [e]))
   simp only [List.mem_cons,List.not_mem_nil,or_false,not_or] at hb
   obtain ⟨n1,n2,n3,n4⟩:=hb
   refine (b2.2 b n1).trans ?_
   by_cases hT:b=s.heap.objs.size
   ·subst hT
    rw [Heap.get?_push_size _ rfl] at e
    rw [← e]
    exact a5
   ·exact a7 b o n1 n2 n3 n4 (get_push_ne hT e)
  have t4':h2.IsListIter i1 a (i+1):=a3.at fun o e=>(b2.2 _ D.i1z).trans e
  have t5':h2.IsListIter i2 b (i+1):=a4.at fun o e=>(b2.2 _ D.i2z).trans e
  refine ⟨.ref s.heap.objs.size,_,I2,rfl,⟨_,xs[i],ys[i],rfl,hT0,rfl,fun zs h=>?_,fun zs h=>?_⟩,⟨b1,(b2.2 _ D.TIz).trans (a7 TI _ D.TIz D.TITO D.TIi1 D.TIi2 t2),⟨_,_,(b2.2 _ D.TOz).trans a2⟩,t4',t5'⟩,fun c hc=>(fp2 c hc).1⟩
  ·rw [I.list_inj h hq]; exact qA hi
  ·rw [I.list_inj h hq2]; exact qA hi2
 done:=by
  intro X hP hw hK hc i pins s σ H E I hf st hg
  subst hP hw hK
  obtain ⟨xs,ys,hq,hq2,hend⟩:=hg
  obtain ⟨its,rv,p,hz⟩:=I.list hq
  obtain ⟨its2,rv2,p2,hz2⟩:=I.list hq2
  obtain ⟨t1,t2,⟨x0,y0,t3⟩,t4,t5⟩:=st
  refine wpAny_pyNext_zip_end (I.ok.hd hc) D t1 t2 t3 t4 t5 p.isList p2.isList ?_ fun h' a7=>⟨rfl,?_⟩
  ·rcases hend with e | e
   ·left; simp [← rv.length,e]
   ·right; simp [← rv2.length,e]
  ·refine Inv.turnedL (t':=s.toks) (h':=h') [z,TO,i1,i2] I (fun b o hb e=>?_) (fun c hc=>hf c (by simp only [List.mem_cons,List.not_mem_nil,or_false] at hc ⊢; rcases hc with e | e | e | e <;> simp [e]))
   simp only [List.mem_cons,List.not_mem_nil,or_false,not_or] at hb
   obtain ⟨n1,n2,n3,n4⟩:=hb
   exact a7 b o n1 n2 n3 n4 e
 self:=fun _ _ _ _ _ st h=>wpAny_pyIter_zip st.1 h
def iZip (K:PySem.W.Frag)(ta:TA):TI:=fun σ H R=>ta σ H fun vs H1=>∃ a b xs ys,vs=[.ref a,.ref b] /\ SqL K H1 a xs /\ SqL K H1 b ys /\ R (Itz K a b) H1
theorem pi_zip {X:Cx} {elts:List Expr} {x1:Nat} {tpos:Pos} {a b:Expr} {ta:TA} {p pos:Pos} (hg:Gl X "zip") (hm:X.mg "zip" = none) (ha:PA X [a,b] ta) (hs:starEach [a,b] X.env=(false,eval a X.env) :: starEach [b] X.env:=by rfl) (hpl:(backTo pos (starEach [b] X.env)).any (·.1)=false:=by rfl) :
  PI X (.Tuple elts x1 tpos) (.Call (.Name "zip" p) [a,b] [] pos) (iZip X.K ta):=by
 intro pins s σ H R I h
 refine Call_ (ld_blt I hg hm bo_zip (PyProof.Rows.callWith_type1 (thn (ha pos pins s σ H _ I h) fun us s1 ⟨vs,H1,I1,r1,q1⟩=>?_) hs hpl))
 obtain ⟨l1,l2,xs,ys,e,hq,hq2,q⟩:=q1
 subst e
 obtain ⟨u1,u2,rfl,ru1,ru2⟩:=vals2 r1
 cases (show u1=Value.ref l1 from ru1)
 cases (show u2=Value.ref l2 from ru2)
 obtain ⟨its,rv,pl,hz⟩:=I1.list hq
 obtain ⟨its2,rv2,pl2,hz2⟩:=I1.list hq2
 have lt1:l1 < s1.heap.objs.size:=by obtain ⟨o,e,_⟩:=pl.isList; exact Heap.lt_size e
 have lt2:l2 < s1.heap.objs.size:=by obtain ⟨o,e,_⟩:=pl2.isList; exact Heap.lt_size e
 refine call_zip_2 pl.isList pl2.isList fun h' z1 z2 z3 z4 z5 z6 z7=>?_
 have I2:Inv X pins σ H1 { s1 with heap:=h' }:=I1.kept (t':=s1.toks) z7
 refine wpAny_pyIter_zip z1 ?_
 have D:ZipApart (s1.heap.objs.size+4) (s1.heap.objs.size+2) (s1.heap.objs.size+3) s1.heap.objs.size (s1.heap.objs.size+1) l1 l2:=by
  have q1:@LT.lt Nat _ l1 s1.heap.objs.size:=lt1
  have q2:@LT.lt Nat _ l2 s1.heap.objs.size:=lt2
  constructor <;> (show ¬ @Eq Nat _ _; omega)
 refine ⟨s1.heap.objs.size+4,_,_,_,H1,rfl,I2,turn_zip D,⟨z1,z2,⟨_,_,z3⟩,z4,z5⟩,fun c hc=>?_,q⟩
 have hle:s1.heap.objs.size <= c:=by
  simp only [List.mem_cons,List.not_mem_nil,or_false] at hc
  show (s1.heap.objs.size:Nat) <= c
  rcases hc with e | e | e | e | e <;> subst e <;> (show @LE.le Nat _ _ _; omega)
 exact I1.fpOk hle (I1.hok.fresh hle)
end L2
set_option Elab.async false
set_option linter.all false
set_option maxRecDepth 100000
set_option maxHeartbeats 1000000
namespace L2
open PySem PySem.Spec PyProof.Rows
theorem bo_enumerate:bootBuiltins "enumerate" = some (.type "enumerate"):=by decide +kernel
def Ite (K : PySem.W.Frag)(a : Addr) : It :=
  ⟨fun i H => ∃ xs, SqL K H a xs ∧ i < xs.length,
   fun i H x H' => ∃ T u, x = .ref T ∧ H T = none ∧ H' = upd H T (.tup [.int (i : Int), u]) ∧ (∀ xs, SqL K H a xs → xs[i]? = some u),
   fun i H => ∃ xs, SqL K H a xs ∧ xs.length ≤ i⟩
theorem turn_enum {P:Program}{w:World}{K:PySem.W.Frag}{elts:List Expr}{x1:Nat}{pos:Pos}{e it a:Addr}(hne:e ≠ it):Turn P w K (.Tuple elts x1 pos) (Ite K a) [e,it] e (fun i h=>(∃ old,IsEnum h e it (i:Int) old) /\ h.IsListIter it a i) where
 mem:=by simp
 obj:=fun i h st c hc=>by
  obtain ⟨⟨old,t1⟩,⟨o2,e2,c2,d2⟩⟩:=st
  simp only [List.mem_cons,List.not_mem_nil,or_false] at hc
  rcases hc with z | z <;> subst z
  ·exact ⟨_,t1,fun v q=>by cases q⟩
  ·exact ⟨o2,e2,fun v q=>by rw [d2] at q; cases q⟩
 keep:=fun i h h' st k=>by
  obtain ⟨⟨old,t1⟩,t2⟩:=st
  exact ⟨⟨old,k e (by simp) _ t1⟩,t2.at fun o z=>k it (by simp) o z⟩
 item:=by
  intro X hP hw hK hc i pins s σ H E I hf st hg
  subst hP hw hK
  obtain ⟨xs,hq,hi⟩:=hg
  obtain ⟨its,rv,p,hz⟩:=I.list hq
  obtain ⟨u,hu,ru⟩:=rv.get (qA hi)
  obtain ⟨⟨old,t1⟩,t2⟩:=st
  have hl1:e < s.heap.objs.size:=Heap.lt_size t1
  have hl2:it < s.heap.objs.size:=by obtain ⟨o,z,_⟩:=t2; exact Heap.lt_size z
  refine wpAny_pyNext_enum_item t1 t2 p.isList (x:=u) (by simpa using hu) hne fun h' a1 a2 a3 a4 a5=>⟨_,rfl,?_⟩
  refine wpAny_letOwnedTupleGo_enum (s:={ s with heap:=h',toks:=s.toks+1 }) a1 fun h2 b1 b2=>?_
  have hT0:H s.heap.objs.size=none:=I.hok.fresh (Nat.le_refl _)
  have I1:Inv X pins σ (upd H s.heap.objs.size (.tup [.int (i:Int),xs[i]])) { s with heap:=s.heap.push { cls:=.type "tuple",data:=.seq [Value.int (i:Int) s.toks,u].toArray } } :=
   I.laid (t':=s.toks) (fun b o z=>Heap.get?_push_of_some _ z) (Nat.le_refl _) (show ObjOk X.prog X.w _ _ _ (.tup [.int (i:Int),xs[i]]) from ⟨le_size (by show 2 <= 1000; decide),[Value.int (i:Int) s.toks,u],.cons ⟨_,rfl⟩ (.cons ru .nil),IsTup.new _ _⟩)
  have fpk:∀ c ∈ [e,it],c ≠ s.heap.objs.size:=fun c hc=>by
   simp only [List.mem_cons,List.not_mem_nil,or_false] at hc
   rcases hc with z | z <;> subst z <;> exact Nat.ne_of_lt (by assumption)
  have fp2:∀ c ∈ [e,it],FpOk X pins (upd H s.heap.objs.size (.tup [.int (i:Int),xs[i]])) c:=fun c hc=>by
   obtain ⟨f0,f⟩:=hf c hc
   exact ⟨by rw [upd_ne (fpk c hc)]; exact f0,f⟩
  have I2:Inv X pins σ (upd H s.heap.objs.size (.tup [.int (i:Int),xs[i]])) { s with heap:=h2,toks:=s.toks+1 }:=by
   refine Inv.turnedL (s:={ s with heap:=s.heap.push { cls:=.type "tuple",data:=.seq [Value.int (i:Int) s.toks,u].toArray } }) (t':=s.toks+1) (h':=h2) [e,it] I1 (fun b o hb z=>?_) fp2
   simp only [List.mem_cons,List.not_mem_nil,or_false,not_or] at hb
   obtain ⟨n1,n2⟩:=hb
   refine (b2.2 b n1).trans ?_
   by_cases hT:b=s.heap.objs.size
   ·subst hT
    rw [Heap.get?_push_size _ rfl] at z
    rw [← z]
    exact a3
   ·exact a5 b o n1 n2 (get_push_ne hT z)
  have e1:((i:Int)+1)=((i+1:Nat):Int):=by omega
  rw [e1] at b1
  refine ⟨.ref s.heap.objs.size,_,I2,rfl,⟨_,xs[i],rfl,hT0,rfl,fun zs h=>?_⟩,⟨⟨_,b1⟩,a2.at fun o z=>(b2.2 _ hne.symm).trans z⟩,fun c hc=>(fp2 c hc).1⟩
  rw [I.list_inj h hq]; exact qA hi
 done:=by
  intro X hP hw hK hc i pins s σ H E I hf st hg
  subst hP hw hK
  obtain ⟨xs,hq,hend⟩:=hg
  obtain ⟨its,rv,p,hz⟩:=I.list hq
  obtain ⟨⟨old,t1⟩,t2⟩:=st
  refine wpAny_pyNext_enum_end (I.ok.hd hc) t1 t2 p.isList (by simp [← rv.length,hend]) fun h' a7=>⟨rfl,?_⟩
  refine Inv.turnedL (t':=s.toks) (h':=h') [it] I (fun b o hb z=>a7 b o (by simpa using hb) z) (fun c hc=>hf c (by simp only [List.mem_cons,List.not_mem_nil,or_false] at hc ⊢; exact .inr hc))
 self:=fun _ i s _ _ st h=>by
  obtain ⟨⟨old,t1⟩,t2⟩:=st
  exact wpAny_pyIter_enum t1 h
def iEnum (K:PySem.W.Frag)(ta:TA):TI:=fun σ H R=>ta σ H fun vs H1=>∃ a xs,vs=[.ref a] /\ SqL K H1 a xs /\ R (Ite K a) H1
theorem pi_enum {X:Cx} {elts:List Expr} {x1:Nat} {tpos:Pos} {a:Expr} {ta:TA} {p pos:Pos} (hg:Gl X "enumerate") (hm:X.mg "enumerate" = none) (ha:PA X [a] ta) (hs:starEach [a] X.env=[(false,eval a X.env)]:=by rfl) :
  PI X (.Tuple elts x1 tpos) (.Call (.Name "enumerate" p) [a] [] pos) (iEnum X.K ta):=by
 intro pins s σ H R I h
 refine Call_ (ld_blt I hg hm bo_enumerate (PyProof.Rows.callWith_type1 (thn (ha pos pins s σ H _ I h) fun us s1 ⟨vs,H1,I1,r1,q1⟩=>?_) hs rfl))
 obtain ⟨l1,xs,e,hq,q⟩:=q1
 subst e
 obtain ⟨u1,rfl,ru1⟩:=vals1 r1
 cases (show u1=Value.ref l1 from ru1)
 obtain ⟨its,rv,pl,hz⟩:=I1.list hq
 refine call_enumerate_list pl.isList fun h' z1 z2 z3 z4=>?_
 have I2:Inv X pins σ H1 { s1 with heap:=h' }:=I1.kept (t':=s1.toks) z4
 refine wpAny_pyIter_enum z1 ?_
 refine ⟨s1.heap.objs.size+1,_,_,_,H1,rfl,I2,turn_enum (by show ¬ @Eq Nat _ _; omega),⟨⟨_,z1⟩,z2⟩,fun c hc=>?_,q⟩
 have hle:s1.heap.objs.size <= c:=by
  simp only [List.mem_cons,List.not_mem_nil,or_false] at hc
  rcases hc with z | z <;> subst z <;> (show @LE.le Nat _ _ _; omega)
 exact I1.fpOk hle (I1.hok.fresh hle)
section
variable {K:PySem.W.Frag}{σ:St}{H:Hp}{Q:VK}
theorem comp_any {J:It}{nt:Nat}{cs:List Nat}{g:TG}{tt:TT}{te:TE}(n:Nat)(Pv:Addr -> Nat -> List V -> Hp -> Prop)(hz:n <= sizeLine)
  (hgo:∀ acc i ys H',i < n -> Pv acc i ys H' -> J.go i H') (hst:∀ acc ys H',Pv acc n ys H' -> J.stop n H')
  (h0:∀ acc,H acc=none -> Pv acc 0 [] (upd H acc (.lst []))) (hacc:∀ acc i ys H',Pv acc i ys H' -> H' acc=some (.lst ys) /\ ys.length <= i)
  (hs:∀ acc i ys H' (ts:St) x H2 (N:List V -> St -> Hp -> Prop),H acc=none -> i < n -> Pv acc i ys H' -> J.yld i H' x H2 -> ts.length=nt -> (∀ zs (ts':St) H3,ts'.length=nt -> Pv acc (i+1) zs H3 -> N zs (ts' ++ capV cs σ) H3) ->
   g x (ts ++ capV cs σ) H2 fun σ3 H3=>tt σ3 H3 fun b H4=>if b=true then te σ3 H4 fun y H5=>H5 acc=some (.lst ys) /\ N (ys ++ [y]) σ3 (upd H5 acc (.lst (ys ++ [y]))) else N ys σ3 H4)
  (hd:∀ acc ys H',H acc=none -> Pv acc n ys H' -> Q (.ref acc) H'):CompIt J nt cs g tt te σ H Q:=by
 intro acc hn
 refine ⟨fun i m ys σ' H'=>m=n - i /\ i <= n /\ (∃ ts:St,ts.length=nt /\ σ'=ts ++ capV cs σ) /\ Pv acc i ys H',⟨_,rfl,Nat.zero_le _,⟨qQ nt none,qL,rfl⟩,h0 acc hn⟩,?_⟩
 rintro i m ys σ' H' ⟨rfl,hi,⟨ts,hts,rfl⟩,p⟩
 obtain ⟨ha,hl⟩:=hacc acc i ys H' p
 refine ⟨ha,?_⟩
 by_cases hlt:i < n
 ·refine .inr ⟨hgo acc i ys H' hlt p,by omega,fun zs σ2 H2=>(∃ ts:St,ts.length=nt /\ σ2=ts ++ capV cs σ) /\ Pv acc (i+1) zs H2,fun zs σ2 H2 ⟨q1,q2⟩=>⟨n - (i+1),by omega,rfl,hlt,q1,q2⟩,fun x H2 y=>?_⟩
  exact hs acc i ys H' ts x H2 (fun zs σ2 H2=>(∃ ts:St,ts.length=nt /\ σ2=ts ++ capV cs σ) /\ Pv acc (i+1) zs H2) hn hlt p y hts fun zs ts' H3 h1 h2=>⟨⟨ts',h1,rfl⟩,h2⟩
 ·have e:i=n:=by omega
  subst e
  exact .inl ⟨hst acc ys H' p,hd acc ys H' hn p⟩
theorem w_compE {ta:TA}{nt:Nat}{cs:List Nat}{g:TG}{tt:TT}{te:TE}:tComp (iEnum K ta) nt cs g tt te σ H Q=(ta σ H fun vs H1=>∃ a xs,vs=[.ref a] /\ SqL K H1 a xs /\ CompIt (Ite K a) nt cs g tt te σ H1 Q):=rfl
theorem w_compZ {ta:TA}{nt:Nat}{cs:List Nat}{g:TG}{tt:TT}{te:TE}:tComp (iZip K ta) nt cs g tt te σ H Q=(ta σ H fun vs H1=>∃ a b xs ys,vs=[.ref a,.ref b] /\ SqL K H1 a xs /\ SqL K H1 b ys /\ CompIt (Itz K a b) nt cs g tt te σ H1 Q):=rfl
end
def Itr3 (lo c:Int)(n:Nat):It:=⟨fun i _=>i < n,fun i H x H'=>H'=H /\ x = .int (lo+i * c),fun i _=>n <= i⟩
def stepN (lo hi c:Int):Nat:=(Builtin.Range.rangeSize lo hi c).toNat
def iRng3 (ta:TA):TI:=fun σ H R=>ta σ H fun vs H1=>∃ i j c:Int,vs=[.int i,.int j,.int c] /\ (0 <= i /\ i < 2 ^ 31 /\ -1 <= j /\ j < 2 ^ 31 /\ c=2) /\ R (Itr3 i c (stepN i j c)) H1
def ForR3 (lo c:Int)(n:Nat)(g:TG)(tb:TS)(D:Ends)(σ:St)(H:Hp):Prop:=∃ W:Nat -> Nat -> St -> Hp -> Prop,(∃ m,W 0 m σ H) /\ ∀ i m σ H,W i m σ H ->
 ((Itr3 lo c n).stop i H /\ D.nx σ H) \/ ((Itr3 lo c n).go i H /\ ∃ N:St -> Hp -> Prop,(∀ σ' H',N σ' H' -> ∃ m',m' < m /\ W (i+1) m' σ' H') /\ ∀ x H',(Itr3 lo c n).yld i H x H' -> g x σ H' fun σ2 H2=>tb { D with nx:=N,ct:=N,bk:=D.nx } σ2 H2)
section
variable {σ:St}{H:Hp}{D:Ends}{g:TG}{tb:TS}{lo c:Int}{n:Nat}
theorem w_for3 {ta:TA}:tFor (iRng3 ta) g tb D σ H=(ta σ H fun vs H1=>∃ i j c:Int,vs=[.int i,.int j,.int c] /\ (0 <= i /\ i < 2 ^ 31 /\ -1 <= j /\ j < 2 ^ 31 /\ c=2) /\ ForR3 i c (stepN i j c) g tb D σ H1):=rfl
end
end L2
set_option Elab.async false
set_option linter.all false
set_option maxRecDepth 100000
set_option maxHeartbeats 1000000
namespace L2
open PySem PySem.Spec
structure Pt where
 th:Nat
 sh:Nat
 g:Int
theorem get_snoc {α:Type}{xs:List α}{x y:α}{i:Nat}(h:(xs ++ [x])[i]? = some y):(i < xs.length /\ xs[i]? = some y) \/ (i=xs.length /\ y=x):=by
 by_cases hi:i < xs.length
 ·rw [qH hi] at h
  exact .inl ⟨hi,h⟩
 ·rw [qG (by omega)] at h
  have hz:i - xs.length=0:=by
   cases hk:i - xs.length with
   | zero=>rfl
   | succ m=>rw [hk] at h; simp at h
  rw [hz] at h
  cases h
  exact .inr ⟨by omega,rfl⟩
theorem abs_le_of {a b:Int}{m n:Nat}{g h:Int}(hg:g=1 \/ g = -1)(hh:h=1 \/ h = -1)(ha:a.natAbs <= m)(hb:b.natAbs <= n):(g * a+h * b).natAbs <= m+n:=by
 rcases hg with e | e <;> rcases hh with e2 | e2 <;> subst e <;> subst e2 <;> omega
def pts:List Int -> Nat -> List Pt
 | [],_=>[]
 | d :: r,k=>if d=0 then pts r (k+1) else ⟨0,k,d⟩ :: pts r (k+1)
end L2
set_option Elab.async false
set_option linter.all false
set_option maxRecDepth 100000
set_option maxHeartbeats 1000000
namespace L2
open PySem PySem.Spec PyProof.Rows
def gTupK (K:PySem.W.Frag)(n:Nat)(t:TGs):TG:=gTup K n t
theorem pg_tupK {X:Cx}(K:PySem.W.Frag){es:List Expr}{k:Nat}{t:TGs}{pos:Pos}(n:Nat)(hc:X.calm=true)(h:PGs X es t)(hK:X.K=K:=by rfl)(hn:(assignEach es X.env).length=n:=by rfl)(hst:(assignEach es X.env).findIdx? (·.1)=none:=by rfl):PG X (.Tuple es k pos) (gTupK K n t):=by
 subst hK
 exact pg_tup (X:=X) (n:=n) hc h hn hst
section
variable {K:PySem.W.Frag}{σ:St}{H:Hp}{R:St -> Hp -> Prop}
theorem w_gTupK {n:Nat}{t:TGs}{a:Addr}:gTupK K n t (.ref a) σ H R = ∃ xs,SqT K H a xs /\ xs.length=n /\ t xs σ H R :=
 propext ⟨fun ⟨a',xs,e,h,l,q⟩=>by cases e; exact ⟨xs,h,l,q⟩,fun ⟨xs,h,l,q⟩=>⟨a,xs,rfl,h,l,q⟩⟩
end
end L2
set_option Elab.async false
set_option linter.all false
set_option maxRecDepth 100000
set_option maxHeartbeats 1000000
namespace L2
open PySem PySem.Spec PyProof.Rows
theorem draw_walk {prog:Program}{w:World}{A:Around}{E:Value -> Shared -> Prop}{I:Addr}{fp wr:List Addr}{n:Nat}{P:Nat -> Value -> Prop}{St:Nat -> Heap -> Prop}(W:Walks prog w A I fp wr n P St):∀ (k i:Nat) (s:Shared) (Q:List Value -> Shared -> Prop),i+k <= n -> St i s.heap ->
  (∀ vs h' tk,vs.length=k -> (∀ (j:Nat) (v:Value),vs[j]? = some v -> P (i+j) v) -> St (i+k) h' -> (∀ b o,b ∉ wr -> s.heap.get? b=some o -> h'.get? b=some o) -> Q vs { s with heap:=h',toks:=tk }) -> wpAny (model prog w) A (draw (.ref I) k) Q E s
 | 0,i,s,Q,hle,st,hQ=>by
  show wpAny _ _ (pure []) Q E s
  exact wpAny_pure (hQ [] s.heap s.toks rfl (fun j v h=>by simp at h) st fun _ _ _ e=>e)
 | k+1,i,s,Q,hle,st,hQ=>by
  show wpAny _ _ (pyNext (.ref I) >>= _) Q E s
  refine wpAny_bind (W.item i s _ _ (by omega) st fun v h' tk hP st' hk=>?_)
  refine wpAny_bind (wpAny_holding (draw_walk W k (i+1) _ _ (by omega) st' fun vs h2 tk2 hl hv st2 hk2=>wpAny_pure ?_))
  refine hQ (v :: vs) h2 tk2 (by rw [List.length_cons,hl]) (fun j u hj=>?_) (by rw [show i+(k+1)=i+1+k by omega]; exact st2) fun b o hb e=>hk2 b o hb (hk b o hb e)
  cases j with
  | zero=>cases hj; exact hP
  | succ j =>
   rw [List.getElem?_cons_succ] at hj
   have:=hv j u hj
   rw [show i+(j+1)=i+1+j by omega]
   exact this
theorem vals_at:∀ {xs:List V}{its us:List Value},Vals xs its -> us.length=its.length -> (∀ (j:Nat) (v:Value),us[j]? = some v -> its[j]? = some v) -> us=its
 | _,its,us,_,hl,h=>by
  refine List.ext_getElem? fun j=>?_
  by_cases hj:j < us.length
  ·rw [qA hj,h j _ (qA hj)]
  ·rw [List.getElem?_eq_none (by omega),List.getElem?_eq_none (by omega)]
section
variable {X:Cx}{pins:List (Addr × Obj)}{σ:St}{H:Hp}{s:Shared}{p:Addr}{xs:List V}
theorem unpack_list (hc:X.calm=true)(I:Inv X pins σ H s)(hp:H p=some (.lst xs)){Q:List Value -> Shared -> Prop}{E:Value -> Shared -> Prop}(h:∀ its s',Vals xs its -> Inv X pins σ H s' -> Q its s') :
  wpAny (model X.prog X.w) X.A (unpackItems (.ref p) xs.length none) Q E s:=by
 obtain ⟨its0,rv0,pl,_⟩:=I.list (SqL.of hp)
 unfold unpackItems
 refine wpAny_bind ?_
 unfold notIterableAtAll
 refine wpAny_bind (wpAny_specialOf pl.isList.typeIs slot_list_iter.lookup ?_)
 refine wpAny_pure ?_
 simp only [Bool.false_eq_true,if_false]
 refine wpAny_bind (wpAny_holding (wpAny_of_in1 (walk_list hc I hp fun its rv s2 st hfp hne W hI=>?_)))
 have W2:=W.of_in1
 have hl:its.toArray.size=xs.length:=by rw [qM,← rv.length]
 refine wpAny_bind (wpAny_holding (draw_walk W2 xs.length 0 s2 _ (by rw [hl]; omega) st fun vs h1 tk1 hvl hv st1 hk1=>?_))
 have ev:vs=its:=vals_at rv (by rw [hvl,rv.length]) fun j v hj=>by
  have:=hv j v hj
  rw [Nat.zero_add] at this
  simpa using this
 subst ev
 rw [if_neg (by rw [← rv.length]; exact Nat.lt_irrefl _)]
 refine wpAny_bind (wpAny_holding (W2.done _ _ _ (by rw [hl]; rw [Nat.zero_add] at st1; exact st1) fun h2 tk2 hk2=>?_))
 simp only [Option.isSome_none,Bool.false_eq_true,if_false]
 exact wpAny_pure (h _ _ rv (hI h2 tk2 fun b o hb e=>hk2 b o hb (hk1 b o hb e)))
def gLst (n:Nat)(t:TGs):TG:=fun v σ H Q=>∃ a xs,v = .ref a /\ H a=some (.lst xs) /\ xs.length=n /\ t xs σ H Q
theorem pg_lst {es:List Expr}{k:Nat}{t:TGs}{pos:Pos}(n:Nat)(hc:X.calm=true)(h:PGs X es t)(hn:(assignEach es X.env).length=n:=by rfl)(hst:(assignEach es X.env).findIdx? (·.1)=none:=by rfl):PG X (.Tuple es k pos) (gLst n t):=by
 intro pins s σ H v u Q I r hw
 obtain ⟨a,xs,e1,hq,hl,hw⟩:=hw
 subst e1
 cases r
 rw [PyProof.Rows.assign_Tuple]
 refine wpAny_bind (wpAny_standAt ?_)
 unfold unpack
 rw [hst,hn,← hl]
 exact wpAny_bind (wpAny_holding (unpack_list hc I hq fun its s' rv I1=>h pins s' σ H xs its Q I1 rv hw))
end
section
variable {σ:St}{H:Hp}{R:St -> Hp -> Prop}
theorem w_gLst {n:Nat}{t:TGs}{a:Addr}:gLst n t (.ref a) σ H R = ∃ xs,H a=some (.lst xs) /\ xs.length=n /\ t xs σ H R :=
 propext ⟨fun ⟨a',xs,e,h,l,q⟩=>by cases e; exact ⟨xs,h,l,q⟩,fun ⟨xs,h,l,q⟩=>⟨a,xs,rfl,h,l,q⟩⟩
end
def ForE (K:PySem.W.Frag)(a:Addr)(g:TG)(tb:TS)(D:Ends)(σ:St)(H:Hp):Prop:=∃ W:Nat -> Nat -> St -> Hp -> Prop,(∃ m,W 0 m σ H) /\ ∀ i m σ H,W i m σ H ->
 ((Ite K a).stop i H /\ D.nx σ H) \/ ((Ite K a).go i H /\ ∃ N:St -> Hp -> Prop,(∀ σ' H',N σ' H' -> ∃ m',m' < m /\ W (i+1) m' σ' H') /\ ∀ x H',(Ite K a).yld i H x H' -> g x σ H' fun σ2 H2=>tb { D with nx:=N,ct:=N,bk:=D.nx } σ2 H2)
section
variable {K:PySem.W.Frag}{σ:St}{H:Hp}{D:Ends}{g:TG}{tb:TS}{a:Addr}
theorem w_forE {ta:TA}:tFor (iEnum K ta) g tb D σ H=(ta σ H fun vs H1=>∃ a xs,vs=[.ref a] /\ SqL K H1 a xs /\ ForE K a g tb D σ H1):=rfl
theorem forE {xs:List V}(Pv:Nat -> St -> Hp -> Prop)(h0:Pv 0 σ H)(hl:∀ i σ H,i <= xs.length -> Pv i σ H -> SqL K H a xs)
  (hs:∀ i x T σ H (N:St -> Hp -> Prop),xs[i]? = some x -> H T=none -> Pv i σ H -> (∀ σ' H',Pv (i+1) σ' H' -> N σ' H') -> g (.ref T) σ (upd H T (.tup [.int (i:Int),x])) fun σ2 H2=>tb { D with nx:=N,ct:=N,bk:=D.nx } σ2 H2)
  (hd:∀ σ H,Pv xs.length σ H -> D.nx σ H):ForE K a g tb D σ H:=by
 refine ⟨fun i m σ H=>m=xs.length - i /\ i <= xs.length /\ Pv i σ H,⟨_,rfl,Nat.zero_le _,h0⟩,?_⟩
 rintro i m σ H ⟨rfl,hi,p⟩
 have q:=hl i σ H hi p
 by_cases hlt:i < xs.length
 ·refine .inr ⟨⟨xs,q,hlt⟩,Pv (i+1),fun σ' H' p'=>⟨xs.length - (i+1),by omega,rfl,hlt,p'⟩,fun x H' y=>?_⟩
  obtain ⟨T,u,rfl,hT,rfl,hu⟩:=y
  exact hs i u T σ H (Pv (i+1)) (hu xs q) hT p fun _ _ z=>z
 ·have e:i=xs.length:=by omega
  subst e
  exact .inl ⟨⟨xs,q,Nat.le_refl _⟩,hd σ H p⟩
end
end L2
set_option Elab.async false
set_option linter.all false
set_option maxRecDepth 100000
set_option maxHeartbeats 1000000
namespace L2
open PySem PySem.Spec
def mvI (s n:Int):Int:=n * 2 ^ (if 0 > s then (0:Int) else s).toNat / 2 ^ (if 0 > 0 - s then (0:Int) else 0 - s).toNat
end L2
set_option Elab.async false
set_option linter.all false
set_option maxRecDepth 100000
set_option maxHeartbeats 1000000
namespace L2
open PySem PySem.Spec
structure Wd where
 w:Str
 a:Nat
 s:Int
 b:Nat
 t:Int
structure Go where
 th:Nat
 sh:Int
 sg:Int
def wTup (d:Wd):List V:=[.str d.w,.int d.a,.int d.s,.int d.b,.int d.t]
def gTp (g:Go):List V:=[.int g.th,.int g.sh,.int g.sg]
structure HTs {α:Type} (f:α -> List V) (H:Hp) (vs:List V) (xs:List α):Prop where
 len:vs.length=xs.length
 at_:∀ (k:Nat) (x:α),xs[k]? = some x -> ∃ p:Addr,vs[k]? = some (.ref p) /\ H p=some (.tup (f x))
section
variable {α:Type}{f:α -> List V}{H H':Hp}{vs us:List V}{xs:List α}{l:Addr}
theorem HTs.same (h:HTs f H vs xs)(s:Same H H'):HTs f H' vs xs:=⟨h.len,fun k d e=>by
 obtain ⟨x,e1,e2⟩:=h.at_ k d e
 exact ⟨x,e1,s _ _ e2⟩⟩
theorem HTs.chgL (h:HTs f H vs xs)(hl:H l=some (.lst us))(c:Chg l H H'):HTs f H' vs xs:=⟨h.len,fun k d e=>by
 obtain ⟨x,e1,e2⟩:=h.at_ k d e
 exact ⟨x,e1,c _ _ (ne_of e2 hl (by intro z; cases z)) e2⟩⟩
theorem HTs.snoc {x:α}{p:Addr}(h:HTs f H vs xs)(hx:H p=some (.tup (f x))):HTs f H (vs ++ [.ref p]) (xs ++ [x]):=by
 refine ⟨by simp [h.len],fun k e he=>?_⟩
 rcases get_snoc he with ⟨hk,z⟩ | ⟨hk,rfl⟩
 ·obtain ⟨y,e1,e2⟩:=h.at_ k e z
  exact ⟨y,by rw [qH (by rw [h.len]; exact hk)]; exact e1,e2⟩
 ·refine ⟨p,?_,hx⟩
  rw [qG (by rw [h.len]; omega),h.len,hk,Nat.sub_self]
  rfl
theorem hts_nil:HTs f H [] []:=⟨rfl,fun k d h=>by simp at h⟩
end
structure HRs (H:Hp) (ex:List Addr) (vs:List V) (rs:List (List Int)):Prop where
 len:vs.length=rs.length
 at_:∀ (k:Nat) (r:List Int),rs[k]? = some r -> ∃ p:Addr,vs[k]? = some (.ref p) /\ H p=some (.lst (r.map V.int)) /\ ∀ e ∈ ex,p ≠ e
section
variable {H H':Hp}{ex:List Addr}{vs:List V}{rs:List (List Int)}{l:Addr}
theorem HRs.same (h:HRs H ex vs rs)(s:Same H H'):HRs H' ex vs rs:=⟨h.len,fun k d e=>by
 obtain ⟨x,e1,e2,e3⟩:=h.at_ k d e
 exact ⟨x,e1,s _ _ e2,e3⟩⟩
theorem HRs.chg (h:HRs H ex vs rs)(hl:l ∈ ex)(c:Chg l H H'):HRs H' ex vs rs:=⟨h.len,fun k d e=>by
 obtain ⟨x,e1,e2,e3⟩:=h.at_ k d e
 exact ⟨x,e1,c _ _ (e3 l hl) e2,e3⟩⟩
theorem HRs.new (h:HRs H ex vs rs)(hl:H l=none):HRs H (l :: ex) vs rs:=⟨h.len,fun k d e=>by
 obtain ⟨x,e1,e2,e3⟩:=h.at_ k d e
 refine ⟨x,e1,e2,fun z hz=>?_⟩
 rcases List.mem_cons.mp hz with e | e
 ·subst e; exact ne_of_none e2 hl
 ·exact e3 z e⟩
theorem HRs.snoc {r:List Int}{p:Addr}(h:HRs H ex vs rs)(hx:H p=some (.lst (r.map V.int)))(he:∀ e ∈ ex,p ≠ e):HRs H ex (vs ++ [.ref p]) (rs ++ [r]):=by
 refine ⟨by simp [h.len],fun k e he2=>?_⟩
 rcases get_snoc he2 with ⟨hk,z⟩ | ⟨hk,rfl⟩
 ·obtain ⟨y,e1,e2⟩:=h.at_ k e z
  exact ⟨y,by rw [qH (by rw [h.len]; exact hk)]; exact e1,e2⟩
 ·refine ⟨p,?_,hx,he⟩
  rw [qG (by rw [h.len]; omega),h.len,hk,Nat.sub_self]
  rfl
theorem hrs_nil:HRs H ex [] []:=⟨rfl,fun k d h=>by simp at h⟩
end
def RB (b:Nat)(rs:List (List Int)):Prop:=∀ r ∈ rs,r.length <= 12 /\ ∀ n ∈ r,n.natAbs <= 2 ^ b
theorem RB.snoc {b c:Nat}{rs:List (List Int)}{r:List Int}(h:RB b rs)(hc:b <= c)(hl:r.length <= 12)(hr:∀ n ∈ r,n.natAbs <= 2 ^ c):RB c (rs ++ [r]):=fun q hq=>by
 rcases List.mem_append.mp hq with z | z
 ·exact ⟨(h q z).1,fun n hn=>Nat.le_trans ((h q z).2 n hn) (qN (by decide) hc)⟩
 ·rw [List.mem_singleton.mp z]; exact ⟨hl,hr⟩
theorem mvI_bound {s n:Int}{b:Nat}(h0:-40 <= s)(h1:s <= 40)(h:n.natAbs <= 2 ^ b):(mvI s n).natAbs <= 2 ^ (b+40):=by
 unfold mvI
 generalize hj:(if 0 > s then (0:Int) else s).toNat=j
 have hj40:j <= 40:=by rw [← hj]; split <;> omega
 generalize (if 0 > 0 - s then (0:Int) else 0 - s).toNat=k
 have p:=pow_pos2 k
 have h2:(n * 2 ^ j).natAbs <= 2 ^ (b+40):=by
  rw [Int.natAbs_mul,Int.natAbs_pow]
  refine Nat.le_trans (Nat.mul_le_mul h (qN (by decide) hj40:2 ^ j <= 2 ^ 40)) ?_
  rw [← Nat.pow_add]
  exact Nat.le_refl _
 generalize n * 2 ^ j=x at h2
 refine Nat.le_trans ?_ h2
 have:(x / 2 ^ k).natAbs <= x.natAbs:=Int.natAbs_ediv_le_natAbs x (2 ^ k)
 exact this
structure WebOk (ins:Nat) (ds:List Wd) (gs:List Go):Prop where
 i1:1 <= ins
 i2:ins <= 12
 dk:∀ (k:Nat) (d:Wd),ds[k]? = some d -> d.a < ins+k /\ d.b < ins+k /\ (d.w = "sum" \/ d.w = "less")
 gk:∀ g ∈ gs,g.th < ins+ds.length
 dl:ds.length <= 60
 gl:gs.length <= 12
end L2
set_option Elab.async false
set_option linter.all false
set_option maxRecDepth 100000
set_option maxHeartbeats 1000000
namespace L2
open PySem PySem.Spec PyProof.Rows
theorem cf_mem:∀ (names:List (Str × NameKind))(n:Nat)(acc:List (Str × Addr))(p:Str × Addr),p ∈ cellsFrom n names acc -> p ∈ acc \/ ((p.1,NameKind.cell) ∈ names /\ n <= p.2)
 | [],_,_,_,h=>.inl h
 | (y,k) :: r,n,acc,p,h=>by
  unfold cellsFrom at h
  by_cases hk:(k == .cell)=true
  ·rw [if_pos hk] at h
   have ek:k = .cell:=by simpa using hk
   subst ek
   rcases cf_mem r (n+1) _ p h with z | ⟨z,l⟩
   ·rcases List.mem_cons.mp z with e | e
    ·subst e
     exact .inr ⟨List.mem_cons_self,Nat.le_refl _⟩
    ·exact .inl e
   ·exact .inr ⟨List.mem_cons_of_mem _ z,Nat.le_of_succ_le l⟩
  ·rw [if_neg hk] at h
   rcases cf_mem r n acc p h with z | ⟨z,l⟩
   ·exact .inl z
   ·exact .inr ⟨List.mem_cons_of_mem _ z,l⟩
theorem cf_inj:∀ (names:List (Str × NameKind))(n lo:Nat)(acc:List (Str × Addr)),lo <= n -> (∀ p ∈ acc,(p.2:Nat) < n) -> (∀ (x y:Str) (c:Addr),(x,c) ∈ acc -> (y,c) ∈ acc -> lo <= c -> x=y) ->
  ∀ (x y:Str) (c:Addr),(x,c) ∈ cellsFrom n names acc -> (y,c) ∈ cellsFrom n names acc -> lo <= c -> x=y
 | [],_,_,_,_,_,hi,x,y,c,h1,h2,l=>hi x y c h1 h2 l
 | (z,k) :: r,n,lo,acc,hl,hn,hi,x,y,c,h1,h2,l=>by
  unfold cellsFrom at h1 h2
  by_cases hk:(k == .cell)=true
  ·rw [if_pos hk] at h1 h2
   refine cf_inj r (n+1) lo _ (Nat.le_succ_of_le hl) (fun p hp=>?_) (fun x y c a b l=>?_) x y c h1 h2 l
   ·rcases List.mem_cons.mp hp with e | e
    ·subst e; exact Nat.lt_succ_self _
    ·exact Nat.lt_succ_of_lt (hn p e)
   ·rcases List.mem_cons.mp a with e | e <;> rcases List.mem_cons.mp b with e' | e'
    ·rw [(Prod.mk.inj e).1,(Prod.mk.inj e').1]
    ·have:=hn _ e'
     rw [(Prod.mk.inj e).2] at this
     exact absurd this (Nat.lt_irrefl _)
    ·have:=hn _ e
     rw [(Prod.mk.inj e').2] at this
     exact absurd this (Nat.lt_irrefl _)
    ·exact hi x y c e e' l
  ·rw [if_neg hk] at h1 h2
   exact cf_inj r n lo acc hl hn hi x y c h1 h2 l
theorem cf_keep {x:Str}{c:Addr}:∀ (names:List (Str × NameKind)) (n:Nat) (acc:List (Str × Addr)),acc.lookup x=some c -> (x,NameKind.cell) ∉ names -> (cellsFrom n names acc).lookup x=some c
 | [],_,_,h,_=>h
 | (y,k) :: r,n,acc,h,hm=>by
  unfold cellsFrom
  have hr:(x,NameKind.cell) ∉ r:=fun z=>hm (List.mem_cons_of_mem _ z)
  by_cases hk:(k == .cell)=true
  ·rw [if_pos hk]
   have ek:k = .cell:=by simpa using hk
   subst ek
   refine cf_keep r (n+1) _ ?_ hr
   rw [List.lookup_cons]
   have hne:(x == y)=false:=by
    cases e:x == y with
    | false=>rfl
    | true=>rw [beq_iff_eq.mp e] at hm; exact absurd List.mem_cons_self hm
   rw [hne]
   exact h
  ·rw [if_neg hk]
   exact cf_keep r n acc h hr
theorem cf_new:∀ (names:List (Str × NameKind))(h:Heap)(acc:List (Str × Addr))(p:Str × Addr),p ∈ cellsFrom h.objs.size names acc -> p ∈ acc \/ (pushCells h names).IsCell p.2 none
 | [],_,_,_,h=>.inl h
 | (y,k) :: r,h,acc,p,hp=>by
  unfold cellsFrom at hp
  unfold pushCells
  by_cases hk:(k == .cell)=true
  ·rw [if_pos hk] at hp ⊢
   have:=cf_new r (h.push { cls:=.type "cell",data:=.cell none }) ((y,h.objs.size) :: acc) p (by rw [Heap.size_push]; exact hp)
   rcases this with z | z
   ·rcases List.mem_cons.mp z with e | e
    ·subst e
     exact .inr ⟨_,pushCells_keeps r _ _ _ (Heap.get?_push_size _ rfl),rfl⟩
    ·exact .inl e
   ·exact .inr z
  ·rw [if_neg hk] at hp ⊢
   exact cf_new r h acc p hp
theorem mem_clos2 {scope:Scope}{env:Env}{x:Str}{c:Addr}(m:(x,c) ∈ closOf scope env):env.cells.lookup x=some c /\ (x,NameKind.free) ∈ scope.names:=by
 unfold closOf at m
 rw [List.mem_reverse,List.mem_filterMap] at m
 obtain ⟨⟨n,k⟩,hy,e⟩:=m
 split at e
 ·rename_i hk
  have hk:k = .free:=by simpa using hk
  subst hk
  cases q:env.cells.lookup n with
  | none=>rw [q] at e; cases e
  | some d =>
   rw [q] at e
   simp only [Option.map_some,Option.some.injEq,Prod.mk.injEq] at e
   rw [← e.1,q,e.2]
   exact ⟨rfl,hy⟩
 ·cases e
def compEnvK (scope:Scope)(cl:List (Str × Addr))(C:Addr)(env:Env):Env :=
 { scope:=relabel scope env,locals:=C,globals:=env.globals,cells:=cellsFrom (C+1) scope.names cl,qual:=env.qual,func:=none,code:=env.code,frame:=env.frame,builtins:=env.builtins }
def nfeH (h:Heap)(names:List (Str × NameKind)):Heap:=pushCells (h.push { cls:=.type "dict",data:=.dict #[] }) names
theorem nfe_cells {M:Model}{A:Around}{E:Value -> Shared -> Prop}{s:Shared}{scope:Scope}{globals:Addr}{cl:List (Str × Addr)}{qual:Str}{env:Env}{Q:Env -> Shared -> Prop}
  (hQ:Q { scope:=scope,locals:=s.heap.objs.size,globals:=globals,cells:=cellsFrom (s.heap.objs.size+1) scope.names cl,qual:=qual,func:=none,code:=env.code,frame:=env.frame,builtins:=env.builtins } { s with heap:=nfeH s.heap scope.names }) :
  wpAny M A (newFunctionEnv scope globals cl [] qual none .none (some env)) Q E s:=by
 simp only [newFunctionEnv,Option.isSome_some,if_true]
 refine wpAny_bind (wpAny_alloc ?_)
 refine wpAny_bind (wpAny_layCells _ (fun name kind cells=>by cases hkc:kind == NameKind.cell <;> simp [hkc]) _ _ _ _ ?_)
 rw [show ({ s with heap:=s.heap.push { cls:=.type "dict",data:=.dict #[] } }:Shared).heap.objs.size=s.heap.objs.size+1 from Heap.size_push ..]
 rw [List.forIn_nil]
 exact wpAny_bind (wpAny_pure (wpAny_pure hQ))
def compCxC (X:Cx)(N:List Str)(scope:Scope)(C:Addr)(s:Shared)(H:Hp)(fp:List Addr):Cx :=
 { X with N:=N,s₀:=s,H₀:=H,env:=compEnvK scope (closOf scope X.env) C X.env,outer:=X.stack,stack:=X.stack,ex:=fp,fn:=fun x=>scope.names.lookup x == some .cell,pn:=[],xe:=fun _ _=>False }
def scC (sc xsc:Scope):Bool:=(sc.kind == .function) && sc.names.all fun x=>(x.2 != .cell || sc.names.lookup x.1 == some .cell) && (x.2 != .local || sc.names.lookup x.1 == some .local) && (x.2 != .free || ((sc.names.lookup x.1 == some .free) && ((xsc.names.lookup x.1 == some .cell) || (xsc.names.lookup x.1 == some .free))))
section
variable {X:Cx}
theorem compCxC_inv {pins:List (Addr × Obj)}{σ:St}{H:Hp}{s:Shared}{N:List Str}{scope:Scope}{nt:Nat}{cs:List Nat}{fp:List Addr}{tk:Nat}(I:Inv X pins σ H s)
  (hsc:scC scope X.env.scope=true) (hcap:capB cs (N.drop nt) X.N scope X.env.scope=true) (hlen:N.length=nt+cs.length)
  (hf:∀ b ∈ fp,FpOk X pins H b) (hfl:∀ b ∈ fp,b < s.heap.objs.size) :
  Inv (compCxC X N scope s.heap.objs.size s H fp) [] (capSt nt cs σ) H { s with heap:=nfeH s.heap scope.names,toks:=tk }:=by
 have hk:∀ b o,s.heap.get? b=some o -> (nfeH s.heap scope.names).get? b=some o:=fun b o e=>pushCells_keeps _ _ b o (Heap.get?_push_of_some _ e)
 have hn:(nfeH s.heap scope.names).Ns s.heap.objs.size fun _=>none:=(Heap.Ns.new s.heap (.type "dict")).keeps (pushCells_keeps _ _)
 unfold scC at hsc
 rw [Bool.and_eq_true] at hsc
 obtain ⟨hkd,hall⟩:=hsc
 have hkd:scope.kind = .function:=by simpa using hkd
 rw [List.all_eq_true] at hall
 have cellL:∀ x,(x,NameKind.cell) ∈ scope.names -> scope.names.lookup x=some .cell:=fun x hx=>by
  have:=hall _ hx
  simp only [bne_self_eq_false,Bool.false_or,Bool.and_eq_true,beq_iff_eq] at this
  exact this.1.1
 have freeL:∀ x,(x,NameKind.free) ∈ scope.names -> scope.names.lookup x=some .free:=fun x hx=>by
  have:=hall _ hx
  simp only [bne_self_eq_false,Bool.false_or,Bool.and_eq_true,beq_iff_eq] at this
  exact this.2.1
 have free2:∀ x,(x,NameKind.free) ∈ scope.names -> X.env.kindOf x=some .cell \/ X.env.kindOf x=some .free:=fun x hx=>by
  have:=hall _ hx
  simp only [bne_self_eq_false,Bool.false_or,Bool.and_eq_true,Bool.or_eq_true,beq_iff_eq] at this
  exact this.2.2
 have kinds:∀ x,((compCxC X N scope s.heap.objs.size s H fp).env.kindOf x=some .cell \/ (compCxC X N scope s.heap.objs.size s H fp).env.kindOf x=some .free) -> scope.names.lookup x=some .cell \/ (x,NameKind.free) ∈ scope.names:=fun x hx=>by
  have q:∃ k,(relabel scope X.env).names.lookup x=some k /\ (k = .cell \/ k = .free):=by
   rcases hx with e | e
   ·exact ⟨_,e,.inl rfl⟩
   ·exact ⟨_,e,.inr rfl⟩
  obtain ⟨k,e,hk'⟩:=q
  obtain ⟨k0,e0,r⟩:=relabel_lookup e
  have m:=PySem.mem_of_lookup e0
  rcases r with r | ⟨r,_⟩
  ·subst r
   rcases hk' with z | z
   ·rw [z] at e0; exact .inl e0
   ·rw [z] at m; exact .inr m
  ·rw [r] at m; exact .inr m
 have clt:∀ x c,X.env.cells.lookup x=some c -> c < s.heap.objs.size:=fun x c e=>by
  obtain ⟨v,q⟩:=I.cell x c e
  exact q.lt
 -- a cell of the block: one of the caller's,or one of its own
 have two:∀ x c,(compCxC X N scope s.heap.objs.size s H fp).env.cells.lookup x=some c -> (X.env.cells.lookup x=some c /\ (x,NameKind.free) ∈ scope.names) \/ ((x,NameKind.cell) ∈ scope.names /\ s.heap.objs.size+1 <= c /\ (nfeH s.heap scope.names).IsCell c none):=fun x c e=>by
  have m:=PySem.mem_of_lookup e
  rcases cf_mem _ _ _ _ m with z | ⟨z,l⟩
  ·exact .inl (mem_clos2 z)
  ·refine .inr ⟨z,l,?_⟩
   have m':(x,c) ∈ cellsFrom (s.heap.push { cls:=.type "dict",data:=.dict #[] }).objs.size scope.names (closOf scope X.env):=by rw [Heap.size_push]; exact m
   rcases cf_new _ _ _ _ m' with q | q
   ·have:=clt x c (mem_clos2 q).1
    exact absurd (qJ this (Nat.le_of_succ_le l)) (Nat.lt_irrefl _)
   ·exact q
 refine ⟨⟨I.ok.mod,?_,I.ok.glob,I.ok.blt,Nat.le_refl _,?_,?_,?_,I.ok.hd,I.ok.frames,.inl rfl,?_,?_,?_,?_,?_,?_,?_⟩,rfl,I.bare,Un.kept hk,⟨_,hn,?_⟩,?_,?_,?_,?_,I.hok.kept hk,?_⟩
 ·show (relabel scope X.env).kind=_
  exact hkd
 ·intro x y c e1 e2
  rcases two x c e1 with ⟨a,_⟩ | ⟨_,a,_⟩ <;> rcases two y c e2 with ⟨b,_⟩ | ⟨_,b,_⟩
  ·exact I.ok.inj x y c a b
  ·exact absurd (qJ (clt x c a) (Nat.le_of_succ_le b)) (Nat.lt_irrefl _)
  ·exact absurd (qJ (clt y c b) (Nat.le_of_succ_le a)) (Nat.lt_irrefl _)
  ·refine cf_inj scope.names (s.heap.objs.size+1) (s.heap.objs.size+1) (closOf scope X.env) (Nat.le_refl _) (fun p hp=>Nat.lt_succ_of_lt (clt p.1 p.2 (mem_clos2 hp).1)) (fun x y c h1 h2 l=>?_) x y c (PySem.mem_of_lookup e1) (PySem.mem_of_lookup e2) a
   exact absurd (qJ (clt x c (mem_clos2 h1).1) (Nat.le_of_succ_le l)) (Nat.lt_irrefl _)
 ·intro x hx
  rcases kinds x hx with m | m
  ·exact Option.isSome_iff_exists.mp (PySem.W.cellsFrom_some scope.names (s.heap.objs.size+1) (closOf scope X.env) (.inl m))
  ·obtain ⟨c,hc⟩:=I.ok.has x (free2 x m)
   exact Option.isSome_iff_exists.mp (PySem.W.cellsFrom_some scope.names (s.heap.objs.size+1) (closOf scope X.env) (.inr (by rw [clos_has m hc]; rfl)))
 ·intro x c z e
  have z:scope.names.lookup x=some .cell:=by simpa [compCxC] using z
  rcases two x c e with ⟨_,m⟩ | ⟨_,l,_⟩
  ·have:=freeL x m
   rw [z] at this
   cases this
  ·exact Nat.le_of_succ_le l
 ·intro b hb
  obtain ⟨f0,f1,f2,f3,f4,f5⟩:=hf b hb
  refine ⟨Nat.ne_of_lt (hfl b hb),fun x c e=>?_⟩
  rcases two x c e with ⟨a,_⟩ | ⟨_,l,_⟩
  ·exact f4 x c a
  ·exact fun z=>absurd (qJ (hfl b hb) (Nat.le_of_succ_le (z ▸ l))) (Nat.lt_irrefl _)
 ·intro b o e
  exact I.bs b o e
 ·exact Nat.le_trans I.ok.bsz I.sz
 ·intro b o e hb
  obtain ⟨f0,f1,f2,f3,f4,f5⟩:=hf b hb
  rcases f3 with z | z
  ·exact I.ok.noex b o e z
  ·exact absurd (qJ (Heap.lt_size (I.ok.bs b o e).1) z) (Nat.lt_irrefl _)
 ·intro b hb hs
  obtain ⟨f0,f1,f2,f3,f4,f5⟩:=hf b hb
  rcases List.mem_cons.mp (I.stkSub b hs) with z | z
  ·exact f1 z
  ·exact f2 z
 ·exact I.stack
 ·exact I.stkFree
 ·intro i x v e1 e2 _
  have hi:nt <= i:=by
   refine Nat.le_of_not_lt fun z=>?_
   unfold capSt at e2
   rw [qH (by simpa using z),List.getElem?_replicate,if_pos z] at e2
   cases e2
  unfold capSt at e2
  rw [qG (by simpa using hi),qL,qI] at e2
  cases q:cs[i - nt]? with
  | none=>rw [q] at e2; cases e2
  | some c =>
   rw [q] at e2
   simp only [Option.map_some,Option.some.injEq] at e2
   have e3:σ[c]? = some (some v):=by
    cases z:σ[c]? with
    | none=>rw [z] at e2; cases e2
    | some o=>rw [z] at e2; exact congrArg some e2
   unfold capB at hcap
   rw [List.all_eq_true] at hcap
   have e4:(N.drop nt)[i - nt]? = some x:=by
    rw [List.getElem?_drop,show nt+(i - nt)=i by omega]
    exact e1
   have m:(c,x) ∈ cs.zip (N.drop nt):=by
    have:(cs.zip (N.drop nt))[i - nt]? = some (c,x):=by rw [List.getElem?_zip_eq_some]; exact ⟨q,e4⟩
    exact qE this
   have hm:=hcap _ m
   simp only [Bool.and_eq_true,beq_iff_eq,bne_iff_ne,ne_eq] at hm
   obtain ⟨⟨h1',h2'⟩,h3'⟩:=hm
   have hlk:scope.names.lookup x=some .free:=h2'
   have h2':(x,NameKind.free) ∈ scope.names:=PySem.mem_of_lookup hlk
   have nocell:(x,NameKind.cell) ∉ scope.names:=fun z=>by
    have:=cellL x z
    rw [hlk] at this
    cases this
   obtain ⟨mm,hmm,hl⟩:=I.loc
   have vis:Vis X.env.scope x:=.inr (free2 x h2')
   obtain ⟨u,r,l⟩:=hl c x v h1' e3 vis
   rcases l with ⟨z,_⟩ | ⟨z,d,hd,hcell⟩
   ·exact absurd z h3'
   ·refine ⟨u,r,.inr ⟨?_,d,cf_keep _ _ _ (clos_has h2' hd) nocell,?_⟩⟩
    ·have isf:∃ k,(relabel scope X.env).names.lookup x=some k:=by
      have:∃ k',(x,k') ∈ (relabel scope X.env).names:=by
       unfold relabel
       by_cases cc:(X.env.scope.kind == .function && X.env.kindOf x == some .cell)=true
       ·refine ⟨.cell,qP.mpr ⟨(x,.free),h2',?_⟩⟩
        simp only [Bool.and_eq_true] at cc
        simp [cc.1,cc.2]
       ·refine ⟨.free,qP.mpr ⟨(x,.free),h2',?_⟩⟩
        simp only [Bool.and_eq_true] at cc
        have cc':¬ ((NameKind.free == NameKind.free && X.env.scope.kind == .function && X.env.kindOf x == some .cell)=true):=by
         simp only [beq_self_eq_true,Bool.true_and,Bool.and_eq_true]
         exact cc
        show (if (NameKind.free == NameKind.free && X.env.scope.kind == .function && X.env.kindOf x == some .cell)=true then (x,NameKind.cell) else (x,NameKind.free))=(x,NameKind.free)
        rw [if_neg cc']
      obtain ⟨k',hk'⟩:=this
      exact lookup_mem hk'
     obtain ⟨k,ek⟩:=isf
     obtain ⟨k0,e0,rr⟩:=relabel_lookup ek
     rcases rr with rr | ⟨_,rr⟩
     ·subst rr
      rw [hlk] at e0
      cases e0
      exact .inr ek
     ·subst rr
      exact .inl ek
    ·obtain ⟨o,ho,hd'⟩:=hcell
     exact ⟨o,hk _ _ ho,hd'⟩
 ·intro x c e
  rcases two x c e with ⟨a,_⟩ | ⟨_,_,a⟩
  ·obtain ⟨v,o,ho,hd⟩:=I.cell x c a
   exact ⟨v,o,hk _ _ ho,hd⟩
  ·exact ⟨none,a⟩
 ·exact I.hok.fresh (Nat.le_refl _)
 ·intro x c e
  rcases two x c e with ⟨a,_⟩ | ⟨_,l,_⟩
  ·exact I.freeC x c a
  ·exact I.hok.fresh (Nat.le_of_succ_le l)
 ·intro p hp
  cases hp
 ·show (capSt nt cs σ).length=N.length
  unfold capSt
  rw [qF,qL,qC,hlen]
theorem compC_core {use:Option (Value -> Sem Unit)}{QQ:Value -> Shared -> Prop}{ipos:Pos}{tg iter elt:Expr}{ifs:List Expr}{scope:Scope}{pos:Pos}{wi:TI}{N:List Str}{nt:Nat}{cs:List Nat}{g:TG}{tt:TT}{te:TE}(hc:X.calm=true)(hi:PI X tg iter wi)
  (hb:N.Nodup -> ∀ (C:Addr) (s:Shared) (H:Hp) (fp:List Addr),CompBody (compCxC X N scope C s H fp) tg ifs elt g tt te)
  (hnd:N.Nodup) (hsc:scC scope X.env.scope=true) (hcap:capB cs (N.drop nt) X.N scope X.env.scope=true) (hlen:N.length=nt+cs.length)
  (hs:∀ x,foldedSetIterable iter X.env x=pure x) {pins:List (Addr × Obj)} {s:Shared} {σ:St} {H:Hp} {Q:V -> Hp -> Prop} (I:Inv X pins σ H s) (h:tComp wi nt cs g tt te σ H Q)
  (hfin:∀ {acc:Addr} {fp:List Addr} {HX:Hp} {sx:Shared} {σ':St} {H':Hp} {s':Shared},Inv X pins σ HX sx -> (∀ b ∈ fp,FpOk X pins HX b) -> Inv (compCxC X N scope sx.heap.objs.size sx HX fp) [] σ' H' s' -> Q (.ref acc) H' -> compPost (model X.prog X.w) X.A X.xe use QQ (.ref acc) sx.heap.objs.size (.ok .next) s') :
  wpAny (model X.prog X.w) X.A (comprehension (.ListComp elt [⟨tg,iter,ifs,0⟩] scope pos) scope X.env ipos (newList []) false (eval iter X.env) use) QQ X.xe s:=by
 have hsc':=hsc
 unfold scC at hsc'
 rw [Bool.and_eq_true] at hsc'
 obtain ⟨hkd,hall⟩:=hsc'
 have hkd:scope.kind = .function:=by simpa using hkd
 rw [List.all_eq_true] at hall
 have hnames:∀ x ∈ scope.names,x.2 = .local -> scope.names.lookup x.1=some .local:=fun x hx e=>by
  have:=hall x hx
  rw [e] at this
  simp only [bne_self_eq_false,Bool.false_or,Bool.and_eq_true,beq_iff_eq] at this
  exact this.1.2
 have hclos:closureFor scope X.env=pure (closOf scope X.env):=closureFor_ok fun x hx e=>by
  have:=hall x hx
  rw [e] at this
  simp only [bne_self_eq_false,Bool.false_or,Bool.and_eq_true,Bool.or_eq_true,beq_iff_eq] at this
  exact I.ok.has x.1 this.2.2
 refine wpAny_comprehension_free (use:=use) rfl hs hclos hkd hnames (thn (hi pins s σ H _ I h) fun v s1 h1=>thn h1 fun itv s2 h2=>?_)
 obtain ⟨it,fp,tn,J,H2,e,I2,T,st2,f2,hR⟩:=h2
 subst e
 refine wpAny_newObj_type (nfe_cells ?_)
 have fr:=I2.fresh
 have I3:Inv X pins σ (upd H2 s2.heap.objs.size (.lst [])) { s2 with heap:=s2.heap.push { cls:=.type "list",data:=.seq ([]:List Value).toArray },toks:=s2.toks }:=I2.lnew .nil (le_size (by decide))
 obtain ⟨W,⟨m0,w0⟩,turn⟩:=hR _ fr
 generalize hacc:s2.heap.objs.size=acc at *
 generalize hsx:({ s2 with heap:=s2.heap.push { cls:=.type "list",data:=.seq ([]:List Value).toArray },toks:=s2.toks }:Shared)=sx at *
 have hC:sx.heap.objs.size=acc+1:=by rw [← hsx,← hacc]; exact Heap.size_push _ _
 have fpl:∀ b ∈ fp,b < acc:=fun b hb=>by
  obtain ⟨o,ho,_⟩:=T.obj _ _ st2 b hb
  rw [← hacc]
  exact Heap.lt_size ho
 have f3:∀ b ∈ fp,FpOk X pins (upd H2 acc (.lst [])) b:=fun b hb=>by
  obtain ⟨f0,f1⟩:=f2 b hb
  exact ⟨by rw [upd_ne (Nat.ne_of_lt (fpl b hb))]; exact f0,f1⟩
 have keep3:∀ b o,sx.heap.get? b=some o -> (nfeH sx.heap scope.names).get? b=some o:=fun b o e=>pushCells_keeps _ _ b o (Heap.get?_push_of_some _ e)
 have hn3:(nfeH sx.heap scope.names).Ns sx.heap.objs.size fun _=>none:=(Heap.Ns.new sx.heap (.type "dict")).keeps (pushCells_keeps _ _)
 have IC:Inv (compCxC X N scope sx.heap.objs.size sx (upd H2 acc (.lst [])) fp) [] (capSt nt cs σ) (upd H2 acc (.lst [])) { sx with heap:=nfeH sx.heap scope.names,toks:=sx.toks } :=
  compCxC_inv (tk:=sx.toks) I3 hsc hcap hlen f3 (fun b hb=>by rw [hC]; exact Nat.lt_succ_of_lt (fpl b hb))
 have hn3':H2 acc=none:=fr
 generalize hXC:compCxC X N scope sx.heap.objs.size sx (upd H2 acc (.lst [])) fp=XC at IC
 have ctxP:XC.prog=X.prog:=by rw [← hXC]; rfl
 have ctxW:XC.w=X.w:=by rw [← hXC]; rfl
 have ctxK:XC.K=X.K:=by rw [← hXC]; rfl
 have ctxA:XC.A=X.A:=by rw [← hXC]; rfl
 have ctxC:XC.calm=true:=by rw [← hXC]; exact hc
 have ctxX:XC.xe=fun _ _=>False:=by rw [← hXC]; rfl
 have ctxE:XC.env=compEnvK scope (closOf scope X.env) sx.heap.objs.size X.env:=by rw [← hXC]; rfl
 have body:CompBody XC tg ifs elt g tt te:=by rw [← hXC]; exact hb hnd _ _ _ _
 have st3:tn 0 (nfeH sx.heap scope.names):=T.keep _ _ _ st2 fun b hb o e=>keep3 b o (by rw [← hsx]; exact Heap.get?_push_of_some _ e)
 have stat:∀ {H':Hp},(∀ b ∈ fp,H' b=none) -> ∀ b ∈ fp,FpOk XC [] H' b:=fun hn b hb=>by
  obtain ⟨f0,f1,f2',f3',f4,f5⟩:=f3 b hb
  refine ⟨hn b hb,?_,?_,.inl (by rw [← hXC]; exact hb),fun x c e=>?_,fun p hp=>?_⟩
  ·rw [ctxE]
   exact Nat.ne_of_lt (by rw [hC]; exact Nat.lt_succ_of_lt (fpl b hb))
  ·rw [← hXC]
   intro z
   rcases List.mem_cons.mp (I3.stkSub b z) with z | z
   ·exact f1 z
   ·exact f2' z
  ·rw [ctxE] at e
   rcases cf_mem _ _ _ _ (PySem.mem_of_lookup e) with z | ⟨_,z⟩
   ·exact f4 x c (mem_clos2 z).1
   ·have h9:=fpl b hb
    have z:sx.heap.objs.size+1 <= c:=z
    rw [hC] at z
    exact Nat.ne_of_gt (qJ h9 (Nat.le_of_succ_le (Nat.le_of_succ_le z)))
  ·rw [← hXC] at hp
   cases hp
 have fin:∀ {σ':St} {H':Hp} {s':Shared},Inv XC [] σ' H' s' -> Q (.ref acc) H' -> compPost (model X.prog X.w) X.A X.xe use QQ (.ref acc) sx.heap.objs.size (.ok .next) s':=fun {σ' H' s'} J' q=>hfin I3 f3 (by rw [hXC]; exact J') q
 have loop:codeAny (model X.prog X.w) X.A (.compLoop (.ListComp elt [⟨tg,iter,ifs,0⟩] scope pos) 0 (.ref it) (.ref acc) XC.env) (compPost (model X.prog X.w) X.A X.xe use QQ (.ref acc) sx.heap.objs.size)
   { sx with heap:=nfeH sx.heap scope.names,toks:=sx.toks }:=by
  rw [← ctxP,← ctxW,← ctxA]
  refine codeAny_compLoop_gen (fun n s'=>∃ i ys σ' H',Inv XC [] σ' H' s' /\ tn i s'.heap /\ (∀ b ∈ fp,H' b=none) /\ W i n ys σ' H') ?_ m0 ⟨0,[],_,_,IC,st3,fun b hb=>(f3 b hb).1,w0⟩
  rintro n s3 ⟨i,ys,σ3,H3,I3',st3',fr3,w3⟩
  have T':=T
  rw [← ctxP,← ctxW,← ctxK] at T'
  obtain ⟨hacc3,alt⟩:=turn i n ys σ3 H3 w3
  rcases alt with ⟨stop,qn⟩ | ⟨go,hsz,NN,hNN,step⟩
  ·refine thn (T'.done XC rfl rfl rfl ctxC i [] s3 σ3 H3 _ I3' (stat fr3) st3' stop) fun r s4 ⟨hr,I4⟩=>?_
   subst hr
   rw [ctxP,ctxW,ctxA]
   exact fin I4 qn
  ·refine thn (T'.item XC rfl rfl rfl ctxC i [] s3 σ3 H3 _ I3' (stat fr3) st3' go) fun r s4 ⟨u,hr,h4⟩=>?_
   subst hr
   refine thn h4 fun _ s5 ⟨x,H5,I5,r5,y5,st5,fr5⟩=>?_
   have I5':=I5.pinned (stat fr5) (T'.obj _ _ st5)
   have a1:=body.tg _ s5 σ3 H5 x u _ I5' r5 (step x H5 y5)
   rw [ctxX] at a1
   refine thn a1 fun _ s6 ⟨σ6,H6,I6,q6⟩=>?_
   have a2:=body.tt _ s6 σ6 H6 _ I6 q6
   rw [ctxX] at a2
   refine thn a2 fun b s7 ⟨H7,I7,q7⟩=>?_
   have again:∀ {s8:Shared} {σ7:St} {H7:Hp} {zs:List V},Inv XC ([] ++ pinsAt fp s5.heap) σ7 H7 s8 -> NN zs σ7 H7 -> ∃ m,m < n /\ ∃ i ys σ' H',Inv XC [] σ' H' s8 /\ tn i s8.heap /\ (∀ b ∈ fp,H' b=none) /\ W i m ys σ' H':=fun {s8 σ7 H7 zs} I7 n7=>by
    obtain ⟨m',hm,w7⟩:=hNN zs σ7 H7 n7
    refine ⟨m',hm,i+1,zs,σ7,H7,I7.unpinned,T'.keep _ _ _ st5 fun b hb o e=>(I7.pin (b,o) (qK _ (qK _ (mem_pinsAt hb e)))).1,fun b hb=>?_,w7⟩
    obtain ⟨o,e,d⟩:=T'.obj _ _ st5 b hb
    exact (I7.pin (b,o) (qK _ (qK _ (mem_pinsAt hb e)))).2.1
   cases b with
   | false =>
    rw [if_neg Bool.false_ne_true] at q7 ⊢
    exact again I7 q7
   | true =>
    rw [if_pos rfl] at q7 ⊢
    have a3:=body.te _ s7 σ6 H7 _ I7 q7
    rw [ctxX] at a3
    refine thn a3 fun xv s8 ⟨y,H8,I8,r8,q8⟩=>?_
    obtain ⟨hl8,n8⟩:=q8
    have a4:=mt_append (X:=XC) _ s8 σ6 H8 (.ref acc) [y] (.ref acc) [xv] (fun _ H9=>NN (ys ++ [y]) σ6 H9) I8 rfl (.cons r8 .nil) ⟨acc,ys,y,rfl,rfl,hl8,hsz,n8⟩
    rw [ctxX] at a4
    refine thn a4 fun _ s9 ⟨_,H9,I9,_,q9⟩=>?_
    exact again I9 q9
 rw [ctxE] at loop
 exact codeAny_compStart_list loop (T.self X.A 0 _ _ _ st3 loop)
theorem ps_setCompC {y:Str}{py spos:Pos}{ix:Nat}{tg iter elt:Expr}{ifs:List Expr}{scope:Scope}{pos:Pos}{wi:TI}{N:List Str}{nt:Nat}{cs:List Nat}{g:TG}{tt:TT}{te:TE}(hc:X.calm=true)(hi:PI X tg iter wi)
  (hb:N.Nodup -> ∀ (C:Addr) (s:Shared) (H:Hp) (fp:List Addr),CompBody (compCxC X N scope C s H fp) tg ifs elt g tt te)
  (hnd:N.Nodup) (hsc:scC scope X.env.scope=true) (hcap:capB cs (N.drop nt) X.N scope X.env.scope=true) (hlen:N.length=nt+cs.length)
  (hs:∀ x,foldedSetIterable iter X.env x=pure x) (hN:X.N.Nodup) (hix:X.N[ix]? = some y) (hy:Loc X.env.scope y) (hf:X.fn y=true \/ X.env.scope.names.lookup y=some .local)
  (hsw:swapsWith (.ListComp elt [⟨tg,iter,ifs,0⟩] scope pos) (some (.Name y py)) spos.line X.env=pure true):PS X (.Assign [.Name y py] (.ListComp elt [⟨tg,iter,ifs,0⟩] scope pos) spos) (tAsg (tComp wi nt cs g tt te) (gName ix)):=by
 intro pins s σ H D I h
 rw [exec_Assign_Name_used _ _ _ _ hsw]
 refine wpAny_bind (wpAny_standAt (wpAny_bind ?_))
 show wpAny _ X.A (do let _ ← comprehension (.ListComp elt [⟨tg,iter,ifs,0⟩] scope pos) scope X.env _ (newList []) false (eval iter X.env) (some (assign (.Name y py) X.env))) _ _ s
 refine wpAny_bind (wpAny_mono (compC_core (use:=some (assign (.Name y py) X.env)) (QQ:=fun _ s'=>SP X pins D .next s') hc hi hb hnd hsc hcap hlen hs I h fun {acc fp HX sx σ' H' s'} I3 f3 J' q=>?_) (fun _ s' hq=>wpAny_pure (wpAny_pure hq)) fun _ _ e=>e)
 obtain ⟨m,hm,_⟩:=J'.loc
 have IX:Inv X pins σ H' s':=I3.call' J'.os J'.base J'.hok J'.bare fun b hb=>by
  obtain ⟨f0,f1,f2',f3',f4,f5⟩:=f3 b hb
  exact ⟨f3',f1,f4,f5⟩
 have hCL:sx.heap.objs.size ≠ X.env.locals:=Nat.ne_of_gt I3.lt
 have hCc:∀ x c,X.env.cells.lookup x=some c -> c ≠ sx.heap.objs.size:=fun x c e=>by
  obtain ⟨v,z⟩:=I3.cell x c e
  exact Nat.ne_of_lt z.lt
 have hCp:∀ p ∈ X.pn ++ pins,p.1 ≠ sx.heap.objs.size:=fun p hp=>Nat.ne_of_lt (Heap.lt_size (I3.pin p hp).1)
 show wpAny _ X.A (assign (.Name y py) X.env (.ref acc)) _ _ s'
 refine wpAny_assign_Name (store_ok2 IX hN hix hy (v:=.ref acc) rfl (fun s'' I'' ⟨a,hsb,ha⟩=>?_) hf)
 have hCa:sx.heap.objs.size ≠ a:=fun z=>by
  rcases ha with e | e
  ·exact hCL (z.trans e)
  ·exact hCc _ _ e z.symm
 refine ⟨m,hm.sameBut hsb hCa,fun h' hs'=>⟨_,H',?_,q⟩⟩
 exact I''.turned (t':=s''.toks) (fun b o hb e=>(hs'.2 b hb).trans e) J'.free hCL (.inr I3.sz) hCc hCp
end
end L2
set_option Elab.async false
set_option linter.all false
set_option maxRecDepth 100000
set_option maxHeartbeats 1000000
namespace L2
open PySem PySem.Spec
theorem Chg.updN {p q:Addr}{H H':Hp}{o:HO}(c:Chg p H H')(h:H q=none):Chg p H (L2.upd H' q o):=fun b u n e=>by rw [upd_ne (ne_of_none e h)]; exact c b u n e
theorem Chg.new {p q:Addr}{H H':Hp}(c:Chg p H H')(n:q ≠ p)(h:H' q=none):H q=none:=by
 cases e:H q with
 | none=>rfl
 | some o=>rw [c q o n e] at h; cases h
section
variable {K:PySem.W.Frag}{σ:St}{H:Hp}{Q:VK}{cs:List Nat}{te:TE}
theorem comp_zip {r1 r2:Addr}{us vs:List V}(h1:SqL K H r1 us)(h2:SqL K H r2 vs)(hl:vs.length=us.length)(hz:us.length <= 1000)(zs:List V)(hzl:zs.length=us.length)
  (hb:∀ (i:Nat) (x y z:V) H' (R:VK),us[i]? = some x -> vs[i]? = some y -> zs[i]? = some z -> Same H H' -> R z H' -> te ([some x,some y] ++ capV cs σ) H' R)
  (hd:∀ acc H',H acc=none -> Same H H' -> H' acc=some (.lst zs) -> Q (.ref acc) H') :
  CompIt (Itz K r1 r2) 2 cs (gTupM 2 (gCons (gName 0) (gCons (gName 1) gNil))) tYes te σ H Q:=by
 refine comp_any us.length (fun acc i ws H'=>Same H H' /\ H' acc=some (.lst ws) /\ ws=zs.take i) (le_size hz) ?_ ?_ ?_ ?_ ?_ ?_
 ·rintro acc i ws H' hi ⟨s,_,_⟩
  exact ⟨_,_,s.seq h1,s.seq h2,hi,by omega⟩
 ·rintro acc ws H' ⟨s,_,_⟩
  exact ⟨_,_,s.seq h1,s.seq h2,.inl (Nat.le_refl _)⟩
 ·intro acc ha
  exact ⟨same_new ha _,upd_same,rfl⟩
 ·rintro acc i ws H' ⟨s,ha,rfl⟩
  exact ⟨ha,by rw [qO]; omega⟩
 ·rintro acc i ws H' ts x H2 N hn hi ⟨s,ha,rfl⟩ ⟨T,u,v,rfl,hT,rfl,e1,e2⟩ hts hN
  have hu:=e1 _ (s.seq h1)
  have hv:=e2 _ (s.seq h2)
  obtain ⟨z,hzi⟩:∃ z,zs[i]? = some z:=⟨_,qA (by omega)⟩
  obtain ⟨t0,t1,rfl⟩:∃ t0 t1,ts=[t0,t1]:=by
   match ts,hts with
   | [a,b],_=>exact ⟨a,b,rfl⟩
  rw [w_gTupM]
  refine ⟨[u,v],upd_same,rfl,?_⟩
  rw [w_gCons,w_gName,w_gCons,w_gName,w_gNil,w_yes,if_pos rfl]
  have sT:=same_new hT (.tup [u,v])
  refine hb i u v z _ _ hu hv hzi (s.trans sT) ?_
  have tk:zs.take (i+1)=zs.take i ++ [z]:=by rw [List.take_add_one,hzi]; rfl
  refine ⟨sT _ _ ha,hN _ [some u,some v] _ rfl ⟨same_upd hn (s.trans sT),upd_same,tk.symm⟩⟩
 ·rintro acc ws H' hn ⟨s,ha,rfl⟩
  refine hd acc H' hn s ?_
  rw [ha,List.take_of_length_le (by omega)]
theorem comp_rows {n:Nat}(hz:n <= 1000)(row:Nat -> List Int)(ex:List Addr)(hex:∀ e ∈ ex,H e ≠ none)
  (hb:∀ (i:Nat) H' (R:VK),i < n -> Same H H' -> (∀ r H5,H' r=none -> Same H' H5 -> H5 r=some (.lst ((row i).map V.int)) -> R (.ref r) H5) -> te (some (.int (0+(i:Int))) :: capV cs σ) H' R)
  (hd:∀ acc ys H',H acc=none -> Same H H' -> H' acc=some (.lst ys) -> HRs H' (acc :: ex) ys ((List.range n).map row) -> Q (.ref acc) H') :
  CompIt (Itr 0 n) 1 cs (gName 0) tYes te σ H Q:=by
 refine comp_any n (fun acc i ws H'=>Same H H' /\ H acc=none /\ H' acc=some (.lst ws) /\ HRs H' (acc :: ex) ws ((List.range i).map row)) (le_size hz) ?_ ?_ ?_ ?_ ?_ ?_
 ·rintro acc i ws H' hi _
  exact hi
 ·rintro acc ws H' _
  exact Nat.le_refl _
 ·intro acc ha
  exact ⟨same_new ha _,ha,upd_same,hrs_nil⟩
 ·rintro acc i ws H' ⟨s,_,ha,hr⟩
  exact ⟨ha,by rw [hr.len,qC,List.length_range]; exact Nat.le_refl _⟩
 ·rintro acc i ws H' ts x H2 N hn hi ⟨s,hn',ha,hr⟩ ⟨rfl,rfl⟩ hts hN
  obtain ⟨t0,rfl⟩:∃ t0,ts=[t0]:=by
   match ts,hts with
   | [a],_=>exact ⟨a,rfl⟩
  rw [w_gName,w_yes,if_pos rfl]
  refine hb i _ _ hi s fun r H5 hr0 s5 h5=>?_
  refine ⟨s5 _ _ ha,hN _ [_] _ rfl ⟨same_upd hn (s.trans s5),hn,upd_same,?_⟩⟩
  have hra:r ≠ acc:=(ne_of_none ha hr0).symm
  have ne:∀ e ∈ acc :: ex,r ≠ e:=fun e he=>by
   rcases List.mem_cons.mp he with z | z
   ·subst z; exact hra
   ·cases hh:H e with
    | none=>exact absurd hh (hex e z)
    | some o=>exact (ne_of_none (s _ _ hh) hr0).symm
  have h2:HRs (upd H5 acc (.lst (ws ++ [.ref r]))) (acc :: ex) (ws ++ [.ref r]) ((List.range i).map row ++ [row i]):=by
   refine HRs.snoc ((hr.same s5).chg List.mem_cons_self (Chg.upd _)) ?_ ne
   rw [upd_ne hra]; exact h5
  rw [List.range_succ,List.map_append]
  exact h2
 ·rintro acc ws H' hn ⟨s,_,ha,hr⟩
  exact hd acc ws H' hn s ha hr
end
def unitRow (n i:Nat):List Int:=(List.range n).map fun k=>if k=i then 1 else 0
def unV (i:Nat):V -> Option V:=fun x=>match x with
 | .int k=>some (.int (if k=(i:Int) then 1 else 0))
 | _=>none
theorem unV_map (n i:Nat):(rngV 0 n).filterMap (unV i)=(unitRow n i).map V.int:=by
 unfold rngV unitRow
 rw [List.map_map,List.filterMap_map]
 rw [show (unV i ∘ fun (k:Nat)=>V.int (0+(k:Int)))=fun k=>some ((V.int ∘ fun k=>if k=i then 1 else 0) k) from ?_,filterMap_some]
 funext k
 show some (V.int (if 0+(k:Int)=(i:Int) then 1 else 0))=some (V.int (if k=i then 1 else 0))
 by_cases h:k=i
 ·subst h; rw [if_pos (by omega),if_pos rfl]
 ·rw [if_neg (by omega),if_neg h]
theorem unitRow_len (n i:Nat):(unitRow n i).length=n:=by unfold unitRow; rw [qC,List.length_range]
theorem unitRow_bound {n i:Nat}{x:Int}(h:x ∈ unitRow n i):x=0 \/ x=1:=by
 unfold unitRow at h
 obtain ⟨k,_,rfl⟩:=qP.mp h
 by_cases e:k=i
 ·rw [if_pos e]; exact .inr rfl
 ·rw [if_neg e]; exact .inl rfl
end L2
set_option Elab.async false
set_option linter.all false
set_option maxRecDepth 100000
set_option maxHeartbeats 1000000
namespace L2
open PySem PySem.Spec
theorem map_at {ns:List Int}{i:Nat}{x:V}(h:(ns.map V.int)[i]? = some x):∃ n,ns[i]? = some n /\ x=V.int n:=by
 rw [qI] at h
 cases e:ns[i]? with
 | none=>rw [e] at h; cases h
 | some n=>rw [e] at h; exact ⟨n,rfl,(Option.some.inj h).symm⟩
structure WI (H:Hp) (p:Addr) (ins:Nat) (tb dl:Addr) (k:Nat) (vs us:List V) (rs:List (List Int)) (ds:List Wd) (H':Hp):Prop where
 tbl:H' tb=some (.lst vs)
 hrs:HRs H' [dl,tb,p] vs rs
 rl:rs.length=ins+k
 rb:RB (41 * k) rs
 rw_:∀ r ∈ rs,r.length=ins
 dll:H' dl=some (.lst us)
 hds:HTs wTup H' us ds
 dlen:ds.length=k
 dk:∀ (j:Nat) (d:Wd),ds[j]? = some d -> d.a < ins+j /\ d.b < ins+j /\ (d.w = "sum" \/ d.w = "less")
 chg:Chg p H H'
 ntb:H tb=none
 ndl:H dl=none
 tp:tb ≠ p
 dp:dl ≠ p
 td:tb ≠ dl
theorem HRs.sub {H:Hp}{ex ex':List Addr}{vs:List V}{rs:List (List Int)}(h:HRs H ex vs rs)(s:∀ e ∈ ex',e ∈ ex):HRs H ex' vs rs:=⟨h.len,fun k r e=>by
 obtain ⟨p,e1,e2,e3⟩:=h.at_ k r e
 exact ⟨p,e1,e2,fun z hz=>e3 z (s z hz)⟩⟩
structure WG (H:Hp) (p:Addr) (ins:Nat) (tb dl gl:Addr) (k:Nat) (vs us os:List V) (rs:List (List Int)) (ds:List Wd) (gs:List Go) (H':Hp):Prop where
 wi:WI H p ins tb dl k vs us rs ds H'
 hrs:HRs H' [gl,dl,tb,p] vs rs
 gll:H' gl=some (.lst os)
 hgs:HTs gTp H' os gs
 gk:∀ g ∈ gs,g.th < ins+k
 ngl:H gl=none
 gp:gl ≠ p
 gd:gl ≠ dl
 gt:gl ≠ tb
theorem WG.app {H:Hp}{p:Addr}{ins:Nat}{tb dl gl:Addr}{k:Nat}{vs us os:List V}{rs:List (List Int)}{ds:List Wd}{gs:List Go}{H':Hp}(h:WG H p ins tb dl gl k vs us os rs ds gs H'){x:Addr}{g:Go}
  (hx:H' x=some (.tup (gTp g))) (hg:g.th < ins+k):WG H p ins tb dl gl k vs us (os ++ [.ref x]) rs ds (gs ++ [g]) (upd H' gl (.lst (os ++ [.ref x]))):=by
 have C:Chg gl H' (upd H' gl (.lst (os ++ [.ref x]))):=Chg.upd _
 have nx:x ≠ gl:=ne_of hx h.gll (by intro z; cases z)
 have r1:=h.hrs.chg (l:=gl) (by simp) C
 have w1:WI H p ins tb dl k vs us rs ds (upd H' gl (.lst (os ++ [.ref x]))) :=
  { h.wi with tbl:=C _ _ h.gt.symm h.wi.tbl,hrs:=r1.sub (by intro e he; exact List.mem_cons_of_mem _ he),dll:=C _ _ h.gd.symm h.wi.dll,hds:=h.wi.hds.chgL h.gll C,chg:=h.wi.chg.updN h.ngl }
 refine ⟨w1,r1,upd_same,(h.hgs.chgL h.gll C).snoc (by rw [upd_ne nx]; exact hx),fun e he=>?_,h.ngl,h.gp,h.gd,h.gt⟩
 rcases List.mem_append.mp he with z | z
 ·exact h.gk e z
 ·rw [List.mem_singleton.mp z]; exact hg
end L2
set_option Elab.async false
set_option linter.all false
set_option maxRecDepth 100000
set_option maxHeartbeats 1000000
namespace L2
open PySem PySem.Spec
structure Wb (H:Hp) (w dl gl:Addr) (ins:Nat) (us:List V) (ds:List Wd) (os:List V) (gs:List Go):Prop where
 tup:H w=some (.tup [.int ins,.ref dl,.ref gl])
 dll:H dl=some (.lst us)
 hds:HTs wTup H us ds
 gll:H gl=some (.lst os)
 hgs:HTs gTp H os gs
theorem Wb.same {H H':Hp}{w dl gl:Addr}{ins:Nat}{us:List V}{ds:List Wd}{os:List V}{gs:List Go}(h:Wb H w dl gl ins us ds os gs)(s:Same H H'):Wb H' w dl gl ins us ds os gs :=
 ⟨s _ _ h.tup,s _ _ h.dll,h.hds.same s,s _ _ h.gll,h.hgs.same s⟩
theorem Wb.chg {H H':Hp}{w dl gl l:Addr}{ins:Nat}{us xs:List V}{ds:List Wd}{os:List V}{gs:List Go}(h:Wb H w dl gl ins us ds os gs)(hl:H l=some (.lst xs))(h1:dl ≠ l)(h2:gl ≠ l)(c:Chg l H H'):Wb H' w dl gl ins us ds os gs :=
 ⟨c _ _ (ne_of h.tup hl (by intro z; cases z)) h.tup,c _ _ h1 h.dll,h.hds.chgL hl c,c _ _ h2 h.gll,h.hgs.chgL hl c⟩
def sgW (w:Str):Int:=if w = "less" then -1 else 1
structure Ar where
 st:Nat
 go:Nat
 sh:Int
 sg:Int
def aTup (a:Ar):List V:=[.int a.st,.int a.go,.int a.sh,.int a.sg]
def arrF (ins:Nat):Nat -> List Wd -> List Ar
 | _,[]=>[]
 | k,d :: r=>⟨d.a,ins+k,d.s,1⟩ :: ⟨d.b,ins+k,d.t,sgW d.w⟩ :: arrF ins (k+1) r
theorem arrF_app (ins:Nat):∀ (xs ys:List Wd) (k:Nat),arrF ins k (xs ++ ys)=arrF ins k xs ++ arrF ins (k+xs.length) ys
 | [],ys,k=>rfl
 | d :: r,ys,k=>by
  show ⟨d.a,ins+k,d.s,1⟩ :: ⟨d.b,ins+k,d.t,sgW d.w⟩ :: arrF ins (k+1) (r ++ ys)=_
  rw [arrF_app ins r ys (k+1),show k+1+r.length=k+(d :: r).length by simp; omega]
  rfl
theorem arrF_len (ins:Nat):∀ (xs:List Wd) (k:Nat),(arrF ins k xs).length=2 * xs.length
 | [],_=>rfl
 | d :: r,k=>by
  show (arrF ins (k+1) r).length+1+1=_
  rw [arrF_len ins r (k+1)]; simp; omega
theorem arr_at {ins:Nat}:∀ {ds:List Wd} {k t:Nat} {a:Ar},(arrF ins k ds)[t]? = some a -> ∃ d,ds[t / 2]? = some d /\ a.go=ins+k+t / 2 /\ ((t % 2=0 /\ a=⟨d.a,ins+k+t / 2,d.s,1⟩) \/ (t % 2=1 /\ a=⟨d.b,ins+k+t / 2,d.t,sgW d.w⟩))
 | [],k,t,a,h=>by
  rw [show arrF ins k []=[] from rfl] at h
  simp at h
 | d :: r,k,t,a,h=>by
  match t,h with
  | 0,h=>cases h; exact ⟨d,rfl,rfl,.inl ⟨rfl,rfl⟩⟩
  | 1,h=>cases h; exact ⟨d,rfl,rfl,.inr ⟨rfl,rfl⟩⟩
  | t+2,h =>
   have h':(arrF ins (k+1) r)[t]? = some a:=h
   obtain ⟨e,e1,e2,e3⟩:=arr_at h'
   have q:(t+2) / 2=t / 2+1:=by omega
   have q2:ins+(k+1)+t / 2=ins+k+(t / 2+1):=by omega
   rw [q]
   rw [q2] at e2 e3
   refine ⟨e,e1,e2,?_⟩
   rcases e3 with ⟨z,e3⟩ | ⟨z,e3⟩
   ·exact .inl ⟨by omega,e3⟩
   ·exact .inr ⟨by omega,e3⟩
inductive Rch (ins:Nat) (ds:List Wd) (gs:List Go):Nat -> Prop
 | root {g:Go}:g ∈ gs -> g.sg ≠ 0 -> Rch ins ds gs g.th
 | fst {k:Nat} {d:Wd}:ds[k]? = some d -> Rch ins ds gs (ins+k) -> Rch ins ds gs d.a
 | snd {k:Nat} {d:Wd}:ds[k]? = some d -> Rch ins ds gs (ins+k) -> Rch ins ds gs d.b
def spSnd:Sp:=fun vs H Q _=>∃ (x:Addr) (d:Wd),vs=[.ref x] /\ H x=some (.tup (wTup d)) /\ Q (.int (sgW d.w)) H
def spDArr:Sp:=fun vs H Q _=>∃ (w dl gl:Addr) (ins:Nat) (us:List V) (ds:List Wd) (os:List V) (gs:List Go),vs=[.ref w] /\ Wb H w dl gl ins us ds os gs /\ ds.length <= 400 /\
 ∀ r ws H',H r=none -> Same H H' -> H' r=some (.lst ws) -> HTs aTup H' ws (arrF ins 0 ds) -> Q (.ref r) H'
theorem ixN_nat {n j:Nat}(h:j < n):ixN n (j:Int)=some j:=by unfold ixN; rw [if_pos (by omega),if_pos (by omega)]; rfl
end L2
set_option Elab.async false
set_option linter.all false
set_option maxRecDepth 100000
set_option maxHeartbeats 1000000
namespace L2
open PySem PySem.Spec
section
variable {H:Hp}{Q:VK}
theorem w_pop {l:Addr}:rPop (.ref l) [] H Q = ∃ xs y,H l=some (.lst xs) /\ xs[xs.length - 1]? = some y /\ Q y (upd H l (.lst xs.dropLast)) :=
 propext ⟨fun ⟨l',xs,y,e,_,h,g,q⟩=>by cases e; exact ⟨xs,y,h,g,q⟩,fun ⟨xs,y,h,g,q⟩=>⟨l,xs,y,rfl,rfl,h,g,q⟩⟩
theorem w_extend {l b:Addr}:rExtend (.ref l) [.ref b] H Q = ∃ xs zs,H l=some (.lst xs) /\ H b=some (.lst zs) /\ xs.length+zs.length <= sizeLine /\ Q .non (upd H l (.lst (xs ++ zs))) :=
 propext ⟨fun ⟨l',b',xs,zs,e,e2,h⟩=>by cases e; cases e2; exact ⟨xs,zs,h⟩,fun ⟨xs,zs,h⟩=>⟨l,b,xs,zs,rfl,rfl,h⟩⟩
theorem w_reverse {l:Addr}:rReverse (.ref l) [] H Q = ∃ xs,H l=some (.lst xs) /\ Q .non (upd H l (.lst xs.reverse)) :=
 propext ⟨fun ⟨l',xs,e,_,h⟩=>by cases e; exact ⟨xs,h⟩,fun ⟨xs,h⟩=>⟨l,xs,rfl,rfl,h⟩⟩
theorem w_clear {l:Addr}:rClear (.ref l) [] H Q = ∃ xs,H l=some (.lst xs) /\ Q .non (upd H l (.lst [])) :=
 propext ⟨fun ⟨l',xs,e,_,h⟩=>by cases e; exact ⟨xs,h⟩,fun ⟨xs,h⟩=>⟨l,xs,rfl,rfl,h⟩⟩
theorem w_cat {l b:Addr}:rCat (.ref l) (.ref b) H Q = ∃ xs zs,H l=some (.lst xs) /\ H b=some (.lst zs) /\ xs.length+zs.length <= sizeLine /\ ∀ p,H p=none -> Q (.ref p) (upd H p (.lst (xs ++ zs))) :=
 propext ⟨fun ⟨l',b',xs,zs,e,e2,h⟩=>by cases e; cases e2; exact ⟨xs,zs,h⟩,fun ⟨xs,zs,h⟩=>⟨l,b,xs,zs,rfl,rfl,h⟩⟩
end
section
variable {X:Cx}
theorem ix_tupK (K:PySem.W.Frag)(h:X.K=K:=by rfl):IxR X (rIxT K):=by subst h; exact ix_tup
end
section
variable {K:PySem.W.Frag}{σ:St}{H:Hp}{Q:VK}{cs:List Nat}{tt:TT}{te:TE}
end
def fr (ms:List Nat):Nat -> Nat
 | 0=>0
 | n+1=>(if n ∈ ms then 0 else 1)+fr ms n
end L2
set_option Elab.async false
set_option linter.all false
set_option maxRecDepth 100000
set_option maxHeartbeats 1000000
namespace L2
open PySem PySem.Spec PyProof.Rows
section
variable {prog:Program}{w:World}{A:Around}{E:Value -> Shared -> Prop}{s:Shared}
end
section
variable {prog:Program}{w:World}{A:Around}{s:Shared}{R:Result -> Shared -> Prop}{xs ys:Array Value}{z TI TO i1 i2 l1 l2 S lo:Addr}
end
section
variable {prog:Program}{w:World}{A:Around}{E:Value -> Shared -> Prop}{s:Shared}{xs ys:Array Value}{z TI TO i1 i2 l1 l2:Addr}
end
def tLZ (K:PySem.W.Frag)(ta:TA):TE:=fun σ H Q=>ta σ H fun vs H1=>∃ a b us ws,vs=[.ref a,.ref b] /\ SqL K H1 a us /\ SqL K H1 b ws /\ ws.length=us.length /\ us.length <= 1000 /\
 ∀ l zs H',H1 l=none -> Same H1 H' -> H' l=some (.lst zs) -> zs.length=us.length -> (∀ (k:Nat) (x y:V),us[k]? = some x -> ws[k]? = some y -> ∃ t:Addr,zs[k]? = some (.ref t) /\ H' t=some (.tup [x,y])) -> Q (.ref l) H'
theorem w_LZ {K:PySem.W.Frag}{ta:TA}{σ:St}{H:Hp}{Q:VK}:tLZ K ta σ H Q=(ta σ H fun vs H1=>∃ a b us ws,vs=[.ref a,.ref b] /\ SqL K H1 a us /\ SqL K H1 b ws /\ ws.length=us.length /\ us.length <= 1000 /\
 ∀ l zs H',H1 l=none -> Same H1 H' -> H' l=some (.lst zs) -> zs.length=us.length -> (∀ (k:Nat) (x y:V),us[k]? = some x -> ws[k]? = some y -> ∃ t:Addr,zs[k]? = some (.ref t) /\ H' t=some (.tup [x,y])) -> Q (.ref l) H'):=rfl
end L2
set_option Elab.async false
set_option linter.all false
set_option maxRecDepth 100000
set_option maxHeartbeats 1000000
namespace L2
open PySem PySem.Spec
def rowD (rs:List (List Int))(d:Wd):List Int:=List.zipWith (fun x y=>mvI d.s x+sgW d.w * mvI d.t y) (rs.getD d.a []) (rs.getD d.b [])
def rowsW (ins:Nat)(ds:List Wd):List (List Int):=ds.foldl (fun rs d=>rs ++ [rowD rs d]) ((List.range ins).map (unitRow ins))
theorem rowsW_snoc (ins:Nat)(ds:List Wd)(d:Wd):rowsW ins (ds ++ [d])=rowsW ins ds ++ [rowD (rowsW ins ds) d]:=by unfold rowsW; rw [List.foldl_append]; rfl
theorem rowsW_len (ins:Nat)(ds:List Wd):(rowsW ins ds).length=ins+ds.length:=by
 refine snoc_ind (p:=fun ds=>(rowsW ins ds).length=ins+ds.length) ?_ (fun xs x ih=>?_) ds
 ·unfold rowsW; simp
 ·rw [rowsW_snoc,qF,ih]; simp; omega
theorem rowsW_pre (ins:Nat)(ds new:List Wd){k:Nat}{r:List Int}(h:(rowsW ins ds)[k]? = some r):(rowsW ins (ds ++ new))[k]? = some r:=by
 refine snoc_ind (p:=fun new=>(rowsW ins (ds ++ new))[k]? = some r) (by rw [List.append_nil]; exact h) (fun xs x ih=>?_) new
 rw [← List.append_assoc,rowsW_snoc,qH (qB.mp ih).1]
 exact ih
theorem getD_of {α:Type}{xs:List α}{k:Nat}{x d:α}(h:xs[k]? = some x):xs.getD k d=x:=by rw [qD,h]; rfl
def Dv (s:Int)(r:List Int):Prop:=s < 0 -> ∀ x ∈ r,(2:Int) ^ (-s).toNat ∣ x
def Sh (s:Int)(r:List Int):Prop:=-40 <= s /\ s <= 40 /\ Dv s r
def ShOk (ins:Nat)(ds:List Wd):Prop:=∀ (k:Nat) (d:Wd),ds[k]? = some d -> d.a < ins+k /\ d.b < ins+k /\ Sh d.s ((rowsW ins ds).getD d.a []) /\ Sh d.t ((rowsW ins ds).getD d.b [])
theorem rows_stay (ins:Nat)(ds:List Wd)(d:Wd){j:Nat}(h:j < ins+ds.length):(rowsW ins (ds ++ [d])).getD j []=(rowsW ins ds).getD j []:=by
 have hj:j < (rowsW ins ds).length:=by rw [rowsW_len]; exact h
 have e:=qA hj
 rw [getD_of e,getD_of (rowsW_pre ins ds [d] e)]
theorem ShOk.snoc {ins:Nat}{ds:List Wd}{d:Wd}(h:ShOk ins ds)(h1:d.a < ins+ds.length)(h2:d.b < ins+ds.length)(h3:Sh d.s ((rowsW ins ds).getD d.a []))(h4:Sh d.t ((rowsW ins ds).getD d.b [])):ShOk ins (ds ++ [d]):=fun k e he=>by
 rcases get_snoc he with ⟨hk,z⟩ | ⟨hk,rfl⟩
 ·obtain ⟨a,b,c,f⟩:=h k e z
  rw [rows_stay ins ds d (by omega),rows_stay ins ds d (by omega)]
  exact ⟨a,b,c,f⟩
 ·rw [rows_stay ins ds _ h1,rows_stay ins ds _ h2,hk]
  exact ⟨h1,h2,h3,h4⟩
def GoOk (ins:Nat)(ds:List Wd)(gs:List Go):Prop:=∀ g ∈ gs,g=⟨0,0,0⟩ \/ ((g.sg=1 \/ g.sg = -1) /\ Sh g.sh ((rowsW ins ds).getD g.th []))
structure FWeb (ins:Nat) (ds:List Wd) (gs:List Go):Prop where
 ok:WebOk ins ds gs
 sh:ShOk ins ds
 go:GoOk ins ds gs
 rb:RB (41 * ds.length) (rowsW ins ds)
 wd:∀ r ∈ rowsW ins ds,r.length=ins
theorem WI.stepL {H:Hp}{p:Addr}{ins:Nat}{tb dl:Addr}{k:Nat}{vs us xs:List V}{rs:List (List Int)}{ds:List Wd}{H' H'':Hp}(h:WI H p ins tb dl k vs us rs ds H')(hp:H' p=some (.lst xs))(C:Chg p H' H''):WI H p ins tb dl k vs us rs ds H'' :=
 { h with tbl:=C _ _ h.tp h.tbl,hrs:=h.hrs.chg (by simp) C,dll:=C _ _ h.dp h.dll,hds:=h.hds.chgL hp C,chg:=h.chg.trans C }
structure FI (H:Hp) (p:Addr) (ins:Nat) (tb dl:Addr) (k:Nat) (vs us:List V) (ds:List Wd) (H':Hp):Prop where
 wi:WI H p ins tb dl k vs us (rowsW ins ds) ds H'
 sh:ShOk ins ds
theorem row_of {H':Hp}{ex:List Addr}{vs:List V}{rs:List (List Int)}(h:HRs H' ex vs rs){j:Nat}(hj:j < rs.length):∃ (l:Addr) (r:List Int),rs[j]? = some r /\ atI vs (j:Int)=some (.ref l) /\ H' l=some (.lst (r.map V.int)) /\ r ∈ rs /\ ∀ e ∈ ex,l ≠ e:=by
 obtain ⟨l,e1,e2,e3⟩:=h.at_ j _ (qA hj)
 exact ⟨l,rs[j],qA hj,atI_nat e1,e2,List.getElem_mem hj,e3⟩
theorem FI.app {H:Hp}{p:Addr}{ins:Nat}{tb dl:Addr}{k:Nat}{vs us:List V}{ds:List Wd}{H' H1 H3:Hp}(h:FI H p ins tb dl k vs us ds H')(hi:ins <= 12){d:Wd}{x:Addr}(s1:Same H' H1)(hx:H1 x=some (.tup (wTup d)))
  (s3:Same (upd H1 dl (.lst (us ++ [.ref x]))) H3) {l:Addr} (hl:H3 l=some (.lst ((rowD (rowsW ins ds) d).map V.int))) (nl:(upd H1 dl (.lst (us ++ [.ref x]))) l=none) (lp:l ≠ p) (h1:d.a < ins+k) (h2:d.b < ins+k) (hw:d.w = "sum" \/ d.w = "less")
  (h3:Sh d.s ((rowsW ins ds).getD d.a [])) (h4:Sh d.t ((rowsW ins ds).getD d.b [])) (hr:(rowD (rowsW ins ds) d).length=ins) (hb:∀ x ∈ rowD (rowsW ins ds) d,x.natAbs <= 2 ^ (41 * (k+1))) :
  FI H p ins tb dl (k+1) (vs ++ [.ref l]) (us ++ [.ref x]) (ds ++ [d]) (upd H3 tb (.lst (vs ++ [.ref l]))):=by
 have wi:=h.wi
 have d1:=s1 _ _ wi.dll
 have t1:=s1 _ _ wi.tbl
 have t2:(upd H1 dl (.lst (us ++ [.ref x]))) tb=some (.lst vs):=by rw [upd_ne wi.td]; exact t1
 have t3:=s3 _ _ t2
 have d3:=s3 dl _ upd_same
 have ltb:l ≠ tb:=(ne_of_none t2 nl).symm
 have ldl:l ≠ dl:=by
  intro z
  rw [z,upd_same] at nl
  cases nl
 have r3:HRs H3 [dl,tb,p] vs (rowsW ins ds):=((wi.hrs.same s1).chg (l:=dl) (by simp) (Chg.upd _)).same s3
 have nx:x ≠ dl:=ne_of hx d1 (by intro z; cases z)
 have hd2:HTs wTup (upd H1 dl (.lst (us ++ [.ref x]))) (us ++ [.ref x]) (ds ++ [d]):=((wi.hds.same s1).chgL d1 (Chg.upd _)).snoc (by rw [upd_ne nx]; exact hx)
 have hd3:=(hd2.same s3).chgL t3 (Chg.upd (.lst (vs ++ [.ref l])))
 have dlen:(ds ++ [d]).length=k+1:=by simp [wi.dlen]
 refine ⟨⟨upd_same,?_,?_,?_,?_,?_,hd3,dlen,fun j e he=>?_,?_,wi.ntb,wi.ndl,wi.tp,wi.dp,wi.td⟩,h.sh.snoc (by rw [wi.dlen]; exact h1) (by rw [wi.dlen]; exact h2) h3 h4⟩
 ·rw [rowsW_snoc]
  refine (r3.chg (l:=tb) (by simp) (Chg.upd _)).snoc (by rw [upd_ne ltb]; exact hl) fun e he=>?_
  simp only [List.mem_cons,List.not_mem_nil,or_false] at he
  rcases he with z | z | z <;> subst z <;> assumption
 ·rw [rowsW_len,dlen]
 ·rw [rowsW_snoc]
  exact wi.rb.snoc (by omega) (by omega) hb
 ·intro q hq
  rw [rowsW_snoc] at hq
  rcases List.mem_append.mp hq with z | z
  ·exact wi.rw_ q z
  ·rw [List.mem_singleton.mp z]; exact hr
 ·rw [upd_ne wi.td.symm]; exact d3
 ·rcases get_snoc he with ⟨hj,z⟩ | ⟨hj,rfl⟩
  ·exact wi.dk j e z
  ·rw [hj,wi.dlen]; exact ⟨h1,h2,hw⟩
 ·exact Chg.updN (((wi.chg.trans s1.chg).updN wi.ndl).trans s3.chg) wi.ntb
theorem rowD_bound {rs:List (List Int)}{d:Wd}{k ins:Nat}(h:RB (41 * k) rs)(hw:∀ r ∈ rs,r.length=ins)(ha:d.a < rs.length)(hb:d.b < rs.length)(s0:-40 <= d.s)(s1:d.s <= 40)(t0:-40 <= d.t)(t1:d.t <= 40) :
  (rowD rs d).length=ins /\ ∀ x ∈ rowD rs d,x.natAbs <= 2 ^ (41 * (k+1)):=by
 have ea:=getD_of (d:=[]) (qA ha)
 have eb:=getD_of (d:=[]) (qA hb)
 have ma:=List.getElem_mem ha
 have mb:=List.getElem_mem hb
 unfold rowD
 rw [ea,eb]
 refine ⟨by rw [List.length_zipWith,hw _ ma,hw _ mb]; omega,fun x hx=>?_⟩
 obtain ⟨i,hi⟩:=List.getElem?_of_mem hx
 rw [List.getElem?_zipWith] at hi
 cases h1:rs[d.a][i]? with
 | none=>rw [h1] at hi; cases hi
 | some u =>
  cases h2:rs[d.b][i]? with
  | none=>rw [h1,h2] at hi; cases hi
  | some v =>
   rw [h1,h2] at hi
   cases hi
   have b1:=mvI_bound s0 s1 ((h _ ma).2 u (qE h1))
   have b2:=mvI_bound t0 t1 ((h _ mb).2 v (qE h2))
   have pw:2 ^ (41 * (k+1))=2 ^ (41 * k+40)+2 ^ (41 * k+40):=by
    rw [show 41 * (k+1)=41 * k+40+1 by omega,Nat.pow_succ]; omega
   rw [pw]
   have hg:sgW d.w=1 \/ sgW d.w = -1:=by
    unfold sgW
    split
    ·exact .inr rfl
    ·exact .inl rfl
   have:=abs_le_of (g:=1) (h:=sgW d.w) (.inl rfl) hg b1 b2
   rw [Int.one_mul] at this
   exact this
section
variable {K:PySem.W.Frag}{σ:St}{H:Hp}{Q:VK}{cs:List Nat}{te:TE}
end
theorem mvI_up {s n:Int}(h:0 <= s):mvI s n=n * 2 ^ s.toNat:=by
 unfold mvI
 rw [if_neg (by omega)]
 by_cases z:0 > 0 - s
 ·rw [if_pos z]; simp
 ·rw [if_neg z,show s=0 by omega]; simp
theorem mvI_down {s n:Int}(h:s < 0):mvI s n=n / 2 ^ (-s).toNat:=by
 unfold mvI
 rw [if_pos (by omega),if_neg (by omega),show (0 - s) = -s by omega]
 simp
structure FG (H:Hp) (p:Addr) (ins:Nat) (tb dl gl:Addr) (k:Nat) (vs us os:List V) (ds:List Wd) (gs:List Go) (H':Hp):Prop where
 wg:WG H p ins tb dl gl k vs us os (rowsW ins ds) ds gs H'
 sh:ShOk ins ds
 go:GoOk ins ds gs
theorem FG.app {H:Hp}{p:Addr}{ins:Nat}{tb dl gl:Addr}{k:Nat}{vs us os:List V}{ds:List Wd}{gs:List Go}{H':Hp}(h:FG H p ins tb dl gl k vs us os ds gs H'){x:Addr}{g:Go}
  (hx:H' x=some (.tup (gTp g))) (hg:g.th < ins+k) (hs:g=⟨0,0,0⟩ \/ ((g.sg=1 \/ g.sg = -1) /\ Sh g.sh ((rowsW ins ds).getD g.th []))):FG H p ins tb dl gl k vs us (os ++ [.ref x]) ds (gs ++ [g]) (upd H' gl (.lst (os ++ [.ref x]))):=by
 refine ⟨h.wg.app hx hg,h.sh,fun e he=>?_⟩
 rcases List.mem_append.mp he with z | z
 ·exact h.go e z
 ·rw [List.mem_singleton.mp z]; exact hs
end L2
set_option Elab.async false
set_option linter.all false
set_option maxRecDepth 100000
set_option maxHeartbeats 1000000
namespace L2
open PySem PySem.Spec
def iT (r:List Int):List V:=r.map V.int
theorem shV_mv {n s:Int}{r:List Int}(hn:n ∈ r)(h:Dv s r):shV n s = .int (mvI s n):=by
 unfold shV
 by_cases z:0 <= s
 ·rw [if_pos z,mvI_up z]
 ·rw [if_neg z,mvI_down (by omega),if_pos (ediv_iff.mpr (h (by omega) n hn))]
def shRV (s:Int):V -> Option V:=fun x=>match x with
 | .int n=>some (shV n s)
 | _=>none
theorem shRV_map {s:Int}{r:List Int}(h:Dv s r):(r.map V.int).filterMap (shRV s)=(r.map (mvI s)).map V.int:=by
 rw [List.filterMap_map,List.map_map]
 have e:(r.filterMap (shRV s ∘ V.int))=r.map fun n=>shV n s:=filterMap_some (fun n=>shV n s) r
 rw [e]
 exact List.map_congr_left fun x hx=>shV_mv hx h
section
variable {K:PySem.W.Frag}{σ:St}{H:Hp}{Q:VK}{cs:List Nat}{te:TE}
theorem comp_tups {J:It}{α:Type}{f:α -> List V}{xs:List V}(zs:List α)(hzl:zs.length=xs.length)(hz:xs.length <= 1000)
  (hJ:∀ H',Same H H' -> (∀ i,i < xs.length -> J.go i H') /\ (∀ i x H2,J.yld i H' x H2 -> H2=H' /\ (i < xs.length -> xs[i]? = some x)) /\ J.stop xs.length H')
  (hb:∀ (i:Nat) x z H' (R:VK),xs[i]? = some x -> zs[i]? = some z -> Same H H' -> (∀ r H5,H' r=none -> Same H' H5 -> H5 r=some (.tup (f z)) -> R (.ref r) H5) -> te (some x :: capV cs σ) H' R)
  (hd:∀ acc ys H',H acc=none -> Same H H' -> H' acc=some (.lst ys) -> HTs f H' ys zs -> Q (.ref acc) H') :
  CompIt J 1 cs (gName 0) tYes te σ H Q:=by
 refine comp_any xs.length (fun acc i ws H'=>Same H H' /\ H' acc=some (.lst ws) /\ HTs f H' ws (zs.take i)) (le_size hz) ?_ ?_ ?_ ?_ ?_ ?_
 ·rintro acc i ws H' hi ⟨s,_,_⟩
  exact (hJ _ s).1 i hi
 ·rintro acc ws H' ⟨s,_,_⟩
  exact (hJ _ s).2.2
 ·intro acc ha
  exact ⟨same_new ha _,upd_same,hts_nil⟩
 ·rintro acc i ws H' ⟨s,ha,ht⟩
  exact ⟨ha,by rw [ht.len,qO]; omega⟩
 ·rintro acc i ws H' ts v H2 N hn hi ⟨s,ha,ht⟩ y hts hN
  obtain ⟨e,hx⟩:=(hJ _ s).2.1 i v H2 y
  have hx:=hx hi
  subst e
  obtain ⟨t0,rfl⟩:∃ t0,ts=[t0]:=by
   match ts,hts with
   | [a],_=>exact ⟨a,rfl⟩
  have hz':zs[i]? = some (zs[i]'(by omega)):=qA _
  generalize (zs[i]'(by omega))=z at hz'
  rw [w_gName,w_yes,if_pos rfl]
  refine hb i v z _ _ hx hz' s fun r H5 hr s5 h5=>?_
  have ha5:=s5 _ _ ha
  refine ⟨ha5,hN _ [_] _ rfl ⟨same_upd hn (s.trans s5),upd_same,?_⟩⟩
  have tk:zs.take (i+1)=zs.take i ++ [z]:=by rw [List.take_add_one,hz']; rfl
  rw [tk]
  exact ((ht.same s5).chgL ha5 (Chg.upd _)).snoc (by rw [upd_ne (ne_of h5 ha5 (by intro z; cases z))]; exact h5)
 ·rintro acc ws H' hn ⟨s,ha,ht⟩
  rw [List.take_of_length_le (by omega)] at ht
  exact hd acc ws H' hn s ha ht
theorem it_R {n:Nat}{H':Hp}:(∀ i,i < (rngV 0 n).length -> (Itr 0 n).go i H') /\ (∀ i x H2,(Itr 0 n).yld i H' x H2 -> H2=H' /\ (i < (rngV 0 n).length -> (rngV 0 n)[i]? = some x)) /\ (Itr 0 n).stop (rngV 0 n).length H':=by
 rw [rngV_len]
 exact ⟨fun i hi=>hi,fun i x H2 y=>⟨y.1,fun hi=>by rw [rngV_get hi,y.2]⟩,Nat.le_refl _⟩
theorem it_Ls {K:PySem.W.Frag}{a:Addr}{xs:List V}{H:Hp}(h:SqL K H a xs){H':Hp}(s:Same H H'):(∀ i,i < xs.length -> (Itl K a).go i H') /\ (∀ i x H2,(Itl K a).yld i H' x H2 -> H2=H' /\ (i < xs.length -> xs[i]? = some x)) /\ (Itl K a).stop xs.length H':=by
 have h':=s.seq h
 exact ⟨fun i hi=>⟨xs,xs[i],h',by simp [hi]⟩,fun i x H2 y=>⟨y.1,fun _=>y.2 xs h'⟩,⟨xs,h',Nat.le_refl _⟩⟩
end
def spShRow:Sp:=fun vs H Q _=>∃ (l:Addr) (s:Int) (xs:List Int),vs=[.ref l,.int s] /\ H l=some (.tup (iT xs)) /\ xs.length <= 100 /\ (∀ x ∈ xs,x.natAbs < 2 ^ 9000) /\ Sh s xs /\
 ∀ r H',H r=none -> Same H H' -> H' r=some (.lst ((xs.map (mvI s)).map V.int)) -> Q (.ref r) H'
def spInRow:Sp:=fun vs H Q _=>∃ (n i:Nat),vs=[.int n,.int i] /\ n <= 100 /\ ∀ r H',H r=none -> Same H H' -> H' r=some (.tup (iT (unitRow n i))) -> Q (.ref r) H'
def spInRows:Sp:=fun vs H Q _=>∃ (n:Nat),vs=[.int n] /\ n <= 100 /\ ∀ r ys H',H r=none -> Same H H' -> H' r=some (.lst ys) -> HTs iT H' ys ((List.range n).map (unitRow n)) -> Q (.ref r) H'
def spDRow:Sp:=fun vs H Q _=>∃ (x l:Addr) (d:Wd) (ys:List V) (rs:List (List Int)) (ins b:Nat),vs=[.ref x,.ref l] /\ H x=some (.tup (wTup d)) /\ H l=some (.lst ys) /\ HTs iT H ys rs /\ d.a < rs.length /\ d.b < rs.length /\ Sh d.s (rs.getD d.a []) /\ Sh d.t (rs.getD d.b []) /\ (∀ r ∈ rs,r.length=ins) /\ ins <= 12 /\ RB b rs /\ b <= 8000 /\
 ∀ r H',H r=none -> Same H H' -> H' r=some (.tup (iT (rowD rs d))) -> Q (.ref r) H'
def spNums:Sp:=fun vs H Q _=>∃ (w dl gl:Addr) (ins:Nat) (us:List V) (ds:List Wd) (os:List V) (gs:List Go),vs=[.ref w] /\ Wb H w dl gl ins us ds os gs /\ FWeb ins ds gs /\
 ∀ r ys H',H r=none -> Same H H' -> H' r=some (.lst ys) -> HTs iT H' ys (rowsW ins ds) -> Q (.ref r) H'
def outR (rs:List (List Int))(g:Go):List Int:=(rs.getD g.th []).map fun x=>g.sg * mvI g.sh x
def spORow:Sp:=fun vs H Q _=>∃ (x l:Addr) (g:Go) (ys:List V) (rs:List (List Int)) (ins b:Nat),vs=[.ref x,.ref l] /\ H x=some (.tup (gTp g)) /\ H l=some (.lst ys) /\ HTs iT H ys rs /\ g.th < rs.length /\ Sh g.sh (rs.getD g.th []) /\ (g.sg=0 \/ g.sg=1 \/ g.sg = -1) /\ (∀ r ∈ rs,r.length=ins) /\ ins <= 12 /\ RB b rs /\ b <= 8000 /\
 ∀ r H',H r=none -> Same H H' -> H' r=some (.tup (iT (outR rs g))) -> Q (.ref r) H'
def spONums:Sp:=fun vs H Q _=>∃ (w dl gl:Addr) (ins:Nat) (us:List V) (ds:List Wd) (os:List V) (gs:List Go),vs=[.ref w] /\ Wb H w dl gl ins us ds os gs /\ FWeb ins ds gs /\
 ∀ r ys H',H r=none -> Same H H' -> H' r=some (.lst ys) -> HTs iT H' ys (gs.map (outR (rowsW ins ds))) -> Q (.ref r) H'
theorem tup_of {H':Hp}{ys:List V}{rs:List (List Int)}(h:HTs iT H' ys rs){j:Nat}(hj:j < rs.length):∃ (l:Addr),atI ys (j:Int)=some (.ref l) /\ H' l=some (.tup (iT (rs.getD j []))) /\ rs.getD j [] ∈ rs:=by
 obtain ⟨l,e1,e2⟩:=h.at_ j _ (qA hj)
 rw [getD_of (qA hj)]
 exact ⟨l,atI_nat e1,e2,List.getElem_mem hj⟩
theorem RB.lt {b:Nat}{rs:List (List Int)}{r:List Int}(h:RB b rs)(hr:r ∈ rs)(hb:b <= 8000):∀ x ∈ r,x.natAbs < 2 ^ 9000:=fun x hx=>Nat.lt_of_le_of_lt ((h r hr).2 x hx) (Nat.pow_lt_pow_right (by decide) (by omega))
theorem rowsW_take {ins:Nat}{ds:List Wd}{i:Nat}{d:Wd}(hd:ds[i]? = some d):rowsW ins (ds.take (i+1))=rowsW ins (ds.take i) ++ [rowD (rowsW ins (ds.take i)) d]:=by
 rw [List.take_add_one,hd]
 exact rowsW_snoc _ _ _
theorem rowsW_takeD {ins:Nat}{ds:List Wd}{i j:Nat}(hi:i <= ds.length)(hj:j < ins+i):(rowsW ins (ds.take i)).getD j []=(rowsW ins ds).getD j []:=by
 have hl:j < (rowsW ins (ds.take i)).length:=by rw [rowsW_len,qO]; omega
 have e:=qA hl
 have e2:=rowsW_pre ins (ds.take i) (ds.drop i) e
 rw [List.take_append_drop] at e2
 rw [getD_of e,getD_of e2]
theorem rowsW_sub {ins:Nat}{ds:List Wd}{i:Nat}:∀ r ∈ rowsW ins (ds.take i),r ∈ rowsW ins ds:=fun r hr=>by
 obtain ⟨k,hk⟩:=List.getElem?_of_mem hr
 have:=rowsW_pre ins (ds.take i) (ds.drop i) hk
 rw [List.take_append_drop] at this
 exact qE this
end L2
set_option Elab.async false
set_option linter.all false
set_option maxRecDepth 100000
set_option maxHeartbeats 1000000
namespace L2
open PySem PySem.Spec
theorem cut_take {xs:List V}{n:Nat}:cutV xs none (some (n:Int))=xs.take n:=by
 unfold cutV
 rw [HT.sIx_none,List.drop_zero,Nat.sub_zero,HT.sIx_nat]
 by_cases hk:n <= xs.length
 ·rw [Nat.min_eq_left hk]
 ·rw [Nat.min_eq_right (by omega),List.take_length,List.take_of_length_le (by omega)]
theorem rowsW_zero (ins:Nat)(ds:List Wd):(rowsW ins ds).take ins=rowsW ins []:=by
 refine snoc_ind (p:=fun ds=>(rowsW ins ds).take ins=rowsW ins []) ?_ (fun xs x ih=>?_) ds
 ·exact List.take_of_length_le (by rw [rowsW_len]; simp)
 ·rw [rowsW_snoc,List.take_append_of_le_length (by rw [rowsW_len]; omega)]
  exact ih
theorem mvI_zero (x:Int):mvI 0 x=x:=by rw [mvI_up (by decide)]; simp
theorem rowsW_unit {ins:Nat}{ds:List Wd}{i:Nat}(hi:i < ins):(rowsW ins ds).getD i []=unitRow ins i:=by
 have e:((rowsW ins ds).take ins)[i]? = some (unitRow ins i):=by
  rw [rowsW_zero]
  show ((List.range ins).map (unitRow ins))[i]? = _
  rw [qI,List.getElem?_range hi]
  rfl
 rw [List.getElem?_take_of_lt hi] at e
 exact getD_of e
end L2
set_option Elab.async false
set_option linter.all false
set_option maxRecDepth 100000
set_option maxHeartbeats 1000000
namespace L2
open PySem PySem.Spec
section
variable {α:Type}{f:α -> List V}{K:PySem.W.Frag}{H:Hp}{l l':Addr}{ys ys':List V}{xs:List α}{Q:VK}
end
def oarr (n:Nat):Nat -> List Go -> List Ar
 | _,[]=>[]
 | j,g :: r=>(if g.sg=0 then [] else [⟨g.th,n+j,g.sh,g.sg⟩]) ++ oarr n (j+1) r
theorem oarr_app (n:Nat):∀ (xs ys:List Go) (j:Nat),oarr n j (xs ++ ys)=oarr n j xs ++ oarr n (j+xs.length) ys
 | [],ys,j=>rfl
 | g :: r,ys,j=>by
  show (if g.sg=0 then [] else [_]) ++ oarr n (j+1) (r ++ ys)=((if g.sg=0 then [] else [_]) ++ oarr n (j+1) r) ++ _
  rw [oarr_app n r ys (j+1),List.append_assoc,show j+1+r.length=j+(g :: r).length by simp; omega]
theorem oarr_len (n:Nat):∀ (xs:List Go) (j:Nat),(oarr n j xs).length <= xs.length
 | [],_=>Nat.le_refl _
 | g :: r,j=>by
  show ((if g.sg=0 then [] else [_]) ++ oarr n (j+1) r).length <= _
  have:=oarr_len n r (j+1)
  rw [qF]
  split <;> simp <;> omega
theorem oarr_mem {n:Nat}:∀ {xs:List Go} {j:Nat} {a:Ar},a ∈ oarr n j xs -> ∃ (k:Nat) (g:Go),xs[k]? = some g /\ g.sg ≠ 0 /\ a=⟨g.th,n+(j+k),g.sh,g.sg⟩
 | [],j,a,h=>by cases h
 | g :: r,j,a,h=>by
  rcases List.mem_append.mp (show a ∈ (if g.sg=0 then [] else [_]) ++ oarr n (j+1) r from h) with z | z
  ·by_cases e:g.sg=0
   ·rw [if_pos e] at z; cases z
   ·rw [if_neg e] at z
    exact ⟨0,g,rfl,e,List.mem_singleton.mp z⟩
  ·obtain ⟨k,g',h1,h2,h3⟩:=oarr_mem z
   exact ⟨k+1,g',h1,h2,by rw [h3,show j+1+k=j+(k+1) by omega]⟩
def allA (ins:Nat)(ds:List Wd)(gs:List Go):List Ar:=arrF ins 0 ds ++ oarr (ins+ds.length) 0 gs
theorem allA_len {ins:Nat}{ds:List Wd}{gs:List Go}(ok:WebOk ins ds gs):(allA ins ds gs).length <= 132:=by
 unfold allA
 rw [qF,arrF_len]
 have:=oarr_len (ins+ds.length) gs 0
 have:=ok.dl
 have:=ok.gl
 omega
theorem HTs.app {α:Type}{f:α -> List V}{H:Hp}{vs us:List V}{xs ys:List α}(h:HTs f H vs xs)(h':HTs f H us ys):HTs f H (vs ++ us) (xs ++ ys):=by
 refine ⟨by rw [qF,qF,h.len,h'.len],fun k x hx=>?_⟩
 by_cases hk:k < xs.length
 ·rw [qH hk] at hx
  rw [qH (by rw [h.len]; exact hk)]
  exact h.at_ k x hx
 ·rw [qG (by omega)] at hx
  rw [qG (by rw [h.len]; omega),h.len]
  exact h'.at_ _ x hx
end L2
set_option Elab.async false
set_option linter.all false
set_option maxRecDepth 100000
set_option maxHeartbeats 1000000
namespace L2
open PySem PySem.Spec PyProof.Rows
def tLR (ta:TA):TE:=fun σ H Q=>ta σ H fun vs H1=>∃ j:Nat,vs=[.int (j:Int)] /\ j <= 1000 /\ ∀ l H',H1 l=none -> Same H1 H' -> H' l=some (.lst (rngV 0 j)) -> Q (.ref l) H'
theorem w_LR {ta:TA}{σ:St}{H:Hp}{Q:VK}:tLR ta σ H Q=(ta σ H fun vs H1=>∃ j:Nat,vs=[.int (j:Int)] /\ j <= 1000 /\ ∀ l H',H1 l=none -> Same H1 H' -> H' l=some (.lst (rngV 0 j)) -> Q (.ref l) H'):=rfl
def iRngD (ta:TA):TI:=fun σ H R=>ta σ H fun vs H1=>∃ i:Int,vs=[.int i,.int (-1),.int (-1)] /\ (-1 <= i /\ i < 2 ^ 31) /\ R (Itr3 i (-1) (i+1).toNat) H1
theorem w_forD {σ:St}{H:Hp}{D:Ends}{g:TG}{tb:TS}{ta:TA}:tFor (iRngD ta) g tb D σ H=(ta σ H fun vs H1=>∃ i:Int,vs=[.int i,.int (-1),.int (-1)] /\ (-1 <= i /\ i < 2 ^ 31) /\ ForR3 i (-1) (i+1).toNat g tb D σ H1):=rfl
section
variable {K:PySem.W.Frag}{σ:St}{H:Hp}{Q:VK}{cs:List Nat}{te:TE}
end
end L2
set_option Elab.async false
set_option linter.all false
set_option maxRecDepth 100000
set_option maxHeartbeats 1000000
namespace L2
open PySem PySem.Spec PyProof.Rows
section
variable {prog:Program}{w:World}{A:Around}{E:Value -> Shared -> Prop}{s:Shared}
def TI2 (h:Heap)(it t:Addr)(items:Array Value)(i:Nat):Prop:=h.IsTupleIter it t i /\ h.IsTuple t items
theorem TI2.at {h h':Heap}{it t:Addr}{items:Array Value}{i:Nat}(x:TI2 h it t items i)(k1:∀ o,h.get? it=some o -> h'.get? it=some o)(k2:∀ o,h.get? t=some o -> h'.get? t=some o):TI2 h' it t items i:=by
 obtain ⟨⟨o,e,r⟩,⟨o2,e2,r2⟩⟩:=x
 exact ⟨⟨o,k1 o e,r⟩,⟨o2,k2 o2 e2,r2⟩⟩
theorem TI2.but {h h':Heap}{it t c:Addr}{items:Array Value}{i:Nat}(x:TI2 h it t items i)(b:Heap.ExtBut c h h')(n1:it ≠ c)(n2:t ≠ c):TI2 h' it t items i :=
 x.at (fun o e=>b _ o n1 e) (fun o e=>b _ o n2 e)
theorem nextT_item {it t:Addr}{i:Nat}{items:Array Value}{x:Value}{Q:Value -> Shared -> Prop}(hi:TI2 s.heap it t items i)(ne:t ≠ it)(hx:items[i]? = some x)
  (hQ:∀ h',TI2 h' it t items (i+1) -> Heap.SameBut it s.heap h' -> Q x { s with heap:=h' }):wpAny (model prog w) A (Builtin.SmallTypes.nextOf (.ref it)) Q E s:=by
 obtain ⟨hit,ht⟩:=hi
 obtain ⟨o,ho,hc,hd⟩:=id hit
 obtain ⟨ol,hol,_,nl,hdl⟩:=id ht
 unfold Builtin.SmallTypes.nextOf
 refine wpAny_bind (wpAny_callSpecial?_slot (name:=Str.ofString "__next__") hit.typeIs F.slot_tuple_iterator_next (wpAny_call_entry F.slot_tuple_iterator_next hit.typeIs F.entry_tuple_iterator_next ?_ (F.args_tuple_iterator_next_1 _)))
 show wpAny _ _ (field (.ref it) 0 >>= _) _ _ s
 refine wpAny_bind (wpAny_field ho hd (x:=.ref t) rfl ?_)
 show wpAny _ _ (if (Value.ref t == Value.none)=true then _ else _) _ _ s
 rw [if_neg (show ¬ ((Value.ref t == Value.none)=true) from Bool.false_ne_true)]
 show wpAny _ _ (field (.ref it) 1 >>= _) _ _ s
 refine wpAny_bind (wpAny_field ho hd (x:=.int i 0) rfl ?_)
 show wpAny _ _ (seqItems? (.ref t) >>= _) _ _ s
 refine wpAny_bind (wpAny_seqItems hol hdl ?_)
 simp only [Int.toNat_natCast,hx]
 refine wpAny_bind (wpAny_setField ho hd (by simp) (wpAny_pure ⟨x,rfl,wpAny_pure (hQ _ ⟨?_,ht.extBut (Heap.SameBut.update ..).extBut ne⟩ (Heap.SameBut.update ..))⟩))
 exact ⟨_,Heap.get?_update_self _ ho (Obj.isFreed_of_fields (Obj.data_mapFields hd _)),(Obj.cls_mapFields ..).trans hc,by rw [Obj.data_mapFields hd]; simp [rawInt]⟩
theorem nextT_end {it t:Addr}{i:Nat}{items:Array Value}{Q:Value -> Shared -> Prop}(hh:A.handled=none)(hi:TI2 s.heap it t items i)(hx:items[i]? = none)
  (hE:∀ h' e,Heap.ExtBut it s.heap h' -> (∃ o,h'.get? e=some o /\ o.cls = .type "StopIteration") -> E (.ref e) { s with heap:=h' }):wpAny (model prog w) A (Builtin.SmallTypes.nextOf (.ref it)) Q E s:=by
 obtain ⟨hit,ht⟩:=hi
 obtain ⟨o,ho,hc,hd⟩:=id hit
 obtain ⟨ol,hol,_,nl,hdl⟩:=id ht
 unfold Builtin.SmallTypes.nextOf
 refine wpAny_bind (wpAny_callSpecial?_slot (name:=Str.ofString "__next__") hit.typeIs F.slot_tuple_iterator_next (wpAny_call_entry F.slot_tuple_iterator_next hit.typeIs F.entry_tuple_iterator_next ?_ (F.args_tuple_iterator_next_1 _)))
 show wpAny _ _ (field (.ref it) 0 >>= _) _ _ s
 refine wpAny_bind (wpAny_field ho hd (x:=.ref t) rfl ?_)
 show wpAny _ _ (if (Value.ref t == Value.none)=true then _ else _) _ _ s
 rw [if_neg (show ¬ ((Value.ref t == Value.none)=true) from Bool.false_ne_true)]
 show wpAny _ _ (field (.ref it) 1 >>= _) _ _ s
 refine wpAny_bind (wpAny_field ho hd (x:=.int i 0) rfl ?_)
 show wpAny _ _ (seqItems? (.ref t) >>= _) _ _ s
 refine wpAny_bind (wpAny_seqItems hol hdl ?_)
 simp only [Int.toNat_natCast,hx]
 refine wpAny_bind (wpAny_rule (wpAny_bind (wpAny_setField ho hd (by simp) ?_)))
 show wpAny _ _ (newExc (.type "StopIteration") [] >>= _) _ _ _
 refine wpAny_bind ?_
 simp only [newExc,newTuple]
 refine wpAny_bind (wpAny_newObj_type ?_ (by size_fits))
 refine wpAny_bind (m:=firstArgMember _ _) (wpAny_of_eq (a:=Value.none) (by first | rfl | (simp only [firstArgMember]; rfl)) ?_)
 refine wpAny_newObj_type ?_ (by size_fits)
 simp only [raiseNew]
 refine wpAny_bind (wpAny_handled ?_)
 first | rw [show A.in1.handled=none from hh] | rw [hh]
 refine wpAny_bind (wpAny_pure (wpAny_throw ?_))
 exact hE _ _ (((Heap.SameBut.update ..).extBut.push _).push _) ⟨_,Heap.get?_push_size _ rfl,rfl⟩
end
section
variable {prog:Program}{w:World}{A:Around}{E:Value -> Shared -> Prop}{s:Shared}
theorem gps {h:Heap}{o:Obj}{n:Nat}(e:h.objs.size=n)(hf:(h.push o).get? h.objs.size=some o):(h.push o).get? n=some o:=e ▸ hf
end
def Itzt (K : PySem.W.Frag)(a b : Addr) : It :=
  ⟨fun i H => ∃ xs ys, SqT K H a xs ∧ SqT K H b ys ∧ i < xs.length ∧ i < ys.length,
   fun i H x H' => ∃ T u v, x = .ref T ∧ H T = none ∧ H' = upd H T (.tup [u, v]) ∧ (∀ xs, SqT K H a xs → xs[i]? = some u) ∧ (∀ ys, SqT K H b ys → ys[i]? = some v),
   fun i H => ∃ xs ys, SqT K H a xs ∧ SqT K H b ys ∧ (xs.length ≤ i ∨ ys.length ≤ i)⟩
theorem ti_at {h h':Heap}{a t:Addr}{i:Nat}(x:h.IsTupleIter a t i)(k:∀ o,h.get? a=some o -> h'.get? a=some o):h'.IsTupleIter a t i :=
 let ⟨o,ho,r⟩:=x; ⟨o,k o ho,r⟩
def iZip2 (K:PySem.W.Frag)(ta:TA):TI:=fun σ H R=>ta σ H fun vs H1=>∃ a b xs ys,vs=[.ref a,.ref b] /\ ((SqL K H1 a xs /\ SqL K H1 b ys /\ R (Itz K a b) H1) \/ (SqT K H1 a xs /\ SqT K H1 b ys /\ R (Itzt K a b) H1))
theorem w_compZ2 {K:PySem.W.Frag}{σ:St}{H:Hp}{Q:VK}{ta:TA}{nt:Nat}{cs:List Nat}{g:TG}{tt:TT}{te:TE}:tComp (iZip2 K ta) nt cs g tt te σ H Q=(ta σ H fun vs H1=>∃ a b xs ys,vs=[.ref a,.ref b] /\ ((SqL K H1 a xs /\ SqL K H1 b ys /\ CompIt (Itz K a b) nt cs g tt te σ H1 Q) \/ (SqT K H1 a xs /\ SqT K H1 b ys /\ CompIt (Itzt K a b) nt cs g tt te σ H1 Q))):=rfl
end L2
set_option Elab.async false
set_option linter.all false
set_option maxRecDepth 100000
set_option maxHeartbeats 1000000
namespace L2
open PySem PySem.Spec PyProof.Rows
structure Gt (ins:Nat) (ds:List Wd) (gs:List Go) (i:Nat) (ms:List Nat):Prop where
 sd:∀ x ∈ ms,Rch ins ds gs x
 rt:∀ g ∈ gs,g.sg ≠ 0 -> g.th ∈ ms
 cl:∀ k d,ds[k]? = some d -> ds.length <= k+i -> ins+k ∈ ms -> d.a ∈ ms /\ d.b ∈ ms
 ln:ms.length <= gs.length+2 * i
def kp (bs:List Bool)(ins j:Nat):Prop:=j < ins \/ bs[j]? = some true
instance (bs:List Bool) (ins j:Nat):Decidable (kp bs ins j):=by unfold kp; infer_instance
section
variable {ins:Nat}{ds:List Wd}{gs:List Go}{bs:List Bool}
end
section
variable {K:PySem.W.Frag}{σ:St}{H:Hp}{Q:VK}{cs:List Nat}{te:TE}
end
end L2
set_option Elab.async false
set_option linter.all false
set_option maxRecDepth 100000
set_option maxHeartbeats 1000000
namespace L2
open PySem PySem.Spec PyProof.Rows
def TrX (h:Heap)(e:Addr)(C:Value)(d:Option Addr)(T:Addr):Prop :=
 ∃ oe vs oT ts,h.get? e=some oe /\ oe.cls=C /\ oe.dict=d /\ oe.data = .fields vs /\ vs[1]? = some (.ref T) /\ T ≠ e /\ h.get? T=some oT /\ oT.data = .fields ts /\ ts[3]? = some .none
section
variable {M:Model}{A:Around}{E:Value -> Shared -> Prop}{s:Shared}{base:Heap}{env:Env}{outer:List Env}{L e:Addr}{oe:Obj}{vs:Array Value}{Q:Unit -> Shared -> Prop}
end
section
variable {P:Program}{w:World}{K:PySem.W.Frag}{mg:Str -> Option Value}{base:Heap}{N:List Str}{qual:Str}{scope:Scope}{f:Addr}{cd:Value}{A:Around}{outer:List Env}{s:Shared}{H:Hp}{E:XK}
end
section
variable {X:Cx}{k:Nat}{x:Str}{ps:List Str}{sp:Sp}{e:Expr}{es:List Expr}{t:TA}{p pos:Pos}{E:XK}
end
section
variable {P:Program}{w:World}{K:PySem.W.Frag}{mg:Str -> Option Value}{base:Heap}
end
end L2
set_option Elab.async false
set_option linter.all false
set_option maxRecDepth 100000
set_option maxHeartbeats 1000000
namespace L2
open PySem PySem.Spec PyProof.Rows
section
variable {M:Model}{A:Around}{E:Value -> Shared -> Prop}
end
end L2
set_option Elab.async false
set_option linter.all false
set_option maxRecDepth 100000
set_option maxHeartbeats 1000000
namespace L2
open PySem PySem.Spec PyProof.Rows
def XP (X:Cx)(pins:List (Addr × Obj))(σ:St)(E:XK)(e:Value)(s':Shared):Prop:=∃ (x T:Addr) (C:Value) (d:Option Addr) (H':Hp),e = .ref x /\ Inv X pins σ H' s' /\ TrX s'.heap x C d T /\
 (X.s₀.heap.get? x=none /\ X.s₀.heap.get? T=none) /\ (∀ p ∈ X.pn ++ pins,p.1 ≠ x /\ p.1 ≠ T) /\ H' x=none /\ H' T=none /\ E C d H'
end L2
set_option Elab.async false
set_option linter.all false
set_option maxRecDepth 100000
set_option maxHeartbeats 1000000
namespace L2
open PySem PySem.Spec PyProof.Rows
end L2
set_option Elab.async false
set_option linter.all false
set_option maxRecDepth 100000
set_option maxHeartbeats 1000000
namespace L2
open PySem PySem.Spec PyProof.Rows
section
variable {prog:Program}{w:World}{A:Around}{E:Value -> Shared -> Prop}{s:Shared}{K:PySem.W.Frag}{x D:Addr}{o:Obj}
end
end L2
set_option Elab.async false
set_option linter.all false
set_option maxRecDepth 100000
set_option maxHeartbeats 1000000
namespace L2
open PySem PySem.Spec PyProof.Rows
end L2
set_option Elab.async false
set_option linter.all false
set_option maxRecDepth 100000
set_option maxHeartbeats 1000000
namespace L2
open PySem PySem.Spec
def PPen (H:Hp)(p a:Addr)(c:Int):Prop:=∃ t l:Int,H p=some (.lst [.int l,.int t,.ref a]) /\ 0 <= t /\ t <= c /\ 0 <= l
theorem PPen.mono {H:Hp}{p a:Addr}{c d:Int}(h:PPen H p a c)(l:c <= d):PPen H p a d:=by
 obtain ⟨t,x,e,h0,h1,h2⟩:=h
 exact ⟨t,x,e,h0,by omega,h2⟩
theorem PPen.same {H H':Hp}{p a:Addr}{c:Int}(h:PPen H p a c)(s:Same H H'):PPen H' p a c:=by
 obtain ⟨t,x,e,r⟩:=h
 exact ⟨t,x,s _ _ e,r⟩
theorem PPen.lst {H:Hp}{p a:Addr}{c:Int}(h:PPen H p a c):∃ xs,H p=some (.lst xs):=by
 obtain ⟨t,x,e,r⟩:=h
 exact ⟨_,e⟩
theorem PPen.ne {H:Hp}{p a q:Addr}{c:Int}(h:PPen H p a c)(hq:H q=none):q ≠ p:=by
 obtain ⟨xs,h⟩:=h.lst
 exact (ne_of_none h hq).symm
theorem PPen.chg {H H':Hp}{p a q:Addr}{c:Int}(h:PPen H p a c)(n:p ≠ q)(s:Chg q H H'):PPen H' p a c:=by
 obtain ⟨t,x,e,r⟩:=h
 exact ⟨t,x,s _ _ n e,r⟩
theorem ppen_of {H:Hp}{p a:Addr}{t l c:Int}(h0:0 <= t)(h1:t <= c)(h2:0 <= l):PPen (upd H p (.lst [.int l,.int t,.ref a])) p a c:=⟨t,l,upd_same,h0,h1,h2⟩
theorem Scr.ppen {K:PySem.W.Frag}{H H':Hp}{p a:Addr}{c:Int}{ns:List Int}(h:Scr K H a ns)(hp:PPen H p a c)(s:Chg p H H'):Scr K H' a ns:=by
 obtain ⟨xs,e⟩:=hp.lst
 exact h.chg e s
def spPPen (K:PySem.W.Frag):Sp:=fun vs H Q _=>∃ (a:Addr),vs=[.ref a] /\ ∀ p H',H p=none -> Same H H' -> PPen H' p a 0 -> Q (.ref p) H'
def spPick (K:PySem.W.Frag):Sp:=fun vs H Q _=>∃ (p a:Addr) (ns:List Int) (m c:Int),vs=[.ref p,.int m] /\ PPen H p a c /\ Scr K H a ns /\ ns.length <= 63 /\ c <= 1000000000 /\ 1 <= m /\ m < 2 ^ 64 /\
 ∀ (r:Int) H',0 <= r -> r < m -> PPen H' p a (c+1) -> Scr K H' a ns -> Chg p H H' -> Q (.int r) H'
theorem pick_ {K:PySem.W.Frag}{H:Hp}{p a:Addr}{ns:List Int}{m c:Int}{Q:VK}{E:XK}(hP:PPen H p a c)(hS:Scr K H a ns)(h63:ns.length <= 63)(hc:c <= 1000000000)(h1:1 <= m)(h2:m < 2 ^ 64)
  (q:∀ (r:Int) H',0 <= r -> r < m -> PPen H' p a (c+1) -> Scr K H' a ns -> Chg p H H' -> Q (.int r) H'):spPick K [.ref p,.int m] H Q E:=⟨p,a,ns,m,c,rfl,hP,hS,h63,hc,h1,h2,q⟩
def wrI (n w:Int):Int:=(n+2 ^ (w - 1).toNat) % 2 ^ w.toNat - 2 ^ (w - 1).toNat
theorem wr_half {w:Int}(h:1 <= w):(2:Int) * 2 ^ (w - 1).toNat=2 ^ w.toNat:=by
 rw [show w.toNat=(w - 1).toNat+1 by omega,Int.pow_succ,Int.mul_comm]
theorem wr_low {n w:Int}(h:1 <= w):-(2 ^ (w - 1).toNat) <= wrI n w /\ wrI n w < 2 ^ (w - 1).toNat:=by
 have e:=wr_half h
 have p:=pow_pos2 w.toNat
 have b:=modq (g:=n+2 ^ (w - 1).toNat) p
 unfold wrI
 omega
theorem wr_mod {n w:Int}(h:1 <= w):(wrI n w - n) % 2 ^ w.toNat=0:=by
 unfold wrI
 have e:=Int.emod_add_mul_ediv (n+2 ^ (w - 1).toNat) (2 ^ w.toNat)
 have:(n+2 ^ (w - 1).toNat) % 2 ^ w.toNat - 2 ^ (w - 1).toNat - n=2 ^ w.toNat * -((n+2 ^ (w - 1).toNat) / 2 ^ w.toNat):=by rw [Int.mul_neg]; omega
 rw [this,Int.mul_emod_right]
def spWrapped:Sp:=fun vs H Q _=>∃ n w:Int,vs=[.int n,.int w] /\ 1 <= w /\ w <= 100000 /\ Q (.int (wrI n w)) H
end L2
set_option Elab.async false
set_option linter.all false
set_option maxRecDepth 100000
set_option maxHeartbeats 1000000
namespace L2
open PySem PySem.Spec
end L2
set_option Elab.async false
set_option linter.all false
set_option maxRecDepth 100000
set_option maxHeartbeats 1000000
namespace L2
open PySem PySem.Spec
def Sh1 (s x:Int):Prop:=-40 <= s /\ s <= 40 /\ (s < 0 -> (2:Int) ^ (-s).toNat ∣ x)
def valD (vs:List Int)(d:Wd):Int:=mvI d.s (vs.getD d.a 0)+sgW d.w * mvI d.t (vs.getD d.b 0)
def valsW (xs:List Int)(ds:List Wd):List Int:=ds.foldl (fun vs d=>vs ++ [valD vs d]) xs
theorem valsW_snoc (xs:List Int)(ds:List Wd)(d:Wd):valsW xs (ds ++ [d])=valsW xs ds ++ [valD (valsW xs ds) d]:=by unfold valsW; rw [List.foldl_append]; rfl
theorem valsW_len (xs:List Int)(ds:List Wd):(valsW xs ds).length=xs.length+ds.length:=by
 refine snoc_ind (p:=fun ds=>(valsW xs ds).length=xs.length+ds.length) rfl (fun ys y ih=>?_) ds
 rw [valsW_snoc,qF,ih]; simp; omega
theorem valsW_pre (xs:List Int)(ds new:List Wd){k:Nat}{r:Int}(h:(valsW xs ds)[k]? = some r):(valsW xs (ds ++ new))[k]? = some r:=by
 refine snoc_ind (p:=fun new=>(valsW xs (ds ++ new))[k]? = some r) (by rw [List.append_nil]; exact h) (fun ys y ih=>?_) new
 rw [← List.append_assoc,valsW_snoc,qH (qB.mp ih).1]
 exact ih
theorem valsW_take {xs:List Int}{ds:List Wd}{i:Nat}{d:Wd}(hd:ds[i]? = some d):valsW xs (ds.take (i+1))=valsW xs (ds.take i) ++ [valD (valsW xs (ds.take i)) d]:=by
 rw [List.take_add_one,hd]
 exact valsW_snoc _ _ _
theorem valsW_takeD {xs:List Int}{ds:List Wd}{i j:Nat}(hi:i <= ds.length)(hj:j < xs.length+i):(valsW xs (ds.take i)).getD j 0=(valsW xs ds).getD j 0:=by
 have hl:j < (valsW xs (ds.take i)).length:=by rw [valsW_len,qO]; omega
 have e:=qA hl
 have e2:=valsW_pre xs (ds.take i) (ds.drop i) e
 rw [List.take_append_drop] at e2
 rw [getD_of e,getD_of e2]
structure VOk (xs:List Int) (ds:List Wd):Prop where
 dk:∀ (k:Nat) (d:Wd),ds[k]? = some d -> d.a < xs.length+k /\ d.b < xs.length+k /\ Sh1 d.s ((valsW xs ds).getD d.a 0) /\ Sh1 d.t ((valsW xs ds).getD d.b 0)
 vb:∀ v ∈ valsW xs ds,v.natAbs < 2 ^ 9000
 xl:xs.length <= 12
 dl:ds.length <= 60
def toldA (xs:List Int)(ds:List Wd)(i:Nat):List Int :=
 if i % 2=0 then valsW xs (ds.take (i / 2)) ++ qQ (ds.length - i / 2) 0
 else match ds[i / 2]? with
  | some d=>valsW xs (ds.take (i / 2)) ++ mvI d.s ((valsW xs (ds.take (i / 2))).getD d.a 0) :: qQ (ds.length - i / 2 - 1) 0
  | none=>[]
theorem toldA_end (xs:List Int)(ds:List Wd):toldA xs ds (2 * ds.length)=valsW xs ds:=by
 unfold toldA
 rw [if_pos (by omega),show 2 * ds.length / 2=ds.length by omega,List.take_length,Nat.sub_self]
 simp
theorem toldA_even {xs:List Int}{ds:List Wd}{i:Nat}{d:Wd}(h:i % 2=0)(hd:ds[i / 2]? = some d):toldA xs ds i=valsW xs (ds.take (i / 2)) ++ 0 :: qQ (ds.length - i / 2 - 1) 0:=by
 have hi:=(qB.mp hd).1
 unfold toldA
 rw [if_pos h,show ds.length - i / 2=(ds.length - i / 2 - 1)+1 by omega,List.replicate_succ]
 rfl
theorem toldA_odd {xs:List Int}{ds:List Wd}{i:Nat}{d:Wd}(h:i % 2=1)(hd:ds[i / 2]? = some d):toldA xs ds i=valsW xs (ds.take (i / 2)) ++ mvI d.s ((valsW xs (ds.take (i / 2))).getD d.a 0) :: qQ (ds.length - i / 2 - 1) 0:=by
 unfold toldA
 rw [if_neg (by omega),hd]
theorem set_mid {α:Type}{as bs:List α}{x y:α}{n:Nat}(h:as.length=n):(as ++ x :: bs).set n y=as ++ y :: bs:=by
 subst h
 induction as with
 | nil=>rfl
 | cons a r ih=>simp [ih]
theorem set_mapI {xs:List Int}{k:Nat}{x:Int}:(xs.map V.int).set k (.int x)=(xs.set k x).map V.int:=by rw [List.map_set]
end L2
set_option Elab.async false
set_option linter.all false
set_option maxRecDepth 100000
set_option maxHeartbeats 1000000
namespace L2
open PySem PySem.Spec
theorem valsW_at {xs:List Int}{ds:List Wd}{j:Nat}(h:j < xs.length+ds.length):∃ x,(valsW xs ds)[j]? = some x /\ (valsW xs ds).getD j 0=x /\ x ∈ valsW xs ds:=by
 have e:=qA (l:=valsW xs ds) (i:=j) (by rw [valsW_len]; exact h)
 exact ⟨_,e,getD_of e,qE e⟩
theorem valsW_stay {xs:List Int}{ds:List Wd}{d:Wd}{j:Nat}(h:j < xs.length+ds.length):(valsW xs (ds ++ [d])).getD j 0=(valsW xs ds).getD j 0:=by
 obtain ⟨x,e,e2,_⟩:=valsW_at h
 rw [e2,getD_of (valsW_pre xs ds [d] e)]
theorem mvI_neg {s n:Int}(h:0 <= s):mvI (0 - s) n=n / 2 ^ s.toNat:=by
 by_cases z:s=0
 ·subst z
  rw [mvI_up (by decide)]
  simp
 ·rw [mvI_down (by omega),show (-(0 - s))=s by omega]
end L2
set_option Elab.async false
set_option linter.all false
set_option maxRecDepth 100000
set_option maxHeartbeats 1000000
namespace L2
open PySem PySem.Spec
def dotW:List Int -> List Int -> Int
 | a :: r,x :: xs=>a * x+dotW r xs
 | _,_=>0
theorem dotW_nil (xs:List Int):dotW [] xs=0:=by cases xs <;> rfl
theorem dotW_up {k:Nat}:∀ (r xs:List Int),dotW (r.map fun n=>n * 2 ^ k) xs=dotW r xs * 2 ^ k
 | [],xs=>by rw [List.map_nil,dotW_nil,Int.zero_mul]
 | a :: r,[]=>by simp [dotW]
 | a :: r,x :: xs=>by
  show a * 2 ^ k * x+dotW (r.map fun n=>n * 2 ^ k) xs=(a * x+dotW r xs) * 2 ^ k
  rw [dotW_up r xs,Int.add_mul,Int.mul_assoc,Int.mul_comm (2 ^ k) x,Int.mul_assoc]
theorem dotW_dvd {k:Nat}:∀ (r xs:List Int),(∀ n ∈ r,(2:Int) ^ k ∣ n) -> (2:Int) ^ k ∣ dotW r xs
 | [],xs,_=>by rw [dotW_nil]; exact Int.dvd_zero _
 | a :: r,[],_=>by show _ ∣ (0:Int); exact Int.dvd_zero _
 | a :: r,x :: xs,h=>by
  show _ ∣ a * x+dotW r xs
  exact Int.dvd_add (Int.dvd_trans (h a (List.mem_cons_self ..)) (Int.dvd_mul_right _ _)) (dotW_dvd r xs fun n hn=>h n (List.mem_cons_of_mem _ hn))
theorem dotW_down {k:Nat}(r xs:List Int)(h:∀ n ∈ r,(2:Int) ^ k ∣ n):dotW (r.map fun n=>n / 2 ^ k) xs=dotW r xs / 2 ^ k:=by
 have e:r=(r.map fun n=>n / 2 ^ k).map fun n=>n * 2 ^ k:=by
  rw [List.map_map]
  refine (List.map_id r).symm.trans (List.map_congr_left fun n hn=>?_)
  exact (Int.ediv_mul_cancel (h n hn)).symm
 have e2:dotW r xs=dotW (r.map fun n=>n / 2 ^ k) xs * 2 ^ k:=by
  rw [← dotW_up,← e]
 rw [e2,Int.mul_ediv_cancel _ (Int.ne_of_gt (pow_pos2 k))]
theorem dotW_mv {s:Int}{r:List Int}(xs:List Int)(h:Dv s r):dotW (r.map (mvI s)) xs=mvI s (dotW r xs):=by
 by_cases z:0 <= s
 ·rw [mvI_up z,← dotW_up]
  congr 1
  exact List.map_congr_left fun n _=>mvI_up z
 ·rw [mvI_down (by omega),← dotW_down r xs (h (by omega))]
  congr 1
  exact List.map_congr_left fun n _=>mvI_down (by omega)
theorem dotW_zip {f g:Int -> Int}{c:Int}:∀ (ra rb xs:List Int),ra.length=rb.length -> dotW (List.zipWith (fun x y=>f x+c * g y) ra rb) xs=dotW (ra.map f) xs+c * dotW (rb.map g) xs
 | [],[],xs,_=>by simp [dotW_nil]
 | [],_ :: _,xs,h=>by simp at h
 | _ :: _,[],xs,h=>by simp at h
 | a :: ra,b :: rb,[],h=>by simp [dotW]
 | a :: ra,b :: rb,x :: xs,h=>by
  have ih:=dotW_zip (f:=f) (g:=g) (c:=c) ra rb xs (by simpa using h)
  show (f a+c * g b) * x+dotW (List.zipWith (fun x y=>f x+c * g y) ra rb) xs=f a * x+dotW (ra.map f) xs+c * (g b * x+dotW (rb.map g) xs)
  rw [ih,Int.add_mul,Int.mul_add,Int.mul_assoc]
  omega
theorem dotW_bound {b c:Nat}:∀ (r xs:List Int),(∀ n ∈ r,n.natAbs <= 2 ^ b) -> (∀ x ∈ xs,x.natAbs <= 2 ^ c) -> (dotW r xs).natAbs <= r.length * 2 ^ (b+c)
 | [],xs,_,_=>by rw [dotW_nil]; simp
 | a :: r,[],_,_=>by show (0:Int).natAbs <= _; simp
 | a :: r,x :: xs,h,g=>by
  have ih:=dotW_bound r xs (fun n hn=>h n (List.mem_cons_of_mem _ hn)) (fun n hn=>g n (List.mem_cons_of_mem _ hn))
  show (a * x+dotW r xs).natAbs <= (r.length+1) * 2 ^ (b+c)
  have h1:(a * x).natAbs <= 2 ^ (b+c):=by
   rw [Int.natAbs_mul,Nat.pow_add]
   exact Nat.mul_le_mul (h a (List.mem_cons_self ..)) (g x (List.mem_cons_self ..))
  have h2:=Int.natAbs_add_le (a * x) (dotW r xs)
  rw [Nat.add_mul,Nat.one_mul]
  omega
theorem dot_unit0:∀ (ks:List Nat)(xs:List Int)(i j:Nat),ks=List.range' j xs.length -> dotW (ks.map fun k=>if k=i then (1:Int) else 0) xs=if j <= i then xs.getD (i - j) 0 else 0
 | ks,[],i,j,h=>by
  subst h
  simp [dotW_nil]
 | ks,x :: xs,i,j,h=>by
  subst h
  rw [List.length_cons,List.range'_succ,List.map_cons]
  show (if j=i then (1:Int) else 0) * x+dotW _ xs=_
  rw [dot_unit0 _ xs i (j+1) rfl]
  by_cases z:j=i
  ·subst z
   rw [if_pos rfl,if_neg (by omega),if_pos (Nat.le_refl _),Nat.sub_self,Int.one_mul,Int.add_zero]
   rfl
  ·rw [if_neg z,Int.zero_mul,Int.zero_add]
   by_cases y:j <= i
   ·rw [if_pos y,if_pos (by omega),show i - j=(i - (j+1))+1 by omega]
    rfl
   ·rw [if_neg y,if_neg (by omega)]
theorem dot_unit {xs:List Int}{i:Nat}(h:i < xs.length):dotW (unitRow xs.length i) xs=xs.getD i 0:=by
 unfold unitRow
 rw [dot_unit0 _ xs i 0 (by rw [List.range_eq_range']),if_pos (Nat.zero_le _)]
 rfl
def dots (xs:List Int)(rs:List (List Int)):List Int:=rs.map fun r=>dotW r xs
theorem dots_getD {xs:List Int}{rs:List (List Int)}(j:Nat):(dots xs rs).getD j 0=dotW (rs.getD j []) xs:=by
 unfold dots
 rw [qD,qD,qI]
 cases rs[j]? with
 | none=>exact (dotW_nil xs).symm
 | some r=>rfl
theorem vals_take {ins:Nat}{ds:List Wd}{xs:List Int}(hl:xs.length=ins)(sh:ShOk ins ds)(wd:∀ r ∈ rowsW ins ds,r.length=ins):∀ i,i <= ds.length -> valsW xs (ds.take i)=dots xs (rowsW ins (ds.take i))
 | 0,_=>by
  rw [List.take_zero]
  show xs=dots xs ((List.range ins).map (unitRow ins))
  unfold dots
  rw [List.map_map]
  subst hl
  refine List.ext_getElem (by simp) fun n h1 h2=>?_
  rw [List.getElem_map,List.getElem_range]
  show _=dotW (unitRow xs.length n) xs
  rw [dot_unit h1,qD,qA h1]
  rfl
 | i+1,h=>by
  have ih:=vals_take hl sh wd i (by omega)
  have hd:ds[i]? = some (ds[i]'(by omega)):=qA _
  generalize ds[i]'(by omega)=d at hd
  obtain ⟨da,db,sa,sb⟩:=sh i d hd
  rw [valsW_take hd,rowsW_take hd,ih]
  unfold dots
  rw [List.map_append]
  congr 1
  show [valD (dots xs (rowsW ins (ds.take i))) d]=[dotW (rowD (rowsW ins (ds.take i)) d) xs]
  congr 1
  unfold valD rowD
  rw [dots_getD,dots_getD,rowsW_takeD (by omega) da,rowsW_takeD (by omega) db]
  have row:∀ j,j < ins+i -> ((rowsW ins ds).getD j []).length=ins:=fun j hj=>by
   have e:=qA (l:=rowsW ins ds) (i:=j) (by rw [rowsW_len]; omega)
   rw [getD_of e]
   exact wd _ (qE e)
  rw [dotW_zip _ _ xs ((row _ da).trans (row _ db).symm),dotW_mv xs sa.2.2,dotW_mv xs sb.2.2]
theorem vals_dots {ins:Nat}{ds:List Wd}{gs:List Go}{xs:List Int}(hl:xs.length=ins)(F:FWeb ins ds gs):valsW xs ds=dots xs (rowsW ins ds):=by
 have:=vals_take hl F.sh F.wd ds.length (Nat.le_refl _)
 rwa [List.take_length] at this
theorem Sh.one {s:Int}{r xs:List Int}(h:Sh s r):Sh1 s (dotW r xs):=⟨h.1,h.2.1,fun z=>dotW_dvd r xs (h.2.2 z)⟩
theorem FWeb.vok {ins:Nat}{ds:List Wd}{gs:List Go}{xs:List Int}(F:FWeb ins ds gs)(hl:xs.length=ins)(hx:∀ x ∈ xs,x.natAbs <= 2 ^ 300):VOk xs ds:=by
 have e:=vals_dots hl F
 refine ⟨fun k d hd=>?_,fun v hv=>?_,by rw [hl]; exact F.ok.i2,F.ok.dl⟩
 ·obtain ⟨a,b,c,f⟩:=F.sh k d hd
  rw [e,dots_getD,dots_getD,hl]
  exact ⟨a,b,c.one,f.one⟩
 ·rw [e] at hv
  obtain ⟨r,hr,rfl⟩:=qP.mp hv
  have hb:=dotW_bound r xs (F.rb r hr).2 hx
  have h12:=(F.rb r hr).1
  have d60:=F.ok.dl
  refine Nat.lt_of_le_of_lt hb ?_
  refine Nat.lt_of_le_of_lt (Nat.mul_le_mul (show r.length <= 2 ^ 4 by omega) (qN (by decide) (show 41 * ds.length+300 <= 3000 by omega))) ?_
  rw [← Nat.pow_add]
  exact Nat.pow_lt_pow_right (by decide) (by decide)
def outV (vs:List Int)(g:Go):Int:=g.sg * mvI g.sh (vs.getD g.th 0)
end L2
set_option Elab.async false
set_option linter.all false
set_option maxRecDepth 100000
set_option maxHeartbeats 1000000
namespace L2
open PySem PySem.Spec PyProof PyProof.Rows
section
variable {P:Program}{w:World}{A:Around}{E:Value -> Shared -> Prop}{s:Shared}
end
section
variable {X:Cx}
theorem vals3 {x y z:V}{us:List Value}(r:Vals [x,y,z] us):∃ u v w',us=[u,v,w'] /\ RelV x u /\ RelV y v /\ RelV z w':=by
 cases r with
 | cons r1 r2 =>
  obtain ⟨v,w',rfl,r3,r4⟩:=vals2 r2
  exact ⟨_,_,_,rfl,r1,r3,r4⟩
end
end L2
set_option Elab.async false
set_option linter.all false
set_option maxRecDepth 100000
set_option maxHeartbeats 1000000
namespace L2
open PySem PySem.Spec
section
variable {K:PySem.W.Frag}{σ:St}{H:Hp}{D:Ends}{g:TG}{tb:TS}{a b:Addr}
end
section
variable {K:PySem.W.Frag}{σ:St}{H:Hp}{Q:VK}{cs:List Nat}{te:TE}
end
end L2
set_option Elab.async false
set_option linter.all false
set_option maxRecDepth 100000
set_option maxHeartbeats 1000000
namespace L2
open PySem PySem.Spec
def vGD (g:Int -> Int -> Int -> Int -> Int)(z:Int)(vs:List Int)(d:Wd):Int:=g (g z d.s 1 (vs.getD d.a 0)) d.t (sgW d.w) (vs.getD d.b 0)
def vG (g:Int -> Int -> Int -> Int -> Int)(z:Int)(xs:List Int)(ds:List Wd):List Int:=ds.foldl (fun vs d=>vs ++ [vGD g z vs d]) xs
section
variable {g:Int -> Int -> Int -> Int -> Int}{z:Int}
theorem vG_snoc (xs:List Int)(ds:List Wd)(d:Wd):vG g z xs (ds ++ [d])=vG g z xs ds ++ [vGD g z (vG g z xs ds) d]:=by unfold vG; rw [List.foldl_append]; rfl
theorem vG_len (xs:List Int)(ds:List Wd):(vG g z xs ds).length=xs.length+ds.length:=by
 refine snoc_ind (p:=fun ds=>(vG g z xs ds).length=xs.length+ds.length) rfl (fun ys y ih=>?_) ds
 rw [vG_snoc,qF,ih]; simp; omega
theorem vG_pre (xs:List Int)(ds new:List Wd){k:Nat}{r:Int}(h:(vG g z xs ds)[k]? = some r):(vG g z xs (ds ++ new))[k]? = some r:=by
 refine snoc_ind (p:=fun new=>(vG g z xs (ds ++ new))[k]? = some r) (by rw [List.append_nil]; exact h) (fun ys y ih=>?_) new
 rw [← List.append_assoc,vG_snoc,qH (qB.mp ih).1]
 exact ih
theorem vG_take {xs:List Int}{ds:List Wd}{i:Nat}{d:Wd}(hd:ds[i]? = some d):vG g z xs (ds.take (i+1))=vG g z xs (ds.take i) ++ [vGD g z (vG g z xs (ds.take i)) d]:=by
 rw [List.take_add_one,hd]
 exact vG_snoc _ _ _
end
def tG (g:Int -> Int -> Int -> Int -> Int)(z:Int)(xs:List Int)(ds:List Wd)(i:Nat):List Int :=
 if i % 2=0 then vG g z xs (ds.take (i / 2)) ++ qQ (ds.length - i / 2) z
 else match ds[i / 2]? with
  | some d=>vG g z xs (ds.take (i / 2)) ++ g z d.s 1 ((vG g z xs (ds.take (i / 2))).getD d.a 0) :: qQ (ds.length - i / 2 - 1) z
  | none=>[]
section
variable {g:Int -> Int -> Int -> Int -> Int}{z:Int}
theorem tG_end (xs:List Int)(ds:List Wd):tG g z xs ds (2 * ds.length)=vG g z xs ds:=by
 unfold tG
 rw [if_pos (by omega),show 2 * ds.length / 2=ds.length by omega,List.take_length,Nat.sub_self]
 simp
theorem tG_even {xs:List Int}{ds:List Wd}{i:Nat}{d:Wd}(h:i % 2=0)(hd:ds[i / 2]? = some d):tG g z xs ds i=vG g z xs (ds.take (i / 2)) ++ z :: qQ (ds.length - i / 2 - 1) z:=by
 have hi:=(qB.mp hd).1
 unfold tG
 rw [if_pos h,show ds.length - i / 2=(ds.length - i / 2 - 1)+1 by omega,List.replicate_succ]
 rfl
theorem tG_odd {xs:List Int}{ds:List Wd}{i:Nat}{d:Wd}(h:i % 2=1)(hd:ds[i / 2]? = some d):tG g z xs ds i=vG g z xs (ds.take (i / 2)) ++ g z d.s 1 ((vG g z xs (ds.take (i / 2))).getD d.a 0) :: qQ (ds.length - i / 2 - 1) z:=by
 unfold tG
 rw [if_neg (by omega),hd]
theorem tG_step {xs:List Int}{ds:List Wd}(dk:∀ (k:Nat) (d:Wd),ds[k]? = some d -> d.a < xs.length+k /\ d.b < xs.length+k){i:Nat}{a:Ar}(ha:(arrF xs.length 0 ds)[i]? = some a) :
  ∃ x y:Int,(tG g z xs ds i)[a.st]? = some x /\ (tG g z xs ds i)[a.go]? = some y /\ x ∈ vG g z xs ds /\ (∃ d,ds[i / 2]? = some d /\ (a.sh=d.s \/ a.sh=d.t)) /\ (a.sg=1 \/ a.sg = -1) /\ (tG g z xs ds i).set a.go (g y a.sh a.sg x)=tG g z xs ds (i+1):=by
 obtain ⟨d,hd,hg,hc⟩:=arr_at ha
 rw [Nat.add_zero] at hg hc
 have hi:=(qB.mp hd).1
 obtain ⟨da,db⟩:=dk _ _ hd
 have tl:(vG g z xs (ds.take (i / 2))).length=xs.length+i / 2:=by rw [vG_len,qO]; omega
 have hb:∀ j,j < xs.length+i / 2 -> ∃ x,(vG g z xs (ds.take (i / 2)))[j]? = some x /\ x=(vG g z xs (ds.take (i / 2))).getD j 0 /\ x ∈ vG g z xs ds:=fun j hj=>by
  have e:=qA (l:=vG g z xs (ds.take (i / 2))) (i:=j) (by omega)
  refine ⟨_,e,(getD_of e).symm,?_⟩
  have e2:=vG_pre xs (ds.take (i / 2)) (ds.drop (i / 2)) e
  rw [List.take_append_drop] at e2
  exact qE e2
 rcases hc with ⟨hm,rfl⟩ | ⟨hm,rfl⟩
 ·obtain ⟨x,e1,e2,e3⟩:=hb d.a da
  refine ⟨x,z,?_,?_,e3,⟨d,hd,.inl rfl⟩,.inl rfl,?_⟩
  ·rw [tG_even hm hd,qH (by show d.a < _; omega)]
   exact e1
  ·rw [tG_even hm hd,qG (by show _ <= xs.length+i / 2; omega),tl]
   show (z :: _)[xs.length+i / 2 - (xs.length+i / 2)]? = _
   rw [Nat.sub_self]
   rfl
  ·rw [tG_even hm hd,set_mid tl,tG_odd (i:=i+1) (d:=d) (by omega) (by rw [show (i+1) / 2=i / 2 by omega]; exact hd),show (i+1) / 2=i / 2 by omega,← e2]
 ·obtain ⟨x,e1,e2,e3⟩:=hb d.b db
  have hs:sgW d.w=1 \/ sgW d.w = -1:=by
   unfold sgW
   split
   ·exact .inr rfl
   ·exact .inl rfl
  refine ⟨x,g z d.s 1 ((vG g z xs (ds.take (i / 2))).getD d.a 0),?_,?_,e3,⟨d,hd,.inr rfl⟩,hs,?_⟩
  ·rw [tG_odd hm hd,qH (by show d.b < _; omega)]
   exact e1
  ·rw [tG_odd hm hd,qG (by show _ <= xs.length+i / 2; omega),tl]
   show (_ :: _)[xs.length+i / 2 - (xs.length+i / 2)]? = _
   rw [Nat.sub_self]
   rfl
  ·rw [tG_odd hm hd,set_mid tl]
   unfold tG
   rw [if_pos (by omega),show (i+1) / 2=i / 2+1 by omega,vG_take hd,List.append_assoc,Nat.sub_add_eq]
   show _=_ ++ (vGD _ _ _ _ :: _)
   unfold vGD
   rw [← e2]
   rfl
theorem vG_all {xs:List Int}{ds:List Wd}(dk:∀ (k:Nat) (d:Wd),ds[k]? = some d -> d.a < xs.length+k /\ d.b < xs.length+k)(p:Int -> Prop)(hx:∀ x ∈ xs,p x)
  (hs:∀ (k:Nat) (d:Wd) (x y:Int),ds[k]? = some d -> p x -> p y -> p (g (g z d.s 1 x) d.t (sgW d.w) y)):∀ i,i <= ds.length -> ∀ v ∈ vG g z xs (ds.take i),p v
 | 0,_=>fun v hv=>by rw [List.take_zero] at hv; exact hx v hv
 | i+1,h=>fun v hv=>by
  have ih:=vG_all dk p hx hs i (by omega)
  have hd:ds[i]? = some (ds[i]'(by omega)):=qA _
  generalize ds[i]'(by omega)=d at hd
  obtain ⟨da,db⟩:=dk i d hd
  rw [vG_take hd] at hv
  rcases List.mem_append.mp hv with y | y
  ·exact ih v y
  ·rw [List.mem_singleton.mp y]
   have tl:(vG g z xs (ds.take i)).length=xs.length+i:=by rw [vG_len,qO]; omega
   have e1:=qA (l:=vG g z xs (ds.take i)) (i:=d.a) (by omega)
   have e2:=qA (l:=vG g z xs (ds.take i)) (i:=d.b) (by omega)
   unfold vGD
   rw [getD_of e1,getD_of e2]
   exact hs i d _ _ hd (ih _ (qE e1)) (ih _ (qE e2))
end
def shIn (w s x:Int):Int:=if 0 <= s then wrI (x * 2 ^ s.toNat) w else x / 2 ^ (-s).toNat
def gIn (w:Int):Int -> Int -> Int -> Int -> Int:=fun y s g x=>wrI (y+g * shIn w s x) w
def gSu:Int -> Int -> Int -> Int -> Int:=fun y s _ x=>min y (max 0 (x+s))
def Eqm (b:Int)(x y:Int):Prop:=(2:Int) ^ b.toNat ∣ x - y
theorem Eqm.less {b c x y:Int}(h:Eqm b x y)(l:c <= b):Eqm c x y:=by
 refine Int.dvd_trans ?_ h
 rw [show b.toNat=c.toNat+(b.toNat - c.toNat) by omega,Int.pow_add]
 exact Int.dvd_mul_right _ _
theorem Eqm.add {b x y u v:Int}(h:Eqm b x y)(k:Eqm b u v)(g:Int):Eqm b (x+g * u) (y+g * v):=by
 show _ ∣ x+g * u - (y+g * v)
 rw [show x+g * u - (y+g * v)=(x - y)+g * (u - v) by rw [Int.mul_sub]; omega]
 exact Int.dvd_add h (Int.dvd_trans k (Int.dvd_mul_left _ _))
theorem Eqm.wr {w b x:Int}(h:1 <= w)(hb:b <= w):Eqm b (wrI x w) x:=Eqm.less (b:=w) (Int.dvd_of_emod_eq_zero (wr_mod h)) hb
theorem Eqm.trans {b x y z:Int}(h:Eqm b x y)(k:Eqm b y z):Eqm b x z:=by
 show _ ∣ x - z
 rw [show x - z=(x - y)+(y - z) by omega]
 exact Int.dvd_add h k
theorem Eqm.zero {b x y:Int}(h:b <= 0):Eqm b x y:=by
 show (2:Int) ^ b.toNat ∣ _
 rw [show b.toNat=0 by omega,Int.pow_zero]
 exact Int.one_dvd _
theorem Eqm.part {w b x y s:Int}(h1:1 <= w)(h:Eqm b x y)(b0:0 <= b)(hs:Sh1 s y):Eqm (min w (b+s)) (shIn w s x) (mvI s y):=by
 unfold shIn
 by_cases z:0 <= s
 ·rw [if_pos z,mvI_up z]
  refine (Eqm.wr h1 (by omega)).trans (Eqm.less (b:=b+s) ?_ (by omega))
  show _ ∣ x * 2 ^ s.toNat - y * 2 ^ s.toNat
  rw [← Int.sub_mul,show (b+s).toNat=b.toNat+s.toNat by omega,Int.pow_add]
  exact Int.mul_dvd_mul h (Int.dvd_refl _)
 ·rw [if_neg z,mvI_down (by omega)]
  by_cases c:b+s <= 0
  ·exact Eqm.zero (by omega)
  ·refine Eqm.less (b:=b+s) ?_ (by omega)
   obtain ⟨m,hm⟩:=hs.2.2 (by omega)
   obtain ⟨q,hq⟩:=h
   have pp:=pow_pos2 (-s).toNat
   have e:x=2 ^ (-s).toNat * (m+2 ^ (b+s).toNat * q):=by
    rw [Int.mul_add,← hm,← Int.mul_assoc,← Int.pow_add,show (-s).toNat+(b+s).toNat=b.toNat by omega]
    omega
   show _ ∣ x / 2 ^ (-s).toNat - y / 2 ^ (-s).toNat
   rw [e,hm,Int.mul_ediv_cancel_left _ (Int.ne_of_gt pp),Int.mul_ediv_cancel_left _ (Int.ne_of_gt pp)]
   exact ⟨q,by omega⟩
def rinW (w:Int)(xs:List Int)(ds:List Wd):List Int:=vG (gIn w) 0 (xs.map fun x=>wrI x w) ds
def surW (w:Int)(ins:Nat)(ds:List Wd):List Int:=vG gSu w (qQ ins w) ds
theorem Eqm.up {w b c x y s:Int}(h1:1 <= w)(h:Eqm b x y)(b0:0 <= b)(hs:Sh1 s y)(hc:c <= w)(hc2:c <= max 0 (b+s)):Eqm c (shIn w s x) (mvI s y):=by
 by_cases z:0 <= b+s
 ·exact (Eqm.part h1 h b0 hs).less (by omega)
 ·exact Eqm.zero (by omega)
theorem sure_take {w:Int}{xs:List Int}{ds:List Wd}(h1:1 <= w)(hV:VOk xs ds):∀ i,i <= ds.length -> ∀ j,j < xs.length+i ->
  0 <= (surW w xs.length (ds.take i)).getD j 0 /\ (surW w xs.length (ds.take i)).getD j 0 <= w /\ Eqm ((surW w xs.length (ds.take i)).getD j 0) ((rinW w xs (ds.take i)).getD j 0) ((valsW xs (ds.take i)).getD j 0)
 | 0,_,j,hj=>by
  have e1:(surW w xs.length (ds.take 0)).getD j 0=w:=by
   rw [List.take_zero]
   show (qQ xs.length w).getD j 0=w
   rw [qD,List.getElem?_replicate,if_pos (by omega)]
   rfl
  have e2:(rinW w xs (ds.take 0)).getD j 0=wrI (xs.getD j 0) w:=by
   rw [List.take_zero]
   show (xs.map fun x=>wrI x w).getD j 0=_
   rw [qD,qD,qI,qA (by omega:j < xs.length)]
   rfl
  rw [e1,e2,List.take_zero]
  exact ⟨by omega,Int.le_refl _,Eqm.wr h1 (Int.le_refl _)⟩
 | i+1,h,j,hj=>by
  have ih:=sure_take h1 hV i (by omega)
  have hd:ds[i]? = some (ds[i]'(by omega)):=qA _
  generalize ds[i]'(by omega)=d at hd
  obtain ⟨da,db,sa,sb⟩:=hV.dk i d hd
  have l1:(surW w xs.length (ds.take i)).length=xs.length+i:=by unfold surW; rw [vG_len,qL,qO]; omega
  have l2:(rinW w xs (ds.take i)).length=xs.length+i:=by unfold rinW; rw [vG_len,qC,qO]; omega
  have l3:(valsW xs (ds.take i)).length=xs.length+i:=by rw [valsW_len,qO]; omega
  have e1:surW w xs.length (ds.take (i+1))=surW w xs.length (ds.take i) ++ [vGD gSu w (surW w xs.length (ds.take i)) d]:=vG_take hd
  have e2:rinW w xs (ds.take (i+1))=rinW w xs (ds.take i) ++ [vGD (gIn w) 0 (rinW w xs (ds.take i)) d]:=vG_take hd
  have e3:=valsW_take (xs:=xs) hd
  rw [e1,e2,e3]
  by_cases c:j < xs.length+i
  ·have q:∀ (ys:List Int) (y:Int),ys.length=xs.length+i -> (ys ++ [y]).getD j 0=ys.getD j 0:=fun ys y hl=>by
    rw [qD,qD,qH (by omega)]
   rw [q _ _ l1,q _ _ l2,q _ _ l3]
   exact ih j c
  ·have q:∀ (ys:List Int) (y:Int),ys.length=xs.length+i -> (ys ++ [y]).getD j 0=y:=fun ys y hl=>by
    rw [qD,qG (by omega),show j - ys.length=0 by omega]
    rfl
   rw [q _ _ l1,q _ _ l2,q _ _ l3]
   obtain ⟨a0,a1,a2⟩:=ih d.a da
   obtain ⟨b0,b1,b2⟩:=ih d.b db
   rw [valsW_takeD (by omega) da] at a2
   rw [valsW_takeD (by omega) db] at b2
   unfold vGD valD
   rw [valsW_takeD (by omega) da,valsW_takeD (by omega) db]
   generalize (surW w xs.length (ds.take i)).getD d.a 0=ba at a0 a1 a2 ⊢
   generalize (surW w xs.length (ds.take i)).getD d.b 0=bb at b0 b1 b2 ⊢
   generalize (rinW w xs (ds.take i)).getD d.a 0=ra at a2 ⊢
   generalize (rinW w xs (ds.take i)).getD d.b 0=rb at b2 ⊢
   have hc:gSu (gSu w d.s 1 ba) d.t (sgW d.w) bb=min (min w (max 0 (ba+d.s))) (max 0 (bb+d.t)):=rfl
   rw [hc]
   refine ⟨by omega,by omega,?_⟩
   generalize hcc:min (min w (max 0 (ba+d.s))) (max 0 (bb+d.t))=cc
   have p1:=Eqm.up (c:=cc) h1 a2 a0 sa (by omega) (by omega)
   have p2:=Eqm.up (c:=cc) h1 b2 b0 sb (by omega) (by omega)
   unfold gIn
   refine (Eqm.wr h1 (by omega)).trans ?_
   have p3:Eqm cc (wrI (0+1 * shIn w d.s ra) w) (mvI d.s ((valsW xs ds).getD d.a 0)):=by
    refine (Eqm.wr h1 (by omega)).trans ?_
    rw [Int.zero_add,Int.one_mul]
    exact p1
   exact p3.add p2 (sgW d.w)
theorem sure_all {w:Int}{xs:List Int}{ds:List Wd}(h1:1 <= w)(hV:VOk xs ds){j:Nat}(hj:j < xs.length+ds.length):0 <= (surW w xs.length ds).getD j 0 /\ (surW w xs.length ds).getD j 0 <= w /\ Eqm ((surW w xs.length ds).getD j 0) ((rinW w xs ds).getD j 0) ((valsW xs ds).getD j 0):=by
 have:=sure_take h1 hV ds.length (Nat.le_refl _) j hj
 rwa [List.take_length] at this
structure DkOk (ins:Nat) (ds:List Wd):Prop where
 dk:∀ (k:Nat) (d:Wd),ds[k]? = some d -> d.a < ins+k /\ d.b < ins+k /\ -40 <= d.s /\ d.s <= 40 /\ -40 <= d.t /\ d.t <= 40 /\ (d.w = "sum" \/ d.w = "less")
 dl:ds.length <= 60
def spSure:Sp:=fun vs H Q _=>∃ (x dl gl:Addr) (ins:Nat) (us:List V) (ds:List Wd) (os:List V) (gs:List Go) (w:Int),vs=[.ref x,.int w] /\ Wb H x dl gl ins us ds os gs /\ DkOk ins ds /\ ins <= 12 /\ 1 <= w /\ w <= 3000 /\
 ∀ r H',H r=none -> Same H H' -> H' r=some (.lst ((surW w ins ds).map V.int)) -> Q (.ref r) H'
theorem wr_small {n w:Int}(h:1 <= w)(hw:w <= 3000):(wrI n w).natAbs < 2 ^ 9000:=by
 obtain ⟨a,b⟩:=wr_low (n:=n) h
 have e:(2:Int) ^ (w - 1).toNat <= 2 ^ 8000:=by
  have:=qN (n:=2) (by decide) (show (w - 1).toNat <= 8000 by omega)
  exact_mod_cast this
 have e2:(2:Nat) ^ 8000 < 2 ^ 9000:=Nat.pow_lt_pow_right (by decide) (by decide)
 have e3:(((2:Nat) ^ 8000:Nat):Int)=(2:Int) ^ 8000:=by exact_mod_cast rfl
 rw [← e3] at e
 omega
end L2
set_option Elab.async false
set_option linter.all false
set_option maxRecDepth 100000
set_option maxHeartbeats 1000000
namespace L2
open PySem PySem.Spec
theorem wr_of {w x y:Int}(h:1 <= w)(h0:-(2 ^ (w - 1).toNat) <= y)(h1:y < 2 ^ (w - 1).toNat)(e:Eqm w y x):wrI x w=y:=by
 obtain ⟨a,b⟩:=wr_low (n:=x) h
 have e2:Eqm w (wrI x w) x:=Eqm.wr h (Int.le_refl _)
 have e3:(2:Int) ^ w.toNat ∣ y - wrI x w:=by
  rw [show y - wrI x w=(y - x) - (wrI x w - x) by omega]
  exact Int.dvd_sub e e2
 have eh:=wr_half h
 obtain ⟨k,hk⟩:=e3
 rw [← eh] at hk
 generalize (2:Int) ^ (w - 1).toNat=g at *
 have hg:0 < g:=by omega
 have k0:k=0:=by
  rcases Int.lt_trichotomy k 0 with z | z | z
  ·have:2 * g * k <= 2 * g * (-1):=Int.mul_le_mul_of_nonneg_left (by omega) (by omega)
   omega
  ·exact z
  ·have:2 * g * 1 <= 2 * g * k:=Int.mul_le_mul_of_nonneg_left (by omega) (by omega)
   omega
 subst k0
 omega
theorem wr_eq {w x y:Int}(h:1 <= w)(e:Eqm w x y):wrI x w=wrI y w:=by
 obtain ⟨a,b⟩:=wr_low (n:=y) h
 refine wr_of h a b ?_
 have e2:Eqm w (wrI y w) y:=Eqm.wr h (Int.le_refl _)
 refine e2.trans ?_
 show _ ∣ y - x
 rw [show y - x = -(x - y) by omega]
 exact Int.dvd_neg.mpr e
theorem gIn_two {w s t g x y:Int}(h:1 <= w):gIn w (gIn w 0 s 1 x) t g y=wrI (shIn w s x+g * shIn w t y) w:=by
 unfold gIn
 refine wr_eq h ?_
 refine Eqm.add ?_ (show Eqm w (shIn w t y) (shIn w t y) by show _ ∣ _; rw [Int.sub_self]; exact Int.dvd_zero _) g
 refine (Eqm.wr h (Int.le_refl _)).trans ?_
 show _ ∣ _
 rw [Int.zero_add,Int.one_mul,Int.sub_self]
 exact Int.dvd_zero _
def spDownL:Sp:=fun vs H Q _=>∃ (l:Addr) (xs:List Int),vs=[.ref l] /\ H l=some (.lst (xs.map V.int)) /\ xs.length <= 100 /\ ∀ d:Nat,d <= 40 -> (∀ x ∈ xs,(2:Int) ^ d ∣ x) -> Q (.int d) H
def spPartD (K:PySem.W.Frag):Sp:=fun vs H Q _=>∃ (p a tb:Addr) (ns:List Int) (c:Int) (ts:List V) (ex:List Addr) (rs:List (List Int)) (db:Bool),vs=[.ref p,.ref tb,.bl db] /\ PPen H p a c /\ Scr K H a ns /\ ns.length <= 63 /\ c <= 100000000 /\ H tb=some (.lst ts) /\ HRs H ex ts rs /\ p ∈ ex /\ tb ≠ p /\ 1 <= rs.length /\ rs.length <= 100 /\ (∀ r ∈ rs,r.length <= 12 /\ ∀ n ∈ r,n.natAbs < 2 ^ 9000) /\
 ∀ (r m:Addr) (th:Nat) (sh:Int) H',H r=none -> H m=none -> H' r=some (.lst [.int th,.int sh,.ref m]) -> H' m=some (.lst (((rs.getD th []).map (mvI sh)).map V.int)) -> th < rs.length -> Sh sh (rs.getD th []) -> (db=false -> 0 <= sh) -> PPen H' p a (c+10) -> Scr K H' a ns -> Chg p H H' -> Q (.ref r) H'
theorem FI.stepP {H:Hp}{p a:Addr}{c:Int}{ins:Nat}{tb dl:Addr}{k:Nat}{vs us:List V}{ds:List Wd}{H' H'':Hp}(h:FI H p ins tb dl k vs us ds H')(F:PPen H' p a c)(C:Chg p H' H''):FI H p ins tb dl k vs us ds H'':=by
 obtain ⟨xs,hp⟩:=F.lst
 exact ⟨h.wi.stepL hp C,h.sh⟩
theorem FG.stepP {H:Hp}{p a:Addr}{c:Int}{ins:Nat}{tb dl gl:Addr}{k:Nat}{vs us os:List V}{ds:List Wd}{gs:List Go}{H' H'':Hp}(h:FG H p ins tb dl gl k vs us os ds gs H')(F:PPen H' p a c)(C:Chg p H' H''):FG H p ins tb dl gl k vs us os ds gs H'':=by
 obtain ⟨xs,hp⟩:=F.lst
 exact ⟨{ h.wg with wi:=h.wg.wi.stepL hp C,hrs:=h.wg.hrs.chg (by simp) C,gll:=C _ _ h.wg.gp h.wg.gll,hgs:=h.wg.hgs.chgL hp C },h.sh,h.go⟩
theorem up_snoc {db:Bool}{ds:List Wd}{d:Wd}(h:db=false -> ∀ (k:Nat) (d:Wd),ds[k]? = some d -> 0 <= d.s /\ 0 <= d.t)(h1:db=false -> 0 <= d.s)(h2:db=false -> 0 <= d.t):db=false -> ∀ (k:Nat) (e:Wd),(ds ++ [d])[k]? = some e -> 0 <= e.s /\ 0 <= e.t:=fun hd k e he=>by
 rcases get_snoc he with ⟨_,z⟩ | ⟨_,rfl⟩
 ·exact h hd k e z
 ·exact ⟨h1 hd,h2 hd⟩
end L2
set_option Elab.async false
set_option linter.all false
set_option maxRecDepth 100000
set_option maxHeartbeats 1000000
namespace L2
open PySem PySem.Spec
section
variable {K:PySem.W.Frag}{σ:St}{H:Hp}{Q:VK}{cs:List Nat}{te:TE}
theorem comp_penI {p a:Addr}{ns:List Int}{n:Nat}{lo c d:Int}(hz:n <= 1000)(hP:PPen H p a c)(hS:Scr K H a ns)(φ:Int -> Prop)
  (hb:∀ (i:Nat) H' (R:VK),i < n -> PPen H' p a (c+d * i) -> Scr K H' a ns -> Chg p H H' -> (∀ x H5,φ x -> PPen H5 p a (c+d * i+d) -> Scr K H5 a ns -> Chg p H' H5 -> R (.int x) H5) -> te (some (.int (lo+i)) :: capV cs σ) H' R)
  (hd:∀ acc (xs:List Int) H',H acc=none -> xs.length=n -> (∀ x ∈ xs,φ x) -> H' acc=some (.lst (xs.map V.int)) -> PPen H' p a (c+d * n) -> Scr K H' a ns -> Chg p H H' -> Q (.ref acc) H'):CompIt (Itr lo n) 1 cs (gName 0) tYes te σ H Q:=by
 refine comp_any n (fun acc i ws H'=>∃ xs:List Int,ws=xs.map V.int /\ xs.length=i /\ (∀ x ∈ xs,φ x) /\ H' acc=some (.lst ws) /\ PPen H' p a (c+d * i) /\ Scr K H' a ns /\ Chg p H H') (le_size hz) ?_ ?_ ?_ ?_ ?_ ?_
 ·rintro acc i ws H' hi _
  exact hi
 ·rintro acc ws H' _
  exact Nat.le_refl _
 ·intro acc ha
  have s:=same_new ha (.lst [])
  exact ⟨[],rfl,rfl,(fun x h=>by cases h),upd_same,(hP.same s).mono (by simp),hS.same s,s.chg⟩
 ·rintro acc i ws H' ⟨xs,rfl,hl,_,ha,_⟩
  exact ⟨ha,by rw [qC]; omega⟩
 ·rintro acc i ws H' ts x H2 N hn hi ⟨xs,rfl,hl,hx,ha,P1,S1,C1⟩ ⟨rfl,rfl⟩ hts hN
  obtain ⟨t0,rfl⟩:∃ t0,ts=[t0]:=by
   match ts,hts with
   | [a],_=>exact ⟨a,rfl⟩
  rw [w_gName,w_yes,if_pos rfl]
  have ap:acc ≠ p:=hP.ne hn
  refine hb i _ _ hi P1 S1 C1 fun x H5 hφ P5 S5 C5=>?_
  have ha5:=C5 _ _ ap ha
  refine ⟨ha5,hN _ [_] _ rfl ⟨xs ++ [x],by rw [List.map_append]; rfl,by simp [hl],fun y hy=>?_,upd_same,?_,S5.chg ha5 (Chg.upd _),Chg.updN (C1.trans C5) hn⟩⟩
  ·rcases List.mem_append.mp hy with z | z
   ·exact hx y z
   ·rw [List.mem_singleton.mp z]; exact hφ
  ·have e:c+d * ((i+1:Nat):Int)=c+d * i+d:=by push_cast; rw [Int.mul_add]; omega
   rw [e]
   exact P5.chg ap.symm (Chg.upd _)
 ·rintro acc ws H' hn ⟨xs,rfl,hl,hx,ha,P1,S1,C1⟩
  exact hd acc xs H' hn hl hx ha P1 S1 C1
end
def spValD (K:PySem.W.Frag):Sp:=fun vs H Q _=>∃ (p a:Addr) (ns:List Int) (c w:Int),vs=[.ref p,.int w] /\ PPen H p a c /\ Scr K H a ns /\ ns.length <= 63 /\ c <= 100000000 /\ 1 <= w /\ w <= 3000 /\
 ∀ (x:Int) H',x.natAbs <= 2 ^ 300 -> PPen H' p a (c+10) -> Scr K H' a ns -> Chg p H H' -> Q (.int x) H'
def outIn (w:Int)(vs:List Int)(g:Go):Int:=wrI (g.sg * shIn w g.sh (vs.getD g.th 0)) w
theorem rinW_at {w:Int}{xs:List Int}{ds:List Wd}{j:Nat}(h:j < xs.length+ds.length):∃ x,(rinW w xs ds)[j]? = some x /\ (rinW w xs ds).getD j 0=x /\ x ∈ rinW w xs ds:=by
 have e:=qA (l:=rinW w xs ds) (i:=j) (by unfold rinW; rw [vG_len,qC]; exact h)
 exact ⟨_,e,getD_of e,qE e⟩
theorem rinW_take {w:Int}{xs:List Int}{ds:List Wd}{i:Nat}{d:Wd}(h1:1 <= w)(hd:ds[i]? = some d):rinW w xs (ds.take (i+1))=rinW w xs (ds.take i) ++ [wrI (shIn w d.s ((rinW w xs (ds.take i)).getD d.a 0)+sgW d.w * shIn w d.t ((rinW w xs (ds.take i)).getD d.b 0)) w]:=by
 unfold rinW
 rw [vG_take hd]
 unfold vGD
 rw [gIn_two h1]
theorem rinW_len (w:Int)(xs:List Int)(ds:List Wd):(rinW w xs ds).length=xs.length+ds.length:=by unfold rinW; rw [vG_len,qC]
theorem FWeb.dkok {ins:Nat}{ds:List Wd}{gs:List Go}(F:FWeb ins ds gs):DkOk ins ds:=by
 refine ⟨fun k d hd=>?_,F.ok.dl⟩
 obtain ⟨a,b,c,e⟩:=F.sh k d hd
 exact ⟨a,b,c.1,c.2.1,e.1,e.2.1,(F.ok.dk k d hd).2.2⟩
end L2
set_option Elab.async false
set_option linter.all false
set_option maxRecDepth 100000
set_option maxHeartbeats 1000000
namespace L2
open PySem PySem.Spec PyProof.Rows
abbrev IsTri (h:Heap) (T:Addr) (a b c:Value):Prop:=h.get? T=some { cls:=.type "tuple",data:=.seq #[a,b,c] }
structure Far3 (z TI TO i1 i2 i3 l1 l2 l3:Addr):Prop where
 a1:@LT.lt Nat _ l1 i1
 a2:@LT.lt Nat _ l2 i1
 a3:@LT.lt Nat _ l3 i1
 a4:@LT.lt Nat _ i1 i2
 a5:@LT.lt Nat _ i2 i3
 a6:@LT.lt Nat _ i3 TI
 a7:@LT.lt Nat _ TI TO
 a8:@LT.lt Nat _ TO z
structure Ne3 (z TI TO i1 i2 i3 l1 l2 l3:Addr):Prop where
 TIz:TI ≠ z
 TOz:TO ≠ z
 i1z:i1 ≠ z
 i2z:i2 ≠ z
 i3z:i3 ≠ z
 TITO:TI ≠ TO
 TIi1:TI ≠ i1
 TIi2:TI ≠ i2
 TIi3:TI ≠ i3
 TOi1:TO ≠ i1
 TOi2:TO ≠ i2
 TOi3:TO ≠ i3
 i12:i1 ≠ i2
 i13:i1 ≠ i3
 i23:i2 ≠ i3
 l1z:l1 ≠ z
 l2z:l2 ≠ z
 l3z:l3 ≠ z
 l1i1:l1 ≠ i1
 l2i1:l2 ≠ i1
 l2TO:l2 ≠ TO
 l3i1:l3 ≠ i1
 l3i2:l3 ≠ i2
 l3TO:l3 ≠ TO
 l2i2:l2 ≠ i2
theorem Far3.ne {z TI TO i1 i2 i3 l1 l2 l3:Addr}(D:Far3 z TI TO i1 i2 i3 l1 l2 l3):Ne3 z TI TO i1 i2 i3 l1 l2 l3:=by
 obtain ⟨q1,q2,q3,q4,q5,q6,q7,q8⟩:=D
 constructor <;> (show ¬ @Eq Nat _ _; omega)
section
variable {prog:Program}{w:World}{A:Around}{E:Value -> Shared -> Prop}{s:Shared}
theorem upd_tri {T:Addr}{a b c x:Value}{k:Nat}{Q:Unit -> Shared -> Prop}(hT:IsTri s.heap T a b c)
  (h:∀ h',h'.get? T=some { cls:=.type "tuple",data:=.seq ((#[a,b,c]:Array Value).setIfInBounds k x) } -> Heap.SameBut T s.heap h' -> Q () { s with heap:=h' }) :
  wpAny (model prog w) A (updateSeq T (·.setIfInBounds k x)) Q E s:=by
 refine wpAny_updateSeq hT rfl (h _ ?_ (Heap.SameBut.update ..))
 rw [Heap.get?_update_self _ hT rfl]
 simp [Obj.mapSeq]
theorem zip3_item {z TI TO i1 i2 i3 l1 l2 l3:Addr}{k1 k2 k3:Nat}{xs ys ws:Array Value}{x y v a b c:Value}{Q:Value -> Shared -> Prop}(D:Ne3 z TI TO i1 i2 i3 l1 l2 l3)
  (hz:IsZip s.heap z TI TO .none) (hTI:IsTri s.heap TI (.ref i1) (.ref i2) (.ref i3)) (hTO:IsTri s.heap TO a b c)
  (h1:s.heap.IsListIter i1 l1 k1) (h2:s.heap.IsListIter i2 l2 k2) (h3:s.heap.IsListIter i3 l3 k3) (hl1:s.heap.IsList l1 xs) (hl2:s.heap.IsList l2 ys) (hl3:s.heap.IsList l3 ws) (hx:xs[k1]? = some x) (hy:ys[k2]? = some y) (hv:ws[k3]? = some v)
  (hQ:∀ h',IsZip h' z TI TO (rawInt s.heap.objs.size) -> IsTri h' TO x y v -> h'.IsListIter i1 l1 (k1+1) -> h'.IsListIter i2 l2 (k2+1) -> h'.IsListIter i3 l3 (k3+1) -> IsTri h' s.heap.objs.size x y v -> h'.objs.size=s.heap.objs.size+1 ->
   (∀ c o,c ≠ z -> c ≠ TO -> c ≠ i1 -> c ≠ i2 -> c ≠ i3 -> s.heap.get? c=some o -> h'.get? c=some o) -> Q (.ref s.heap.objs.size) { s with heap:=h' }) :
  wpAny (model prog w) A (Builtin.«zip.__next__» ⟨[.ref z],[]⟩) (fun fin s'=>∃ v,fin = .done (.ret v) /\ Q v s') E s:=by
 show wpAny _ _ (field (.ref z) 2 >>= _) _ _ _
 refine wpAny_bind (wpAny_field hz rfl (x:=.bool false) rfl ?_)
 show wpAny _ _ (field (.ref z) 3 >>= _) _ _ _
 refine wpAny_bind (wpAny_field hz rfl (x:=.ref TI) rfl ?_)
 refine wpAny_bind (wpAny_seqItems hTI rfl ?_)
 show wpAny _ _ (Builtin.SmallTypes.ownedTupleIsFree (.ref z) >>= _) _ _ _
 refine wpAny_bind ?_
 unfold Builtin.SmallTypes.ownedTupleIsFree
 refine wpAny_bind (wpAny_field hz rfl (x:=.none) rfl (wpAny_pure ?_))
 simp only [if_true]
 refine wpAny_bind (wpAny_rule ?_)
 refine wpAny_bind (wpAny_field hz rfl (x:=.ref TO) rfl ?_)
 refine wpAny_bind (wpAny_setField_rec hz (by simp) fun g1 hz1 hs1=>?_)
 replace hz1:IsZip g1 z TI TO .ellipsis:=hz1
 refine wpAny_bind ?_
 simp only [List.zipIdx_cons,List.zipIdx_nil,List.forIn_cons,List.forIn_nil]
 refine wpAny_bind (wpAny_bind (wpAny_onRaise ?_))
 show wpAny _ _ (Builtin.SmallTypes.nextOf (.ref i1) >>= _) _ _ _
 refine wpAny_bind (wpAny_nextOf_list_item (h1.extBut hs1.extBut D.i1z) (hl1.extBut hs1.extBut D.l1z) hx fun g2 h12 hs2=>wpAny_pure ?_)
 have hTO2:IsTri g2 TO a b c:=hs2.extBut _ _ D.TOi1 (hs1.extBut _ _ D.TOz hTO)
 refine wpAny_bind (wpAny_seqItems hTO2 rfl ?_)
 refine wpAny_bind (upd_tri hTO2 fun g3 hTO3 hs3=>?_)
 replace hTO3:IsTri g3 TO x b c:=hTO3
 refine wpAny_bind (wpAny_letGo (wpAny_pure ?_))
 refine wpAny_bind (wpAny_bind (wpAny_onRaise ?_))
 show wpAny _ _ (Builtin.SmallTypes.nextOf (.ref i2) >>= _) _ _ _
 refine wpAny_bind (wpAny_nextOf_list_item (((h2.extBut hs1.extBut D.i2z).extBut hs2.extBut D.i12.symm).extBut hs3.extBut D.TOi2.symm)
  (((hl2.extBut hs1.extBut D.l2z).extBut hs2.extBut D.l2i1).extBut hs3.extBut D.l2TO) hy fun g4 h24 hs4=>wpAny_pure ?_)
 have hTO4:IsTri g4 TO x b c:=hs4.extBut _ _ D.TOi2 hTO3
 refine wpAny_bind (wpAny_seqItems hTO4 rfl ?_)
 refine wpAny_bind (upd_tri hTO4 fun g5 hTO5 hs5=>?_)
 replace hTO5:IsTri g5 TO x y c:=hTO5
 refine wpAny_bind (wpAny_letGo (wpAny_pure ?_))
 refine wpAny_bind (wpAny_bind (wpAny_onRaise ?_))
 show wpAny _ _ (Builtin.SmallTypes.nextOf (.ref i3) >>= _) _ _ _
 refine wpAny_bind (wpAny_nextOf_list_item (((((h3.extBut hs1.extBut D.i3z).extBut hs2.extBut D.i13.symm).extBut hs3.extBut D.TOi3.symm).extBut hs4.extBut D.i23.symm).extBut hs5.extBut D.TOi3.symm)
  (((((hl3.extBut hs1.extBut D.l3z).extBut hs2.extBut D.l3i1).extBut hs3.extBut D.l3TO).extBut hs4.extBut D.l3i2).extBut hs5.extBut D.l3TO) hv fun g6 h36 hs6=>wpAny_pure ?_)
 have hTO6:IsTri g6 TO x y c:=hs6.extBut _ _ D.TOi3 hTO5
 refine wpAny_bind (wpAny_seqItems hTO6 rfl ?_)
 refine wpAny_bind (upd_tri hTO6 fun g7 hTO7 hs7=>?_)
 replace hTO7:IsTri g7 TO x y v:=hTO7
 refine wpAny_bind (wpAny_letGo (wpAny_pure (wpAny_pure ?_)))
 refine wpAny_bind (wpAny_seqItems hTO7 rfl ?_)
 refine wpAny_bind (wpAny_newTuple ?_)
 have hsz:g7.objs.size=s.heap.objs.size:=by rw [hs7.1,hs6.1,hs5.1,hs4.1,hs3.1,hs2.1,hs1.1]
 have kz:∀ c o,c ≠ TO -> c ≠ i1 -> c ≠ i2 -> c ≠ i3 -> g1.get? c=some o -> g7.get? c=some o:=fun c o c2 c3 c4 c5 e =>
  hs7.extBut _ _ c2 (hs6.extBut _ _ c5 (hs5.extBut _ _ c2 (hs4.extBut _ _ c4 (hs3.extBut _ _ c2 (hs2.extBut _ _ c3 e)))))
 have hz7:IsZip g7 z TI TO .ellipsis:=kz _ _ D.TOz.symm D.i1z.symm D.i2z.symm D.i3z.symm hz1
 have hk7:∀ c o,c ≠ z -> c ≠ TO -> c ≠ i1 -> c ≠ i2 -> c ≠ i3 -> s.heap.get? c=some o -> g7.get? c=some o:=fun c o c1 c2 c3 c4 c5 e=>kz c o c2 c3 c4 c5 (hs1.extBut _ _ c1 e)
 have h17:g7.IsListIter i1 l1 (k1+1):=((((h12.extBut hs3.extBut D.TOi1.symm).extBut hs4.extBut D.i12).extBut hs5.extBut D.TOi1.symm).extBut hs6.extBut D.i13).extBut hs7.extBut D.TOi1.symm
 have h27:g7.IsListIter i2 l2 (k2+1):=((h24.extBut hs5.extBut D.TOi2.symm).extBut hs6.extBut D.i23).extBut hs7.extBut D.TOi2.symm
 have h37:g7.IsListIter i3 l3 (k3+1):=h36.extBut hs7.extBut D.TOi3.symm
 have hzlt:z < g7.objs.size:=Heap.lt_size hz7
 show wpAny _ _ (Builtin.SmallTypes.ownedTupleHandOut (.ref z) (.ref g7.objs.size) >>= _) _ _ _
 refine wpAny_bind ?_
 unfold Builtin.SmallTypes.ownedTupleHandOut
 have hz8:IsZip (g7.push { cls:=.type "tuple",data:=.seq #[x,y,v] }) z TI TO .ellipsis:=Heap.get?_push_of_some _ hz7
 refine wpAny_bind (wpAny_setField_rec hz8 (by simp) fun g9 hz9 hs9=>?_)
 replace hz9:IsZip g9 z TI TO (rawInt g7.objs.size):=hz9
 refine wpAny_setField_rec hz9 (by simp) fun g10 hz10 hs10=>?_
 replace hz10:IsZip g10 z TI TO (rawInt g7.objs.size):=hz10
 have up:∀ c o,c ≠ z -> g7.get? c=some o -> g10.get? c=some o:=fun c o c1 e=>hs10.extBut _ _ c1 (hs9.extBut _ _ c1 (Heap.get?_push_of_some _ e))
 have hT10:IsTri g10 g7.objs.size x y v:=hs10.extBut _ _ (Nat.ne_of_gt hzlt) (hs9.extBut _ _ (Nat.ne_of_gt hzlt) (Heap.get?_push_size _ rfl))
 have hsz10:g10.objs.size=g7.objs.size+1:=by rw [hs10.1,hs9.1,Heap.size_push]
 rw [hsz] at hz10 hT10 hsz10
 refine wpAny_pure ⟨_,rfl,?_⟩
 show Q (.ref g7.objs.size) _
 rw [hsz]
 exact hQ g10 hz10 (up _ _ D.TOz hTO7) (h17.at fun o e=>up _ o D.i1z e) (h27.at fun o e=>up _ o D.i2z e) (h37.at fun o e=>up _ o D.i3z e) hT10 hsz10 fun c o c1 c2 c3 c4 c5 e=>up c o c1 (hk7 c o c1 c2 c3 c4 c5 e)
theorem zip3_end {z TI TO i1 i2 i3 l1 l2 l3:Addr}{k1:Nat}{xs:Array Value}{a b c:Value}{Q:Fin -> Shared -> Prop}(hh:A.handled=none)(D:Ne3 z TI TO i1 i2 i3 l1 l2 l3)
  (hz:IsZip s.heap z TI TO .none) (hTI:IsTri s.heap TI (.ref i1) (.ref i2) (.ref i3)) (hTO:IsTri s.heap TO a b c)
  (h1:s.heap.IsListIter i1 l1 k1) (hl1:s.heap.IsList l1 xs) (hx:xs[k1]? = none)
  (hE:∀ h' e,(∀ c o,c ≠ z -> c ≠ i1 -> s.heap.get? c=some o -> h'.get? c=some o) -> (∃ o,h'.get? e=some o /\ o.cls = .type "StopIteration") -> E (.ref e) { s with heap:=h' }) :
  wpAny (model prog w) A (Builtin.«zip.__next__» ⟨[.ref z],[]⟩) Q E s:=by
 show wpAny _ _ (field (.ref z) 2 >>= _) _ _ _
 refine wpAny_bind (wpAny_field hz rfl (x:=.bool false) rfl ?_)
 show wpAny _ _ (field (.ref z) 3 >>= _) _ _ _
 refine wpAny_bind (wpAny_field hz rfl (x:=.ref TI) rfl ?_)
 refine wpAny_bind (wpAny_seqItems hTI rfl ?_)
 show wpAny _ _ (Builtin.SmallTypes.ownedTupleIsFree (.ref z) >>= _) _ _ _
 refine wpAny_bind ?_
 unfold Builtin.SmallTypes.ownedTupleIsFree
 refine wpAny_bind (wpAny_field hz rfl (x:=.none) rfl (wpAny_pure ?_))
 simp only [if_true]
 refine wpAny_bind (wpAny_rule ?_)
 refine wpAny_bind (wpAny_field hz rfl (x:=.ref TO) rfl ?_)
 refine wpAny_bind (wpAny_setField_rec hz (by simp) fun g1 hz1 hs1=>?_)
 replace hz1:IsZip g1 z TI TO .ellipsis:=hz1
 refine wpAny_bind ?_
 simp only [List.zipIdx_cons,List.zipIdx_nil,List.forIn_cons,List.forIn_nil]
 refine wpAny_bind (wpAny_bind (wpAny_onRaise ?_))
 show wpAny _ _ (Builtin.SmallTypes.nextOf (.ref i1) >>= _) _ _ _
 refine wpAny_bind (wpAny_nextOf_list_end hh (h1.extBut hs1.extBut D.i1z) (hl1.extBut hs1.extBut D.l1z) hx fun g2 e hs2 he=>?_)
 obtain ⟨oe,hoe,hce⟩:=he
 have hz2:IsZip g2 z TI TO .ellipsis:=hs2 _ _ D.i1z.symm hz1
 have hez:e ≠ z:=fun x=>by subst x; rw [hz2] at hoe; cases hoe; simp at hce
 exact wpAny_setField_rec hz2 (by simp) fun g3 _ hs3=>hE g3 e (fun c o c1 c3 x=>hs3.extBut _ _ c1 (hs2 _ _ c3 (hs1.extBut _ _ c1 x))) ⟨oe,hs3.extBut _ _ hez hoe,hce⟩
theorem next_zip3 {z TI TO i1 i2 i3 l1 l2 l3:Addr}{k1 k2 k3:Nat}{xs ys ws:Array Value}{x y v a b c:Value}{Q:Option Value -> Shared -> Prop}(D:Ne3 z TI TO i1 i2 i3 l1 l2 l3)
  (hz:IsZip s.heap z TI TO .none) (hTI:IsTri s.heap TI (.ref i1) (.ref i2) (.ref i3)) (hTO:IsTri s.heap TO a b c)
  (h1:s.heap.IsListIter i1 l1 k1) (h2:s.heap.IsListIter i2 l2 k2) (h3:s.heap.IsListIter i3 l3 k3) (hl1:s.heap.IsList l1 xs) (hl2:s.heap.IsList l2 ys) (hl3:s.heap.IsList l3 ws) (hx:xs[k1]? = some x) (hy:ys[k2]? = some y) (hv:ws[k3]? = some v)
  (hQ:∀ h',IsZip h' z TI TO (rawInt s.heap.objs.size) -> IsTri h' TO x y v -> h'.IsListIter i1 l1 (k1+1) -> h'.IsListIter i2 l2 (k2+1) -> h'.IsListIter i3 l3 (k3+1) -> IsTri h' s.heap.objs.size x y v -> h'.objs.size=s.heap.objs.size+1 ->
   (∀ c o,c ≠ z -> c ≠ TO -> c ≠ i1 -> c ≠ i2 -> c ≠ i3 -> s.heap.get? c=some o -> h'.get? c=some o) -> Q (some (.ref s.heap.objs.size)) { s with heap:=h' }) :
  wpAny (model prog w) A (pyNext (.ref z)) Q E s:=by
 have hT:s.TypeIs (.ref z) "zip":=⟨_,hz,rfl⟩
 unfold pyNext
 exact wpAny_bind (wpAny_attempt (wpAny_callSpecial?_slot (name:=Str.ofString "__next__") hT F.slot_zip_next
  (wpAny_call_entry F.slot_zip_next hT F.entry_zip_next
   (zip3_item D hz hTI hTO h1 h2 h3 hl1 hl2 hl3 hx hy hv fun h' a1 a2 a3 a4 a5 a6 a7 a8=>wpAny_pure (hQ h' a1 a2 a3 a4 a5 a6 a7 a8)) (F.args_zip_next_1 _))))
theorem next_zip3_end {z TI TO i1 i2 i3 l1 l2 l3:Addr}{k1:Nat}{xs:Array Value}{a b c:Value}{Q:Option Value -> Shared -> Prop}(hh:A.handled=none)(D:Ne3 z TI TO i1 i2 i3 l1 l2 l3)
  (hz:IsZip s.heap z TI TO .none) (hTI:IsTri s.heap TI (.ref i1) (.ref i2) (.ref i3)) (hTO:IsTri s.heap TO a b c)
  (h1:s.heap.IsListIter i1 l1 k1) (hl1:s.heap.IsList l1 xs) (hx:xs[k1]? = none)
  (hQ:∀ h',(∀ c o,c ≠ z -> c ≠ i1 -> s.heap.get? c=some o -> h'.get? c=some o) -> Q none { s with heap:=h' }):wpAny (model prog w) A (pyNext (.ref z)) Q E s:=by
 have hT:s.TypeIs (.ref z) "zip":=⟨_,hz,rfl⟩
 unfold pyNext
 refine wpAny_bind (wpAny_attempt (wpAny_callSpecial?_slot (name:=Str.ofString "__next__") hT F.slot_zip_next
  (wpAny_call_entry F.slot_zip_next hT F.entry_zip_next (zip3_end hh D hz hTI hTO h1 hl1 hx fun h' e hk he=>?_) (F.args_zip_next_1 _))))
 obtain ⟨o,ho,hc⟩:=he
 refine wpAny_bind (wpAny_isInstance (T:="StopIteration") (b:=true) ⟨o,ho,hc⟩ isSubtype_stop ?_)
 exact wpAny_pure (hQ _ hk)
end
abbrev z3H1 (h:Heap) (l1:Addr):Heap:=h.push { cls:=.type "list_iterator",data:=.fields #[.ref l1,.int 0 0] }
abbrev z3H2 (h:Heap) (l1 l2:Addr):Heap:=(z3H1 h l1).push { cls:=.type "list_iterator",data:=.fields #[.ref l2,.int 0 0] }
abbrev z3H3 (h:Heap) (l1 l2 l3:Addr):Heap:=(z3H2 h l1 l2).push { cls:=.type "list_iterator",data:=.fields #[.ref l3,.int 0 0] }
abbrev z3H4 (h:Heap) (l1 l2 l3:Addr):Heap:=(z3H3 h l1 l2 l3).push { cls:=.type "tuple",data:=.seq #[.ref h.objs.size,.ref (z3H1 h l1).objs.size,.ref (z3H2 h l1 l2).objs.size] }
abbrev z3H5 (h:Heap) (l1 l2 l3:Addr):Heap:=(z3H4 h l1 l2 l3).push { cls:=.type "tuple",data:=.seq #[.none,.none,.none] }
abbrev z3H6 (h:Heap) (l1 l2 l3:Addr):Heap:=(z3H5 h l1 l2 l3).push { cls:=.type "zip",data:=.fields #[.none,.bool false,.bool false,.ref (z3H3 h l1 l2 l3).objs.size,.ref (z3H4 h l1 l2 l3).objs.size] }
theorem meets_zip3 (l1 l2 l3:Addr)(xs ys zs:Array Value) :
  Meets (Builtin.«zip.__new__» ⟨[.type "zip",.ref l1,.ref l2,.ref l3],[]⟩) (fun _ R s=>s.heap.IsList l1 xs /\ s.heap.IsList l2 ys /\ s.heap.IsList l3 zs /\
   R (.ok (.ret (.ref (z3H5 s.heap l1 l2 l3).objs.size))) { s with heap:=z3H6 s.heap l1 l2 l3 }) :=
 .of_wp fun prog w A R s h=>by
  obtain ⟨hp,g,d,tk,os⟩:=s; obtain ⟨hl1,hl2,hl3,h⟩:=h
  have hsub:=sub_zip
  have hL1:Heap.IsList (Shared.heap ⟨hp,g,d,tk,os⟩) l1 xs:=hl1
  have hL2:Heap.IsList (Shared.heap ⟨z3H1 hp l1,g,d,tk,os⟩) l2 ys:=Heap.IsList.push hl2 _
  have hL3:Heap.IsList (Shared.heap ⟨z3H2 hp l1 l2,g,d,tk,os⟩) l3 zs:=Heap.IsList.push (Heap.IsList.push hl3 _) _
  wp_walk using wpAny_pyIter_list hL1,wpAny_pyIter_list hL2,wpAny_pyIter_list hL3
  exact ⟨_,rfl,h⟩
theorem typeCall_zip3 (a b c:Value):checkTypeCall "zip" ⟨[a,b,c],[]⟩=pure ():=by kernel_rfl
theorem newCall_zip3 (a b c:Value):checkBuiltinCall "zip.__new__" ⟨[.type "zip",a,b,c],[]⟩=pure ():=by kernel_rfl
theorem args_init4 (a b c d:Value):argsOk "object.__init__" ⟨[a,b,c,d],[]⟩:=by
 unfold argsOk; rw [signature?_of (id:="object.__init__") (n:=['_','_','t','i','n','i','_','_']) (o:=['t','c','e','j','b','o']) (by kernel_rfl) F.owner_object]; kernel_rfl
section
variable {prog:Program}{w:World}{A:Around}{E:Value -> Shared -> Prop}{s:Shared}
theorem call_zip3 {l1 l2 l3:Addr}{xs ys zs:Array Value}{Q:Value -> Shared -> Prop}(hl1:s.heap.IsList l1 xs)(hl2:s.heap.IsList l2 ys)(hl3:s.heap.IsList l3 zs)
  (h:∀ h',IsZip h' (s.heap.objs.size+5) (s.heap.objs.size+3) (s.heap.objs.size+4) .none -> IsTri h' (s.heap.objs.size+3) (.ref s.heap.objs.size) (.ref (s.heap.objs.size+1)) (.ref (s.heap.objs.size+2)) ->
   IsTri h' (s.heap.objs.size+4) .none .none .none -> h'.IsListIter s.heap.objs.size l1 0 -> h'.IsListIter (s.heap.objs.size+1) l2 0 -> h'.IsListIter (s.heap.objs.size+2) l3 0 ->
   (∀ c o,s.heap.get? c=some o -> h'.get? c=some o) -> Q (.ref (s.heap.objs.size+5)) { s with heap:=h' }) :
  wpAny (model prog w) A (call (.type "zip") [.ref l1,.ref l2,.ref l3]) Q E s:=by
 refine callType_new F.called_zip (by decide) (typeCall_zip3 _ _ _) (newCall_zip3 _ _ _) (fun obj=>args_init4 obj _ _ _) F.entry_zip_new
  (meets_zip3 l1 l2 l3 xs ys zs) ⟨hl1,hl2,hl3,?_⟩
 have z1:(z3H1 s.heap l1).objs.size=s.heap.objs.size+1:=Heap.size_push ..
 have z2:(z3H2 s.heap l1 l2).objs.size=s.heap.objs.size+2:=by rw [Heap.size_push,z1]
 have z3:(z3H3 s.heap l1 l2 l3).objs.size=s.heap.objs.size+3:=by rw [Heap.size_push,z2]
 have z4:(z3H4 s.heap l1 l2 l3).objs.size=s.heap.objs.size+4:=by rw [Heap.size_push,z3]
 have z5:(z3H5 s.heap l1 l2 l3).objs.size=s.heap.objs.size+5:=by rw [Heap.size_push,z4]
 have g6:(z3H6 s.heap l1 l2 l3).get? (z3H5 s.heap l1 l2 l3).objs.size=some _:=Heap.get?_push_size _ rfl
 have g5:(z3H6 s.heap l1 l2 l3).get? (z3H4 s.heap l1 l2 l3).objs.size=some _:=Heap.get?_push_of_some _ (Heap.get?_push_size _ rfl)
 have g4:(z3H6 s.heap l1 l2 l3).get? (z3H3 s.heap l1 l2 l3).objs.size=some _:=Heap.get?_push_of_some _ (Heap.get?_push_of_some _ (Heap.get?_push_size _ rfl))
 have g3:(z3H6 s.heap l1 l2 l3).get? (z3H2 s.heap l1 l2).objs.size=some _:=Heap.get?_push_of_some _ (Heap.get?_push_of_some _ (Heap.get?_push_of_some _ (Heap.get?_push_size _ rfl)))
 have g2:(z3H6 s.heap l1 l2 l3).get? (z3H1 s.heap l1).objs.size=some _:=Heap.get?_push_of_some _ (Heap.get?_push_of_some _ (Heap.get?_push_of_some _ (Heap.get?_push_of_some _ (Heap.get?_push_size _ rfl))))
 have g1:(z3H6 s.heap l1 l2 l3).get? s.heap.objs.size=some _:=Heap.get?_push_of_some _ (Heap.get?_push_of_some _ (Heap.get?_push_of_some _ (Heap.get?_push_of_some _ (Heap.get?_push_of_some _ (Heap.get?_push_size _ rfl)))))
 show _ /\ _
 rw [z3,z4,z5] at g6
 rw [z4] at g5
 rw [z1,z2,z3] at g4
 rw [z2] at g3
 rw [z1] at g2
 rw [z5]
 exact ⟨⟨_,g6,rfl⟩,h _ g6 g4 g5 ⟨_,g1,rfl,rfl⟩ ⟨_,g2,rfl,rfl⟩ ⟨_,g3,rfl,rfl⟩ fun c o x =>
  Heap.get?_push_of_some _ (Heap.get?_push_of_some _ (Heap.get?_push_of_some _ (Heap.get?_push_of_some _ (Heap.get?_push_of_some _ (Heap.get?_push_of_some _ x)))))⟩
end
def Itz3 (K : PySem.W.Frag)(a b c : Addr) : It :=
  ⟨fun i H => ∃ xs ys zs, SqL K H a xs ∧ SqL K H b ys ∧ SqL K H c zs ∧ i < xs.length ∧ i < ys.length ∧ i < zs.length,
   fun i H x H' => ∃ T u v t, x = .ref T ∧ H T = none ∧ H' = upd H T (.tup [u, v, t]) ∧ (∀ xs, SqL K H a xs → xs[i]? = some u) ∧ (∀ ys, SqL K H b ys → ys[i]? = some v) ∧ (∀ zs, SqL K H c zs → zs[i]? = some t),
   fun i H => ∃ xs, SqL K H a xs ∧ xs.length ≤ i⟩
def tnZ3 (z TI TO i1 i2 i3 a b c:Addr)(i:Nat)(h:Heap):Prop:=IsZip h z TI TO .none /\ IsTri h TI (.ref i1) (.ref i2) (.ref i3) /\ (∃ x y t,IsTri h TO x y t) /\ h.IsListIter i1 a i /\ h.IsListIter i2 b i /\ h.IsListIter i3 c i
theorem turn_zip3 {P:Program}{w:World}{K:PySem.W.Frag}{elts:List Expr}{x1:Nat}{pos:Pos}{z TI TO i1 i2 i3 a b c:Addr}(D:Ne3 z TI TO i1 i2 i3 a b c):Turn P w K (.Tuple elts x1 pos) (Itz3 K a b c) [z,TI,TO,i1,i2,i3] z (tnZ3 z TI TO i1 i2 i3 a b c) where
 mem:=by simp
 obj:=fun i h st c hc=>by
  obtain ⟨t1,t2,⟨x0,y0,v0,t3⟩,⟨o4,e4,c4,d4⟩,⟨o5,e5,c5,d5⟩,⟨o6,e6,c6,d6⟩⟩:=st
  simp only [List.mem_cons,List.not_mem_nil,or_false] at hc
  rcases hc with e | e | e | e | e | e <;> subst e
  ·exact ⟨_,t1,fun v q=>by cases q⟩
  ·exact ⟨_,t2,fun v q=>by cases q⟩
  ·exact ⟨_,t3,fun v q=>by cases q⟩
  ·exact ⟨o4,e4,fun v q=>by rw [d4] at q; cases q⟩
  ·exact ⟨o5,e5,fun v q=>by rw [d5] at q; cases q⟩
  ·exact ⟨o6,e6,fun v q=>by rw [d6] at q; cases q⟩
 keep:=fun i h h' st k=>by
  obtain ⟨t1,t2,⟨x0,y0,v0,t3⟩,t4,t5,t6⟩:=st
  exact ⟨k z (by simp) _ t1,k TI (by simp) _ t2,⟨x0,y0,v0,k TO (by simp) _ t3⟩,t4.at fun o e=>k i1 (by simp) o e,t5.at fun o e=>k i2 (by simp) o e,t6.at fun o e=>k i3 (by simp) o e⟩
 item:=by
  intro X hP hw hK hc i pins s σ H E I hf st hg
  subst hP hw hK
  obtain ⟨xs,ys,zs,hq,hq2,hq3,hi,hi2,hi3⟩:=hg
  obtain ⟨its,rv,p,hz⟩:=I.list hq
  obtain ⟨its2,rv2,p2,hz2⟩:=I.list hq2
  obtain ⟨its3,rv3,p3,hz3⟩:=I.list hq3
  obtain ⟨u,hu,ru⟩:=rv.get (qA hi)
  obtain ⟨v,hv,rv'⟩:=rv2.get (qA hi2)
  obtain ⟨t,ht,rt⟩:=rv3.get (qA hi3)
  obtain ⟨t1,t2,⟨x0,y0,v0,t3⟩,t4,t5,t6⟩:=st
  have hl1:z < s.heap.objs.size:=Heap.lt_size t1
  have hl3:TO < s.heap.objs.size:=Heap.lt_size t3
  have hl2:TI < s.heap.objs.size:=Heap.lt_size t2
  have hl4:i1 < s.heap.objs.size:=by obtain ⟨o,e,_⟩:=t4; exact Heap.lt_size e
  have hl5:i2 < s.heap.objs.size:=by obtain ⟨o,e,_⟩:=t5; exact Heap.lt_size e
  have hl6:i3 < s.heap.objs.size:=by obtain ⟨o,e,_⟩:=t6; exact Heap.lt_size e
  refine next_zip3 D t1 t2 t3 t4 t5 t6 p.isList p2.isList p3.isList (x:=u) (y:=v) (v:=t) (by simpa using hu) (by simpa using hv) (by simpa using ht) fun h' a1 a2 a3 a4 a5 a6 a7 a8=>⟨_,rfl,?_⟩
  refine wpAny_letOwnedTupleGo_zip a1 fun h2 b1 b2=>?_
  have hT0:H s.heap.objs.size=none:=I.hok.fresh (Nat.le_refl _)
  have I1:Inv X pins σ (upd H s.heap.objs.size (.tup [xs[i],ys[i],zs[i]])) { s with heap:=s.heap.push { cls:=.type "tuple",data:=.seq [u,v,t].toArray } } :=
   I.laid (t':=s.toks) (fun b o e=>Heap.get?_push_of_some _ e) (Nat.le_refl _) (show ObjOk X.prog X.w _ _ _ (.tup [xs[i],ys[i],zs[i]]) from ⟨le_size (by show 3 <= 1000; decide),[u,v,t],.cons ru (.cons rv' (.cons rt .nil)),IsTup.new _ _⟩)
  have fpk:∀ c ∈ [z,TI,TO,i1,i2,i3],c ≠ s.heap.objs.size:=fun c hc=>by
   simp only [List.mem_cons,List.not_mem_nil,or_false] at hc
   rcases hc with e | e | e | e | e | e <;> subst e <;> exact Nat.ne_of_lt (by assumption)
  have fp2:∀ c ∈ [z,TI,TO,i1,i2,i3],FpOk X pins (upd H s.heap.objs.size (.tup [xs[i],ys[i],zs[i]])) c:=fun c hc=>by
   obtain ⟨f0,f⟩:=hf c hc
   exact ⟨by rw [upd_ne (fpk c hc)]; exact f0,f⟩
  have I2:Inv X pins σ (upd H s.heap.objs.size (.tup [xs[i],ys[i],zs[i]])) { s with heap:=h2 }:=by
   refine Inv.turnedL (s:={ s with heap:=s.heap.push { cls:=.type "tuple",data:=.seq [u,v,t].toArray } }) (t':=s.toks) (h':=h2) [z,TO,i1,i2,i3] I1 (fun b o hb e=>?_) (fun c hc=>fp2 c (by simp only [List.mem_cons,List.not_mem_nil,or_false] at hc ⊢; rcases hc with e | e | e | e | e <;> simp [e]))
   simp only [List.mem_cons,List.not_mem_nil,or_false,not_or] at hb
   obtain ⟨n1,n2,n3,n4,n5⟩:=hb
   refine (b2.2 b n1).trans ?_
   by_cases hT:b=s.heap.objs.size
   ·subst hT
    rw [Heap.get?_push_size _ rfl] at e
    rw [← e]
    exact a6
   ·exact a8 b o n1 n2 n3 n4 n5 (get_push_ne hT e)
  have t4':h2.IsListIter i1 a (i+1):=a3.at fun o e=>(b2.2 _ D.i1z).trans e
  have t5':h2.IsListIter i2 b (i+1):=a4.at fun o e=>(b2.2 _ D.i2z).trans e
  have t6':h2.IsListIter i3 c (i+1):=a5.at fun o e=>(b2.2 _ D.i3z).trans e
  refine ⟨.ref s.heap.objs.size,_,I2,rfl,⟨_,xs[i],ys[i],zs[i],rfl,hT0,rfl,fun zs h=>?_,fun zs h=>?_,fun zs h=>?_⟩,⟨b1,(b2.2 _ D.TIz).trans (a8 TI _ D.TIz D.TITO D.TIi1 D.TIi2 D.TIi3 t2),⟨_,_,_,(b2.2 _ D.TOz).trans a2⟩,t4',t5',t6'⟩,fun c hc=>(fp2 c hc).1⟩
  ·rw [I.list_inj h hq]; exact qA hi
  ·rw [I.list_inj h hq2]; exact qA hi2
  ·rw [I.list_inj h hq3]; exact qA hi3
 done:=by
  intro X hP hw hK hc i pins s σ H E I hf st hg
  subst hP hw hK
  obtain ⟨xs,hq,hend⟩:=hg
  obtain ⟨its,rv,p,hz⟩:=I.list hq
  obtain ⟨t1,t2,⟨x0,y0,v0,t3⟩,t4,t5,t6⟩:=st
  refine next_zip3_end (I.ok.hd hc) D t1 t2 t3 t4 p.isList ?_ fun h' a7=>⟨rfl,?_⟩
  ·simp [← rv.length,hend]
  ·refine Inv.turnedL (t':=s.toks) (h':=h') [z,i1] I (fun b o hb e=>?_) (fun c hc=>hf c (by simp only [List.mem_cons,List.not_mem_nil,or_false] at hc ⊢; rcases hc with e | e <;> simp [e]))
   simp only [List.mem_cons,List.not_mem_nil,or_false,not_or] at hb
   obtain ⟨n1,n2⟩:=hb
   exact a7 b o n1 n2 e
 self:=fun _ _ _ _ _ st h=>wpAny_pyIter_zip st.1 h
def iZip3 (K:PySem.W.Frag)(ta:TA):TI:=fun σ H R=>ta σ H fun vs H1=>∃ a b c xs ys zs,vs=[.ref a,.ref b,.ref c] /\ SqL K H1 a xs /\ SqL K H1 b ys /\ SqL K H1 c zs /\ R (Itz3 K a b c) H1
theorem pi_zip3 {X:Cx} {elts:List Expr} {x1:Nat} {tpos:Pos} {a b c:Expr} {ta:TA} {p pos:Pos} (hg:Gl X "zip") (hm:X.mg "zip" = none) (ha:PA X [a,b,c] ta) (hs:starEach [a,b,c] X.env=(false,eval a X.env) :: starEach [b,c] X.env:=by rfl) (hpl:(backTo pos (starEach [b,c] X.env)).any (·.1)=false:=by rfl) :
  PI X (.Tuple elts x1 tpos) (.Call (.Name "zip" p) [a,b,c] [] pos) (iZip3 X.K ta):=by
 intro pins s σ H R I h
 refine Call_ (ld_blt I hg hm bo_zip (PyProof.Rows.callWith_type1 (thn (ha pos pins s σ H _ I h) fun us s1 ⟨vs,H1,I1,r1,q1⟩=>?_) hs hpl))
 obtain ⟨l1,l2,l3,xs,ys,zs,e,hq,hq2,hq3,q⟩:=q1
 subst e
 obtain ⟨u1,u2,u3,rfl,ru1,ru2,ru3⟩:=vals3 r1
 cases (show u1=Value.ref l1 from ru1)
 cases (show u2=Value.ref l2 from ru2)
 cases (show u3=Value.ref l3 from ru3)
 obtain ⟨its,rv,pl,hz⟩:=I1.list hq
 obtain ⟨its2,rv2,pl2,hz2⟩:=I1.list hq2
 obtain ⟨its3,rv3,pl3,hz3⟩:=I1.list hq3
 have lt1:l1 < s1.heap.objs.size:=by obtain ⟨o,e,_⟩:=pl.isList; exact Heap.lt_size e
 have lt2:l2 < s1.heap.objs.size:=by obtain ⟨o,e,_⟩:=pl2.isList; exact Heap.lt_size e
 have lt3:l3 < s1.heap.objs.size:=by obtain ⟨o,e,_⟩:=pl3.isList; exact Heap.lt_size e
 refine call_zip3 pl.isList pl2.isList pl3.isList fun h' z1 z2 z3 z4 z5 z6 z7=>?_
 have I2:Inv X pins σ H1 { s1 with heap:=h' }:=I1.kept (t':=s1.toks) z7
 refine wpAny_pyIter_zip z1 ?_
 have D:Far3 (s1.heap.objs.size+5) (s1.heap.objs.size+3) (s1.heap.objs.size+4) s1.heap.objs.size (s1.heap.objs.size+1) (s1.heap.objs.size+2) l1 l2 l3:=by
  constructor
  ·exact lt1
  ·exact lt2
  ·exact lt3
  all_goals (show @LT.lt Nat _ _ _; omega)
 refine ⟨s1.heap.objs.size+5,_,_,_,H1,rfl,I2,turn_zip3 D.ne,⟨z1,z2,⟨_,_,_,z3⟩,z4,z5,z6⟩,fun c hc=>?_,q⟩
 have hle:s1.heap.objs.size <= c:=by
  simp only [List.mem_cons,List.not_mem_nil,or_false] at hc
  show (s1.heap.objs.size:Nat) <= c
  rcases hc with e | e | e | e | e | e <;> subst e <;> (show @LE.le Nat _ _ _; omega)
 exact I1.fpOk hle (I1.hok.fresh hle)
def ForZ3 (K:PySem.W.Frag)(a b c:Addr)(g:TG)(tb:TS)(D:Ends)(σ:St)(H:Hp):Prop:=∃ W:Nat -> Nat -> St -> Hp -> Prop,(∃ m,W 0 m σ H) /\ ∀ i m σ H,W i m σ H ->
 ((Itz3 K a b c).stop i H /\ D.nx σ H) \/ ((Itz3 K a b c).go i H /\ ∃ N:St -> Hp -> Prop,(∀ σ' H',N σ' H' -> ∃ m',m' < m /\ W (i+1) m' σ' H') /\ ∀ x H',(Itz3 K a b c).yld i H x H' -> g x σ H' fun σ2 H2=>tb { D with nx:=N,ct:=N,bk:=D.nx } σ2 H2)
section
variable {K:PySem.W.Frag}{σ:St}{H:Hp}{D:Ends}{g:TG}{tb:TS}{a b c:Addr}
theorem w_forZ3 {ta:TA}:tFor (iZip3 K ta) g tb D σ H=(ta σ H fun vs H1=>∃ a b c xs ys zs,vs=[.ref a,.ref b,.ref c] /\ SqL K H1 a xs /\ SqL K H1 b ys /\ SqL K H1 c zs /\ ForZ3 K a b c g tb D σ H1):=rfl
theorem forZ3 {xs ys zs:List V}(hxy:ys.length=xs.length)(hxz:zs.length=xs.length)(Pv:Nat -> St -> Hp -> Prop)(h0:Pv 0 σ H)(hl:∀ i σ H,i <= xs.length -> Pv i σ H -> SqL K H a xs /\ SqL K H b ys /\ SqL K H c zs)
  (hs:∀ i x y z T σ H (N:St -> Hp -> Prop),xs[i]? = some x -> ys[i]? = some y -> zs[i]? = some z -> H T=none -> Pv i σ H -> (∀ σ' H',Pv (i+1) σ' H' -> N σ' H') -> g (.ref T) σ (upd H T (.tup [x,y,z])) fun σ2 H2=>tb { D with nx:=N,ct:=N,bk:=D.nx } σ2 H2)
  (hd:∀ σ H,Pv xs.length σ H -> D.nx σ H):ForZ3 K a b c g tb D σ H:=by
 refine ⟨fun i m σ H=>m=xs.length - i /\ i <= xs.length /\ Pv i σ H,⟨_,rfl,Nat.zero_le _,h0⟩,?_⟩
 rintro i m σ H ⟨rfl,hi,p⟩
 obtain ⟨q1,q2,q3⟩:=hl i σ H hi p
 by_cases hlt:i < xs.length
 ·refine .inr ⟨⟨xs,ys,zs,q1,q2,q3,hlt,by omega,by omega⟩,Pv (i+1),fun σ' H' p'=>⟨xs.length - (i+1),by omega,rfl,hlt,p'⟩,fun x H' y=>?_⟩
  obtain ⟨T,u,v,t,rfl,hT,rfl,e1,e2,e3⟩:=y
  exact hs i u v t T σ H (Pv (i+1)) (e1 _ q1) (e2 _ q2) (e3 _ q3) hT p fun _ _ z=>z
 ·have e:i=xs.length:=by omega
  subst e
  exact .inl ⟨⟨xs,q1,Nat.le_refl _⟩,hd σ H p⟩
end
end L2
set_option Elab.async false
set_option linter.all false
set_option maxRecDepth 100000
set_option maxHeartbeats 1000000
namespace L2
open PySem PySem.Spec
theorem surW_len (w:Int)(ins:Nat)(ds:List Wd):(surW w ins ds).length=ins+ds.length:=by unfold surW; rw [vG_len,qL]
theorem pow2_le {k n:Nat}(h:k <= n):(2:Int) ^ k <= 2 ^ n:=by
 have:=qN (n:=2) (by decide) h
 exact_mod_cast this
end L2
set_option Elab.async false
set_option linter.all false
set_option maxRecDepth 100000
set_option maxHeartbeats 1000000
namespace L2
open PySem PySem.Spec PyProof PyProof.Rows
section
variable {prog:Program}{w:World}{A:Around}{E:Value -> Shared -> Prop}{s:Shared}
theorem zipM_item {z TI TO i1 i2 l1 l2:Addr}{k1 k2:Nat}{xs ys:Array Value}{x y a b:Value}{Q:Option Value -> Shared -> Prop}(D:ZipApart z TI TO i1 i2 l1 l2)
  (hz:IsZip s.heap z TI TO .none) (hTI:IsPair s.heap TI (.ref i1) (.ref i2)) (hTO:IsPair s.heap TO a b) (h1:TI2 s.heap i1 l1 xs k1) (h2:s.heap.IsListIter i2 l2 k2) (hl2:s.heap.IsList l2 ys) (hx:xs[k1]? = some x) (hy:ys[k2]? = some y)
  (hQ:∀ h',IsZip h' z TI TO (rawInt s.heap.objs.size) -> IsPair h' TO x y -> TI2 h' i1 l1 xs (k1+1) -> h'.IsListIter i2 l2 (k2+1) -> IsPair h' s.heap.objs.size x y -> h'.objs.size=s.heap.objs.size+1 ->
   (∀ c o,c ≠ z -> c ≠ TO -> c ≠ i1 -> c ≠ i2 -> s.heap.get? c=some o -> h'.get? c=some o) -> Q (some (.ref s.heap.objs.size)) { s with heap:=h' }) :
  wpAny (model prog w) A (pyNext (.ref z)) Q E s:=by
 have hT:s.TypeIs (.ref z) "zip":=⟨_,hz,rfl⟩
 unfold pyNext
 refine wpAny_bind (wpAny_attempt (wpAny_callSpecial?_slot (name:=Str.ofString "__next__") hT F.slot_zip_next (wpAny_call_entry F.slot_zip_next hT F.entry_zip_next ?_ (F.args_zip_next_1 _))))
 show wpAny _ _ (field (.ref z) 2 >>= _) _ _ _
 refine wpAny_bind (wpAny_field hz rfl (x:=.bool false) rfl ?_)
 show wpAny _ _ (field (.ref z) 3 >>= _) _ _ _
 refine wpAny_bind (wpAny_field hz rfl (x:=.ref TI) rfl ?_)
 refine wpAny_bind (wpAny_seqItems hTI rfl ?_)
 show wpAny _ _ (Builtin.SmallTypes.ownedTupleIsFree (.ref z) >>= _) _ _ _
 refine wpAny_bind ?_
 unfold Builtin.SmallTypes.ownedTupleIsFree
 refine wpAny_bind (wpAny_field hz rfl (x:=.none) rfl (wpAny_pure ?_))
 simp only [if_true]
 refine wpAny_bind (wpAny_rule ?_)
 refine wpAny_bind (wpAny_field hz rfl (x:=.ref TO) rfl ?_)
 refine wpAny_bind (wpAny_setField_rec hz (by simp) fun g1 z1 s1=>?_)
 replace z1:IsZip g1 z TI TO .ellipsis:=z1
 refine wpAny_bind ?_
 simp only [List.zipIdx_cons,List.zipIdx_nil,List.forIn_cons,List.forIn_nil]
 refine wpAny_bind (wpAny_bind (wpAny_onRaise ?_))
 show wpAny _ _ (Builtin.SmallTypes.nextOf (.ref i1) >>= _) _ _ _
 refine wpAny_bind (nextT_item (h1.but s1.extBut D.i1z D.l1z) D.l1i1 hx fun g2 f2 s2=>wpAny_pure ?_)
 have o2:IsPair g2 TO a b:=s2.extBut _ _ D.TOi1 (s1.extBut _ _ D.TOz hTO)
 refine wpAny_bind (wpAny_seqItems o2 rfl ?_)
 refine wpAny_bind (wpAny_updateSeq_pair o2 fun g3 o3 s3=>?_)
 replace o3:IsPair g3 TO x b:=o3
 refine wpAny_bind (wpAny_letGo (wpAny_pure ?_))
 refine wpAny_bind (wpAny_bind (wpAny_onRaise ?_))
 show wpAny _ _ (Builtin.SmallTypes.nextOf (.ref i2) >>= _) _ _ _
 refine wpAny_bind (wpAny_nextOf_list_item (((h2.extBut s1.extBut D.i2z).extBut s2.extBut D.i12.symm).extBut s3.extBut D.TOi2.symm) (((hl2.extBut s1.extBut D.l2z).extBut s2.extBut D.l2i1).extBut s3.extBut D.l2TO) hy fun g4 f4 s4=>wpAny_pure ?_)
 have o4:IsPair g4 TO x b:=s4.extBut _ _ D.TOi2 o3
 refine wpAny_bind (wpAny_seqItems o4 rfl ?_)
 refine wpAny_bind (wpAny_updateSeq_pair o4 fun g5 o5 s5=>?_)
 replace o5:IsPair g5 TO x y:=o5
 refine wpAny_bind (wpAny_letGo (wpAny_pure (wpAny_pure ?_)))
 refine wpAny_bind (wpAny_seqItems o5 rfl ?_)
 refine wpAny_bind (wpAny_newTuple ?_)
 have hsz:g5.objs.size=s.heap.objs.size:=by rw [s5.1,s4.1,s3.1,s2.1,s1.1]
 have z5:IsZip g5 z TI TO .ellipsis:=s5.extBut _ _ D.TOz.symm (s4.extBut _ _ D.i2z.symm (s3.extBut _ _ D.TOz.symm (s2.extBut _ _ D.i1z.symm z1)))
 have k5:∀ c o,c ≠ z -> c ≠ TO -> c ≠ i1 -> c ≠ i2 -> s.heap.get? c=some o -> g5.get? c=some o:=fun c o c1 c2 c3 c4 e =>
  s5.extBut _ _ c2 (s4.extBut _ _ c4 (s3.extBut _ _ c2 (s2.extBut _ _ c3 (s1.extBut _ _ c1 e))))
 have a5:TI2 g5 i1 l1 xs (k1+1):=((f2.but s3.extBut D.TOi1.symm D.l1TO).but s4.extBut D.i12 D.l1i2).but s5.extBut D.TOi1.symm D.l1TO
 have b5:g5.IsListIter i2 l2 (k2+1):=f4.extBut s5.extBut D.TOi2.symm
 have hzlt:z < g5.objs.size:=Heap.lt_size z5
 show wpAny _ _ (Builtin.SmallTypes.ownedTupleHandOut (.ref z) (.ref g5.objs.size) >>= _) _ _ _
 refine wpAny_bind ?_
 unfold Builtin.SmallTypes.ownedTupleHandOut
 have z6:IsZip (g5.push { cls:=.type "tuple",data:=.seq #[x,y] }) z TI TO .ellipsis:=Heap.get?_push_of_some _ z5
 refine wpAny_bind (wpAny_setField_rec z6 (by simp) fun g7 z7 s7=>?_)
 replace z7:IsZip g7 z TI TO (rawInt g5.objs.size):=z7
 refine wpAny_setField_rec z7 (by simp) fun g8 z8 s8=>?_
 replace z8:IsZip g8 z TI TO (rawInt g5.objs.size):=z8
 have up:∀ c o,c ≠ z -> g5.get? c=some o -> g8.get? c=some o:=fun c o c1 e=>s8.extBut _ _ c1 (s7.extBut _ _ c1 (Heap.get?_push_of_some _ e))
 have t8:IsPair g8 g5.objs.size x y:=s8.extBut _ _ (Nat.ne_of_gt hzlt) (s7.extBut _ _ (Nat.ne_of_gt hzlt) (Heap.get?_push_size _ rfl))
 have n8:g8.objs.size=g5.objs.size+1:=by rw [s8.1,s7.1,Heap.size_push]
 rw [hsz] at z8 t8 n8
 refine wpAny_pure ⟨_,rfl,wpAny_pure ?_⟩
 show Q (some (.ref g5.objs.size)) _
 rw [hsz]
 exact hQ g8 z8 (up _ _ D.TOz o5) (a5.at (fun o e=>up _ o D.i1z e) (fun o e=>up _ o D.l1z e)) (b5.at fun o e=>up _ o D.i2z e) t8 n8 fun c o c1 c2 c3 c4 e=>up c o c1 (k5 c o c1 c2 c3 c4 e)
theorem zipM_end {z TI TO i1 i2 l1 l2:Addr}{k1:Nat}{xs:Array Value}{a b:Value}{Q:Option Value -> Shared -> Prop}(hh:A.handled=none)(D:ZipApart z TI TO i1 i2 l1 l2)
  (hz:IsZip s.heap z TI TO .none) (hTI:IsPair s.heap TI (.ref i1) (.ref i2)) (hTO:IsPair s.heap TO a b) (h1:TI2 s.heap i1 l1 xs k1) (hx:xs[k1]? = none)
  (hQ:∀ h',(∀ c o,c ≠ z -> c ≠ TO -> c ≠ i1 -> c ≠ i2 -> s.heap.get? c=some o -> h'.get? c=some o) -> Q none { s with heap:=h' }):wpAny (model prog w) A (pyNext (.ref z)) Q E s:=by
 have hT:s.TypeIs (.ref z) "zip":=⟨_,hz,rfl⟩
 unfold pyNext
 refine wpAny_bind (wpAny_attempt (wpAny_callSpecial?_slot (name:=Str.ofString "__next__") hT F.slot_zip_next (wpAny_call_entry F.slot_zip_next hT F.entry_zip_next ?_ (F.args_zip_next_1 _))))
 show wpAny _ _ (field (.ref z) 2 >>= _) _ _ _
 refine wpAny_bind (wpAny_field hz rfl (x:=.bool false) rfl ?_)
 show wpAny _ _ (field (.ref z) 3 >>= _) _ _ _
 refine wpAny_bind (wpAny_field hz rfl (x:=.ref TI) rfl ?_)
 refine wpAny_bind (wpAny_seqItems hTI rfl ?_)
 show wpAny _ _ (Builtin.SmallTypes.ownedTupleIsFree (.ref z) >>= _) _ _ _
 refine wpAny_bind ?_
 unfold Builtin.SmallTypes.ownedTupleIsFree
 refine wpAny_bind (wpAny_field hz rfl (x:=.none) rfl (wpAny_pure ?_))
 simp only [if_true]
 refine wpAny_bind (wpAny_rule ?_)
 refine wpAny_bind (wpAny_field hz rfl (x:=.ref TO) rfl ?_)
 refine wpAny_bind (wpAny_setField_rec hz (by simp) fun g1 z1 s1=>?_)
 replace z1:IsZip g1 z TI TO .ellipsis:=z1
 refine wpAny_bind ?_
 simp only [List.zipIdx_cons,List.zipIdx_nil,List.forIn_cons,List.forIn_nil]
 refine wpAny_bind (wpAny_bind (wpAny_onRaise ?_))
 show wpAny _ _ (Builtin.SmallTypes.nextOf (.ref i1) >>= _) _ _ _
 refine wpAny_bind (nextT_end hh (h1.but s1.extBut D.i1z D.l1z) hx fun g2 e s2 he=>?_)
 obtain ⟨oe,hoe,hce⟩:=he
 have z2:IsZip g2 z TI TO .ellipsis:=s2 _ _ D.i1z.symm z1
 have hez:e ≠ z:=fun q=>by subst q; rw [z2] at hoe; cases hoe; simp at hce
 refine wpAny_setField_rec z2 (by simp) fun g3 _ s3=>?_
 exact wpAny_bind (wpAny_isInstance (T:="StopIteration") (b:=true) ⟨oe,s3.extBut _ _ hez hoe,hce⟩ isSubtype_stop (wpAny_pure (hQ _ fun c o c1 _ c3 _ q=>s3.extBut _ _ c1 (s2 _ _ c3 (s1.extBut _ _ c1 q)))))
end
def zM5 (h:Heap)(l1 l2:Addr):Heap:=((((h.push { cls:=.type "tuple_iterator",data:=.fields #[.ref l1,.int 0 0] }).push { cls:=.type "list_iterator",data:=.fields #[.ref l2,.int 0 0] }).push { cls:=.type "tuple",data:=.seq #[.ref h.objs.size,.ref (h.objs.size+1)] }).push { cls:=.type "tuple",data:=.seq #[.none,.none] }).push { cls:=.type "zip",data:=.fields #[.none,.bool false,.bool false,.ref (h.objs.size+2),.ref (h.objs.size+3)] }
theorem meets_zipM (l1 l2:Addr)(xs ys:Array Value) :
  Meets (Builtin.«zip.__new__» ⟨[.type "zip",.ref l1,.ref l2],[]⟩) (fun _ R s=>s.heap.IsTuple l1 xs /\ s.heap.IsList l2 ys /\ R (.ok (.ret (.ref (s.heap.objs.size+4)))) { s with heap:=zM5 s.heap l1 l2 }) :=
 .of_wp fun prog w A R s h=>by
  obtain ⟨hp,g,d,tk,os⟩:=s; obtain ⟨hl1,hl2,h⟩:=h
  have hsub:=sub_zip
  have hL1:Heap.IsTuple (Shared.heap ⟨hp,g,d,tk,os⟩) l1 xs:=hl1
  have hL2:Heap.IsList (Shared.heap ⟨hp.push { cls:=.type "tuple_iterator",data:=.fields #[.ref l1,.int 0 0] },g,d,tk,os⟩) l2 ys:=Heap.IsList.push hl2 _
  wp_walk using wpAny_pyIter_tuple hL1,wpAny_pyIter_list hL2
  refine ⟨_,rfl,?_⟩
  simp only [zM5] at h
  simp only [Heap.size_push,Nat.add_assoc] at h ⊢
  exact h
section
variable {prog:Program}{w:World}{A:Around}{E:Value -> Shared -> Prop}{s:Shared}
theorem call_zipM {l1 l2:Addr}{xs ys:Array Value}{Q:Value -> Shared -> Prop}(hl1:s.heap.IsTuple l1 xs)(hl2:s.heap.IsList l2 ys)
  (h:∀ h',IsZip h' (s.heap.objs.size+4) (s.heap.objs.size+2) (s.heap.objs.size+3) .none -> IsPair h' (s.heap.objs.size+2) (.ref s.heap.objs.size) (.ref (s.heap.objs.size+1)) ->
   IsPair h' (s.heap.objs.size+3) .none .none -> h'.IsTupleIter s.heap.objs.size l1 0 -> h'.IsListIter (s.heap.objs.size+1) l2 0 ->
   (∀ c o,s.heap.get? c=some o -> h'.get? c=some o) -> Q (.ref (s.heap.objs.size+4)) { s with heap:=h' }) :
  wpAny (model prog w) A (call (.type "zip") [.ref l1,.ref l2]) Q E s:=by
 refine callType_new F.called_zip (by decide) (F.typeCall_zip_2 _ _) (F.newCall_zip_2 _ _) (fun obj=>F.args_object_init_3 obj _ _) F.entry_zip_new (meets_zipM l1 l2 xs ys) ⟨hl1,hl2,?_⟩
 have g5:(zM5 s.heap l1 l2).get? (s.heap.objs.size+4)=some _:=gps (by simp only [Heap.size_push]) (Heap.get?_push_size _ rfl)
 have g4:(zM5 s.heap l1 l2).get? (s.heap.objs.size+3)=some _:=Heap.get?_push_of_some _ (gps (by simp only [Heap.size_push]) (Heap.get?_push_size _ rfl))
 have g3:(zM5 s.heap l1 l2).get? (s.heap.objs.size+2)=some _:=Heap.get?_push_of_some _ (Heap.get?_push_of_some _ (gps (by simp only [Heap.size_push]) (Heap.get?_push_size _ rfl)))
 have g2:(zM5 s.heap l1 l2).get? (s.heap.objs.size+1)=some _:=Heap.get?_push_of_some _ (Heap.get?_push_of_some _ (Heap.get?_push_of_some _ (gps (by simp only [Heap.size_push]) (Heap.get?_push_size _ rfl))))
 have g1:(zM5 s.heap l1 l2).get? s.heap.objs.size=some _:=Heap.get?_push_of_some _ (Heap.get?_push_of_some _ (Heap.get?_push_of_some _ (Heap.get?_push_of_some _ (Heap.get?_push_size _ rfl))))
 exact ⟨⟨_,g5,rfl⟩,h _ g5 g3 g4 ⟨_,g1,rfl,rfl⟩ ⟨_,g2,rfl,rfl⟩ fun c o x =>
  Heap.get?_push_of_some _ (Heap.get?_push_of_some _ (Heap.get?_push_of_some _ (Heap.get?_push_of_some _ (Heap.get?_push_of_some _ x))))⟩
end
def Itzm (K : PySem.W.Frag)(a b : Addr) : It :=
  ⟨fun i H => ∃ xs ys, SqT K H a xs ∧ SqL K H b ys ∧ i < xs.length ∧ i < ys.length,
   fun i H x H' => ∃ T u v, x = .ref T ∧ H T = none ∧ H' = upd H T (.tup [u, v]) ∧ (∀ xs, SqT K H a xs → xs[i]? = some u) ∧ (∀ ys, SqL K H b ys → ys[i]? = some v),
   fun i H => ∃ xs, SqT K H a xs ∧ xs.length ≤ i⟩
def tnZM (z TI TO i1 i2 a b:Addr)(i:Nat)(h:Heap):Prop:=IsZip h z TI TO .none /\ IsPair h TI (.ref i1) (.ref i2) /\ (∃ x y,IsPair h TO x y) /\ h.IsTupleIter i1 a i /\ h.IsListIter i2 b i
theorem turn_zipM {P:Program}{w:World}{K:PySem.W.Frag}{elts:List Expr}{x1:Nat}{pos:Pos}{z TI TO i1 i2 a b:Addr}(D:ZipApart z TI TO i1 i2 a b):Turn P w K (.Tuple elts x1 pos) (Itzm K a b) [z,TI,TO,i1,i2] z (tnZM z TI TO i1 i2 a b) where
 mem:=by simp
 obj:=fun i h st c hc=>by
  obtain ⟨t1,t2,⟨x0,y0,t3⟩,⟨o4,e4,c4,d4⟩,⟨o5,e5,c5,d5⟩⟩:=st
  simp only [List.mem_cons,List.not_mem_nil,or_false] at hc
  rcases hc with e | e | e | e | e <;> subst e
  ·exact ⟨_,t1,fun v q=>by cases q⟩
  ·exact ⟨_,t2,fun v q=>by cases q⟩
  ·exact ⟨_,t3,fun v q=>by cases q⟩
  ·exact ⟨o4,e4,fun v q=>by rw [d4] at q; cases q⟩
  ·exact ⟨o5,e5,fun v q=>by rw [d5] at q; cases q⟩
 keep:=fun i h h' st k=>by
  obtain ⟨t1,t2,⟨x0,y0,t3⟩,t4,t5⟩:=st
  exact ⟨k z (by simp) _ t1,k TI (by simp) _ t2,⟨x0,y0,k TO (by simp) _ t3⟩,ti_at t4 fun o e=>k i1 (by simp) o e,t5.at fun o e=>k i2 (by simp) o e⟩
 item:=by
  intro X hP hw hK hc i pins s σ H E I hf st hg
  subst hP hw hK
  obtain ⟨xs,ys,hq,hq2,hi,hi2⟩:=hg
  obtain ⟨its,rv,p,hz⟩:=I.tuple hq
  obtain ⟨its2,rv2,p2,hz2⟩:=I.list hq2
  obtain ⟨u,hu,ru⟩:=rv.get (qA hi)
  obtain ⟨v,hv,rv'⟩:=rv2.get (qA hi2)
  obtain ⟨t1,t2,⟨x0,y0,t3⟩,t4,t5⟩:=st
  have hl1:z < s.heap.objs.size:=Heap.lt_size t1
  have hl3:TO < s.heap.objs.size:=Heap.lt_size t3
  have hl2:TI < s.heap.objs.size:=Heap.lt_size t2
  have hl4:i1 < s.heap.objs.size:=by obtain ⟨o,e,_⟩:=t4; exact Heap.lt_size e
  have hl5:i2 < s.heap.objs.size:=by obtain ⟨o,e,_⟩:=t5; exact Heap.lt_size e
  refine zipM_item D t1 t2 t3 ⟨t4,p⟩ t5 p2.isList (x:=u) (y:=v) (by simpa using hu) (by simpa using hv) fun h' a1 a2 a3 a4 a5 a6 a7=>⟨_,rfl,?_⟩
  refine wpAny_letOwnedTupleGo_zip a1 fun h2 b1 b2=>?_
  have hT0:H s.heap.objs.size=none:=I.hok.fresh (Nat.le_refl _)
  have I1:Inv X pins σ (upd H s.heap.objs.size (.tup [xs[i],ys[i]])) { s with heap:=s.heap.push { cls:=.type "tuple",data:=.seq [u,v].toArray } } :=
   I.laid (t':=s.toks) (fun b o e=>Heap.get?_push_of_some _ e) (Nat.le_refl _) (show ObjOk X.prog X.w _ _ _ (.tup [xs[i],ys[i]]) from ⟨le_size (by show 2 <= 1000; decide),[u,v],.cons ru (.cons rv' .nil),IsTup.new _ _⟩)
  have fpk:∀ c ∈ [z,TI,TO,i1,i2],c ≠ s.heap.objs.size:=fun c hc=>by
   simp only [List.mem_cons,List.not_mem_nil,or_false] at hc
   rcases hc with e | e | e | e | e <;> subst e <;> exact Nat.ne_of_lt (by assumption)
  have fp2:∀ c ∈ [z,TI,TO,i1,i2],FpOk X pins (upd H s.heap.objs.size (.tup [xs[i],ys[i]])) c:=fun c hc=>by
   obtain ⟨f0,f⟩:=hf c hc
   exact ⟨by rw [upd_ne (fpk c hc)]; exact f0,f⟩
  have I2:Inv X pins σ (upd H s.heap.objs.size (.tup [xs[i],ys[i]])) { s with heap:=h2 }:=by
   refine Inv.turnedL (s:={ s with heap:=s.heap.push { cls:=.type "tuple",data:=.seq [u,v].toArray } }) (t':=s.toks) (h':=h2) [z,TO,i1,i2] I1 (fun b o hb e=>?_) (fun c hc=>fp2 c (by simp only [List.mem_cons,List.not_mem_nil,or_false] at hc ⊢; rcases hc with e | e | e | e <;> simp [e]))
   simp only [List.mem_cons,List.not_mem_nil,or_false,not_or] at hb
   obtain ⟨n1,n2,n3,n4⟩:=hb
   refine (b2.2 b n1).trans ?_
   by_cases hT:b=s.heap.objs.size
   ·subst hT
    rw [Heap.get?_push_size _ rfl] at e
    rw [← e]
    exact a5
   ·exact a7 b o n1 n2 n3 n4 (get_push_ne hT e)
  have t4':h2.IsTupleIter i1 a (i+1):=ti_at a3.1 fun o e=>(b2.2 _ D.i1z).trans e
  have t5':h2.IsListIter i2 b (i+1):=a4.at fun o e=>(b2.2 _ D.i2z).trans e
  refine ⟨.ref s.heap.objs.size,_,I2,rfl,⟨_,xs[i],ys[i],rfl,hT0,rfl,fun zs h=>?_,fun zs h=>?_⟩,⟨b1,(b2.2 _ D.TIz).trans (a7 TI _ D.TIz D.TITO D.TIi1 D.TIi2 t2),⟨_,_,(b2.2 _ D.TOz).trans a2⟩,t4',t5'⟩,fun c hc=>(fp2 c hc).1⟩
  ·rw [I.tuple_inj h hq]; exact qA hi
  ·rw [I.list_inj h hq2]; exact qA hi2
 done:=by
  intro X hP hw hK hc i pins s σ H E I hf st hg
  subst hP hw hK
  obtain ⟨xs,hq,hend⟩:=hg
  obtain ⟨its,rv,p,hz⟩:=I.tuple hq
  obtain ⟨t1,t2,⟨x0,y0,t3⟩,t4,t5⟩:=st
  refine zipM_end (I.ok.hd hc) D t1 t2 t3 ⟨t4,p⟩ ?_ fun h' a7=>⟨rfl,?_⟩
  ·simp [← rv.length,hend]
  ·refine Inv.turnedL (t':=s.toks) (h':=h') [z,TO,i1,i2] I (fun b o hb e=>?_) (fun c hc=>hf c (by simp only [List.mem_cons,List.not_mem_nil,or_false] at hc ⊢; rcases hc with e | e | e | e <;> simp [e]))
   simp only [List.mem_cons,List.not_mem_nil,or_false,not_or] at hb
   obtain ⟨n1,n2,n3,n4⟩:=hb
   exact a7 b o n1 n2 n3 n4 e
 self:=fun _ _ _ _ _ st h=>wpAny_pyIter_zip st.1 h
def iZipM (K:PySem.W.Frag)(ta:TA):TI:=fun σ H R=>ta σ H fun vs H1=>∃ a b xs ys,vs=[.ref a,.ref b] /\ SqT K H1 a xs /\ SqL K H1 b ys /\ R (Itzm K a b) H1
theorem pi_zipM {X:Cx} {elts:List Expr} {x1:Nat} {tpos:Pos} {a b:Expr} {ta:TA} {p pos:Pos} (hg:Gl X "zip") (hm:X.mg "zip" = none) (ha:PA X [a,b] ta) (hs:starEach [a,b] X.env=(false,eval a X.env) :: starEach [b] X.env:=by rfl) (hpl:(backTo pos (starEach [b] X.env)).any (·.1)=false:=by rfl) :
  PI X (.Tuple elts x1 tpos) (.Call (.Name "zip" p) [a,b] [] pos) (iZipM X.K ta):=by
 intro pins s σ H R I h
 refine Call_ (ld_blt I hg hm bo_zip (PyProof.Rows.callWith_type1 (thn (ha pos pins s σ H _ I h) fun us s1 ⟨vs,H1,I1,r1,q1⟩=>?_) hs hpl))
 obtain ⟨l1,l2,xs,ys,e,hq,hq2,q⟩:=q1
 subst e
 obtain ⟨u1,u2,rfl,ru1,ru2⟩:=vals2 r1
 cases (show u1=Value.ref l1 from ru1)
 cases (show u2=Value.ref l2 from ru2)
 have mk:∀ (lt1:l1 < s1.heap.objs.size) (lt2:l2 < s1.heap.objs.size),ZipApart (s1.heap.objs.size+4) (s1.heap.objs.size+2) (s1.heap.objs.size+3) s1.heap.objs.size (s1.heap.objs.size+1) l1 l2:=fun lt1 lt2=>by
  have q1:@LT.lt Nat _ l1 s1.heap.objs.size:=lt1
  have q2:@LT.lt Nat _ l2 s1.heap.objs.size:=lt2
  constructor <;> (show ¬ @Eq Nat _ _; omega)
 have fp:∀ c ∈ [s1.heap.objs.size+4,s1.heap.objs.size+2,s1.heap.objs.size+3,s1.heap.objs.size,s1.heap.objs.size+1],FpOk X pins H1 c:=fun c hc=>by
  have hle:s1.heap.objs.size <= c:=by
   simp only [List.mem_cons,List.not_mem_nil,or_false] at hc
   show (s1.heap.objs.size:Nat) <= c
   rcases hc with e | e | e | e | e <;> subst e <;> (show @LE.le Nat _ _ _; omega)
  exact I1.fpOk hle (I1.hok.fresh hle)
 obtain ⟨its,rv,pl,hz⟩:=I1.tuple hq
 obtain ⟨its2,rv2,pl2,hz2⟩:=I1.list hq2
 refine call_zipM pl pl2.isList fun h' z1 z2 z3 z4 z5 z7=>?_
 refine wpAny_pyIter_zip z1 ?_
 exact ⟨s1.heap.objs.size+4,_,_,_,H1,rfl,I1.kept (t':=s1.toks) z7,turn_zipM (mk (by obtain ⟨o,e,_⟩:=pl; exact Heap.lt_size e) (by obtain ⟨o,e,_⟩:=pl2.isList; exact Heap.lt_size e)),⟨z1,z2,⟨_,_,z3⟩,z4,z5⟩,fp,q⟩
theorem w_compZM {K:PySem.W.Frag}{σ:St}{H:Hp}{Q:VK}{ta:TA}{nt:Nat}{cs:List Nat}{g:TG}{tt:TT}{te:TE}:tComp (iZipM K ta) nt cs g tt te σ H Q=(ta σ H fun vs H1=>∃ a b xs ys,vs=[.ref a,.ref b] /\ SqT K H1 a xs /\ SqL K H1 b ys /\ CompIt (Itzm K a b) nt cs g tt te σ H1 Q):=rfl
section
variable {K:PySem.W.Frag}{σ:St}{H:Hp}{Q:VK}{cs:List Nat}{te:TE}
theorem comp_zipM {r1 r2:Addr}{us vs:List V}(h1:H r1=some (.tup us))(h2:H r2=some (.lst vs))(hl:vs.length=us.length)(hz:us.length <= 1000)(zs:List V)(hzl:zs.length=us.length)
  (hb:∀ (i:Nat) (x y z:V) H' (R:VK),us[i]? = some x -> vs[i]? = some y -> zs[i]? = some z -> Same H H' -> (∀ H5,Same H' H5 -> R z H5) -> te ([some x,some y] ++ capV cs σ) H' R)
  (hd:∀ acc H',H acc=none -> Same H H' -> H' acc=some (.lst zs) -> Q (.ref acc) H') :
  CompIt (Itzm K r1 r2) 2 cs (gTupM 2 (gCons (gName 0) (gCons (gName 1) gNil))) tYes te σ H Q:=by
 refine comp_any us.length (fun acc i ws H'=>Same H H' /\ H' acc=some (.lst ws) /\ ws=zs.take i) (le_size hz) ?_ ?_ ?_ ?_ ?_ ?_
 ·rintro acc i ws H' hi ⟨s,_,_⟩
  exact ⟨_,_,SqT.of (s _ _ h1),SqL.of (s _ _ h2),hi,by omega⟩
 ·rintro acc ws H' ⟨s,_,_⟩
  exact ⟨_,SqT.of (s _ _ h1),Nat.le_refl _⟩
 ·intro acc ha
  exact ⟨same_new ha _,upd_same,rfl⟩
 ·rintro acc i ws H' ⟨s,ha,rfl⟩
  exact ⟨ha,by rw [qO]; omega⟩
 ·rintro acc i ws H' ts x H2 N hn hi ⟨s,ha,rfl⟩ ⟨T,u,v,rfl,hT,rfl,e1,e2⟩ hts hN
  have hu:=e1 _ (SqT.of (s _ _ h1))
  have hv:=e2 _ (SqL.of (s _ _ h2))
  obtain ⟨z,hzi⟩:∃ z,zs[i]? = some z:=⟨_,qA (by omega)⟩
  obtain ⟨t0,t1,rfl⟩:∃ t0 t1,ts=[t0,t1]:=by
   match ts,hts with
   | [a,b],_=>exact ⟨a,b,rfl⟩
  rw [w_gTupM]
  refine ⟨[u,v],upd_same,rfl,?_⟩
  rw [w_gCons,w_gName,w_gCons,w_gName,w_gNil,w_yes,if_pos rfl]
  have sT:=same_new hT (.tup [u,v])
  refine hb i u v z _ _ hu hv hzi (s.trans sT) fun H5 s5=>?_
  have tk:zs.take (i+1)=zs.take i ++ [z]:=by rw [List.take_add_one,hzi]; rfl
  refine ⟨s5 _ _ (sT _ _ ha),hN _ [some u,some v] _ rfl ⟨same_upd hn ((s.trans sT).trans s5),upd_same,tk.symm⟩⟩
 ·rintro acc ws H' hn ⟨s,ha,rfl⟩
  refine hd acc H' hn s ?_
  rw [ha,List.take_of_length_le (by omega)]
end
section
variable {X:Cx}
theorem best_low (val:Nat -> Int):∀ k i,i <= k -> val (argBest (fun i j=>decide (val i < val j)) k) <= val i
 | 0,i,h=>by
  have:i=0:=by omega
  subst this
  exact Int.le_refl _
 | k+1,i,h=>by
  rw [argBest]
  by_cases hb:val (k+1) < val (argBest (fun i j=>decide (val i < val j)) k)
  ·rw [if_pos (by simpa using hb)]
   by_cases e:i=k+1
   ·subst e; exact Int.le_refl _
   ·have:=best_low val k i (by omega)
    omega
  ·rw [if_neg (by simpa using hb)]
   by_cases e:i=k+1
   ·subst e; omega
   ·exact best_low val k i (by omega)
def rMaxG:List V -> Hp -> VK -> Prop:=fun xs H Q=>∃ (p:Addr) (ns:List Int),xs=[.ref p] /\ H p=some (.lst (ns.map V.int)) /\ ns ≠ [] /\ ∀ v,v ∈ ns -> (∀ n ∈ ns,n <= v) -> Q (.int v) H
def rMinG:List V -> Hp -> VK -> Prop:=fun xs H Q=>∃ (p:Addr) (ns:List Int),xs=[.ref p] /\ H p=some (.lst (ns.map V.int)) /\ ns ≠ [] /\ ∀ v,v ∈ ns -> (∀ n ∈ ns,v <= n) -> Q (.int v) H
theorem best_at {xs:List (Int × Tok)}{ns:List Int}(e:xs.map (·.1)=ns){bt:Nat -> Nat -> Bool}{v:Value}(hv:(xs.map fun p=>Value.int p.1 p.2).toArray[argBest bt (xs.length - 1)]? = some v):∃ m tk,v = .int m tk /\ ns[argBest bt (xs.length - 1)]? = some m:=by
 rw [List.getElem?_toArray,qI] at hv
 cases hx:xs[argBest bt (xs.length - 1)]? with
 | none=>rw [hx] at hv; cases hv
 | some q =>
  rw [hx] at hv
  cases hv
  exact ⟨q.1,q.2,rfl,by rw [← e,qI,hx]; rfl⟩
theorem call_maxG (hc:X.calm=true):CallR X (.builtin "max") rMaxG:=by
 intro pins s σ H xs us Q I r h
 obtain ⟨p,ns,rfl,hp,hne,q⟩:=h
 obtain ⟨u,rfl,ru⟩:=Vals.one r
 cases ru
 refine call_max_walk (walk_list hc I hp fun its rv s2 st hfp hne2 W hI=>?_)
 obtain ⟨xs,rfl,e⟩:=vals_intItems rv
 have hl:xs.length=ns.length:=by rw [← e,qC]
 have hx:0 < xs.length:=by
  rw [hl]
  exact List.length_pos_iff.mpr hne
 refine ⟨_,_,_,_,_,_,fun i j=>decide (ns.getD i 0 > ns.getD j 0),rfl,W,st,hfp,by simpa using hx,CmpOf.ints_gt (fun i=>ns.getD i 0) (at_int e),fun v h' tk hP hk=>?_⟩
 obtain ⟨m,t,rfl,hm⟩:=best_at e (v:=v) (bt:=fun i j=>decide (ns.getD i 0 > ns.getD j 0)) (by simpa using hP)
 refine ⟨.int m,H,hI h' tk hk,⟨_,rfl⟩,q m (qE hm) fun n hn=>?_⟩
 obtain ⟨i,hi,rfl⟩:=List.getElem_of_mem hn
 have b:=best_val (fun i=>ns.getD i 0) (xs.length - 1) i (by omega)
 rw [getD_of hm,getD_of (qA hi)] at b
 exact b
theorem call_minG (hc:X.calm=true):CallR X (.builtin "min") rMinG:=by
 intro pins s σ H xs us Q I r h
 obtain ⟨p,ns,rfl,hp,hne,q⟩:=h
 obtain ⟨u,rfl,ru⟩:=Vals.one r
 cases ru
 refine call_min_walk (walk_list hc I hp fun its rv s2 st hfp hne2 W hI=>?_)
 obtain ⟨xs,rfl,e⟩:=vals_intItems rv
 have hl:xs.length=ns.length:=by rw [← e,qC]
 have hx:0 < xs.length:=by
  rw [hl]
  exact List.length_pos_iff.mpr hne
 refine ⟨_,_,_,_,_,_,fun i j=>decide (ns.getD i 0 < ns.getD j 0),rfl,W,st,hfp,by simpa using hx,CmpOf.ints_lt (fun i=>ns.getD i 0) (at_int e),fun v h' tk hP hk=>?_⟩
 obtain ⟨m,t,rfl,hm⟩:=best_at e (v:=v) (bt:=fun i j=>decide (ns.getD i 0 < ns.getD j 0)) (by simpa using hP)
 refine ⟨.int m,H,hI h' tk hk,⟨_,rfl⟩,q m (qE hm) fun n hn=>?_⟩
 obtain ⟨i,hi,rfl⟩:=List.getElem_of_mem hn
 have b:=best_low (fun i=>ns.getD i 0) (xs.length - 1) i (by omega)
 rw [getD_of hm,getD_of (qA hi)] at b
 exact b
end
end L2
set_option Elab.async false
set_option linter.all false
set_option maxRecDepth 100000
set_option maxHeartbeats 1000000
namespace L2
open PySem PySem.Spec
def Lies (w x:Int):Prop:=-(2 ^ (w - 1).toNat) <= x /\ x < 2 ^ (w - 1).toNat
instance (w x:Int):Decidable (Lies w x):=by unfold Lies; infer_instance
def widI (x:Int):Int:=(Builtin.Int.intBits (if x ≥ 0 then x else -x - 1):Nat)+1
theorem wid_le {w x:Int}(h:1 <= w):widI x <= w ↔ Lies w x:=by
 unfold widI Lies
 have e:(Builtin.Int.intBits (if x ≥ 0 then x else -x - 1):Nat) <= (w - 1).toNat ↔ (if x ≥ 0 then x else -x - 1).natAbs < 2 ^ (w - 1).toNat:=PySem.intBits_le_iff
 have e2:((2 ^ (w - 1).toNat:Nat):Int)=(2:Int) ^ (w - 1).toNat:=by push_cast; rfl
 rw [← e2]
 constructor
 ·intro h2
  have h3:=e.mp (by omega)
  split at h3 <;> omega
 ·intro ⟨h2,h3⟩
  have:=e.mpr (by split <;> omega)
  omega
theorem wid_pos (x:Int):1 <= widI x:=by unfold widI; omega
theorem rows_one {ds:List Wd}{gs:List Go}(F:FWeb 1 ds gs):rowsW 1 ds=(valsW [1] ds).map fun x=>[x]:=by
 rw [vals_dots (xs:=[1]) rfl F]
 unfold dots
 rw [List.map_map]
 refine ((List.map_congr_left fun r hr=>?_).trans (List.map_id _)).symm
 have hl:=F.wd r hr
 match r,hl with
 | [a],_ =>
  show [a * 1+dotW [] []]=[a]
  rw [dotW_nil]
  simp
def outN (vs:List Int)(g:Go):Int:=g.sg * mvI g.sh (vs.getD g.th 0)
theorem outs_one {ds:List Wd}{gs:List Go}(F:FWeb 1 ds gs):gs.map (outR (rowsW 1 ds))=(gs.map (outN (valsW [1] ds))).map fun x=>[x]:=by
 rw [List.map_map]
 refine List.map_congr_left fun g hg=>?_
 have hk:=F.ok.gk g hg
 have e:(rowsW 1 ds).getD g.th []=[(valsW [1] ds).getD g.th 0]:=by
  rw [rows_one F,qD,qD,qI,qA (by rw [valsW_len]; exact hk)]
  rfl
 show outR _ g=[outN _ g]
 unfold outR outN
 rw [e]
 rfl
def allN (ds:List Wd)(gs:List Go):List Int:=valsW [1] ds ++ gs.map (outN (valsW [1] ds))
theorem allN_one (ds:List Wd)(gs:List Go):1 ∈ allN ds gs:=by
 have e1:(valsW [1] ds)[0]? = some 1:=valsW_pre [1] [] ds (k:=0) (r:=1) rfl
 exact List.mem_append_left _ (qE e1)
def lowN (hf n:Int):Int:=if n > 0 then -(hf / n) else -((hf - 1) / -n)
def highN (hf n:Int):Int:=if n > 0 then (hf - 1) / n else hf / -n
theorem lie_range {hf n v:Int}(h:0 < hf)(hn:n ≠ 0):(-hf <= n * v /\ n * v < hf) ↔ (lowN hf n <= v /\ v <= highN hf n):=by
 unfold lowN highN
 by_cases z:n > 0
 ·rw [if_pos z,if_pos z]
  have a1:(v <= (hf - 1) / n) ↔ v * n <= hf - 1:=Int.le_ediv_iff_mul_le z
  have a2:(-v <= hf / n) ↔ -v * n <= hf:=Int.le_ediv_iff_mul_le z
  rw [Int.neg_mul] at a2
  rw [Int.mul_comm n v]
  constructor
  ·intro ⟨h1,h2⟩
   have:=a1.mpr (by omega)
   have:=a2.mpr (by omega)
   omega
  ·intro ⟨h1,h2⟩
   have:=a1.mp (by omega)
   have:=a2.mp (by omega)
   omega
 ·rw [if_neg z,if_neg z]
  have z':0 < -n:=by omega
  have a1:(v <= hf / -n) ↔ v * -n <= hf:=Int.le_ediv_iff_mul_le z'
  have a2:(-v <= (hf - 1) / -n) ↔ -v * -n <= hf - 1:=Int.le_ediv_iff_mul_le z'
  rw [Int.neg_mul,Int.mul_neg] at a2
  rw [Int.mul_neg] at a1
  rw [Int.mul_comm n v]
  constructor
  ·intro ⟨h1,h2⟩
   have:=a1.mpr (by omega)
   have:=a2.mpr (by omega)
   omega
  ·intro ⟨h1,h2⟩
   have:=a1.mp (by omega)
   have:=a2.mp (by omega)
   omega
def nz (ns:List Int):List Int:=ns.filter fun n=>decide (n ≠ 0)
theorem mem_nz {ns:List Int}{n:Int}:n ∈ nz ns ↔ n ∈ ns /\ n ≠ 0:=by unfold nz; rw [List.mem_filter]; simp
theorem all_range {hf lo hi v:Int}{ns:List Int}(h:0 < hf)(l1:lo ∈ (nz ns).map (lowN hf))(l2:∀ x ∈ (nz ns).map (lowN hf),x <= lo)(h1:hi ∈ (nz ns).map (highN hf))(h2:∀ x ∈ (nz ns).map (highN hf),hi <= x) :
  (∀ n ∈ ns,-hf <= n * v /\ n * v < hf) ↔ lo <= v /\ v <= hi:=by
 constructor
 ·intro q
  obtain ⟨a,ha,rfl⟩:=qP.mp l1
  obtain ⟨b,hb,rfl⟩:=qP.mp h1
  obtain ⟨a1,a2⟩:=mem_nz.mp ha
  obtain ⟨b1,b2⟩:=mem_nz.mp hb
  exact ⟨((lie_range h a2).mp (q a a1)).1,((lie_range h b2).mp (q b b1)).2⟩
 ·intro ⟨q1,q2⟩ n hn
  by_cases z:n=0
  ·subst z
   rw [Int.zero_mul]
   omega
  ·have m:=mem_nz.mpr ⟨hn,z⟩
   have a:=l2 _ (qP.mpr ⟨n,m,rfl⟩)
   have b:=h2 _ (qP.mpr ⟨n,m,rfl⟩)
   exact (lie_range h z).mpr ⟨by omega,by omega⟩
theorem low_np {hf n:Int}(h:0 < hf)(hn:n ≠ 0):lowN hf n <= 0 /\ 0 <= highN hf n:=by
 refine (lie_range (v:=0) h hn).mp ?_
 rw [Int.mul_zero]
 omega
theorem divBig {i j:Int}(h:0 < j)(h2:j.natAbs < 2 ^ 9000):CDivB i j:=⟨h,(Nat.log2_lt (by omega)).mpr h2⟩
def pT (p:Int × Int):List V:=[.int p.1,.int p.2]
def selP (p:Int × Int)(b:Bool):Int:=if b then p.2 else p.1
def endI (r:List Int)(ps:List (Int × Int))(b:Bool):Int:=(List.zipWith (fun n p=>n * selP p (if n > 0 then b else !b)) r ps).sum
theorem end_one (n lo hi:Int):(endI [n] [(lo,hi)] false=n * lo /\ endI [n] [(lo,hi)] true=n * hi) \/ (endI [n] [(lo,hi)] false=n * hi /\ endI [n] [(lo,hi)] true=n * lo):=by
 have e:∀ b,endI [n] [(lo,hi)] b=n * selP (lo,hi) (if n > 0 then b else !b):=fun b=>by
  unfold endI
  rw [List.zipWith_cons_cons,List.zipWith_nil_right,List.sum_cons,List.sum_nil,Int.add_zero]
 rw [e,e]
 by_cases z:n > 0
 ·left; rw [if_pos z,if_pos z]; exact ⟨rfl,rfl⟩
 ·right; rw [if_neg z,if_neg z]; exact ⟨rfl,rfl⟩
def spWidOf:Sp:=fun vs H Q _=>∃ x:Int,vs=[.int x] /\ Q (.int (widI x)) H
def spEndOf:Sp:=fun vs H Q _=>∃ (a l:Addr) (r:List Int) (os:List V) (ps:List (Int × Int)) (b:Bool),vs=[.ref a,.ref l,.int (if b then 1 else 0)] /\ H a=some (.tup (iT r)) /\ H l=some (.lst os) /\ HTs pT H os ps /\ r.length=ps.length /\ r.length <= 12 /\ (∀ n ∈ r,n.natAbs < 2 ^ 9000) /\ (∀ p ∈ ps,p.1.natAbs < 2 ^ 9000 /\ p.2.natAbs < 2 ^ 9000) /\
 ∀ H',Same H H' -> Q (.int (endI r ps b)) H'
def allR (ins:Nat)(ds:List Wd)(gs:List Go):List (List Int):=rowsW ins ds ++ gs.map (outR (rowsW ins ds))
def endsI (rs:List (List Int))(ps:List (Int × Int)):List Int:=rs.flatMap fun r=>[endI r ps false,endI r ps true]
theorem endsI_len (rs:List (List Int))(ps:List (Int × Int)):(endsI rs ps).length=2 * rs.length:=by
 unfold endsI
 induction rs with
 | nil=>rfl
 | cons a r ih=>rw [List.flatMap_cons,qF,ih]; simp; omega
def spWidFor:Sp:=fun vs H Q _=>∃ (x l dl gl:Addr) (us:List V) (ds:List Wd) (os:List V) (gs:List Go) (qs:List V) (ps:List (Int × Int)),vs=[.ref x,.ref l] /\ Wb H x dl gl ps.length us ds os gs /\ FWeb ps.length ds gs /\ H l=some (.lst qs) /\ HTs pT H qs ps /\ (∀ p ∈ ps,p.1.natAbs < 2 ^ 9000 /\ p.2.natAbs < 2 ^ 9000) /\
 ∀ (v:Int) H',Same H H' -> v ∈ (endsI (allR ps.length ds gs) ps).map widI -> (∀ y ∈ (endsI (allR ps.length ds gs) ps).map widI,y <= v) -> Q (.int v) H'
def spFits:Sp:=fun vs H Q _=>∃ (x l dl gl:Addr) (us:List V) (ds:List Wd) (os:List V) (gs:List Go) (qs:List V) (ps:List (Int × Int)) (w:Int),vs=[.ref x,.int w,.ref l] /\ 1 <= w /\ Wb H x dl gl ps.length us ds os gs /\ FWeb ps.length ds gs /\ H l=some (.lst qs) /\ HTs pT H qs ps /\ (∀ p ∈ ps,p.1.natAbs < 2 ^ 9000 /\ p.2.natAbs < 2 ^ 9000) /\
 ∀ (b:Bool) H',Same H H' -> (b=true ↔ ∀ y ∈ endsI (allR ps.length ds gs) ps,Lies w y) -> Q (.bl b) H'
def spRangeIn:Sp:=fun vs H Q _=>∃ (x dl gl:Addr) (us:List V) (ds:List Wd) (os:List V) (gs:List Go) (w:Int),vs=[.ref x,.int w] /\ Wb H x dl gl 1 us ds os gs /\ FWeb 1 ds gs /\ 1 <= w /\ w <= 3000 /\
 ∀ (r:Addr) (lo hi:Int) H',H r=none -> Same H H' -> H' r=some (.tup [.int lo,.int hi]) -> lo <= 0 -> 0 <= hi -> lo.natAbs <= 2 ^ 3000 -> hi.natAbs <= 2 ^ 3000 -> (∀ v,(∀ n ∈ allN ds gs,Lies w (n * v)) ↔ lo <= v /\ v <= hi) -> Q (.ref r) H'
end L2
set_option Elab.async false
set_option linter.all false
set_option maxRecDepth 100000
set_option maxHeartbeats 1000000
namespace L2
open PySem PySem.Spec
theorem allN_len (ds:List Wd)(gs:List Go):(allN ds gs).length=1+ds.length+gs.length:=by unfold allN; rw [qF,valsW_len,qC]; rfl
theorem allN_small {ds:List Wd}{gs:List Go}(F:FWeb 1 ds gs):∀ n ∈ allN ds gs,n.natAbs < 2 ^ 3000:=fun n hn=>by
 have d60:=F.ok.dl
 have vb:∀ x ∈ valsW [1] ds,x.natAbs <= 2 ^ (41 * ds.length):=fun x hx=>(F.rb [x] (by rw [rows_one F]; exact qP.mpr ⟨x,hx,rfl⟩)).2 x (List.mem_singleton.mpr rfl)
 unfold allN at hn
 rcases List.mem_append.mp hn with z | z
 ·exact Nat.lt_of_le_of_lt (vb n z) (Nat.pow_lt_pow_right (by decide) (by omega))
 ·obtain ⟨g,hg,rfl⟩:=qP.mp z
  have hth:=F.ok.gk g hg
  have hsg:(-40 <= g.sh /\ g.sh <= 40) /\ (g.sg=0 \/ g.sg=1 \/ g.sg = -1):=by
   rcases F.go g hg with z | z
   ·rw [z]; exact ⟨⟨by decide,by decide⟩,.inl rfl⟩
   ·exact ⟨⟨z.2.1,z.2.2.1⟩,.inr z.1⟩
  obtain ⟨x,e1,e2,e3⟩:=valsW_at (xs:=[1]) (ds:=ds) hth
  have b:=mvI_bound hsg.1.1 hsg.1.2 (vb x e3)
  have b2:(mvI g.sh x).natAbs < 2 ^ 3000:=Nat.lt_of_le_of_lt b (Nat.pow_lt_pow_right (by decide) (by omega))
  unfold outN
  rw [e2]
  rcases hsg.2 with z | z | z <;> rw [z]
  ·rw [Int.zero_mul]; exact Nat.pow_pos (by decide)
  ·rw [Int.one_mul]; exact b2
  ·rw [Int.neg_mul,Int.one_mul,Int.natAbs_neg]; exact b2
theorem allR_one {ds:List Wd}{gs:List Go}(F:FWeb 1 ds gs):allR 1 ds gs=(allN ds gs).map fun x=>[x]:=by
 unfold allR allN
 rw [outs_one F,rows_one F,List.map_append]
theorem ends_one {ds:List Wd}{gs:List Go}(F:FWeb 1 ds gs){w lo hi:Int}:(∀ y ∈ endsI (allR 1 ds gs) [(lo,hi)],Lies w y) ↔ (∀ n ∈ allN ds gs,Lies w (n * lo)) /\ (∀ n ∈ allN ds gs,Lies w (n * hi)):=by
 unfold endsI
 rw [allR_one F]
 constructor
 ·intro q
  have key:∀ n ∈ allN ds gs,Lies w (n * lo) /\ Lies w (n * hi):=fun n hn=>by
   have a:=q (endI [n] [(lo,hi)] false) (List.mem_flatMap.mpr ⟨[n],qP.mpr ⟨n,hn,rfl⟩,by simp⟩)
   have b:=q (endI [n] [(lo,hi)] true) (List.mem_flatMap.mpr ⟨[n],qP.mpr ⟨n,hn,rfl⟩,by simp⟩)
   rcases end_one n lo hi with ⟨e1,e2⟩ | ⟨e1,e2⟩
   ·rw [e1] at a; rw [e2] at b; exact ⟨a,b⟩
   ·rw [e1] at a; rw [e2] at b; exact ⟨b,a⟩
  exact ⟨fun n hn=>(key n hn).1,fun n hn=>(key n hn).2⟩
 ·intro ⟨q1,q2⟩ y hy
  obtain ⟨r,hr,hy⟩:=List.mem_flatMap.mp hy
  obtain ⟨n,hn,rfl⟩:=qP.mp hr
  have a:=q1 n hn
  have b:=q2 n hn
  have hy':y=endI [n] [(lo,hi)] false \/ y=endI [n] [(lo,hi)] true:=by simpa using hy
  rcases end_one n lo hi with ⟨e1,e2⟩ | ⟨e1,e2⟩ <;> rcases hy' with z | z <;> rw [z]
  ·rw [e1]; exact a
  ·rw [e2]; exact b
  ·rw [e1]; exact b
  ·rw [e2]; exact a
end L2
set_option Elab.async false
set_option linter.all false
set_option maxRecDepth 100000
set_option maxHeartbeats 1000000
namespace L2
open PySem PySem.Spec
theorem allR_wd {ins:Nat}{ds:List Wd}{gs:List Go}(F:FWeb ins ds gs):∀ r ∈ allR ins ds gs,r.length=ins /\ ∀ n ∈ r,n.natAbs <= 2 ^ 2500:=fun r hr=>by
 have d60:=F.ok.dl
 unfold allR at hr
 rcases List.mem_append.mp hr with z | z
 ·exact ⟨F.wd r z,fun n hn=>Nat.le_trans ((F.rb r z).2 n hn) (qN (by decide) (by omega))⟩
 ·obtain ⟨g,hg,rfl⟩:=qP.mp z
  have hth:=F.ok.gk g hg
  have e1:=qA (l:=rowsW ins ds) (i:=g.th) (by rw [rowsW_len]; exact hth)
  have hm:=qE e1
  have hsg:(-40 <= g.sh /\ g.sh <= 40) /\ (g.sg=0 \/ g.sg=1 \/ g.sg = -1):=by
   rcases F.go g hg with z | z
   ·rw [z]; exact ⟨⟨by decide,by decide⟩,.inl rfl⟩
   ·exact ⟨⟨z.2.1,z.2.2.1⟩,.inr z.1⟩
  unfold outR
  rw [getD_of e1]
  refine ⟨by rw [qC]; exact F.wd _ hm,fun n hn=>?_⟩
  obtain ⟨m,hm2,rfl⟩:=qP.mp hn
  have b:=mvI_bound hsg.1.1 hsg.1.2 ((F.rb _ hm).2 m hm2)
  have b2:(mvI g.sh m).natAbs <= 2 ^ 2500:=Nat.le_trans b (qN (by decide) (by omega))
  rcases hsg.2 with z | z | z <;> rw [z]
  ·rw [Int.zero_mul]; exact Nat.zero_le _
  ·rw [Int.one_mul]; exact b2
  ·rw [Int.neg_mul,Int.one_mul,Int.natAbs_neg]; exact b2
end L2
set_option Elab.async false
set_option linter.all false
set_option maxRecDepth 100000
set_option maxHeartbeats 1000000
namespace L2
open PySem PySem.Spec
end L2
set_option Elab.async false
set_option linter.all false
set_option maxRecDepth 100000
set_option maxHeartbeats 1000000
namespace L2
open PySem PySem.Spec
section
variable {K:PySem.W.Frag}{σ:St}{H:Hp}{Q:VK}{cs:List Nat}{te:TE}
end
end L2
set_option Elab.async false
set_option linter.all false
set_option maxRecDepth 100000
set_option maxHeartbeats 1000000
namespace L2
open PySem PySem.Spec
section
variable {K:PySem.W.Frag}{σ:St}{H:Hp}{Q:VK}{cs:List Nat}{te:TE}
end
end L2
set_option Elab.async false
set_option linter.all false
set_option maxRecDepth 100000
set_option maxHeartbeats 1000000
namespace L2
open PySem PySem.Spec PyProof.Rows
theorem sqT_chg {K:PySem.W.Frag}{H H':Hp}{l p:Addr}{xs ys:List V}(h:SqT K H p xs)(hl:H l=some (.lst ys))(C:Chg l H H'):SqT K H' p xs:=by
 rcases h with (h | ⟨o,h⟩) | h
 ·exact .inl (.inl (C _ _ (ne_of h hl (by intro z; cases z)) h))
 ·exact .inl (.inr ⟨o,C _ _ (ne_of h hl (by intro z; cases z)) h⟩)
 ·exact .inr h
end L2
set_option Elab.async false
set_option linter.all false
set_option maxRecDepth 100000
set_option maxHeartbeats 1000000
namespace L2
open PySem PySem.Spec PyProof.Rows
section
variable {H H':Hp}{x dl gl:Addr}{ins:Nat}{us:List V}{ds:List Wd}{os:List V}{gs:List Go}
end
theorem same_chg {H H1 H2:Hp}{l:Addr}(n:H l=none)(s:Same H H1)(c:Chg l H1 H2):Same H H2:=fun b o q=>c b o (ne_of_none q n) (s b o q)
section
variable {α:Type}{f:α -> List V}{H0 H H':Hp}{p dl:Addr}{us:List V}{ds:List α}
end
section
variable {H:Hp}{w:Str}{a b d1 g1 d2 g2:Addr}{i1 i2:Nat}{u1 u2:List V}{s1 s2:List Wd}{o1 o2:List V}{t1 t2:List Go}{Q:VK}{E:XK}
end
end L2
set_option Elab.async false
set_option linter.all false
set_option maxRecDepth 100000
set_option maxHeartbeats 1000000
namespace L2
open PySem PySem.Spec PyProof.Rows
theorem mvI_0 (s:Int):mvI s 0=0:=by
 unfold mvI
 simp
section
variable {I ins l m:Nat}{f:Nat -> Nat}{ds0 ds:List Wd}{gs0 gs:List Go}
end
end L2
set_option Elab.async false
set_option linter.all false
set_option maxRecDepth 100000
set_option maxHeartbeats 1000000
namespace L2
open PySem PySem.Spec PyProof.Rows
structure HKs {α:Type} (K:PySem.W.Frag) (f:α -> List V) (H:Hp) (vs:List V) (xs:List α):Prop where
 len:vs.length=xs.length
 at_:∀ (k:Nat) (x:α),xs[k]? = some x -> ∃ p:Addr,vs[k]? = some (.ref p) /\ SqT K H p (f x)
section
variable {α:Type}{K:PySem.W.Frag}{f:α -> List V}{H H':Hp}{vs us:List V}{xs:List α}{l:Addr}
theorem HTs.hk (h:HTs f H vs xs):HKs K f H vs xs:=⟨h.len,fun k x e=>by
 obtain ⟨p,e1,e2⟩:=h.at_ k x e
 exact ⟨p,e1,SqT.of e2⟩⟩
theorem HKs.same (h:HKs K f H vs xs)(s:Same H H'):HKs K f H' vs xs:=⟨h.len,fun k d e=>by
 obtain ⟨x,e1,e2⟩:=h.at_ k d e
 exact ⟨x,e1,s.seqT e2⟩⟩
theorem HKs.chgL (h:HKs K f H vs xs)(hl:H l=some (.lst us))(c:Chg l H H'):HKs K f H' vs xs:=⟨h.len,fun k d e=>by
 obtain ⟨x,e1,e2⟩:=h.at_ k d e
 exact ⟨x,e1,sqT_chg e2 hl c⟩⟩
theorem hks_nil:HKs K f H [] []:=⟨rfl,fun k d h=>by simp at h⟩
theorem HKs.snoc {x:α}{p:Addr}(h:HKs K f H vs xs)(hx:SqT K H p (f x)):HKs K f H (vs ++ [.ref p]) (xs ++ [x]):=by
 refine ⟨by simp [h.len],fun k e he=>?_⟩
 rcases get_snoc he with ⟨hk,z⟩ | ⟨hk,rfl⟩
 ·obtain ⟨y,e1,e2⟩:=h.at_ k e z
  exact ⟨y,by rw [qH (by rw [h.len]; exact hk)]; exact e1,e2⟩
 ·refine ⟨p,?_,hx⟩
  rw [qG (by rw [h.len]; omega),h.len,hk,Nat.sub_self]
  rfl
theorem HKs.app {us:List V}{ys:List α}(h:HKs K f H vs xs)(h':HKs K f H us ys):HKs K f H (vs ++ us) (xs ++ ys):=by
 refine ⟨by rw [qF,qF,h.len,h'.len],fun k x e=>?_⟩
 by_cases z:k < xs.length
 ·rw [qH z] at e
  obtain ⟨p,e1,e2⟩:=h.at_ k x e
  exact ⟨p,by rw [qH (by rw [h.len]; exact z)]; exact e1,e2⟩
 ·rw [qG (by omega)] at e
  obtain ⟨p,e1,e2⟩:=h'.at_ _ x e
  exact ⟨p,by rw [qG (by rw [h.len]; omega),h.len]; exact e1,e2⟩
end
structure WbK (K:PySem.W.Frag) (H:Hp) (w dl gl:Addr) (ins:Nat) (us:List V) (ds:List Wd) (os:List V) (gs:List Go):Prop where
 tup:H w=some (.tup [.int ins,.ref dl,.ref gl])
 dll:H dl=some (.lst us)
 hds:HTs wTup H us ds
 gll:H gl=some (.lst os)
 hgs:HKs K gTp H os gs
theorem Wb.wk {K:PySem.W.Frag}{H:Hp}{w dl gl:Addr}{ins:Nat}{us:List V}{ds:List Wd}{os:List V}{gs:List Go}(h:Wb H w dl gl ins us ds os gs):WbK K H w dl gl ins us ds os gs:=⟨h.tup,h.dll,h.hds,h.gll,h.hgs.hk⟩
theorem WbK.same {K:PySem.W.Frag}{H H':Hp}{w dl gl:Addr}{ins:Nat}{us:List V}{ds:List Wd}{os:List V}{gs:List Go}(h:WbK K H w dl gl ins us ds os gs)(s:Same H H'):WbK K H' w dl gl ins us ds os gs :=
 ⟨s _ _ h.tup,s _ _ h.dll,h.hds.same s,s _ _ h.gll,h.hgs.same s⟩
def sT (n:Nat):List V:=[.int n,.int 0,.int 1]
end L2
set_option Elab.async false
set_option linter.all false
set_option maxRecDepth 100000
set_option maxHeartbeats 1000000
namespace L2
open PySem PySem.Spec PyProof.Rows
section
variable {X:Cx}
end
section
variable {K:PySem.W.Frag}{σ:St}{H:Hp}{Q:VK}{cs:List Nat}{te:TE}
end
def outsR (ins:Nat)(ds:List Wd)(gs:List Go):List (List Int):=gs.map (outR (rowsW ins ds))
end L2
set_option Elab.async false
set_option linter.all false
set_option maxRecDepth 100000
set_option maxHeartbeats 1000000
namespace L2
open PySem PySem.Spec PyProof.Rows
theorem WbK.chg {K:PySem.W.Frag}{H H':Hp}{w dl gl l:Addr}{ins:Nat}{us xs:List V}{ds:List Wd}{os:List V}{gs:List Go}(h:WbK K H w dl gl ins us ds os gs)(hl:H l=some (.lst xs))(h1:dl ≠ l)(h2:gl ≠ l)(c:Chg l H H'):WbK K H' w dl gl ins us ds os gs :=
 ⟨c _ _ (ne_of h.tup hl (by intro z; cases z)) h.tup,c _ _ h1 h.dll,h.hds.chgL hl c,c _ _ h2 h.gll,h.hgs.chgL hl c⟩
section
variable {c:Bool}{i1 i2:Nat}{s1 s2:List Wd}{t1 t2:List Go}
def lowOk (ds:List Wd)(gs:List Go):Prop:=(∀ d ∈ ds,0 <= d.s /\ 0 <= d.t) /\ ∀ g ∈ gs,0 <= g.sh
end
section
variable {K:PySem.W.Frag}{σ:St}{H:Hp}{Q:VK}{cs:List Nat}{te:TE}
end
end L2
set_option Elab.async false
set_option linter.all false
set_option maxRecDepth 100000
set_option maxHeartbeats 1000000
namespace L2
open PySem PySem.Spec PyProof.Rows
end L2
set_option Elab.async false
set_option linter.all false
set_option maxRecDepth 100000
set_option maxHeartbeats 1000000
namespace L2
open PySem PySem.Spec PyProof.Rows
section
variable {prog:Program}{w:World}{A:Around}{E:Value -> Shared -> Prop}{s:Shared}
end
end L2
set_option Elab.async false
set_option linter.all false
set_option maxRecDepth 100000
set_option maxHeartbeats 1000000
namespace L2
open PySem PySem.Spec PyProof.Rows
section
variable {prog:Program}{w:World}{A:Around}{E:Value -> Shared -> Prop}{s:Shared}
end
section
variable {prog:Program}{w:World}{A:Around}{R:Result -> Shared -> Prop}{I:Addr}{fp wr:List Addr}{G:Array GenState -> Array GenState -> Prop}{P:Nat -> Value -> Prop}{St:Nat -> Shared -> Prop}
end
section
variable {prog:Program}{w:World}{A:Around}{E:Value -> Shared -> Prop}{s:Shared}
end
end L2
set_option Elab.async false
set_option linter.all false
set_option maxRecDepth 100000
set_option maxHeartbeats 1000000
namespace L2
open PySem PySem.Spec PyProof.Rows
section
variable {prog:Program}{w:World}{A:Around}{E:Value -> Shared -> Prop}{s:Shared}{it S:Addr}{f:Value}{i n ep:Nat}{es:Array (Int × Value)}{t:SetTable}
end
end L2
set_option Elab.async false
set_option linter.all false
set_option maxRecDepth 100000
set_option maxHeartbeats 1000000
namespace L2
open PySem PySem.Spec PyProof.Rows
section
variable {prog:Program}{w:World}{A:Around}{E:Value -> Shared -> Prop}{s:Shared}{S:Addr}{i ep:Nat}{es:Array (Int × Value)}{t:SetTable}{ks:List Int}
end
end L2
set_option Elab.async false
set_option linter.all false
set_option maxRecDepth 100000
set_option maxHeartbeats 1000000
namespace L2
open PySem PySem.Spec PyProof.Rows
section
variable {prog:Program}{w:World}{A:Around}{E:Value -> Shared -> Prop}{s:Shared}{S it:Addr}{ep:Nat}{es:Array (Int × Value)}{t:SetTable}{ks:List Int}
end
end L2
set_option Elab.async false
set_option linter.all false
set_option maxRecDepth 100000
set_option maxHeartbeats 1000000
namespace L2
open PySem PySem.Spec PyProof.Rows
section
variable {prog:Program}{w:World}{A:Around}{E:Value -> Shared -> Prop}{s:Shared}{T:String}{r:Addr}{C:Nat -> (Nat -> Value -> Prop) -> Prop}{OK:Heap -> Prop}
end
section
variable {X:Cx}
end
end L2
set_option Elab.async false
set_option linter.all false
set_option maxRecDepth 100000
set_option maxHeartbeats 1000000
namespace L2
open PySem PySem.Spec PyProof.Rows
section
variable {X:Cx}
end
end L2
set_option Elab.async false
set_option linter.all false
set_option maxRecDepth 100000
set_option maxHeartbeats 1000000
namespace L2
open PySem PySem.Spec PyProof.Rows
section
variable {X:Cx}
end
end L2
set_option Elab.async false
set_option linter.all false
set_option maxRecDepth 100000
set_option maxHeartbeats 1000000
namespace L2
open PySem PySem.Spec PyProof.Rows
section
variable {ins:Nat}{ds:List Wd}
end
section
variable {ins:Nat}{ds:List Wd}{j lo:Nat}{far:List Int}
end
end L2
set_option Elab.async false
set_option linter.all false
set_option maxRecDepth 100000
set_option maxHeartbeats 1000000
namespace L2
open PySem PySem.Spec PyProof.Rows
section
variable {K:PySem.W.Frag}{σ:St}{H:Hp}{Q:VK}{cs:List Nat}{te:TE}
end
end L2
set_option Elab.async false
set_option linter.all false
set_option maxRecDepth 100000
set_option maxHeartbeats 1000000
namespace L2
open PySem PySem.Spec PyProof.Rows
section
variable {K:PySem.W.Frag}{σ:St}{H:Hp}{Q:VK}{cs:List Nat}{tt:TT}{te:TE}
end
end L2
set_option Elab.async false
set_option linter.all false
set_option maxRecDepth 100000
set_option maxHeartbeats 1000000
namespace L2
open PySem PySem.Spec PyProof.Rows
section
variable {X:Cx}
end
end L2
set_option Elab.async false
set_option linter.all false
set_option maxRecDepth 100000
set_option maxHeartbeats 1000000
namespace L2
open PySem PySem.Spec PyProof.Rows
def pm (some_:List Int)(h:Int):List Int:=some_.flatMap fun r=>[h+r,h - r]
end L2
set_option Elab.async false
set_option linter.all false
set_option maxRecDepth 100000
set_option maxHeartbeats 1000000
namespace L2
open PySem PySem.Spec PyProof.Rows
section
variable {K:PySem.W.Frag}{σ:St}{H:Hp}{Q:VK}{cs:List Nat}{te:TE}
end
def tw (one other:Int):List Int:=coreN (one+other) :: (if one=other then [] else [coreN (one - other)])
end L2
set_option Elab.async false
set_option linter.all false
set_option maxRecDepth 100000
set_option maxHeartbeats 1000000
namespace L2
open PySem PySem.Spec PyProof.Rows
section
variable {prog:Program}{w:World}{A:Around}{E:Value -> Shared -> Prop}{s:Shared}{K:PySem.W.Frag}{x C dx:Addr}{ox:Obj}{name:Str}{v:Value}
end
section
variable {prog:Program}{w:World}{A:Around}{E:Value -> Shared -> Prop}{h:Heap}{g:Array GenState}{d:Drawn}{t:Nat}{os:OsState}
variable {nm q:Str}{C N:Addr}{bs bm bmB:List Value}{hdct:Bool}{sn:List Str}{sub:List Value}{ab:Bool}{col:Option Bool}{dd:Option Addr}{k0 k1 k2 k3 k5:Option Value}{B newId initId:String}
end
end L2
set_option Elab.async false
set_option linter.all false
set_option maxRecDepth 100000
set_option maxHeartbeats 1000000
namespace L2
open PySem PySem.Spec PyProof.Rows
section
variable {X:Cx}{pins:List (Addr × Obj)}{σ:St}{H:Hp}{s:Shared}{x C t:Addr}{f:Str}
end
end L2
set_option Elab.async false
set_option linter.all false
set_option maxRecDepth 100000
set_option maxHeartbeats 1000000
namespace L2
open PySem PySem.Spec PyProof.Rows
section
variable {M:Model}{A:Around}{E:Value -> Shared -> Prop}{env:Env}
variable {nm q:Str}{C N:Addr}{bs bm:List Value}{hdct:Bool}{sn:List Str}{sub:List Value}{ab:Bool}{col:Option Bool}{dd:Option Addr}{k0 k1 k2 k3 k5:Option Value}{newId:String}
end
section
variable {X:Cx}{C:Addr}{f:Str}
end
end L2
set_option Elab.async false
set_option linter.all false
set_option maxRecDepth 100000
set_option maxHeartbeats 1000000
namespace L2
open PySem PySem.Spec PyProof.Rows
section
variable {prog:Program}{w:World}{A:Around}{E:Value -> Shared -> Prop}{s:Shared}{K:PySem.W.Frag}{x D:Addr}{o:Obj}{od:Option Obj}
end
end L2
set_option Elab.async false
set_option linter.all false
set_option maxRecDepth 100000
set_option maxHeartbeats 1000000
namespace L2
open PySem PySem.Spec PyProof.Rows
section
variable {α:Type}{p:α -> Bool}{l:List α}{i:Nat}{x:α}
end
section
variable {K:PySem.W.Frag}{σ:St}{H:Hp}{Q:VK}{cs:List Nat}{te:TE}
end
section
variable {K:PySem.W.Frag}{σ:St}{H:Hp}{Q:VK}{cs:List Nat}{te:TE}
end
end L2
set_option Elab.async false
set_option linter.all false
set_option maxRecDepth 100000
set_option maxHeartbeats 1000000
namespace L2
open PySem PySem.Spec PyProof.Rows
end L2
set_option Elab.async false
set_option linter.all false
set_option maxRecDepth 100000
set_option maxHeartbeats 1000000
namespace L2
open PySem PySem.Spec PyProof.Rows PySem.W
section
variable {key:Nat -> Int}{n:Nat}{p q:Array Nat}
end
end L2
set_option Elab.async false
set_option linter.all false
set_option maxRecDepth 100000
set_option maxHeartbeats 1000000
namespace L2
open PySem PySem.Spec PyProof.Rows PySem.W
section
variable {prog:Program}{w:World}{A:Around}{E:Value -> Shared -> Prop}{s:Shared}{vs:List Value}{ks:List Int}
end
end L2
set_option Elab.async false
set_option linter.all false
set_option maxRecDepth 100000
set_option maxHeartbeats 1000000
namespace L2
open PySem PySem.Spec PyProof.Rows PySem.W
section
variable {K:PySem.W.Frag}{σ:St}{H:Hp}{Q:VK}{cs:List Nat}{te:TE}
end
end L2
set_option Elab.async false
set_option linter.all false
set_option maxRecDepth 100000
set_option maxHeartbeats 1000000
namespace L2
open PySem PySem.Spec PyProof.Rows
end L2
set_option Elab.async false
set_option linter.all false
set_option maxRecDepth 100000
set_option maxHeartbeats 1000000
namespace L2
open PySem PySem.Spec PyProof.Rows
section
variable {X:Cx}{pos:Pos}
end
end L2
set_option Elab.async false
set_option linter.all false
set_option maxRecDepth 100000
set_option maxHeartbeats 1000000
namespace L2
open PySem PySem.Spec PyProof.Rows
end L2
set_option Elab.async false
set_option linter.all false
set_option maxRecDepth 100000
set_option maxHeartbeats 1000000
namespace L2
open PySem PySem.Spec PyProof.Rows
def Ex (s v:Int):Prop:=s < 0 -> (2:Int) ^ (-s).toNat ∣ v
def Sx (s v w:Int):Prop:=w * 2 ^ (-s).toNat=v * 2 ^ s.toNat
theorem Ex.sx {s v:Int}(h:Ex s v):Sx s v (mvI s v):=by
 unfold Sx
 by_cases z:s < 0
 ·rw [mvI_down z,show s.toNat=0 by omega,Int.pow_zero,Int.mul_one]
  exact Int.ediv_mul_cancel (h z)
 ·rw [mvI_up (by omega),show (-s).toNat=0 by omega,Int.pow_zero,Int.mul_one]
theorem Sx.ex {s v w:Int}(h:Sx s v w):Ex s v /\ mvI s v=w:=by
 unfold Sx at h
 by_cases z:s < 0
 ·rw [show s.toNat=0 by omega,Int.pow_zero,Int.mul_one] at h
  refine ⟨fun _=>⟨w,by rw [← h,Int.mul_comm]⟩,?_⟩
  rw [mvI_down z,← h]
  exact Int.mul_ediv_cancel _ (by have:=pow_pos2 (-s).toNat; omega)
 ·rw [show (-s).toNat=0 by omega,Int.pow_zero,Int.mul_one] at h
  exact ⟨fun y=>absurd y z,by rw [mvI_up (by omega),h]⟩
theorem Sx.add {s t v w u:Int}(h1:Sx s v w)(h2:Sx t w u):Sx (s+t) v u:=by
 unfold Sx at *
 obtain ⟨c,e1,e2⟩:∃ c:Nat,(-t).toNat+(-s).toNat=(-(s+t)).toNat+c /\ s.toNat+t.toNat=(s+t).toNat+c:=⟨(-t).toNat+(-s).toNat - (-(s+t)).toNat,by omega,by omega⟩
 have pc:=pow_pos2 c
 have k:u * 2 ^ ((-t).toNat+(-s).toNat)=v * 2 ^ (s.toNat+t.toNat):=by
  rw [Int.pow_add,Int.pow_add,← Int.mul_assoc,h2,← Int.mul_assoc,← h1,Int.mul_assoc,Int.mul_assoc,Int.mul_comm (2 ^ t.toNat)]
 rw [e1,e2,Int.pow_add,Int.pow_add,← Int.mul_assoc,← Int.mul_assoc] at k
 exact Int.eq_of_mul_eq_mul_right (by omega) k
theorem mv_add {s t v:Int}(h1:Ex s v)(h2:Ex t (mvI s v)):Ex (s+t) v /\ mvI (s+t) v=mvI t (mvI s v):=(h1.sx.add h2.sx).ex
theorem Ex.neg {s v:Int}(h:Ex s v):Ex s (-v):=fun z=>Int.dvd_neg.mpr (h z)
theorem mv_neg {s v:Int}(h:Ex s v):mvI s (-v) = - mvI s v:=by
 refine (Sx.ex ?_).2
 have:=h.sx
 unfold Sx at *
 rw [Int.neg_mul,Int.neg_mul,this]
def movG (p:Go)(s g:Int):Go:=if p.sg * g=0 then ⟨0,0,0⟩ else ⟨p.th,p.sh+s,p.sg * g⟩
def deedG (p q:Go):Wd:=if p.sg=q.sg then ⟨Str.ofString "sum",p.th,p.sh,q.th,q.sh⟩ else if p.sg=1 then ⟨Str.ofString "less",p.th,p.sh,q.th,q.sh⟩ else ⟨Str.ofString "less",q.th,q.sh,p.th,p.sh⟩
def signG (p q:Go):Int:=if p.sg=q.sg then p.sg else 1
def addG (ins:Nat)(ds:List Wd)(p q:Go):List Wd:=if p.sg=0 then ds else if q.sg=0 then ds else ds ++ [deedG p q]
def addP (ins:Nat)(ds:List Wd)(p q:Go):Go:=if p.sg=0 then q else if q.sg=0 then p else ⟨ins+ds.length,0,signG p q⟩
def g0:Go:=⟨0,0,0⟩
def behT (ins:Nat)(a:List Wd × List Go)(d:Wd):List Wd × List Go :=
 let p:=movG (a.2.getD d.a g0) d.s 1
 let q:=movG (a.2.getD d.b g0) d.t (sgW d.w)
 (addG ins a.1 p q,a.2 ++ [addP ins a.1 p q])
def behF (ins:Nat)(a:List Wd × List Go)(s2:List Wd):List Wd × List Go:=s2.foldl (behT ins) a
theorem behF_snoc (ins:Nat)(a:List Wd × List Go)(e:List Wd)(d:Wd):behF ins a (e ++ [d])=behT ins (behF ins a e) d:=by unfold behF; rw [List.foldl_append]; rfl
def SgOk (p:Go):Prop:=p=g0 \/ p.sg=1 \/ p.sg = -1
theorem SgOk.cases {p:Go}(h:SgOk p):(p.sg=0 /\ p=g0) \/ p.sg=1 \/ p.sg = -1:=by
 rcases h with z | z | z
 ·exact .inl ⟨by rw [z]; rfl,z⟩
 ·exact .inr (.inl z)
 ·exact .inr (.inr z)
structure PtOkV (n:Nat) (vs:List Int) (p:Go):Prop where
 th:p.th < n
 sg:SgOk p
 ex:Ex p.sh (vs.getD p.th 0)
theorem mov_val {n:Nat}{vs:List Int}{p:Go}{s g:Int}(h:PtOkV n vs p)(hn:0 < n)(hg:g=1 \/ g = -1)(he:Ex s (outV vs p)):PtOkV n vs (movG p s g) /\ outV vs (movG p s g)=g * mvI s (outV vs p):=by
 rcases h.sg.cases with ⟨z,z0⟩ | z
 ·have e:movG p s g=g0:=by unfold movG; rw [if_pos (by rw [z,Int.zero_mul])]; rfl
  rw [e]
  refine ⟨⟨hn,.inl rfl,fun y=>absurd y (by decide)⟩,?_⟩
  unfold outV g0
  rw [z,Int.zero_mul,Int.zero_mul,mvI_0,Int.mul_zero]
 ·have e:movG p s g=⟨p.th,p.sh+s,p.sg * g⟩:=by
   unfold movG
   rw [if_neg]
   rcases z with z | z <;> rcases hg with y | y <;> rw [z,y] <;> decide
  have he':Ex s (mvI p.sh (vs.getD p.th 0)):=by
   unfold outV at he
   rcases z with z | z
   ·rw [z,Int.one_mul] at he; exact he
   ·rw [z,Int.neg_one_mul] at he
    have:=he.neg
    rw [Int.neg_neg] at this
    exact this
  obtain ⟨m1,m2⟩:=mv_add h.ex he'
  rw [e]
  refine ⟨⟨h.th,.inr ?_,m1⟩,?_⟩
  ·show p.sg * g=1 \/ p.sg * g = -1
   rcases z with z | z <;> rcases hg with y | y <;> rw [z,y] <;> decide
  ·unfold outV
   show p.sg * g * mvI (p.sh+s) (vs.getD p.th 0)=_
   rw [m2]
   rcases z with z | z
   ·rw [z,Int.one_mul,Int.one_mul]
   ·rw [z,Int.neg_one_mul (mvI p.sh _),mv_neg he',Int.neg_one_mul,Int.neg_mul,Int.mul_neg]
theorem deedG_val {vs:List Int}{p q:Go}(hp:p.sg=1 \/ p.sg = -1)(hq:q.sg=1 \/ q.sg = -1):signG p q * valD vs (deedG p q)=outV vs p+outV vs q:=by
 unfold deedG signG valD outV
 have l1:sgW (Str.ofString "sum")=1:=by decide
 have l2:sgW (Str.ofString "less") = -1:=by decide
 rcases hp with z | z <;> rcases hq with y | y <;> rw [z,y]
 ·rw [if_pos rfl,if_pos rfl]; simp only [l1,Int.one_mul]
 ·rw [if_neg (by decide),if_neg (by decide),if_pos rfl]; simp only [l2,Int.one_mul]
 ·rw [if_neg (by decide),if_neg (by decide),if_neg (by decide)]; simp only [l2,Int.one_mul]; rw [Int.add_comm]
 ·rw [if_pos rfl,if_pos rfl]; simp only [l1,Int.one_mul]; rw [Int.mul_add]
def ExD (xs:List Int)(ds:List Wd):Prop:=∀ (k:Nat) (d:Wd),ds[k]? = some d -> d.a < xs.length+k /\ d.b < xs.length+k /\ (d.w = "sum" \/ d.w = "less") /\ Ex d.s ((valsW xs ds).getD d.a 0) /\ Ex d.t ((valsW xs ds).getD d.b 0)
theorem ExD.pre {xs:List Int}{e:List Wd}{d:Wd}(h:ExD xs (e ++ [d])):ExD xs e:=fun k x hk=>by
 have kl:=(qB.mp hk).1
 obtain ⟨h1,h2,h3,h4,h5⟩:=h k x (by rw [qH kl]; exact hk)
 rw [valsW_stay (by omega)] at h4
 rw [valsW_stay (by omega)] at h5
 exact ⟨h1,h2,h3,h4,h5⟩
theorem ExD.snoc {xs:List Int} {e:List Wd} {d:Wd} (h:ExD xs e) (h1:d.a < xs.length+e.length) (h2:d.b < xs.length+e.length) (h3:d.w = "sum" \/ d.w = "less") (h4:Ex d.s ((valsW xs e).getD d.a 0)) (h5:Ex d.t ((valsW xs e).getD d.b 0)):ExD xs (e ++ [d]):=fun k x hk=>by
 rcases get_snoc hk with ⟨kl,z⟩ | ⟨kl,rfl⟩
 ·obtain ⟨a1,a2,a3,a4,a5⟩:=h k x z
  rw [valsW_stay (by omega),valsW_stay (by omega)]
  exact ⟨a1,a2,a3,a4,a5⟩
 ·rw [valsW_stay h1,valsW_stay h2,kl]
  exact ⟨h1,h2,h3,h4,h5⟩
theorem PtOkV.more {xs:List Int}{ds:List Wd}{d:Wd}{p:Go}(h:PtOkV (xs.length+ds.length) (valsW xs ds) p):PtOkV (xs.length+(ds ++ [d]).length) (valsW xs (ds ++ [d])) p /\ outV (valsW xs (ds ++ [d])) p=outV (valsW xs ds) p:=by
 refine ⟨⟨by have:=h.th; rw [qF]; simp; omega,h.sg,by rw [valsW_stay h.th]; exact h.ex⟩,?_⟩
 unfold outV
 rw [valsW_stay h.th]
structure BehV (xs ys:List Int) (s1 e:List Wd) (D:List Wd) (st:List Go):Prop where
 len:st.length=ys.length+e.length
 pt:∀ (k:Nat) (p:Go),st[k]? = some p -> PtOkV (xs.length+D.length) (valsW xs D) p /\ outV (valsW xs D) p=(valsW ys e).getD k 0
 ex:ExD xs D
 mem:∀ v ∈ valsW xs D,v ∈ valsW xs s1 \/ ∃ u ∈ valsW ys e,v=u \/ v = -u
 few:D.length <= s1.length+e.length
theorem beh_val {xs:List Int}{s1:List Wd}{t1:List Go}(hx:0 < xs.length)(E1:ExD xs s1)(T1:∀ p ∈ t1,PtOkV (xs.length+s1.length) (valsW xs s1) p)(s2:List Wd) :
  ExD (t1.map (outV (valsW xs s1))) s2 -> BehV xs (t1.map (outV (valsW xs s1))) s1 s2 (behF xs.length (s1,t1) s2).1 (behF xs.length (s1,t1) s2).2:=by
 generalize hy:t1.map (outV (valsW xs s1))=ys
 refine snoc_ind (p:=fun s2=>ExD ys s2 -> BehV xs ys s1 s2 (behF xs.length (s1,t1) s2).1 (behF xs.length (s1,t1) s2).2) (fun _=>?_) (fun e d ih hE=>?_) s2
 ·refine ⟨?_,fun k p hk=>?_,E1,fun v hv=>.inl hv,Nat.le_refl _⟩
  ·rw [← hy,qC]; rfl
  ·refine ⟨T1 p (qE hk),?_⟩
   refine (getD_of ?_).symm
   show ys[k]? = _
   rw [← hy,qI,show t1[k]? = some p from hk]
   rfl
 ·have B:=ih hE.pre
  obtain ⟨h1,h2,h3,h4,h5⟩:=hE e.length d (by rw [qG (Nat.le_refl _),Nat.sub_self]; rfl)
  rw [valsW_stay h1] at h4
  rw [valsW_stay h2] at h5
  rw [behF_snoc]
  generalize behF xs.length (s1,t1) e=a at B ⊢
  obtain ⟨D,st⟩:=a
  have sl:=B.len
  dsimp only at sl B
  have ea:=qA (l:=st) (i:=d.a) (by omega)
  have eb:=qA (l:=st) (i:=d.b) (by omega)
  obtain ⟨pa,va⟩:=B.pt _ _ ea
  obtain ⟨pb,vb⟩:=B.pt _ _ eb
  have sgd:sgW d.w=1 \/ sgW d.w = -1:=by rcases h3 with z | z <;> rw [z] <;> decide
  obtain ⟨p1,p2⟩:=mov_val (s:=d.s) (g:=1) pa (by omega) (.inl rfl) (by rw [va]; exact h4)
  obtain ⟨q1,q2⟩:=mov_val (s:=d.t) (g:=sgW d.w) pb (by omega) sgd (by rw [vb]; exact h5)
  have ga:st.getD d.a g0=st[d.a]'(by omega):=getD_of ea
  have gb:st.getD d.b g0=st[d.b]'(by omega):=getD_of eb
  rw [va,Int.one_mul] at p2
  rw [vb] at q2
  have tot:outV (valsW xs D) (movG (st.getD d.a g0) d.s 1)+outV (valsW xs D) (movG (st.getD d.b g0) d.t (sgW d.w))=valD (valsW ys e) d:=by
   rw [ga,gb,p2,q2]; rfl
  have vlast:(valsW ys (e ++ [d])).getD (ys.length+e.length) 0=valD (valsW ys e) d:=by
   rw [valsW_snoc]
   refine getD_of ?_
   rw [qG (by rw [valsW_len]; exact Nat.le_refl _),valsW_len,Nat.sub_self]
   rfl
  have mem2:valD (valsW ys e) d ∈ valsW ys (e ++ [d]):=by rw [valsW_snoc]; exact qK _ (List.mem_singleton.mpr rfl)
  have sub2:∀ u ∈ valsW ys e,u ∈ valsW ys (e ++ [d]):=fun u hu=>by rw [valsW_snoc]; exact List.mem_append_left _ hu
  rw [← ga] at p1
  rw [← gb] at q1
  clear p2 q2 pa pb va vb ea eb ga gb
  unfold behT
  dsimp only
  generalize movG (st.getD d.a g0) d.s 1=p at p1 tot ⊢
  generalize movG (st.getD d.b g0) d.t (sgW d.w)=q at q1 tot ⊢
  have keep:∀ x:Go,PtOkV (xs.length+D.length) (valsW xs D) x -> outV (valsW xs D) x=valD (valsW ys e) d -> BehV xs ys s1 (e ++ [d]) D (st ++ [x]):=fun x px vx=>by
   refine ⟨by rw [qF,qF,sl]; rfl,fun k y hk=>?_,B.ex,fun v hv=>?_,by rw [qF]; have:=B.few; omega⟩
   ·rcases get_snoc hk with ⟨kl,z⟩ | ⟨kl,rfl⟩
    ·obtain ⟨c1,c2⟩:=B.pt k y z
     exact ⟨c1,by rw [c2,valsW_stay (by omega)]⟩
    ·exact ⟨px,by rw [vx,kl,sl,vlast]⟩
   ·rcases B.mem v hv with z | ⟨u,hu,z⟩
    ·exact .inl z
    ·exact .inr ⟨u,sub2 u hu,z⟩
  rcases p1.sg.cases with ⟨z,z0⟩ | zp
  ·unfold addG addP
   rw [if_pos z,if_pos z]
   refine keep q q1 ?_
   rw [← tot]
   unfold outV
   rw [z,Int.zero_mul,Int.zero_add]
  have np:p.sg ≠ 0:=by omega
  rcases q1.sg.cases with ⟨z,z0⟩ | zq
  ·unfold addG addP
   rw [if_neg np,if_neg np,if_pos z,if_pos z]
   refine keep p p1 ?_
   rw [← tot]
   unfold outV
   rw [z,Int.zero_mul,Int.add_zero]
  have nq:q.sg ≠ 0:=by omega
  unfold addG addP
  rw [if_neg np,if_neg np,if_neg nq,if_neg nq]
  have dv:=deedG_val (vs:=valsW xs D) zp zq
  rw [tot] at dv
  have sgn:signG p q=1 \/ signG p q = -1:=by unfold signG; split <;> omega
  have vD:valsW xs (D ++ [deedG p q])=valsW xs D ++ [valD (valsW xs D) (deedG p q)]:=valsW_snoc _ _ _
  have last:(valsW xs (D ++ [deedG p q])).getD (xs.length+D.length) 0=valD (valsW xs D) (deedG p q):=by
   rw [vD]
   refine getD_of ?_
   rw [qG (by rw [valsW_len]; exact Nat.le_refl _),valsW_len,Nat.sub_self]
   rfl
  have hdd:ExD xs (D ++ [deedG p q]):=by
   have c1:=p1.th
   have c2:=q1.th
   have c3:=p1.ex
   have c4:=q1.ex
   unfold deedG
   split
   ·exact B.ex.snoc c1 c2 (.inl rfl) c3 c4
   ·split
    ·exact B.ex.snoc c1 c2 (.inr rfl) c3 c4
    ·exact B.ex.snoc c2 c1 (.inr rfl) c4 c3
  refine ⟨by rw [qF,qF,sl]; rfl,fun k y hk=>?_,hdd,fun v hv=>?_,by rw [qF,qF]; have:=B.few; simp; omega⟩
  ·rcases get_snoc hk with ⟨kl,z⟩ | ⟨kl,rfl⟩
   ·obtain ⟨c1,c2⟩:=B.pt k y z
    obtain ⟨c3,c4⟩:=c1.more (d:=deedG p q)
    exact ⟨c3,by rw [c4,c2,valsW_stay (by omega)]⟩
   ·refine ⟨⟨by rw [qF]; simp,.inr sgn,fun z=>absurd z (Int.lt_irrefl 0)⟩,?_⟩
    unfold outV
    show signG p q * mvI 0 ((valsW xs (D ++ [deedG p q])).getD (xs.length+D.length) 0)=_
    rw [last,mvI_zero,dv,kl,sl,vlast]
  ·rw [vD] at hv
   rcases List.mem_append.mp hv with z | z
   ·rcases B.mem v z with y | ⟨u,hu,y⟩
    ·exact .inl y
    ·exact .inr ⟨u,sub2 u hu,y⟩
   ·rw [List.mem_singleton.mp z]
    refine .inr ⟨_,mem2,?_⟩
    rcases sgn with y | y
    ·rw [y,Int.one_mul] at dv; exact .inl dv
    ·rw [y,Int.neg_one_mul] at dv; exact .inr (by omega)
theorem beh_sh {ins:Nat}{s1:List Wd}{t1:List Go}(Φ:Nat -> Int -> Prop)(δ:Int -> Prop)(mono:∀ n s,Φ n s -> Φ (n+1) s)(step:∀ n s t,Φ n s -> δ t -> Φ (n+1) (s+t))(zero:∀ n,Φ n 0)(h1:∀ d ∈ s1,Φ 0 d.s /\ Φ 0 d.t)(ht:∀ p ∈ t1,Φ 0 p.sh)(s2:List Wd) :
  (∀ d ∈ s2,δ d.s /\ δ d.t) -> (∀ d ∈ (behF ins (s1,t1) s2).1,Φ s2.length d.s /\ Φ s2.length d.t) /\ ∀ p ∈ (behF ins (s1,t1) s2).2,Φ s2.length p.sh:=by
 refine snoc_ind (p:=fun s2=>(∀ d ∈ s2,δ d.s /\ δ d.t) -> (∀ d ∈ (behF ins (s1,t1) s2).1,Φ s2.length d.s /\ Φ s2.length d.t) /\ ∀ p ∈ (behF ins (s1,t1) s2).2,Φ s2.length p.sh) (fun _=>⟨h1,ht⟩) (fun e d ih hE=>?_) s2
 obtain ⟨A,B⟩:=ih fun x hx=>hE x (List.mem_append_left _ hx)
 obtain ⟨e1,e2⟩:=hE d (qK _ (List.mem_singleton.mpr rfl))
 rw [behF_snoc,show (e ++ [d]).length=e.length+1 by simp]
 generalize behF ins (s1,t1) e=a at A B ⊢
 obtain ⟨D,st⟩:=a
 have get:∀ k,Φ e.length (st.getD k g0).sh:=fun k=>by
  by_cases z:k < st.length
  ·have ek:=qA z
   rw [getD_of ek]
   exact B _ (qE ek)
  ·rw [qD,List.getElem?_eq_none (by omega)]
   exact zero _
 have mv:∀ k s g,δ s -> Φ (e.length+1) (movG (st.getD k g0) s g).sh:=fun k s g hs=>by
  unfold movG
  split
  ·exact zero _
  ·exact step _ _ _ (get k) hs
 have hp:=mv d.a d.s 1 e1
 have hq:=mv d.b d.t (sgW d.w) e2
 unfold behT
 dsimp only
 generalize movG (st.getD d.a g0) d.s 1=p at hp ⊢
 generalize movG (st.getD d.b g0) d.t (sgW d.w)=q at hq ⊢
 have old:∀ x ∈ D,Φ (e.length+1) x.s /\ Φ (e.length+1) x.t:=fun x hx=>⟨mono _ _ (A x hx).1,mono _ _ (A x hx).2⟩
 refine ⟨fun x hx=>?_,fun x hx=>?_⟩
 ·unfold addG at hx
  split at hx
  ·exact old x hx
  ·split at hx
   ·exact old x hx
   ·rcases List.mem_append.mp hx with z | z
    ·exact old x z
    ·rw [List.mem_singleton.mp z]
     unfold deedG
     split
     ·exact ⟨hp,hq⟩
     ·split
      ·exact ⟨hp,hq⟩
      ·exact ⟨hq,hp⟩
 ·rcases List.mem_append.mp hx with z | z
  ·exact mono _ _ (B x z)
  ·rw [List.mem_singleton.mp z]
   unfold addP
   split
   ·exact hq
   ·split
    ·exact hp
    ·exact zero _
end L2
set_option Elab.async false
set_option linter.all false
set_option maxRecDepth 100000
set_option maxHeartbeats 1000000
namespace L2
open PySem PySem.Spec PyProof.Rows
def Sh14 (s x:Int):Prop:=-4000 <= s /\ s <= 4000 /\ (s < 0 -> (2:Int) ^ (-s).toNat ∣ x)
theorem Sh1.sh4 {s x:Int}(h:Sh1 s x):Sh14 s x:=⟨by have:=h.1; omega,by have:=h.2.1; omega,h.2.2⟩
theorem Sh14.shV {s x:Int}(h:Sh14 s x):L2.shV x s = .int (mvI s x):=shV_mv (r:=[x]) (List.mem_singleton.mpr rfl) fun z y hy=>by
 rw [List.mem_singleton.mp hy]
 exact h.2.2 z
structure VOk4 (xs:List Int) (ds:List Wd):Prop where
 dk:∀ (k:Nat) (d:Wd),ds[k]? = some d -> d.a < xs.length+k /\ d.b < xs.length+k /\ Sh14 d.s ((valsW xs ds).getD d.a 0) /\ Sh14 d.t ((valsW xs ds).getD d.b 0)
 vb:∀ v ∈ valsW xs ds,v.natAbs < 2 ^ 9000
 xl:xs.length <= 12
 dl:ds.length <= 60
theorem VOk.v4 {xs:List Int}{ds:List Wd}(h:VOk xs ds):VOk4 xs ds:=⟨fun k d hd=>by
 obtain ⟨a,b,c,e⟩:=h.dk k d hd
 exact ⟨a,b,c.sh4,e.sh4⟩,h.vb,h.xl,h.dl⟩
theorem toldA_step4 {xs:List Int}{ds:List Wd}(V:VOk4 xs ds){i:Nat}{a:Ar}(ha:(arrF xs.length 0 ds)[i]? = some a) :
  ∃ x y:Int,(toldA xs ds i)[a.st]? = some x /\ (toldA xs ds i)[a.go]? = some y /\ Sh14 a.sh x /\ x.natAbs < 2 ^ 9000 /\ (a.sg=1 \/ a.sg = -1) /\ (toldA xs ds i).set a.go (y+a.sg * mvI a.sh x)=toldA xs ds (i+1):=by
 obtain ⟨d,hd,hg,hc⟩:=arr_at ha
 rw [Nat.add_zero] at hg hc
 have hi:=(qB.mp hd).1
 obtain ⟨da,db,sa,sb⟩:=V.dk _ _ hd
 have tl:(valsW xs (ds.take (i / 2))).length=xs.length+i / 2:=by rw [valsW_len,qO]; omega
 have hb:∀ j,j < xs.length+i / 2 -> ∃ x,(valsW xs (ds.take (i / 2)))[j]? = some x /\ x=(valsW xs (ds.take (i / 2))).getD j 0 /\ x=(valsW xs ds).getD j 0 /\ x.natAbs < 2 ^ 9000:=fun j hj=>by
  have e:=qA (l:=valsW xs (ds.take (i / 2))) (i:=j) (by omega)
  refine ⟨_,e,(getD_of e).symm,?_,?_⟩
  ·rw [← valsW_takeD (i:=i / 2) (by omega) hj,getD_of e]
  ·have e2:=valsW_pre xs (ds.take (i / 2)) (ds.drop (i / 2)) e
   rw [List.take_append_drop] at e2
   exact V.vb _ (qE e2)
 rcases hc with ⟨hm,rfl⟩ | ⟨hm,rfl⟩
 ·obtain ⟨x,e1,e2,e3,e4⟩:=hb d.a da
  refine ⟨x,0,?_,?_,by rw [e3]; exact sa,e4,.inl rfl,?_⟩
  ·rw [toldA_even hm hd,qH (by show d.a < _; omega)]
   exact e1
  ·rw [toldA_even hm hd,qG (by show _ <= xs.length+i / 2; omega),tl]
   show (0 :: _)[xs.length+i / 2 - (xs.length+i / 2)]? = _
   rw [Nat.sub_self]
   rfl
  ·rw [toldA_even hm hd,set_mid tl,toldA_odd (i:=i+1) (d:=d) (by omega) (by rw [show (i+1) / 2=i / 2 by omega]; exact hd),show (i+1) / 2=i / 2 by omega,← e2]
   simp
 ·obtain ⟨x,e1,e2,e3,e4⟩:=hb d.b db
  have hs:sgW d.w=1 \/ sgW d.w = -1:=by
   unfold sgW
   split
   ·exact .inr rfl
   ·exact .inl rfl
  refine ⟨x,mvI d.s ((valsW xs (ds.take (i / 2))).getD d.a 0),?_,?_,by rw [e3]; exact sb,e4,hs,?_⟩
  ·rw [toldA_odd hm hd,qH (by show d.b < _; omega)]
   exact e1
  ·rw [toldA_odd hm hd,qG (by show _ <= xs.length+i / 2; omega),tl]
   show (_ :: _)[xs.length+i / 2 - (xs.length+i / 2)]? = _
   rw [Nat.sub_self]
   rfl
  ·rw [toldA_odd hm hd,set_mid tl]
   unfold toldA
   rw [if_pos (by omega),show (i+1) / 2=i / 2+1 by omega,valsW_take hd,List.append_assoc,Nat.sub_add_eq]
   show _=_ ++ (valD _ _ :: _)
   unfold valD
   rw [← e2]
   rfl
def spDArrK (K:PySem.W.Frag):Sp:=fun vs H Q _=>∃ (w dl gl:Addr) (ins:Nat) (us:List V) (ds:List Wd) (os:List V) (gs:List Go),vs=[.ref w] /\ WbK K H w dl gl ins us ds os gs /\ ds.length <= 400 /\
 ∀ r ws H',H r=none -> Same H H' -> H' r=some (.lst ws) -> HTs aTup H' ws (arrF ins 0 ds) -> Q (.ref r) H'
def spRunK (K:PySem.W.Frag):Sp:=fun vs H Q _=>∃ (x v dl gl:Addr) (us:List V) (ds:List Wd) (os:List V) (gs:List Go) (xs:List Int),vs=[.ref x,.ref v] /\ WbK K H x dl gl xs.length us ds os gs /\ H v=some (.lst (xs.map V.int)) /\ VOk4 xs ds /\
 ∀ r H',H r=none -> Same H H' -> H' r=some (.lst ((valsW xs ds).map V.int)) -> Q (.ref r) H'
def spRunOK (K:PySem.W.Frag):Sp:=fun vs H Q _=>∃ (x v dl gl:Addr) (us:List V) (ds:List Wd) (os:List V) (gs:List Go) (xs:List Int),vs=[.ref x,.ref v] /\ WbK K H x dl gl xs.length us ds os gs /\ H v=some (.lst (xs.map V.int)) /\ VOk4 xs ds /\ gs.length <= 12 /\
 (∀ g ∈ gs,g.th < xs.length+ds.length /\ Sh14 g.sh ((valsW xs ds).getD g.th 0) /\ (g.sg=0 \/ g.sg=1 \/ g.sg = -1)) /\
 ∀ r H',H r=none -> Same H H' -> H' r=some (.lst ((gs.map (outV (valsW xs ds))).map V.int)) -> Q (.ref r) H'
section
variable {K:PySem.W.Frag}{σ:St}{H:Hp}{Q:VK}{cs:List Nat}{te:TE}{tt:TT}
theorem comp_goalsK {gl:Addr}{os:List V}{gs:List Go}(hl:H gl=some (.lst os))(hg:HKs K gTp H os gs)(hz:gs.length <= 1000)(f:Go -> Option V)
  (hb:∀ g H' (R:Option V -> Hp -> Prop),g ∈ gs -> Same H H' -> R (f g) H' -> tt ([some (.int (g.th:Int)),some (.int g.sh),some (.int g.sg)] ++ capV cs σ) H' fun b H4=>if b=true then te ([some (.int (g.th:Int)),some (.int g.sh),some (.int g.sg)] ++ capV cs σ) H4 fun y H5=>R (some y) H5 else R none H4)
  (hd:∀ acc H',H acc=none -> Same H H' -> H' acc=some (.lst (gs.filterMap f)) -> Q (.ref acc) H') :
  CompIt (Itl K gl) 3 cs (gTupK K 3 (gCons (gName 0) (gCons (gName 1) (gCons (gName 2) gNil)))) tt te σ H Q:=by
 refine comp_any gs.length (fun acc i ws H'=>Same H H' /\ H' acc=some (.lst ws) /\ ws=(gs.take i).filterMap f) (le_size hz) ?_ ?_ ?_ ?_ ?_ ?_
 ·rintro acc i ws H' hi ⟨s,_,_⟩
  exact ⟨os,os[i]'(by rw [hg.len]; exact hi),SqL.of (s _ _ hl),qA _⟩
 ·rintro acc ws H' ⟨s,_,_⟩
  exact ⟨os,SqL.of (s _ _ hl),by rw [hg.len]; exact Nat.le_refl _⟩
 ·intro acc ha
  exact ⟨same_new ha _,upd_same,rfl⟩
 ·rintro acc i ws H' ⟨s,ha,rfl⟩
  exact ⟨ha,Nat.le_trans (List.length_filterMap_le _ _) (by rw [qO]; omega)⟩
 ·rintro acc i ws H' ts x H2 N hn hi ⟨s,ha,hws⟩ y hts hN
  obtain ⟨e,hx0⟩:=y
  have hx:=hx0 os (SqL.of (s _ _ hl))
  clear hx0
  subst e
  obtain ⟨p,hp1,hp2⟩:=hg.at_ i _ (qA hi)
  have hgi:gs[i]? = some gs[i]:=qA hi
  have hgm:gs[i] ∈ gs:=List.getElem_mem hi
  generalize gs[i]=g at hp2 hgi hgm
  rw [hx] at hp1
  cases hp1
  obtain ⟨t0,t1,t2,rfl⟩:∃ t0 t1 t2,ts=[t0,t1,t2]:=by
   match ts,hts with
   | [a,b,c],_=>exact ⟨a,b,c,rfl⟩
  have hp3:=s.seqT hp2
  unfold gTp at hp3
  rw [w_gTupK]
  refine ⟨_,hp3,rfl,?_⟩
  rw [w_gCons,w_gName,w_gCons,w_gName,w_gCons,w_gName,w_gNil]
  have tk:gs.take (i+1)=gs.take i ++ [g]:=by rw [List.take_add_one,hgi]; rfl
  refine hb g _ (fun o H5=>match o with | some y=>H5 acc=some (.lst ws) /\ N (ws ++ [y]) ([some (.int (g.th:Int)),some (.int g.sh),some (.int g.sg)] ++ capV cs σ) (upd H5 acc (.lst (ws ++ [y]))) | none=>N ws ([some (.int (g.th:Int)),some (.int g.sh),some (.int g.sg)] ++ capV cs σ) H5) hgm s ?_
  cases hf:f g with
  | none =>
   refine hN _ _ _ rfl ⟨s,ha,?_⟩
   rw [tk,List.filterMap_append,← hws]
   simp [hf]
  | some y =>
   refine ⟨ha,hN _ _ _ rfl ⟨same_upd hn s,upd_same,?_⟩⟩
   rw [tk,List.filterMap_append,← hws]
   simp [hf]
 ·rintro acc ws H' hn ⟨s,ha,hws⟩
  rw [List.take_length] at hws
  subst hws
  exact hd acc H' hn s ha
end
def spMovE (K:PySem.W.Frag):Sp:=fun vs H Q _=>∃ (p:Addr) (P:Go) (s g:Int),vs=[.ref p,.int s,.int g] /\ SqT K H p (gTp P) /\ (g=0 \/ g=1 \/ g = -1) /\
 ∀ r H',Same H H' -> SqT K H' r (gTp (movG P s g)) -> Q (.ref r) H'
def spPartsE:Sp:=fun vs H Q _=>∃ (x:Addr) (d:Wd),vs=[.ref x] /\ H x=some (.tup (wTup d)) /\ (d.w = "sum" \/ d.w = "less") /\
 ∀ r us H',H r=none -> Same H H' -> H' r=some (.lst us) -> HTs gTp H' us [⟨d.a,d.s,1⟩,⟨d.b,d.t,sgW d.w⟩] -> Q (.ref r) H'
def mvs (st gs:List Go):List Go:=gs.map fun g=>movG (st.getD g.th g0) g.sh g.sg
def spMPE (K:PySem.W.Frag):Sp:=fun vs H Q _=>∃ (l m:Addr) (os ss:List V) (gs st:List Go),vs=[.ref l,.ref m] /\ H l=some (.lst os) /\ HTs gTp H os gs /\ H m=some (.lst ss) /\ HKs K gTp H ss st /\ (∀ g ∈ gs,g.th < st.length /\ (g.sg=0 \/ g.sg=1 \/ g.sg = -1)) /\ gs.length <= 12 /\
 ∀ r ys H',H r=none -> Same H H' -> H' r=some (.lst ys) -> HKs K gTp H' ys (mvs st gs) -> Q (.ref r) H'
def spDeedE (K:PySem.W.Frag):Sp:=fun vs H Q _=>∃ (p q:Addr) (P R:Go),vs=[.ref p,.ref q] /\ SqT K H p (gTp P) /\ SqT K H q (gTp R) /\ ∀ r H',H r=none -> Same H H' -> H' r=some (.tup (wTup (deedG P R))) -> Q (.ref r) H'
def spSignE (K:PySem.W.Frag):Sp:=fun vs H Q _=>∃ (p q:Addr) (P R:Go),vs=[.ref p,.ref q] /\ SqT K H p (gTp P) /\ SqT K H q (gTp R) /\ Q (.int (signG P R)) H
def spAddE (K:PySem.W.Frag):Sp:=fun vs H Q _=>∃ (ins:Nat) (dl p q:Addr) (us:List V) (ds:List Wd) (P R:Go),vs=[.int ins,.ref dl,.ref p,.ref q] /\ H dl=some (.lst us) /\ HTs wTup H us ds /\ SqT K H p (gTp P) /\ SqT K H q (gTp R) /\ us.length <= 900 /\
 ∀ r us' H',Chg dl H H' -> H' dl=some (.lst us') -> HTs wTup H' us' (addG ins ds P R) -> SqT K H' r (gTp (addP ins ds P R)) -> Q (.ref r) H'
def spBehE (K:PySem.W.Frag):Sp:=fun vs H Q _=>∃ (a b d1 g1 d2 g2:Addr) (ins m:Nat) (u1 u2:List V) (s1 s2:List Wd) (o1 o2:List V) (t1 t2:List Go),vs=[.ref a,.ref b] /\ Wb H a d1 g1 ins u1 s1 o1 t1 /\ Wb H b d2 g2 m u2 s2 o2 t2 /\ WebOk m s2 t2 /\ t1.length=m /\ s1.length <= 60 /\ (∀ g ∈ t2,g.sg=0 \/ g.sg=1 \/ g.sg = -1) /\
 ∀ r d3 g3 xs ys H',H r=none -> H d3=none -> H g3=none -> d3 ≠ g3 -> Same H H' -> WbK K H' r d3 g3 ins xs (behF ins (s1,t1) s2).1 ys (mvs (behF ins (s1,t1) s2).2 t2) -> Q (.ref r) H'
end L2
set_option Elab.async false
set_option linter.all false
set_option maxRecDepth 100000
set_option maxHeartbeats 1000000
namespace L2
open PySem PySem.Spec PyProof.Rows
def Sh4 (s:Int)(r:List Int):Prop:=-4000 <= s /\ s <= 4000 /\ Dv s r
theorem Sh.s4 {s:Int}{r:List Int}(h:Sh s r):Sh4 s r:=⟨by have:=h.1; omega,by have:=h.2.1; omega,h.2.2⟩
structure FW4 (ins:Nat) (ds:List Wd) (gs:List Go):Prop where
 ok:WebOk ins ds gs
 sh:∀ (k:Nat) (d:Wd),ds[k]? = some d -> d.a < ins+k /\ d.b < ins+k /\ Sh4 d.s ((rowsW ins ds).getD d.a []) /\ Sh4 d.t ((rowsW ins ds).getD d.b [])
 go:∀ g ∈ gs,g=⟨0,0,0⟩ \/ ((g.sg=1 \/ g.sg = -1) /\ Sh4 g.sh ((rowsW ins ds).getD g.th []))
 rb:RB 8000 (rowsW ins ds)
 wd:∀ r ∈ rowsW ins ds,r.length=ins
theorem FWeb.f4 {ins:Nat}{ds:List Wd}{gs:List Go}(F:FWeb ins ds gs):FW4 ins ds gs :=
 ⟨F.ok,fun k d h=>⟨(F.sh k d h).1,(F.sh k d h).2.1,(F.sh k d h).2.2.1.s4,(F.sh k d h).2.2.2.s4⟩,fun g hg=>(F.go g hg).imp id fun z=>⟨z.1,z.2.s4⟩,
  fun r hr=>⟨(F.rb r hr).1,fun n hn=>Nat.le_trans ((F.rb r hr).2 n hn) (qN (by decide) (by have:=F.ok.dl; omega))⟩,F.wd⟩
theorem unit_sym {n i k:Nat}(hi:i < n)(hk:k < n):(unitRow n k).getD i 0=(unitRow n i).getD k 0:=by
 unfold unitRow
 rw [qD,qD,qI,qI,List.getElem?_range hi,List.getElem?_range hk]
 show (if i=k then (1:Int) else 0)=if k=i then 1 else 0
 by_cases z:i=k
 ·rw [if_pos z,if_pos z.symm]
 ·rw [if_neg z,if_neg (fun h=>z h.symm)]
theorem getD_map {α:Type}{f:α -> Int}{r:List α}{a:α}{i:Nat}(h:i < r.length):(r.map f).getD i 0=f (r.getD i a):=by
 have e:=qA h
 rw [qD,qI,e,getD_of e]
 rfl
theorem rows_col {ins:Nat}(ds:List Wd):(∀ (k:Nat) (d:Wd),ds[k]? = some d -> d.a < ins+k /\ d.b < ins+k) -> ∀ k,k < ins+ds.length -> ((rowsW ins ds).getD k []).length=ins /\ ∀ i,i < ins -> ((rowsW ins ds).getD k []).getD i 0=(valsW (unitRow ins i) ds).getD k 0:=by
 refine snoc_ind (p:=fun ds=>(∀ (k:Nat) (d:Wd),ds[k]? = some d -> d.a < ins+k /\ d.b < ins+k) -> ∀ k,k < ins+ds.length -> ((rowsW ins ds).getD k []).length=ins /\ ∀ i,i < ins -> ((rowsW ins ds).getD k []).getD i 0=(valsW (unitRow ins i) ds).getD k 0) (fun _ k hk=>?_) (fun e d ih hE k hk=>?_) ds
 ·have e:(rowsW ins []).getD k []=unitRow ins k:=rowsW_unit (by simpa using hk)
  rw [e]
  exact ⟨unitRow_len _ _,fun i hi=>unit_sym hi (by simpa using hk)⟩
 ·have ih':=ih fun k x h=>hE k x (by rw [qH (qB.mp h).1]; exact h)
  rw [qF,List.length_singleton] at hk
  by_cases z:k < ins+e.length
  ·obtain ⟨h1,h2⟩:=ih' k z
   rw [rows_stay _ _ _ z]
   exact ⟨h1,fun i hi=>by rw [h2 i hi,valsW_stay (by rw [unitRow_len]; exact z)]⟩
  ·have kk:k=ins+e.length:=by omega
   obtain ⟨da,db⟩:=hE e.length d (by rw [qG (Nat.le_refl _),Nat.sub_self]; rfl)
   obtain ⟨a1,a2⟩:=ih' _ da
   obtain ⟨b1,b2⟩:=ih' _ db
   have er:(rowsW ins (e ++ [d])).getD k []=rowD (rowsW ins e) d:=by
    rw [rowsW_snoc,kk]
    refine getD_of ?_
    rw [qG (by rw [rowsW_len]; exact Nat.le_refl _),rowsW_len,Nat.sub_self]
    rfl
   rw [er]
   refine ⟨by unfold rowD; rw [List.length_zipWith,a1,b1,Nat.min_self],fun i hi=>?_⟩
   have ev:(valsW (unitRow ins i) (e ++ [d])).getD k 0=valD (valsW (unitRow ins i) e) d:=by
    rw [valsW_snoc,kk]
    refine getD_of ?_
    rw [qG (by rw [valsW_len,unitRow_len]; exact Nat.le_refl _),valsW_len,unitRow_len,Nat.sub_self]
    rfl
   rw [ev]
   unfold rowD valD
   rw [← a2 i hi,← b2 i hi]
   have ea:=qA (l:=(rowsW ins e).getD d.a []) (i:=i) (by omega)
   have eb:=qA (l:=(rowsW ins e).getD d.b []) (i:=i) (by omega)
   rw [getD_of ea,getD_of eb]
   refine getD_of ?_
   rw [List.getElem?_zipWith,ea,eb]
theorem outR_col {ins:Nat}{ds:List Wd}{g:Go}{i:Nat}(dk:∀ (k:Nat) (d:Wd),ds[k]? = some d -> d.a < ins+k /\ d.b < ins+k)(hg:g.th < ins+ds.length)(hi:i < ins):(outR (rowsW ins ds) g).getD i 0=outV (valsW (unitRow ins i) ds) g:=by
 obtain ⟨h1,h2⟩:=rows_col ds dk g.th hg
 unfold outR outV
 rw [getD_map (a:=0) (by omega),h2 i hi]
theorem FWeb.exd {ins:Nat}{ds:List Wd}{gs:List Go}{xs:List Int}(F:FWeb ins ds gs)(hl:xs.length=ins):ExD xs ds:=fun k d hd=>by
 obtain ⟨a,b,c,f⟩:=F.sh k d hd
 rw [vals_dots hl F,dots_getD,dots_getD,hl]
 exact ⟨a,b,(F.ok.dk k d hd).2.2,(c.one (xs:=xs)).2.2,(f.one (xs:=xs)).2.2⟩
theorem FWeb.pts {ins:Nat}{ds:List Wd}{gs:List Go}{xs:List Int}(F:FWeb ins ds gs)(hl:xs.length=ins):∀ p ∈ gs,PtOkV (xs.length+ds.length) (valsW xs ds) p:=fun g hg=>by
 refine ⟨by rw [hl]; exact F.ok.gk g hg,?_,?_⟩
 ·rcases F.go g hg with z | z
  ·exact .inl z
  ·exact .inr z.1
 ·rcases F.go g hg with z | z
  ·rw [z]; exact fun y=>absurd y (by decide)
  ·rw [vals_dots hl F,dots_getD]
   exact (z.2.one (xs:=xs)).2.2
theorem FWeb.sg {ins:Nat}{ds:List Wd}{gs:List Go}(F:FWeb ins ds gs):∀ g ∈ gs,g.sg=0 \/ g.sg=1 \/ g.sg = -1:=fun g hg=>by
 rcases F.go g hg with z | z
 ·exact .inl (by rw [z])
 ·exact .inr z.1
theorem FWeb.vbd {ins:Nat}{ds:List Wd}{gs:List Go}{xs:List Int}{c:Nat}(F:FWeb ins ds gs)(hl:xs.length=ins)(hx:∀ x ∈ xs,x.natAbs <= 2 ^ c):∀ v ∈ valsW xs ds,v.natAbs <= 2 ^ (2464+c):=fun v hv=>by
 rw [vals_dots hl F] at hv
 obtain ⟨r,hr,rfl⟩:=qP.mp hv
 have hb:=dotW_bound r xs (F.rb r hr).2 hx
 have h12:=(F.rb r hr).1
 have d60:=F.ok.dl
 refine Nat.le_trans hb ?_
 refine Nat.le_trans (Nat.mul_le_mul (show r.length <= 2 ^ 4 by omega) (qN (by decide) (show 41 * ds.length+c <= 2460+c by omega))) ?_
 rw [← Nat.pow_add]
 exact qN (by decide) (by omega)
theorem outV_bd {vs:List Int}{g:Go}{b:Nat}(hv:(vs.getD g.th 0).natAbs <= 2 ^ b)(hs:-40 <= g.sh /\ g.sh <= 40)(hg:g.sg=0 \/ g.sg=1 \/ g.sg = -1):(outV vs g).natAbs <= 2 ^ (b+40):=by
 have:=mvI_bound hs.1 hs.2 hv
 unfold outV
 rcases hg with z | z | z <;> rw [z]
 ·rw [Int.zero_mul]; exact Nat.zero_le _
 ·rw [Int.one_mul]; exact this
 ·rw [Int.neg_one_mul,Int.natAbs_neg]; exact this
def ysW (xs:List Int)(s1:List Wd)(t1:List Go):List Int:=t1.map (outV (valsW xs s1))
theorem ys_len (xs:List Int)(s1:List Wd)(t1:List Go):(ysW xs s1 t1).length=t1.length:=qC _
theorem ys_bd {ins:Nat}{s1:List Wd}{t1:List Go}{xs:List Int}{c:Nat}(F:FWeb ins s1 t1)(hl:xs.length=ins)(hx:∀ x ∈ xs,x.natAbs <= 2 ^ c):∀ y ∈ ysW xs s1 t1,y.natAbs <= 2 ^ (2504+c):=fun y hy=>by
 obtain ⟨g,hg,rfl⟩:=qP.mp hy
 obtain ⟨u,_,e2,e3⟩:=valsW_at (xs:=xs) (ds:=s1) (j:=g.th) (by rw [hl]; exact F.ok.gk g hg)
 refine Nat.le_trans (outV_bd (b:=2464+c) (by rw [e2]; exact F.vbd hl hx u e3) ?_ (F.sg g hg)) (qN (by decide) (by omega))
 rcases F.go g hg with z | z
 ·rw [z]; decide
 ·exact ⟨z.2.1,z.2.2.1⟩
def behD (ins:Nat)(s1 s2:List Wd)(t1:List Go):List Wd:=(behF ins (s1,t1) s2).1
def behO (ins:Nat)(s1 s2:List Wd)(t1 t2:List Go):List Go:=mvs (behF ins (s1,t1) s2).2 t2
section
variable {ins m:Nat}{s1 s2:List Wd}{t1 t2:List Go}
theorem beh_at (F1:FWeb ins s1 t1)(F2:FWeb m s2 t2)(hm:t1.length=m){xs:List Int}(hl:xs.length=ins):BehV xs (ysW xs s1 t1) s1 s2 (behD ins s1 s2 t1) (behF ins (s1,t1) s2).2:=by
 subst hl
 have i1:=F1.ok.i1
 exact beh_val (by omega) (F1.exd rfl) (F1.pts rfl) s2 (F2.exd (by rw [qC]; exact hm))
theorem beh_out (F1:FWeb ins s1 t1)(F2:FWeb m s2 t2)(hm:t1.length=m){xs:List Int}(hl:xs.length=ins){g:Go}(hg:g ∈ t2) :
  PtOkV (xs.length+(behD ins s1 s2 t1).length) (valsW xs (behD ins s1 s2 t1)) (movG ((behF ins (s1,t1) s2).2.getD g.th g0) g.sh g.sg) /\ outV (valsW xs (behD ins s1 s2 t1)) (movG ((behF ins (s1,t1) s2).2.getD g.th g0) g.sh g.sg)=outV (valsW (ysW xs s1 t1) s2) g:=by
 have B:=beh_at F1 F2 hm hl
 have i1:=F1.ok.i1
 have gk:=F2.ok.gk g hg
 have yl:=ys_len xs s1 t1
 have e:=qA (l:=(behF ins (s1,t1) s2).2) (i:=g.th) (by rw [B.len,yl,hm]; exact gk)
 obtain ⟨p1,p2⟩:=B.pt _ _ e
 have eg:=getD_of (d:=g0) e
 generalize (behF ins (s1,t1) s2).2[g.th]'(by rw [B.len,yl,hm]; exact gk)=p at p1 p2 eg
 rw [eg]
 have P2:=F2.pts (xs:=ysW xs s1 t1) (by rw [yl,hm]) g hg
 rcases F2.go g hg with z | z
 ·have e0:movG p g.sh g.sg=g0:=by unfold movG; rw [z,if_pos (Int.mul_zero _)]; rfl
  rw [e0]
  refine ⟨⟨by show 0 < _; omega,.inl rfl,fun y=>absurd y (by decide)⟩,?_⟩
  unfold outV
  rw [z]
  show (0:Int) * _=0 * _
  rw [Int.zero_mul,Int.zero_mul]
 ·obtain ⟨q1,q2⟩:=mov_val (s:=g.sh) (g:=g.sg) p1 (by omega) z.1 (by rw [p2]; exact P2.ex)
  exact ⟨q1,by rw [q2,p2]; rfl⟩
theorem beh_bd (F1:FWeb ins s1 t1)(F2:FWeb m s2 t2)(hm:t1.length=m){xs:List Int}(hl:xs.length=ins){c:Nat}(hx:∀ x ∈ xs,x.natAbs <= 2 ^ c):∀ v ∈ valsW xs (behD ins s1 s2 t1),v.natAbs <= 2 ^ (4968+c):=fun v hv=>by
 have B:=beh_at F1 F2 hm hl
 rcases B.mem v hv with z | ⟨u,hu,z⟩
 ·exact Nat.le_trans (F1.vbd hl hx v z) (qN (by decide) (by omega))
 ·have hb:=F2.vbd (by rw [ys_len,hm]) (ys_bd F1 hl hx) u hu
  rw [show 4968+c=2464+(2504+c) by omega]
  rcases z with z | z
  ·rw [z]; exact hb
  ·rw [z,Int.natAbs_neg]; exact hb
theorem beh_sh4 (F1:FWeb ins s1 t1)(F2:FWeb m s2 t2):(∀ d ∈ behD ins s1 s2 t1,(-2440 <= d.s /\ d.s <= 2440) /\ (-2440 <= d.t /\ d.t <= 2440)) /\ ∀ p ∈ (behF ins (s1,t1) s2).2,-2440 <= p.sh /\ p.sh <= 2440:=by
 have d60:=F2.ok.dl
 have A:=beh_sh (ins:=ins) (s1:=s1) (t1:=t1) (fun n s=>-(40 * (n+1):Int) <= s /\ s <= 40 * (n+1)) (fun s=>-40 <= s /\ s <= 40) (fun n s h=>by omega) (fun n s t h1 h2=>by omega) (fun n=>by omega)
  (fun d hd=>by
   obtain ⟨k,hk⟩:=List.getElem?_of_mem hd
   obtain ⟨_,_,c,f⟩:=F1.sh k d hk
   have:=c.1; have:=c.2.1; have:=f.1; have:=f.2.1
   omega)
  (fun p hp=>by
   rcases F1.go p hp with z | z
   ·rw [z]; decide
   ·have:=z.2.1; have:=z.2.2.1
    omega) s2
  (fun d hd=>by
   obtain ⟨k,hk⟩:=List.getElem?_of_mem hd
   obtain ⟨_,_,c,f⟩:=F2.sh k d hk
   exact ⟨⟨c.1,c.2.1⟩,⟨f.1,f.2.1⟩⟩)
 refine ⟨fun d hd=>?_,fun p hp=>?_⟩
 ·have:=A.1 d hd
  omega
 ·have:=A.2 p hp
  omega
theorem beh_fw (F1:FWeb ins s1 t1)(F2:FWeb m s2 t2)(hm:t1.length=m)(h60:s1.length+s2.length <= 60):FW4 ins (behD ins s1 s2 t1) (behO ins s1 s2 t1 t2):=by
 have i1:=F1.ok.i1
 have i2:=F1.ok.i2
 have B0:=beh_at F1 F2 hm (unitRow_len ins 0)
 have few:=B0.few
 have dk:∀ (k:Nat) (d:Wd),(behD ins s1 s2 t1)[k]? = some d -> d.a < ins+k /\ d.b < ins+k:=fun k d hd=>by
  have:=B0.ex k d hd
  rw [unitRow_len] at this
  exact ⟨this.1,this.2.1⟩
 have col:=rows_col (behD ins s1 s2 t1) dk
 obtain ⟨sh1,sh2⟩:=beh_sh4 F1 F2
 have ent:∀ k,k < ins+(behD ins s1 s2 t1).length -> ∀ x ∈ (rowsW ins (behD ins s1 s2 t1)).getD k [],∃ i,i < ins /\ x=(valsW (unitRow ins i) (behD ins s1 s2 t1)).getD k 0:=fun k hk x hx=>by
  obtain ⟨c1,c2⟩:=col k hk
  obtain ⟨i,hi⟩:=List.getElem?_of_mem hx
  have il:=(qB.mp hi).1
  exact ⟨i,by omega,by rw [← c2 i (by omega),getD_of hi]⟩
 have gm:∀ g ∈ behO ins s1 s2 t1 t2,∃ h ∈ t2,g=movG ((behF ins (s1,t1) s2).2.getD h.th g0) h.sh h.sg:=fun g hg=>by
  obtain ⟨h,hh,rfl⟩:=qP.mp hg
  exact ⟨h,hh,rfl⟩
 refine ⟨⟨i1,i2,fun k d hd=>?_,fun g hg=>?_,by omega,by show (mvs _ _).length <= 12; unfold mvs; rw [qC]; exact F2.ok.gl⟩,fun k d hd=>?_,fun g hg=>?_,fun r hr=>?_,fun r hr=>?_⟩
 ·have:=B0.ex k d hd
  rw [unitRow_len] at this
  exact ⟨this.1,this.2.1,this.2.2.1⟩
 ·obtain ⟨h,hh,rfl⟩:=gm g hg
  have:=(beh_out F1 F2 hm (unitRow_len ins 0) hh).1.th
  rw [unitRow_len] at this
  exact this
 ·have kl:=(qB.mp hd).1
  obtain ⟨a,b⟩:=dk k d hd
  have:=sh1 d (qE hd)
  refine ⟨a,b,⟨by omega,by omega,fun z x hx=>?_⟩,⟨by omega,by omega,fun z x hx=>?_⟩⟩
  ·obtain ⟨i,hi,rfl⟩:=ent d.a (by omega) x hx
   exact ((beh_at F1 F2 hm (unitRow_len ins i)).ex k d hd).2.2.2.1 z
  ·obtain ⟨i,hi,rfl⟩:=ent d.b (by omega) x hx
   exact ((beh_at F1 F2 hm (unitRow_len ins i)).ex k d hd).2.2.2.2 z
 ·obtain ⟨h,hh,rfl⟩:=gm g hg
  have O0:=(beh_out F1 F2 hm (unitRow_len ins 0) hh).1
  rcases O0.sg.cases with ⟨_,z⟩ | z
  ·exact .inl z
  ·refine .inr ⟨z,?_⟩
   have hs:-2480 <= (movG ((behF ins (s1,t1) s2).2.getD h.th g0) h.sh h.sg).sh /\ (movG ((behF ins (s1,t1) s2).2.getD h.th g0) h.sh h.sg).sh <= 2480:=by
    have gk:=F2.ok.gk h hh
    have e:=qA (l:=(behF ins (s1,t1) s2).2) (i:=h.th) (by rw [B0.len,ys_len,hm]; exact gk)
    have b1:=sh2 _ (qE e)
    have b2:-40 <= h.sh /\ h.sh <= 40:=by
     rcases F2.go h hh with y | y
     ·rw [y]; decide
     ·exact ⟨y.2.1,y.2.2.1⟩
    rw [getD_of e]
    unfold movG
    split
    ·show -2480 <= (0:Int) /\ (0:Int) <= 2480
     omega
    ·show -2480 <= _+h.sh /\ _+h.sh <= 2480
     omega
   have gth:=O0.th
   rw [unitRow_len] at gth
   refine ⟨by omega,by omega,fun y x hx=>?_⟩
   obtain ⟨i,hi,rfl⟩:=ent _ gth x hx
   exact (beh_out F1 F2 hm (unitRow_len ins i) hh).1.ex y
 ·obtain ⟨k,hk⟩:=List.getElem?_of_mem hr
  have kl:=(qB.mp hk).1
  rw [rowsW_len] at kl
  refine ⟨by rw [← getD_of (d:=[]) hk,(col k kl).1]; exact i2,fun x hx=>?_⟩
  obtain ⟨i,hi,e⟩:=ent k kl x (by rw [getD_of hk]; exact hx)
  obtain ⟨u,_,e2,e3⟩:=valsW_at (xs:=unitRow ins i) (ds:=behD ins s1 s2 t1) (j:=k) (by rw [unitRow_len]; exact kl)
  rw [e,e2]
  refine Nat.le_trans (beh_bd F1 F2 hm (unitRow_len ins i) (c:=0) (fun y hy=>?_) u e3) (qN (by decide) (by decide))
  rcases unitRow_bound hy with z | z <;> rw [z] <;> decide
 ·obtain ⟨k,hk⟩:=List.getElem?_of_mem hr
  have kl:=(qB.mp hk).1
  rw [rowsW_len] at kl
  rw [← getD_of (d:=[]) hk]
  exact (col k kl).1
def colM (M:List (List Int))(i:Nat):List Int:=M.map fun r=>r.getD i 0
theorem beh_low (h1:lowOk s1 t1)(h2:lowOk s2 t2):lowOk (behD ins s1 s2 t1) (behO ins s1 s2 t1 t2):=by
 have A:=beh_sh (ins:=ins) (s1:=s1) (t1:=t1) (fun _ s=>0 <= s) (fun s=>0 <= s) (fun n s h=>h) (fun n s t h1 h2=>by omega) (fun n=>Int.le_refl 0) h1.1 h1.2 s2 h2.1
 refine ⟨A.1,fun g hg=>?_⟩
 obtain ⟨h,hh,rfl⟩:=qP.mp hg
 have hs:=h2.2 h hh
 have get:0 <= ((behF ins (s1,t1) s2).2.getD h.th g0).sh:=by
  by_cases z:h.th < (behF ins (s1,t1) s2).2.length
  ·have e:=qA z
   rw [getD_of e]
   exact A.2 _ (qE e)
  ·rw [qD,List.getElem?_eq_none (by omega)]
   exact Int.le_refl 0
 unfold movG
 split
 ·exact Int.le_refl 0
 ·show 0 <= _+h.sh
  omega
theorem beh_run (F1:FWeb ins s1 t1)(F2:FWeb m s2 t2)(hm:t1.length=m)(h60:s1.length+s2.length <= 60){xs:List Int}(hl:xs.length=ins)(hx:∀ x ∈ xs,x.natAbs <= 2 ^ 300):VOk4 xs (behD ins s1 s2 t1) /\ (∀ g ∈ behO ins s1 s2 t1 t2,g.th < xs.length+(behD ins s1 s2 t1).length /\ Sh14 g.sh ((valsW xs (behD ins s1 s2 t1)).getD g.th 0) /\ (g.sg=0 \/ g.sg=1 \/ g.sg = -1)) /\
  (behO ins s1 s2 t1 t2).map (outV (valsW xs (behD ins s1 s2 t1)))=t2.map (outV (valsW (ysW xs s1 t1) s2)):=by
 have B:=beh_at F1 F2 hm hl
 have few:=B.few
 have F:=beh_fw F1 F2 hm h60
 refine ⟨⟨fun k d hd=>?_,fun v hv=>?_,by rw [hl]; exact F1.ok.i2,by omega⟩,fun g hg=>?_,?_⟩
 ·obtain ⟨a,b,_,c,e⟩:=B.ex k d hd
  obtain ⟨_,_,f1,f2⟩:=F.sh k d hd
  exact ⟨a,b,⟨f1.1,f1.2.1,c⟩,⟨f2.1,f2.2.1,e⟩⟩
 ·exact Nat.lt_of_le_of_lt (beh_bd F1 F2 hm hl hx v hv) (Nat.pow_lt_pow_right (by decide) (by decide))
 ·have fg:=F.go g hg
  obtain ⟨h,hh,rfl⟩:=qP.mp hg
  have O:=(beh_out F1 F2 hm hl hh).1
  refine ⟨O.th,?_,?_⟩
  ·rcases fg with z | z
   ·rw [z]; exact ⟨by decide,by decide,fun y=>absurd y (by decide)⟩
   ·exact ⟨z.2.1,z.2.2.1,O.ex⟩
  ·rcases O.sg.cases with z | z
   ·exact .inl z.1
   ·exact .inr z
 ·unfold behO mvs
  rw [List.map_map]
  refine List.map_congr_left fun g hg=>?_
  exact (beh_out F1 F2 hm hl hg).2
theorem beh_run2 (F1:FWeb ins s1 t1)(F2:FWeb m s2 t2)(hm:t1.length=m){xs:List Int}(hl:xs.length=ins)(hx:∀ x ∈ xs,x.natAbs <= 2 ^ 300):VOk4 (ysW xs s1 t1) s2 /\ (∀ g ∈ t2,g.th < (ysW xs s1 t1).length+s2.length /\ Sh14 g.sh ((valsW (ysW xs s1 t1) s2).getD g.th 0) /\ (g.sg=0 \/ g.sg=1 \/ g.sg = -1)):=by
 have yl:(ysW xs s1 t1).length=m:=by rw [ys_len,hm]
 have E:=F2.exd yl
 refine ⟨⟨fun k d hd=>?_,fun v hv=>?_,by rw [yl]; exact F2.ok.i2,F2.ok.dl⟩,fun g hg=>?_⟩
 ·obtain ⟨a,b,_,c,e⟩:=E k d hd
  obtain ⟨_,_,f1,f2⟩:=F2.f4.sh k d hd
  exact ⟨a,b,⟨f1.1,f1.2.1,c⟩,⟨f2.1,f2.2.1,e⟩⟩
 ·exact Nat.lt_of_le_of_lt (F2.vbd yl (ys_bd F1 hl hx) v hv) (Nat.pow_lt_pow_right (by decide) (by decide))
 ·have P:=F2.pts yl g hg
  refine ⟨P.th,?_,F2.sg g hg⟩
  rcases F2.f4.go g hg with z | z
  ·rw [z]; exact ⟨by decide,by decide,fun y=>absurd y (by decide)⟩
  ·exact ⟨z.2.1,z.2.2.1,P.ex⟩
end
end L2
set_option Elab.async false
set_option linter.all false
set_option maxRecDepth 100000
set_option maxHeartbeats 1000000
namespace L2
open PySem PySem.Spec PyProof.Rows
section
variable {K:PySem.W.Frag}{σ:St}{H:Hp}{Q:VK}{cs:List Nat}{te:TE}
end
section
variable {K:PySem.W.Frag}{σ:St}{H:Hp}{Q:VK}{cs:List Nat}{te:TE}
end
end L2
set_option Elab.async false
set_option linter.all false
set_option maxRecDepth 100000
set_option maxHeartbeats 1000000
namespace L2
open PySem PySem.Spec PyProof.Rows
theorem dotW_comm:∀ (a b:List Int),dotW a b=dotW b a
 | [],b=>by rw [dotW_nil]; cases b <;> rfl
 | a :: r,[]=>rfl
 | a :: r,b :: s=>by
  show a * b+dotW r s=b * a+dotW s r
  rw [dotW_comm r s,Int.mul_comm]
theorem dot_set:∀ (zs V:List Int)(i:Nat)(c:Int),i < zs.length -> dotW (zs.set i (zs.getD i 0+c)) V=dotW zs V+c * V.getD i 0
 | [],V,i,c,h=>by simp at h
 | z :: zs,[],i,c,h=>by
  rw [dotW_comm,dotW_nil,dotW_comm (z :: zs),dotW_nil]
  simp
 | z :: zs,v :: V,0,c,h=>by
  show (z+c) * v+dotW zs V=z * v+dotW zs V+c * v
  rw [Int.add_mul]; omega
 | z :: zs,v :: V,i+1,c,h=>by
  show z * v+dotW (zs.set i (zs.getD i 0+c)) V=z * v+dotW zs V+c * V.getD i 0
  rw [dot_set zs V i c (by simpa using h)]; omega
theorem dot_snocR:∀ (zs V:List Int)(v:Int),V.length < zs.length -> dotW zs (V ++ [v])=dotW zs V+zs.getD V.length 0 * v
 | [],V,v,h=>by simp at h
 | z :: zs,[],v,h=>by
  show z * v+dotW zs []=dotW (z :: zs) []+z * v
  rw [dotW_comm zs,dotW_nil,dotW_comm (z :: zs),dotW_nil]; omega
 | z :: zs,u :: V,v,h=>by
  show z * u+dotW zs (V ++ [v])=z * u+dotW zs V+zs.getD V.length 0 * v
  rw [dot_snocR zs V v (by simpa using h)]; omega
theorem mv_mul {s z v:Int}(h:0 <= s):mvI s z * v=z * mvI s v:=by
 rw [mvI_up h,mvI_up h,Int.mul_assoc,Int.mul_comm (2 ^ s.toNat) v]
def zT (zs:List Int)(a:Ar):List Int:=zs.set a.st (zs.getD a.st 0+a.sg * mvI a.sh (zs.getD a.go 0))
def zF (zs:List Int)(as:List Ar):List Int:=as.reverse.foldl zT zs
theorem zF_snoc (zs:List Int)(as:List Ar)(a:Ar):zF zs (as ++ [a])=zF (zT zs a) as:=by unfold zF; rw [List.reverse_append]; rfl
theorem zF_app (zs:List Int)(as bs:List Ar):zF zs (as ++ bs)=zF (zF zs bs) as:=by unfold zF; rw [List.reverse_append,List.foldl_append]
theorem zT_len (zs:List Int)(a:Ar):(zT zs a).length=zs.length:=by unfold zT; rw [List.length_set]
theorem zF_len (as:List Ar):∀ zs:List Int,(zF zs as).length=zs.length:=by
 refine snoc_ind (p:=fun as=>∀ zs:List Int,(zF zs as).length=zs.length) (fun _=>rfl) (fun e a ih zs=>?_) as
 rw [zF_snoc,ih,zT_len]
theorem getD_set_ne {zs:List Int}{i j:Nat}{v:Int}(h:i ≠ j):(zs.set i v).getD j 0=zs.getD j 0:=by
 rw [qD,qD,List.getElem?_set_ne h]
theorem zF_deeds {xs:List Int}(ds:List Wd):(∀ (k:Nat) (d:Wd),ds[k]? = some d -> d.a < xs.length+k /\ d.b < xs.length+k /\ 0 <= d.s /\ 0 <= d.t) -> ∀ zs:List Int,xs.length+ds.length <= zs.length -> dotW (zF zs (arrF xs.length 0 ds)) xs=dotW zs (valsW xs ds):=by
 refine snoc_ind (p:=fun ds=>(∀ (k:Nat) (d:Wd),ds[k]? = some d -> d.a < xs.length+k /\ d.b < xs.length+k /\ 0 <= d.s /\ 0 <= d.t) -> ∀ zs:List Int,xs.length+ds.length <= zs.length -> dotW (zF zs (arrF xs.length 0 ds)) xs=dotW zs (valsW xs ds)) (fun _ zs _=>rfl) (fun e d ih hE zs hz=>?_) ds
 obtain ⟨da,db,ds0,dt0⟩:=hE e.length d (by rw [qG (Nat.le_refl _),Nat.sub_self]; rfl)
 rw [qF,List.length_singleton] at hz
 have ea:arrF xs.length 0 (e ++ [d])=arrF xs.length 0 e ++ [⟨d.a,xs.length+e.length,d.s,1⟩,⟨d.b,xs.length+e.length,d.t,sgW d.w⟩]:=by
  rw [arrF_app,Nat.zero_add]; rfl
 rw [ea,show arrF xs.length 0 e ++ [(⟨d.a,xs.length+e.length,d.s,1⟩:Ar),⟨d.b,xs.length+e.length,d.t,sgW d.w⟩]=(arrF xs.length 0 e ++ [⟨d.a,xs.length+e.length,d.s,1⟩]) ++ [⟨d.b,xs.length+e.length,d.t,sgW d.w⟩] by simp,zF_snoc,zF_snoc,
  ih (fun k x h=>hE k x (by rw [qH (qB.mp h).1]; exact h)) _ (by rw [zT_len,zT_len]; omega)]
 have vl:=valsW_len xs e
 rw [valsW_snoc,dot_snocR _ _ _ (by rw [vl]; omega),vl]
 have l1:(zT zs ⟨d.b,xs.length+e.length,d.t,sgW d.w⟩).getD (xs.length+e.length) 0=zs.getD (xs.length+e.length) 0:=getD_set_ne (by show d.b ≠ _; omega)
 show dotW ((zT zs ⟨d.b,xs.length+e.length,d.t,sgW d.w⟩).set d.a ((zT zs ⟨d.b,xs.length+e.length,d.t,sgW d.w⟩).getD d.a 0+1 * mvI d.s ((zT zs ⟨d.b,xs.length+e.length,d.t,sgW d.w⟩).getD (xs.length+e.length) 0))) (valsW xs e)=_
 rw [dot_set _ _ _ _ (by rw [zT_len]; omega),l1]
 show dotW (zs.set d.b (zs.getD d.b 0+sgW d.w * mvI d.t (zs.getD (xs.length+e.length) 0))) (valsW xs e)+_=_
 rw [dot_set _ _ _ _ (by omega)]
 unfold valD
 generalize zs.getD (xs.length+e.length) 0=z
 rw [Int.one_mul,mv_mul ds0,Int.mul_add,Int.mul_assoc (sgW d.w),mv_mul dt0,Int.mul_left_comm z (sgW d.w)]
 omega
theorem zF_outs {V:List Int}(gs:List Go):(∀ g ∈ gs,g.th < V.length /\ 0 <= g.sh) -> ∀ zs:List Int,V.length+gs.length <= zs.length -> dotW (zF zs (oarr V.length 0 gs)) V=dotW zs V+dotW (zs.drop V.length) (gs.map (outV V)):=by
 refine snoc_ind (p:=fun gs=>(∀ g ∈ gs,g.th < V.length /\ 0 <= g.sh) -> ∀ zs:List Int,V.length+gs.length <= zs.length -> dotW (zF zs (oarr V.length 0 gs)) V=dotW zs V+dotW (zs.drop V.length) (gs.map (outV V))) (fun _ zs _=>?_) (fun e g ih hE zs hz=>?_) gs
 ·show dotW zs V=dotW zs V+dotW (zs.drop V.length) []
  rw [dotW_comm _ [],dotW_nil,Int.add_zero]
 ·obtain ⟨h1,h2⟩:=hE g (qK _ (List.mem_singleton.mpr rfl))
  rw [qF,List.length_singleton] at hz
  have ih':=ih fun x hx=>hE x (List.mem_append_left _ hx)
  have el:(e.map (outV V)).length=e.length:=qC _
  have eo:oarr V.length 0 (e ++ [g])=oarr V.length 0 e ++ (if g.sg=0 then [] else [⟨g.th,V.length+e.length,g.sh,g.sg⟩]):=by
   rw [oarr_app,Nat.zero_add]
   show _ ++ ((if g.sg=0 then [] else [_]) ++ [])=_
   rw [List.append_nil]
  have gz:(zs.drop V.length).getD e.length 0=zs.getD (V.length+e.length) 0:=by
   rw [qD,qD,List.getElem?_drop]
  rw [eo,List.map_append,List.map_singleton,dot_snocR _ _ _ (by rw [el,List.length_drop]; omega),el,gz]
  by_cases z:g.sg=0
  ·rw [if_pos z,List.append_nil,ih' zs (by omega)]
   have:outV V g=0:=by unfold outV; rw [z,Int.zero_mul]
   rw [this,Int.mul_zero,Int.add_zero]
  ·rw [if_neg z,zF_snoc,ih' _ (by rw [zT_len]; omega)]
   have d1:(zT zs ⟨g.th,V.length+e.length,g.sh,g.sg⟩).drop V.length=zs.drop V.length:=by
    unfold zT
    refine List.ext_getElem? fun j=>?_
    rw [List.getElem?_drop,List.getElem?_drop,List.getElem?_set_ne (by show g.th ≠ _; omega)]
   rw [d1]
   show dotW (zs.set g.th (zs.getD g.th 0+g.sg * mvI g.sh (zs.getD (V.length+e.length) 0))) V+_=_
   rw [dot_set _ _ _ _ (by omega)]
   unfold outV
   generalize zs.getD (V.length+e.length) 0=y
   rw [Int.mul_assoc,mv_mul h2,Int.mul_left_comm y g.sg]
   omega
theorem dot_zeros (n:Nat)(ys V:List Int)(h:V.length <= n):dotW (qQ n 0 ++ ys) V=0:=by
 induction n generalizing V with
 | zero =>
  have:V=[]:=List.eq_nil_of_length_eq_zero (by omega)
  rw [this,dotW_comm,dotW_nil]
 | succ n ih =>
  cases V with
  | nil=>rw [dotW_comm,dotW_nil]
  | cons v V =>
   show (0:Int) * v+dotW (qQ n 0 ++ ys) V=0
   rw [ih V (by simpa using h),Int.zero_mul]; rfl
def zs0 (n:Nat)(ys:List Int):List Int:=qQ n 0 ++ ys
theorem turn_adj {xs ys:List Int}{ds:List Wd}{gs:List Go}(hd:∀ (k:Nat) (d:Wd),ds[k]? = some d -> d.a < xs.length+k /\ d.b < xs.length+k /\ 0 <= d.s /\ 0 <= d.t)(hg:∀ g ∈ gs,g.th < xs.length+ds.length /\ 0 <= g.sh)(hy:ys.length=gs.length) :
  dotW (zF (zs0 (xs.length+ds.length) ys) (allA xs.length ds gs)) xs=dotW ys (gs.map (outV (valsW xs ds))):=by
 have zl:(zs0 (xs.length+ds.length) ys).length=xs.length+ds.length+gs.length:=by unfold zs0; rw [qF,qL,hy]
 have vl:=valsW_len xs ds
 unfold allA
 rw [zF_app,zF_deeds ds hd _ (by rw [zF_len,zl]; omega),← vl,zF_outs gs (by rw [vl]; exact hg) _ (by rw [vl,zl]; exact Nat.le_refl _)]
 unfold zs0
 rw [dot_zeros _ _ _ (Nat.le_refl _),Int.zero_add]
 congr 1
 rw [List.drop_append_of_le_length (by rw [qL]; exact Nat.le_refl _)]
 simp
theorem dot_unitR {zs:List Int}{n i:Nat}(hi:i < n)(hn:n <= zs.length):dotW zs (unitRow n i)=zs.getD i 0:=by
 have e:∀ (m:Nat) (zs:List Int),m <= zs.length -> dotW zs (unitRow m i)=dotW (zs.take m) (unitRow m i):=fun m=>by
  have g:∀ (V zs:List Int),dotW zs V=dotW (zs.take V.length) V:=fun V=>by
   induction V with
   | nil=>intro zs; rw [dotW_comm,dotW_nil,dotW_comm,dotW_nil]
   | cons v V ih =>
    intro zs
    cases zs with
    | nil=>simp
    | cons z zs =>
     show z * v+dotW zs V=z * v+dotW (zs.take V.length) V
     rw [← ih zs]
  intro zs _
  have:=g (unitRow m i) zs
  rwa [unitRow_len] at this
 rw [e n zs hn,dotW_comm]
 have tl:(zs.take n).length=n:=by rw [qO]; omega
 have:=dot_unit (xs:=zs.take n) (i:=i) (by omega)
 rw [tl] at this
 rw [this,qD,qD,List.getElem?_take,if_pos hi]
def turnT (m:Nat)(a:List Wd × List Go)(r:Ar):List Wd × List Go :=
 let p:=a.2.getD r.st g0
 let q:=movG (a.2.getD r.go g0) r.sh r.sg
 (addG m a.1 p q,a.2.set r.st (addP m a.1 p q))
def turnF (m:Nat)(a:List Wd × List Go)(as:List Ar):List Wd × List Go:=as.reverse.foldl (turnT m) a
theorem turnF_snoc (m:Nat)(a:List Wd × List Go)(as:List Ar)(r:Ar):turnF m a (as ++ [r])=turnF m (turnT m a r) as:=by unfold turnF; rw [List.reverse_append]; rfl
structure TrV (ys:List Int) (D:List Wd) (st:List Go):Prop where
 ex:ExD ys D
 pt:∀ (k:Nat) (p:Go),st[k]? = some p -> PtOkV (ys.length+D.length) (valsW ys D) p /\ 0 <= p.sh
theorem Ex.up {s v:Int}(h:0 <= s):Ex s v:=fun z=>absurd z (by omega)
theorem mov_up {p:Go}{s g:Int}(h:0 <= p.sh)(hs:0 <= s):0 <= (movG p s g).sh:=by
 unfold movG
 split
 ·exact Int.le_refl 0
 ·show 0 <= p.sh+s
  omega
theorem trv_step {ys:List Int}{D:List Wd}{st:List Go}{r:Ar}(h:TrV ys D st)(hy:0 < ys.length)(h1:r.st < st.length)(h2:r.go < st.length)(h3:0 <= r.sh)(h4:r.sg=1 \/ r.sg = -1) :
  TrV ys (turnT ys.length (D,st) r).1 (turnT ys.length (D,st) r).2 /\ (turnT ys.length (D,st) r).2.map (outV (valsW ys (turnT ys.length (D,st) r).1))=zT (st.map (outV (valsW ys D))) r:=by
 have ea:=qA h1
 have eb:=qA h2
 obtain ⟨pa,pas⟩:=h.pt _ _ ea
 obtain ⟨pb,pbs⟩:=h.pt _ _ eb
 have ga:st.getD r.st g0=st[r.st]:=getD_of ea
 have gb:st.getD r.go g0=st[r.go]:=getD_of eb
 obtain ⟨q1,q2⟩:=mov_val (s:=r.sh) (g:=r.sg) pb (by omega) h4 (Ex.up h3)
 have q3:0 <= (movG st[r.go] r.sh r.sg).sh:=mov_up pbs h3
 have va:(st.map (outV (valsW ys D))).getD r.st 0=outV (valsW ys D) st[r.st]:=getD_of (by rw [qI,ea]; rfl)
 have vb:(st.map (outV (valsW ys D))).getD r.go 0=outV (valsW ys D) st[r.go]:=getD_of (by rw [qI,eb]; rfl)
 unfold turnT zT
 dsimp only
 rw [ga,gb,va,vb,← q2]
 generalize st[r.st]=p at pa pas
 generalize movG st[r.go] r.sh r.sg=q at q1 q3
 clear ga gb va vb q2 pb pbs ea eb
 have mem:∀ (x:Go) (k:Nat) (y:Go),(st.set r.st x)[k]? = some y -> (k=r.st /\ y=x) \/ st[k]? = some y:=fun x k y hk=>by
  by_cases z:r.st=k
  ·subst z
   rw [List.getElem?_set_self h1] at hk
   exact .inl ⟨rfl,(Option.some.inj hk).symm⟩
  ·rw [List.getElem?_set_ne z] at hk
   exact .inr hk
 have keep:∀ x:Go,PtOkV (ys.length+D.length) (valsW ys D) x -> 0 <= x.sh -> outV (valsW ys D) x=outV (valsW ys D) p+outV (valsW ys D) q -> TrV ys D (st.set r.st x) /\ (st.set r.st x).map (outV (valsW ys D))=(st.map (outV (valsW ys D))).set r.st (outV (valsW ys D) p+outV (valsW ys D) q):=fun x px xs vx=>by
  refine ⟨⟨h.ex,fun k y hk=>?_⟩,by rw [List.map_set,vx]⟩
  rcases mem x k y hk with ⟨_,z⟩ | z
  ·rw [z]; exact ⟨px,xs⟩
  ·exact h.pt k y z
 rcases pa.sg.cases with ⟨z,z0⟩ | zp
 ·unfold addG addP
  rw [if_pos z,if_pos z]
  refine keep q q1 q3 ?_
  have:outV (valsW ys D) p=0:=by unfold outV; rw [z,Int.zero_mul]
  rw [this,Int.zero_add]
 have np:p.sg ≠ 0:=by omega
 rcases q1.sg.cases with ⟨z,z0⟩ | zq
 ·unfold addG addP
  rw [if_neg np,if_neg np,if_pos z,if_pos z]
  refine keep p pa pas ?_
  have:outV (valsW ys D) q=0:=by unfold outV; rw [z,Int.zero_mul]
  rw [this,Int.add_zero]
 have nq:q.sg ≠ 0:=by omega
 unfold addG addP
 rw [if_neg np,if_neg np,if_neg nq,if_neg nq]
 have dv:=deedG_val (vs:=valsW ys D) zp zq
 have sgn:signG p q=1 \/ signG p q = -1:=by unfold signG; split <;> omega
 have vD:valsW ys (D ++ [deedG p q])=valsW ys D ++ [valD (valsW ys D) (deedG p q)]:=valsW_snoc _ _ _
 have last:(valsW ys (D ++ [deedG p q])).getD (ys.length+D.length) 0=valD (valsW ys D) (deedG p q):=by
  rw [vD]
  refine getD_of ?_
  rw [qG (by rw [valsW_len]; exact Nat.le_refl _),valsW_len,Nat.sub_self]
  rfl
 have vnew:outV (valsW ys (D ++ [deedG p q])) ⟨ys.length+D.length,0,signG p q⟩=outV (valsW ys D) p+outV (valsW ys D) q:=by
  unfold outV
  show signG p q * mvI 0 ((valsW ys (D ++ [deedG p q])).getD (ys.length+D.length) 0)=_
  rw [last,mvI_zero,dv]
  rfl
 have hdd:ExD ys (D ++ [deedG p q]):=by
  unfold deedG
  split
  ·exact h.ex.snoc pa.th q1.th (.inl rfl) pa.ex q1.ex
  ·split
   ·exact h.ex.snoc pa.th q1.th (.inr rfl) pa.ex q1.ex
   ·exact h.ex.snoc q1.th pa.th (.inr rfl) q1.ex pa.ex
 refine ⟨⟨hdd,fun k y hk=>?_⟩,?_⟩
 ·rcases mem _ k y hk with ⟨_,z⟩ | z
  ·rw [z]
   exact ⟨⟨by rw [qF]; simp,.inr sgn,Ex.up (Int.le_refl 0)⟩,Int.le_refl 0⟩
  ·obtain ⟨c1,c2⟩:=h.pt k y z
   exact ⟨c1.more.1,c2⟩
 ·rw [List.map_set,vnew]
  congr 1
  refine List.map_congr_left fun y hy=>?_
  obtain ⟨k,hk⟩:=List.getElem?_of_mem hy
  exact (h.pt k y hk).1.more.2
theorem turn_val {ys:List Int}(hy:0 < ys.length)(as:List Ar):∀ (D:List Wd) (st:List Go),(∀ r ∈ as,r.st < st.length /\ r.go < st.length /\ 0 <= r.sh /\ (r.sg=1 \/ r.sg = -1)) -> TrV ys D st ->
  TrV ys (turnF ys.length (D,st) as).1 (turnF ys.length (D,st) as).2 /\ (turnF ys.length (D,st) as).2.map (outV (valsW ys (turnF ys.length (D,st) as).1))=zF (st.map (outV (valsW ys D))) as:=by
 refine snoc_ind (p:=fun as=>∀ (D:List Wd) (st:List Go),(∀ r ∈ as,r.st < st.length /\ r.go < st.length /\ 0 <= r.sh /\ (r.sg=1 \/ r.sg = -1)) -> TrV ys D st ->
  TrV ys (turnF ys.length (D,st) as).1 (turnF ys.length (D,st) as).2 /\ (turnF ys.length (D,st) as).2.map (outV (valsW ys (turnF ys.length (D,st) as).1))=zF (st.map (outV (valsW ys D))) as) (fun D st _ h=>⟨h,rfl⟩) (fun e r ih D st hr h=>?_) as
 obtain ⟨h1,h2,h3,h4⟩:=hr r (qK _ (List.mem_singleton.mpr rfl))
 obtain ⟨s1,s2⟩:=trv_step h hy h1 h2 h3 h4
 rw [turnF_snoc,zF_snoc,← s2]
 refine ih _ _ (fun x hx=>?_) s1
 have:=hr x (List.mem_append_left _ hx)
 rw [List.length_set]
 exact this
end L2
set_option Elab.async false
set_option linter.all false
set_option maxRecDepth 100000
set_option maxHeartbeats 1000000
namespace L2
open PySem PySem.Spec PyProof.Rows
structure Pot (ins:Nat) (ds:List Wd) (gs:List Go) (μ:List Int) (B:Int):Prop where
 len:μ.length=ins+ds.length
 nn:∀ k,0 <= μ.getD k 0 /\ μ.getD k 0 <= B
 dk:∀ (k:Nat) (d:Wd),ds[k]? = some d -> 0 <= d.s /\ 0 <= d.t /\ μ.getD d.a 0+d.s <= μ.getD (ins+k) 0 /\ μ.getD d.b 0+d.t <= μ.getD (ins+k) 0
 gk:∀ g ∈ gs,0 <= g.sh /\ (g.sg ≠ 0 -> μ.getD g.th 0+g.sh <= B)
structure TrP (m:Nat) (κ:List Int) (B:Int) (D:List Wd) (st:List Go) (μ:List Int):Prop where
 len:μ.length=m+D.length
 nn:∀ k,0 <= μ.getD k 0 /\ μ.getD k 0 <= B
 dk:∀ (k:Nat) (d:Wd),D[k]? = some d -> 0 <= d.s /\ 0 <= d.t /\ μ.getD d.a 0+d.s <= μ.getD (m+k) 0 /\ μ.getD d.b 0+d.t <= μ.getD (m+k) 0
 da:∀ (k:Nat) (d:Wd),D[k]? = some d -> d.a < m+k /\ d.b < m+k
 pt:∀ (k:Nat) (p:Go),st[k]? = some p -> p.th < m+D.length /\ SgOk p /\ 0 <= p.sh /\ (p.sg ≠ 0 -> μ.getD p.th 0+p.sh <= B - κ.getD k 0)
theorem getD_snoc_lt {μ:List Int}{v:Int}{k:Nat}(h:k < μ.length):(μ ++ [v]).getD k 0 = μ.getD k 0:=by
 rw [qD,qD,qH h]
theorem getD_snoc_eq {μ:List Int}{v:Int}{k:Nat}(h:k = μ.length):(μ ++ [v]).getD k 0=v:=by
 rw [qD,qG (by omega),h,Nat.sub_self]
 rfl
theorem mov_sg {p:Go}{s g:Int}(h:SgOk p)(hg:g=1 \/ g = -1):SgOk (movG p s g):=by
 rcases h.cases with ⟨z,z0⟩ | z
 ·unfold movG; rw [if_pos (by rw [z,Int.zero_mul])]; exact .inl rfl
 ·unfold movG
  rw [if_neg (by rcases z with z | z <;> rcases hg with y | y <;> rw [z,y] <;> decide)]
  refine .inr ?_
  show p.sg * g=1 \/ p.sg * g = -1
  rcases z with z | z <;> rcases hg with y | y <;> rw [z,y] <;> decide
theorem mov_nz {p:Go}{s g:Int}(hg:g=1 \/ g = -1):(movG p s g).sg ≠ 0 ↔ p.sg ≠ 0:=by
 unfold movG
 by_cases z:p.sg * g=0
 ·rw [if_pos z]
  refine ⟨fun h=>absurd rfl h,fun h=>?_⟩
  rcases hg with y | y <;> rw [y] at z <;> omega
 ·rw [if_neg z]
  refine ⟨fun _ y=>z (by rw [y,Int.zero_mul]),fun _=>z⟩
theorem trp_step {m:Nat}{κ:List Int}{B:Int}{D:List Wd}{st:List Go}{μ:List Int}{r:Ar}(h:TrP m κ B D st μ)(hk:∀ k,0 <= κ.getD k 0)(hm:0 < m)(h1:r.st < st.length)(h2:r.go < st.length)(h3:0 <= r.sh)(h4:r.sg=1 \/ r.sg = -1)(h5:κ.getD r.st 0+r.sh <= κ.getD r.go 0) :
  ∃ μ',TrP m κ B (turnT m (D,st) r).1 (turnT m (D,st) r).2 μ':=by
 have ea:=qA h1
 have eb:=qA h2
 obtain ⟨a1,a2,a3,a4⟩:=h.pt _ _ ea
 obtain ⟨b1,b2,b3,b4⟩:=h.pt _ _ eb
 have ga:st.getD r.st g0=st[r.st]:=getD_of ea
 have gb:st.getD r.go g0=st[r.go]:=getD_of eb
 have q1:(movG st[r.go] r.sh r.sg).th < m+D.length:=by
  unfold movG
  split
  ·show 0 < _; omega
  ·exact b1
 have q2:=mov_sg (s:=r.sh) b2 h4
 have q3:0 <= (movG st[r.go] r.sh r.sg).sh:=mov_up b3 h3
 have q4:(movG st[r.go] r.sh r.sg).sg ≠ 0 -> μ.getD (movG st[r.go] r.sh r.sg).th 0+(movG st[r.go] r.sh r.sg).sh <= B - κ.getD r.st 0:=fun nz=>by
  have:=b4 ((mov_nz h4).mp nz)
  unfold movG at nz ⊢
  split
  ·rename_i z; rw [if_pos z] at nz; exact absurd rfl nz
  ·show μ.getD st[r.go].th 0+(st[r.go].sh+r.sh) <= _
   omega
 unfold turnT
 dsimp only
 rw [ga,gb]
 generalize st[r.st]=p at a1 a2 a3 a4
 generalize movG st[r.go] r.sh r.sg=q at q1 q2 q3 q4
 clear ga gb ea eb b1 b2 b3 b4
 have mem:∀ (x:Go) (k:Nat) (y:Go),(st.set r.st x)[k]? = some y -> (k=r.st /\ y=x) \/ st[k]? = some y:=fun x k y hk=>by
  by_cases z:r.st=k
  ·subst z
   rw [List.getElem?_set_self h1] at hk
   exact .inl ⟨rfl,(Option.some.inj hk).symm⟩
  ·rw [List.getElem?_set_ne z] at hk
   exact .inr hk
 have keep:∀ x:Go,x.th < m+D.length -> SgOk x -> 0 <= x.sh -> (x.sg ≠ 0 -> μ.getD x.th 0+x.sh <= B - κ.getD r.st 0) -> ∃ μ',TrP m κ B D (st.set r.st x) μ':=fun x c1 c2 c3 c4=>by
  refine ⟨μ,h.len,h.nn,h.dk,h.da,fun k y hk'=>?_⟩
  rcases mem x k y hk' with ⟨z1,z⟩ | z
  ·rw [z,z1]; exact ⟨c1,c2,c3,c4⟩
  ·exact h.pt k y z
 rcases a2.cases with ⟨z,z0⟩ | zp
 ·unfold addG addP
  rw [if_pos z,if_pos z]
  exact keep q q1 q2 q3 q4
 have np:p.sg ≠ 0:=by omega
 rcases q2.cases with ⟨z,z0⟩ | zq
 ·unfold addG addP
  rw [if_neg np,if_neg np,if_pos z,if_pos z]
  exact keep p a1 a2 a3 a4
 have nq:q.sg ≠ 0:=by omega
 unfold addG addP
 rw [if_neg np,if_neg np,if_neg nq,if_neg nq]
 have sgn:signG p q=1 \/ signG p q = -1:=by unfold signG; split <;> omega
 have ap:=a4 np
 have aq:=q4 nq
 have n1:=h.nn p.th
 have ks:=hk r.st
 have lm:=h.len
 refine ⟨μ ++ [B - κ.getD r.st 0],by rw [qF,qF,lm]; rfl,fun k=>?_,fun k d hd=>?_,fun k d hd=>?_,fun k y hy=>?_⟩
 ·by_cases z:k < μ.length
  ·rw [getD_snoc_lt z]; exact h.nn k
  ·by_cases z1:k = μ.length
   ·rw [getD_snoc_eq z1]; omega
   ·rw [qD,List.getElem?_eq_none (by rw [qF]; simp; omega)]
    show 0 <= (0:Int) /\ (0:Int) <= B
    omega
 ·rcases get_snoc hd with ⟨kl,z⟩ | ⟨kl,rfl⟩
  ·obtain ⟨c1,c2⟩:=h.da k d z
   rw [getD_snoc_lt (by omega),getD_snoc_lt (by omega),getD_snoc_lt (by omega)]
   exact h.dk k d z
  ·rw [getD_snoc_eq (k:=m+k) (by omega)]
   unfold deedG
   split
   ·show 0 <= p.sh /\ 0 <= q.sh /\ (μ ++ [_]).getD p.th 0+p.sh <= _ /\ (μ ++ [_]).getD q.th 0+q.sh <= _
    rw [getD_snoc_lt (by omega),getD_snoc_lt (by omega)]
    exact ⟨a3,q3,ap,aq⟩
   ·split
    ·show 0 <= p.sh /\ 0 <= q.sh /\ (μ ++ [_]).getD p.th 0+p.sh <= _ /\ (μ ++ [_]).getD q.th 0+q.sh <= _
     rw [getD_snoc_lt (by omega),getD_snoc_lt (by omega)]
     exact ⟨a3,q3,ap,aq⟩
    ·show 0 <= q.sh /\ 0 <= p.sh /\ (μ ++ [_]).getD q.th 0+q.sh <= _ /\ (μ ++ [_]).getD p.th 0+p.sh <= _
     rw [getD_snoc_lt (by omega),getD_snoc_lt (by omega)]
     exact ⟨q3,a3,aq,ap⟩
 ·rcases get_snoc hd with ⟨kl,z⟩ | ⟨kl,rfl⟩
  ·exact h.da k d z
  ·rw [kl]
   unfold deedG
   split
   ·exact ⟨a1,q1⟩
   ·split
    ·exact ⟨a1,q1⟩
    ·exact ⟨q1,a1⟩
 ·rcases mem _ k y hy with ⟨z1,z⟩ | z
  ·rw [z,z1]
   refine ⟨by show m+D.length < _; rw [qF]; simp,.inr sgn,Int.le_refl 0,fun _=>?_⟩
   show (μ ++ [_]).getD (m+D.length) 0+0 <= _
   rw [getD_snoc_eq (by omega)]
   omega
  ·obtain ⟨c1,c2,c3,c4⟩:=h.pt k y z
   refine ⟨by rw [qF]; simp; omega,c2,c3,fun nz=>?_⟩
   rw [getD_snoc_lt (by omega)]
   exact c4 nz
theorem turn_pot {m:Nat}{κ:List Int}{B:Int}(hk:∀ k,0 <= κ.getD k 0)(hm:0 < m)(as:List Ar):∀ (D:List Wd) (st:List Go) (μ:List Int),(∀ r ∈ as,r.st < st.length /\ r.go < st.length /\ 0 <= r.sh /\ (r.sg=1 \/ r.sg = -1) /\ κ.getD r.st 0+r.sh <= κ.getD r.go 0) -> TrP m κ B D st μ ->
  ∃ μ',TrP m κ B (turnF m (D,st) as).1 (turnF m (D,st) as).2 μ':=by
 refine snoc_ind (p:=fun as=>∀ (D:List Wd) (st:List Go) (μ:List Int),(∀ r ∈ as,r.st < st.length /\ r.go < st.length /\ 0 <= r.sh /\ (r.sg=1 \/ r.sg = -1) /\ κ.getD r.st 0+r.sh <= κ.getD r.go 0) -> TrP m κ B D st μ ->
  ∃ μ',TrP m κ B (turnF m (D,st) as).1 (turnF m (D,st) as).2 μ') (fun D st μ _ h=>⟨μ,h⟩) (fun e r ih D st μ hr h=>?_) as
 obtain ⟨h1,h2,h3,h4,h5⟩:=hr r (qK _ (List.mem_singleton.mpr rfl))
 obtain ⟨μ',s1⟩:=trp_step h hk hm h1 h2 h3 h4 h5
 rw [turnF_snoc]
 refine ih _ _ _ (fun x hx=>?_) s1
 have:=hr x (List.mem_append_left _ hx)
 rw [List.length_set]
 exact this
def bT (bs:List Bool)(r:Ar):List Bool:=bs.set r.st (bs.getD r.st false || bs.getD r.go false)
def bF (bs:List Bool)(as:List Ar):List Bool:=as.reverse.foldl bT bs
theorem bF_snoc (bs:List Bool)(as:List Ar)(a:Ar):bF bs (as ++ [a])=bF (bT bs a) as:=by unfold bF; rw [List.reverse_append]; rfl
theorem bF_app (bs:List Bool)(as bs':List Ar):bF bs (as ++ bs')=bF (bF bs bs') as:=by unfold bF; rw [List.reverse_append,List.foldl_append]
theorem bT_len (bs:List Bool)(a:Ar):(bT bs a).length=bs.length:=by unfold bT; rw [List.length_set]
theorem bF_len (as:List Ar):∀ bs:List Bool,(bF bs as).length=bs.length:=by
 refine snoc_ind (p:=fun as=>∀ bs:List Bool,(bF bs as).length=bs.length) (fun _=>rfl) (fun e a ih bs=>?_) as
 rw [bF_snoc,ih,bT_len]
def nzB (p:Go):Bool:=decide (p.sg ≠ 0)
def cnt (bs:List Bool):Nat:=bs.count true
def eff:List Bool -> List Ar -> Nat
 | _,[]=>0
 | bs,r :: as=>(if bs.getD r.go false=true then 1 else 0)+eff (bT bs r) as
theorem cnt_set:∀ (bs:List Bool)(i:Nat)(b:Bool),i < bs.length -> cnt (bs.set i (bs.getD i false || b))=cnt bs+(if bs.getD i false=false /\ b=true then 1 else 0)
 | [],i,b,h=>by simp at h
 | c :: bs,0,b,h=>by
  unfold cnt
  cases c <;> cases b <;> simp
 | c :: bs,i+1,b,h=>by
  have ih:=cnt_set bs i b (by simpa using h)
  unfold cnt at ih ⊢
  show ((c :: bs.set i (bs.getD i false || b)).count true)=(c :: bs).count true+(if bs.getD i false=false /\ b=true then 1 else 0)
  rw [List.count_cons,List.count_cons,ih]
  omega
theorem getD_set_neB {zs:List Bool}{i j:Nat}{v:Bool}(h:i ≠ j):(zs.set i v).getD j false=zs.getD j false:=by
 rw [qD,qD,List.getElem?_set_ne h]
theorem nzB_add {m:Nat}{D:List Wd}{p q:Go}(hp:SgOk p)(hq:SgOk q):nzB (addP m D p q)=(nzB p || nzB q) /\ (addG m D p q).length=D.length+(if nzB p=true /\ nzB q=true then 1 else 0) /\ SgOk (addP m D p q):=by
 unfold addP addG nzB
 rcases hp.cases with ⟨z,_⟩ | zp
 ·rw [if_pos z,if_pos z,z]
  simp
  exact hq
 have np:p.sg ≠ 0:=by omega
 rw [if_neg np,if_neg np]
 rcases hq.cases with ⟨z,_⟩ | zq
 ·rw [if_pos z,if_pos z,z]
  simp [np]
  exact hp
 have nq:q.sg ≠ 0:=by omega
 rw [if_neg nq,if_neg nq]
 have sgn:signG p q=1 \/ signG p q = -1:=by unfold signG; split <;> omega
 have ns:signG p q ≠ 0:=by omega
 simp [np,nq,ns]
 exact .inr sgn
theorem turn_cnt {m:Nat}(as:List Ar):∀ (D:List Wd) (st:List Go),(∀ r ∈ as,r.st < st.length /\ r.go < st.length /\ (r.sg=1 \/ r.sg = -1)) -> (∀ p ∈ st,SgOk p) ->
  (turnF m (D,st) as).2.map nzB=bF (st.map nzB) as /\ (turnF m (D,st) as).1.length+cnt (bF (st.map nzB) as)=D.length+cnt (st.map nzB)+eff (st.map nzB) as.reverse:=by
 refine snoc_ind (p:=fun as=>∀ (D:List Wd) (st:List Go),(∀ r ∈ as,r.st < st.length /\ r.go < st.length /\ (r.sg=1 \/ r.sg = -1)) -> (∀ p ∈ st,SgOk p) ->
  (turnF m (D,st) as).2.map nzB=bF (st.map nzB) as /\ (turnF m (D,st) as).1.length+cnt (bF (st.map nzB) as)=D.length+cnt (st.map nzB)+eff (st.map nzB) as.reverse) (fun D st _ _=>⟨rfl,rfl⟩) (fun e r ih D st hr hs=>?_) as
 obtain ⟨h1,h2,h4⟩:=hr r (qK _ (List.mem_singleton.mpr rfl))
 have ea:=qA h1
 have eb:=qA h2
 have sa:=hs _ (qE ea)
 have sb:=hs _ (qE eb)
 have ga:st.getD r.st g0=st[r.st]:=getD_of ea
 have gb:st.getD r.go g0=st[r.go]:=getD_of eb
 have va:(st.map nzB).getD r.st false=nzB st[r.st]:=getD_of (by rw [qI,ea]; rfl)
 have vb:(st.map nzB).getD r.go false=nzB st[r.go]:=getD_of (by rw [qI,eb]; rfl)
 have mq:nzB (movG st[r.go] r.sh r.sg)=nzB st[r.go]:=by
  unfold nzB
  exact decide_eq_decide.mpr (mov_nz h4)
 obtain ⟨n1,n2,n3⟩:=nzB_add (m:=m) (D:=D) sa (mov_sg (s:=r.sh) sb h4)
 rw [mq] at n1 n2
 have st1:(turnT m (D,st) r).2.map nzB=bT (st.map nzB) r:=by
  unfold turnT bT
  dsimp only
  rw [ga,gb,va,vb,List.map_set,n1]
 have st2:(turnT m (D,st) r).1.length=D.length+(if nzB st[r.st]=true /\ nzB st[r.go]=true then 1 else 0):=by
  unfold turnT
  dsimp only
  rw [ga,gb,n2]
 obtain ⟨i1,i2⟩:=ih (turnT m (D,st) r).1 (turnT m (D,st) r).2 (fun x hx=>by
  have:=hr x (List.mem_append_left _ hx)
  unfold turnT
  dsimp only
  rw [List.length_set]
  exact this) (fun p hp=>by
  unfold turnT at hp
  dsimp only at hp
  rw [ga,gb] at hp
  rcases List.mem_or_eq_of_mem_set hp with z | z
  ·exact hs p z
  ·rw [z]; exact n3)
 rw [turnF_snoc,bF_snoc,← st1]
 refine ⟨i1,?_⟩
 have cs:cnt (bT (st.map nzB) r)=cnt (st.map nzB)+(if nzB st[r.st]=false /\ nzB st[r.go]=true then 1 else 0):=by
  unfold bT
  rw [cnt_set _ _ _ (by rw [qC]; exact h1),va,vb]
 rw [st2,st1,cs] at i2
 change (turnF m (turnT m (D,st) r) e).1.length+_=_ at i2
 rw [show (e ++ [r]).reverse=r :: e.reverse by simp]
 show _=_+((if (st.map nzB).getD r.go false=true then 1 else 0)+eff (bT (st.map nzB) r) e.reverse)
 rw [vb]
 rw [st1]
 cases x:nzB st[r.st] <;> cases y:nzB st[r.go] <;> simp [x,y] at i2 ⊢ <;> omega
theorem eff_app:∀ (xs ys:List Ar)(bs:List Bool),eff bs (xs ++ ys)=eff bs xs+eff (xs.foldl bT bs) ys
 | [],ys,bs=>by simp [eff]
 | r :: xs,ys,bs=>by
  show _+eff (bT bs r) (xs ++ ys)=_
  rw [eff_app xs ys (bT bs r)]
  show _=(_+eff (bT bs r) xs)+eff (xs.foldl bT (bT bs r)) ys
  omega
theorem bF_ne (as:List Ar):∀ (bs:List Bool) (k:Nat),(∀ r ∈ as,r.st ≠ k) -> (bF bs as).getD k false=bs.getD k false:=by
 refine snoc_ind (p:=fun as=>∀ (bs:List Bool) (k:Nat),(∀ r ∈ as,r.st ≠ k) -> (bF bs as).getD k false=bs.getD k false) (fun bs k _=>rfl) (fun e r ih bs k hk=>?_) as
 rw [bF_snoc,ih _ _ (fun x hx=>hk x (List.mem_append_left _ hx))]
 exact getD_set_neB (hk r (qK _ (List.mem_singleton.mpr rfl)))
def dcnt (ins k:Nat)(bs:List Bool):Nat:=((List.range k).map fun j=>if bs.getD (ins+j) false=true then 1 else 0).sum
theorem dcnt_succ (ins k:Nat)(bs:List Bool):dcnt ins (k+1) bs=dcnt ins k bs+(if bs.getD (ins+k) false=true then 1 else 0):=by
 unfold dcnt
 rw [List.range_succ,List.map_append,List.sum_append]
 simp
theorem eff_deeds {ins:Nat}(ds:List Wd):(∀ (k:Nat) (d:Wd),ds[k]? = some d -> d.a < ins+k /\ d.b < ins+k) -> ∀ bs:List Bool,eff bs (arrF ins 0 ds).reverse=2 * dcnt ins ds.length (bF bs (arrF ins 0 ds)):=by
 refine snoc_ind (p:=fun ds=>(∀ (k:Nat) (d:Wd),ds[k]? = some d -> d.a < ins+k /\ d.b < ins+k) -> ∀ bs:List Bool,eff bs (arrF ins 0 ds).reverse=2 * dcnt ins ds.length (bF bs (arrF ins 0 ds))) (fun _ bs=>rfl) (fun e d ih hE bs=>?_) ds
 obtain ⟨da,db⟩:=hE e.length d (by rw [qG (Nat.le_refl _),Nat.sub_self]; rfl)
 have hE':∀ (k:Nat) (d:Wd),e[k]? = some d -> d.a < ins+k /\ d.b < ins+k:=fun k x h=>hE k x (by rw [qH (qB.mp h).1]; exact h)
 have ea:arrF ins 0 (e ++ [d])=(arrF ins 0 e ++ [⟨d.a,ins+e.length,d.s,1⟩]) ++ [⟨d.b,ins+e.length,d.t,sgW d.w⟩]:=by
  rw [arrF_app,Nat.zero_add]; simp [arrF]
 rw [ea,bF_snoc,bF_snoc,List.reverse_append,List.reverse_append,List.reverse_singleton,List.reverse_singleton]
 have ih':=ih hE' (bT (bT bs ⟨d.b,ins+e.length,d.t,sgW d.w⟩) ⟨d.a,ins+e.length,d.s,1⟩)
 have stay:∀ r ∈ arrF ins 0 e,r.st ≠ ins+e.length:=fun r hr=>by
  obtain ⟨t,ht⟩:=List.getElem?_of_mem hr
  obtain ⟨x,h1,_,h3⟩:=arr_at ht
  have kl:=(qB.mp h1).1
  obtain ⟨c1,c2⟩:=hE' _ x h1
  rcases h3 with ⟨_,rfl⟩ | ⟨_,rfl⟩
  ·show x.a ≠ _; omega
  ·show x.b ≠ _; omega
 have f1:(bT bs ⟨d.b,ins+e.length,d.t,sgW d.w⟩).getD (ins+e.length) false=bs.getD (ins+e.length) false:=getD_set_neB (by show d.b ≠ _; omega)
 have f2:(bT (bT bs ⟨d.b,ins+e.length,d.t,sgW d.w⟩) ⟨d.a,ins+e.length,d.s,1⟩).getD (ins+e.length) false=bs.getD (ins+e.length) false:=by
  rw [← f1]
  exact getD_set_neB (by show d.a ≠ _; omega)
 show (if bs.getD (ins+e.length) false=true then 1 else 0)+((if (bT bs ⟨d.b,ins+e.length,d.t,sgW d.w⟩).getD (ins+e.length) false=true then 1 else 0)+eff (bT (bT bs ⟨d.b,ins+e.length,d.t,sgW d.w⟩) ⟨d.a,ins+e.length,d.s,1⟩) (arrF ins 0 e).reverse)=_
 rw [ih',f1,qF,List.length_singleton,dcnt_succ,bF_ne _ _ _ stay,f2]
 omega
theorem eff_outs {n:Nat}(as:List Ar):∀ bs:List Bool,(∀ r ∈ as,r.st < n /\ n <= r.go /\ bs.getD r.go false=true) -> eff bs as=as.length:=by
 induction as with
 | nil=>intro bs _; rfl
 | cons r as ih =>
  intro bs h
  obtain ⟨h1,h2,h3⟩:=h r (List.mem_cons_self ..)
  show (if bs.getD r.go false=true then 1 else 0)+eff (bT bs r) as=as.length+1
  rw [if_pos h3,ih (bT bs r) (fun x hx=>?_)]
  ·omega
  ·obtain ⟨c1,c2,c3⟩:=h x (List.mem_cons_of_mem _ hx)
   refine ⟨c1,c2,?_⟩
   rw [← c3]
   exact getD_set_neB (by omega)
end L2
set_option Elab.async false
set_option linter.all false
set_option maxRecDepth 100000
set_option maxHeartbeats 1000000
namespace L2
open PySem PySem.Spec PyProof.Rows
structure TW (ins:Nat) (ds:List Wd) (gs:List Go) (μ:List Int) (B:Int):Prop where
 ok:WebOk ins ds gs
 sg:∀ g ∈ gs,SgOk g
 pot:Pot ins ds gs μ B
 b:B <= 3900
theorem mvI_bd {s n:Int}{b c:Nat}(h0:0 <= s)(h1:s.toNat <= c)(h:n.natAbs <= 2 ^ b):(mvI s n).natAbs <= 2 ^ (b+c):=by
 rw [mvI_up h0,Int.natAbs_mul,Int.natAbs_pow,Nat.pow_add]
 exact Nat.mul_le_mul h (qN (by decide) h1)
section
variable {ins:Nat}{ds:List Wd}{gs:List Go}{μ:List Int}{B:Int}
theorem pot_bd (P:Pot ins ds gs μ B) (dk:∀ (k:Nat) (d:Wd),ds[k]? = some d -> d.a < ins+k /\ d.b < ins+k /\ (d.w = "sum" \/ d.w = "less")) {xs:List Int} (hl:xs.length=ins) (hx:∀ x ∈ xs,x.natAbs <= 1):∀ i,i <= ds.length -> ∀ k,k < ins+i -> ((valsW xs (ds.take i)).getD k 0).natAbs <= 2 ^ ((μ.getD k 0).toNat+k)
 | 0,_,k,hk=>by
  rw [List.take_zero]
  show (xs.getD k 0).natAbs <= _
  have e:=qA (l:=xs) (i:=k) (by omega)
  rw [getD_of e]
  exact Nat.le_trans (hx _ (qE e)) Nat.one_le_two_pow
 | i+1,hi,k,hk=>by
  have ih:=pot_bd P dk hl hx i (by omega)
  have ed:=qA (l:=ds) (i:=i) (by omega)
  generalize ds[i]'(by omega)=d at ed
  have vl:(valsW xs (ds.take i)).length=ins+i:=by rw [valsW_len,qO,hl]; omega
  rw [valsW_take ed]
  by_cases z:k < ins+i
  ·rw [getD_snoc_lt (by omega)]
   exact ih k z
  ·have kk:k=ins+i:=by omega
   rw [getD_snoc_eq (by omega)]
   obtain ⟨a1,a2,a3⟩:=dk i d ed
   obtain ⟨p1,p2,p3,p4⟩:=P.dk i d ed
   have na:=(P.nn d.a).1
   have nb:=(P.nn d.b).1
   have h1:=ih d.a a1
   have h2:=ih d.b a2
   rw [kk]
   have m1:=mvI_bd p1 (c:=d.s.toNat) (Nat.le_refl _) h1
   have m2:=mvI_bd p2 (c:=d.t.toNat) (Nat.le_refl _) h2
   have t1:(mvI d.s ((valsW xs (ds.take i)).getD d.a 0)).natAbs <= 2 ^ ((μ.getD (ins+i) 0).toNat+(ins+i - 1)):=Nat.le_trans m1 (qN (by decide) (by omega))
   have t2:(mvI d.t ((valsW xs (ds.take i)).getD d.b 0)).natAbs <= 2 ^ ((μ.getD (ins+i) 0).toNat+(ins+i - 1)):=Nat.le_trans m2 (qN (by decide) (by omega))
   have t3:(sgW d.w * mvI d.t ((valsW xs (ds.take i)).getD d.b 0)).natAbs <= 2 ^ ((μ.getD (ins+i) 0).toNat+(ins+i - 1)):=by
    have:sgW d.w=1 \/ sgW d.w = -1:=by rcases a3 with z | z <;> rw [z] <;> decide
    rcases this with z | z <;> rw [z]
    ·rw [Int.one_mul]; exact t2
    ·rw [Int.neg_one_mul,Int.natAbs_neg]; exact t2
   unfold valD
   refine Nat.le_trans (Int.natAbs_add_le _ _) ?_
   refine Nat.le_trans (Nat.add_le_add t1 t3) ?_
   rw [← Nat.two_mul,← Nat.pow_succ']
   exact qN (by decide) (by omega)
theorem TW.fw (T:TW ins ds gs μ B):FW4 ins ds gs:=by
 have dk:∀ (k:Nat) (d:Wd),ds[k]? = some d -> d.a < ins+k /\ d.b < ins+k:=fun k d h=>⟨(T.ok.dk k d h).1,(T.ok.dk k d h).2.1⟩
 have col:=rows_col ds dk
 have i2:=T.ok.i2
 have d60:=T.ok.dl
 refine ⟨T.ok,fun k d hd=>?_,fun g hg=>?_,fun r hr=>?_,fun r hr=>?_⟩
 ·obtain ⟨p1,p2,p3,p4⟩:=T.pot.dk k d hd
  have n1:=(T.pot.nn d.a).1
  have n2:=(T.pot.nn d.b).1
  have n3:=(T.pot.nn (ins+k)).2
  have:=T.b
  exact ⟨(dk k d hd).1,(dk k d hd).2,⟨by omega,by omega,fun z=>by omega⟩,⟨by omega,by omega,fun z=>by omega⟩⟩
 ·rcases (T.sg g hg).cases with ⟨_,z⟩ | z
  ·exact .inl z
  ·obtain ⟨q1,q2⟩:=T.pot.gk g hg
   have:=q2 (by omega)
   have n1:=(T.pot.nn g.th).1
   have:=T.b
   exact .inr ⟨z,by omega,by omega,fun y=>by omega⟩
 ·obtain ⟨k,hk⟩:=List.getElem?_of_mem hr
  have kl:=(qB.mp hk).1
  rw [rowsW_len] at kl
  obtain ⟨c1,c2⟩:=col k kl
  rw [getD_of hk] at c1 c2
  refine ⟨by omega,fun x hx=>?_⟩
  obtain ⟨i,hi⟩:=List.getElem?_of_mem hx
  have il:=(qB.mp hi).1
  have e:=c2 i (by omega)
  rw [getD_of hi] at e
  have bd:=pot_bd T.pot T.ok.dk (unitRow_len ins i) (fun y hy=>by rcases unitRow_bound hy with z | z <;> rw [z] <;> decide) ds.length (Nat.le_refl _) k kl
  rw [List.take_length,← e] at bd
  have n3:=T.pot.nn k
  have:=T.b
  exact Nat.le_trans bd (qN (by decide) (by omega))
 ·obtain ⟨k,hk⟩:=List.getElem?_of_mem hr
  have kl:=(qB.mp hk).1
  rw [rowsW_len] at kl
  rw [← getD_of (d:=[]) hk]
  exact (col k kl).1
end
def st0 (n m:Nat):List Go:=qQ n g0 ++ (List.range m).map fun p=>⟨p,0,1⟩
def trn (ins:Nat)(ds:List Wd)(gs:List Go):List Wd × List Go:=turnF gs.length ([],st0 (ins+ds.length) gs.length) (allA ins ds gs)
def trnD (ins:Nat)(ds:List Wd)(gs:List Go):List Wd:=(trn ins ds gs).1
def trnO (ins:Nat)(ds:List Wd)(gs:List Go):List Go:=(trn ins ds gs).2.take ins
theorem st0_len (n m:Nat):(st0 n m).length=n+m:=by unfold st0; rw [qF,qL,qC,List.length_range]
theorem st0_at {n m k:Nat}{p:Go}(h:(st0 n m)[k]? = some p):(k < n /\ p=g0) \/ (n <= k /\ k < n+m /\ p=⟨k - n,0,1⟩):=by
 unfold st0 at h
 by_cases z:k < n
 ·rw [qH (by rw [qL]; exact z),List.getElem?_replicate,if_pos z] at h
  exact .inl ⟨z,(Option.some.inj h).symm⟩
 ·rw [qG (by rw [qL]; omega),qL,qI] at h
  have kl:k - n < m:=by
   obtain ⟨x,hx,_⟩:=Option.map_eq_some_iff.mp h
   have:=(qB.mp hx).1
   rwa [List.length_range] at this
  rw [List.getElem?_range kl] at h
  exact .inr ⟨by omega,by omega,(Option.some.inj h).symm⟩
theorem turnF_len {m:Nat}(as:List Ar):∀ a:List Wd × List Go,(turnF m a as).2.length=a.2.length:=by
 refine snoc_ind (p:=fun as=>∀ a:List Wd × List Go,(turnF m a as).2.length=a.2.length) (fun _=>rfl) (fun e r ih a=>?_) as
 rw [turnF_snoc,ih]
 unfold turnT
 dsimp only
 rw [List.length_set]
section
variable {ins:Nat}{ds:List Wd}{gs:List Go}{μ:List Int}{B:Int}
def kap (μ:List Int)(m:Nat)(B:Int):List Int:=μ ++ qQ m B
theorem kap_lt {m k:Nat}(h:k < μ.length):(kap μ m B).getD k 0 = μ.getD k 0:=by
 unfold kap
 rw [qD,qD,qH h]
theorem kap_ge {m k:Nat}(h:μ.length <= k)(h2:k < μ.length+m):(kap μ m B).getD k 0=B:=by
 unfold kap
 rw [qD,qG h,List.getElem?_replicate,if_pos (by omega)]
 rfl
theorem TW.arr (T:TW ins ds gs μ B):∀ r ∈ allA ins ds gs,r.st < ins+ds.length /\ r.go < ins+ds.length+gs.length /\ 0 <= r.sh /\ (r.sg=1 \/ r.sg = -1) /\ (kap μ gs.length B).getD r.st 0+r.sh <= (kap μ gs.length B).getD r.go 0:=fun r hr=>by
 have ml:=T.pot.len
 rcases List.mem_append.mp hr with z | z
 ·obtain ⟨t,ht⟩:=List.getElem?_of_mem z
  obtain ⟨d,h1,h2,h3⟩:=arr_at ht
  have kl:=(qB.mp h1).1
  obtain ⟨c1,c2,c3⟩:=T.ok.dk _ d h1
  obtain ⟨p1,p2,p3,p4⟩:=T.pot.dk _ d h1
  have sgd:sgW d.w=1 \/ sgW d.w = -1:=by rcases c3 with z | z <;> rw [z] <;> decide
  rw [Nat.add_zero] at h2
  rw [h2,kap_lt (k:=ins+t / 2) (by omega)]
  rcases h3 with ⟨_,e⟩ | ⟨_,e⟩
  ·rw [Nat.add_zero] at e
   rw [e]
   show d.a < _ /\ _ /\ 0 <= d.s /\ ((1:Int)=1 \/ (1:Int) = -1) /\ (kap μ gs.length B).getD d.a 0+d.s <= _
   rw [kap_lt (k:=d.a) (by omega)]
   exact ⟨by omega,by omega,p1,.inl rfl,p3⟩
  ·rw [Nat.add_zero] at e
   rw [e]
   show d.b < _ /\ _ /\ 0 <= d.t /\ (sgW d.w=1 \/ sgW d.w = -1) /\ (kap μ gs.length B).getD d.b 0+d.t <= _
   rw [kap_lt (k:=d.b) (by omega)]
   exact ⟨by omega,by omega,p2,sgd,p4⟩
 ·obtain ⟨k,g,h1,h2,rfl⟩:=oarr_mem z
  have kl:=(qB.mp h1).1
  have hg:=qE h1
  have gk:=T.ok.gk g hg
  obtain ⟨q1,q2⟩:=T.pot.gk g hg
  refine ⟨gk,by show ins+ds.length+(0+k) < _; omega,q1,?_,?_⟩
  ·rcases (T.sg g hg).cases with y | y
   ·exact absurd y.1 h2
   ·exact y
  ·show (kap μ gs.length B).getD g.th 0+g.sh <= (kap μ gs.length B).getD (ins+ds.length+(0+k)) 0
   rw [kap_lt (by omega),kap_ge (by omega) (by omega)]
   exact q2 h2
theorem TW.val (T:TW ins ds gs μ B)(hm:0 < gs.length){ys:List Int}(hy:ys.length=gs.length):TrV ys (trnD ins ds gs) (trn ins ds gs).2 /\ (trn ins ds gs).2.map (outV (valsW ys (trnD ins ds gs)))=zF (zs0 (ins+ds.length) ys) (allA ins ds gs):=by
 have A:=T.arr
 have B0:TrV ys [] (st0 (ins+ds.length) gs.length):=by
  refine ⟨fun k d h=>by simp at h,fun k p hp=>?_⟩
  rcases st0_at hp with ⟨_,rfl⟩ | ⟨_,_,rfl⟩
  ·exact ⟨⟨by show 0 < _; omega,.inl rfl,Ex.up (Int.le_refl 0)⟩,Int.le_refl 0⟩
  ·exact ⟨⟨by show k - (ins+ds.length) < ys.length+0; omega,.inr (.inl rfl),Ex.up (Int.le_refl 0)⟩,Int.le_refl 0⟩
 have e0:(st0 (ins+ds.length) gs.length).map (outV (valsW ys []))=zs0 (ins+ds.length) ys:=by
  unfold st0 zs0
  rw [List.map_append,List.map_replicate,List.map_map]
  congr 1
  ·rw [show outV (valsW ys []) g0=0 by unfold outV g0; rw [Int.zero_mul]]
  ·refine List.ext_getElem? fun j=>?_
   rw [qI]
   by_cases z:j < gs.length
   ·rw [List.getElem?_range z]
    show some (1 * mvI 0 (ys.getD j 0))=_
    have e:=qA (l:=ys) (i:=j) (by omega)
    rw [mvI_zero,Int.one_mul,e,getD_of e]
   ·rw [List.getElem?_eq_none (by rw [List.length_range]; omega),List.getElem?_eq_none (by omega)]
    rfl
 have R:=turn_val (by omega) (allA ins ds gs) [] (st0 (ins+ds.length) gs.length) (fun r hr=>by
  obtain ⟨h1,h2,h3,h4,_⟩:=A r hr
  rw [st0_len]
  exact ⟨by omega,by omega,h3,h4⟩) B0
 rw [e0,hy] at R
 exact R
theorem TW.pots (T:TW ins ds gs μ B)(hm:0 < gs.length):∃ μ',TrP gs.length (kap μ gs.length B) B (trnD ins ds gs) (trn ins ds gs).2 μ':=by
 have A:=T.arr
 have ml:=T.pot.len
 have nn:=T.pot.nn
 have bn:0 <= B:=by have:=nn 0; omega
 have kn:∀ k,0 <= (kap μ gs.length B).getD k 0:=fun k=>by
  by_cases z:k < μ.length
  ·rw [kap_lt z]; exact (nn k).1
  ·by_cases z1:k < μ.length+gs.length
   ·rw [kap_ge (by omega) z1]; exact bn
   ·unfold kap
    rw [qD,List.getElem?_eq_none (by rw [qF,qL]; omega)]
    exact Int.le_refl 0
 have zg:∀ k,(qQ gs.length (0:Int)).getD k 0=0:=fun k=>by
  rw [qD,List.getElem?_replicate]
  split <;> rfl
 refine turn_pot kn hm (allA ins ds gs) [] (st0 (ins+ds.length) gs.length) (qQ gs.length 0) (fun r hr=>by
  obtain ⟨h1,h2,h3,h4,h5⟩:=A r hr
  rw [st0_len]
  exact ⟨by omega,by omega,h3,h4,h5⟩) ⟨by rw [qL]; rfl,fun k=>by rw [zg]; exact ⟨Int.le_refl 0,bn⟩,fun k d h=>by simp at h,fun k d h=>by simp at h,fun k p hp=>?_⟩
 rcases st0_at hp with ⟨_,rfl⟩ | ⟨h1,h2,rfl⟩
 ·exact ⟨by show 0 < _; omega,.inl rfl,Int.le_refl 0,fun z=>absurd rfl z⟩
 ·refine ⟨by show k - (ins+ds.length) < gs.length+0; omega,.inr (.inl rfl),Int.le_refl 0,fun _=>?_⟩
  rw [zg,kap_ge (by omega) (by omega)]
  show (0:Int)+0 <= B - B
  omega
def bs0 (n m:Nat):List Bool:=qQ n false ++ qQ m true
def metB (ins:Nat)(ds:List Wd)(gs:List Go):List Bool:=bF (bs0 (ins+ds.length) gs.length) (allA ins ds gs)
def mostV (ins:Nat)(ds:List Wd)(gs:List Go):Int:=(dcnt ins ds.length (metB ins ds gs):Int)+(oarr (ins+ds.length) 0 gs).length - (dcnt 0 ins (metB ins ds gs):Nat)
theorem dcnt_add (a b c:Nat)(bs:List Bool):dcnt a (b+c) bs=dcnt a b bs+dcnt (a+b) c bs:=by
 induction c with
 | zero=>rfl
 | succ c ih=>rw [← Nat.add_assoc,dcnt_succ,ih,dcnt_succ,Nat.add_assoc a b c]; omega
theorem dcnt_le (a b:Nat)(bs:List Bool):dcnt a b bs <= b:=by
 induction b with
 | zero=>exact Nat.le_refl _
 | succ b ih=>rw [dcnt_succ]; split <;> omega
theorem cnt_all:∀ bs:List Bool,cnt bs=dcnt 0 bs.length bs:=by
 refine snoc_ind (p:=fun bs=>cnt bs=dcnt 0 bs.length bs) rfl (fun bs b ih=>?_)
 rw [qF,List.length_singleton,dcnt_succ]
 have e:dcnt 0 bs.length (bs ++ [b])=dcnt 0 bs.length bs:=by
  unfold dcnt
  congr 1
  refine List.map_congr_left fun j hj=>?_
  have:=List.mem_range.mp hj
  rw [qD,qD,qH (by omega)]
 rw [e,← ih]
 unfold cnt
 rw [List.count_append,qD,qG (by omega)]
 simp
 cases b <;> rfl
theorem bs0_lt {n m k:Nat}(h:k < n):(bs0 n m).getD k false=false:=by
 unfold bs0
 rw [qD,qH (by rw [qL]; exact h),List.getElem?_replicate,if_pos h]
 rfl
theorem bs0_ge {n m k:Nat}(h:n <= k)(h2:k < n+m):(bs0 n m).getD k false=true:=by
 unfold bs0
 rw [qD,qG (by rw [qL]; exact h),qL,List.getElem?_replicate,if_pos (by omega)]
 rfl
theorem bs0_len (n m:Nat):(bs0 n m).length=n+m:=by unfold bs0; simp
theorem TW.many (T:TW ins ds gs μ B):((trnD ins ds gs).length:Int)=mostV ins ds gs /\ (trnD ins ds gs).length <= gs.length+ds.length:=by
 have A:=T.arr
 have e0:(st0 (ins+ds.length) gs.length).map nzB=bs0 (ins+ds.length) gs.length:=by
  unfold st0 bs0
  rw [List.map_append,List.map_replicate,List.map_map]
  congr 1
  refine List.ext_getElem? fun j=>?_
  rw [qI,List.getElem?_replicate]
  by_cases z:j < gs.length
  ·rw [List.getElem?_range z,if_pos z]; rfl
  ·rw [List.getElem?_eq_none (by rw [List.length_range]; omega),if_neg z]; rfl
 obtain ⟨_,c2⟩:=turn_cnt (m:=gs.length) (allA ins ds gs) [] (st0 (ins+ds.length) gs.length) (fun r hr=>by
  obtain ⟨h1,h2,_,h4,_⟩:=A r hr
  rw [st0_len]
  exact ⟨by omega,by omega,h4⟩) (fun p hp=>by
  obtain ⟨k,hk⟩:=List.getElem?_of_mem hp
  rcases st0_at hk with ⟨_,rfl⟩ | ⟨_,_,rfl⟩
  ·exact .inl rfl
  ·exact .inr (.inl rfl))
 rw [e0] at c2
 change (trnD ins ds gs).length+cnt (metB ins ds gs)=_ at c2
 have ml:(metB ins ds gs).length=ins+ds.length+gs.length:=by unfold metB; rw [bF_len,bs0_len]
 have hi:∀ k,ins+ds.length <= k -> k < ins+ds.length+gs.length -> (metB ins ds gs).getD k false=true:=fun k h1 h2=>by
  unfold metB
  rw [bF_ne _ _ _ (fun r hr=>by have:=(A r hr).1; omega)]
  exact bs0_ge h1 h2
 have full:∀ (bs:List Bool) (a b:Nat),(∀ k,a <= k -> k < a+b -> bs.getD k false=true) -> dcnt a b bs=b:=fun bs a b=>by
  induction b with
  | zero=>intro _; rfl
  | succ b ih =>
   intro h
   rw [dcnt_succ,ih (fun k h1 h2=>h k h1 (by omega)),if_pos (h (a+b) (by omega) (by omega))]
 have empty:∀ (bs:List Bool) (a b:Nat),(∀ k,a <= k -> k < a+b -> bs.getD k false=false) -> dcnt a b bs=0:=fun bs a b=>by
  induction b with
  | zero=>intro _; rfl
  | succ b ih =>
   intro h
   rw [dcnt_succ,ih (fun k h1 h2=>h k h1 (by omega)),if_neg (by rw [h (a+b) (by omega) (by omega)]; decide)]
 have c3:cnt (bs0 (ins+ds.length) gs.length)=gs.length:=by
  rw [cnt_all,bs0_len,dcnt_add,empty _ _ _ (fun k _ h2=>bs0_lt (by omega)),full _ _ _ (fun k h1 h2=>bs0_ge (by omega) (by omega))]
  omega
 have c4:cnt (metB ins ds gs)=dcnt 0 ins (metB ins ds gs)+dcnt ins ds.length (metB ins ds gs)+gs.length:=by
  rw [cnt_all,ml,dcnt_add,dcnt_add,full _ (0+(ins+ds.length)) gs.length (fun k h1 h2=>hi k (by omega) (by omega)),Nat.zero_add]
 have dk:∀ (k:Nat) (d:Wd),ds[k]? = some d -> d.a < ins+k /\ d.b < ins+k:=fun k d h=>⟨(T.ok.dk k d h).1,(T.ok.dk k d h).2.1⟩
 have c5:eff (bs0 (ins+ds.length) gs.length) (allA ins ds gs).reverse=(oarr (ins+ds.length) 0 gs).length+2 * dcnt ins ds.length (metB ins ds gs):=by
  unfold allA
  rw [List.reverse_append,eff_app]
  have o1:eff (bs0 (ins+ds.length) gs.length) (oarr (ins+ds.length) 0 gs).reverse=(oarr (ins+ds.length) 0 gs).length:=by
   rw [eff_outs (n:=ins+ds.length) _ _ (fun r hr=>?_),List.length_reverse]
   have hr':=List.mem_reverse.mp hr
   have:=A r (qK _ hr')
   obtain ⟨k,g,h1,h2,rfl⟩:=oarr_mem hr'
   have kl:=(qB.mp h1).1
   exact ⟨this.1,by show _ <= ins+ds.length+(0+k); omega,bs0_ge (by show _ <= ins+ds.length+(0+k); omega) this.2.1⟩
  rw [o1]
  congr 1
  have o2:=eff_deeds ds dk (bF (bs0 (ins+ds.length) gs.length) (oarr (ins+ds.length) 0 gs))
  show eff (bF (bs0 (ins+ds.length) gs.length) (oarr (ins+ds.length) 0 gs)) _=_
  rw [o2]
  unfold metB allA
  rw [bF_app]
 rw [c3,c4,c5,List.length_nil] at c2
 unfold mostV
 have ol:=oarr_len (ins+ds.length) gs 0
 have dl:=dcnt_le ins ds.length (metB ins ds gs)
 refine ⟨by omega,by omega⟩
theorem TW.turn (T:TW ins ds gs μ B)(hm:0 < gs.length)(h60:gs.length+ds.length <= 60):∃ μ',TW gs.length (trnD ins ds gs) (trnO ins ds gs) μ' B:=by
 obtain ⟨μ',P⟩:=T.pots hm
 obtain ⟨V,_⟩:=T.val hm (unitRow_len gs.length 0)
 have many:=T.many.2
 have i2:=T.ok.i2
 have mem:∀ g ∈ trnO ins ds gs,∃ k,k < ins /\ (trn ins ds gs).2[k]? = some g:=fun g hg=>by
  obtain ⟨k,hk⟩:=List.getElem?_of_mem hg
  unfold trnO at hk
  rw [List.getElem?_take] at hk
  by_cases z:k < ins
  ·rw [if_pos z] at hk; exact ⟨k,z,hk⟩
  ·rw [if_neg z] at hk; cases hk
 refine ⟨μ',⟨by omega,T.ok.gl,fun k d hd=>?_,fun g hg=>?_,by omega,by unfold trnO; rw [qO]; omega⟩,fun g hg=>?_,⟨P.len,P.nn,P.dk,fun g hg=>?_⟩,T.b⟩
 ·have:=V.ex k d hd
  rw [unitRow_len] at this
  exact ⟨this.1,this.2.1,this.2.2.1⟩
 ·obtain ⟨k,_,hk⟩:=mem g hg
  exact (P.pt k g hk).1
 ·obtain ⟨k,_,hk⟩:=mem g hg
  exact (P.pt k g hk).2.1
 ·obtain ⟨k,kl,hk⟩:=mem g hg
  obtain ⟨_,_,c3,c4⟩:=P.pt k g hk
  refine ⟨c3,fun nz=>?_⟩
  have:=c4 nz
  rw [kap_lt (by have:=T.pot.len; omega)] at this
  have:=(T.pot.nn k).1
  omega
theorem trnO_len (T:TW ins ds gs μ B):(trnO ins ds gs).length=ins:=by
 unfold trnO trn
 rw [qO,turnF_len,st0_len]
 omega
end
end L2
set_option Elab.async false
set_option linter.all false
set_option maxRecDepth 100000
set_option maxHeartbeats 1000000
namespace L2
open PySem PySem.Spec PyProof.Rows
def spCntK (K:PySem.W.Frag):Sp:=fun vs H Q _=>∃ (w dl gl:Addr) (ins:Nat) (us:List V) (ds:List Wd) (os:List V) (gs:List Go),vs=[.ref w] /\ WbK K H w dl gl ins us ds os gs /\ Q (.int ((ins:Int)+(ds.length:Nat))) H
def spOArrK (K:PySem.W.Frag):Sp:=fun vs H Q _=>∃ (w dl gl:Addr) (ins:Nat) (us:List V) (ds:List Wd) (os:List V) (gs:List Go),vs=[.ref w] /\ WbK K H w dl gl ins us ds os gs /\ gs.length <= 400 /\
 ∀ r ws H',H r=none -> Same H H' -> H' r=some (.lst ws) -> HTs aTup H' ws (oarr (ins+ds.length) 0 gs) -> Q (.ref r) H'
def spArrK (K:PySem.W.Frag):Sp:=fun vs H Q _=>∃ (w dl gl:Addr) (ins:Nat) (us:List V) (ds:List Wd) (os:List V) (gs:List Go),vs=[.ref w] /\ WbK K H w dl gl ins us ds os gs /\ ds.length <= 300 /\ gs.length <= 300 /\
 ∀ r ws H',H r=none -> Same H H' -> H' r=some (.lst ws) -> HTs aTup H' ws (allA ins ds gs) -> Q (.ref r) H'
def spRefK (K:PySem.W.Frag):Sp:=fun vs H Q _=>∃ (w dl gl:Addr) (ins:Nat) (us:List V) (ds:List Wd) (os:List V) (gs:List Go),vs=[.ref w] /\ WbK K H w dl gl ins us ds os gs /\ ds.length <= 60 /\ gs.length <= 12 /\ (∀ d ∈ ds,0 <= d.s /\ 0 <= d.t) /\ (∀ g ∈ gs,0 <= g.sh) /\ ∀ H',Same H H' -> Q .non H'
def spTurnE (K:PySem.W.Frag):Sp:=fun vs H Q _=>∃ (w dl gl:Addr) (ins:Nat) (us:List V) (ds:List Wd) (os:List V) (gs:List Go) (μ:List Int) (B:Int),vs=[.ref w] /\ WbK K H w dl gl ins us ds os gs /\ TW ins ds gs μ B /\ 0 < gs.length /\
 ∀ r d3 g3 xs ys H',H r=none -> H d3=none -> H g3=none -> d3 ≠ g3 -> Same H H' -> WbK K H' r d3 g3 gs.length xs (trnD ins ds gs) ys (trnO ins ds gs) -> Q (.ref r) H'
theorem TW.low {ins:Nat}{ds:List Wd}{gs:List Go}{μ:List Int}{B:Int}(T:TW ins ds gs μ B):(∀ d ∈ ds,0 <= d.s /\ 0 <= d.t) /\ ∀ g ∈ gs,0 <= g.sh:=⟨fun d hd=>by
 obtain ⟨k,hk⟩:=List.getElem?_of_mem hd
 exact ⟨(T.pot.dk k d hk).1,(T.pot.dk k d hk).2.1⟩,fun g hg=>(T.pot.gk g hg).1⟩
section
variable {α:Type}{K:PySem.W.Frag}{f:α -> List V}{H H':Hp}{vs us:List V}{xs:List α}{l:Addr}
theorem HKs.set {i:Nat}{x:α}{p:Addr}(h:HKs K f H vs xs)(hi:i < vs.length)(hx:SqT K H p (f x)):HKs K f H (vs.set i (.ref p)) (xs.set i x):=by
 have l:=h.len
 refine ⟨by rw [List.length_set,List.length_set,l],fun k y hy=>?_⟩
 by_cases z:i=k
 ·subst z
  rw [List.getElem?_set_self (by omega)] at hy
  cases hy
  exact ⟨p,List.getElem?_set_self hi,hx⟩
 ·rw [List.getElem?_set_ne z] at hy
  rw [List.getElem?_set_ne z]
  exact h.at_ k y hy
theorem HKs.take {n:Nat}(h:HKs K f H vs xs):HKs K f H (vs.take n) (xs.take n):=by
 refine ⟨by rw [qO,qO,h.len],fun k y hy=>?_⟩
 rw [List.getElem?_take] at hy ⊢
 by_cases z:k < n
 ·rw [if_pos z] at hy ⊢; exact h.at_ k y hy
 ·rw [if_neg z] at hy; cases hy
end
section
variable {K:PySem.W.Frag}{σ:St}{H:Hp}{Q:VK}{cs:List Nat}{te:TE}
theorem comp_rK {α:Type}{f:α -> List V}{n:Nat}(hz:n <= 1000)(F:Nat -> α)
  (hb:∀ (i:Nat) H' (R:VK),i < n -> Same H H' -> (∀ p H5,Same H' H5 -> SqT K H5 p (f (F i)) -> R (.ref p) H5) -> te (some (.int (0+(i:Int))) :: capV cs σ) H' R)
  (hd:∀ acc ws H',H acc=none -> Same H H' -> H' acc=some (.lst ws) -> HKs K f H' ws ((List.range n).map F) -> Q (.ref acc) H'):CompIt (Itr 0 n) 1 cs (gName 0) tYes te σ H Q:=by
 refine comp_any n (fun acc i ws H'=>Same H H' /\ H acc=none /\ H' acc=some (.lst ws) /\ HKs K f H' ws ((List.range i).map F)) (le_size hz) ?_ ?_ ?_ ?_ ?_ ?_
 ·rintro acc i ws H' hi _
  exact hi
 ·rintro acc ws H' _
  exact Nat.le_refl _
 ·intro acc ha
  exact ⟨same_new ha _,ha,upd_same,hks_nil⟩
 ·rintro acc i ws H' ⟨s,_,ha,hw⟩
  have:=hw.len
  rw [qC,List.length_range] at this
  exact ⟨ha,by omega⟩
 ·rintro acc i ws H' ts v H2 N hn hi ⟨s,hn',ha,hw⟩ ⟨rfl,rfl⟩ hts hN
  obtain ⟨t0,rfl⟩:∃ t0,ts=[t0]:=by
   match ts,hts with
   | [a],_=>exact ⟨a,rfl⟩
  rw [w_gName,w_yes,if_pos rfl]
  refine hb i _ _ hi s fun p H5 s5 h5=>?_
  have ha5:=s5 _ _ ha
  refine ⟨ha5,hN _ [_] _ rfl ⟨same_upd hn (s.trans s5),hn',upd_same,?_⟩⟩
  rw [List.range_succ,List.map_append]
  exact ((hw.same s5).snoc h5).chgL ha5 (Chg.upd _)
 ·rintro acc ws H' hn ⟨s,_,ha,hw⟩
  exact hd acc ws H' hn s ha hw
end
theorem turnF_cons (m:Nat)(a:List Wd × List Go)(as:List Ar)(r:Ar):turnF m a (r :: as)=turnT m (turnF m a as) r:=by unfold turnF; rw [List.reverse_cons,List.foldl_append]; rfl
end L2
set_option Elab.async false
set_option linter.all false
set_option maxRecDepth 100000
set_option maxHeartbeats 1000000
namespace L2
open PySem PySem.Spec PyProof.Rows
def DeOkU (ins j:Nat)(d:Wd):Prop:=d.a < ins+j /\ d.b < ins+j /\ (d.w = "sum" \/ d.w = "less") /\ 0 <= d.s /\ d.s <= 40 /\ 0 <= d.t /\ d.t <= 40
def GOkU (n:Nat)(g:Go):Prop:=g.th < n /\ 0 <= g.sh /\ g.sh <= 40 /\ SgOk g
section
variable {H:Hp}{p dl gl a:Addr}{ins k n j:Nat}{us os:List V}{ds:List Wd}{gs:List Go}{H' H'':Hp}{c:Int}
end
def mu40 (n:Nat):List Int:=(List.range n).map fun (j:Nat)=>40 * (j:Int)
theorem mu40_at {n k:Nat}(h:k < n):(mu40 n).getD k 0=40 * (k:Int):=by
 refine getD_of ?_
 unfold mu40
 rw [qI,List.getElem?_range h]
 rfl
theorem tw_of {ins:Nat}{ds:List Wd}{gs:List Go}(i1:1 <= ins)(i2:ins <= 12)(hd:ds.length <= 30)(hg:gs.length <= 12)(dk:∀ (j:Nat) (d:Wd),ds[j]? = some d -> DeOkU ins j d)(gk:∀ g ∈ gs,GOkU (ins+ds.length) g):TW ins ds gs (mu40 (ins+ds.length)) (40 * ((ins+ds.length:Nat):Int)+40):=by
 refine ⟨⟨i1,i2,fun k d h=>⟨(dk k d h).1,(dk k d h).2.1,(dk k d h).2.2.1⟩,fun g h=>(gk g h).1,by omega,hg⟩,fun g h=>(gk g h).2.2.2,⟨by unfold mu40; simp,fun k=>?_,fun k d h=>?_,fun g h=>?_⟩,by omega⟩
 ·by_cases z:k < ins+ds.length
  ·rw [mu40_at z]; omega
  ·rw [qD,List.getElem?_eq_none (by unfold mu40; simp; omega)]
   show 0 <= (0:Int) /\ (0:Int) <= _
   omega
 ·have kl:=(qB.mp h).1
  obtain ⟨c1,c2,_,c4,c5,c6,c7⟩:=dk k d h
  rw [mu40_at (by omega),mu40_at (by omega),mu40_at (by omega)]
  omega
 ·obtain ⟨c1,c2,c3,_⟩:=gk g h
  rw [mu40_at c1]
  exact ⟨c2,fun _=>by omega⟩
end L2
set_option Elab.async false
set_option linter.all false
set_option maxRecDepth 100000
set_option maxHeartbeats 1000000
namespace L2
open PySem PySem.Spec PyProof.Rows
section
variable {K:PySem.W.Frag}{σ:St}{H:Hp}{Q:VK}{cs:List Nat}{tt:TT}
end
end L2
set_option Elab.async false
set_option linter.all false
set_option maxRecDepth 100000
set_option maxHeartbeats 1000000
namespace L2
open PySem PySem.Spec PyProof.Rows
section
variable {K:PySem.W.Frag}{σ:St}{H:Hp}{Q:VK}{cs:List Nat}{te:TE}
end
end L2
set_option Elab.async false
set_option linter.all false
set_option maxRecDepth 100000
set_option maxHeartbeats 1000000
namespace L2
open PySem PySem.Spec PyProof.Rows
end L2
set_option Elab.async false
set_option linter.all false
set_option maxRecDepth 100000
set_option maxHeartbeats 1000000
namespace L2
open PySem PySem.Spec PyProof.Rows
end L2
set_option Elab.async false
set_option linter.all false
set_option maxRecDepth 100000
set_option maxHeartbeats 1000000
namespace L2
open PySem PySem.Spec PyProof.Rows
section
variable {prog:Program}{w:World}{A:Around}{E:Value -> Shared -> Prop}{s:Shared}
end
end L2
set_option Elab.async false
set_option linter.all false
set_option maxRecDepth 100000
set_option maxHeartbeats 1000000
namespace L2
open PySem PySem.Spec PyProof.Rows
end L2
set_option Elab.async false
set_option linter.all false
set_option maxRecDepth 100000
set_option maxHeartbeats 1000000
namespace L2
open PySem PySem.Spec PyProof.Rows
end L2
set_option Elab.async false
set_option linter.all false
set_option maxRecDepth 100000
set_option maxHeartbeats 1000000
namespace L2
open PySem PySem.Spec PyProof.Rows
section
variable {K:PySem.W.Frag}{H:Hp}
end
end L2
set_option Elab.async false
set_option linter.all false
set_option maxRecDepth 100000
set_option maxHeartbeats 1000000
namespace L2
open PySem PySem.Spec PyProof.Rows
end L2
set_option Elab.async false
set_option linter.all false
set_option maxRecDepth 100000
set_option maxHeartbeats 1000000
namespace L2
open PySem PySem.Spec PyProof.Rows
end L2
set_option Elab.async false
set_option linter.all false
set_option maxRecDepth 100000
set_option maxHeartbeats 1000000
namespace L2
open PySem PySem.Spec PyProof.Rows
end L2
set_option Elab.async false
set_option linter.all false
set_option maxRecDepth 100000
set_option maxHeartbeats 1000000
namespace L2
open PySem PySem.Spec PyProof.Rows
@[elab_as_elim] theorem abs_ {C:Hp -> Prop} {H:Hp} {p:Addr} {o:HO} (np:H p=none) (k:∀ H',Same H H' -> H' p=some o -> C H'):C (upd H p o):=k _ (same_new np _) upd_same
def NoT (H:Hp)(v:V):Prop:=flatV v=true \/ ∃ p,v = .ref p /\ ((∃ xs,H p=some (.lst xs)) \/ ∃ kvs,H p=some (.dK kvs))
section
variable {K:PySem.W.Frag}{H:Hp}
end
end L2
set_option Elab.async false
set_option linter.all false
set_option maxRecDepth 100000
set_option maxHeartbeats 1000000
namespace L2
open PySem PySem.Spec PyProof.Rows
section
variable {X:Cx}{o i:Expr}{pos:Pos}{td ty:TE}
end
section
variable {σ:St}{H:Hp}{Q:VK}{a:Addr}
end
section
variable {α:Type}
def lk (rows:List (Int × α))(c:Int):Option α:=(rows.find? fun r=>decide (r.1=c)).map (·.2)
variable {R:V -> α -> Prop}{kvs:List (Key × V)}{rows:List (Int × α)}
end
end L2
set_option Elab.async false
set_option linter.all false
set_option maxRecDepth 100000
set_option maxHeartbeats 1000000
namespace L2
open PySem PySem.Spec PyProof.Rows
section
variable {σ:St}{H:Hp}{D:Ends}{g:TG}{tb:TS}{d:Addr}{o:Obj}{kvs:List (Key × V)}
end
section
variable {L:Nat}{n:Int}
end
end L2
set_option Elab.async false
set_option linter.all false
set_option maxRecDepth 100000
set_option maxHeartbeats 1000000
namespace L2
open PySem PySem.Spec PyProof.Rows
section
variable {X:Cx}
end
end L2
set_option Elab.async false
set_option linter.all false
set_option maxRecDepth 100000
set_option maxHeartbeats 1000000
namespace L2
open PySem PySem.Spec PyProof.Rows PySem.W
section
variable {prog:Program}{w:World}{A:Around}{E:Value -> Shared -> Prop}{s:Shared}{vs:List Value}{xss:List (List Int)}{a:Addr}
end
end L2
set_option Elab.async false
set_option linter.all false
set_option maxRecDepth 100000
set_option maxHeartbeats 1000000
namespace L2
open PySem PySem.Spec PyProof.Rows
end L2
set_option Elab.async false
set_option linter.all false
set_option maxRecDepth 100000
set_option maxHeartbeats 1000000
namespace L2
open PySem PySem.Spec PyProof.Rows PySem.W
section
variable {prog:Program}{w:World}{A:Around}{E:Value -> Shared -> Prop}{κ:SortKind}{it:Array Keyed}{vs:List Value}{s:Shared}
variable {xss:List (List Int)}{a:Addr}
end
end L2
set_option Elab.async false
set_option linter.all false
set_option maxRecDepth 100000
set_option maxHeartbeats 1000000
namespace L2
open PySem PySem.Spec PyProof.Rows
end L2
set_option Elab.async false
set_option linter.all false
set_option maxRecDepth 100000
set_option maxHeartbeats 1000000
namespace L2
open PySem PySem.Spec PyProof.Rows
section
variable {prog:Program}{w:World}{A:Around}{E:Value -> Shared -> Prop}
end
end L2
set_option Elab.async false
set_option linter.all false
set_option maxRecDepth 100000
set_option maxHeartbeats 1000000
namespace L2
open PySem PySem.Spec PyProof.Rows
inductive Tg where
 | f (x:V)
 | l (xs:List Tg)
 | t (xs:List Tg)
 | d (xs:List Tg)
section
variable {X:Cx}{pins:List (Addr × Obj)}{σ:St}{H:Hp}{s:Shared}
end
abbrev FSt:=Int × Int × Int
def mx1 (d st:Int):Int:=(d+40692 * st * st+69621 * st) % 2147483647
def mx2 (m st:Int):Int:=(m * m+39373 * m+st) % 2147483579
def mx3 (m:Int):Int:=(m * m+16807 * m) % 2147483549
def tkS (m:Int)(s:FSt):Int × FSt:=if s.1 > 0 then (s.1 % m,(s.1 / m,s.2.1,s.2.2)) else (mx3 (mx2 (mx1 s.2.1 (s.2.2+1)) (s.2.2+1)) / 64 % m,(s.1,s.2.1,s.2.2+1))
def tk:Nat -> Int -> FSt -> Int × FSt
 | 0,_,s=>(0,s)
 | n+1,m,s=>if m > 10000000 then (((tk n (m / 1000000+1) s).1 * 1000000+(tk n 1000000 (tk n (m / 1000000+1) s).2).1) % m,(tk n 1000000 (tk n (m / 1000000+1) s).2).2) else tkS m s
def pk (xs:List Int)(i:Int):Int:=xs.getD i.toNat 0
def pkV (xs:List V)(i:Int):V:=xs.getD i.toNat .non
def txs:List V:=[.str (Str.ofString ""),.str (Str.ofString "0"),.str (Str.ofString "7"),.str (Str.ofString "-1"),.str (Str.ofString "True"),.str (Str.ofString "None")]
def flt (way:Int)(s:FSt):Tg × FSt :=
 if way < 3 then (.f (.int (tk 10 (pk [3,1000,10 ^ 60] way) s).1),(tk 10 (pk [3,1000,10 ^ 60] way) s).2)
 else if way < 5 then (.f (.int (-(tk 10 (pk [9,10 ^ 60] (way - 3)) s).1)),(tk 10 (pk [9,10 ^ 60] (way - 3)) s).2)
 else if way=5 then (.f (pkV [.bl true,.bl false,.non] (tk 10 3 s).1),(tk 10 3 s).2)
 else (.f (pkV txs (tk 10 6 s).1),(tk 10 6 s).2)
section
variable {σ:St}{H:Hp}{Q:VK}{cs:List Nat}{te:TE}
end
section
variable {σ:St}{H:Hp}{Q:VK}{cs:List Nat}{te:TE}
end
end L2
set_option Elab.async false
set_option linter.all false
set_option maxRecDepth 100000
set_option maxHeartbeats 1000000
namespace L2
open PySem PySem.Spec PyProof.Rows PySem.W
end L2
set_option Elab.async false
set_option linter.all false
set_option maxRecDepth 100000
set_option maxHeartbeats 1000000
namespace L2
open PySem PySem.Spec PyProof.Rows PySem.W
section
variable {σ:St}{H:Hp}{Q:VK}{cs:List Nat}{te:TE}{K:PySem.W.Frag}
end
end L2
set_option Elab.async false
set_option linter.all false
set_option maxRecDepth 100000
set_option maxHeartbeats 1000000
namespace L2
open PySem PySem.Spec PyProof.Rows PySem.W
end L2
set_option Elab.async false
set_option linter.all false
set_option maxRecDepth 100000
set_option maxHeartbeats 1000000
namespace L2
open PySem PySem.Spec PyProof.Rows PySem.W
section
variable {prog:Program}{w:World}{A:Around}{E:Value -> Shared -> Prop}{s:Shared}
end
section
variable {prog:Program}{w:World}{d:Addr}{es:Array DictEntry}{ep:Nat}
end
end L2
set_option Elab.async false
set_option linter.all false
set_option maxRecDepth 100000
set_option maxHeartbeats 1000000
namespace L2
open PySem PySem.Spec PyProof.Rows PySem.W
section
variable {prog:Program}{w:World}{A:Around}{E:Value -> Shared -> Prop}{s:Shared}
end
end L2
set_option Elab.async false
set_option linter.all false
set_option maxRecDepth 100000
set_option maxHeartbeats 1000000
namespace L2
open PySem PySem.Spec PyProof.Rows PySem.W
section
variable {σ:St}{H:Hp}{Q:VK}{cs:List Nat}{te:TE}{K:PySem.W.Frag}
end
end L2
set_option Elab.async false
set_option linter.all false
set_option maxRecDepth 100000
set_option maxHeartbeats 1000000
namespace L2
open PySem PySem.Spec PyProof.Rows
section
variable {X:Cx}{e:Expr}{es:List Expr}{te:TE}{tj:Str -> TE}{pos:Pos}
def figI (i:Int):Str:=Str.ofString (toString i)
end
section
variable {X:Cx}
end
section
variable {X:Cx}
end
end L2
set_option Elab.async false
set_option linter.all false
set_option maxRecDepth 100000
set_option maxHeartbeats 1000000
namespace L2
open PySem PySem.Spec PyProof.Rows
section
variable {K:PySem.W.Frag}{σ:St}{H:Hp}{Q:VK}{cs:List Nat}{te:TE}
end
def fig (n:Nat):Str:=figI n
section
variable {K:PySem.W.Frag}{H:Hp}{Q:VK}
end
@[elab_as_elim] theorem absU {C:Hp -> Prop} {H H2:Hp} {p:Addr} {o:HO} (np:H p=none) (s:Same H H2) (k:∀ H',Same H H' -> H' p=some o -> C H'):C (upd H2 p o):=k _ (same_upd np s) upd_same
def stS (n:Nat)(l:List Str):Str:=Builtin.Str.glued "\n" (("in " ++ fig n) :: l)
end L2
set_option Elab.async false
set_option linter.all false
set_option maxRecDepth 100000
set_option maxHeartbeats 1000000
namespace L2
open PySem PySem.Spec PyProof.Rows
end L2
set_option Elab.async false
set_option linter.all false
set_option maxRecDepth 100000
set_option maxHeartbeats 1000000
namespace L2
open PySem PySem.Spec PyProof.Rows PySem.W
section
variable {X:Cx}{o i e value:Expr}{pos pos' tpos:Pos}{td ty tv:TE}
end
section
variable {σ:St}{H:Hp}{Q:VK}{D:Ends}{a b:Addr}{v:V}{R:Hp -> Prop}
end
end L2
set_option Elab.async false
set_option linter.all false
set_option maxRecDepth 100000
set_option maxHeartbeats 1000000
namespace L2
open PySem PySem.Spec PyProof.Rows PySem.W
end L2
set_option Elab.async false
set_option linter.all false
set_option maxRecDepth 100000
set_option maxHeartbeats 1000000
namespace L2
open PySem PySem.Spec PyProof.Rows PySem.W
end L2
set_option Elab.async false
set_option linter.all false
set_option maxRecDepth 100000
set_option maxHeartbeats 1000000
namespace L2
open PySem PySem.Spec PyProof.Rows PySem.W
end L2
set_option Elab.async false
set_option linter.all false
set_option maxRecDepth 100000
set_option maxHeartbeats 1000000
namespace L2
open PySem PySem.Spec PyProof.Rows PySem.W
end L2
set_option Elab.async false
set_option linter.all false
set_option maxRecDepth 100000
set_option maxHeartbeats 1000000
namespace L2
open PySem PySem.Spec PyProof.Rows PySem.W
section
variable {K:PySem.W.Frag}{σ:St}{H:Hp}{Q:VK}{cs:List Nat}{te:TE}
end
end L2
set_option Elab.async false
set_option linter.all false
set_option maxRecDepth 100000
set_option maxHeartbeats 1000000
namespace L2
open PySem PySem.Spec PyProof.Rows PySem.W
section
variable {K:PySem.W.Frag}{σ:St}{H:Hp}{Q:VK}{cs:List Nat}{tt:TT}
end
end L2
set_option Elab.async false
set_option linter.all false
set_option maxRecDepth 100000
set_option maxHeartbeats 1000000
namespace L2
open PySem PySem.Spec PyProof.Rows PySem.W
end L2
set_option Elab.async false
set_option linter.all false
set_option maxRecDepth 100000
set_option maxHeartbeats 1000000
namespace L2
open PySem PySem.Spec PyProof.Rows PySem.W
section
variable {K:PySem.W.Frag}{σ:St}{H:Hp}{Q:VK}{cs:List Nat}{te:TE}
end
end L2
set_option Elab.async false
set_option linter.all false
set_option maxRecDepth 100000
set_option maxHeartbeats 1000000
namespace L2
open PySem PySem.Spec PyProof.Rows PySem.W
def mulR (c:Int)(fs:List Int):List Int:=fs.map fun x=>c * x
section
variable {K:PySem.W.Frag}{σ:St}{H:Hp}{Q:VK}{cs:List Nat}{te:TE}{tt:TT}
end
end L2
set_option Elab.async false
set_option linter.all false
set_option maxRecDepth 100000
set_option maxHeartbeats 1000000
namespace L2
open PySem PySem.Spec PyProof.Rows PySem.W
end L2
set_option Elab.async false
set_option linter.all false
set_option maxRecDepth 100000
set_option maxHeartbeats 1000000
namespace L2
open PySem PySem.Spec PyProof.Rows PySem.W
end L2
set_option Elab.async false
set_option linter.all false
set_option maxRecDepth 100000
set_option maxHeartbeats 1000000
namespace L2
open PySem PySem.Spec PyProof.Rows
section
variable {X:Cx}{pins:List (Addr × Obj)}{σ:St}{H:Hp}{s:Shared}
end
end L2
set_option Elab.async false
set_option linter.all false
set_option maxRecDepth 100000
set_option maxHeartbeats 1000000
namespace L2
open PySem PySem.Spec PyProof.Rows PySem.W
section
variable {n:Nat}{ds:List Wd}{gs:List Go}{bs:List Bool}
end
section
variable {n:Nat}{ds:List Wd}{gs:List Go}{bs:List Bool}
end
section
variable {n i:Nat}{R:List (List Int)}{kvs:List (List Key × V)}{es:List Wd}
end
end L2
set_option Elab.async false
set_option linter.all false
set_option maxRecDepth 100000
set_option maxHeartbeats 1000000
namespace L2
open PySem PySem.Spec PyProof.Rows PySem.W
section
variable {K:PySem.W.Frag}{σ:St}{H:Hp}{Q:VK}{cs:List Nat}{te:TE}
end
end L2
set_option Elab.async false
set_option linter.all false
set_option maxRecDepth 100000
set_option maxHeartbeats 1000000
namespace L2
open PySem PySem.Spec PyProof.Rows PySem.W
section
variable {n i:Nat}{R:List (List Int)}{kvs:List (List Key × V)}{es:List Wd}
end
end L2
set_option Elab.async false
set_option linter.all false
set_option maxRecDepth 100000
set_option maxHeartbeats 1000000
namespace L2
open PySem PySem.Spec PyProof.Rows PySem.W
end L2
set_option Elab.async false
set_option linter.all false
set_option maxRecDepth 100000
set_option maxHeartbeats 1000000
namespace L2
open PySem PySem.Spec PyProof.Rows PySem.W
section
variable {n i:Nat}{ds:List Wd}{gs:List Go}{ms:List Nat}
end
end L2
set_option Elab.async false
set_option linter.all false
set_option maxRecDepth 100000
set_option maxHeartbeats 1000000
namespace L2
open PySem PySem.Spec PyProof.Rows PySem.W
end L2
set_option Elab.async false
set_option linter.all false
set_option maxRecDepth 100000
set_option maxHeartbeats 1000000
namespace L2
open PySem PySem.Spec PyProof.Rows PySem.W
section
variable {K:PySem.W.Frag}{σ:St}{H:Hp}{Q:VK}{cs:List Nat}{te:TE}
end
end L2
set_option Elab.async false
set_option linter.all false
set_option maxRecDepth 100000
set_option maxHeartbeats 1000000
namespace L2
open PySem PySem.Spec PyProof.Rows
def spShIn4:Sp:=fun vs H Q _=>∃ x s w:Int,vs=[.int x,.int s,.int w] /\ -4000 <= s /\ s <= 4000 /\ 1 <= w /\ w <= 3000 /\ x.natAbs < 2 ^ 9000 /\ Q (.int (shIn w s x)) H
structure Dk4 (ins:Nat) (ds:List Wd):Prop where
 dk:∀ (k:Nat) (d:Wd),ds[k]? = some d -> d.a < ins+k /\ d.b < ins+k /\ -4000 <= d.s /\ d.s <= 4000 /\ -4000 <= d.t /\ d.t <= 4000 /\ (d.w = "sum" \/ d.w = "less")
 dl:ds.length <= 60
def GoIn4 (n:Nat)(gs:List Go):Prop:=∀ g ∈ gs,g.th < n /\ -4000 <= g.sh /\ g.sh <= 4000 /\ (g.sg=0 \/ g.sg=1 \/ g.sg = -1)
def spRunInK (K:PySem.W.Frag):Sp:=fun vs H Q _=>∃ (x v dl gl:Addr) (us:List V) (ds:List Wd) (os:List V) (gs:List Go) (xs:List Int) (w:Int),vs=[.ref x,.int w,.ref v] /\ WbK K H x dl gl xs.length us ds os gs /\ H v=some (.lst (xs.map V.int)) /\ Dk4 xs.length ds /\ xs.length <= 12 /\ 1 <= w /\ w <= 3000 /\
 ∀ r H',H r=none -> Same H H' -> H' r=some (.lst ((rinW w xs ds).map V.int)) -> Q (.ref r) H'
def spOutsInK (K:PySem.W.Frag):Sp:=fun vs H Q _=>∃ (x v dl gl:Addr) (us:List V) (ds:List Wd) (os:List V) (gs:List Go) (xs:List Int) (w:Int),vs=[.ref x,.int w,.ref v] /\ WbK K H x dl gl xs.length us ds os gs /\ H v=some (.lst (xs.map V.int)) /\ Dk4 xs.length ds /\ xs.length <= 12 /\ 1 <= w /\ w <= 3000 /\ gs.length <= 12 /\ GoIn4 (xs.length+ds.length) gs /\
 ∀ r H',H r=none -> Same H H' -> H' r=some (.lst ((gs.map (outIn w (rinW w xs ds))).map V.int)) -> Q (.ref r) H'
theorem rin_small4 {w:Int}{xs:List Int}{ds:List Wd}(w1:1 <= w)(w2:w <= 3000)(hD:Dk4 xs.length ds):∀ y ∈ rinW w xs ds,y.natAbs < 2 ^ 9000:=by
 have dk2:∀ (k:Nat) (d:Wd),ds[k]? = some d -> d.a < (xs.map fun n=>wrI n w).length+k /\ d.b < (xs.map fun n=>wrI n w).length+k:=fun k d hd=>by
  obtain ⟨a,b,_⟩:=hD.dk k d hd
  rw [qC]
  exact ⟨a,b⟩
 have:=vG_all (g:=gIn w) (z:=0) dk2 (fun y=>y.natAbs < 2 ^ 9000) (fun y hy=>by
  obtain ⟨n,_,rfl⟩:=qP.mp hy
  exact wr_small w1 w2) (fun k d u v _ _ _=>wr_small w1 w2) ds.length (Nat.le_refl _)
 rwa [List.take_length] at this
theorem FW4.dk4 {ins:Nat}{ds:List Wd}{gs:List Go}(F:FW4 ins ds gs):Dk4 ins ds:=⟨fun k d hd=>by
 obtain ⟨a,b,c,e⟩:=F.sh k d hd
 exact ⟨a,b,c.1,c.2.1,e.1,e.2.1,(F.ok.dk k d hd).2.2⟩,F.ok.dl⟩
theorem FW4.gin {ins:Nat}{ds:List Wd}{gs:List Go}(F:FW4 ins ds gs):GoIn4 (ins+ds.length) gs:=fun g hg=>by
 refine ⟨F.ok.gk g hg,?_⟩
 rcases F.go g hg with z | z
 ·rw [z]; exact ⟨by decide,by decide,.inl rfl⟩
 ·exact ⟨z.2.1,z.2.2.1,.inr z.1⟩
theorem Eqm.refl (b x:Int):Eqm b x x:=by
 show _ ∣ _
 rw [Int.sub_self]
 exact Int.dvd_zero _
theorem Eqm.mulR {b x y:Int}(h:Eqm b x y)(k:Int):Eqm b (x * k) (y * k):=by
 show _ ∣ x * k - y * k
 rw [← Int.sub_mul]
 exact Int.dvd_trans h (Int.dvd_mul_right _ _)
theorem shIn_up {w s u:Int}(h:1 <= w)(hs:0 <= s):Eqm w (shIn w s (wrI u w)) (mvI s u):=by
 unfold shIn
 rw [if_pos hs,mvI_up hs]
 exact (Eqm.wr h (Int.le_refl _)).trans ((Eqm.wr h (Int.le_refl _)).mulR _)
theorem rin_upT {w:Int}{xs:List Int}{ds:List Wd}(h1:1 <= w)(dk:∀ (k:Nat) (d:Wd),ds[k]? = some d -> d.a < xs.length+k /\ d.b < xs.length+k)(up:∀ d ∈ ds,0 <= d.s /\ 0 <= d.t):∀ i,i <= ds.length -> rinW w xs (ds.take i)=(valsW xs (ds.take i)).map fun x=>wrI x w
 | 0,_=>by rw [List.take_zero]; rfl
 | i+1,hi=>by
  have ed:=qA (l:=ds) (i:=i) (by omega)
  have hm:=qE ed
  generalize ds[i]'(by omega)=d at ed hm
  obtain ⟨a,b⟩:=dk i d ed
  obtain ⟨u1,u2⟩:=up d hm
  have vl:(valsW xs (ds.take i)).length=xs.length+i:=by rw [valsW_len,qO]; omega
  rw [rinW_take h1 ed,rin_upT h1 dk up i (by omega),valsW_take ed,List.map_append]
  congr 1
  rw [List.map_singleton,getD_map (f:=fun x=>wrI x w) (a:=0) (by omega),getD_map (f:=fun x=>wrI x w) (a:=0) (by omega)]
  congr 1
  unfold valD
  exact wr_eq h1 ((shIn_up h1 u1).add (shIn_up h1 u2) _)
theorem rin_up {w:Int}{xs:List Int}{ds:List Wd}(h1:1 <= w)(dk:∀ (k:Nat) (d:Wd),ds[k]? = some d -> d.a < xs.length+k /\ d.b < xs.length+k)(up:∀ d ∈ ds,0 <= d.s /\ 0 <= d.t):rinW w xs ds=(valsW xs ds).map fun x=>wrI x w:=by
 have:=rin_upT h1 dk up ds.length (Nat.le_refl _)
 rwa [List.take_length] at this
theorem outIn_up {w:Int}{xs:List Int}{ds:List Wd}{g:Go}(h1:1 <= w)(dk:∀ (k:Nat) (d:Wd),ds[k]? = some d -> d.a < xs.length+k /\ d.b < xs.length+k)(up:∀ d ∈ ds,0 <= d.s /\ 0 <= d.t)(gt:g.th < xs.length+ds.length)(gs:0 <= g.sh):outIn w (rinW w xs ds) g=wrI (outV (valsW xs ds) g) w:=by
 unfold outIn outV
 rw [rin_up h1 dk up,getD_map (f:=fun x=>wrI x w) (a:=0) (by rw [valsW_len]; exact gt)]
 refine wr_eq h1 ?_
 have:=(Eqm.refl w 0).add (shIn_up (u:=(valsW xs ds).getD g.th 0) h1 gs) g.sg
 rwa [Int.zero_add,Int.zero_add] at this
theorem rin_wr {w:Int}{ys:List Int}{ds:List Wd}(h1:1 <= w):rinW w (ys.map fun x=>wrI x w) ds=rinW w ys ds:=by
 unfold rinW
 congr 1
 rw [List.map_map]
 refine List.map_congr_left fun x _=>?_
 exact wr_eq h1 (Eqm.wr h1 (Int.le_refl _))
section
variable {ins m:Nat}{s1 s2:List Wd}{t1 t2:List Go}
theorem outs_up {w:Int}{xs:List Int}(h1:1 <= w){ds:List Wd}{gs:List Go}(dk:∀ (k:Nat) (d:Wd),ds[k]? = some d -> d.a < xs.length+k /\ d.b < xs.length+k)(gk:∀ g ∈ gs,g.th < xs.length+ds.length)(lo:lowOk ds gs):gs.map (outIn w (rinW w xs ds))=(gs.map (outV (valsW xs ds))).map fun x=>wrI x w:=by
 rw [List.map_map]
 refine List.map_congr_left fun g hg=>?_
 exact outIn_up h1 dk lo.1 (gk g hg) (lo.2 g hg)
theorem beh_in {w:Int}(w1:1 <= w)(F1:FWeb ins s1 t1)(F2:FWeb m s2 t2)(hm:t1.length=m)(h60:s1.length+s2.length <= 60){xs:List Int}(hl:xs.length=ins)(hx:∀ x ∈ xs,x.natAbs <= 2 ^ 300)(l1:lowOk s1 t1)(l2:lowOk s2 t2) :
  (behO ins s1 s2 t1 t2).map (outIn w (rinW w xs (behD ins s1 s2 t1)))=t2.map (outIn w (rinW w (t1.map (outIn w (rinW w xs s1))) s2)):=by
 obtain ⟨V,G,E⟩:=beh_run F1 F2 hm h60 hl hx
 have yl:(ysW xs s1 t1).length=m:=by rw [ys_len,hm]
 rw [outs_up w1 (fun k d h=>⟨(V.dk k d h).1,(V.dk k d h).2.1⟩) (fun g hg=>(G g hg).1) (beh_low l1 l2),E]
 rw [outs_up (xs:=xs) w1 (fun k d h=>by rw [hl]; exact ⟨(F1.ok.dk k d h).1,(F1.ok.dk k d h).2.1⟩) (fun g hg=>by rw [hl]; exact F1.ok.gk g hg) l1]
 show _=t2.map (outIn w (rinW w ((ysW xs s1 t1).map fun x=>wrI x w) s2))
 rw [rin_wr w1]
 rw [outs_up w1 (fun k d h=>by rw [yl]; exact ⟨(F2.ok.dk k d h).1,(F2.ok.dk k d h).2.1⟩) (fun g hg=>by rw [yl]; exact F2.ok.gk g hg) l2]
end
section
variable {ins:Nat}{ds:List Wd}{gs:List Go}{μ:List Int}{B:Int}
def totT (M:List (List Int))(ys:List Int)(i:Nat):Int:=(List.zipWith (fun r y=>r.getD i 0 * y) M ys).sum
theorem tot_dot (i:Nat):∀ (M:List (List Int)) (ys:List Int),totT M ys i=dotW ys (colM M i)
 | [],ys=>by unfold totT colM; cases ys <;> rfl
 | r :: M,[]=>by unfold totT colM; rfl
 | r :: M,y :: ys=>by
  have:=tot_dot i M ys
  unfold totT at this ⊢
  unfold colM at this ⊢
  rw [List.zipWith_cons_cons,List.sum_cons,this,List.map_cons]
  show r.getD i 0 * y+_=y * r.getD i 0+_
  rw [Int.mul_comm]
theorem TW.outv (T:TW ins ds gs μ B)(hm:0 < gs.length){ys:List Int}(hy:ys.length=gs.length):(trnO ins ds gs).map (outV (valsW ys (trnD ins ds gs)))=(List.range ins).map (totT (outsR ins ds gs) ys):=by
 have dk:∀ (k:Nat) (d:Wd),ds[k]? = some d -> d.a < ins+k /\ d.b < ins+k:=fun k d h=>⟨(T.ok.dk k d h).1,(T.ok.dk k d h).2.1⟩
 have ol:=trnO_len T
 have zl:(zF (zs0 (ins+ds.length) ys) (allA ins ds gs)).length=ins+ds.length+gs.length:=by rw [zF_len]; unfold zs0; rw [qF,qL,hy]
 have V:=(T.val hm hy).2
 refine List.ext_getElem? fun i=>?_
 rw [qI,qI]
 by_cases z:i < ins
 ·have ei:=qA (l:=trnO ins ds gs) (i:=i) (by omega)
  rw [ei,List.getElem?_range z]
  generalize (trnO ins ds gs)[i]'(by omega)=g at ei
  show some (outV (valsW ys (trnD ins ds gs)) g)=some (totT (outsR ins ds gs) ys i)
  refine congrArg some ?_
  have t1:((trn ins ds gs).2.map (outV (valsW ys (trnD ins ds gs)))).getD i 0=outV (valsW ys (trnD ins ds gs)) g:=by
   refine getD_of ?_
   unfold trnO at ei
   rw [List.getElem?_take,if_pos z] at ei
   rw [qI,ei]
   rfl
  rw [V] at t1
  rw [← t1,← dot_unitR (n:=ins) z (by rw [zl]; omega)]
  have adj:=turn_adj (xs:=unitRow ins i) (ys:=ys) (ds:=ds) (gs:=gs) (fun k d hd=>by
   rw [unitRow_len]
   exact ⟨(dk k d hd).1,(dk k d hd).2,(T.pot.dk k d hd).1,(T.pot.dk k d hd).2.1⟩) (fun h hh=>by
   rw [unitRow_len]
   exact ⟨T.ok.gk h hh,(T.pot.gk h hh).1⟩) hy
  rw [unitRow_len] at adj
  rw [adj,tot_dot]
  congr 1
  unfold colM outsR
  rw [List.map_map]
  refine List.map_congr_left fun g hg=>?_
  exact (outR_col dk (T.ok.gk g hg) z).symm
 ·rw [List.getElem?_eq_none (l:=trnO ins ds gs) (by omega),List.getElem?_eq_none (l:=List.range ins) (by rw [List.length_range]; omega)]
  rfl
theorem TW.outin (T:TW ins ds gs μ B)(hm:0 < gs.length)(h60:gs.length+ds.length <= 60){ys:List Int}(hy:ys.length=gs.length){w:Int}(w1:1 <= w):(trnO ins ds gs).map (outIn w (rinW w ys (trnD ins ds gs)))=(List.range ins).map fun i=>wrI (totT (outsR ins ds gs) ys i) w:=by
 obtain ⟨μ',T'⟩:=T.turn hm h60
 rw [outs_up w1 (fun k d h=>by rw [hy]; exact ⟨(T'.ok.dk k d h).1,(T'.ok.dk k d h).2.1⟩) (fun g hg=>by rw [hy]; exact T'.ok.gk g hg) T'.low,T.outv hm hy,List.map_map]
 rfl
end
theorem FWeb.tw {ins:Nat}{ds:List Wd}{gs:List Go}(F:FWeb ins ds gs)(hd:ds.length <= 30)(lo:lowOk ds gs):TW ins ds gs (mu40 (ins+ds.length)) (40 * ((ins+ds.length:Nat):Int)+40):=by
 refine tw_of F.ok.i1 F.ok.i2 hd F.ok.gl (fun j d h=>?_) (fun g hg=>?_)
 ·obtain ⟨a,b,c,e⟩:=F.sh j d h
  obtain ⟨u1,u2⟩:=lo.1 d (qE h)
  exact ⟨a,b,(F.ok.dk j d h).2.2,u1,c.2.1,u2,e.2.1⟩
 ·refine ⟨F.ok.gk g hg,lo.2 g hg,?_,?_⟩
  ·rcases F.go g hg with z | z
   ·rw [z]; decide
   ·exact z.2.2.1
  ·rcases F.go g hg with z | z
   ·exact .inl z
   ·exact .inr z.1
theorem allN_lie {ds:List Wd}{gs:List Go}(F:FWeb 1 ds gs)(hd:ds.length <= 20){v:Int}(hv:v.natAbs < 2 ^ 100):∀ n ∈ allN ds gs,Lies 3000 (n * v):=fun n hn=>by
 have vb:∀ x ∈ valsW [1] ds,x.natAbs <= 2 ^ (41 * ds.length):=fun x hx=>(F.rb [x] (by rw [rows_one F]; exact qP.mpr ⟨x,hx,rfl⟩)).2 x (List.mem_singleton.mpr rfl)
 have nb:n.natAbs <= 2 ^ 1000:=by
  unfold allN at hn
  rcases List.mem_append.mp hn with z | z
  ·exact Nat.le_trans (vb n z) (qN (by decide) (by omega))
  ·obtain ⟨g,hg,rfl⟩:=qP.mp z
   have hth:=F.ok.gk g hg
   have hsg:(-40 <= g.sh /\ g.sh <= 40) /\ (g.sg=0 \/ g.sg=1 \/ g.sg = -1):=by
    rcases F.go g hg with z | z
    ·rw [z]; exact ⟨⟨by decide,by decide⟩,.inl rfl⟩
    ·exact ⟨⟨z.2.1,z.2.2.1⟩,.inr z.1⟩
   obtain ⟨x,e1,e2,e3⟩:=valsW_at (xs:=[1]) (ds:=ds) hth
   have b:=mvI_bound hsg.1.1 hsg.1.2 (vb x e3)
   have b2:(mvI g.sh x).natAbs <= 2 ^ 1000:=Nat.le_trans b (qN (by decide) (by omega))
   unfold outN
   rw [e2]
   rcases hsg.2 with z | z | z <;> rw [z]
   ·rw [Int.zero_mul]; exact Nat.zero_le _
   ·rw [Int.one_mul]; exact b2
   ·rw [Int.neg_mul,Int.one_mul,Int.natAbs_neg]; exact b2
 have p:(n * v).natAbs < 2 ^ 2999:=by
  rw [Int.natAbs_mul]
  refine Nat.lt_of_le_of_lt (Nat.mul_le_mul nb (Nat.le_of_lt hv)) ?_
  rw [← Nat.pow_add]
  exact Nat.pow_lt_pow_right (by decide) (by decide)
 have e3:(((2:Nat) ^ 2999:Nat):Int)=(2:Int) ^ 2999:=by push_cast; rfl
 unfold Lies
 show -((2:Int) ^ 2999) <= _ /\ _ < (2:Int) ^ 2999
 rw [← e3]
 omega
def WidIs (ds:List Wd)(gs:List Go)(lo hi v:Int):Prop:=1 <= v /\ ∀ w,1 <= w -> (v <= w ↔ (∀ n ∈ allN ds gs,Lies w (n * lo)) /\ ∀ n ∈ allN ds gs,Lies w (n * hi))
theorem wid_is {ds:List Wd}{gs:List Go}(F:FWeb 1 ds gs){lo hi v:Int}(h1:v ∈ (endsI (allR 1 ds gs) [(lo,hi)]).map widI)(h2:∀ y ∈ (endsI (allR 1 ds gs) [(lo,hi)]).map widI,y <= v):WidIs ds gs lo hi v:=by
 obtain ⟨e,he,rfl⟩:=qP.mp h1
 refine ⟨wid_pos e,fun w w1=>?_⟩
 rw [← ends_one F]
 constructor
 ·intro z y hy
  exact (wid_le w1).mp (Int.le_trans (h2 _ (qP.mpr ⟨y,hy,rfl⟩)) z)
 ·intro z
  exact (wid_le w1).mpr (z e he)
theorem sur_up {w:Int}{ins:Nat}{ds:List Wd}(w1:1 <= w)(dk:∀ (k:Nat) (d:Wd),ds[k]? = some d -> d.a < ins+k /\ d.b < ins+k)(up:∀ d ∈ ds,0 <= d.s /\ 0 <= d.t):surW w ins ds=qQ (surW w ins ds).length w:=by
 have dk2:∀ (k:Nat) (d:Wd),ds[k]? = some d -> d.a < (qQ ins w).length+k /\ d.b < (qQ ins w).length+k:=fun k d hd=>by
  rw [qL]
  exact dk k d hd
 have:=vG_all (g:=gSu) (z:=w) dk2 (fun v=>v=w) (fun v hv=>List.eq_of_mem_replicate hv) (fun k d x y hd hx hy=>by
  obtain ⟨u1,u2⟩:=up d (qE hd)
  show min (min w (max 0 (x+d.s))) (max 0 (y+d.t))=w
  omega) ds.length (Nat.le_refl _)
 rw [List.take_length] at this
 exact List.eq_replicate_of_mem this
theorem rep_w59 (n:Nat)(w:Int):(qQ n [V.int w]).flatten=(qQ n w).map V.int:=by
 induction n with
 | zero=>rfl
 | succ n ih=>rw [List.replicate_succ,List.replicate_succ,List.flatten_cons,ih]; rfl
def spWeb59 (K:PySem.W.Frag):Sp:=fun vs H Q _=>∃ (p a:Addr) (ns:List Int) (c:Int) (ins n:Nat) (db:Bool),vs=[.ref p,.int ins,.int n,.bl db] /\ PPen H p a c /\ Scr K H a ns /\ ns.length <= 63 /\ c <= 1000000 /\ 1 <= ins /\ ins <= 12 /\ n <= 12 /\
 ∀ (w dl gl:Addr) (us:List V) (ds:List Wd) (os:List V) (gs:List Go) H',H w=none -> H dl=none -> H gl=none -> Wb H' w dl gl ins us ds os gs -> FWeb ins ds gs -> ds.length <= 20 -> gs.length=n -> (db=false -> lowOk ds gs) -> PPen H' p a (c+100000) -> Scr K H' a ns -> Chg p H H' -> Q (.ref w) H'
def spSure59:Sp:=fun vs H Q _=>∃ (x v dl gl:Addr) (us:List V) (ds:List Wd) (os:List V) (gs:List Go) (xs:List Int) (w:Int) (db:Bool),vs=[.ref x,.int w,.ref v,.bl db] /\ Wb H x dl gl xs.length us ds os gs /\ FWeb xs.length ds gs /\ H v=some (.lst (xs.map V.int)) /\ (∀ x ∈ xs,x.natAbs <= 2 ^ 300) /\ 1 <= w /\ w <= 3000 /\ (db=false -> lowOk ds gs) /\ ∀ H',Same H H' -> Q (.bl true) H'
def spBeh59:Sp:=fun vs H Q _=>∃ (x y v d1 g1 d2 g2:Addr) (m:Nat) (u1 u2:List V) (s1 s2:List Wd) (o1 o2:List V) (t1 t2:List Go) (xs:List Int) (w:Int) (db:Bool),vs=[.ref x,.ref y,.int w,.ref v,.bl db] /\ Wb H x d1 g1 xs.length u1 s1 o1 t1 /\ Wb H y d2 g2 m u2 s2 o2 t2 /\ FWeb xs.length s1 t1 /\ FWeb m s2 t2 /\ t1.length=m /\ s1.length <= 20 /\ s2.length <= 20 /\ H v=some (.lst (xs.map V.int)) /\ (∀ x ∈ xs,x.natAbs <= 2 ^ 300) /\ 1 <= w /\ w <= 3000 /\ (db=false -> lowOk s1 t1 /\ lowOk s2 t2) /\ ∀ H',Same H H' -> Q (.bl true) H'
def spRange59 (K:PySem.W.Frag):Sp:=fun vs H Q _=>∃ (p a x dl gl:Addr) (ns:List Int) (c:Int) (us:List V) (ds:List Wd) (os:List V) (gs:List Go) (w:Int),vs=[.ref p,.ref x,.int w] /\ PPen H p a c /\ Scr K H a ns /\ ns.length <= 63 /\ c <= 90000000 /\ Wb H x dl gl 1 us ds os gs /\ dl ≠ p /\ gl ≠ p /\ FWeb 1 ds gs /\ ds.length <= 20 /\ 1 <= w /\ w <= 3000 /\ ∀ H',PPen H' p a (c+1) -> Scr K H' a ns -> Chg p H H' -> Q (.bl true) H'
def spTurn59:Sp:=fun vs H Q _=>∃ (x v dl gl:Addr) (ins:Nat) (us:List V) (ds:List Wd) (os:List V) (gs:List Go) (ys:List Int) (w:Int),vs=[.ref x,.int w,.ref v] /\ Wb H x dl gl ins us ds os gs /\ FWeb ins ds gs /\ ds.length <= 20 /\ 0 < gs.length /\ lowOk ds gs /\ H v=some (.lst (ys.map V.int)) /\ ys.length=gs.length /\ (∀ y ∈ ys,y.natAbs <= 2 ^ 300) /\ 1 <= w /\ w <= 3000 /\ ∀ H',Same H H' -> Q (.bl true) H'
end L2
set_option Elab.async false
set_option linter.all false
set_option maxRecDepth 100000
set_option maxHeartbeats 1000000
namespace L2
open PySem PySem.Spec PyProof.Rows
def advM (m:Nat)(p:SetTable.Probe):SetTable.Probe :=
 if p.more > 0 then { p with j:=p.j+1,more:=p.more - 1 } else
 { p with j:=(p.i * 5+1+p.perturb / 32) % (m+1),more:=SetTable.runEnd m ((p.i * 5+1+p.perturb / 32) % (m+1)) - (p.i * 5+1+p.perturb / 32) % (m+1),i:=(p.i * 5+1+p.perturb / 32) % (m+1),perturb:=p.perturb / 32 }
def pn (m:Nat):Nat -> SetTable.Probe -> SetTable.Probe
 | 0,p=>p
 | n+1,p=>pn m n (advM m p)
def stP (m:Nat)(x:Int):SetTable.Probe:={ j:=SetTable.bits x % (m+1),more:=SetTable.runEnd m (SetTable.bits x % (m+1)) - SetTable.bits x % (m+1),i:=SetTable.bits x % (m+1),perturb:=SetTable.bits x,dummy:=none }
def sl (m:Nat)(x:Int)(n:Nat):Nat:=(pn m n (stP m x)).j
section
variable {led:Bool}{t:SetTable}{es:Array (Int × Value)}
end
end L2
set_option Elab.async false
set_option linter.all false
set_option maxRecDepth 100000
set_option maxHeartbeats 1000000
namespace L2
open PySem PySem.Spec PyProof.Rows
section
variable {prog:Program}{w:World}{ok:Addr -> Prop}{A:Around}{E:Value -> Shared -> Prop}{s:Shared}
end
section
variable {prog:Program}{w:World}{ok:Addr -> Prop}{A:Around}{R:Result -> Shared -> Prop}{I:Addr}{fp wr:List Addr}{G:Array GenState -> Array GenState -> Prop}{P:Nat -> Value -> Prop}{St:Nat -> Shared -> Prop}
end
end L2
set_option Elab.async false
set_option linter.all false
set_option maxRecDepth 100000
set_option maxHeartbeats 1000000
namespace L2
open PySem PySem.Spec PyProof.Rows
section
variable {prog:Program}{w:World}{A:Around}{E:Value -> Shared -> Prop}{s:Shared}
end
end L2
end
section
set_option Elab.async false
set_option linter.all false
set_option maxRecDepth 100000
set_option maxHeartbeats 4000000
namespace Law
open PySem L2
open Option.some renaming injEq → qJs
open L2.HO.tup renaming injEq → qJt
open L2.HO.lst renaming injEq → qJl
open L2.HO.dK renaming injEq → qJd
def top (i:Nat):Stmt:=PySem.Challenge.pw_shiftsums_k59_whole_widths.main.body.getD i (.Pass ⟨0,0,0,0⟩)
abbrev s_shifted:Stmt:=top 5
theorem sc_shifted:FnScope ["number","shift","halved"] ["number","shift"] (defScope s_shifted):=⟨rfl,rfl,rfl,by decide +kernel,rfl,by decide +kernel,by decide +kernel⟩
abbrev s_shifted_row:Stmt:=top 8
theorem sc_shifted_row:FnScope ["row","shift"] ["row","shift"] (defScope s_shifted_row):=⟨rfl,rfl,rfl,by decide +kernel,rfl,by decide +kernel,by decide +kernel⟩
abbrev s_input_rows:Stmt:=top 9
theorem sc_input_rows:FnScope ["ins"] ["ins"] (defScope s_input_rows):=⟨rfl,rfl,rfl,by decide +kernel,rfl,by decide +kernel,by decide +kernel⟩
abbrev s_input_row:Stmt:=top 10
theorem sc_input_row:FnScope ["ins","thing"] ["ins","thing"] (defScope s_input_row):=⟨rfl,rfl,rfl,by decide +kernel,rfl,by decide +kernel,by decide +kernel⟩
abbrev s_deed_row:Stmt:=top 11
theorem sc_deed_row:FnScope ["deed","rows","left","right","sign"] ["deed","rows"] (defScope s_deed_row):=⟨rfl,rfl,rfl,by decide +kernel,rfl,by decide +kernel,by decide +kernel⟩
abbrev s_second_sign:Stmt:=top 12
theorem sc_second_sign:FnScope ["deed"] ["deed"] (defScope s_second_sign):=⟨rfl,rfl,rfl,by decide +kernel,rfl,by decide +kernel,by decide +kernel⟩
abbrev s_numbers:Stmt:=top 13
theorem sc_numbers:FnScope ["web","rows","deed"] ["web"] (defScope s_numbers):=⟨rfl,rfl,rfl,by decide +kernel,rfl,by decide +kernel,by decide +kernel⟩
abbrev s_out_numbers:Stmt:=top 14
theorem sc_out_numbers:FnScope ["web","rows"] ["web"] (defScope s_out_numbers):=⟨rfl,rfl,rfl,by decide +kernel,rfl,by decide +kernel,by decide +kernel⟩
abbrev s_out_row:Stmt:=top 15
theorem sc_out_row:FnScope ["out","rows"] ["out","rows"] (defScope s_out_row):=⟨rfl,rfl,rfl,by decide +kernel,rfl,by decide +kernel,by decide +kernel⟩
abbrev s_arrows:Stmt:=top 16
theorem sc_arrows:FnScope ["web"] ["web"] (defScope s_arrows):=⟨rfl,rfl,rfl,by decide +kernel,rfl,by decide +kernel,by decide +kernel⟩
abbrev s_deed_arrows:Stmt:=top 17
theorem sc_deed_arrows:FnScope ["web","told","place","deed","thing"] ["web"] (defScope s_deed_arrows):=⟨rfl,rfl,rfl,by decide +kernel,rfl,by decide +kernel,by decide +kernel⟩
abbrev s_out_arrows:Stmt:=top 18
theorem sc_out_arrows:FnScope ["web","behind"] ["web"] (defScope s_out_arrows):=⟨rfl,rfl,rfl,by decide +kernel,rfl,by decide +kernel,by decide +kernel⟩
abbrev s_thing_count:Stmt:=top 19
theorem sc_thing_count:FnScope ["web"] ["web"] (defScope s_thing_count):=⟨rfl,rfl,rfl,by decide +kernel,rfl,by decide +kernel,by decide +kernel⟩
abbrev s_wrapped:Stmt:=top 21
theorem sc_wrapped:FnScope ["number","width","half"] ["number","width"] (defScope s_wrapped):=⟨rfl,rfl,rfl,by decide +kernel,rfl,by decide +kernel,by decide +kernel⟩
abbrev s_run_in:Stmt:=top 22
theorem sc_run_in:FnScope ["web","width","values","told","start","goal","shift","sign"] ["web","width","values"] (defScope s_run_in):=⟨rfl,rfl,rfl,by decide +kernel,rfl,by decide +kernel,by decide +kernel⟩
abbrev s_shifted_in:Stmt:=top 23
theorem sc_shifted_in:FnScope ["value","shift","width"] ["value","shift","width"] (defScope s_shifted_in):=⟨rfl,rfl,rfl,by decide +kernel,rfl,by decide +kernel,by decide +kernel⟩
abbrev s_outs_in:Stmt:=top 24
theorem sc_outs_in:FnScope ["web","width","values","told"] ["web","width","values"] (defScope s_outs_in):=⟨rfl,rfl,rfl,by decide +kernel,rfl,by decide +kernel,by decide +kernel⟩
abbrev s_sure:Stmt:=top 25
theorem sc_sure:FnScope ["web","width","told","start","goal","shift","sign"] ["web","width"] (defScope s_sure):=⟨rfl,rfl,rfl,by decide +kernel,rfl,by decide +kernel,by decide +kernel⟩
abbrev s_fits:Stmt:=top 26
theorem sc_fits:FnScope ["web","width","ranges"] ["web","width","ranges"] (defScope s_fits):=⟨rfl,rfl,rfl,by decide +kernel,rfl,by decide +kernel,by decide +kernel⟩
abbrev s_width_for:Stmt:=top 27
theorem sc_width_for:FnScope ["web","ranges","ends","row"] ["web","ranges"] (defScope s_width_for):=⟨rfl,rfl,rfl,by decide +kernel,rfl,by decide +kernel,by decide +kernel⟩
abbrev s_end_of:Stmt:=top 28
theorem sc_end_of:FnScope ["row","ranges","side"] ["row","ranges","side"] (defScope s_end_of):=⟨rfl,rfl,rfl,by decide +kernel,rfl,by decide +kernel,by decide +kernel⟩
abbrev s_width_of:Stmt:=top 29
theorem sc_width_of:FnScope ["number"] ["number"] (defScope s_width_of):=⟨rfl,rfl,rfl,by decide +kernel,rfl,by decide +kernel,by decide +kernel⟩
abbrev s_range_in:Stmt:=top 30
theorem sc_range_in:FnScope ["web","width","half","lows","highs","row"] ["web","width"] (defScope s_range_in):=⟨rfl,rfl,rfl,by decide +kernel,rfl,by decide +kernel,by decide +kernel⟩
abbrev s_parts_of:Stmt:=top 32
theorem sc_parts_of:FnScope ["deed"] ["deed"] (defScope s_parts_of):=⟨rfl,rfl,rfl,by decide +kernel,rfl,by decide +kernel,by decide +kernel⟩
abbrev s_moved:Stmt:=top 33
theorem sc_moved:FnScope ["part","shift","sign"] ["part","shift","sign"] (defScope s_moved):=⟨rfl,rfl,rfl,by decide +kernel,rfl,by decide +kernel,by decide +kernel⟩
abbrev s_deed_of:Stmt:=top 34
theorem sc_deed_of:FnScope ["one","other"] ["one","other"] (defScope s_deed_of):=⟨rfl,rfl,rfl,by decide +kernel,rfl,by decide +kernel,by decide +kernel⟩
abbrev s_sign_of:Stmt:=top 35
theorem sc_sign_of:FnScope ["one","other"] ["one","other"] (defScope s_sign_of):=⟨rfl,rfl,rfl,by decide +kernel,rfl,by decide +kernel,by decide +kernel⟩
abbrev s_add_sum:Stmt:=top 36
theorem sc_add_sum:FnScope ["ins","deeds","one","other"] ["ins","deeds","one","other"] (defScope s_add_sum):=⟨rfl,rfl,rfl,by decide +kernel,rfl,by decide +kernel,by decide +kernel⟩
abbrev s_behind:Stmt:=top 38
theorem sc_behind:FnScope ["one","other","ins","deeds","stands","deed","parts"] ["one","other"] (defScope s_behind):=⟨rfl,rfl,rfl,by decide +kernel,rfl,by decide +kernel,by decide +kernel⟩
abbrev s_moved_parts:Stmt:=top 39
theorem sc_moved_parts:FnScope ["parts","stands"] ["parts","stands"] (defScope s_moved_parts):=⟨rfl,rfl,rfl,by decide +kernel,rfl,by decide +kernel,by decide +kernel⟩
abbrev s_run:Stmt:=top 41
theorem sc_run:FnScope ["web","values","told","start","goal","shift","sign"] ["web","values"] (defScope s_run):=⟨rfl,rfl,rfl,by decide +kernel,rfl,by decide +kernel,by decide +kernel⟩
abbrev s_run_outs:Stmt:=top 42
theorem sc_run_outs:FnScope ["web","values","told"] ["web","values"] (defScope s_run_outs):=⟨rfl,rfl,rfl,by decide +kernel,rfl,by decide +kernel,by decide +kernel⟩
abbrev s_turned:Stmt:=top 44
theorem sc_turned:FnScope ["web","ins","deeds","parts","start","goal","shift","sign"] ["web"] (defScope s_turned):=⟨rfl,rfl,rfl,by decide +kernel,rfl,by decide +kernel,by decide +kernel⟩
abbrev s_refuse_down:Stmt:=top 45
theorem sc_refuse_down:FnScope ["web","place","deed","out"] ["web"] (defScope s_refuse_down):=⟨rfl,rfl,rfl,by decide +kernel,rfl,by decide +kernel,by decide +kernel⟩
abbrev s_l_pen:Stmt:=top 47
theorem sc_l_pen:FnScope ["_law_script"] ["_law_script"] (defScope s_l_pen):=⟨rfl,rfl,rfl,by decide +kernel,rfl,by decide +kernel,by decide +kernel⟩
abbrev s_l_pick:Stmt:=top 48
theorem sc_l_pick:FnScope ["_law_pen_here","_law_many","_law_digit","_law_at","_law_cell","_law_mixed"] ["_law_pen_here","_law_many"] (defScope s_l_pick):=⟨rfl,rfl,rfl,by decide +kernel,rfl,by decide +kernel,by decide +kernel⟩
abbrev s_l_down:Stmt:=top 49
theorem sc_l_down:FnScope ["_law_told","_law_most","_law_number","_law_count"] ["_law_told"] (defScope s_l_down):=⟨rfl,rfl,rfl,by decide +kernel,rfl,by decide +kernel,by decide +kernel⟩
abbrev s_l_part:Stmt:=top 50
theorem sc_l_part:FnScope ["_law_pen_here","_law_told","_law_down_here","_law_thing","_law_low","_law_shift"] ["_law_pen_here","_law_told","_law_down_here"] (defScope s_l_part):=⟨rfl,rfl,rfl,by decide +kernel,rfl,by decide +kernel,by decide +kernel⟩
abbrev s_l_web:Stmt:=top 51
theorem sc_l_web:FnScope ["_law_pen_here","_law_ins","_law_outs_many","_law_down_here","_law_told","_law_deeds","_law_k","_law_a","_law_s","_law_one","_law_b","_law_t","_law_other","_law_sign","_law_outs","_law_thing","_law_shift","_law_there"] ["_law_pen_here","_law_ins","_law_outs_many","_law_down_here"] (defScope s_l_web):=⟨rfl,rfl,rfl,by decide +kernel,rfl,by decide +kernel,by decide +kernel⟩
abbrev s_l_value:Stmt:=top 52
theorem sc_l_value:FnScope ["_law_pen_here","_law_width","_law_half","_law_great","_law_k","_law_number"] ["_law_pen_here","_law_width"] (defScope s_l_value):=⟨rfl,rfl,rfl,by decide +kernel,rfl,by decide +kernel,by decide +kernel⟩
abbrev s_l_sure_right:Stmt:=top 53
theorem sc_l_sure_right:FnScope ["_law_web_here","_law_width","_law_values","_law_down_here","_law_told","_law_there","_law_plain","_law_low"] ["_law_web_here","_law_width","_law_values","_law_down_here"] (defScope s_l_sure_right):=⟨rfl,rfl,rfl,by decide +kernel,rfl,by decide +kernel,by decide +kernel⟩
abbrev s_l_behind_right:Stmt:=top 54
theorem sc_l_behind_right:FnScope ["_law_one","_law_other","_law_width","_law_values","_law_down_here","_law_long","_law_after"] ["_law_one","_law_other","_law_width","_law_values","_law_down_here"] (defScope s_l_behind_right):=⟨rfl,rfl,rfl,by decide +kernel,rfl,by decide +kernel,by decide +kernel⟩
abbrev s_l_range_right:Stmt:=top 55
theorem sc_l_range_right:FnScope ["_law_pen_here","_law_one","_law_width","_law_low","_law_high","_law_far","_law_least_wide","_law_inner"] ["_law_pen_here","_law_one","_law_width"] (defScope s_l_range_right):=⟨rfl,rfl,rfl,by decide +kernel,rfl,by decide +kernel,by decide +kernel⟩
abbrev s_l_turned_right:Stmt:=top 56
theorem sc_l_turned_right:FnScope ["_law_web_here","_law_width","_law_values","_law_about","_law_due","_law_i","_law_total"] ["_law_web_here","_law_width","_law_values"] (defScope s_l_turned_right):=⟨rfl,rfl,rfl,by decide +kernel,rfl,by decide +kernel,by decide +kernel⟩
abbrev s_law:Stmt:=top 57
theorem sc_law:FnScope ["_law_script","_law_pen_here","_law_down_here","_law_middle","_law_one","_law_other","_law_k","_law_width","_law_values","_law_more"] ["_law_script"] (defScope s_law):=⟨rfl,rfl,rfl,by decide +kernel,rfl,by decide +kernel,by decide +kernel⟩
structure Bl (mg:Str -> Option Value):Prop where
 abs:mg "abs" = none
 enumerate:mg "enumerate" = none
 int:mg "int" = none
 len:mg "len" = none
 list:mg "list" = none
 max:mg "max" = none
 min:mg "min" = none
 range:mg "range" = none
 reversed:mg "reversed" = none
 sum:mg "sum" = none
 tuple:mg "tuple" = none
 zip:mg "zip" = none
structure Txt (K:PySem.W.Frag) (mg:Str -> Option Value):Prop where
 bl:Bl mg
 t_shifted:∃ (f:Addr) (fd:FuncData),Fun K "shifted" "shifted" s_shifted f fd /\ mg "shifted" = some (.ref f) /\ Binds K fd ["number","shift"] []
 t_shifted_row:∃ (f:Addr) (fd:FuncData),Fun K "shifted_row" "shifted_row" s_shifted_row f fd /\ mg "shifted_row" = some (.ref f) /\ Binds K fd ["row","shift"] []
 t_input_rows:∃ (f:Addr) (fd:FuncData),Fun K "input_rows" "input_rows" s_input_rows f fd /\ mg "input_rows" = some (.ref f) /\ Binds K fd ["ins"] []
 t_input_row:∃ (f:Addr) (fd:FuncData),Fun K "input_row" "input_row" s_input_row f fd /\ mg "input_row" = some (.ref f) /\ Binds K fd ["ins","thing"] []
 t_deed_row:∃ (f:Addr) (fd:FuncData),Fun K "deed_row" "deed_row" s_deed_row f fd /\ mg "deed_row" = some (.ref f) /\ Binds K fd ["deed","rows"] []
 t_second_sign:∃ (f:Addr) (fd:FuncData),Fun K "second_sign" "second_sign" s_second_sign f fd /\ mg "second_sign" = some (.ref f) /\ Binds K fd ["deed"] []
 t_numbers:∃ (f:Addr) (fd:FuncData),Fun K "numbers" "numbers" s_numbers f fd /\ mg "numbers" = some (.ref f) /\ Binds K fd ["web"] []
 t_out_numbers:∃ (f:Addr) (fd:FuncData),Fun K "out_numbers" "out_numbers" s_out_numbers f fd /\ mg "out_numbers" = some (.ref f) /\ Binds K fd ["web"] []
 t_out_row:∃ (f:Addr) (fd:FuncData),Fun K "out_row" "out_row" s_out_row f fd /\ mg "out_row" = some (.ref f) /\ Binds K fd ["out","rows"] []
 t_arrows:∃ (f:Addr) (fd:FuncData),Fun K "arrows" "arrows" s_arrows f fd /\ mg "arrows" = some (.ref f) /\ Binds K fd ["web"] []
 t_deed_arrows:∃ (f:Addr) (fd:FuncData),Fun K "deed_arrows" "deed_arrows" s_deed_arrows f fd /\ mg "deed_arrows" = some (.ref f) /\ Binds K fd ["web"] []
 t_out_arrows:∃ (f:Addr) (fd:FuncData),Fun K "out_arrows" "out_arrows" s_out_arrows f fd /\ mg "out_arrows" = some (.ref f) /\ Binds K fd ["web"] []
 t_thing_count:∃ (f:Addr) (fd:FuncData),Fun K "thing_count" "thing_count" s_thing_count f fd /\ mg "thing_count" = some (.ref f) /\ Binds K fd ["web"] []
 t_wrapped:∃ (f:Addr) (fd:FuncData),Fun K "wrapped" "wrapped" s_wrapped f fd /\ mg "wrapped" = some (.ref f) /\ Binds K fd ["number","width"] []
 t_run_in:∃ (f:Addr) (fd:FuncData),Fun K "run_in" "run_in" s_run_in f fd /\ mg "run_in" = some (.ref f) /\ Binds K fd ["web","width","values"] []
 t_shifted_in:∃ (f:Addr) (fd:FuncData),Fun K "shifted_in" "shifted_in" s_shifted_in f fd /\ mg "shifted_in" = some (.ref f) /\ Binds K fd ["value","shift","width"] []
 t_outs_in:∃ (f:Addr) (fd:FuncData),Fun K "outs_in" "outs_in" s_outs_in f fd /\ mg "outs_in" = some (.ref f) /\ Binds K fd ["web","width","values"] []
 t_sure:∃ (f:Addr) (fd:FuncData),Fun K "sure" "sure" s_sure f fd /\ mg "sure" = some (.ref f) /\ Binds K fd ["web","width"] []
 t_fits:∃ (f:Addr) (fd:FuncData),Fun K "fits" "fits" s_fits f fd /\ mg "fits" = some (.ref f) /\ Binds K fd ["web","width","ranges"] []
 t_width_for:∃ (f:Addr) (fd:FuncData),Fun K "width_for" "width_for" s_width_for f fd /\ mg "width_for" = some (.ref f) /\ Binds K fd ["web","ranges"] []
 t_end_of:∃ (f:Addr) (fd:FuncData),Fun K "end_of" "end_of" s_end_of f fd /\ mg "end_of" = some (.ref f) /\ Binds K fd ["row","ranges","side"] []
 t_width_of:∃ (f:Addr) (fd:FuncData),Fun K "width_of" "width_of" s_width_of f fd /\ mg "width_of" = some (.ref f) /\ Binds K fd ["number"] []
 t_range_in:∃ (f:Addr) (fd:FuncData),Fun K "range_in" "range_in" s_range_in f fd /\ mg "range_in" = some (.ref f) /\ Binds K fd ["web","width"] []
 t_parts_of:∃ (f:Addr) (fd:FuncData),Fun K "parts_of" "parts_of" s_parts_of f fd /\ mg "parts_of" = some (.ref f) /\ Binds K fd ["deed"] []
 t_moved:∃ (f:Addr) (fd:FuncData),Fun K "moved" "moved" s_moved f fd /\ mg "moved" = some (.ref f) /\ Binds K fd ["part","shift","sign"] []
 t_deed_of:∃ (f:Addr) (fd:FuncData),Fun K "deed_of" "deed_of" s_deed_of f fd /\ mg "deed_of" = some (.ref f) /\ Binds K fd ["one","other"] []
 t_sign_of:∃ (f:Addr) (fd:FuncData),Fun K "sign_of" "sign_of" s_sign_of f fd /\ mg "sign_of" = some (.ref f) /\ Binds K fd ["one","other"] []
 t_add_sum:∃ (f:Addr) (fd:FuncData),Fun K "add_sum" "add_sum" s_add_sum f fd /\ mg "add_sum" = some (.ref f) /\ Binds K fd ["ins","deeds","one","other"] []
 t_behind:∃ (f:Addr) (fd:FuncData),Fun K "behind" "behind" s_behind f fd /\ mg "behind" = some (.ref f) /\ Binds K fd ["one","other"] []
 t_moved_parts:∃ (f:Addr) (fd:FuncData),Fun K "moved_parts" "moved_parts" s_moved_parts f fd /\ mg "moved_parts" = some (.ref f) /\ Binds K fd ["parts","stands"] []
 t_run:∃ (f:Addr) (fd:FuncData),Fun K "run" "run" s_run f fd /\ mg "run" = some (.ref f) /\ Binds K fd ["web","values"] []
 t_run_outs:∃ (f:Addr) (fd:FuncData),Fun K "run_outs" "run_outs" s_run_outs f fd /\ mg "run_outs" = some (.ref f) /\ Binds K fd ["web","values"] []
 t_turned:∃ (f:Addr) (fd:FuncData),Fun K "turned" "turned" s_turned f fd /\ mg "turned" = some (.ref f) /\ Binds K fd ["web"] []
 t_refuse_down:∃ (f:Addr) (fd:FuncData),Fun K "refuse_down" "refuse_down" s_refuse_down f fd /\ mg "refuse_down" = some (.ref f) /\ Binds K fd ["web"] []
 t_l_pen:∃ (f:Addr) (fd:FuncData),Fun K "_law_pen" "_law_pen" s_l_pen f fd /\ mg "_law_pen" = some (.ref f) /\ Binds K fd ["_law_script"] []
 t_l_pick:∃ (f:Addr) (fd:FuncData),Fun K "_law_pick" "_law_pick" s_l_pick f fd /\ mg "_law_pick" = some (.ref f) /\ Binds K fd ["_law_pen_here","_law_many"] []
 t_l_down:∃ (f:Addr) (fd:FuncData),Fun K "_law_down" "_law_down" s_l_down f fd /\ mg "_law_down" = some (.ref f) /\ Binds K fd ["_law_told"] []
 t_l_part:∃ (f:Addr) (fd:FuncData),Fun K "_law_part" "_law_part" s_l_part f fd /\ mg "_law_part" = some (.ref f) /\ Binds K fd ["_law_pen_here","_law_told","_law_down_here"] []
 t_l_web:∃ (f:Addr) (fd:FuncData),Fun K "_law_web" "_law_web" s_l_web f fd /\ mg "_law_web" = some (.ref f) /\ Binds K fd ["_law_pen_here","_law_ins","_law_outs_many","_law_down_here"] []
 t_l_value:∃ (f:Addr) (fd:FuncData),Fun K "_law_value" "_law_value" s_l_value f fd /\ mg "_law_value" = some (.ref f) /\ Binds K fd ["_law_pen_here","_law_width"] []
 t_l_sure_right:∃ (f:Addr) (fd:FuncData),Fun K "_law_sure_right" "_law_sure_right" s_l_sure_right f fd /\ mg "_law_sure_right" = some (.ref f) /\ Binds K fd ["_law_web_here","_law_width","_law_values","_law_down_here"] []
 t_l_behind_right:∃ (f:Addr) (fd:FuncData),Fun K "_law_behind_right" "_law_behind_right" s_l_behind_right f fd /\ mg "_law_behind_right" = some (.ref f) /\ Binds K fd ["_law_one","_law_other","_law_width","_law_values","_law_down_here"] []
 t_l_range_right:∃ (f:Addr) (fd:FuncData),Fun K "_law_range_right" "_law_range_right" s_l_range_right f fd /\ mg "_law_range_right" = some (.ref f) /\ Binds K fd ["_law_pen_here","_law_one","_law_width"] []
 t_l_turned_right:∃ (f:Addr) (fd:FuncData),Fun K "_law_turned_right" "_law_turned_right" s_l_turned_right f fd /\ mg "_law_turned_right" = some (.ref f) /\ Binds K fd ["_law_web_here","_law_width","_law_values"] []
 t_law:∃ (f:Addr) (fd:FuncData),Fun K "law" "law" s_law f fd /\ mg "law" = some (.ref f) /\ Binds K fd ["_law_script"] []
 c_NO_OUT:∃ t:Addr,mg "NO_OUT" = some (.ref t) /\ CT0 K t
local macro_rules | `(tactic| walk_at "WP")=>`(tactic| (first | (dsimp only [w_gLst,w_forE,w_compE,w_compZ,w_for3,w_gTupK,w_ixT,w_eqS,w_aug,w_ipI,w_dnK,w_maxD,w_sl,w_noPart,w_part,w_slL,w_var,w_C,w_op,w_un,w_rI,w_rI0,w_rU,w_eqI,w_neI,w_eqB,w_neB,w_seq,w_next,w_break,w_cont,w_ifS,w_ret,w_retN,w_drop,w_asg,w_gName,w_gSub,w_test,w_B,w_and,w_or,w_not,w_andV,w_orV,w_notV,w_if,w_call,w_nil,w_cons,w_CB,w_lst,w_tup,w_isN,w_notN,w_chain,w_for1,w_for2b,w_On2,w_forL,w_forT,w_forV,w_compL,w_compT,w_comp1,w_comp2b,w_yes,w_bm,w_bm0,w_rBits,w_tyInt,w_gTupM,w_gCons,w_gNil,w_dgS,w_dgI,w_sDP,w_dpS,w_dpI,w_dII,w_disp,tPairs,pen_s,pen_a,pen_l,pen_len,pen_pa,pen_pl,qJd,w_append,List.getElem?_cons_zero,List.getElem?_cons_succ,List.set_cons_zero,List.set_cons_succ,qJs,V.int.injEq,V.bl.injEq,V.ref.injEq,V.str.injEq,exists_eq_left',exists_eq_left,List.append_nil,List.cons.injEq,and_true,true_and,exists_and_left,decide_eq_true_eq,Bool.not_eq_true',decide_eq_false_iff_not,Bool.not_true,Bool.not_false,w_ixM,w_ixU,w_ixL,w_setL,w_cxK,w_isI_ii,w_isI_ib,w_isI_bi,w_isI_bb,w_isI_ni,w_isI_nb,w_isI_si,w_isI_sb,sl_0,sl_1,sl_2,sl_3,sl_4,sl_5,sl_6,sl_7,sl_8,CPowB,w_shl1,at_0,at_1,at_2,at_3,ixN_0,ixN_1,ixN_2,upd_same,qJl,qJt,Int.reduceToNat,Int.reducePow,Int.reduceNeg,Int.reduceLT,Int.reduceLE,Int.reduceMod,Int.reduceMul,Int.reduceAdd,Int.reduceSub,Int.reduceDiv,Int.reduceEq,ite_true,ite_false,if_true,if_false,Bool.true_eq_false,Bool.false_eq_true,List.length_cons,List.length_nil,reduceCtorEq,false_and,and_false,not_false_eq_true,not_true_eq_false,exists_false,false_or,or_false,w_pop,w_extend,w_reverse,w_clear,w_cat,w_LZ,w_LR,w_forD,w_compZ2]; try simp only [w_gLst,w_forE,w_compE,w_compZ,w_for3,w_gTupK,w_ixT,w_eqS,w_aug,w_ipI,w_dnK,w_maxD,w_sl,w_noPart,w_part,w_slL,w_var,w_C,w_op,w_un,w_rI,w_rI0,w_rU,w_eqI,w_neI,w_eqB,w_neB,w_seq,w_next,w_break,w_cont,w_ifS,w_ret,w_retN,w_drop,w_asg,w_gName,w_gSub,w_test,w_B,w_and,w_or,w_not,w_andV,w_orV,w_notV,w_if,w_call,w_nil,w_cons,w_CB,w_lst,w_tup,w_isN,w_notN,w_chain,w_for1,w_for2b,w_On2,w_forL,w_forT,w_forV,w_compL,w_compT,w_comp1,w_comp2b,w_yes,w_bm,w_bm0,w_rBits,w_tyInt,w_gTupM,w_gCons,w_gNil,w_dgS,w_dgI,w_sDP,w_dpS,w_dpI,w_dII,w_disp,tPairs,pen_s,pen_a,pen_l,pen_len,pen_pa,pen_pl,qJd,w_append,List.getElem?_cons_zero,List.getElem?_cons_succ,List.set_cons_zero,List.set_cons_succ,qJs,V.int.injEq,V.bl.injEq,V.ref.injEq,V.str.injEq,exists_eq_left',exists_eq_left,List.append_nil,List.cons.injEq,and_true,true_and,exists_and_left,decide_eq_true_eq,Bool.not_eq_true',decide_eq_false_iff_not,Bool.not_true,Bool.not_false,w_ixM,w_ixU,w_ixL,w_setL,w_cxK,w_isI_ii,w_isI_ib,w_isI_bi,w_isI_bb,w_isI_ni,w_isI_nb,w_isI_si,w_isI_sb,sl_0,sl_1,sl_2,sl_3,sl_4,sl_5,sl_6,sl_7,sl_8,CPowB,w_shl1,at_0,at_1,at_2,at_3,ixN_0,ixN_1,ixN_2,upd_same,qJl,qJt,Int.reduceToNat,Int.reducePow,Int.reduceNeg,Int.reduceLT,Int.reduceLE,Int.reduceMod,Int.reduceMul,Int.reduceAdd,Int.reduceSub,Int.reduceDiv,Int.reduceEq,ite_true,ite_false,if_true,if_false,Bool.true_eq_false,Bool.false_eq_true,List.length_cons,List.length_nil,reduceCtorEq,false_and,and_false,not_false_eq_true,not_true_eq_false,exists_false,false_or,or_false,w_pop,w_extend,w_reverse,w_clear,w_cat,w_LZ,w_LR,w_forD,w_compZ2]) | simp only [w_gLst,w_forE,w_compE,w_compZ,w_for3,w_gTupK,w_ixT,w_eqS,w_aug,w_ipI,w_dnK,w_maxD,w_sl,w_noPart,w_part,w_slL,w_var,w_C,w_op,w_un,w_rI,w_rI0,w_rU,w_eqI,w_neI,w_eqB,w_neB,w_seq,w_next,w_break,w_cont,w_ifS,w_ret,w_retN,w_drop,w_asg,w_gName,w_gSub,w_test,w_B,w_and,w_or,w_not,w_andV,w_orV,w_notV,w_if,w_call,w_nil,w_cons,w_CB,w_lst,w_tup,w_isN,w_notN,w_chain,w_for1,w_for2b,w_On2,w_forL,w_forT,w_forV,w_compL,w_compT,w_comp1,w_comp2b,w_yes,w_bm,w_bm0,w_rBits,w_tyInt,w_gTupM,w_gCons,w_gNil,w_dgS,w_dgI,w_sDP,w_dpS,w_dpI,w_dII,w_disp,tPairs,pen_s,pen_a,pen_l,pen_len,pen_pa,pen_pl,qJd,w_append,List.getElem?_cons_zero,List.getElem?_cons_succ,List.set_cons_zero,List.set_cons_succ,qJs,V.int.injEq,V.bl.injEq,V.ref.injEq,V.str.injEq,exists_eq_left',exists_eq_left,List.append_nil,List.cons.injEq,and_true,true_and,exists_and_left,decide_eq_true_eq,Bool.not_eq_true',decide_eq_false_iff_not,Bool.not_true,Bool.not_false,w_ixM,w_ixU,w_ixL,w_setL,w_cxK,w_isI_ii,w_isI_ib,w_isI_bi,w_isI_bb,w_isI_ni,w_isI_nb,w_isI_si,w_isI_sb,sl_0,sl_1,sl_2,sl_3,sl_4,sl_5,sl_6,sl_7,sl_8,CPowB,w_shl1,at_0,at_1,at_2,at_3,ixN_0,ixN_1,ixN_2,upd_same,qJl,qJt,Int.reduceToNat,Int.reducePow,Int.reduceNeg,Int.reduceLT,Int.reduceLE,Int.reduceMod,Int.reduceMul,Int.reduceAdd,Int.reduceSub,Int.reduceDiv,Int.reduceEq,ite_true,ite_false,if_true,if_false,Bool.true_eq_false,Bool.false_eq_true,List.length_cons,List.length_nil,reduceCtorEq,false_and,and_false,not_false_eq_true,not_true_eq_false,exists_false,false_or,or_false,w_pop,w_extend,w_reverse,w_clear,w_cat,w_LZ,w_LR,w_forD,w_compZ2]))
local macro_rules | `(tactic| walk_at "o") => `(tactic| first | exact .inl rfl | exact .inr rfl | assumption)
section
variable {P:Program}{w:World}{K:PySem.W.Frag}{mg:Str -> Option Value}{base:Heap}
theorem ok_ppen (T:Txt K mg):Cal P w K mg base 1 "_law_pen" ["_law_script"] (spPPen K):=by
 have B:=T.bl
 refine mkCal T.t_l_pen sc_l_pen (fun vs H Q E h=>?_) (fun f cdv A outer s H vs Q E hr h=>?_)
 ·obtain ⟨a,rfl,_⟩:=h
  rfl
 obtain ⟨a,rfl,q⟩:=h
 refine ⟨_,((@pss_one _ _ _ (@ps_ret _ _ _ _ (@pe_lst _ _ _ _ (@pa_cons _ _ _ _ _ pe_int (@pa_cons _ _ _ _ _ pe_int (@pa_cons _ _ _ _ _ (pv 0) pa_nil (by rfl)) (by rfl)) (by rfl)))))),?_⟩
 rw [show start ["_law_script"] [.ref a]=[some (.ref a)] from rfl]
 try walk_at "WP"
 intro p hp
 exact q p _ hp (same_new hp _) (ppen_of (by decide) (by decide) (by decide))
theorem ok_pick (T:Txt K mg):Cal P w K mg base 1 "_law_pick" ["_law_pen_here","_law_many"] (spPick K):=by
 have B:=T.bl
 refine mkCal T.t_l_pick sc_l_pick (fun vs H Q E h=>?_) (fun f cdv A outer s H vs Q E hr h=>?_)
 ·obtain ⟨p,a,ns,m,c,rfl,_⟩:=h
  rfl
 obtain ⟨p,a,ns,m,c_,rfl,hP,hS,h63,hc,h1,h2,q⟩:=h
 refine ⟨_,((@pss_cons _ _ _ _ _ (@ps_if _ _ _ _ _ _ _ _ (@pt_cmpR _ _ _ _ _ _ _ _ op_gt (@pe_ix _ _ _ _ _ _ _ ix_M (pv 0) pe_int (fun _ _=>rfl)) pe_int (@nomark _ _ (by decide) (by decide))) (@pss_cons _ _ _ _ _ (@ps_set _ _ (2) _ _ _ _ sc_l_pick.nd rfl (by walk_at "o") (@pe_op _ _ _ _ _ _ _ _ op_mod (@pe_ix _ _ _ _ _ _ _ ix_M (pv 0) pe_int (fun _ _=>rfl)) (pv 1)) (by rfl) (by walk_at "o")) (@pss_cons _ _ _ _ _ (@ps_asg _ _ _ _ _ _ (@pe_op _ _ _ _ _ _ _ _ op_fdivB (@pe_ix _ _ _ _ _ _ _ ix_M (pv 0) pe_int (fun _ _=>rfl)) (pv 1)) (@pg_sub _ _ _ _ _ _ _ (pv 0) pe_int set_list (by intro _ ; rfl)) (by rfl) (by rfl) (by rfl)) (@pss_one _ _ _ (@ps_ret _ _ _ _ (pv 2))))) pss_nil) (@pss_cons _ _ _ _ _ (@ps_set _ _ (3) _ _ _ _ sc_l_pick.nd rfl (by walk_at "o") (@pe_ix _ _ _ _ _ _ _ ix_M (pv 0) pe_int (fun _ _=>rfl)) (by rfl) (by walk_at "o")) (@pss_cons _ _ _ _ _ (@ps_asg _ _ _ _ _ _ (@pe_op _ _ _ _ _ _ _ _ op_add (pv 3) pe_int) (@pg_sub _ _ _ _ _ _ _ (pv 0) pe_int set_list (by intro _ ; rfl)) (by rfl) (by rfl) (by rfl)) (@pss_cons _ _ _ _ _ (@ps_set _ _ (4) _ _ _ _ sc_l_pick.nd rfl (by walk_at "o") pe_int (by rfl) (by walk_at "o")) (@pss_mid _ _ _ _ _ (@ps_if _ _ _ _ _ _ _ _ (@pt_cmpR _ _ _ _ _ _ _ _ op_gt (@pe_callB _ _ _ _ _ _ _ _ _ call_lenS rfl B.len bo_len (@pa_cons _ _ _ _ _ (@pe_ix _ _ _ _ _ _ _ ix_M (pv 0) pe_int (fun _ _=>rfl)) pa_nil (by rfl)) (by decide) (by decide) (by rfl) (by rfl)) pe_int (@nomark _ _ (by decide) (by decide))) (@pss_one _ _ _ (@ps_set _ _ (4) _ _ _ _ sc_l_pick.nd rfl (by walk_at "o") (@pe_ix _ _ _ _ _ _ _ ix_list (@pe_ix _ _ _ _ _ _ _ ix_M (pv 0) pe_int (fun _ _=>rfl)) (@pe_op _ _ _ _ _ _ _ _ op_mod (pv 3) (@pe_callB _ _ _ _ _ _ _ _ _ call_lenS rfl B.len bo_len (@pa_cons _ _ _ _ _ (@pe_ix _ _ _ _ _ _ _ ix_M (pv 0) pe_int (fun _ _=>rfl)) pa_nil (by rfl)) (by decide) (by decide) (by rfl) (by rfl))) (fun _ _=>rfl)) (by rfl) (by walk_at "o"))) pss_nil) (@pss_cons _ _ _ _ _ (@ps_if _ _ _ _ _ _ _ _ (@PW.pt _ _ _ (@pw_and _ _ _ _ _ _ _ (@pt_cmpR _ _ _ _ _ _ _ _ op_lt (pv 3) (@pe_callB _ _ _ _ _ _ _ _ _ call_lenS rfl B.len bo_len (@pa_cons _ _ _ _ _ (@pe_ix _ _ _ _ _ _ _ ix_M (pv 0) pe_int (fun _ _=>rfl)) pa_nil (by rfl)) (by decide) (by decide) (by rfl) (by rfl)) (@nomark _ _ (by decide) (by decide))) (@pw_and1 _ _ _ _ (@pt_cmpR _ _ _ _ _ _ _ _ op_ge (@pe_callB _ _ _ _ _ _ _ _ _ call_abs rfl B.abs bo_abs (@pa_cons _ _ _ _ _ (pv 4) pa_nil (by rfl)) (by decide) (by decide) (by rfl) (by rfl)) (@pe_op _ _ _ _ _ _ _ _ op_powB pe_int pe_int) (@nomark _ _ (by decide) (by decide)))))) (@pss_cons _ _ _ _ _ (@ps_asg _ _ _ _ _ _ (@pe_op _ _ _ _ _ _ _ _ op_fdivB (@pe_callB _ _ _ _ _ _ _ _ _ call_abs rfl B.abs bo_abs (@pa_cons _ _ _ _ _ (pv 4) pa_nil (by rfl)) (by decide) (by decide) (by rfl) (by rfl)) (pv 1)) (@pg_sub _ _ _ _ _ _ _ (pv 0) pe_int set_list (by intro _ ; rfl)) (by rfl) (by rfl) (by rfl)) (@pss_one _ _ _ (@ps_ret _ _ _ _ (@pe_op _ _ _ _ _ _ _ _ op_mod (@pe_callB _ _ _ _ _ _ _ _ _ call_abs rfl B.abs bo_abs (@pa_cons _ _ _ _ _ (pv 4) pa_nil (by rfl)) (by decide) (by decide) (by rfl) (by rfl)) (pv 1))))) pss_nil) (@pss_cons _ _ _ _ _ (@ps_set _ _ (5) _ _ _ _ sc_l_pick.nd rfl (by walk_at "o") (@pe_op _ _ _ _ _ _ _ _ op_mod (@pe_op _ _ _ _ _ _ _ _ op_mulB (@pe_op _ _ _ _ _ _ _ _ op_add (@pe_op _ _ _ _ _ _ _ _ op_add (@pe_op _ _ _ _ _ _ _ _ op_mod (pv 4) pe_int) (@pe_op _ _ _ _ _ _ _ _ op_mulB pe_int (pv 3))) pe_int) pe_int) pe_int) (by rfl) (by walk_at "o")) (@pss_cons _ _ _ _ _ (@ps_set _ _ (5) _ _ _ _ sc_l_pick.nd rfl (by walk_at "o") (@pe_op _ _ _ _ _ _ _ _ op_mod (@pe_op _ _ _ _ _ _ _ _ op_mulB (pv 5) (@pe_op _ _ _ _ _ _ _ _ op_add (@pe_op _ _ _ _ _ _ _ _ op_add (@pe_op _ _ _ _ _ _ _ _ op_mod (pv 5) pe_int) (pv 3)) pe_int)) pe_int) (by rfl) (by walk_at "o")) (@pss_one _ _ _ (@ps_ret _ _ _ _ (@pe_op _ _ _ _ _ _ _ _ op_mod (@pe_op _ _ _ _ _ _ _ _ op_fdivB (pv 5) pe_int) (pv 1))))))))))))),?_⟩
 rw [show start ["_law_pen_here","_law_many","_law_digit","_law_at","_law_cell","_law_mixed"] [.ref p,.int m]=[some (.ref p),some (.int m),none,none,none,none] from rfl]
 obtain ⟨t,l,hH,ht0,htc,hl⟩:=id hP
 (iterate 5 ((try (walk_at "WP")); (try (simp only [hH,qJs,qJt,qJl,qJd,exists_eq_left',exists_eq_left])))); (try (walk_at "WP"))
 refine ite2 (fun c=>?_) (fun c=>?_)
 ·exact ⟨by omega,divB (by omega) h2,q _ _ (modq (by omega)).1 (modq (by omega)).2 (ppen_of ht0 (by omega) (divq hl (by omega))) (hS.ppen hP (Chg.upd _)) (Chg.upd _)⟩
 have hS1:=hS.ppen hP (Chg.upd (.lst [V.int l,V.int (t+1),V.ref a]))
 have hP1:PPen (upd H p (.lst [V.int l,V.int (t+1),V.ref a])) p a (c_+1):=ppen_of (by omega) (by omega) hl
 have C1:Chg p H (upd H p (.lst [V.int l,V.int (t+1),V.ref a])):=Chg.upd _
 have hp1:(upd H p (.lst [V.int l,V.int (t+1),V.ref a])) p=some (.lst [V.int l,V.int (t+1),V.ref a]):=upd_same
 generalize upd H p (.lst [V.int l,V.int (t+1),V.ref a])=H1 at *
 refine mid_of (fun σ H2=>∃ (cell:Int) (o2 o5:Option V),σ = [some (.ref p),some (.int m),o2,some (.int t),some (.int cell),o5] /\ H2=H1) (fun N hN=>?_) ?_
 ·(iterate 5 ((try (walk_at "WP")); (try (simp only [hp1,qJs,qJt,qJl,qJd,exists_eq_left',exists_eq_left])))); (try (walk_at "WP"))
  refine ⟨_,hS1.sq,?_⟩
  rw [qC]
  refine ite2 (fun z=>?_) (fun z=>hN _ _ ⟨_,_,_,rfl,rfl⟩)
  refine ⟨_,hS1.sq,by rw [qC]; omega,_,hS1.sq,?_⟩
  rw [qC]
  have b:=modq (g:=t) (m:=(ns.length:Int)) (by omega)
  obtain ⟨v,hv,_⟩:=atI_int (ns:=ns) b.1 b.2
  exact ⟨_,hv,hN _ _ ⟨v,_,_,rfl,rfl⟩⟩
 ·rintro σ H2 ⟨cell,o2,o5,rfl,rfl⟩
  (iterate 5 ((try (walk_at "WP")); (try (simp only [hp1,qJs,qJt,qJl,qJd,exists_eq_left',exists_eq_left])))); (try (walk_at "WP"))
  refine ⟨_,hS1.sq,?_⟩
  rw [qC]
  have h0:0 <= (if cell < 0 then -cell else cell):=by split <;> omega
  refine ite2 (fun _=>?_) (fun _=>?_)
  ·refine ite2 (fun _=>?_) (fun _=>?_)
   ·exact ⟨divB (by omega) h2,by omega,q _ _ (modq (by omega)).1 (modq (by omega)).2 (ppen_of (by omega) (by omega) (divq h0 (by omega))) (hS1.ppen hP1 (Chg.upd _)) (C1.trans (Chg.upd _))⟩
   ·exact ⟨mul_l (by decide) (by decide),mul_r (by decide) (by decide),mul_l (by omega) (by omega),divB (by decide) (by decide),by omega,q _ _ (modq (by omega)).1 (modq (by omega)).2 hP1 hS1 C1⟩
  ·exact ⟨mul_l (by decide) (by decide),mul_r (by decide) (by decide),mul_l (by omega) (by omega),divB (by decide) (by decide),by omega,q _ _ (modq (by omega)).1 (modq (by omega)).2 hP1 hS1 C1⟩
end
section
variable {P:Program}{w:World}{K:PySem.W.Frag}{mg:Str -> Option Value}{base:Heap}
theorem ok_shifted (T:Txt K mg):Cal P w K mg base 1 "shifted" ["number","shift"] spShifted:=by
 have B:=T.bl
 refine mkCal T.t_shifted sc_shifted (fun vs H Q E h=>?_) (fun f cdv A outer s H vs Q E hr h=>?_)
 ·obtain ⟨n,s,rfl,_⟩:=h
  rfl
 obtain ⟨n,sh,rfl,h0,h1,hb,q⟩:=h
 refine ⟨_,((@pss_cons _ _ _ _ _ (@ps_if _ _ _ _ _ _ _ _ (@pt_cmpR _ _ _ _ _ _ _ _ op_ge (pv 1) pe_int (@nomark _ _ (by decide) (by decide))) (@pss_one _ _ _ (@ps_ret _ _ _ _ (@pe_op _ _ _ _ _ _ _ _ op_shlB (pv 0) (pv 1)))) pss_nil) (@pss_cons _ _ _ _ _ (@ps_set _ _ (2) _ _ _ _ sc_shifted.nd rfl (by walk_at "o") (@pe_op _ _ _ _ _ _ _ _ op_shr (pv 0) (@pe_un _ _ _ _ _ _ un_neg (pv 1))) (by rfl) (by walk_at "o")) (@pss_cons _ _ _ _ _ (@ps_if _ _ _ _ _ _ _ _ (@pt_cmpR _ _ _ _ _ _ _ _ op_ne (@pe_op _ _ _ _ _ _ _ _ op_shlB (pv 2) (@pe_un _ _ _ _ _ _ un_neg (pv 1))) (pv 0) (@nomark _ _ (by decide) (by decide))) (@pss_one _ _ _ (@ps_ret _ _ _ _ pe_non)) pss_nil) (@pss_one _ _ _ (@ps_ret _ _ _ _ (pv 2))))))),?_⟩
 rw [show start ["number","shift","halved"] [.int n,.int sh]=[some (.int n),some (.int sh),none] from rfl]
 try walk_at "WP"
 unfold shV at q
 refine ite2 (fun c=>?_) (fun c=>?_)
 ·rw [if_pos c] at q
  exact ⟨shl_ok c (by omega) hb (by decide),q⟩
 ·rw [if_neg c] at q
  refine ⟨by omega,shl_ok (by omega) (by omega) (abs_div (pow_pos2 _) hb) (by decide),?_⟩
  refine ite2 (fun d=>?_) (fun d=>?_)
  ·rw [if_neg d] at q
   exact q
  ·rw [if_pos (Decidable.not_not.mp d)] at q
   exact q
end
section
variable {P:Program}{w:World}{K:PySem.W.Frag}{mg:Str -> Option Value}{base:Heap}
theorem ok_second (T:Txt K mg):Cal P w K mg base 1 "second_sign" ["deed"] spSnd:=by
 have B:=T.bl
 refine mkCal T.t_second_sign sc_second_sign (fun vs H Q E h=>?_) (fun f cdv A outer s H vs Q E hr h=>?_)
 ·obtain ⟨x,d,rfl,_⟩:=h
  rfl
 obtain ⟨x,d,rfl,hx,q⟩:=h
 refine ⟨_,((@pss_one _ _ _ (@ps_ret _ _ _ _ (@pe_ifExp _ _ _ _ _ _ _ _ (@pt_cmpR _ _ _ _ _ _ _ _ op_eq (@pe_ix _ _ _ _ _ _ _ ix_U (pv 0) pe_int (fun _ _=>rfl)) pe_str (@nomark _ _ (by decide) (by decide))) (@pe_un _ _ _ _ _ _ un_neg pe_int) pe_int)))),?_⟩
 rw [show start ["deed"] [.ref x]=[some (.ref x)] from rfl]
 unfold wTup at hx
 (iterate 5 ((try (walk_at "WP")); (try (simp only [hx,qJs,qJt,qJl,qJd,exists_eq_left',exists_eq_left])))); (try (walk_at "WP"))
 unfold sgW at q
 by_cases z:d.w=Str.ofString "less"
 ·rw [if_pos z] at q ⊢
  exact q
 ·rw [if_neg z] at q ⊢
  exact q
end
section
variable {P:Program}{w:World}{K:PySem.W.Frag}{mg:Str -> Option Value}{base:Heap}
theorem ok_countK (T:Txt K mg):Cal P w K mg base 1 "thing_count" ["web"] (spCntK K):=by
 have B:=T.bl
 refine mkCal T.t_thing_count sc_thing_count (fun vs H Q E h=>?_) (fun f cdv A outer s H vs Q E hr h=>?_)
 ·obtain ⟨x,_,_,_,_,_,_,_,rfl,_⟩:=h
  rfl
 obtain ⟨x,dl,gl,ins,us,ds,os,gs,rfl,W,q⟩:=h
 refine ⟨_,((@pss_one _ _ _ (@ps_ret _ _ _ _ (@pe_op _ _ _ _ _ _ _ _ op_add (@pe_ix _ _ _ _ _ _ _ ix_U (pv 0) pe_int (fun _ _=>rfl)) (@pe_callB _ _ _ _ _ _ _ _ _ call_lenM rfl B.len bo_len (@pa_cons _ _ _ _ _ (@pe_ix _ _ _ _ _ _ _ ix_U (pv 0) pe_int (fun _ _=>rfl)) pa_nil (by rfl)) (by decide) (by decide) (by rfl) (by rfl)))))),?_⟩
 rw [show start ["web"] [.ref x]=[some (.ref x)] from rfl]
 have h1:=W.tup
 have h2:=W.dll
 (iterate 5 ((try (walk_at "WP")); (try (simp only [h1,h2,qJs,qJt,qJl,qJd,exists_eq_left',exists_eq_left])))); (try (walk_at "WP"))
 rw [W.hds.len]
 exact q
end
section
variable {P:Program}{w:World}{K:PySem.W.Frag}{mg:Str -> Option Value}{base:Heap}
theorem ok_darrK (T:Txt K mg):Cal P w K mg base 2 "deed_arrows" ["web"] (spDArrK K):=by
 have B:=T.bl
 have C_second_sign:=ok_second (P:=P) (w:=w) (base:=base) T
 refine mkCal T.t_deed_arrows sc_deed_arrows (fun vs H Q E h=>?_) (fun f cdv A outer s H vs Q E hr h=>?_)
 ·obtain ⟨x,_,_,_,_,_,_,_,rfl,_⟩:=h
  rfl
 obtain ⟨x,dl,gl,ins,us,ds,os,gs,rfl,W,hlen,q⟩:=h
 refine ⟨_,((@pss_cons _ _ _ _ _ (@ps_set _ _ (1) _ _ _ _ sc_deed_arrows.nd rfl (by walk_at "o") (@pe_lst _ _ _ _ pa_nil) (by rfl) (by walk_at "o")) (@pss_cons _ _ _ _ _ (@ps_for _ _ _ _ _ _ _ _ PassesOwn.never rfl (@pi_enum _ _ _ _ _ _ _ _ rfl B.enumerate (@pa_cons _ _ _ _ _ (@pe_ix _ _ _ _ _ _ _ ix_U (pv 0) pe_int (fun _ _=>rfl)) pa_nil (by rfl)) (by rfl)) (@pg_tupM _ _ _ _ _ 2 rfl (@pgs_cons _ _ _ _ _ (@pg_name _ _ (2) _ sc_deed_arrows.nd rfl (by walk_at "o") (by walk_at "o")) (@pgs_cons _ _ _ _ _ (@pg_name _ _ (3) _ sc_deed_arrows.nd rfl (by walk_at "o") (by walk_at "o")) pgs_nil (by rfl)) (by rfl)) (by rfl) (by rfl)) (@pss_cons _ _ _ _ _ (@ps_set _ _ (4) _ _ _ _ sc_deed_arrows.nd rfl (by walk_at "o") (@pe_op _ _ _ _ _ _ _ _ op_add (@pe_ix _ _ _ _ _ _ _ ix_U (pv 0) pe_int (fun _ _=>rfl)) (pv 2)) (by rfl) (by walk_at "o")) (@pss_cons _ _ _ _ _ (@ps_expr _ _ _ _ (@pe_bm _ _ _ _ _ _ _ _ _ _ _ _ PySem.F.plainAttrs_list PySem.F.slot_list_append PySem.F.type_list_append mt_append (pv 1) (@pa_cons _ _ _ _ _ (@pe_tup _ _ _ _ _ (@pa_cons _ _ _ _ _ (@pe_ix _ _ _ _ _ _ _ ix_U (pv 3) pe_int (fun _ _=>rfl)) (@pa_cons _ _ _ _ _ (pv 4) (@pa_cons _ _ _ _ _ (@pe_ix _ _ _ _ _ _ _ ix_U (pv 3) pe_int (fun _ _=>rfl)) (@pa_cons _ _ _ _ _ pe_int pa_nil (by rfl)) (by rfl)) (by rfl)) (by rfl))) pa_nil (by rfl)) (by rfl) (by rfl) (by rfl) (by rfl) (by rfl)) (by rfl)) (@pss_one _ _ _ (@ps_expr _ _ _ _ (@pe_bm _ _ _ _ _ _ _ _ _ _ _ _ PySem.F.plainAttrs_list PySem.F.slot_list_append PySem.F.type_list_append mt_append (pv 1) (@pa_cons _ _ _ _ _ (@pe_tup _ _ _ _ _ (@pa_cons _ _ _ _ _ (@pe_ix _ _ _ _ _ _ _ ix_U (pv 3) pe_int (fun _ _=>rfl)) (@pa_cons _ _ _ _ _ (pv 4) (@pa_cons _ _ _ _ _ (@pe_ix _ _ _ _ _ _ _ ix_U (pv 3) pe_int (fun _ _=>rfl)) (@pa_cons _ _ _ _ _ (@pe_cal _ _ _ _ _ _ _ _ _ _ C_second_sign hr rfl (@pa_cons _ _ _ _ _ (pv 3) pa_nil (by rfl)) (by decide) (by rfl) (by rfl)) pa_nil (by rfl)) (by rfl)) (by rfl)) (by rfl))) pa_nil (by rfl)) (by rfl) (by rfl) (by rfl) (by rfl) (by rfl)) (by rfl))))) (by intro _ ; rfl)) (@pss_one _ _ _ (@ps_ret _ _ _ _ (pv 1)))))),?_⟩
 rw [show start ["web","told","place","deed","thing"] [.ref x]=[some (.ref x),none,none,none,none] from rfl]
 try walk_at "WP"
 intro r hr0
 have sr:=same_new hr0 (.lst [])
 have W1:=W.same sr
 have h1:=W1.tup
 (iterate 5 ((try (walk_at "WP")); (try (simp only [h1,qJs,qJt,qJl,qJd,exists_eq_left',exists_eq_left])))); (try (walk_at "WP"))
 refine ⟨_,SqL.of W1.dll,?_⟩
 refine forE (xs:=us) (fun i σ H1=>∃ (o2 o3 o4:Option V) (ws:List V),σ = [some (.ref x),some (.ref r),o2,o3,o4] /\ Same H H1 /\ H1 r=some (.lst ws) /\ HTs aTup H1 ws (arrF ins 0 (ds.take i))) ⟨none,none,none,[],rfl,sr,upd_same,hts_nil⟩ ?_ ?_ ?_
 ·rintro i σ H1 _ ⟨_,_,_,_,_,s1,_⟩
  exact SqL.of (s1 _ _ W.dll)
 ·rintro i v t σ H1 N hv ht ⟨o2,o3,o4,ws,rfl,s1,hr1,ha⟩ hN
  have hi:i < ds.length:=by rw [← W.hds.len]; exact (qB.mp hv).1
  obtain ⟨y,hy1,hy2⟩:=W.hds.at_ i _ (qA hi)
  have hdi:ds[i]? = some ds[i]:=qA hi
  generalize ds[i]=d at hy2 hdi
  rw [hv] at hy1
  cases hy1
  have st:=same_new ht (.tup [V.int (i:Int),.ref y])
  have W2:=(W.same s1).same st
  have h2:=W2.tup
  have hy3:upd H1 t (.tup [V.int (i:Int),.ref y]) y=some (.tup (wTup d)):=st _ _ (s1 _ _ hy2)
  have hr2:=st _ _ hr1
  have ha2:=ha.same st
  have s2:=s1.trans st
  have h9:upd H1 t (.tup [V.int (i:Int),.ref y]) t=some (.tup [V.int (i:Int),.ref y]):=upd_same
  generalize upd H1 t (.tup [V.int (i:Int),.ref y])=H2 at *
  have hy3':=hy3
  unfold wTup at hy3'
  (iterate 5 ((try (walk_at "WP")); (try (simp only [h9,h2,hy3',qJs,qJt,qJl,qJd,exists_eq_left',exists_eq_left])))); (try (walk_at "WP"))
  have hwl:ws.length=2 * i:=by rw [ha2.len,arrF_len,qO]; omega
  refine ⟨ty_list hr2,fun p1 hp1=>?_⟩
  have s3:=same_new hp1 (.tup [V.int (d.a:Int),V.int ((ins:Int)+(i:Int)),V.int d.s,V.int 1])
  have n1:r ≠ p1:=ne_of_none hr2 hp1
  refine ⟨ws,by rw [upd_ne n1]; exact hr2,qJ (by omega:ws.length < 1000) (le_size (by decide)),ty_list upd_same,?_⟩
  have hr3:=s3 _ _ hr2
  have ha3:=(ha2.same s3).chgL hr3 (Chg.upd (.lst (ws ++ [.ref p1])))
  have hp1t:(upd (upd H2 p1 (.tup [V.int (d.a:Int),V.int ((ins:Int)+(i:Int)),V.int d.s,V.int 1])) r (.lst (ws ++ [.ref p1]))) p1=some (.tup (aTup ⟨d.a,ins+i,d.s,1⟩)):=by
   rw [upd_ne n1.symm,upd_same]
   unfold aTup
   rw [show ((ins+i:Nat):Int)=(ins:Int)+(i:Int) by omega]
  have ha4:=ha3.snoc (x:=(⟨d.a,ins+i,d.s,1⟩:Ar)) hp1t
  have hy4:(upd (upd H2 p1 (.tup [V.int (d.a:Int),V.int ((ins:Int)+(i:Int)),V.int d.s,V.int 1])) r (.lst (ws ++ [.ref p1]))) y=some (.tup (wTup d)):=by
   rw [upd_ne (ne_of hy3 hr2 (by intro z; cases z))]
   exact s3 _ _ hy3
  have s4:Same H (upd (upd H2 p1 (.tup [V.int (d.a:Int),V.int ((ins:Int)+(i:Int)),V.int d.s,V.int 1])) r (.lst (ws ++ [.ref p1]))):=same_upd hr0 (s2.trans s3)
  have hr4:(upd (upd H2 p1 (.tup [V.int (d.a:Int),V.int ((ins:Int)+(i:Int)),V.int d.s,V.int 1])) r (.lst (ws ++ [.ref p1]))) r=some (.lst (ws ++ [.ref p1])):=upd_same
  generalize upd (upd H2 p1 (.tup [V.int (d.a:Int),V.int ((ins:Int)+(i:Int)),V.int d.s,V.int 1])) r (.lst (ws ++ [.ref p1]))=H3 at s4 hr4 hy4 ha4 ⊢
  refine ⟨_,hy4,_,rfl,_,hy4,_,rfl,y,d,rfl,hy4,fun p2 hp2=>?_⟩
  have s5:=same_new hp2 (.tup [V.int (d.b:Int),V.int ((ins:Int)+(i:Int)),V.int d.t,V.int (sgW d.w)])
  have n2:r ≠ p2:=ne_of_none hr4 hp2
  refine ⟨_,by rw [upd_ne n2]; exact hr4,qJ (by simp; omega:(ws ++ [V.ref p1]).length < 1000) (le_size (by decide)),?_⟩
  have hr5:=s5 _ _ hr4
  have hp2t:(upd (upd H3 p2 (.tup [V.int (d.b:Int),V.int ((ins:Int)+(i:Int)),V.int d.t,V.int (sgW d.w)])) r (.lst (ws ++ [.ref p1] ++ [.ref p2]))) p2=some (.tup (aTup ⟨d.b,ins+i,d.t,sgW d.w⟩)):=by
   rw [upd_ne n2.symm,upd_same]
   unfold aTup
   rw [show ((ins+i:Nat):Int)=(ins:Int)+(i:Int) by omega]
  have ha5:=((ha4.same s5).chgL hr5 (Chg.upd (.lst (ws ++ [.ref p1] ++ [.ref p2])))).snoc (x:=(⟨d.b,ins+i,d.t,sgW d.w⟩:Ar)) hp2t
  refine hN _ _ ⟨_,_,_,_,rfl,same_upd hr0 (s4.trans s5),upd_same,?_⟩
  have tk:ds.take (i+1)=ds.take i ++ [d]:=by rw [List.take_add_one,hdi]; rfl
  rw [tk,arrF_app,qO,Nat.min_eq_left (by omega),Nat.zero_add,show arrF ins i [d]=[(⟨d.a,ins+i,d.s,1⟩:Ar)] ++ [(⟨d.b,ins+i,d.t,sgW d.w⟩:Ar)] from rfl,← List.append_assoc]
  exact ha5
 ·rintro σ H1 ⟨o2,o3,o4,ws,rfl,s1,hr1,ha⟩
  try walk_at "WP"
  rw [W.hds.len,List.take_length] at ha
  exact q r ws H1 hr0 s1 hr1 ha
end
section
variable {P:Program}{w:World}{K:PySem.W.Frag}{mg:Str -> Option Value}{base:Heap}
theorem ok_darr (T:Txt K mg):Cal P w K mg base 2 "deed_arrows" ["web"] spDArr:=(ok_darrK (P:=P) (w:=w) (base:=base) T).imp fun vs H Q E ⟨w0,dl,gl,ins,us,ds,os,gs,e,W,hl,q⟩=>⟨w0,dl,gl,ins,us,ds,os,gs,e,W.wk,hl,q⟩
end
section
variable {P:Program}{w:World}{K:PySem.W.Frag}{mg:Str -> Option Value}{base:Heap}
theorem ok_oarrK (T:Txt K mg):Cal P w K mg base 2 "out_arrows" ["web"] (spOArrK K):=by
 have B:=T.bl
 have C_thing_count:=ok_countK (P:=P) (w:=w) (base:=base) T
 refine mkCal T.t_out_arrows sc_out_arrows (fun vs H Q E h=>?_) (fun f cdv A outer s H vs Q E hr h=>?_)
 ·obtain ⟨x,_,_,_,_,_,_,_,rfl,_⟩:=h
  rfl
 obtain ⟨x,dl,gl,ins,us,ds,os,gs,rfl,W,hlen,q⟩:=h
 refine ⟨_,((@pss_cons _ _ _ _ _ (@ps_set _ _ (1) _ _ _ _ sc_out_arrows.nd rfl (by walk_at "o") (@pe_cal _ _ _ _ _ _ _ _ _ _ C_thing_count hr rfl (@pa_cons _ _ _ _ _ (pv 0) pa_nil (by rfl)) (by decide) (by rfl) (by rfl)) (by rfl) (by walk_at "o")) (@pss_one _ _ _ (@ps_ret _ _ _ _ (@pe_comp0 _ _ _ _ _ _ _ _ (["place","out","behind"]) (2) ([1]) _ _ _ rfl (@pi_enum _ _ _ _ _ _ _ _ rfl B.enumerate (@pa_cons _ _ _ _ _ (@pe_ix _ _ _ _ _ _ _ ix_U (pv 0) pe_int (fun _ _=>rfl)) pa_nil (by rfl)) (by rfl)) (fun nd C s H fp=>⟨(@pg_tupM _ _ _ _ _ 2 rfl (@pgs_cons _ _ _ _ _ (@pg_name _ _ (0) _ nd rfl (by walk_at "o") (by walk_at "o")) (@pgs_cons _ _ _ _ _ (@pg_name _ _ (1) _ nd rfl (by walk_at "o") (by walk_at "o")) pgs_nil (by rfl)) (by rfl)) (by rfl) (by rfl)),(@pn_one _ _ _ (@pt_cmpR _ _ _ _ _ _ _ _ op_ne (@pe_ix _ _ _ _ _ _ _ (@ix_tupK _ K (by rfl)) (pv 1) pe_int (fun _ _=>rfl)) pe_int (@nomark _ _ (by decide) (by decide)))),(@pe_tup _ _ _ _ _ (@pa_cons _ _ _ _ _ (@pe_ix _ _ _ _ _ _ _ (@ix_tupK _ K (by rfl)) (pv 1) pe_int (fun _ _=>rfl)) (@pa_cons _ _ _ _ _ (@pe_op _ _ _ _ _ _ _ _ op_add (pv 2) (pv 0)) (@pa_cons _ _ _ _ _ (@pe_ix _ _ _ _ _ _ _ (@ix_tupK _ K (by rfl)) (pv 1) pe_int (fun _ _=>rfl)) (@pa_cons _ _ _ _ _ (@pe_ix _ _ _ _ _ _ _ (@ix_tupK _ K (by rfl)) (pv 1) pe_int (fun _ _=>rfl)) pa_nil (by rfl)) (by rfl)) (by rfl)) (by rfl)))⟩) (by decide +kernel) (by first | rfl | decide +kernel) (by first | rfl | decide +kernel) rfl (fun _=>rfl)))))),?_⟩
 rw [show start ["web","behind"] [.ref x]=[some (.ref x),none] from rfl]
 try walk_at "WP"
 refine ⟨x,dl,gl,ins,us,ds,os,gs,rfl,W,?_⟩
 have h1:=W.tup
 (iterate 5 ((try (walk_at "WP")); (try (simp only [h1,qJs,qJt,qJl,qJd,exists_eq_left',exists_eq_left])))); (try (walk_at "WP"))
 refine ⟨_,SqL.of W.gll,?_⟩
 have ol:=W.hgs.len
 refine comp_any os.length (fun acc i ws H'=>Same H H' /\ H' acc=some (.lst ws) /\ HTs aTup H' ws (oarr (ins+ds.length) 0 (gs.take i))) (le_size (by omega)) ?_ ?_ ?_ ?_ ?_ ?_
 ·rintro acc i ws H' hi ⟨s',_,_⟩
  exact ⟨os,SqL.of (s' _ _ W.gll),hi⟩
 ·rintro acc ws H' ⟨s',_,_⟩
  exact ⟨os,SqL.of (s' _ _ W.gll),Nat.le_refl _⟩
 ·intro acc ha
  exact ⟨same_new ha _,upd_same,hts_nil⟩
 ·rintro acc i ws H' ⟨s',ha,ht⟩
  refine ⟨ha,?_⟩
  rw [ht.len]
  exact Nat.le_trans (oarr_len _ _ _) (by rw [qO]; omega)
 ·rintro acc i ws H' ts v H2 N hn hi ⟨s',ha,ht⟩ ⟨tt,u,rfl,htt,rfl,hu⟩ hts hN
  have hu:=hu os (SqL.of (s' _ _ W.gll))
  have hi2:i < gs.length:=by omega
  obtain ⟨y,hy1,hy2⟩:=W.hgs.at_ i _ (qA hi2)
  have hgi:gs[i]? = some gs[i]:=qA hi2
  generalize gs[i]=g at hy2 hgi
  rw [hu] at hy1
  cases hy1
  obtain ⟨t0,t1,rfl⟩:∃ t0 t1,ts=[t0,t1]:=by
   match ts,hts with
   | [a,b],_=>exact ⟨a,b,rfl⟩
  have sT:=same_new htt (.tup [V.int (i:Int),.ref y])
  have gT:(upd H' tt (.tup [V.int (i:Int),.ref y])) tt=some (.tup [V.int (i:Int),.ref y]):=upd_same
  have y2:=sT.seqT (s'.seqT hy2)
  unfold gTp at y2
  have s2:=s'.trans sT
  have ha2:=sT _ _ ha
  have ht2:=ht.same sT
  generalize upd H' tt (.tup [V.int (i:Int),.ref y])=H3 at sT gT y2 s2 ha2 ht2 ⊢
  rw [show capV [1] [some (V.ref x),some (V.int ((ins:Int)+((ds.length:Nat):Int)))]=[some (V.int ((ins:Int)+((ds.length:Nat):Int)))] from rfl]
  rw [List.cons_append,List.cons_append,List.nil_append]
  (iterate 5 ((try (walk_at "WP")); (try (simp only [gT,qJs,qJt,qJl,qJd,exists_eq_left',exists_eq_left])))); (try (walk_at "WP"))
  refine ⟨_,y2,_,rfl,?_⟩
  (iterate 5 ((try (walk_at "WP")); (try (simp only [gT,qJs,qJt,qJl,qJd,exists_eq_left',exists_eq_left])))); (try (walk_at "WP"))
  have tk:gs.take (i+1)=gs.take i ++ [g]:=by rw [List.take_add_one,hgi]; rfl
  have eo:oarr (ins+ds.length) 0 (gs.take (i+1))=oarr (ins+ds.length) 0 (gs.take i) ++ (if g.sg=0 then [] else [(⟨g.th,ins+ds.length+i,g.sh,g.sg⟩:Ar)]):=by
   rw [tk,oarr_app,qO,Nat.min_eq_left (by omega),Nat.zero_add]
   show _ ++ ((if g.sg=0 then [] else [_]) ++ [])=_
   rw [List.append_nil]
  refine ite2 (fun z=>?_) (fun z=>?_)
  ·refine ⟨_,y2,_,rfl,?_⟩
   try walk_at "WP"
   refine ⟨_,y2,_,rfl,_,y2,_,rfl,?_⟩
   try walk_at "WP"
   intro r hr0
   have sr:=same_new hr0 (.tup [V.int (g.th:Int),V.int ((ins:Int)+((ds.length:Nat):Int)+(i:Int)),V.int g.sh,V.int g.sg])
   have nra:acc ≠ r:=ne_of_none ha2 hr0
   refine ⟨sr _ _ ha2,hN _ [_,_] _ rfl ⟨same_upd hn (s2.trans sr),upd_same,?_⟩⟩
   rw [eo,if_neg z]
   refine ((ht2.same sr).chgL (sr _ _ ha2) (Chg.upd _)).snoc (x:=(⟨g.th,ins+ds.length+i,g.sh,g.sg⟩:Ar)) ?_
   rw [upd_ne nra.symm,upd_same]
   unfold aTup
   rw [show ((ins+ds.length+i:Nat):Int)=(ins:Int)+((ds.length:Nat):Int)+(i:Int) by omega]
  ·refine hN _ [_,_] _ rfl ⟨s2,ha2,?_⟩
   rw [eo,if_pos (Decidable.not_not.mp z),List.append_nil]
   exact ht2
 ·rintro acc ws H' hn ⟨s',ha,ht⟩
  rw [ol,List.take_length] at ht
  exact q acc ws H' hn s' ha ht
theorem ok_arrK (T:Txt K mg):Cal P w K mg base 3 "arrows" ["web"] (spArrK K):=by
 have B:=T.bl
 have C_deed_arrows:=ok_darrK (P:=P) (w:=w) (base:=base) T
 have C_out_arrows:=ok_oarrK (P:=P) (w:=w) (base:=base) T
 refine mkCal T.t_arrows sc_arrows (fun vs H Q E h=>?_) (fun f cdv A outer s H vs Q E hr h=>?_)
 ·obtain ⟨x,_,_,_,_,_,_,_,rfl,_⟩:=h
  rfl
 obtain ⟨x,dl,gl,ins,us,ds,os,gs,rfl,W,hd,hg,q⟩:=h
 refine ⟨_,((@pss_one _ _ _ (@ps_ret _ _ _ _ (@pe_op _ _ _ _ _ _ _ _ op_cat (@pe_cal _ _ _ _ _ _ _ _ _ _ C_deed_arrows hr rfl (@pa_cons _ _ _ _ _ (pv 0) pa_nil (by rfl)) (by decide) (by rfl) (by rfl)) (@pe_cal _ _ _ _ _ _ _ _ _ _ C_out_arrows hr rfl (@pa_cons _ _ _ _ _ (pv 0) pa_nil (by rfl)) (by decide) (by rfl) (by rfl)))))),?_⟩
 rw [show start ["web"] [.ref x]=[some (.ref x)] from rfl]
 try walk_at "WP"
 refine ⟨x,dl,gl,ins,us,ds,os,gs,rfl,W,by omega,fun r1 w1 H1 n1 s1 h1 t1=>?_⟩
 try walk_at "WP"
 refine ⟨x,dl,gl,ins,us,ds,os,gs,rfl,W.same s1,by omega,fun r2 w2 H2 n2 s2 h2 t2=>?_⟩
 have h12:=s2 _ _ h1
 have l1:w1.length=2 * ds.length:=by rw [t1.len,arrF_len]
 have l2:w2.length <= gs.length:=by rw [t2.len]; exact oarr_len _ _ _
 (iterate 5 ((try (walk_at "WP")); (try (simp only [h12,h2,qJs,qJt,qJl,qJd,exists_eq_left',exists_eq_left])))); (try (walk_at "WP"))
 refine ⟨le_size (by omega),fun r hr0=>?_⟩
 have sr:=same_new hr0 (.lst (w1 ++ w2))
 have s12:=s1.trans s2
 exact q r (w1 ++ w2) _ (s12.free hr0) (s12.trans sr) upd_same (((t1.same s2).app t2).same sr)
end
section
variable {P:Program}{w:World}{K:PySem.W.Frag}{mg:Str -> Option Value}{base:Heap}
theorem ok_refK (T:Txt K mg):Cal P w K mg base 3 "refuse_down" ["web"] (spRefK K):=by
 have B:=T.bl
 refine mkCal T.t_refuse_down sc_refuse_down (fun vs H Q E h=>?_) (fun f cdv A outer s H vs Q E hr h=>?_)
 ·obtain ⟨_,_,_,_,_,_,_,_,rfl,_⟩:=h
  rfl
 obtain ⟨x,dl,gl,ins,us,ds,os,gs,rfl,W,dl6,gl6,hds,hgs,q⟩:=h
 refine ⟨_,((@pss_mid _ _ _ _ _ (@ps_for _ _ _ _ _ _ _ _ PassesOwn.never rfl (@pi_enum _ _ _ _ _ _ _ _ rfl B.enumerate (@pa_cons _ _ _ _ _ (@pe_ix _ _ _ _ _ _ _ ix_U (pv 0) pe_int (fun _ _=>rfl)) pa_nil (by rfl)) (by rfl)) (@pg_tupM _ _ _ _ _ 2 rfl (@pgs_cons _ _ _ _ _ (@pg_name _ _ (1) _ sc_refuse_down.nd rfl (by walk_at "o") (by walk_at "o")) (@pgs_cons _ _ _ _ _ (@pg_name _ _ (2) _ sc_refuse_down.nd rfl (by walk_at "o") (by walk_at "o")) pgs_nil (by rfl)) (by rfl)) (by rfl) (by rfl)) (@pss_one _ _ _ (@ps_if _ _ _ _ _ _ _ _ (@PW.pt _ _ _ (@pw_or _ _ _ _ _ _ _ (@pt_cmpR _ _ _ _ _ _ _ _ op_lt (@pe_ix _ _ _ _ _ _ _ ix_U (pv 2) pe_int (fun _ _=>rfl)) pe_int (@nomark _ _ (by decide) (by decide))) (@pw_or1 _ _ _ _ (@pt_cmpR _ _ _ _ _ _ _ _ op_lt (@pe_ix _ _ _ _ _ _ _ ix_U (pv 2) pe_int (fun _ _=>rfl)) pe_int (@nomark _ _ (by decide) (by decide)))))) (@pss_one _ _ _ ps_never) pss_nil)) (by intro _ ; rfl)) (@pss_one _ _ _ (@ps_for _ _ _ _ _ _ _ _ PassesOwn.never rfl (@pi_enum _ _ _ _ _ _ _ _ rfl B.enumerate (@pa_cons _ _ _ _ _ (@pe_ix _ _ _ _ _ _ _ ix_U (pv 0) pe_int (fun _ _=>rfl)) pa_nil (by rfl)) (by rfl)) (@pg_tupM _ _ _ _ _ 2 rfl (@pgs_cons _ _ _ _ _ (@pg_name _ _ (1) _ sc_refuse_down.nd rfl (by walk_at "o") (by walk_at "o")) (@pgs_cons _ _ _ _ _ (@pg_name _ _ (3) _ sc_refuse_down.nd rfl (by walk_at "o") (by walk_at "o")) pgs_nil (by rfl)) (by rfl)) (by rfl) (by rfl)) (@pss_one _ _ _ (@ps_if _ _ _ _ _ _ _ _ (@pt_cmpR _ _ _ _ _ _ _ _ op_lt (@pe_ix _ _ _ _ _ _ _ ix_tup (pv 3) pe_int (fun _ _=>rfl)) pe_int (@nomark _ _ (by decide) (by decide))) (@pss_one _ _ _ ps_never) pss_nil)) (by intro _ ; rfl))))),?_⟩
 rw [show start ["web","place","deed","out"] [.ref x]=[some (.ref x),none,none,none] from rfl]
 have h1:=W.tup
 refine mid_of (fun σ H1=>∃ (o1 o2:Option V),σ = [some (.ref x),o1,o2,none] /\ Same H H1) (fun N hN=>?_) ?_
 ·(iterate 5 ((try (walk_at "WP")); (try (simp only [h1,qJs,qJt,qJl,qJd,exists_eq_left',exists_eq_left])))); (try (walk_at "WP"))
  refine ⟨_,SqL.of W.dll,?_⟩
  refine forE (xs:=us) (fun i σ H1=>∃ (o1 o2:Option V),σ = [some (.ref x),o1,o2,none] /\ Same H H1) ⟨_,_,rfl,(fun _ _ z=>z)⟩ ?_ ?_ ?_
  ·rintro i σ H1 _ ⟨_,_,_,s1⟩
   exact SqL.of (s1 _ _ W.dll)
  ·rintro i v t σ H1 N2 hv ht ⟨o1,o2,rfl,s1⟩ hN2
   have hi:i < ds.length:=by rw [← W.hds.len]; exact (qB.mp hv).1
   obtain ⟨y,hy1,hy2⟩:=W.hds.at_ i _ (qA hi)
   have hdi:ds[i]? = some ds[i]:=qA hi
   generalize ds[i]=d at hy2 hdi
   rw [hv] at hy1
   cases hy1
   obtain ⟨k1,k2⟩:=hds d (qE hdi)
   have st:=same_new ht (.tup [V.int (i:Int),.ref y])
   have hy3:upd H1 t (.tup [V.int (i:Int),.ref y]) y=some (.tup (wTup d)):=st _ _ (s1 _ _ hy2)
   have h9:upd H1 t (.tup [V.int (i:Int),.ref y]) t=some (.tup [V.int (i:Int),.ref y]):=upd_same
   have s2:=s1.trans st
   generalize upd H1 t (.tup [V.int (i:Int),.ref y])=H2 at hy3 h9 s2 ⊢
   unfold wTup at hy3
   (iterate 5 ((try (walk_at "WP")); (try (simp only [h9,qJs,qJt,qJl,qJd,exists_eq_left',exists_eq_left])))); (try (walk_at "WP"))
   (iterate 5 ((try (walk_at "WP")); (try (simp only [hy3,qJs,qJt,qJl,qJd,exists_eq_left',exists_eq_left])))); (try (walk_at "WP"))
   rw [if_neg (by omega)]
   refine ⟨_,rfl,?_⟩
   try walk_at "WP"
   rw [if_neg (by omega)]
   exact hN2 _ _ ⟨_,_,rfl,s2⟩
  ·rintro σ H1 ⟨o1,o2,rfl,s1⟩
   exact hN _ _ ⟨_,_,rfl,s1⟩
 ·rintro σ H1 ⟨o1,o2,rfl,s1⟩
  have h2:=s1 _ _ h1
  (iterate 5 ((try (walk_at "WP")); (try (simp only [h2,qJs,qJt,qJl,qJd,exists_eq_left',exists_eq_left])))); (try (walk_at "WP"))
  refine ⟨_,SqL.of (s1 _ _ W.gll),?_⟩
  refine forE (xs:=os) (fun i σ H1=>∃ (o1 o2 o3:Option V),σ = [some (.ref x),o1,o2,o3] /\ Same H H1) ⟨_,_,_,rfl,s1⟩ ?_ ?_ ?_
  ·rintro i σ H1 _ ⟨_,_,_,_,s1⟩
   exact SqL.of (s1 _ _ W.gll)
  ·rintro i v t σ H1 N2 hv ht ⟨o1,o2,o3,rfl,s1⟩ hN2
   have hi:i < gs.length:=by rw [← W.hgs.len]; exact (qB.mp hv).1
   obtain ⟨y,hy1,hy2⟩:=W.hgs.at_ i _ (qA hi)
   have hgi:gs[i]? = some gs[i]:=qA hi
   generalize gs[i]=g at hy2 hgi
   rw [hv] at hy1
   cases hy1
   have k1:=hgs g (qE hgi)
   have st:=same_new ht (.tup [V.int (i:Int),.ref y])
   have hy3:=st.seqT (s1.seqT hy2)
   have h9:upd H1 t (.tup [V.int (i:Int),.ref y]) t=some (.tup [V.int (i:Int),.ref y]):=upd_same
   have s2:=s1.trans st
   generalize upd H1 t (.tup [V.int (i:Int),.ref y])=H2 at hy3 h9 s2 ⊢
   unfold gTp at hy3
   (iterate 5 ((try (walk_at "WP")); (try (simp only [h9,qJs,qJt,qJl,qJd,exists_eq_left',exists_eq_left])))); (try (walk_at "WP"))
   refine ⟨_,hy3,_,rfl,?_⟩
   try walk_at "WP"
   rw [if_neg (by omega)]
   exact hN2 _ _ ⟨_,_,_,rfl,s2⟩
  ·rintro σ H1 ⟨o1,o2,o3,rfl,s1⟩
   try walk_at "WP"
   exact q _ s1
end
section
variable {P:Program}{w:World}{K:PySem.W.Frag}{mg:Str -> Option Value}{base:Heap}
theorem ok_movE (T:Txt K mg):Cal P w K mg base 1 "moved" ["part","shift","sign"] (spMovE K):=by
 have B:=T.bl
 obtain ⟨cst_NO_OUT,mg_NO_OUT,hcst⟩:=T.c_NO_OUT
 refine mkCal T.t_moved sc_moved (fun vs H Q E h=>?_) (fun f cdv A outer s H vs Q E hr h=>?_)
 ·obtain ⟨_,_,_,_,rfl,_⟩:=h
  rfl
 obtain ⟨p,G,sh,g,rfl,hp,hg,q⟩:=h
 unfold gTp at hp
 refine ⟨_,((@pss_cons _ _ _ _ _ (@ps_if _ _ _ _ _ _ _ _ (@pt_cmpR _ _ _ _ _ _ _ _ op_eq (@pe_op _ _ _ _ _ _ _ _ op_mulB (@pe_ix _ _ _ _ _ _ _ ix_tup (pv 0) pe_int (fun _ _=>rfl)) (pv 2)) pe_int (@nomark _ _ (by decide) (by decide))) (@pss_one _ _ _ (@ps_ret _ _ _ _ (@pe_glob _ _ (.ref cst_NO_OUT) _ _ rfl mg_NO_OUT rfl (by decide)))) pss_nil) (@pss_one _ _ _ (@ps_ret _ _ _ _ (@pe_tup _ _ _ _ _ (@pa_cons _ _ _ _ _ (@pe_ix _ _ _ _ _ _ _ ix_tup (pv 0) pe_int (fun _ _=>rfl)) (@pa_cons _ _ _ _ _ (@pe_op _ _ _ _ _ _ _ _ op_add (@pe_ix _ _ _ _ _ _ _ ix_tup (pv 0) pe_int (fun _ _=>rfl)) (pv 1)) (@pa_cons _ _ _ _ _ (@pe_op _ _ _ _ _ _ _ _ op_mulB (@pe_ix _ _ _ _ _ _ _ ix_tup (pv 0) pe_int (fun _ _=>rfl)) (pv 2)) pa_nil (by rfl)) (by rfl)) (by rfl))))))),?_⟩
 rw [show start ["part","shift","sign"] [.ref p,.int sh,.int g]=[some (.ref p),some (.int sh),some (.int g)] from rfl]
 try walk_at "WP"
 refine ⟨_,hp,_,rfl,?_⟩
 try walk_at "WP"
 have ml:IntMulOk G.sg g:=by rcases hg with z | z | z <;> rw [z] <;> exact mul_r (by decide) (by decide)
 refine ⟨ml,?_⟩
 refine ite2 (fun z=>?_) (fun z=>?_)
 ·refine q _ _ (Same.refl _) ?_
  unfold movG
  rw [if_pos z]
  exact hcst.sq H
 ·refine ⟨_,hp,_,rfl,_,hp,_,rfl,?_⟩
  try walk_at "WP"
  refine ⟨_,hp,_,rfl,?_⟩
  try walk_at "WP"
  refine ⟨ml,fun r hr0=>?_⟩
  refine q _ _ (same_new hr0 _) ?_
  unfold movG
  rw [if_neg z]
  exact SqT.of upd_same
theorem ok_partsE (T:Txt K mg):Cal P w K mg base 2 "parts_of" ["deed"] spPartsE:=by
 have B:=T.bl
 have C_second_sign:=ok_second (P:=P) (w:=w) (base:=base) T
 refine mkCal T.t_parts_of sc_parts_of (fun vs H Q E h=>?_) (fun f cdv A outer s H vs Q E hr h=>?_)
 ·obtain ⟨_,_,rfl,_⟩:=h
  rfl
 obtain ⟨x,d,rfl,hx,hw,q⟩:=h
 refine ⟨_,((@pss_one _ _ _ (@ps_ret _ _ _ _ (@pe_lst _ _ _ _ (@pa_cons _ _ _ _ _ (@pe_tup _ _ _ _ _ (@pa_cons _ _ _ _ _ (@pe_ix _ _ _ _ _ _ _ ix_U (pv 0) pe_int (fun _ _=>rfl)) (@pa_cons _ _ _ _ _ (@pe_ix _ _ _ _ _ _ _ ix_U (pv 0) pe_int (fun _ _=>rfl)) (@pa_cons _ _ _ _ _ pe_int pa_nil (by rfl)) (by rfl)) (by rfl))) (@pa_cons _ _ _ _ _ (@pe_tup _ _ _ _ _ (@pa_cons _ _ _ _ _ (@pe_ix _ _ _ _ _ _ _ ix_U (pv 0) pe_int (fun _ _=>rfl)) (@pa_cons _ _ _ _ _ (@pe_ix _ _ _ _ _ _ _ ix_U (pv 0) pe_int (fun _ _=>rfl)) (@pa_cons _ _ _ _ _ (@pe_cal _ _ _ _ _ _ _ _ _ _ C_second_sign hr rfl (@pa_cons _ _ _ _ _ (pv 0) pa_nil (by rfl)) (by decide) (by rfl) (by rfl)) pa_nil (by rfl)) (by rfl)) (by rfl))) pa_nil (by rfl)) (by rfl)))))),?_⟩
 rw [show start ["deed"] [.ref x]=[some (.ref x)] from rfl]
 have hx':=hx
 unfold wTup at hx'
 (iterate 5 ((try (walk_at "WP")); (try (simp only [hx',qJs,qJt,qJl,qJd,exists_eq_left',exists_eq_left])))); (try (walk_at "WP"))
 intro p1 n1
 have s1:=same_new n1 (.tup [V.int (d.a:Int),V.int d.s,V.int 1])
 have h1:upd H p1 (.tup [V.int (d.a:Int),V.int d.s,V.int 1]) p1=some (.tup (gTp ⟨d.a,d.s,1⟩)):=upd_same
 have hx1:=s1 _ _ hx
 have hx2:=s1 _ _ hx'
 generalize upd H p1 (.tup [V.int (d.a:Int),V.int d.s,V.int 1])=H1 at s1 h1 hx1 hx2 ⊢
 (iterate 5 ((try (walk_at "WP")); (try (simp only [hx2,qJs,qJt,qJl,qJd,exists_eq_left',exists_eq_left])))); (try (walk_at "WP"))
 refine ⟨_,rfl,x,d,rfl,hx1,?_⟩
 try walk_at "WP"
 intro p2 n2
 have s2:=same_new n2 (.tup [V.int (d.b:Int),V.int d.t,V.int (sgW d.w)])
 have h2:upd H1 p2 (.tup [V.int (d.b:Int),V.int d.t,V.int (sgW d.w)]) p2=some (.tup (gTp ⟨d.b,d.t,sgW d.w⟩)):=upd_same
 have h12:=s2 _ _ h1
 generalize upd H1 p2 (.tup [V.int (d.b:Int),V.int d.t,V.int (sgW d.w)])=H2 at s2 h2 h12 ⊢
 intro r nr
 have s3:=same_new nr (.lst [V.ref p1,V.ref p2])
 refine q r _ _ ((s1.trans s2).free nr) ((s1.trans s2).trans s3) upd_same ?_
 exact ((hts_nil (f:=gTp)).snoc (s3 _ _ h12)).snoc (s3 _ _ h2)
theorem ok_mpE (T:Txt K mg):Cal P w K mg base 2 "moved_parts" ["parts","stands"] (spMPE K):=by
 have B:=T.bl
 have C_moved:=ok_movE (P:=P) (w:=w) (base:=base) T
 refine mkCal T.t_moved_parts sc_moved_parts (fun vs H Q E h=>?_) (fun f cdv A outer s H vs Q E hr h=>?_)
 ·obtain ⟨_,_,_,_,_,_,rfl,_⟩:=h
  rfl
 obtain ⟨l,m,os,ss,gs,st,rfl,hl,hgs,hm,hst,hg,g12,q⟩:=h
 have ol:=hgs.len
 refine ⟨_,((@pss_one _ _ _ (@ps_ret _ _ _ _ (@pe_comp0 _ _ _ _ _ _ _ _ (["thing","shift","sign","stands"]) (3) ([1]) _ _ _ rfl (@pi_list _ _ _ _ (pv 0)) (fun nd C s H fp=>⟨(@pg_tupM _ _ _ _ _ 3 rfl (@pgs_cons _ _ _ _ _ (@pg_name _ _ (0) _ nd rfl (by walk_at "o") (by walk_at "o")) (@pgs_cons _ _ _ _ _ (@pg_name _ _ (1) _ nd rfl (by walk_at "o") (by walk_at "o")) (@pgs_cons _ _ _ _ _ (@pg_name _ _ (2) _ nd rfl (by walk_at "o") (by walk_at "o")) pgs_nil (by rfl)) (by rfl)) (by rfl)) (by rfl) (by rfl)),pn_nil,(@pe_cal _ _ _ _ _ _ _ _ _ _ C_moved hr rfl (@pa_cons _ _ _ _ _ (@pe_ix _ _ _ _ _ _ _ ix_M (pv 3) (pv 0) (fun _ _=>rfl)) (@pa_cons _ _ _ _ _ (pv 1) (@pa_cons _ _ _ _ _ (pv 2) pa_nil (by rfl)) (by rfl)) (by rfl)) (by decide) (by rfl) (by rfl))⟩) (by decide +kernel) (by first | rfl | decide +kernel) (by first | rfl | decide +kernel) rfl (fun _=>rfl))))),?_⟩
 rw [show start ["parts","stands"] [.ref l,.ref m]=[some (.ref l),some (.ref m)] from rfl]
 try walk_at "WP"
 refine ⟨⟨_,SqL.of hl⟩,?_⟩
 refine comp_any os.length (fun acc i ws H'=>Same H H' /\ H' acc=some (.lst ws) /\ HKs K gTp H' ws (mvs st (gs.take i))) (le_size (by omega)) ?_ ?_ ?_ ?_ ?_ ?_
 ·rintro acc i ws H' hi ⟨s',_⟩
  exact ⟨os,os[i],SqL.of (s' _ _ hl),qA hi⟩
 ·rintro acc ws H' ⟨s',_⟩
  exact ⟨os,SqL.of (s' _ _ hl),Nat.le_refl _⟩
 ·intro acc ha
  exact ⟨same_new ha _,upd_same,hks_nil⟩
 ·rintro acc i ws H' ⟨_,ha,hw⟩
  have:=hw.len
  unfold mvs at this
  rw [qC,qO] at this
  exact ⟨ha,by omega⟩
 ·rintro acc i ws H' ts x H2 N hn hi ⟨s',ha,hw⟩ ⟨rfl,hx0⟩ hts hN
  have hx:=hx0 os (SqL.of (s' _ _ hl))
  have hgi:gs[i]? = some (gs[i]'(by omega)):=qA _
  generalize gs[i]'(by omega)=g at hgi
  obtain ⟨yp,hy1,hy2⟩:=hgs.at_ i g hgi
  rw [hx] at hy1
  cases hy1
  obtain ⟨t0,t1,t2,rfl⟩:∃ t0 t1 t2,ts=[t0,t1,t2]:=by
   match ts,hts with
   | [a,b,c],_=>exact ⟨a,b,c,rfl⟩
  have hp2:=s' _ _ hy2
  unfold gTp at hp2
  have hm2:=s' _ _ hm
  rw [show capV [1] [some (V.ref l),some (V.ref m)]=[some (V.ref m)] from rfl,List.cons_append,List.cons_append,List.cons_append,List.nil_append]
  (iterate 5 ((try (walk_at "WP")); (try (simp only [hp2,hm2,qJs,qJt,qJl,qJd,exists_eq_left',exists_eq_left])))); (try (walk_at "WP"))
  obtain ⟨gl,gg⟩:=hg g (qE hgi)
  have eg:=qA gl
  obtain ⟨sp,e1,e2⟩:=hst.at_ g.th _ eg
  refine ⟨_,atI_nat e1,?_⟩
  refine ⟨sp,st.getD g.th g0,g.sh,g.sg,rfl,by rw [getD_of eg]; exact s'.seqT e2,gg,fun r H5 s5 hr5=>?_⟩
  have ha5:=s5 _ _ ha
  refine ⟨ha5,hN _ [_,_,_] _ rfl ⟨same_upd hn (s'.trans s5),upd_same,?_⟩⟩
  have tk:mvs st (gs.take (i+1))=mvs st (gs.take i) ++ [movG (st.getD g.th g0) g.sh g.sg]:=by
   unfold mvs
   rw [List.take_add_one,hgi,List.map_append]
   rfl
  rw [tk]
  exact (((hw.same s5).snoc hr5).chgL ha5 (Chg.upd _))
 ·rintro acc ws H' hn ⟨s',ha,hw⟩
  rw [ol,List.take_length] at hw
  exact q acc ws H' hn s' ha hw
theorem ok_deedE (T:Txt K mg):Cal P w K mg base 1 "deed_of" ["one","other"] (spDeedE K):=by
 have B:=T.bl
 refine mkCal T.t_deed_of sc_deed_of (fun vs H Q E h=>?_) (fun f cdv A outer s H vs Q E hr h=>?_)
 ·obtain ⟨_,_,_,_,rfl,_⟩:=h
  rfl
 obtain ⟨p1,p2,G,R,rfl,h1,h2,q⟩:=h
 unfold gTp at h1 h2
 refine ⟨_,((@pss_cons _ _ _ _ _ (@ps_if _ _ _ _ _ _ _ _ (@pt_cmpR _ _ _ _ _ _ _ _ op_eq (@pe_ix _ _ _ _ _ _ _ ix_tup (pv 0) pe_int (fun _ _=>rfl)) (@pe_ix _ _ _ _ _ _ _ ix_tup (pv 1) pe_int (fun _ _=>rfl)) (@nomark _ _ (by decide) (by decide))) (@pss_one _ _ _ (@ps_ret _ _ _ _ (@pe_tup _ _ _ _ _ (@pa_cons _ _ _ _ _ pe_str (@pa_cons _ _ _ _ _ (@pe_ix _ _ _ _ _ _ _ ix_tup (pv 0) pe_int (fun _ _=>rfl)) (@pa_cons _ _ _ _ _ (@pe_ix _ _ _ _ _ _ _ ix_tup (pv 0) pe_int (fun _ _=>rfl)) (@pa_cons _ _ _ _ _ (@pe_ix _ _ _ _ _ _ _ ix_tup (pv 1) pe_int (fun _ _=>rfl)) (@pa_cons _ _ _ _ _ (@pe_ix _ _ _ _ _ _ _ ix_tup (pv 1) pe_int (fun _ _=>rfl)) pa_nil (by rfl)) (by rfl)) (by rfl)) (by rfl)) (by rfl))))) pss_nil) (@pss_cons _ _ _ _ _ (@ps_if _ _ _ _ _ _ _ _ (@pt_cmpR _ _ _ _ _ _ _ _ op_eq (@pe_ix _ _ _ _ _ _ _ ix_tup (pv 0) pe_int (fun _ _=>rfl)) pe_int (@nomark _ _ (by decide) (by decide))) (@pss_one _ _ _ (@ps_ret _ _ _ _ (@pe_tup _ _ _ _ _ (@pa_cons _ _ _ _ _ pe_str (@pa_cons _ _ _ _ _ (@pe_ix _ _ _ _ _ _ _ ix_tup (pv 0) pe_int (fun _ _=>rfl)) (@pa_cons _ _ _ _ _ (@pe_ix _ _ _ _ _ _ _ ix_tup (pv 0) pe_int (fun _ _=>rfl)) (@pa_cons _ _ _ _ _ (@pe_ix _ _ _ _ _ _ _ ix_tup (pv 1) pe_int (fun _ _=>rfl)) (@pa_cons _ _ _ _ _ (@pe_ix _ _ _ _ _ _ _ ix_tup (pv 1) pe_int (fun _ _=>rfl)) pa_nil (by rfl)) (by rfl)) (by rfl)) (by rfl)) (by rfl))))) pss_nil) (@pss_one _ _ _ (@ps_ret _ _ _ _ (@pe_tup _ _ _ _ _ (@pa_cons _ _ _ _ _ pe_str (@pa_cons _ _ _ _ _ (@pe_ix _ _ _ _ _ _ _ ix_tup (pv 1) pe_int (fun _ _=>rfl)) (@pa_cons _ _ _ _ _ (@pe_ix _ _ _ _ _ _ _ ix_tup (pv 1) pe_int (fun _ _=>rfl)) (@pa_cons _ _ _ _ _ (@pe_ix _ _ _ _ _ _ _ ix_tup (pv 0) pe_int (fun _ _=>rfl)) (@pa_cons _ _ _ _ _ (@pe_ix _ _ _ _ _ _ _ ix_tup (pv 0) pe_int (fun _ _=>rfl)) pa_nil (by rfl)) (by rfl)) (by rfl)) (by rfl)) (by rfl)))))))),?_⟩
 rw [show start ["one","other"] [.ref p1,.ref p2]=[some (.ref p1),some (.ref p2)] from rfl]
 try walk_at "WP"
 refine ⟨_,h1,_,rfl,_,h2,_,rfl,?_⟩
 try walk_at "WP"
 refine ite2 (fun z=>?_) (fun z=>?_)
 ·exact ⟨_,h1,_,rfl,_,h1,_,rfl,_,h2,_,rfl,_,h2,_,rfl,fun r hr0=>q r _ hr0 (same_new hr0 _) (by unfold deedG; rw [if_pos z,upd_same]; rfl)⟩
 ·refine ⟨_,h1,_,rfl,?_⟩
  try walk_at "WP"
  refine ite2 (fun y=>?_) (fun y=>?_)
  ·exact ⟨_,h1,_,rfl,_,h1,_,rfl,_,h2,_,rfl,_,h2,_,rfl,fun r hr0=>q r _ hr0 (same_new hr0 _) (by unfold deedG; rw [if_neg z,if_pos y,upd_same]; rfl)⟩
  ·exact ⟨_,h2,_,rfl,_,h2,_,rfl,_,h1,_,rfl,_,h1,_,rfl,fun r hr0=>q r _ hr0 (same_new hr0 _) (by unfold deedG; rw [if_neg z,if_neg y,upd_same]; rfl)⟩
theorem ok_signE (T:Txt K mg):Cal P w K mg base 1 "sign_of" ["one","other"] (spSignE K):=by
 have B:=T.bl
 refine mkCal T.t_sign_of sc_sign_of (fun vs H Q E h=>?_) (fun f cdv A outer s H vs Q E hr h=>?_)
 ·obtain ⟨_,_,_,_,rfl,_⟩:=h
  rfl
 obtain ⟨p1,p2,G,R,rfl,h1,h2,q⟩:=h
 unfold gTp at h1 h2
 refine ⟨_,((@pss_one _ _ _ (@ps_ret _ _ _ _ (@pe_ifExp _ _ _ _ _ _ _ _ (@pt_cmpR _ _ _ _ _ _ _ _ op_eq (@pe_ix _ _ _ _ _ _ _ ix_tup (pv 0) pe_int (fun _ _=>rfl)) (@pe_ix _ _ _ _ _ _ _ ix_tup (pv 1) pe_int (fun _ _=>rfl)) (@nomark _ _ (by decide) (by decide))) (@pe_ix _ _ _ _ _ _ _ ix_tup (pv 0) pe_int (fun _ _=>rfl)) pe_int)))),?_⟩
 rw [show start ["one","other"] [.ref p1,.ref p2]=[some (.ref p1),some (.ref p2)] from rfl]
 try walk_at "WP"
 refine ⟨_,h1,_,rfl,_,h2,_,rfl,?_⟩
 try walk_at "WP"
 unfold signG at q
 refine ite2 (fun z=>?_) (fun z=>?_)
 ·rw [if_pos z] at q
  exact ⟨_,h1,_,rfl,q⟩
 ·rw [if_neg z] at q
  exact q
theorem ok_addE (T:Txt K mg):Cal P w K mg base 2 "add_sum" ["ins","deeds","one","other"] (spAddE K):=by
 have B:=T.bl
 have C_deed_of:=ok_deedE (P:=P) (w:=w) (base:=base) T
 have C_sign_of:=ok_signE (P:=P) (w:=w) (base:=base) T
 refine mkCal T.t_add_sum sc_add_sum (fun vs H Q E h=>?_) (fun f cdv A outer s H vs Q E hr h=>?_)
 ·obtain ⟨_,_,_,_,_,_,_,_,rfl,_⟩:=h
  rfl
 obtain ⟨ins,l,p1,p2,us,ds,G,R,rfl,hl,hds,h1,h2,ul,q⟩:=h
 have h1':=h1
 have h2':=h2
 unfold gTp at h1' h2'
 refine ⟨_,((@pss_cons _ _ _ _ _ (@ps_if _ _ _ _ _ _ _ _ (@pt_cmpR _ _ _ _ _ _ _ _ op_eq (@pe_ix _ _ _ _ _ _ _ ix_tup (pv 2) pe_int (fun _ _=>rfl)) pe_int (@nomark _ _ (by decide) (by decide))) (@pss_one _ _ _ (@ps_ret _ _ _ _ (pv 3))) pss_nil) (@pss_cons _ _ _ _ _ (@ps_if _ _ _ _ _ _ _ _ (@pt_cmpR _ _ _ _ _ _ _ _ op_eq (@pe_ix _ _ _ _ _ _ _ ix_tup (pv 3) pe_int (fun _ _=>rfl)) pe_int (@nomark _ _ (by decide) (by decide))) (@pss_one _ _ _ (@ps_ret _ _ _ _ (pv 2))) pss_nil) (@pss_cons _ _ _ _ _ (@ps_expr _ _ _ _ (@pe_bm _ _ _ _ _ _ _ _ _ _ _ _ PySem.F.plainAttrs_list PySem.F.slot_list_append PySem.F.type_list_append mt_append (pv 1) (@pa_cons _ _ _ _ _ (@pe_cal _ _ _ _ _ _ _ _ _ _ C_deed_of hr rfl (@pa_cons _ _ _ _ _ (pv 2) (@pa_cons _ _ _ _ _ (pv 3) pa_nil (by rfl)) (by rfl)) (by decide) (by rfl) (by rfl)) pa_nil (by rfl)) (by rfl) (by rfl) (by rfl) (by rfl) (by rfl)) (by rfl)) (@pss_one _ _ _ (@ps_ret _ _ _ _ (@pe_tup _ _ _ _ _ (@pa_cons _ _ _ _ _ (@pe_op _ _ _ _ _ _ _ _ op_sub (@pe_op _ _ _ _ _ _ _ _ op_add (pv 0) (@pe_callB _ _ _ _ _ _ _ _ _ call_lenM rfl B.len bo_len (@pa_cons _ _ _ _ _ (pv 1) pa_nil (by rfl)) (by decide) (by decide) (by rfl) (by rfl))) pe_int) (@pa_cons _ _ _ _ _ pe_int (@pa_cons _ _ _ _ _ (@pe_cal _ _ _ _ _ _ _ _ _ _ C_sign_of hr rfl (@pa_cons _ _ _ _ _ (pv 2) (@pa_cons _ _ _ _ _ (pv 3) pa_nil (by rfl)) (by rfl)) (by decide) (by rfl) (by rfl)) pa_nil (by rfl)) (by rfl)) (by rfl))))))))),?_⟩
 rw [show start ["ins","deeds","one","other"] [.int (ins:Int),.ref l,.ref p1,.ref p2]=[some (.int (ins:Int)),some (.ref l),some (.ref p1),some (.ref p2)] from rfl]
 try walk_at "WP"
 refine ⟨_,h1',_,rfl,?_⟩
 try walk_at "WP"
 unfold addG addP at q
 refine ite2 (fun z=>?_) (fun z=>?_)
 ·rw [if_pos z,if_pos z] at q
  exact q _ _ _ (fun _ _ _ y=>y) hl hds h2
 rw [if_neg z,if_neg z] at q
 refine ⟨_,h2',_,rfl,?_⟩
 try walk_at "WP"
 refine ite2 (fun y=>?_) (fun y=>?_)
 ·rw [if_pos y,if_pos y] at q
  exact q _ _ _ (fun _ _ _ y=>y) hl hds h1
 rw [if_neg y,if_neg y] at q
 refine ⟨ty_list hl,?_⟩
 refine ⟨_,_,_,_,rfl,h1,h2,fun r H1 nr s1 hr1=>?_⟩
 have hl1:=s1 _ _ hl
 (iterate 5 ((try (walk_at "WP")); (try (simp only [hl1,qJs,qJt,qJl,qJd,exists_eq_left',exists_eq_left])))); (try (walk_at "WP"))
 refine ⟨lt_big (by omega),?_⟩
 have C2:Chg l H1 (upd H1 l (.lst (us ++ [.ref r]))):=Chg.upd _
 have hl2:upd H1 l (.lst (us ++ [.ref r])) l=some (.lst (us ++ [.ref r])):=upd_same
 have rl:r ≠ l:=(ne_of_none hl nr).symm
 have hr2:=C2 _ _ rl hr1
 have hds2:=((hds.same s1).chgL hl1 C2).snoc hr2
 have hu2:=sqT_chg (s1.seqT h1) hl1 C2
 have hv2:=sqT_chg (s1.seqT h2) hl1 C2
 have dsl:=hds.len
 generalize upd H1 l (.lst (us ++ [.ref r]))=H2 at C2 hl2 hu2 hv2 hds2 ⊢
 (iterate 5 ((try (walk_at "WP")); (try (simp only [hl2,qJs,qJt,qJl,qJd,exists_eq_left',exists_eq_left])))); (try (walk_at "WP"))
 refine ⟨_,_,_,_,rfl,hu2,hv2,?_⟩
 try walk_at "WP"
 intro t ht
 have st:=same_new ht (.tup [V.int ((ins:Int)+((us ++ [V.ref r]).length:Nat) - 1),V.int 0,V.int (signG G R)])
 refine q _ _ _ ((s1.chg.trans C2).trans st.chg) (st _ _ hl2) (hds2.same st) (SqT.of ?_)
 rw [upd_same]
 unfold gTp
 rw [show ((ins:Int)+((us ++ [V.ref r]).length:Nat) - 1)=((ins+ds.length:Nat):Int) by rw [qF,dsl,List.length_singleton]; omega]
theorem ok_behE (T:Txt K mg):Cal P w K mg base 4 "behind" ["one","other"] (spBehE K):=by
 have B:=T.bl
 have C_moved_parts:=(ok_mpE (P:=P) (w:=w) (base:=base) T).mono (k:=3) (by decide)
 have C_parts_of:=(ok_partsE (P:=P) (w:=w) (base:=base) T).mono (k:=3) (by decide)
 have C_add_sum:=(ok_addE (P:=P) (w:=w) (base:=base) T).mono (k:=3) (by decide)
 refine mkCal T.t_behind sc_behind (fun vs H Q E h=>?_) (fun f cdv A outer s H vs Q E hr h=>?_)
 ·obtain ⟨_,_,_,_,_,_,_,_,_,_,_,_,_,_,_,_,rfl,_⟩:=h
  rfl
 obtain ⟨a,b,d1,g1,d2,g2,ins,m0,u1,u2,s1,s2,o1,o2,t1,t2,rfl,W1,W2,O2,tm,sl60,hsg,q⟩:=h
 refine ⟨_,((@pss_cons _ _ _ _ _ (@ps_if _ _ _ _ _ _ _ _ (@pt_cmpR _ _ _ _ _ _ _ _ op_ne (@pe_callB _ _ _ _ _ _ _ _ _ call_lenM rfl B.len bo_len (@pa_cons _ _ _ _ _ (@pe_ix _ _ _ _ _ _ _ ix_U (pv 0) pe_int (fun _ _=>rfl)) pa_nil (by rfl)) (by decide) (by decide) (by rfl) (by rfl)) (@pe_ix _ _ _ _ _ _ _ ix_U (pv 1) pe_int (fun _ _=>rfl)) (@nomark _ _ (by decide) (by decide))) (@pss_one _ _ _ ps_never) pss_nil) (@pss_cons _ _ _ _ _ (@ps_set _ _ (2) _ _ _ _ sc_behind.nd rfl (by walk_at "o") (@pe_ix _ _ _ _ _ _ _ ix_U (pv 0) pe_int (fun _ _=>rfl)) (by rfl) (by walk_at "o")) (@pss_cons _ _ _ _ _ (@ps_set _ _ (3) _ _ _ _ sc_behind.nd rfl (by walk_at "o") (@pe_callTy _ _ _ _ _ _ _ _ _ call_list_of rfl B.list bo_list (@pa_cons _ _ _ _ _ (@pe_ix _ _ _ _ _ _ _ ix_U (pv 0) pe_int (fun _ _=>rfl)) pa_nil (by rfl)) (by decide) (by decide) (by rfl) (by rfl)) (by rfl) (by walk_at "o")) (@pss_cons _ _ _ _ _ (@ps_set _ _ (4) _ _ _ _ sc_behind.nd rfl (by walk_at "o") (@pe_callTy _ _ _ _ _ _ _ _ _ call_list_of rfl B.list bo_list (@pa_cons _ _ _ _ _ (@pe_ix _ _ _ _ _ _ _ ix_U (pv 0) pe_int (fun _ _=>rfl)) pa_nil (by rfl)) (by decide) (by decide) (by rfl) (by rfl)) (by rfl) (by walk_at "o")) (@pss_cons _ _ _ _ _ (@ps_for _ _ _ _ _ _ _ _ PassesOwn.never rfl (@pi_list _ _ _ _ (@pe_ix _ _ _ _ _ _ _ ix_U (pv 1) pe_int (fun _ _=>rfl))) (@pg_name _ _ (5) _ sc_behind.nd rfl (by walk_at "o") (by walk_at "o")) (@pss_cons _ _ _ _ _ (@ps_set _ _ (6) _ _ _ _ sc_behind.nd rfl (by walk_at "o") (@pe_cal _ _ _ _ _ _ _ _ _ _ C_moved_parts hr rfl (@pa_cons _ _ _ _ _ (@pe_cal _ _ _ _ _ _ _ _ _ _ C_parts_of hr rfl (@pa_cons _ _ _ _ _ (pv 5) pa_nil (by rfl)) (by decide) (by rfl) (by rfl)) (@pa_cons _ _ _ _ _ (pv 4) pa_nil (by rfl)) (by rfl)) (by decide) (by rfl) (by rfl)) (by rfl) (by walk_at "o")) (@pss_one _ _ _ (@ps_expr _ _ _ _ (@pe_bm _ _ _ _ _ _ _ _ _ _ _ _ PySem.F.plainAttrs_list PySem.F.slot_list_append PySem.F.type_list_append mt_append (pv 4) (@pa_cons _ _ _ _ _ (@pe_cal _ _ _ _ _ _ _ _ _ _ C_add_sum hr rfl (@pa_cons _ _ _ _ _ (pv 2) (@pa_cons _ _ _ _ _ (pv 3) (@pa_cons _ _ _ _ _ (@pe_ix _ _ _ _ _ _ _ ix_M (pv 6) pe_int (fun _ _=>rfl)) (@pa_cons _ _ _ _ _ (@pe_ix _ _ _ _ _ _ _ ix_M (pv 6) pe_int (fun _ _=>rfl)) pa_nil (by rfl)) (by rfl)) (by rfl)) (by rfl)) (by decide) (by rfl) (by rfl)) pa_nil (by rfl)) (by rfl) (by rfl) (by rfl) (by rfl) (by rfl)) (by rfl)))) (by intro _ ; rfl)) (@pss_one _ _ _ (@ps_ret _ _ _ _ (@pe_tup _ _ _ _ _ (@pa_cons _ _ _ _ _ (pv 2) (@pa_cons _ _ _ _ _ (pv 3) (@pa_cons _ _ _ _ _ (@pe_cal _ _ _ _ _ _ _ _ _ _ C_moved_parts hr rfl (@pa_cons _ _ _ _ _ (@pe_ix _ _ _ _ _ _ _ ix_U (pv 1) pe_int (fun _ _=>rfl)) (@pa_cons _ _ _ _ _ (pv 4) pa_nil (by rfl)) (by rfl)) (by decide) (by rfl) (by rfl)) pa_nil (by rfl)) (by rfl)) (by rfl))))))))))),?_⟩
 rw [show start ["one","other","ins","deeds","stands","deed","parts"] [.ref a,.ref b]=[some (.ref a),some (.ref b),none,none,none,none,none] from rfl]
 have e1:=W1.tup
 have e2:=W2.tup
 have l1:=W1.hds.len
 have l2:=W2.hds.len
 have k1:=W1.hgs.len
 have gg1:=W1.gll
 have d60:=O2.dl
 have i12:=O2.i2
 (iterate 5 ((try (walk_at "WP")); (try (simp only [e1,e2,gg1,qJs,qJt,qJl,qJd,exists_eq_left',exists_eq_left])))); (try (walk_at "WP"))
 rw [if_neg (by omega)]
 (iterate 5 ((try (walk_at "WP")); (try (simp only [e1,e2,qJs,qJt,qJl,qJd,exists_eq_left',exists_eq_left])))); (try (walk_at "WP"))
 refine ⟨u1,.inl (SqL.of W1.dll),fun l nl=>?_⟩
 have sl:=same_new nl (.lst u1)
 have hl:upd H l (.lst u1) l=some (.lst u1):=upd_same
 generalize upd H l (.lst u1)=H1 at sl hl ⊢
 have t11:=sl _ _ e1
 (iterate 5 ((try (walk_at "WP")); (try (simp only [t11,qJs,qJt,qJl,qJd,exists_eq_left',exists_eq_left])))); (try (walk_at "WP"))
 refine ⟨o1,.inl (SqL.of (sl _ _ gg1)),fun m nm=>?_⟩
 have sm':=same_new nm (.lst o1)
 have hm:upd H1 m (.lst o1) m=some (.lst o1):=upd_same
 have hl2:=sm' _ _ hl
 have sm:=sl.trans sm'
 have nm0:H m=none:=sl.free nm
 have lm:l ≠ m:=ne_of_none hl nm
 generalize upd H1 m (.lst o1)=H2 at sm hm hl2 ⊢
 have t22:=sm _ _ e2
 (iterate 5 ((try (walk_at "WP")); (try (simp only [t22,qJs,qJt,qJl,qJd,exists_eq_left',exists_eq_left])))); (try (walk_at "WP"))
 refine ⟨⟨_,SqL.of (sm _ _ W2.dll)⟩,?_⟩
 refine forL (xs:=u2) (fun k σ H'=>∃ (xs ys:List V) (o5 o6:Option V),σ = [some (.ref a),some (.ref b),some (.int ins),some (.ref l),some (.ref m),o5,o6] /\ Same H H' /\ H' l=some (.lst xs) /\ HTs wTup H' xs (behF ins (s1,t1) (s2.take k)).1 /\ xs.length <= s1.length+k /\ H' m=some (.lst ys) /\ HKs K gTp H' ys (behF ins (s1,t1) (s2.take k)).2 /\ ys.length=m0+k) ⟨u1,o1,none,none,rfl,sm,hl2,W1.hds.same sm,by omega,hm,(W1.hgs.same sm).hk,by omega⟩ ?_ ?_ ?_
 ·rintro k σ H' _ ⟨_,_,_,_,_,S,_⟩
  exact SqL.of (S _ _ W2.dll)
 ·rintro k x σ H3 N hx ⟨xs,ys,o5,o6,rfl,S3,hl3,hx3,xl,hm3,hy3,yl⟩ hN
  have kl:k < s2.length:=by rw [← l2]; exact (qB.mp hx).1
  have hdk:s2[k]? = some s2[k]:=qA kl
  generalize s2[k]=d at hdk
  obtain ⟨yp,hy1,hy2⟩:=W2.hds.at_ k d hdk
  rw [hx] at hy1
  cases hy1
  obtain ⟨da,db,dw⟩:=O2.dk k d hdk
  have tk:behF ins (s1,t1) (s2.take (k+1))=behT ins (behF ins (s1,t1) (s2.take k)) d:=by rw [List.take_add_one,hdk]; exact behF_snoc _ _ _ _
  have stl:=hy3.len
  generalize behF ins (s1,t1) (s2.take k)=a0 at hx3 hy3 tk stl
  obtain ⟨D,st⟩:=a0
  dsimp only at hx3 hy3 stl
  have sgd:sgW d.w=1 \/ sgW d.w = -1:=by rcases dw with z | z <;> rw [z] <;> decide
  try walk_at "WP"
  refine ⟨yp,d,rfl,S3 _ _ hy2,dw,fun r us H4 nr s4 hr4 hps=>?_⟩
  try walk_at "WP"
  refine ⟨r,m,us,ys,_,st,rfl,hr4,hps,s4 _ _ hm3,hy3.same s4,fun g hg=>?_,by show 2 <= 12; decide,fun r2 rs H5 nr2 s5 hr5 hrs=>?_⟩
  ·rcases List.mem_cons.mp hg with z | z
   ·rw [z]; exact ⟨by show d.a < _; omega,.inr (.inl rfl)⟩
   ·rw [List.mem_singleton.mp z]; exact ⟨by show d.b < _; omega,.inr sgd⟩
  obtain ⟨pa,ea1,ea2⟩:=hrs.at_ 0 (movG (st.getD d.a g0) d.s 1) rfl
  obtain ⟨pb,eb1,eb2⟩:=hrs.at_ 1 (movG (st.getD d.b g0) d.t (sgW d.w)) rfl
  have s5':=s4.trans s5
  have hm5:=s5' _ _ hm3
  have hl5:=s5' _ _ hl3
  (iterate 5 ((try (walk_at "WP")); (try (simp only [hr5,qJs,qJt,qJl,qJd,exists_eq_left',exists_eq_left])))); (try (walk_at "WP"))
  refine ⟨ty_list hm5,_,atI_nat (j:=0) ea1,_,atI_nat (j:=1) eb1,?_⟩
  refine ⟨ins,l,pa,pb,xs,D,_,_,rfl,hl5,hx3.same s5',ea2,eb2,by omega,fun r6 ys6 H6 c6 hl6 hx6 hr6=>?_⟩
  have hm6:=c6 _ _ lm.symm hm5
  (iterate 5 ((try (walk_at "WP")); (try (simp only [hm6,qJs,qJt,qJl,qJd,exists_eq_left',exists_eq_left])))); (try (walk_at "WP"))
  refine ⟨lt_big (by omega),?_⟩
  have S6:Same H H6:=same_chg nl (S3.trans s5') c6
  have c7:Chg m H6 (upd H6 m (.lst (ys ++ [.ref r6]))):=Chg.upd _
  have yl6:ys6.length <= s1.length+(k+1):=by
   have h6:=hx6.len
   have h3:=hx3.len
   unfold addG at h6
   split at h6
   ·omega
   ·split at h6
    ·omega
    ·rw [qF] at h6; simp at h6; omega
  refine hN _ _ ⟨ys6,_,_,_,rfl,same_chg nm0 S6 c7,c7 _ _ lm hl6,?_,yl6,upd_same,?_,by simp; omega⟩
  ·rw [tk]
   exact hx6.chgL hm6 c7
  ·rw [tk]
   exact (((hy3.same s5').chgL hl5 c6).snoc hr6).chgL hm6 c7
 ·rintro σ H3 ⟨xs,ys,o5,o6,rfl,S3,hl3,hx3,xl,hm3,hy3,yl⟩
  rw [l2,List.take_length] at hx3 hy3
  have t23:=S3 _ _ e2
  have stl:=hy3.len
  (iterate 5 ((try (walk_at "WP")); (try (simp only [t23,qJs,qJt,qJl,qJd,exists_eq_left',exists_eq_left])))); (try (walk_at "WP"))
  refine ⟨g2,m,o2,ys,t2,_,rfl,S3 _ _ W2.gll,W2.hgs.same S3,hm3,hy3,fun g hg=>⟨by have:=O2.gk g hg; omega,hsg g hg⟩,O2.gl,fun r rs H4 nr s4 hr4 hrs=>?_⟩
  try walk_at "WP"
  intro r5 nr5
  have s5:=same_new nr5 (.tup [V.int (ins:Int),V.ref l,V.ref r])
  have lr:l ≠ r:=ne_of_none hl3 nr
  exact q r5 l r xs rs _ ((S3.trans s4).free nr5) nl (S3.free nr) lr ((S3.trans s4).trans s5) ⟨upd_same,s5 _ _ (s4 _ _ hl3),(hx3.same s4).same s5,s5 _ _ hr4,hrs.same s5⟩
end
section
variable {P:Program}{w:World}{K:PySem.W.Frag}{mg:Str -> Option Value}{base:Heap}
theorem ok_turnE (T:Txt K mg):Cal P w K mg base 5 "turned" ["web"] (spTurnE K):=by
 have B:=T.bl
 obtain ⟨cst_NO_OUT,mg_NO_OUT,hcst⟩:=T.c_NO_OUT
 have C_refuse_down:=(ok_refK (P:=P) (w:=w) (base:=base) T).mono (k:=4) (by decide)
 have C_thing_count:=(ok_countK (P:=P) (w:=w) (base:=base) T).mono (k:=4) (by decide)
 have C_arrows:=(ok_arrK (P:=P) (w:=w) (base:=base) T).mono (k:=4) (by decide)
 have C_add_sum:=(ok_addE (P:=P) (w:=w) (base:=base) T).mono (k:=4) (by decide)
 have C_moved:=(ok_movE (P:=P) (w:=w) (base:=base) T).mono (k:=4) (by decide)
 refine mkCal T.t_turned sc_turned (fun vs H Q E h=>?_) (fun f cdv A outer s H vs Q E hr h=>?_)
 ·obtain ⟨_,_,_,_,_,_,_,_,_,_,rfl,_⟩:=h
  rfl
 obtain ⟨x,dl,gl,ins,us,ds,os,gs,μ,Bd,rfl,W,TW,hm,q⟩:=h
 have ok:=TW.ok
 refine ⟨_,((@pss_cons _ _ _ _ _ (@ps_expr _ _ _ _ (@pe_cal _ _ _ _ _ _ _ _ _ _ C_refuse_down hr rfl (@pa_cons _ _ _ _ _ (pv 0) pa_nil (by rfl)) (by decide) (by rfl) (by rfl)) (by rfl)) (@pss_cons _ _ _ _ _ (@ps_set _ _ (1) _ _ _ _ sc_turned.nd rfl (by walk_at "o") (@pe_callB _ _ _ _ _ _ _ _ _ call_lenM rfl B.len bo_len (@pa_cons _ _ _ _ _ (@pe_ix _ _ _ _ _ _ _ ix_U (pv 0) pe_int (fun _ _=>rfl)) pa_nil (by rfl)) (by decide) (by decide) (by rfl) (by rfl)) (by rfl) (by walk_at "o")) (@pss_cons _ _ _ _ _ (@ps_if _ _ _ _ _ _ _ _ (@pt_cmpR _ _ _ _ _ _ _ _ op_eq (pv 1) pe_int (@nomark _ _ (by decide) (by decide))) (@pss_one _ _ _ ps_never) pss_nil) (@pss_cons _ _ _ _ _ (@ps_set _ _ (2) _ _ _ _ sc_turned.nd rfl (by walk_at "o") (@pe_lst _ _ _ _ pa_nil) (by rfl) (by walk_at "o")) (@pss_cons _ _ _ _ _ (@ps_set _ _ (3) _ _ _ _ sc_turned.nd rfl (by walk_at "o") (@pe_op _ _ _ _ _ _ _ _ op_cat (@pe_comp0 _ _ _ _ _ _ _ _ (["thing"]) (1) ([]) _ _ _ rfl (@pi_range1 _ _ _ _ _ _ rfl B.range (@pa_cons _ _ _ _ _ (@pe_cal _ _ _ _ _ _ _ _ _ _ C_thing_count hr rfl (@pa_cons _ _ _ _ _ (pv 0) pa_nil (by rfl)) (by decide) (by rfl) (by rfl)) pa_nil (by rfl)) (by rfl)) (fun nd C s H fp=>⟨(@pg_name _ _ (0) _ nd rfl (by walk_at "o") (by walk_at "o")),pn_nil,(@pe_glob _ _ (.ref cst_NO_OUT) _ _ rfl mg_NO_OUT rfl (by decide))⟩) (by decide +kernel) (by first | rfl | decide +kernel) (by first | rfl | decide +kernel) rfl (fun _=>rfl)) (@pe_comp0 _ _ _ _ _ _ _ _ (["place"]) (1) ([]) _ _ _ rfl (@pi_range1 _ _ _ _ _ _ rfl B.range (@pa_cons _ _ _ _ _ (pv 1) pa_nil (by rfl)) (by rfl)) (fun nd C s H fp=>⟨(@pg_name _ _ (0) _ nd rfl (by walk_at "o") (by walk_at "o")),pn_nil,(@pe_tup _ _ _ _ _ (@pa_cons _ _ _ _ _ (pv 0) (@pa_cons _ _ _ _ _ pe_int (@pa_cons _ _ _ _ _ pe_int pa_nil (by rfl)) (by rfl)) (by rfl)))⟩) (by decide +kernel) (by first | rfl | decide +kernel) (by first | rfl | decide +kernel) rfl (fun _=>rfl))) (by rfl) (by walk_at "o")) (@pss_cons _ _ _ _ _ (@ps_for _ _ _ _ _ _ _ _ PassesOwn.never rfl (@pi_rev _ _ _ _ _ _ rfl B.reversed (@pa_cons _ _ _ _ _ (@pe_cal _ _ _ _ _ _ _ _ _ _ C_arrows hr rfl (@pa_cons _ _ _ _ _ (pv 0) pa_nil (by rfl)) (by decide) (by rfl) (by rfl)) pa_nil (by rfl)) (by rfl)) (@pg_tupM _ _ _ _ _ 4 rfl (@pgs_cons _ _ _ _ _ (@pg_name _ _ (4) _ sc_turned.nd rfl (by walk_at "o") (by walk_at "o")) (@pgs_cons _ _ _ _ _ (@pg_name _ _ (5) _ sc_turned.nd rfl (by walk_at "o") (by walk_at "o")) (@pgs_cons _ _ _ _ _ (@pg_name _ _ (6) _ sc_turned.nd rfl (by walk_at "o") (by walk_at "o")) (@pgs_cons _ _ _ _ _ (@pg_name _ _ (7) _ sc_turned.nd rfl (by walk_at "o") (by walk_at "o")) pgs_nil (by rfl)) (by rfl)) (by rfl)) (by rfl)) (by rfl) (by rfl)) (@pss_one _ _ _ (@ps_asg _ _ _ _ _ _ (@pe_cal _ _ _ _ _ _ _ _ _ _ C_add_sum hr rfl (@pa_cons _ _ _ _ _ (pv 1) (@pa_cons _ _ _ _ _ (pv 2) (@pa_cons _ _ _ _ _ (@pe_ix _ _ _ _ _ _ _ ix_M (pv 3) (pv 4) (fun _ _=>rfl)) (@pa_cons _ _ _ _ _ (@pe_cal _ _ _ _ _ _ _ _ _ _ C_moved hr rfl (@pa_cons _ _ _ _ _ (@pe_ix _ _ _ _ _ _ _ ix_M (pv 3) (pv 5) (fun _ _=>rfl)) (@pa_cons _ _ _ _ _ (pv 6) (@pa_cons _ _ _ _ _ (pv 7) pa_nil (by rfl)) (by rfl)) (by rfl)) (by decide) (by rfl) (by rfl)) pa_nil (by rfl)) (by rfl)) (by rfl)) (by rfl)) (by decide) (by rfl) (by rfl)) (@pg_sub _ _ _ _ _ _ _ (pv 3) (pv 4) set_list (by intro _ ; rfl)) (by rfl) (by rfl) (by rfl))) (by intro _ ; rfl)) (@pss_one _ _ _ (@ps_ret _ _ _ _ (@pe_tup _ _ _ _ _ (@pa_cons _ _ _ _ _ (pv 1) (@pa_cons _ _ _ _ _ (pv 2) (@pa_cons _ _ _ _ _ (@pe_slice _ _ _ _ _ _ _ _ _ _ sl_list (pv 3) po_none (@po_some _ _ _ (@pe_ix _ _ _ _ _ _ _ ix_U (pv 0) pe_int (fun _ _=>rfl)))) pa_nil (by rfl)) (by rfl)) (by rfl)))))))))))),?_⟩
 rw [show start ["web","ins","deeds","parts","start","goal","shift","sign"] [.ref x]=[some (.ref x),none,none,none,none,none,none,none] from rfl]
 try walk_at "WP"
 refine ⟨x,dl,gl,ins,us,ds,os,gs,rfl,W,ok.dl,ok.gl,TW.low.1,TW.low.2,fun H1 s1=>?_⟩
 have W1:=W.same s1
 have h1:=W1.tup
 have hg1:=W1.gll
 (iterate 5 ((try (walk_at "WP")); (try (simp only [h1,hg1,qJs,qJt,qJl,qJd,exists_eq_left',exists_eq_left])))); (try (walk_at "WP"))
 have ol:=W.hgs.len
 rw [if_neg (by omega)]
 have i2:=ok.i2
 have dl6:=ok.dl
 have gl6:=ok.gl
 intro e ne
 have s2:=same_new ne (.lst [])
 have he2:upd H1 e (.lst []) e=some (.lst []):=upd_same
 have e2:=s1.trans s2
 have ne0:H e=none:=s1.free ne
 generalize upd H1 e (.lst [])=H2 at he2 e2 ⊢
 refine ⟨x,dl,gl,ins,us,ds,os,gs,rfl,W.same e2,?_⟩
 try walk_at "WP"
 refine ⟨by omega,by omega,?_⟩
 rw [show ((ins:Int)+((ds.length:Nat):Int)).toNat=ins+ds.length by omega]
 refine comp_rK (K:=K) (f:=gTp) (by omega) (fun _=>g0) (fun i H' R hi s' hR=>?_) (fun acc vs H3 n3 s3 h3 p3=>?_)
 ·try walk_at "WP"
  exact hR _ _ (Same.refl _) (hcst.sq H')
 try walk_at "WP"
 refine ⟨by omega,by omega,?_⟩
 rw [Int.toNat_natCast]
 refine comp_rK (K:=K) (f:=gTp) (by omega) (fun k=>⟨k,0,1⟩) (fun i H' R hi s' hR=>?_) (fun acc2 vs2 H4 n4 s4 h4 p4=>?_)
 ·try walk_at "WP"
  intro t nt
  refine hR _ _ (same_new nt _) (SqT.of ?_)
  rw [upd_same,show (0:Int)+(i:Int)=i by omega]
  rfl
 try walk_at "WP"
 have l3:=p3.len
 have l4:=p4.len
 rw [qC,List.length_range] at l3 l4
 refine ⟨_,s4 _ _ h3,_,h4,le_size (by omega),fun pl np=>?_⟩
 have s5:=same_new np (.lst (vs ++ vs2))
 have hp5:upd H4 pl (.lst (vs ++ vs2)) pl=some (.lst (vs ++ vs2)):=upd_same
 have e4:=(e2.trans s3).trans s4
 have npl:H pl=none:=e4.free np
 have e5:=e4.trans s5
 have he5:=s5 _ _ (s4 _ _ (s3 _ _ he2))
 have epl:e ≠ pl:=ne_of_none (s4 _ _ (s3 _ _ he2)) np
 have pr5:HKs K gTp (upd H4 pl (.lst (vs ++ vs2))) (vs ++ vs2) (st0 (ins+ds.length) gs.length):=by
  have:=((p3.same s4).same s5).app (p4.same s5)
  rw [ol] at this
  unfold st0
  rw [show (qQ (ins+ds.length) g0:List Go)=(List.range (ins+ds.length)).map (fun _=>g0) by rw [List.map_const',List.length_range]]
  exact this
 have vl:(vs ++ vs2).length=ins+ds.length+gs.length:=by rw [qF,l3,l4,ol]
 generalize vs ++ vs2=vs at hp5 pr5 vl s5 e5 he5 ⊢
 generalize upd H4 pl (.lst vs)=H5 at hp5 pr5 e5 he5 s5 ⊢
 try walk_at "WP"
 refine ⟨x,dl,gl,ins,us,ds,os,gs,rfl,W.same e5,by omega,by omega,fun r ws H6 n6 s6 h6 ha=>?_⟩
 try walk_at "WP"
 refine ⟨_,SqL.of h6,?_⟩
 have al:=allA_len ok
 have wl:=ha.len
 have re:r ≠ e:=(ne_of_none he5 n6).symm
 have rp:r ≠ pl:=(ne_of_none hp5 n6).symm
 have AR:=TW.arr
 refine forV (xs:=ws) (fun i σ H7=>∃ (o4 o5 o6 o7:Option V) (vs ys:List V),σ = [some (.ref x),some (.int (os.length:Nat)),some (.ref e),some (.ref pl),o4,o5,o6,o7] /\ Same H H7 /\ H7 r=some (.lst ws) /\ HTs aTup H7 ws (allA ins ds gs) /\ H7 pl=some (.lst vs) /\ vs.length=ins+ds.length+gs.length /\ HKs K gTp H7 vs (turnF gs.length ([],st0 (ins+ds.length) gs.length) ((allA ins ds gs).drop (ws.length - i))).2 /\ H7 e=some (.lst ys) /\ HTs wTup H7 ys (turnF gs.length ([],st0 (ins+ds.length) gs.length) ((allA ins ds gs).drop (ws.length - i))).1 /\ ys.length <= i)
  ⟨_,_,_,_,vs,[],rfl,e5.trans s6,h6,ha,s6 _ _ hp5,vl,by rw [List.drop_of_length_le (by omega)]; exact pr5.same s6,s6 _ _ he5,by rw [List.drop_of_length_le (by omega)]; exact hts_nil,Nat.le_refl _⟩ ?_ ?_ ?_
 ·rintro i σ H7 _ ⟨_,_,_,_,_,_,_,_,h7,_⟩
  exact SqL.of h7
 ·rintro i v σ H7 N hv7 ⟨o4,o5,o6,o7,vs,ys,rfl,s7,h7,ha7,hp7,vl7,pr7,he7,hy7,yl⟩ hN
  have hi:i < ws.length:=by
   have:=(qB.mp hv7).1
   rwa [List.length_reverse] at this
  rw [List.getElem?_reverse hi] at hv7
  have hj:ws.length - 1 - i < (allA ins ds gs).length:=by rw [← wl]; omega
  have ej:=qA hj
  obtain ⟨y,hy1,hy2⟩:=ha7.at_ _ _ ej
  have hmm:(allA ins ds gs)[ws.length - 1 - i] ∈ allA ins ds gs:=List.getElem_mem hj
  have dr:(allA ins ds gs).drop (ws.length - (i+1))=(allA ins ds gs)[ws.length - 1 - i] :: (allA ins ds gs).drop (ws.length - i):=by
   rw [List.drop_eq_getElem_cons (by omega),show ws.length - (i+1)+1=ws.length - i by omega]
   congr 2
   omega
  generalize (allA ins ds gs)[ws.length - 1 - i]=ar at hy2 hmm dr
  rw [hv7] at hy1
  cases hy1
  obtain ⟨g3,g4,g5,g6,_⟩:=AR ar hmm
  unfold aTup at hy2
  have stl:=pr7.len
  have tf:=turnF_cons gs.length ([],st0 (ins+ds.length) gs.length) ((allA ins ds gs).drop (ws.length - i)) ar
  rw [← dr] at tf
  generalize turnF gs.length ([],st0 (ins+ds.length) gs.length) ((allA ins ds gs).drop (ws.length - i))=a0 at pr7 hy7 tf stl
  obtain ⟨D,st⟩:=a0
  dsimp only at pr7 hy7 stl
  have e1:=qA (l:=st) (i:=ar.st) (by omega)
  have e2':=qA (l:=st) (i:=ar.go) (by omega)
  obtain ⟨p1,v1,m1⟩:=pr7.at_ _ _ e1
  obtain ⟨p2,v2,m2⟩:=pr7.at_ _ _ e2'
  rw [← getD_of (d:=g0) e1] at m1
  rw [← getD_of (d:=g0) e2'] at m2
  (iterate 5 ((try (walk_at "WP")); (try (simp only [hy2,hp7,qJs,qJt,qJl,qJd,exists_eq_left',exists_eq_left])))); (try (walk_at "WP"))
  refine ⟨_,atI_nat v1,_,atI_nat v2,?_⟩
  refine ⟨p2,_,ar.sh,ar.sg,rfl,m2,.inr g6,fun u H8 s8 p8=>?_⟩
  try walk_at "WP"
  refine ⟨gs.length,e,p1,u,ys,D,_,_,by rw [ol],s8 _ _ he7,hy7.same s8,s8.seqT m1,p8,by omega,fun u2 ys2 H9 C9 h9 l9 p9=>?_⟩
  have hp9:=C9 _ _ epl.symm (s8 _ _ hp7)
  have h79:=C9 _ _ re (s8 _ _ h7)
  have ha9:=(ha7.same s8).chgL (s8 _ _ he7) C9
  have pr9:=(pr7.same s8).chgL (s8 _ _ he7) C9
  have s9:Same H H9:=same_chg ne0 (s7.trans s8) C9
  (iterate 5 ((try (walk_at "WP")); (try (simp only [hp9,qJs,qJt,qJl,qJd,exists_eq_left',exists_eq_left])))); (try (walk_at "WP"))
  refine ⟨ar.st,ixN_nat (by omega),?_⟩
  have C10:Chg pl H9 (upd H9 pl (.lst (vs.set ar.st (.ref u2)))):=Chg.upd _
  have yl2:ys2.length <= i+1:=by
   have h6:=l9.len
   have h3:=hy7.len
   unfold addG at h6
   split at h6
   ·omega
   ·split at h6
    ·omega
    ·rw [qF] at h6; simp at h6; omega
  refine hN _ _ ⟨_,_,_,_,vs.set ar.st (.ref u2),ys2,rfl,same_chg npl s9 C10,C10 _ _ rp h79,ha9.chgL hp9 C10,upd_same,by rw [List.length_set]; exact vl7,?_,C10 _ _ epl h9,?_,yl2⟩
  ·rw [tf]
   exact (pr9.set (by omega) p9).chgL hp9 C10
  ·rw [tf]
   exact l9.chgL hp9 C10
 ·rintro σ H7 ⟨o4,o5,o6,o7,vs,ys,rfl,s7,h7,ha7,hp7,vl7,pr7,he7,hy7,yl⟩
  rw [Nat.sub_self,List.drop_zero] at pr7 hy7
  have h1:=s7 _ _ W.tup
  (iterate 5 ((try (walk_at "WP")); (try (simp only [h1,qJs,qJt,qJl,qJd,exists_eq_left',exists_eq_left])))); (try (walk_at "WP"))
  refine ⟨_,SqL.of hp7,fun ps nps=>?_⟩
  rw [cut_take]
  have s8:=same_new nps (.lst (vs.take ins))
  intro t nt
  have s9:=same_new nt (.tup [V.int ((os.length:Nat):Int),V.ref e,V.ref ps])
  have eps:e ≠ ps:=ne_of_none he7 nps
  refine q t e ps _ _ _ ((s7.trans s8).free nt) ne0 (s7.free nps) eps ((s7.trans s8).trans s9) ⟨?_,s9 _ _ (s8 _ _ he7),(hy7.same s8).same s9,s9 _ _ upd_same,((pr7.take (n:=ins)).same s8).same s9⟩
  rw [upd_same,ol]
end
section
variable {P:Program}{w:World}{K:PySem.W.Frag}{mg:Str -> Option Value}{base:Heap}
theorem ok_runK (T:Txt K mg):Cal P w K mg base 3 "run" ["web","values"] (spRunK K):=by
 have B:=T.bl
 have C_deed_arrows:=ok_darrK (P:=P) (w:=w) (base:=base) T
 have C_shifted:=(ok_shifted (P:=P) (w:=w) (base:=base) T).mono (k:=2) (by decide)
 refine mkCal T.t_run sc_run (fun vs H Q E h=>?_) (fun f cdv A outer s H vs Q E hr h=>?_)
 ·obtain ⟨x,v,_,_,_,_,_,_,_,rfl,_⟩:=h
  rfl
 obtain ⟨x,v,dl,gl,us,ds,os,gs,xs,rfl,W,hv,hV,q⟩:=h
 refine ⟨_,((@pss_cons _ _ _ _ _ (@ps_if _ _ _ _ _ _ _ _ (@pt_cmpR _ _ _ _ _ _ _ _ op_ne (@pe_callB _ _ _ _ _ _ _ _ _ call_lenM rfl B.len bo_len (@pa_cons _ _ _ _ _ (pv 1) pa_nil (by rfl)) (by decide) (by decide) (by rfl) (by rfl)) (@pe_ix _ _ _ _ _ _ _ ix_U (pv 0) pe_int (fun _ _=>rfl)) (@nomark _ _ (by decide) (by decide))) (@pss_one _ _ _ ps_never) pss_nil) (@pss_cons _ _ _ _ _ (@ps_set _ _ (2) _ _ _ _ sc_run.nd rfl (by walk_at "o") (@pe_op _ _ _ _ _ _ _ _ op_cat (@pe_callTy _ _ _ _ _ _ _ _ _ call_list_of rfl B.list bo_list (@pa_cons _ _ _ _ _ (pv 1) pa_nil (by rfl)) (by decide) (by decide) (by rfl) (by rfl)) (@pe_comp0 _ _ _ _ _ _ _ _ (["deed"]) (1) ([]) _ _ _ rfl (@pi_list _ _ _ _ (@pe_ix _ _ _ _ _ _ _ ix_U (pv 0) pe_int (fun _ _=>rfl))) (fun nd C s H fp=>⟨(@pg_name _ _ (0) _ nd rfl (by walk_at "o") (by walk_at "o")),pn_nil,pe_int⟩) (by decide +kernel) (by first | rfl | decide +kernel) (by first | rfl | decide +kernel) rfl (fun _=>rfl))) (by rfl) (by walk_at "o")) (@pss_cons _ _ _ _ _ (@ps_for _ _ _ _ _ _ _ _ PassesOwn.never rfl (@pi_list _ _ _ _ (@pe_cal _ _ _ _ _ _ _ _ _ _ C_deed_arrows hr rfl (@pa_cons _ _ _ _ _ (pv 0) pa_nil (by rfl)) (by decide) (by rfl) (by rfl))) (@pg_tupM _ _ _ _ _ 4 rfl (@pgs_cons _ _ _ _ _ (@pg_name _ _ (3) _ sc_run.nd rfl (by walk_at "o") (by walk_at "o")) (@pgs_cons _ _ _ _ _ (@pg_name _ _ (4) _ sc_run.nd rfl (by walk_at "o") (by walk_at "o")) (@pgs_cons _ _ _ _ _ (@pg_name _ _ (5) _ sc_run.nd rfl (by walk_at "o") (by walk_at "o")) (@pgs_cons _ _ _ _ _ (@pg_name _ _ (6) _ sc_run.nd rfl (by walk_at "o") (by walk_at "o")) pgs_nil (by rfl)) (by rfl)) (by rfl)) (by rfl)) (by rfl) (by rfl)) (@pss_one _ _ _ (@ps_asg _ _ _ _ _ _ (@pe_op _ _ _ _ _ _ _ _ op_add (@pe_ix _ _ _ _ _ _ _ ix_M (pv 2) (pv 4) (fun _ _=>rfl)) (@pe_op _ _ _ _ _ _ _ _ op_mulB (pv 6) (@pe_cal _ _ _ _ _ _ _ _ _ _ C_shifted hr rfl (@pa_cons _ _ _ _ _ (@pe_ix _ _ _ _ _ _ _ ix_M (pv 2) (pv 3) (fun _ _=>rfl)) (@pa_cons _ _ _ _ _ (pv 5) pa_nil (by rfl)) (by rfl)) (by decide) (by rfl) (by rfl)))) (@pg_sub _ _ _ _ _ _ _ (pv 2) (pv 4) set_list (by intro _ ; rfl)) (by rfl) (by rfl) (by rfl))) (by intro _ ; rfl)) (@pss_one _ _ _ (@ps_ret _ _ _ _ (pv 2))))))),?_⟩
 rw [show start ["web","values","told","start","goal","shift","sign"] [.ref x,.ref v]=[some (.ref x),some (.ref v),none,none,none,none,none] from rfl]
 have h1:=W.tup
 have x12:=hV.xl
 have d60:=hV.dl
 (iterate 5 ((try (walk_at "WP")); (try (simp only [h1,hv,qJs,qJt,qJl,qJd,exists_eq_left',exists_eq_left])))); (try (walk_at "WP"))
 rw [qC,if_neg (by omega)]
 refine ⟨_,.inl (SqL.of hv),fun l hl=>?_⟩
 have sl:=same_new hl (.lst (xs.map V.int))
 have hll:upd H l (.lst (xs.map V.int)) l=some (.lst (xs.map V.int)):=upd_same
 have Wl:=W.same sl
 have h2:=Wl.tup
 generalize upd H l (.lst (xs.map V.int))=H1 at sl hll Wl h2 ⊢
 (iterate 5 ((try (walk_at "WP")); (try (simp only [h2,qJs,qJt,qJl,qJd,exists_eq_left',exists_eq_left])))); (try (walk_at "WP"))
 refine ⟨⟨_,SqL.of Wl.dll⟩,?_⟩
 refine comp_L (f:=fun _=>some (V.int 0)) (SqL.of Wl.dll) (by rw [Wl.hds.len]; exact le_big (by omega)) (fun y H' R hy hS' hR=>?_) (fun acc hacc=>?_)
 ·try walk_at "WP"
  exact hR
 have ez:(us.filterMap fun _=>some (V.int 0))=(qQ ds.length (0:Int)).map V.int:=by
  rw [← W.hds.len,List.map_replicate]
  clear W Wl
  induction us with
  | nil=>rfl
  | cons a r ih=>rw [List.filterMap_cons]; simp only [ih]; rfl
 rw [ez]
 have sa:=same_new hacc (.lst ((qQ ds.length (0:Int)).map V.int))
 have haa:upd H1 acc (.lst ((qQ ds.length (0:Int)).map V.int)) acc=some (.lst ((qQ ds.length (0:Int)).map V.int)):=upd_same
 have hl2:=sa _ _ hll
 have S2:=sl.trans sa
 generalize upd H1 acc (.lst ((qQ ds.length (0:Int)).map V.int))=H2 at sa haa hl2 S2 ⊢
 try walk_at "WP"
 refine ⟨_,hl2,_,haa,by simp only [qC,qL]; exact le_big (by omega),fun r hr0=>?_⟩
 rw [← List.map_append]
 have sr:=same_new hr0 (.lst ((xs ++ qQ ds.length (0:Int)).map V.int))
 have hrr:upd H2 r (.lst ((xs ++ qQ ds.length (0:Int)).map V.int)) r=some (.lst ((toldA xs ds 0).map V.int)):=upd_same
 have S3:=S2.trans sr
 have nr:H r=none:=S2.free hr0
 generalize upd H2 r (.lst ((xs ++ qQ ds.length (0:Int)).map V.int))=H3 at hrr S3 ⊢
 try walk_at "WP"
 refine ⟨x,dl,gl,xs.length,us,ds,os,gs,rfl,W.same S3,by omega,fun al ws H4 na s4 ha4 hts=>?_⟩
 try walk_at "WP"
 refine ⟨⟨_,SqL.of ha4⟩,?_⟩
 have alr:al ≠ r:=(ne_of_none hrr na).symm
 refine forL (xs:=ws) (fun i σ H5=>∃ (o3 o4 o5 o6:Option V),σ = [some (.ref x),some (.ref v),some (.ref r),o3,o4,o5,o6] /\ H5 r=some (.lst ((toldA xs ds i).map V.int)) /\ Chg r H4 H5) ⟨none,none,none,none,rfl,s4 _ _ hrr,fun _ _ _ z=>z⟩ ?_ ?_ ?_
 ·rintro i σ H5 _ ⟨_,_,_,_,_,_,c5⟩
  exact SqL.of (c5 _ _ alr ha4)
 ·rintro i y σ H5 N hy ⟨o3,o4,o5,o6,rfl,hr5,c5⟩ hN
  have hi:i < (arrF xs.length 0 ds).length:=by rw [← hts.len]; exact (qB.mp hy).1
  obtain ⟨p,hp1,hp2⟩:=hts.at_ i _ (qA hi)
  have hai:(arrF xs.length 0 ds)[i]? = some (arrF xs.length 0 ds)[i]:=qA hi
  generalize (arrF xs.length 0 ds)[i]=a at hp2 hai
  rw [hy] at hp1
  cases hp1
  have hp5:=c5 _ _ (ne_of hp2 (s4 _ _ hrr) (by intro z; cases z)) hp2
  unfold aTup at hp5
  obtain ⟨u,z,e1,e2,e3,e4,e5,e6⟩:=toldA_step4 hV hai
  have a1:atI ((toldA xs ds i).map V.int) (a.st:Int)=some (.int u):=atI_nat (by rw [qI,e1]; rfl)
  have a2:atI ((toldA xs ds i).map V.int) (a.go:Int)=some (.int z):=atI_nat (by rw [qI,e2]; rfl)
  (iterate 5 ((try (walk_at "WP")); (try (simp only [hp5,hr5,qJs,qJt,qJl,qJd,exists_eq_left',exists_eq_left])))); (try (walk_at "WP"))
  refine ⟨_,a2,_,a1,u,a.sh,rfl,by have:=e3.1; omega,by have:=e3.2.1; omega,big_of e4 (by decide),?_⟩
  rw [e3.shV]
  (iterate 5 ((try (walk_at "WP")); (try (simp only [hr5,qJs,qJt,qJl,qJd,exists_eq_left',exists_eq_left])))); (try (walk_at "WP"))
  have hgl:a.go < (toldA xs ds i).length:=(qB.mp e2).1
  refine ⟨by rcases e5 with z | z <;> rw [z] <;> exact mul_l (by decide) (by decide),a.go,?_,?_⟩
  ·rw [qC]
   exact ixN_nat hgl
  ·rw [set_mapI,e6]
   exact hN _ _ ⟨_,_,_,_,rfl,upd_same,c5.trans (Chg.upd _)⟩
 ·rintro σ H5 ⟨_,_,_,_,rfl,hr5,c5⟩
  try walk_at "WP"
  rw [hts.len,arrF_len,toldA_end] at hr5
  exact q r H5 nr (fun b o hb=>c5 _ _ (ne_of_none hb nr) (s4 _ _ (S3 _ _ hb))) hr5
end
section
variable {P:Program}{w:World}{K:PySem.W.Frag}{mg:Str -> Option Value}{base:Heap}
theorem ok_runoK (T:Txt K mg):Cal P w K mg base 4 "run_outs" ["web","values"] (spRunOK K):=by
 have B:=T.bl
 have C_run:=ok_runK (P:=P) (w:=w) (base:=base) T
 have C_shifted:=(ok_shifted (P:=P) (w:=w) (base:=base) T).mono (k:=3) (by decide)
 refine mkCal T.t_run_outs sc_run_outs (fun vs H Q E h=>?_) (fun f cdv A outer s H vs Q E hr h=>?_)
 ·obtain ⟨x,v,_,_,_,_,_,_,_,rfl,_⟩:=h
  rfl
 obtain ⟨x,v,dl,gl,us,ds,os,gs,xs,rfl,W,hv,hV,g12,hg,q⟩:=h
 refine ⟨_,((@pss_cons _ _ _ _ _ (@ps_set _ _ (2) _ _ _ _ sc_run_outs.nd rfl (by walk_at "o") (@pe_cal _ _ _ _ _ _ _ _ _ _ C_run hr rfl (@pa_cons _ _ _ _ _ (pv 0) (@pa_cons _ _ _ _ _ (pv 1) pa_nil (by rfl)) (by rfl)) (by decide) (by rfl) (by rfl)) (by rfl) (by walk_at "o")) (@pss_one _ _ _ (@ps_ret _ _ _ _ (@pe_comp0 _ _ _ _ _ _ _ _ (["thing","shift","sign","told"]) (3) ([2]) _ _ _ rfl (@pi_list _ _ _ _ (@pe_ix _ _ _ _ _ _ _ ix_U (pv 0) pe_int (fun _ _=>rfl))) (fun nd C s H fp=>⟨(@pg_tupK _ K _ _ _ _ 3 rfl (@pgs_cons _ _ _ _ _ (@pg_name _ _ (0) _ nd rfl (by walk_at "o") (by walk_at "o")) (@pgs_cons _ _ _ _ _ (@pg_name _ _ (1) _ nd rfl (by walk_at "o") (by walk_at "o")) (@pgs_cons _ _ _ _ _ (@pg_name _ _ (2) _ nd rfl (by walk_at "o") (by walk_at "o")) pgs_nil (by rfl)) (by rfl)) (by rfl)) (by rfl) (by rfl) (by rfl)),pn_nil,(@pe_op _ _ _ _ _ _ _ _ op_mulB (pv 2) (@pe_cal _ _ _ _ _ _ _ _ _ _ C_shifted hr rfl (@pa_cons _ _ _ _ _ (@pe_ix _ _ _ _ _ _ _ ix_M (pv 3) (pv 0) (fun _ _=>rfl)) (@pa_cons _ _ _ _ _ (pv 1) pa_nil (by rfl)) (by rfl)) (by decide) (by rfl) (by rfl)))⟩) (by decide +kernel) (by first | rfl | decide +kernel) (by first | rfl | decide +kernel) rfl (fun _=>rfl)))))),?_⟩
 rw [show start ["web","values","told"] [.ref x,.ref v]=[some (.ref x),some (.ref v),none] from rfl]
 try walk_at "WP"
 refine ⟨x,v,dl,gl,us,ds,os,gs,xs,rfl,W,hv,hV,fun r H1 nr s1 hr1=>?_⟩
 have W1:=W.same s1
 have h1:=W1.tup
 (iterate 5 ((try (walk_at "WP")); (try (simp only [h1,qJs,qJt,qJl,qJd,exists_eq_left',exists_eq_left])))); (try (walk_at "WP"))
 refine ⟨⟨_,SqL.of W1.gll⟩,?_⟩
 refine comp_goalsK W1.gll W1.hgs (by omega) (fun g=>some (V.int (outV (valsW xs ds) g))) (fun g H' R hgm s' hR=>?_) (fun acc H' na s' ha=>?_)
 ·rw [show capV [2] [some (V.ref x),some (V.ref v),some (V.ref r)]=[some (V.ref r)] from rfl,List.cons_append,List.cons_append,List.cons_append,List.nil_append]
  obtain ⟨g1,g2,g3⟩:=hg g hgm
  obtain ⟨u,e1,e2,e3⟩:=valsW_at (xs:=xs) (ds:=ds) g1
  rw [e2] at g2
  have hr2:=s' _ _ hr1
  have a1:atI ((valsW xs ds).map V.int) (g.th:Int)=some (.int u):=atI_nat (by rw [qI,e1]; rfl)
  (iterate 5 ((try (walk_at "WP")); (try (simp only [hr2,qJs,qJt,qJl,qJd,exists_eq_left',exists_eq_left])))); (try (walk_at "WP"))
  refine ⟨_,a1,u,g.sh,rfl,by have:=g2.1; omega,by have:=g2.2.1; omega,big_of (hV.vb u e3) (by decide),?_⟩
  rw [g2.shV]
  try walk_at "WP"
  refine ⟨by rcases g3 with z | z | z <;> rw [z] <;> exact mul_l (by decide) (by decide),?_⟩
  unfold outV at hR
  rw [e2] at hR
  exact hR
 ·rw [show (gs.filterMap fun g=>some (V.int (outV (valsW xs ds) g)))=(gs.map (outV (valsW xs ds))).map V.int by rw [List.map_map]; exact filterMap_some (fun g=>V.int (outV (valsW xs ds) g)) gs] at ha
  exact q acc H' (s1.free na) (s1.trans s') ha
end
section
variable {P:Program}{w:World}{K:PySem.W.Frag}{mg:Str -> Option Value}{base:Heap}
theorem ok_wrapped (T:Txt K mg):Cal P w K mg base 1 "wrapped" ["number","width"] spWrapped:=by
 have B:=T.bl
 refine mkCal T.t_wrapped sc_wrapped (fun vs H Q E h=>?_) (fun f cdv A outer s H vs Q E hr h=>?_)
 ·obtain ⟨n,w,rfl,_⟩:=h
  rfl
 obtain ⟨n,wd,rfl,h0,h1,q⟩:=h
 refine ⟨_,((@pss_cons _ _ _ _ _ (@ps_set _ _ (2) _ _ _ _ sc_wrapped.nd rfl (by walk_at "o") (@pe_op _ _ _ _ _ _ _ _ op_shlB pe_int (@pe_op _ _ _ _ _ _ _ _ op_sub (pv 1) pe_int)) (by rfl) (by walk_at "o")) (@pss_one _ _ _ (@ps_ret _ _ _ _ (@pe_op _ _ _ _ _ _ _ _ op_sub (@pe_op _ _ _ _ _ _ _ _ op_and (@pe_op _ _ _ _ _ _ _ _ op_add (pv 0) (pv 2)) (@pe_op _ _ _ _ _ _ _ _ op_sub (@pe_op _ _ _ _ _ _ _ _ op_mulB pe_int (pv 2)) pe_int)) (pv 2)))))),?_⟩
 rw [show start ["number","width","half"] [.int n,.int wd]=[some (.int n),some (.int wd),none] from rfl]
 try walk_at "WP"
 refine ⟨⟨by omega,by omega⟩,mul_l (by decide) (by decide),?_⟩
 rw [Int.one_mul,wr_half h0,PySem.W.kbt_mask]
 exact q
end
section
variable {P:Program}{w:World}{K:PySem.W.Frag}{mg:Str -> Option Value}{base:Heap}
theorem ok_shin4 (T:Txt K mg):Cal P w K mg base 2 "shifted_in" ["value","shift","width"] spShIn4:=by
 have B:=T.bl
 have C_wrapped:=ok_wrapped (P:=P) (w:=w) (base:=base) T
 refine mkCal T.t_shifted_in sc_shifted_in (fun vs H Q E h=>?_) (fun f cdv A outer s H vs Q E hr h=>?_)
 ·obtain ⟨x,s,w,rfl,_⟩:=h
  rfl
 obtain ⟨x,sh,wd,rfl,s0,s1,w1,w2,hb,q⟩:=h
 refine ⟨_,((@pss_one _ _ _ (@ps_ret _ _ _ _ (@pe_ifExp _ _ _ _ _ _ _ _ (@pt_cmpR _ _ _ _ _ _ _ _ op_ge (pv 1) pe_int (@nomark _ _ (by decide) (by decide))) (@pe_cal _ _ _ _ _ _ _ _ _ _ C_wrapped hr rfl (@pa_cons _ _ _ _ _ (@pe_op _ _ _ _ _ _ _ _ op_shlB (pv 0) (pv 1)) (@pa_cons _ _ _ _ _ (pv 2) pa_nil (by rfl)) (by rfl)) (by decide) (by rfl) (by rfl)) (@pe_op _ _ _ _ _ _ _ _ op_shr (pv 0) (@pe_un _ _ _ _ _ _ un_neg (pv 1))))))),?_⟩
 rw [show start ["value","shift","width"] [.int x,.int sh,.int wd]=[some (.int x),some (.int sh),some (.int wd)] from rfl]
 try walk_at "WP"
 unfold shIn at q
 refine ite2 (fun c=>?_) (fun c=>?_)
 ·rw [if_pos c] at q
  exact ⟨shl_ok c (by omega) hb (by decide),_,wd,rfl,w1,by omega,q⟩
 ·rw [if_neg c] at q
  exact ⟨by omega,q⟩
theorem ok_runinK (T:Txt K mg):Cal P w K mg base 3 "run_in" ["web","width","values"] (spRunInK K):=by
 have B:=T.bl
 have C_deed_arrows:=ok_darrK (P:=P) (w:=w) (base:=base) T
 have C_wrapped:=(ok_wrapped (P:=P) (w:=w) (base:=base) T).mono (k:=2) (by decide)
 have C_shifted_in:=ok_shin4 (P:=P) (w:=w) (base:=base) T
 refine mkCal T.t_run_in sc_run_in (fun vs H Q E h=>?_) (fun f cdv A outer s H vs Q E hr h=>?_)
 ·obtain ⟨x,v,_,_,_,_,_,_,_,w,rfl,_⟩:=h
  rfl
 obtain ⟨x,v,dl,gl,us,ds,os,gs,xs,wd,rfl,W,hv,hD,x12,w1,w2,q⟩:=h
 refine ⟨_,((@pss_cons _ _ _ _ _ (@ps_if _ _ _ _ _ _ _ _ (@pt_cmpR _ _ _ _ _ _ _ _ op_ne (@pe_callB _ _ _ _ _ _ _ _ _ call_lenM rfl B.len bo_len (@pa_cons _ _ _ _ _ (pv 2) pa_nil (by rfl)) (by decide) (by decide) (by rfl) (by rfl)) (@pe_ix _ _ _ _ _ _ _ ix_U (pv 0) pe_int (fun _ _=>rfl)) (@nomark _ _ (by decide) (by decide))) (@pss_one _ _ _ ps_never) pss_nil) (@pss_cons _ _ _ _ _ (@ps_set _ _ (3) _ _ _ _ sc_run_in.nd rfl (by walk_at "o") (@pe_op _ _ _ _ _ _ _ _ op_cat (@pe_comp0 _ _ _ _ _ _ _ _ (["value","width"]) (1) ([1]) _ _ _ rfl (@pi_list _ _ _ _ (pv 2)) (fun nd C s H fp=>⟨(@pg_name _ _ (0) _ nd rfl (by walk_at "o") (by walk_at "o")),pn_nil,(@pe_cal _ _ _ _ _ _ _ _ _ _ C_wrapped hr rfl (@pa_cons _ _ _ _ _ (pv 0) (@pa_cons _ _ _ _ _ (pv 1) pa_nil (by rfl)) (by rfl)) (by decide) (by rfl) (by rfl))⟩) (by decide +kernel) (by first | rfl | decide +kernel) (by first | rfl | decide +kernel) rfl (fun _=>rfl)) (@pe_comp0 _ _ _ _ _ _ _ _ (["deed"]) (1) ([]) _ _ _ rfl (@pi_list _ _ _ _ (@pe_ix _ _ _ _ _ _ _ ix_U (pv 0) pe_int (fun _ _=>rfl))) (fun nd C s H fp=>⟨(@pg_name _ _ (0) _ nd rfl (by walk_at "o") (by walk_at "o")),pn_nil,pe_int⟩) (by decide +kernel) (by first | rfl | decide +kernel) (by first | rfl | decide +kernel) rfl (fun _=>rfl))) (by rfl) (by walk_at "o")) (@pss_cons _ _ _ _ _ (@ps_for _ _ _ _ _ _ _ _ PassesOwn.never rfl (@pi_list _ _ _ _ (@pe_cal _ _ _ _ _ _ _ _ _ _ C_deed_arrows hr rfl (@pa_cons _ _ _ _ _ (pv 0) pa_nil (by rfl)) (by decide) (by rfl) (by rfl))) (@pg_tupM _ _ _ _ _ 4 rfl (@pgs_cons _ _ _ _ _ (@pg_name _ _ (4) _ sc_run_in.nd rfl (by walk_at "o") (by walk_at "o")) (@pgs_cons _ _ _ _ _ (@pg_name _ _ (5) _ sc_run_in.nd rfl (by walk_at "o") (by walk_at "o")) (@pgs_cons _ _ _ _ _ (@pg_name _ _ (6) _ sc_run_in.nd rfl (by walk_at "o") (by walk_at "o")) (@pgs_cons _ _ _ _ _ (@pg_name _ _ (7) _ sc_run_in.nd rfl (by walk_at "o") (by walk_at "o")) pgs_nil (by rfl)) (by rfl)) (by rfl)) (by rfl)) (by rfl) (by rfl)) (@pss_one _ _ _ (@ps_asg _ _ _ _ _ _ (@pe_cal _ _ _ _ _ _ _ _ _ _ C_wrapped hr rfl (@pa_cons _ _ _ _ _ (@pe_op _ _ _ _ _ _ _ _ op_add (@pe_ix _ _ _ _ _ _ _ ix_M (pv 3) (pv 5) (fun _ _=>rfl)) (@pe_op _ _ _ _ _ _ _ _ op_mulB (pv 7) (@pe_cal _ _ _ _ _ _ _ _ _ _ C_shifted_in hr rfl (@pa_cons _ _ _ _ _ (@pe_ix _ _ _ _ _ _ _ ix_M (pv 3) (pv 4) (fun _ _=>rfl)) (@pa_cons _ _ _ _ _ (pv 6) (@pa_cons _ _ _ _ _ (pv 1) pa_nil (by rfl)) (by rfl)) (by rfl)) (by decide) (by rfl) (by rfl)))) (@pa_cons _ _ _ _ _ (pv 1) pa_nil (by rfl)) (by rfl)) (by decide) (by rfl) (by rfl)) (@pg_sub _ _ _ _ _ _ _ (pv 3) (pv 5) set_list (by intro _ ; rfl)) (by rfl) (by rfl) (by rfl))) (by intro _ ; rfl)) (@pss_one _ _ _ (@ps_ret _ _ _ _ (pv 3))))))),?_⟩
 rw [show start ["web","width","values","told","start","goal","shift","sign"] [.ref x,.int wd,.ref v]=[some (.ref x),some (.int wd),some (.ref v),none,none,none,none,none] from rfl]
 have h1:=W.tup
 have d60:=hD.dl
 (iterate 5 ((try (walk_at "WP")); (try (simp only [h1,hv,qJs,qJt,qJl,qJd,exists_eq_left',exists_eq_left])))); (try (walk_at "WP"))
 rw [qC,if_neg (by omega)]
 refine ⟨⟨_,SqL.of hv⟩,?_⟩
 refine comp_L (f:=liI fun n=>wrI n wd) (SqL.of hv) (by rw [qC]; exact le_big (by omega)) (fun y H' R hy hS' hR=>?_) (fun l hl=>?_)
 ·obtain ⟨n,hn,rfl⟩:=qP.mp hy
  rw [show capV [1] [some (V.ref x),some (V.int wd),some (V.ref v),none,none,none,none,none]=[some (V.int wd)] from rfl]
  try walk_at "WP"
  exact ⟨n,wd,rfl,w1,by omega,hR⟩
 rw [liI_map]
 have sl:=same_new hl (.lst ((xs.map fun n=>wrI n wd).map V.int))
 have hll:upd H l (.lst ((xs.map fun n=>wrI n wd).map V.int)) l=some (.lst ((xs.map fun n=>wrI n wd).map V.int)):=upd_same
 have Wl:=W.same sl
 have h2:=Wl.tup
 generalize upd H l (.lst ((xs.map fun n=>wrI n wd).map V.int))=H1 at sl hll Wl h2 ⊢
 (iterate 5 ((try (walk_at "WP")); (try (simp only [h2,qJs,qJt,qJl,qJd,exists_eq_left',exists_eq_left])))); (try (walk_at "WP"))
 refine ⟨⟨_,SqL.of Wl.dll⟩,?_⟩
 refine comp_L (f:=fun _=>some (V.int 0)) (SqL.of Wl.dll) (by rw [Wl.hds.len]; exact le_big (by omega)) (fun y H' R hy hS' hR=>?_) (fun acc hacc=>?_)
 ·try walk_at "WP"
  exact hR
 have ez:(us.filterMap fun _=>some (V.int 0))=(qQ ds.length (0:Int)).map V.int:=by
  rw [← W.hds.len,List.map_replicate]
  clear W Wl
  induction us with
  | nil=>rfl
  | cons a r ih=>rw [List.filterMap_cons]; simp only [ih]; rfl
 rw [ez]
 have sa:=same_new hacc (.lst ((qQ ds.length (0:Int)).map V.int))
 have haa:upd H1 acc (.lst ((qQ ds.length (0:Int)).map V.int)) acc=some (.lst ((qQ ds.length (0:Int)).map V.int)):=upd_same
 have hl2:=sa _ _ hll
 have S2:=sl.trans sa
 generalize upd H1 acc (.lst ((qQ ds.length (0:Int)).map V.int))=H2 at sa haa hl2 S2 ⊢
 try walk_at "WP"
 refine ⟨_,hl2,_,haa,by simp only [qC,qL]; exact le_big (by omega),fun r hr0=>?_⟩
 rw [← List.map_append]
 have sr:=same_new hr0 (.lst (((xs.map fun n=>wrI n wd) ++ qQ ds.length (0:Int)).map V.int))
 have hrr:upd H2 r (.lst (((xs.map fun n=>wrI n wd) ++ qQ ds.length (0:Int)).map V.int)) r=some (.lst ((tG (gIn wd) 0 (xs.map fun n=>wrI n wd) ds 0).map V.int)):=upd_same
 have S3:=S2.trans sr
 have nr:H r=none:=S2.free hr0
 generalize upd H2 r (.lst (((xs.map fun n=>wrI n wd) ++ qQ ds.length (0:Int)).map V.int))=H3 at hrr S3 ⊢
 try walk_at "WP"
 refine ⟨x,dl,gl,xs.length,us,ds,os,gs,rfl,W.same S3,by omega,fun al ws H4 na s4 ha4 hts=>?_⟩
 try walk_at "WP"
 refine ⟨⟨_,SqL.of ha4⟩,?_⟩
 have alr:al ≠ r:=(ne_of_none hrr na).symm
 have xl:(xs.map fun n=>wrI n wd).length=xs.length:=qC _
 have dk2:∀ (k:Nat) (d:Wd),ds[k]? = some d -> d.a < (xs.map fun n=>wrI n wd).length+k /\ d.b < (xs.map fun n=>wrI n wd).length+k:=fun k d hd=>by
  obtain ⟨a,b,_⟩:=hD.dk k d hd
  rw [xl]
  exact ⟨a,b⟩
 have small:∀ y ∈ vG (gIn wd) 0 (xs.map fun n=>wrI n wd) ds,y.natAbs < 2 ^ 9000:=by
  have:=vG_all (g:=gIn wd) (z:=0) dk2 (fun y=>y.natAbs < 2 ^ 9000) (fun y hy=>by
   obtain ⟨n,_,rfl⟩:=qP.mp hy
   exact wr_small w1 w2) (fun k d u v _ _ _=>wr_small w1 w2) ds.length (Nat.le_refl _)
  rwa [List.take_length] at this
 refine forL (xs:=ws) (fun i σ H5=>∃ (o3 o4 o5 o6:Option V),σ = [some (.ref x),some (.int wd),some (.ref v),some (.ref r),o3,o4,o5,o6] /\ H5 r=some (.lst ((tG (gIn wd) 0 (xs.map fun n=>wrI n wd) ds i).map V.int)) /\ Chg r H4 H5) ⟨none,none,none,none,rfl,s4 _ _ hrr,fun _ _ _ z=>z⟩ ?_ ?_ ?_
 ·rintro i σ H5 _ ⟨_,_,_,_,_,_,c5⟩
  exact SqL.of (c5 _ _ alr ha4)
 ·rintro i y σ H5 N hy ⟨o3,o4,o5,o6,rfl,hr5,c5⟩ hN
  have hi:i < (arrF xs.length 0 ds).length:=by rw [← hts.len]; exact (qB.mp hy).1
  obtain ⟨p,hp1,hp2⟩:=hts.at_ i _ (qA hi)
  have hai:(arrF xs.length 0 ds)[i]? = some (arrF xs.length 0 ds)[i]:=qA hi
  generalize (arrF xs.length 0 ds)[i]=a at hp2 hai
  rw [hy] at hp1
  cases hp1
  have hp5:=c5 _ _ (ne_of hp2 (s4 _ _ hrr) (by intro z; cases z)) hp2
  unfold aTup at hp5
  obtain ⟨u,z,e1,e2,e3,⟨d,hd,e4⟩,e5,e6⟩:=tG_step (g:=gIn wd) (z:=0) dk2 (by rw [xl]; exact hai)
  have a1:atI ((tG (gIn wd) 0 (xs.map fun n=>wrI n wd) ds i).map V.int) (a.st:Int)=some (.int u):=atI_nat (by rw [qI,e1]; rfl)
  have a2:atI ((tG (gIn wd) 0 (xs.map fun n=>wrI n wd) ds i).map V.int) (a.go:Int)=some (.int z):=atI_nat (by rw [qI,e2]; rfl)
  have hsh:-4000 <= a.sh /\ a.sh <= 4000:=by
   obtain ⟨_,_,q1,q2,q3,q4,_⟩:=hD.dk _ d hd
   rcases e4 with e | e <;> rw [e] <;> omega
  (iterate 5 ((try (walk_at "WP")); (try (simp only [hp5,hr5,qJs,qJt,qJl,qJd,exists_eq_left',exists_eq_left])))); (try (walk_at "WP"))
  refine ⟨_,a2,_,a1,u,a.sh,wd,rfl,hsh.1,hsh.2,w1,w2,small u e3,?_⟩
  (iterate 5 ((try (walk_at "WP")); (try (simp only [hr5,qJs,qJt,qJl,qJd,exists_eq_left',exists_eq_left])))); (try (walk_at "WP"))
  refine ⟨by rcases e5 with z | z <;> rw [z] <;> exact mul_l (by decide) (by decide),?_⟩
  refine ⟨_,wd,rfl,w1,by omega,?_⟩
  (iterate 5 ((try (walk_at "WP")); (try (simp only [hr5,qJs,qJt,qJl,qJd,exists_eq_left',exists_eq_left])))); (try (walk_at "WP"))
  have hgl:a.go < (tG (gIn wd) 0 (xs.map fun n=>wrI n wd) ds i).length:=(qB.mp e2).1
  refine ⟨a.go,by rw [qC]; exact ixN_nat hgl,?_⟩
  have e6':(tG (gIn wd) 0 (xs.map fun n=>wrI n wd) ds i).set a.go (wrI (z+a.sg * shIn wd a.sh u) wd)=tG (gIn wd) 0 (xs.map fun n=>wrI n wd) ds (i+1):=e6
  rw [set_mapI,e6']
  exact hN _ _ ⟨_,_,_,_,rfl,upd_same,c5.trans (Chg.upd _)⟩
 ·rintro σ H5 ⟨_,_,_,_,rfl,hr5,c5⟩
  try walk_at "WP"
  rw [hts.len,arrF_len,tG_end] at hr5
  exact q r H5 nr (fun b o hb=>c5 _ _ (ne_of_none hb nr) (s4 _ _ (S3 _ _ hb))) hr5
end
section
variable {P:Program}{w:World}{K:PySem.W.Frag}{mg:Str -> Option Value}{base:Heap}
theorem ok_outsinK (T:Txt K mg):Cal P w K mg base 4 "outs_in" ["web","width","values"] (spOutsInK K):=by
 have B:=T.bl
 have C_run_in:=ok_runinK (P:=P) (w:=w) (base:=base) T
 have C_wrapped:=(ok_wrapped (P:=P) (w:=w) (base:=base) T).mono (k:=3) (by decide)
 have C_shifted_in:=(ok_shin4 (P:=P) (w:=w) (base:=base) T).mono (k:=3) (by decide)
 refine mkCal T.t_outs_in sc_outs_in (fun vs H Q E h=>?_) (fun f cdv A outer s H vs Q E hr h=>?_)
 ·obtain ⟨x,v,_,_,_,_,_,_,_,w,rfl,_⟩:=h
  rfl
 obtain ⟨x,v,dl,gl,us,ds,os,gs,xs,wd,rfl,W,hv,hD,x12,w1,w2,g12,hg,q⟩:=h
 refine ⟨_,((@pss_cons _ _ _ _ _ (@ps_set _ _ (3) _ _ _ _ sc_outs_in.nd rfl (by walk_at "o") (@pe_cal _ _ _ _ _ _ _ _ _ _ C_run_in hr rfl (@pa_cons _ _ _ _ _ (pv 0) (@pa_cons _ _ _ _ _ (pv 1) (@pa_cons _ _ _ _ _ (pv 2) pa_nil (by rfl)) (by rfl)) (by rfl)) (by decide) (by rfl) (by rfl)) (by rfl) (by walk_at "o")) (@pss_one _ _ _ (@ps_ret _ _ _ _ (@pe_comp0 _ _ _ _ _ _ _ _ (["thing","shift","sign","told","width"]) (3) ([3,1]) _ _ _ rfl (@pi_list _ _ _ _ (@pe_ix _ _ _ _ _ _ _ ix_U (pv 0) pe_int (fun _ _=>rfl))) (fun nd C s H fp=>⟨(@pg_tupK _ K _ _ _ _ 3 rfl (@pgs_cons _ _ _ _ _ (@pg_name _ _ (0) _ nd rfl (by walk_at "o") (by walk_at "o")) (@pgs_cons _ _ _ _ _ (@pg_name _ _ (1) _ nd rfl (by walk_at "o") (by walk_at "o")) (@pgs_cons _ _ _ _ _ (@pg_name _ _ (2) _ nd rfl (by walk_at "o") (by walk_at "o")) pgs_nil (by rfl)) (by rfl)) (by rfl)) (by rfl) (by rfl) (by rfl)),pn_nil,(@pe_cal _ _ _ _ _ _ _ _ _ _ C_wrapped hr rfl (@pa_cons _ _ _ _ _ (@pe_op _ _ _ _ _ _ _ _ op_mulB (pv 2) (@pe_cal _ _ _ _ _ _ _ _ _ _ C_shifted_in hr rfl (@pa_cons _ _ _ _ _ (@pe_ix _ _ _ _ _ _ _ ix_M (pv 3) (pv 0) (fun _ _=>rfl)) (@pa_cons _ _ _ _ _ (pv 1) (@pa_cons _ _ _ _ _ (pv 4) pa_nil (by rfl)) (by rfl)) (by rfl)) (by decide) (by rfl) (by rfl))) (@pa_cons _ _ _ _ _ (pv 4) pa_nil (by rfl)) (by rfl)) (by decide) (by rfl) (by rfl))⟩) (by decide +kernel) (by first | rfl | decide +kernel) (by first | rfl | decide +kernel) rfl (fun _=>rfl)))))),?_⟩
 rw [show start ["web","width","values","told"] [.ref x,.int wd,.ref v]=[some (.ref x),some (.int wd),some (.ref v),none] from rfl]
 try walk_at "WP"
 refine ⟨x,v,dl,gl,us,ds,os,gs,xs,wd,rfl,W,hv,hD,x12,w1,w2,fun r H1 nr s1 hr1=>?_⟩
 have W1:=W.same s1
 have h1:=W1.tup
 (iterate 5 ((try (walk_at "WP")); (try (simp only [h1,qJs,qJt,qJl,qJd,exists_eq_left',exists_eq_left])))); (try (walk_at "WP"))
 refine ⟨⟨_,SqL.of W1.gll⟩,?_⟩
 refine comp_goalsK W1.gll W1.hgs (by omega) (fun g=>some (V.int (outIn wd (rinW wd xs ds) g))) (fun g H' R hgm s' hR=>?_) (fun acc H' na s' ha=>?_)
 ·rw [show capV [3,1] [some (V.ref x),some (V.int wd),some (V.ref v),some (V.ref r)]=[some (V.ref r),some (V.int wd)] from rfl,List.cons_append,List.cons_append,List.cons_append,List.nil_append]
  obtain ⟨g1,g2,g3,g4⟩:=hg g hgm
  obtain ⟨u,e1,e2,e3⟩:=rinW_at (w:=wd) (xs:=xs) (ds:=ds) g1
  have hr2:=s' _ _ hr1
  have a1:atI ((rinW wd xs ds).map V.int) (g.th:Int)=some (.int u):=atI_nat (by rw [qI,e1]; rfl)
  (iterate 5 ((try (walk_at "WP")); (try (simp only [hr2,qJs,qJt,qJl,qJd,exists_eq_left',exists_eq_left])))); (try (walk_at "WP"))
  refine ⟨_,a1,u,g.sh,wd,rfl,g2,g3,w1,w2,rin_small4 w1 w2 hD u e3,?_⟩
  try walk_at "WP"
  refine ⟨by rcases g4 with z | z | z <;> rw [z] <;> exact mul_l (by decide) (by decide),_,wd,rfl,w1,by omega,?_⟩
  unfold outIn at hR
  rw [e2] at hR
  exact hR
 ·rw [show (gs.filterMap fun g=>some (V.int (outIn wd (rinW wd xs ds) g)))=(gs.map (outIn wd (rinW wd xs ds))).map V.int by rw [List.map_map]; exact filterMap_some (fun g=>V.int (outIn wd (rinW wd xs ds) g)) gs] at ha
  exact q acc H' (s1.free na) (s1.trans s') ha
end
section
variable {P:Program}{w:World}{K:PySem.W.Frag}{mg:Str -> Option Value}{base:Heap}
theorem ok_sure (T:Txt K mg):Cal P w K mg base 3 "sure" ["web","width"] spSure:=by
 have B:=T.bl
 have C_deed_arrows:=ok_darr (P:=P) (w:=w) (base:=base) T
 refine mkCal T.t_sure sc_sure (fun vs H Q E h=>?_) (fun f cdv A outer s H vs Q E hr h=>?_)
 ·obtain ⟨x,_,_,_,_,_,_,_,w,rfl,_⟩:=h
  rfl
 obtain ⟨x,dl,gl,ins,us,ds,os,gs,wd,rfl,W,hD,i12,w1,w2,q⟩:=h
 refine ⟨_,((@pss_cons _ _ _ _ _ (@ps_set _ _ (2) _ _ _ _ sc_sure.nd rfl (by walk_at "o") (@pe_op _ _ _ _ _ _ _ _ op_cat (@pe_comp0 _ _ _ _ _ _ _ _ (["thing","width"]) (1) ([1]) _ _ _ rfl (@pi_range1 _ _ _ _ _ _ rfl B.range (@pa_cons _ _ _ _ _ (@pe_ix _ _ _ _ _ _ _ ix_U (pv 0) pe_int (fun _ _=>rfl)) pa_nil (by rfl)) (by rfl)) (fun nd C s H fp=>⟨(@pg_name _ _ (0) _ nd rfl (by walk_at "o") (by walk_at "o")),pn_nil,(pv 1)⟩) (by decide +kernel) (by first | rfl | decide +kernel) (by first | rfl | decide +kernel) rfl (fun _=>rfl)) (@pe_comp0 _ _ _ _ _ _ _ _ (["deed","width"]) (1) ([1]) _ _ _ rfl (@pi_list _ _ _ _ (@pe_ix _ _ _ _ _ _ _ ix_U (pv 0) pe_int (fun _ _=>rfl))) (fun nd C s H fp=>⟨(@pg_name _ _ (0) _ nd rfl (by walk_at "o") (by walk_at "o")),pn_nil,(pv 1)⟩) (by decide +kernel) (by first | rfl | decide +kernel) (by first | rfl | decide +kernel) rfl (fun _=>rfl))) (by rfl) (by walk_at "o")) (@pss_cons _ _ _ _ _ (@ps_for _ _ _ _ _ _ _ _ PassesOwn.never rfl (@pi_list _ _ _ _ (@pe_cal _ _ _ _ _ _ _ _ _ _ C_deed_arrows hr rfl (@pa_cons _ _ _ _ _ (pv 0) pa_nil (by rfl)) (by decide) (by rfl) (by rfl))) (@pg_tupM _ _ _ _ _ 4 rfl (@pgs_cons _ _ _ _ _ (@pg_name _ _ (3) _ sc_sure.nd rfl (by walk_at "o") (by walk_at "o")) (@pgs_cons _ _ _ _ _ (@pg_name _ _ (4) _ sc_sure.nd rfl (by walk_at "o") (by walk_at "o")) (@pgs_cons _ _ _ _ _ (@pg_name _ _ (5) _ sc_sure.nd rfl (by walk_at "o") (by walk_at "o")) (@pgs_cons _ _ _ _ _ (@pg_name _ _ (6) _ sc_sure.nd rfl (by walk_at "o") (by walk_at "o")) pgs_nil (by rfl)) (by rfl)) (by rfl)) (by rfl)) (by rfl) (by rfl)) (@pss_one _ _ _ (@ps_asg _ _ _ _ _ _ (@pe_callB _ _ _ _ _ _ _ _ _ (@call_min2 _ rfl) rfl B.min bo_min (@pa_cons _ _ _ _ _ (@pe_ix _ _ _ _ _ _ _ ix_M (pv 2) (pv 4) (fun _ _=>rfl)) (@pa_cons _ _ _ _ _ (@pe_callB _ _ _ _ _ _ _ _ _ (@call_max2 _ rfl) rfl B.max bo_max (@pa_cons _ _ _ _ _ pe_int (@pa_cons _ _ _ _ _ (@pe_op _ _ _ _ _ _ _ _ op_add (@pe_ix _ _ _ _ _ _ _ ix_M (pv 2) (pv 3) (fun _ _=>rfl)) (pv 5)) pa_nil (by rfl)) (by rfl)) (by decide) (by decide) (by rfl) (by rfl)) pa_nil (by rfl)) (by rfl)) (by decide) (by decide) (by rfl) (by rfl)) (@pg_sub _ _ _ _ _ _ _ (pv 2) (pv 4) set_list (by intro _ ; rfl)) (by rfl) (by rfl) (by rfl))) (by intro _ ; rfl)) (@pss_one _ _ _ (@ps_ret _ _ _ _ (pv 2)))))),?_⟩
 rw [show start ["web","width","told","start","goal","shift","sign"] [.ref x,.int wd]=[some (.ref x),some (.int wd),none,none,none,none,none] from rfl]
 have h1:=W.tup
 have d60:=hD.dl
 (iterate 5 ((try (walk_at "WP")); (try (simp only [h1,qJs,qJt,qJl,qJd,exists_eq_left',exists_eq_left])))); (try (walk_at "WP"))
 refine ⟨by omega,by omega,?_⟩
 rw [Int.toNat_natCast]
 have ezg:∀ (ys:List V),(ys.filterMap fun _=>some (V.int wd))=(qQ ys.length wd).map V.int:=fun ys=>by
  rw [List.map_replicate]
  induction ys with
  | nil=>rfl
  | cons a r ih=>rw [List.filterMap_cons]; simp only [ih]; rfl
 refine comp_R (f:=fun _=>some (V.int wd)) (le_size (by omega)) (fun y H5 R5 hy s5 hR5=>?_) (fun l hl=>?_)
 ·rw [show capV [1] [some (V.ref x),some (V.int wd),none,none,none,none,none]=[some (V.int wd)] from rfl]
  try walk_at "WP"
  exact hR5
 rw [ezg,rngV_len]
 have sl:=same_new hl (.lst ((qQ ins wd).map V.int))
 have hll:upd H l (.lst ((qQ ins wd).map V.int)) l=some (.lst ((qQ ins wd).map V.int)):=upd_same
 have Wl:=W.same sl
 have h2:=Wl.tup
 generalize upd H l (.lst ((qQ ins wd).map V.int))=H1 at sl hll Wl h2 ⊢
 (iterate 5 ((try (walk_at "WP")); (try (simp only [h2,qJs,qJt,qJl,qJd,exists_eq_left',exists_eq_left])))); (try (walk_at "WP"))
 refine ⟨⟨_,SqL.of Wl.dll⟩,?_⟩
 refine comp_L (f:=fun _=>some (V.int wd)) (SqL.of Wl.dll) (by rw [Wl.hds.len]; exact le_big (by omega)) (fun y H' R hy hS' hR=>?_) (fun acc hacc=>?_)
 ·rw [show capV [1] [some (V.ref x),some (V.int wd),none,none,none,none,none]=[some (V.int wd)] from rfl]
  try walk_at "WP"
  exact hR
 rw [ezg,W.hds.len]
 have sa:=same_new hacc (.lst ((qQ ds.length wd).map V.int))
 have haa:upd H1 acc (.lst ((qQ ds.length wd).map V.int)) acc=some (.lst ((qQ ds.length wd).map V.int)):=upd_same
 have hl2:=sa _ _ hll
 have S2:=sl.trans sa
 generalize upd H1 acc (.lst ((qQ ds.length wd).map V.int))=H2 at sa haa hl2 S2 ⊢
 try walk_at "WP"
 refine ⟨_,hl2,_,haa,by simp only [qC,qL]; exact le_big (by omega),fun r hr0=>?_⟩
 rw [← List.map_append]
 have sr:=same_new hr0 (.lst ((qQ ins wd ++ qQ ds.length wd).map V.int))
 have hrr:upd H2 r (.lst ((qQ ins wd ++ qQ ds.length wd).map V.int)) r=some (.lst ((tG gSu wd (qQ ins wd) ds 0).map V.int)):=upd_same
 have S3:=S2.trans sr
 have nr:H r=none:=S2.free hr0
 generalize upd H2 r (.lst ((qQ ins wd ++ qQ ds.length wd).map V.int))=H3 at hrr S3 ⊢
 try walk_at "WP"
 refine ⟨x,dl,gl,ins,us,ds,os,gs,rfl,W.same S3,by omega,fun al ws H4 na s4 ha4 hts=>?_⟩
 try walk_at "WP"
 refine ⟨⟨_,SqL.of ha4⟩,?_⟩
 have alr:al ≠ r:=(ne_of_none hrr na).symm
 have xl:(qQ ins wd).length=ins:=qL
 have dk2:∀ (k:Nat) (d:Wd),ds[k]? = some d -> d.a < (qQ ins wd).length+k /\ d.b < (qQ ins wd).length+k:=fun k d hd=>by
  obtain ⟨a,b,_⟩:=hD.dk k d hd
  rw [xl]
  exact ⟨a,b⟩
 refine forL (xs:=ws) (fun i σ H5=>∃ (o3 o4 o5 o6:Option V),σ = [some (.ref x),some (.int wd),some (.ref r),o3,o4,o5,o6] /\ H5 r=some (.lst ((tG gSu wd (qQ ins wd) ds i).map V.int)) /\ Chg r H4 H5) ⟨none,none,none,none,rfl,s4 _ _ hrr,fun _ _ _ z=>z⟩ ?_ ?_ ?_
 ·rintro i σ H5 _ ⟨_,_,_,_,_,_,c5⟩
  exact SqL.of (c5 _ _ alr ha4)
 ·rintro i y σ H5 N hy ⟨o3,o4,o5,o6,rfl,hr5,c5⟩ hN
  have hi:i < (arrF ins 0 ds).length:=by rw [← hts.len]; exact (qB.mp hy).1
  obtain ⟨p,hp1,hp2⟩:=hts.at_ i _ (qA hi)
  have hai:(arrF ins 0 ds)[i]? = some (arrF ins 0 ds)[i]:=qA hi
  generalize (arrF ins 0 ds)[i]=a at hp2 hai
  rw [hy] at hp1
  cases hp1
  have hp5:=c5 _ _ (ne_of hp2 (s4 _ _ hrr) (by intro z; cases z)) hp2
  unfold aTup at hp5
  obtain ⟨u,z,e1,e2,e3,⟨d,hd,e4⟩,e5,e6⟩:=tG_step (g:=gSu) (z:=wd) dk2 (by rw [xl]; exact hai)
  have a1:atI ((tG gSu wd (qQ ins wd) ds i).map V.int) (a.st:Int)=some (.int u):=atI_nat (by rw [qI,e1]; rfl)
  have a2:atI ((tG gSu wd (qQ ins wd) ds i).map V.int) (a.go:Int)=some (.int z):=atI_nat (by rw [qI,e2]; rfl)
  (iterate 5 ((try (walk_at "WP")); (try (simp only [hp5,hr5,qJs,qJt,qJl,qJd,exists_eq_left',exists_eq_left])))); (try (walk_at "WP"))
  refine ⟨_,a2,_,a1,?_⟩
  (iterate 5 ((try (walk_at "WP")); (try (simp only [hr5,qJs,qJt,qJl,qJd,exists_eq_left',exists_eq_left])))); (try (walk_at "WP"))
  refine ⟨_,_,⟨rfl,rfl⟩,_,_,⟨rfl,rfl⟩,?_⟩
  have hgl:a.go < (tG gSu wd (qQ ins wd) ds i).length:=(qB.mp e2).1
  (iterate 5 ((try (walk_at "WP")); (try (simp only [hr5,qJs,qJt,qJl,qJd,exists_eq_left',exists_eq_left])))); (try (walk_at "WP"))
  refine ⟨a.go,by rw [qC]; exact ixN_nat hgl,?_⟩
  have em:(if (if u+a.sh > 0 then u+a.sh else 0) < z then (if u+a.sh > 0 then u+a.sh else 0) else z)=gSu z a.sh a.sg u:=by
   show _=min z (max 0 (u+a.sh))
   split <;> split <;> omega
  rw [em,set_mapI,e6]
  exact hN _ _ ⟨_,_,_,_,rfl,upd_same,c5.trans (Chg.upd _)⟩
 ·rintro σ H5 ⟨_,_,_,_,rfl,hr5,c5⟩
  try walk_at "WP"
  rw [hts.len,arrF_len,tG_end] at hr5
  exact q r H5 nr (fun b o hb=>c5 _ _ (ne_of_none hb nr) (s4 _ _ (S3 _ _ hb))) hr5
end
section
variable {P:Program}{w:World}{K:PySem.W.Frag}{mg:Str -> Option Value}{base:Heap}
theorem ok_shrow (T:Txt K mg):Cal P w K mg base 2 "shifted_row" ["row","shift"] spShRow:=by
 have B:=T.bl
 have C_shifted:=ok_shifted (P:=P) (w:=w) (base:=base) T
 refine mkCal T.t_shifted_row sc_shifted_row (fun vs H Q E h=>?_) (fun f cdv A outer s H vs Q E hr h=>?_)
 ·obtain ⟨l,s,xs,rfl,_⟩:=h
  rfl
 obtain ⟨l,sh,xs,rfl,hl,hlen,hb,hs,q⟩:=h
 obtain ⟨s0,s1,hd⟩:=id hs
 refine ⟨_,((@pss_one _ _ _ (@ps_ret _ _ _ _ (@pe_comp0 _ _ _ _ _ _ _ _ (["number","shift"]) (1) ([1]) _ _ _ rfl (@pi_tup _ _ _ _ (pv 0)) (fun nd C s H fp=>⟨(@pg_name _ _ (0) _ nd rfl (by walk_at "o") (by walk_at "o")),pn_nil,(@pe_cal _ _ _ _ _ _ _ _ _ _ C_shifted hr rfl (@pa_cons _ _ _ _ _ (pv 0) (@pa_cons _ _ _ _ _ (pv 1) pa_nil (by rfl)) (by rfl)) (by decide) (by rfl) (by rfl))⟩) (by decide +kernel) (by first | rfl | decide +kernel) (by first | rfl | decide +kernel) rfl (fun _=>rfl))))),?_⟩
 rw [show start ["row","shift"] [.ref l,.int sh]=[some (.ref l),some (.int sh)] from rfl]
 unfold iT at hl
 try walk_at "WP"
 refine ⟨⟨_,SqT.of hl⟩,?_⟩
 refine comp_T (f:=shRV sh) (SqT.of hl) (by rw [qC]; exact le_big (by omega)) (fun y H' R hy hS' hR=>?_) (fun acc hacc=>?_)
 ·obtain ⟨n,hn,rfl⟩:=qP.mp hy
  rw [show capV [1] [some (V.ref l),some (V.int sh)]=[some (V.int sh)] from rfl]
  try walk_at "WP"
  exact ⟨n,sh,rfl,by omega,by omega,qJ (hb n hn) (qN (by decide) (by decide)),hR⟩
 rw [shRV_map hd]
 exact q acc _ hacc (same_new hacc _) upd_same
theorem ok_inrow (T:Txt K mg):Cal P w K mg base 1 "input_row" ["ins","thing"] spInRow:=by
 have B:=T.bl
 refine mkCal T.t_input_row sc_input_row (fun vs H Q E h=>?_) (fun f cdv A outer s H vs Q E hr h=>?_)
 ·obtain ⟨n,i,rfl,_⟩:=h
  rfl
 obtain ⟨n,i,rfl,hn,q⟩:=h
 refine ⟨_,((@pss_one _ _ _ (@ps_ret _ _ _ _ (@pe_callTy _ _ _ _ _ _ _ _ _ call_tuple_of rfl B.tuple bo_tuple (@pa_cons _ _ _ _ _ (@pe_comp0 _ _ _ _ _ _ _ _ (["place","thing"]) (1) ([1]) _ _ _ rfl (@pi_range1 _ _ _ _ _ _ rfl B.range (@pa_cons _ _ _ _ _ (pv 0) pa_nil (by rfl)) (by rfl)) (fun nd C s H fp=>⟨(@pg_name _ _ (0) _ nd rfl (by walk_at "o") (by walk_at "o")),pn_nil,(@pe_ifExp _ _ _ _ _ _ _ _ (@pt_cmpR _ _ _ _ _ _ _ _ op_eq (pv 0) (pv 1) (@nomark _ _ (by decide) (by decide))) pe_int pe_int)⟩) (by decide +kernel) (by first | rfl | decide +kernel) (by first | rfl | decide +kernel) rfl (fun _=>rfl)) pa_nil (by rfl)) (by decide) (by decide) (by rfl) (by rfl))))),?_⟩
 rw [show start ["ins","thing"] [.int n,.int i]=[some (.int n),some (.int i)] from rfl]
 try walk_at "WP"
 refine ⟨by omega,by omega,?_⟩
 rw [Int.toNat_natCast]
 refine comp_R (f:=unV i) (le_size (by omega)) (fun y H5 R5 hy s5 hR5=>?_) (fun acc hacc=>?_)
 ·obtain ⟨k,hk,rfl⟩:=qP.mp hy
  rw [show capV [1] [some (V.int (n:Int)),some (V.int (i:Int))]=[some (V.int (i:Int))] from rfl]
  try walk_at "WP"
  have e:unV i (V.int (0+(k:Int)))=some (V.int (if 0+(k:Int)=(i:Int) then 1 else 0)):=rfl
  rw [e] at hR5
  refine ite2 (fun z=>?_) (fun z=>?_)
  ·rw [if_pos z] at hR5
   exact hR5
  ·rw [if_neg z] at hR5
   exact hR5
 rw [unV_map]
 have sa:=same_new hacc (.lst ((unitRow n i).map V.int))
 try walk_at "WP"
 refine ⟨_,.inl ⟨SqL.of upd_same,fun r hr0=>?_⟩⟩
 exact q r _ (sa.free hr0) (sa.trans (same_new hr0 _)) upd_same
theorem ok_inrows (T:Txt K mg):Cal P w K mg base 2 "input_rows" ["ins"] spInRows:=by
 have B:=T.bl
 have C_input_row:=ok_inrow (P:=P) (w:=w) (base:=base) T
 refine mkCal T.t_input_rows sc_input_rows (fun vs H Q E h=>?_) (fun f cdv A outer s H vs Q E hr h=>?_)
 ·obtain ⟨n,rfl,_⟩:=h
  rfl
 obtain ⟨n,rfl,hn,q⟩:=h
 refine ⟨_,((@pss_one _ _ _ (@ps_ret _ _ _ _ (@pe_comp0 _ _ _ _ _ _ _ _ (["thing","ins"]) (1) ([0]) _ _ _ rfl (@pi_range1 _ _ _ _ _ _ rfl B.range (@pa_cons _ _ _ _ _ (pv 0) pa_nil (by rfl)) (by rfl)) (fun nd C s H fp=>⟨(@pg_name _ _ (0) _ nd rfl (by walk_at "o") (by walk_at "o")),pn_nil,(@pe_cal _ _ _ _ _ _ _ _ _ _ C_input_row hr rfl (@pa_cons _ _ _ _ _ (pv 1) (@pa_cons _ _ _ _ _ (pv 0) pa_nil (by rfl)) (by rfl)) (by decide) (by rfl) (by rfl))⟩) (by decide +kernel) (by first | rfl | decide +kernel) (by first | rfl | decide +kernel) rfl (fun _=>rfl))))),?_⟩
 rw [show start ["ins"] [.int n]=[some (.int n)] from rfl]
 try walk_at "WP"
 refine ⟨by omega,by omega,?_⟩
 rw [Int.toNat_natCast]
 refine comp_tups (f:=iT) (xs:=rngV 0 n) ((List.range n).map (unitRow n)) (by rw [rngV_len,qC,List.length_range]) (by rw [rngV_len]; omega) (fun H' _=>it_R) (fun i x z H' R hx hz s' hR=>?_) (fun acc ys H' ha s' h' ht=>q acc ys H' ha s' h' ht)
 have hi:i < n:=by have:=(qB.mp hx).1; rwa [rngV_len] at this
 rw [rngV_get hi] at hx
 cases hx
 rw [qI,List.getElem?_range hi] at hz
 cases hz
 rw [show capV [0] [some (V.int (n:Int))]=[some (V.int (n:Int))] from rfl]
 try walk_at "WP"
 rw [Int.zero_add]
 exact ⟨n,i,rfl,hn,fun r H5 a b c=>hR r H5 a b c⟩
theorem ok_drow (T:Txt K mg):Cal P w K mg base 3 "deed_row" ["deed","rows"] spDRow:=by
 have B:=T.bl
 have C_shifted_row:=ok_shrow (P:=P) (w:=w) (base:=base) T
 have C_second_sign:=(ok_second (P:=P) (w:=w) (base:=base) T).mono (k:=2) (by decide)
 refine mkCal T.t_deed_row sc_deed_row (fun vs H Q E h=>?_) (fun f cdv A outer s H vs Q E hr h=>?_)
 ·obtain ⟨x,l,d,ys,rs,ins,b,rfl,_⟩:=h
  rfl
 obtain ⟨x,l,d,ys,rs,ins,b,rfl,hx,hl,ht,ha,hb,hsa,hsb,hw,hi,rb,hb8,q⟩:=h
 refine ⟨_,((@pss_cons _ _ _ _ _ (@ps_set _ _ (2) _ _ _ _ sc_deed_row.nd rfl (by walk_at "o") (@pe_cal _ _ _ _ _ _ _ _ _ _ C_shifted_row hr rfl (@pa_cons _ _ _ _ _ (@pe_ix _ _ _ _ _ _ _ ix_M (pv 1) (@pe_ix _ _ _ _ _ _ _ ix_U (pv 0) pe_int (fun _ _=>rfl)) (fun _ _=>rfl)) (@pa_cons _ _ _ _ _ (@pe_ix _ _ _ _ _ _ _ ix_U (pv 0) pe_int (fun _ _=>rfl)) pa_nil (by rfl)) (by rfl)) (by decide) (by rfl) (by rfl)) (by rfl) (by walk_at "o")) (@pss_cons _ _ _ _ _ (@ps_set _ _ (3) _ _ _ _ sc_deed_row.nd rfl (by walk_at "o") (@pe_cal _ _ _ _ _ _ _ _ _ _ C_shifted_row hr rfl (@pa_cons _ _ _ _ _ (@pe_ix _ _ _ _ _ _ _ ix_M (pv 1) (@pe_ix _ _ _ _ _ _ _ ix_U (pv 0) pe_int (fun _ _=>rfl)) (fun _ _=>rfl)) (@pa_cons _ _ _ _ _ (@pe_ix _ _ _ _ _ _ _ ix_U (pv 0) pe_int (fun _ _=>rfl)) pa_nil (by rfl)) (by rfl)) (by decide) (by rfl) (by rfl)) (by rfl) (by walk_at "o")) (@pss_cons _ _ _ _ _ (@ps_set _ _ (4) _ _ _ _ sc_deed_row.nd rfl (by walk_at "o") (@pe_cal _ _ _ _ _ _ _ _ _ _ C_second_sign hr rfl (@pa_cons _ _ _ _ _ (pv 0) pa_nil (by rfl)) (by decide) (by rfl) (by rfl)) (by rfl) (by walk_at "o")) (@pss_one _ _ _ (@ps_ret _ _ _ _ (@pe_callTy _ _ _ _ _ _ _ _ _ call_tuple_of rfl B.tuple bo_tuple (@pa_cons _ _ _ _ _ (@pe_comp0 _ _ _ _ _ _ _ _ (["one","other","sign"]) (2) ([4]) _ _ _ rfl (@pi_zip _ _ _ _ _ _ _ _ _ rfl B.zip (@pa_cons _ _ _ _ _ (pv 2) (@pa_cons _ _ _ _ _ (pv 3) pa_nil (by rfl)) (by rfl)) (by rfl) (by rfl)) (fun nd C s H fp=>⟨(@pg_tupM _ _ _ _ _ 2 rfl (@pgs_cons _ _ _ _ _ (@pg_name _ _ (0) _ nd rfl (by walk_at "o") (by walk_at "o")) (@pgs_cons _ _ _ _ _ (@pg_name _ _ (1) _ nd rfl (by walk_at "o") (by walk_at "o")) pgs_nil (by rfl)) (by rfl)) (by rfl) (by rfl)),pn_nil,(@pe_op _ _ _ _ _ _ _ _ op_add (pv 0) (@pe_op _ _ _ _ _ _ _ _ op_mulB (pv 2) (pv 1)))⟩) (by decide +kernel) (by first | rfl | decide +kernel) (by first | rfl | decide +kernel) rfl (fun _=>rfl)) pa_nil (by rfl)) (by decide) (by decide) (by rfl) (by rfl)))))))),?_⟩
 rw [show start ["deed","rows","left","right","sign"] [.ref x,.ref l]=[some (.ref x),some (.ref l),none,none,none] from rfl]
 have hx':=hx
 unfold wTup at hx'
 (iterate 5 ((try (walk_at "WP")); (try (simp only [hx',hl,qJs,qJt,qJl,qJd,exists_eq_left',exists_eq_left])))); (try (walk_at "WP"))
 obtain ⟨la,a1,a2,a3⟩:=tup_of ht ha
 refine ⟨_,a1,?_⟩
 refine ⟨la,d.s,_,rfl,a2,by rw [hw _ a3]; omega,rb.lt a3 hb8,hsa,fun r1 H1 n1 s1 h1=>?_⟩
 have hx1:=s1 _ _ hx'
 have hl1:=s1 _ _ hl
 (iterate 5 ((try (walk_at "WP")); (try (simp only [hx1,hl1,qJs,qJt,qJl,qJd,exists_eq_left',exists_eq_left])))); (try (walk_at "WP"))
 obtain ⟨lb,b1,b2,b3⟩:=tup_of (ht.same s1) hb
 refine ⟨_,b1,_,rfl,?_⟩
 refine ⟨lb,d.t,_,rfl,b2,by rw [hw _ b3]; omega,rb.lt b3 hb8,hsb,fun r2 H2 n2 s2 h2=>?_⟩
 try walk_at "WP"
 refine ⟨x,d,rfl,(s1.trans s2) _ _ hx,?_⟩
 try walk_at "WP"
 have h1':=s2 _ _ h1
 refine ⟨r1,r2,⟨rfl,rfl⟩,_,SqL.of h1',_,SqL.of h2,?_⟩
 have hg:sgW d.w=1 \/ sgW d.w = -1:=by
  unfold sgW
  split
  ·exact .inr rfl
  ·exact .inl rfl
 have hla:=hw _ a3
 have hlb:=hw _ b3
 refine comp_zip (SqL.of h1') (SqL.of h2) (by simp only [qC]; omega) (by simp only [qC]; omega) ((rowD rs d).map V.int) (by unfold rowD; simp only [qC,List.length_zipWith]; omega) (fun i u v z H' R hu hv hz s' hR=>?_) (fun acc H3 n3 s3 h3=>?_)
 ·rw [show capV [4] [some (V.ref x),some (V.ref l),some (V.ref r1),some (V.ref r2),some (V.int (sgW d.w))]=[some (V.int (sgW d.w))] from rfl]
  obtain ⟨x',hx2,rfl⟩:=map_at hu
  obtain ⟨y',hy2,rfl⟩:=map_at hv
  obtain ⟨z',hz2,rfl⟩:=map_at hz
  have ez:z'=x'+sgW d.w * y':=by
   unfold rowD at hz2
   rw [qI] at hx2 hy2
   rw [List.getElem?_zipWith] at hz2
   cases q1:(rs.getD d.a [])[i]? with
   | none=>rw [q1] at hx2; cases hx2
   | some p1 =>
    cases q2:(rs.getD d.b [])[i]? with
    | none=>rw [q2] at hy2; cases hy2
    | some p2 =>
     rw [q1] at hx2 hz2
     rw [q2] at hy2 hz2
     cases hx2
     cases hy2
     cases hz2
     rfl
  subst ez
  rw [List.cons_append,List.cons_append,List.nil_append]
  try walk_at "WP"
  exact ⟨mul_l (by omega) (by omega),hR⟩
 try walk_at "WP"
 refine ⟨_,.inl ⟨SqL.of h3,fun r hr0=>?_⟩⟩
 have s13:=(s1.trans s2).trans s3
 exact q r _ (s13.free hr0) (s13.trans (same_new hr0 _)) upd_same
theorem ok_nums (T:Txt K mg):Cal P w K mg base 4 "numbers" ["web"] spNums:=by
 have B:=T.bl
 have C_input_rows:=(ok_inrows (P:=P) (w:=w) (base:=base) T).mono (k:=3) (by decide)
 have C_deed_row:=ok_drow (P:=P) (w:=w) (base:=base) T
 refine mkCal T.t_numbers sc_numbers (fun vs H Q E h=>?_) (fun f cdv A outer s H vs Q E hr h=>?_)
 ·obtain ⟨x,_,_,_,_,_,_,_,rfl,_⟩:=h
  rfl
 obtain ⟨x,dl,gl,ins,us,ds,os,gs,rfl,W,F,q⟩:=h
 refine ⟨_,((@pss_cons _ _ _ _ _ (@ps_set _ _ (1) _ _ _ _ sc_numbers.nd rfl (by walk_at "o") (@pe_cal _ _ _ _ _ _ _ _ _ _ C_input_rows hr rfl (@pa_cons _ _ _ _ _ (@pe_ix _ _ _ _ _ _ _ ix_U (pv 0) pe_int (fun _ _=>rfl)) pa_nil (by rfl)) (by decide) (by rfl) (by rfl)) (by rfl) (by walk_at "o")) (@pss_cons _ _ _ _ _ (@ps_for _ _ _ _ _ _ _ _ PassesOwn.never rfl (@pi_list _ _ _ _ (@pe_ix _ _ _ _ _ _ _ ix_U (pv 0) pe_int (fun _ _=>rfl))) (@pg_name _ _ (2) _ sc_numbers.nd rfl (by walk_at "o") (by walk_at "o")) (@pss_one _ _ _ (@ps_expr _ _ _ _ (@pe_bm _ _ _ _ _ _ _ _ _ _ _ _ PySem.F.plainAttrs_list PySem.F.slot_list_append PySem.F.type_list_append mt_append (pv 1) (@pa_cons _ _ _ _ _ (@pe_cal _ _ _ _ _ _ _ _ _ _ C_deed_row hr rfl (@pa_cons _ _ _ _ _ (pv 2) (@pa_cons _ _ _ _ _ (pv 1) pa_nil (by rfl)) (by rfl)) (by decide) (by rfl) (by rfl)) pa_nil (by rfl)) (by rfl) (by rfl) (by rfl) (by rfl) (by rfl)) (by rfl))) (by intro _ ; rfl)) (@pss_one _ _ _ (@ps_ret _ _ _ _ (pv 1)))))),?_⟩
 rw [show start ["web","rows","deed"] [.ref x]=[some (.ref x),none,none] from rfl]
 have h1:=W.tup
 (iterate 5 ((try (walk_at "WP")); (try (simp only [h1,qJs,qJt,qJl,qJd,exists_eq_left',exists_eq_left])))); (try (walk_at "WP"))
 have i12:=F.ok.i2
 have dl60:=F.ok.dl
 refine ⟨ins,rfl,by omega,fun rw0 ys H1 nr s1 hr1 ht=>?_⟩
 have h2:=s1 _ _ h1
 (iterate 5 ((try (walk_at "WP")); (try (simp only [h2,qJs,qJt,qJl,qJd,exists_eq_left',exists_eq_left])))); (try (walk_at "WP"))
 refine ⟨⟨_,SqL.of (s1 _ _ W.dll)⟩,?_⟩
 refine forL (xs:=us) (fun i σ H2=>∃ (o2:Option V) (ys:List V),σ = [some (.ref x),some (.ref rw0),o2] /\ Same H H2 /\ H2 rw0=some (.lst ys) /\ HTs iT H2 ys (rowsW ins (ds.take i))) ⟨none,ys,rfl,s1,hr1,ht⟩ ?_ ?_ ?_
 ·rintro i σ H2 _ ⟨_,_,_,s2,_⟩
  exact SqL.of (s2 _ _ W.dll)
 ·rintro i v σ H2 N hv ⟨o2,ys,rfl,s2,hr2,ht2⟩ hN
  have hi:i < ds.length:=by rw [← W.hds.len]; exact (qB.mp hv).1
  obtain ⟨y,hy1,hy2⟩:=W.hds.at_ i _ (qA hi)
  have hdi:ds[i]? = some ds[i]:=qA hi
  generalize ds[i]=d at hy2 hdi
  rw [hv] at hy1
  cases hy1
  try walk_at "WP"
  refine ⟨ty_list hr2,?_⟩
  obtain ⟨da,db,sa,sb⟩:=F.sh i d hdi
  have rl:(rowsW ins (ds.take i)).length=ins+i:=by rw [rowsW_len,qO]; omega
  refine ⟨y,rw0,d,ys,rowsW ins (ds.take i),ins,41 * ds.length,rfl,s2 _ _ hy2,hr2,ht2,by omega,by omega,by rw [rowsW_takeD (by omega) da]; exact sa,by rw [rowsW_takeD (by omega) db]; exact sb,fun r hr=>F.wd r (rowsW_sub r hr),i12,fun r hr=>F.rb r (rowsW_sub r hr),by omega,fun r H3 nr3 s3 hr3=>?_⟩
  have hr4:=s3 _ _ hr2
  have yl:ys.length=ins+i:=by rw [ht2.len,rl]
  (iterate 5 ((try (walk_at "WP")); (try (simp only [hr4,qJs,qJt,qJl,qJd,exists_eq_left',exists_eq_left])))); (try (walk_at "WP"))
  refine ⟨qJ (by omega:ys.length < 1000) (le_size (by decide)),hN _ _ ⟨_,_,rfl,same_upd nr (s2.trans s3),upd_same,?_⟩⟩
  rw [rowsW_take hdi]
  exact ((ht2.same s3).chgL hr4 (Chg.upd _)).snoc (by rw [upd_ne (ne_of hr3 hr4 (by intro z; cases z))]; exact hr3)
 ·rintro σ H2 ⟨o2,ys,rfl,s2,hr2,ht2⟩
  try walk_at "WP"
  rw [W.hds.len,List.take_length] at ht2
  exact q rw0 ys H2 nr s2 hr2 ht2
theorem ok_orow (T:Txt K mg):Cal P w K mg base 3 "out_row" ["out","rows"] spORow:=by
 have B:=T.bl
 have C_shifted_row:=ok_shrow (P:=P) (w:=w) (base:=base) T
 refine mkCal T.t_out_row sc_out_row (fun vs H Q E h=>?_) (fun f cdv A outer s H vs Q E hr h=>?_)
 ·obtain ⟨x,l,g,ys,rs,ins,b,rfl,_⟩:=h
  rfl
 obtain ⟨x,l,g,ys,rs,ins,b,rfl,hx,hl,ht,ha,hs,hg,hw,hi,rb,hb8,q⟩:=h
 refine ⟨_,((@pss_one _ _ _ (@ps_ret _ _ _ _ (@pe_callTy _ _ _ _ _ _ _ _ _ call_tuple_of rfl B.tuple bo_tuple (@pa_cons _ _ _ _ _ (@pe_comp0 _ _ _ _ _ _ _ _ (["number","out"]) (1) ([0]) _ _ _ rfl (@pi_list _ _ _ _ (@pe_cal _ _ _ _ _ _ _ _ _ _ C_shifted_row hr rfl (@pa_cons _ _ _ _ _ (@pe_ix _ _ _ _ _ _ _ ix_M (pv 1) (@pe_ix _ _ _ _ _ _ _ ix_U (pv 0) pe_int (fun _ _=>rfl)) (fun _ _=>rfl)) (@pa_cons _ _ _ _ _ (@pe_ix _ _ _ _ _ _ _ ix_U (pv 0) pe_int (fun _ _=>rfl)) pa_nil (by rfl)) (by rfl)) (by decide) (by rfl) (by rfl))) (fun nd C s H fp=>⟨(@pg_name _ _ (0) _ nd rfl (by walk_at "o") (by walk_at "o")),pn_nil,(@pe_op _ _ _ _ _ _ _ _ op_mulB (@pe_ix _ _ _ _ _ _ _ ix_U (pv 1) pe_int (fun _ _=>rfl)) (pv 0))⟩) (by decide +kernel) (by first | rfl | decide +kernel) (by first | rfl | decide +kernel) rfl (fun _=>rfl)) pa_nil (by rfl)) (by decide) (by decide) (by rfl) (by rfl))))),?_⟩
 rw [show start ["out","rows"] [.ref x,.ref l]=[some (.ref x),some (.ref l)] from rfl]
 have hx':=hx
 unfold gTp at hx'
 (iterate 5 ((try (walk_at "WP")); (try (simp only [hx',hl,qJs,qJt,qJl,qJd,exists_eq_left',exists_eq_left])))); (try (walk_at "WP"))
 obtain ⟨la,a1,a2,a3⟩:=tup_of ht ha
 refine ⟨_,a1,?_⟩
 refine ⟨la,g.sh,_,rfl,a2,by rw [hw _ a3]; omega,rb.lt a3 hb8,hs,fun r1 H1 n1 s1 h1=>?_⟩
 try walk_at "WP"
 refine ⟨⟨_,SqL.of h1⟩,?_⟩
 have hla:=hw _ a3
 refine comp_L (f:=liI fun n=>g.sg * n) (SqL.of h1) (by simp only [qC]; exact le_big (by omega)) (fun y H' R hy hS' hR=>?_) (fun acc hacc=>?_)
 ·obtain ⟨n,hn,rfl⟩:=qP.mp hy
  rw [show capV [0] [some (V.ref x),some (V.ref l)]=[some (V.ref x)] from rfl]
  have hx2:=hS' _ _ (s1 _ _ hx')
  (iterate 5 ((try (walk_at "WP")); (try (simp only [hx2,qJs,qJt,qJl,qJd,exists_eq_left',exists_eq_left])))); (try (walk_at "WP"))
  exact ⟨mul_l (by omega) (by omega),hR⟩
 rw [liI_map,show ((rs.getD g.th []).map (mvI g.sh)).map (fun n=>g.sg * n)=outR rs g by unfold outR; rw [List.map_map]; rfl]
 have sa:=same_new hacc (.lst ((outR rs g).map V.int))
 try walk_at "WP"
 refine ⟨_,.inl ⟨SqL.of upd_same,fun r hr0=>?_⟩⟩
 have s13:=s1.trans sa
 exact q r _ (s13.free hr0) (s13.trans (same_new hr0 _)) upd_same
theorem ok_onums (T:Txt K mg):Cal P w K mg base 5 "out_numbers" ["web"] spONums:=by
 have B:=T.bl
 have C_numbers:=ok_nums (P:=P) (w:=w) (base:=base) T
 have C_out_row:=(ok_orow (P:=P) (w:=w) (base:=base) T).mono (k:=4) (by decide)
 refine mkCal T.t_out_numbers sc_out_numbers (fun vs H Q E h=>?_) (fun f cdv A outer s H vs Q E hr h=>?_)
 ·obtain ⟨x,_,_,_,_,_,_,_,rfl,_⟩:=h
  rfl
 obtain ⟨x,dl,gl,ins,us,ds,os,gs,rfl,W,F,q⟩:=h
 refine ⟨_,((@pss_cons _ _ _ _ _ (@ps_set _ _ (1) _ _ _ _ sc_out_numbers.nd rfl (by walk_at "o") (@pe_cal _ _ _ _ _ _ _ _ _ _ C_numbers hr rfl (@pa_cons _ _ _ _ _ (pv 0) pa_nil (by rfl)) (by decide) (by rfl) (by rfl)) (by rfl) (by walk_at "o")) (@pss_one _ _ _ (@ps_ret _ _ _ _ (@pe_comp0 _ _ _ _ _ _ _ _ (["out","rows"]) (1) ([1]) _ _ _ rfl (@pi_list _ _ _ _ (@pe_ix _ _ _ _ _ _ _ ix_U (pv 0) pe_int (fun _ _=>rfl))) (fun nd C s H fp=>⟨(@pg_name _ _ (0) _ nd rfl (by walk_at "o") (by walk_at "o")),pn_nil,(@pe_cal _ _ _ _ _ _ _ _ _ _ C_out_row hr rfl (@pa_cons _ _ _ _ _ (pv 0) (@pa_cons _ _ _ _ _ (pv 1) pa_nil (by rfl)) (by rfl)) (by decide) (by rfl) (by rfl))⟩) (by decide +kernel) (by first | rfl | decide +kernel) (by first | rfl | decide +kernel) rfl (fun _=>rfl)))))),?_⟩
 rw [show start ["web","rows"] [.ref x]=[some (.ref x),none] from rfl]
 try walk_at "WP"
 refine ⟨x,dl,gl,ins,us,ds,os,gs,rfl,W,F,fun r0 ys H1 n1 s1 h1 ht=>?_⟩
 have h2:=s1 _ _ W.tup
 (iterate 5 ((try (walk_at "WP")); (try (simp only [h2,qJs,qJt,qJl,qJd,exists_eq_left',exists_eq_left])))); (try (walk_at "WP"))
 have gl12:=F.ok.gl
 have i1:=F.ok.i1
 have dl60:=F.ok.dl
 have hg1:=(W.same s1).gll
 refine ⟨⟨_,SqL.of hg1⟩,?_⟩
 refine comp_tups (f:=iT) (xs:=os) (gs.map (outR (rowsW ins ds))) (by rw [qC,W.hgs.len]) (by rw [W.hgs.len]; omega) (fun H' s'=>it_Ls (SqL.of hg1) s') (fun i v z H' R hv hz s' hR=>?_) (fun acc zs H' ha s' h' ht'=>q acc zs H' (s1.free ha) (s1.trans s') h' ht')
 have hi:i < gs.length:=by rw [← W.hgs.len]; exact (qB.mp hv).1
 obtain ⟨y,hy1,hy2⟩:=W.hgs.at_ i _ (qA hi)
 have hgi:gs[i]? = some gs[i]:=qA hi
 generalize gs[i]=g at hy2 hgi
 rw [hv] at hy1
 cases hy1
 rw [qI,hgi] at hz
 cases hz
 rw [show capV [1] [some (V.ref x),some (V.ref r0)]=[some (V.ref r0)] from rfl]
 try walk_at "WP"
 have hgm:=qE hgi
 have hth:=F.ok.gk g hgm
 have s2:=s1.trans s'
 refine ⟨y,r0,g,ys,rowsW ins ds,ins,41 * ds.length,rfl,s2 _ _ hy2,s' _ _ h1,ht.same s',by rw [rowsW_len]; exact hth,?_,?_,F.wd,F.ok.i2,F.rb,by omega,fun r H5 a b c=>hR r H5 a b c⟩
 ·rcases F.go g hgm with z | z
  ·rw [z]
   exact ⟨by decide,by decide,fun h=>absurd h (by decide)⟩
  ·exact z.2
 ·rcases F.go g hgm with z | z
  ·rw [z]; exact .inl rfl
  ·exact .inr z.1
end
section
variable {P:Program}{w:World}{K:PySem.W.Frag}{mg:Str -> Option Value}{base:Heap}
theorem ok_widof (T:Txt K mg):Cal P w K mg base 1 "width_of" ["number"] spWidOf:=by
 have B:=T.bl
 refine mkCal T.t_width_of sc_width_of (fun vs H Q E h=>?_) (fun f cdv A outer s H vs Q E hr h=>?_)
 ·obtain ⟨x,rfl,_⟩:=h
  rfl
 obtain ⟨x,rfl,q⟩:=h
 refine ⟨_,((@pss_one _ _ _ (@ps_ret _ _ _ _ (@pe_op _ _ _ _ _ _ _ _ op_add (@pe_bm0 _ _ _ _ _ _ _ _ _ PySem.F.plainAttrs_int PyProof.Rows.slot_int_bit_length PyProof.Rows.type_int_bit_length mt_bits (@pe_ifExp _ _ _ _ _ _ _ _ (@pt_cmpR _ _ _ _ _ _ _ _ op_ge (pv 0) pe_int (@nomark _ _ (by decide) (by decide))) (pv 0) (@pe_op _ _ _ _ _ _ _ _ op_sub (@pe_un _ _ _ _ _ _ un_neg (pv 0)) pe_int)) (by rfl) (by rfl)) pe_int)))),?_⟩
 rw [show start ["number"] [.int x]=[some (.int x)] from rfl]
 try walk_at "WP"
 unfold widI at q
 refine ite2 (fun c=>?_) (fun c=>?_)
 ·rw [if_pos c] at q
  exact q
 ·rw [if_neg c] at q
  exact q
theorem ok_endof (T:Txt K mg):Cal P w K mg base 1 "end_of" ["row","ranges","side"] spEndOf:=by
 have B:=T.bl
 refine mkCal T.t_end_of sc_end_of (fun vs H Q E h=>?_) (fun f cdv A outer s H vs Q E hr h=>?_)
 ·obtain ⟨a,l,r,os,ps,b,rfl,_⟩:=h
  rfl
 obtain ⟨a,l,r,os,ps,b,rfl,ha,hl,hps,hlen,h12,hrb,hpb,q⟩:=h
 refine ⟨_,((@pss_one _ _ _ (@ps_ret _ _ _ _ (@pe_callB _ _ _ _ _ _ _ _ _ (@call_sum _ rfl) rfl B.sum bo_sum (@pa_cons _ _ _ _ _ (@pe_comp0 _ _ _ _ _ _ _ _ (["number","pair","side"]) (2) ([2]) _ _ _ rfl (@pi_zipM _ _ _ _ _ _ _ _ _ rfl B.zip (@pa_cons _ _ _ _ _ (pv 0) (@pa_cons _ _ _ _ _ (pv 1) pa_nil (by rfl)) (by rfl)) (by rfl) (by rfl)) (fun nd C s H fp=>⟨(@pg_tupM _ _ _ _ _ 2 rfl (@pgs_cons _ _ _ _ _ (@pg_name _ _ (0) _ nd rfl (by walk_at "o") (by walk_at "o")) (@pgs_cons _ _ _ _ _ (@pg_name _ _ (1) _ nd rfl (by walk_at "o") (by walk_at "o")) pgs_nil (by rfl)) (by rfl)) (by rfl) (by rfl)),pn_nil,(@pe_op _ _ _ _ _ _ _ _ op_mulB (pv 0) (@pe_ix _ _ _ _ _ _ _ ix_U (pv 1) (@pe_ifExp _ _ _ _ _ _ _ _ (@pt_cmpR _ _ _ _ _ _ _ _ op_gt (pv 0) pe_int (@nomark _ _ (by decide) (by decide))) (pv 2) (@pe_op _ _ _ _ _ _ _ _ op_sub pe_int (pv 2))) (fun _ _=>rfl)))⟩) (by decide +kernel) (by first | rfl | decide +kernel) (by first | rfl | decide +kernel) rfl (fun _=>rfl)) pa_nil (by rfl)) (by decide) (by decide) (by rfl) (by rfl))))),?_⟩
 rw [show start ["row","ranges","side"] [.ref a,.ref l,.int (if b then 1 else 0)]=[some (.ref a),some (.ref l),some (.int (if b then 1 else 0))] from rfl]
 unfold iT at ha
 try walk_at "WP"
 rw [w_compZM]
 try walk_at "WP"
 have ol:os.length=ps.length:=hps.len
 refine ⟨a,l,⟨rfl,rfl⟩,_,SqT.of ha,_,SqL.of hl,?_⟩
 refine comp_zipM ha hl (by rw [qC]; omega) (by rw [qC]; omega) ((List.zipWith (fun n p=>n * selP p (if n > 0 then b else !b)) r ps).map V.int) (by simp only [qC,List.length_zipWith]; omega) (fun i u v z H' R hu hv hz s' hR=>?_) (fun acc H3 n3 s3 h3=>?_)
 ·obtain ⟨n,hn,rfl⟩:=map_at hu
  have hi:i < ps.length:=by rw [← ol]; exact (qB.mp hv).1
  obtain ⟨y,hy1,hy2⟩:=hps.at_ i _ (qA hi)
  have hpi:ps[i]? = some ps[i]:=qA hi
  generalize ps[i]=p at hy2 hpi
  rw [hv] at hy1
  cases hy1
  have hz':z=V.int (n * selP p (if n > 0 then b else !b)):=by
   rw [qI,List.getElem?_zipWith,hn,hpi] at hz
   exact (Option.some.inj hz).symm
  subst hz'
  rw [show capV [2] [some (V.ref a),some (V.ref l),some (V.int (if b then 1 else 0))]=[some (V.int (if b then 1 else 0))] from rfl]
  rw [List.cons_append,List.cons_append,List.nil_append]
  have hy3:=s' _ _ hy2
  unfold pT at hy3
  obtain ⟨p1,p2⟩:=hpb p (qE hpi)
  have nb:=hrb n (qE hn)
  (iterate 5 ((try (walk_at "WP")); (try (simp only [hy3,qJs,qJt,qJl,qJd,exists_eq_left',exists_eq_left])))); (try (walk_at "WP"))
  refine ite2 (fun c=>?_) (fun c=>?_)
  ·rw [if_pos c] at hR
   have:atI [V.int p.1,V.int p.2] (if b=true then 1 else 0)=some (.int (selP p b)) /\ (selP p b).natAbs < 2 ^ 9000:=by
    unfold selP
    cases b
    ·exact ⟨rfl,p1⟩
    ·exact ⟨rfl,p2⟩
   refine ⟨_,this.1,?_⟩
   try walk_at "WP"
   exact ⟨mul_b nb this.2 (by decide),hR _ (Same.refl _)⟩
  ·rw [if_neg c] at hR
   have:atI [V.int p.1,V.int p.2] (1 - (if b=true then 1 else 0))=some (.int (selP p (!b))) /\ (selP p (!b)).natAbs < 2 ^ 9000:=by
    unfold selP
    cases b
    ·exact ⟨rfl,p2⟩
    ·exact ⟨rfl,p1⟩
   refine ⟨_,this.1,?_⟩
   try walk_at "WP"
   exact ⟨mul_b nb this.2 (by decide),hR _ (Same.refl _)⟩
 try walk_at "WP"
 refine ⟨acc,_,rfl,h3,?_⟩
 exact q _ s3
theorem ok_widfor (T:Txt K mg):Cal P w K mg base 6 "width_for" ["web","ranges"] spWidFor:=by
 have B:=T.bl
 have C_numbers:=(ok_nums (P:=P) (w:=w) (base:=base) T).mono (k:=5) (by decide)
 have C_out_numbers:=ok_onums (P:=P) (w:=w) (base:=base) T
 have C_end_of:=(ok_endof (P:=P) (w:=w) (base:=base) T).mono (k:=5) (by decide)
 have C_width_of:=(ok_widof (P:=P) (w:=w) (base:=base) T).mono (k:=5) (by decide)
 refine mkCal T.t_width_for sc_width_for (fun vs H Q E h=>?_) (fun f cdv A outer s H vs Q E hr h=>?_)
 ·obtain ⟨x,l,_,_,_,_,_,_,_,_,rfl,_⟩:=h
  rfl
 obtain ⟨x,l,dl,gl,us,ds,os,gs,qs,ps,rfl,W,F,hl,hps,hpb,q⟩:=h
 refine ⟨_,((@pss_cons _ _ _ _ _ (@ps_if _ _ _ _ _ _ _ _ (@pt_cmpR _ _ _ _ _ _ _ _ op_ne (@pe_callB _ _ _ _ _ _ _ _ _ call_lenM rfl B.len bo_len (@pa_cons _ _ _ _ _ (pv 1) pa_nil (by rfl)) (by decide) (by decide) (by rfl) (by rfl)) (@pe_ix _ _ _ _ _ _ _ ix_U (pv 0) pe_int (fun _ _=>rfl)) (@nomark _ _ (by decide) (by decide))) (@pss_one _ _ _ ps_never) pss_nil) (@pss_cons _ _ _ _ _ (@ps_set _ _ (2) _ _ _ _ sc_width_for.nd rfl (by walk_at "o") (@pe_lst _ _ _ _ pa_nil) (by rfl) (by walk_at "o")) (@pss_cons _ _ _ _ _ (@ps_for _ _ _ _ _ _ _ _ PassesOwn.never rfl (@pi_list _ _ _ _ (@pe_op _ _ _ _ _ _ _ _ op_cat (@pe_cal _ _ _ _ _ _ _ _ _ _ C_numbers hr rfl (@pa_cons _ _ _ _ _ (pv 0) pa_nil (by rfl)) (by decide) (by rfl) (by rfl)) (@pe_cal _ _ _ _ _ _ _ _ _ _ C_out_numbers hr rfl (@pa_cons _ _ _ _ _ (pv 0) pa_nil (by rfl)) (by decide) (by rfl) (by rfl)))) (@pg_name _ _ (3) _ sc_width_for.nd rfl (by walk_at "o") (by walk_at "o")) (@pss_cons _ _ _ _ _ (@ps_expr _ _ _ _ (@pe_bm _ _ _ _ _ _ _ _ _ _ _ _ PySem.F.plainAttrs_list PySem.F.slot_list_append PySem.F.type_list_append mt_append (pv 2) (@pa_cons _ _ _ _ _ (@pe_cal _ _ _ _ _ _ _ _ _ _ C_end_of hr rfl (@pa_cons _ _ _ _ _ (pv 3) (@pa_cons _ _ _ _ _ (pv 1) (@pa_cons _ _ _ _ _ pe_int pa_nil (by rfl)) (by rfl)) (by rfl)) (by decide) (by rfl) (by rfl)) pa_nil (by rfl)) (by rfl) (by rfl) (by rfl) (by rfl) (by rfl)) (by rfl)) (@pss_one _ _ _ (@ps_expr _ _ _ _ (@pe_bm _ _ _ _ _ _ _ _ _ _ _ _ PySem.F.plainAttrs_list PySem.F.slot_list_append PySem.F.type_list_append mt_append (pv 2) (@pa_cons _ _ _ _ _ (@pe_cal _ _ _ _ _ _ _ _ _ _ C_end_of hr rfl (@pa_cons _ _ _ _ _ (pv 3) (@pa_cons _ _ _ _ _ (pv 1) (@pa_cons _ _ _ _ _ pe_int pa_nil (by rfl)) (by rfl)) (by rfl)) (by decide) (by rfl) (by rfl)) pa_nil (by rfl)) (by rfl) (by rfl) (by rfl) (by rfl) (by rfl)) (by rfl)))) (by intro _ ; rfl)) (@pss_one _ _ _ (@ps_ret _ _ _ _ (@pe_callB _ _ _ _ _ _ _ _ _ (@call_maxG _ rfl) rfl B.max bo_max (@pa_cons _ _ _ _ _ (@pe_comp0 _ _ _ _ _ _ _ _ (["end"]) (1) ([]) _ _ _ rfl (@pi_list _ _ _ _ (pv 2)) (fun nd C s H fp=>⟨(@pg_name _ _ (0) _ nd rfl (by walk_at "o") (by walk_at "o")),pn_nil,(@pe_cal _ _ _ _ _ _ _ _ _ _ C_width_of hr rfl (@pa_cons _ _ _ _ _ (pv 0) pa_nil (by rfl)) (by decide) (by rfl) (by rfl))⟩) (by decide +kernel) (by first | rfl | decide +kernel) (by first | rfl | decide +kernel) rfl (fun _=>rfl)) pa_nil (by rfl)) (by decide) (by decide) (by rfl) (by rfl)))))))),?_⟩
 rw [show start ["web","ranges","ends","row"] [.ref x,.ref l]=[some (.ref x),some (.ref l),none,none] from rfl]
 have h1:=W.tup
 have ql:qs.length=ps.length:=hps.len
 have i1:=F.ok.i1
 have i12:=F.ok.i2
 have d60:=F.ok.dl
 have g12:=F.ok.gl
 (iterate 5 ((try (walk_at "WP")); (try (simp only [h1,hl,qJs,qJt,qJl,qJd,exists_eq_left',exists_eq_left])))); (try (walk_at "WP"))
 rw [if_neg (by omega)]
 intro e he
 have se:=same_new he (.lst [])
 have hee:upd H e (.lst []) e=some (.lst []):=upd_same
 generalize upd H e (.lst [])=H1 at se hee ⊢
 refine ⟨x,dl,gl,ps.length,us,ds,os,gs,rfl,W.same se,F,fun r1 y1 H2 n1 s2' h2 t2=>?_⟩
 have s2:=se.trans s2'
 try walk_at "WP"
 refine ⟨x,dl,gl,ps.length,us,ds,os,gs,rfl,W.same s2,F,fun r2 y2 H3 n2 s3' h3 t3=>?_⟩
 have s3:=s2.trans s3'
 have h2':=s3' _ _ h2
 have t2':=t2.same s3'
 have l1:y1.length=ps.length+ds.length:=by rw [t2.len,rowsW_len]
 have l2:y2.length=gs.length:=by rw [t3.len,qC]
 try walk_at "WP"
 refine ⟨_,h2',_,h3,by exact le_big (by omega),fun r3 hr3=>?_⟩
 have s4':=same_new hr3 (.lst (y1 ++ y2))
 have s4:=s3.trans s4'
 have e4:=s4' _ _ (s3' _ _ (s2' _ _ hee))
 have h4:upd H3 r3 (.lst (y1 ++ y2)) r3=some (.lst (y1 ++ y2)):=upd_same
 have t4:HTs iT (upd H3 r3 (.lst (y1 ++ y2))) (y1 ++ y2) (allR ps.length ds gs):=(t2'.same s4').app (t3.same s4')
 have r3e:r3 ≠ e:=(ne_of_none (s3' _ _ (s2' _ _ hee)) hr3).symm
 generalize upd H3 r3 (.lst (y1 ++ y2))=H4 at s4 e4 h4 t4 ⊢
 refine ⟨⟨_,SqL.of h4⟩,?_⟩
 have rlen:(allR ps.length ds gs).length=ps.length+ds.length+gs.length:=by unfold allR; rw [qF,rowsW_len,qC]
 have rok:∀ r ∈ allR ps.length ds gs,r.length=ps.length /\ ∀ n ∈ r,n.natAbs < 2 ^ 9000:=fun r hr=>by
  unfold allR at hr
  rcases List.mem_append.mp hr with z | z
  ·exact ⟨F.wd r z,fun n hn=>Nat.lt_of_le_of_lt ((F.rb r z).2 n hn) (Nat.pow_lt_pow_right (by decide) (by omega))⟩
  ·obtain ⟨g,hg,rfl⟩:=qP.mp z
   have hth:=F.ok.gk g hg
   have e1:=qA (l:=rowsW ps.length ds) (i:=g.th) (by rw [rowsW_len]; exact hth)
   have hm:=qE e1
   have hsg:(-40 <= g.sh /\ g.sh <= 40) /\ (g.sg=0 \/ g.sg=1 \/ g.sg = -1):=by
    rcases F.go g hg with z | z
    ·rw [z]; exact ⟨⟨by decide,by decide⟩,.inl rfl⟩
    ·exact ⟨⟨z.2.1,z.2.2.1⟩,.inr z.1⟩
   unfold outR
   rw [getD_of e1]
   refine ⟨by rw [qC]; exact F.wd _ hm,fun n hn=>?_⟩
   obtain ⟨m,hm2,rfl⟩:=qP.mp hn
   have b:=mvI_bound hsg.1.1 hsg.1.2 ((F.rb _ hm).2 m hm2)
   have b2:(mvI g.sh m).natAbs < 2 ^ 9000:=Nat.lt_of_le_of_lt b (Nat.pow_lt_pow_right (by decide) (by omega))
   rcases hsg.2 with z | z | z <;> rw [z]
   ·rw [Int.zero_mul]; exact Nat.pow_pos (by decide)
   ·rw [Int.one_mul]; exact b2
   ·rw [Int.neg_mul,Int.one_mul,Int.natAbs_neg]; exact b2
 refine forL (xs:=y1 ++ y2) (fun i σ H5=>∃ (o:Option V),σ = [some (.ref x),some (.ref l),some (.ref e),o] /\ H5 e=some (.lst ((endsI ((allR ps.length ds gs).take i) ps).map V.int)) /\ Chg e H4 H5) ⟨none,rfl,e4,fun _ _ _ z=>z⟩ ?_ ?_ ?_
 ·rintro i σ H5 _ ⟨_,_,_,c5⟩
  exact SqL.of (c5 _ _ r3e h4)
 ·rintro i y σ H5 N hy ⟨o,rfl,he5,c5⟩ hN
  have hi:i < (allR ps.length ds gs).length:=by rw [← t4.len]; exact (qB.mp hy).1
  obtain ⟨yp,hy1,hy2⟩:=t4.at_ i _ (qA hi)
  have hri:(allR ps.length ds gs)[i]? = some (allR ps.length ds gs)[i]:=qA hi
  generalize (allR ps.length ds gs)[i]=r at hy2 hri
  rw [hy] at hy1
  cases hy1
  obtain ⟨rl,rb⟩:=rok r (qE hri)
  have hl4:=s4 _ _ hl
  have le:l ≠ e:=ne_of_none hl he
  have elen:∀ rs:List (List Int),(endsI rs ps).length=2 * rs.length:=fun rs=>endsI_len rs ps
  have ye:yp ≠ e:=ne_of hy2 e4 (by intro z; cases z)
  have hy5:=c5 _ _ ye hy2
  have hl5:=c5 _ _ le hl4
  have hps5:HTs pT H5 qs ps:=(hps.same s4).chgL e4 c5
  try walk_at "WP"
  refine ⟨ty_list he5,?_⟩
  refine ⟨yp,l,r,qs,ps,false,rfl,hy5,hl5,hps5,by omega,by omega,rb,hpb,fun H6 s6=>?_⟩
  have he6:=s6 _ _ he5
  have tk:(endsI ((allR ps.length ds gs).take i) ps).length <= 200:=by rw [elen,qO]; omega
  (iterate 5 ((try (walk_at "WP")); (try (simp only [he6,qJs,qJt,qJl,qJd,exists_eq_left',exists_eq_left])))); (try (walk_at "WP"))
  refine ⟨by rw [qC]; exact lt_big (by omega),?_⟩
  have C7:Chg e H6 (upd H6 e (.lst ((endsI ((allR ps.length ds gs).take i) ps).map V.int ++ [V.int (endI r ps false)]))):=Chg.upd _
  have he7:upd H6 e (.lst ((endsI ((allR ps.length ds gs).take i) ps).map V.int ++ [V.int (endI r ps false)])) e=some (.lst ((endsI ((allR ps.length ds gs).take i) ps).map V.int ++ [V.int (endI r ps false)])):=upd_same
  generalize upd H6 e (.lst ((endsI ((allR ps.length ds gs).take i) ps).map V.int ++ [V.int (endI r ps false)]))=H7 at C7 he7 ⊢
  refine ⟨ty_list he7,?_⟩
  refine ⟨yp,l,r,qs,ps,true,rfl,C7 _ _ ye (s6 _ _ hy5),C7 _ _ le (s6 _ _ hl5),(hps5.same s6).chgL he6 C7,by omega,by omega,rb,hpb,fun H8 s8=>?_⟩
  have he8:=s8 _ _ he7
  (iterate 5 ((try (walk_at "WP")); (try (simp only [he8,qJs,qJt,qJl,qJd,exists_eq_left',exists_eq_left])))); (try (walk_at "WP"))
  refine ⟨by rw [qF,qC]; exact lt_big (by simp; omega),?_⟩
  refine hN _ _ ⟨_,rfl,?_,((c5.trans s6.chg).trans (C7.trans s8.chg)).trans (Chg.upd _)⟩
  rw [upd_same,List.take_add_one,hri]
  unfold endsI
  simp only [Option.toList_some,List.flatMap_append,List.flatMap_cons,List.flatMap_nil,List.append_nil,List.map_append,List.map_cons,List.map_nil,List.append_assoc,List.cons_append,List.nil_append]
 ·rintro σ H5 ⟨o,rfl,he5,c5⟩
  rw [t4.len,List.take_length] at he5
  try walk_at "WP"
  refine ⟨⟨_,SqL.of he5⟩,?_⟩
  have elen:=endsI_len (allR ps.length ds gs) ps
  refine comp_L (f:=liI widI) (SqL.of he5) (by rw [qC,elen]; exact le_big (by omega)) (fun y H' R hy hS' hR=>?_) (fun acc hacc=>?_)
  ·obtain ⟨n,hn,rfl⟩:=qP.mp hy
   rw [show capV [] [some (V.ref x),some (V.ref l),some (V.ref e),o]=[] from rfl]
   try walk_at "WP"
   exact ⟨n,rfl,hR⟩
  rw [liI_map]
  have sa:=same_new hacc (.lst (((endsI (allR ps.length ds gs) ps).map widI).map V.int))
  refine ⟨acc,_,rfl,upd_same,fun z=>?_,fun v v1 v2=>?_⟩
  ·have:((endsI (allR ps.length ds gs) ps).map widI).length=0:=by rw [z]; rfl
   rw [qC,elen] at this
   omega
  ·have c6:Same H H5:=fun b o hb=>c5 _ _ (ne_of_none hb he) (s4 _ _ hb)
   exact q v _ (c6.trans sa) v1 v2
theorem ok_fits (T:Txt K mg):Cal P w K mg base 7 "fits" ["web","width","ranges"] spFits:=by
 have B:=T.bl
 have C_width_for:=ok_widfor (P:=P) (w:=w) (base:=base) T
 refine mkCal T.t_fits sc_fits (fun vs H Q E h=>?_) (fun f cdv A outer s H vs Q E hr h=>?_)
 ·obtain ⟨x,l,_,_,_,_,_,_,_,_,_,rfl,_⟩:=h
  rfl
 obtain ⟨x,l,dl,gl,us,ds,os,gs,qs,ps,wd,rfl,w1,W,F,hl,hps,hpb,q⟩:=h
 refine ⟨_,((@pss_one _ _ _ (@ps_ret _ _ _ _ (@pe_cmpR _ _ _ _ _ _ _ _ op_le (@pe_cal _ _ _ _ _ _ _ _ _ _ C_width_for hr rfl (@pa_cons _ _ _ _ _ (pv 0) (@pa_cons _ _ _ _ _ (pv 2) pa_nil (by rfl)) (by rfl)) (by decide) (by rfl) (by rfl)) (pv 1) (@nomark _ _ (by decide) (by decide)))))),?_⟩
 rw [show start ["web","width","ranges"] [.ref x,.int wd,.ref l]=[some (.ref x),some (.int wd),some (.ref l)] from rfl]
 try walk_at "WP"
 refine ⟨x,l,dl,gl,us,ds,os,gs,qs,ps,rfl,W,F,hl,hps,hpb,fun v H' s' v1 v2=>?_⟩
 try walk_at "WP"
 refine q _ _ s' ?_
 rw [decide_eq_true_iff]
 constructor
 ·intro hv y hy
  have:=v2 _ (qP.mpr ⟨y,hy,rfl⟩)
  exact (wid_le w1).mp (by omega)
 ·intro hy
  obtain ⟨y,ym,rfl⟩:=qP.mp v1
  exact (wid_le w1).mpr (hy y ym)
end
section
variable {P:Program}{w:World}{K:PySem.W.Frag}{mg:Str -> Option Value}{base:Heap}
theorem ok_rangein (T:Txt K mg):Cal P w K mg base 6 "range_in" ["web","width"] spRangeIn:=by
 have B:=T.bl
 have C_numbers:=(ok_nums (P:=P) (w:=w) (base:=base) T).mono (k:=5) (by decide)
 have C_out_numbers:=ok_onums (P:=P) (w:=w) (base:=base) T
 refine mkCal T.t_range_in sc_range_in (fun vs H Q E h=>?_) (fun f cdv A outer s H vs Q E hr h=>?_)
 ·obtain ⟨x,_,_,_,_,_,_,_,rfl,_⟩:=h
  rfl
 obtain ⟨x,dl,gl,us,ds,os,gs,wd,rfl,W,F,w1,w2,q⟩:=h
 refine ⟨_,((@pss_cons _ _ _ _ _ (@ps_if _ _ _ _ _ _ _ _ (@pt_cmpR _ _ _ _ _ _ _ _ op_ne (@pe_ix _ _ _ _ _ _ _ ix_U (pv 0) pe_int (fun _ _=>rfl)) pe_int (@nomark _ _ (by decide) (by decide))) (@pss_one _ _ _ ps_never) pss_nil) (@pss_cons _ _ _ _ _ (@ps_set _ _ (2) _ _ _ _ sc_range_in.nd rfl (by walk_at "o") (@pe_op _ _ _ _ _ _ _ _ op_shlB pe_int (@pe_op _ _ _ _ _ _ _ _ op_sub (pv 1) pe_int)) (by rfl) (by walk_at "o")) (@pss_cons _ _ _ _ _ (@ps_set _ _ (3) _ _ _ _ sc_range_in.nd rfl (by walk_at "o") (@pe_lst _ _ _ _ pa_nil) (by rfl) (by walk_at "o")) (@pss_cons _ _ _ _ _ (@ps_set _ _ (4) _ _ _ _ sc_range_in.nd rfl (by walk_at "o") (@pe_lst _ _ _ _ pa_nil) (by rfl) (by walk_at "o")) (@pss_cons _ _ _ _ _ (@ps_for _ _ _ _ _ _ _ _ PassesOwn.never rfl (@pi_list _ _ _ _ (@pe_op _ _ _ _ _ _ _ _ op_cat (@pe_cal _ _ _ _ _ _ _ _ _ _ C_numbers hr rfl (@pa_cons _ _ _ _ _ (pv 0) pa_nil (by rfl)) (by decide) (by rfl) (by rfl)) (@pe_cal _ _ _ _ _ _ _ _ _ _ C_out_numbers hr rfl (@pa_cons _ _ _ _ _ (pv 0) pa_nil (by rfl)) (by decide) (by rfl) (by rfl)))) (@pg_name _ _ (5) _ sc_range_in.nd rfl (by walk_at "o") (by walk_at "o")) (@pss_one _ _ _ (@ps_if _ _ _ _ _ _ _ _ (@pt_cmpR _ _ _ _ _ _ _ _ op_gt (@pe_ix _ _ _ _ _ _ _ ix_U (pv 5) pe_int (fun _ _=>rfl)) pe_int (@nomark _ _ (by decide) (by decide))) (@pss_cons _ _ _ _ _ (@ps_expr _ _ _ _ (@pe_bm _ _ _ _ _ _ _ _ _ _ _ _ PySem.F.plainAttrs_list PySem.F.slot_list_append PySem.F.type_list_append mt_append (pv 3) (@pa_cons _ _ _ _ _ (@pe_un _ _ _ _ _ _ un_neg (@pe_op _ _ _ _ _ _ _ _ op_fdivB (pv 2) (@pe_ix _ _ _ _ _ _ _ ix_U (pv 5) pe_int (fun _ _=>rfl)))) pa_nil (by rfl)) (by rfl) (by rfl) (by rfl) (by rfl) (by rfl)) (by rfl)) (@pss_one _ _ _ (@ps_expr _ _ _ _ (@pe_bm _ _ _ _ _ _ _ _ _ _ _ _ PySem.F.plainAttrs_list PySem.F.slot_list_append PySem.F.type_list_append mt_append (pv 4) (@pa_cons _ _ _ _ _ (@pe_op _ _ _ _ _ _ _ _ op_fdivB (@pe_op _ _ _ _ _ _ _ _ op_sub (pv 2) pe_int) (@pe_ix _ _ _ _ _ _ _ ix_U (pv 5) pe_int (fun _ _=>rfl))) pa_nil (by rfl)) (by rfl) (by rfl) (by rfl) (by rfl) (by rfl)) (by rfl)))) (@pss_one _ _ _ (@ps_if _ _ _ _ _ _ _ _ (@pt_cmpR _ _ _ _ _ _ _ _ op_lt (@pe_ix _ _ _ _ _ _ _ ix_U (pv 5) pe_int (fun _ _=>rfl)) pe_int (@nomark _ _ (by decide) (by decide))) (@pss_cons _ _ _ _ _ (@ps_expr _ _ _ _ (@pe_bm _ _ _ _ _ _ _ _ _ _ _ _ PySem.F.plainAttrs_list PySem.F.slot_list_append PySem.F.type_list_append mt_append (pv 3) (@pa_cons _ _ _ _ _ (@pe_un _ _ _ _ _ _ un_neg (@pe_op _ _ _ _ _ _ _ _ op_fdivB (@pe_op _ _ _ _ _ _ _ _ op_sub (pv 2) pe_int) (@pe_un _ _ _ _ _ _ un_neg (@pe_ix _ _ _ _ _ _ _ ix_U (pv 5) pe_int (fun _ _=>rfl))))) pa_nil (by rfl)) (by rfl) (by rfl) (by rfl) (by rfl) (by rfl)) (by rfl)) (@pss_one _ _ _ (@ps_expr _ _ _ _ (@pe_bm _ _ _ _ _ _ _ _ _ _ _ _ PySem.F.plainAttrs_list PySem.F.slot_list_append PySem.F.type_list_append mt_append (pv 4) (@pa_cons _ _ _ _ _ (@pe_op _ _ _ _ _ _ _ _ op_fdivB (pv 2) (@pe_un _ _ _ _ _ _ un_neg (@pe_ix _ _ _ _ _ _ _ ix_U (pv 5) pe_int (fun _ _=>rfl)))) pa_nil (by rfl)) (by rfl) (by rfl) (by rfl) (by rfl) (by rfl)) (by rfl)))) pss_nil)))) (by intro _ ; rfl)) (@pss_one _ _ _ (@ps_ret _ _ _ _ (@pe_tup _ _ _ _ _ (@pa_cons _ _ _ _ _ (@pe_callB _ _ _ _ _ _ _ _ _ (@call_maxG _ rfl) rfl B.max bo_max (@pa_cons _ _ _ _ _ (pv 3) pa_nil (by rfl)) (by decide) (by decide) (by rfl) (by rfl)) (@pa_cons _ _ _ _ _ (@pe_callB _ _ _ _ _ _ _ _ _ (@call_minG _ rfl) rfl B.min bo_min (@pa_cons _ _ _ _ _ (pv 4) pa_nil (by rfl)) (by decide) (by decide) (by rfl) (by rfl)) pa_nil (by rfl)) (by rfl))))))))))),?_⟩
 rw [show start ["web","width","half","lows","highs","row"] [.ref x,.int wd]=[some (.ref x),some (.int wd),none,none,none,none] from rfl]
 have h1:=W.tup
 have d60:=F.ok.dl
 have g12:=F.ok.gl
 (iterate 5 ((try (walk_at "WP")); (try (simp only [h1,qJs,qJt,qJl,qJd,exists_eq_left',exists_eq_left])))); (try (walk_at "WP"))
 refine ⟨⟨by omega,by omega⟩,?_⟩
 rw [Int.one_mul]
 have hf0:=pow_pos2 (wd - 1).toNat
 have hfb:=pow2_le (k:=(wd - 1).toNat) (n:=3000) (by omega)
 have lie:∀ y,Lies wd y ↔ -(2 ^ (wd - 1).toNat) <= y /\ y < 2 ^ (wd - 1).toNat:=fun y=>Iff.rfl
 generalize (2:Int) ^ (wd - 1).toNat=hf at hf0 hfb lie ⊢
 intro lo hlo
 have s1:=same_new hlo (.lst [])
 have e1:upd H lo (.lst []) lo=some (.lst []):=upd_same
 generalize upd H lo (.lst [])=H1 at s1 e1 ⊢
 intro hi hhi
 have s2':=same_new hhi (.lst [])
 have s2:=s1.trans s2'
 have e2:=s2' _ _ e1
 have e3:upd H1 hi (.lst []) hi=some (.lst []):=upd_same
 have lh:lo ≠ hi:=ne_of_none e1 hhi
 have nhi:H hi=none:=s1.free hhi
 generalize upd H1 hi (.lst [])=H2 at s2 e2 e3 ⊢
 refine ⟨x,dl,gl,1,us,ds,os,gs,rfl,W.same s2,F,fun r1 y1 H3 n1 s3' h3 t3=>?_⟩
 have s3:=s2.trans s3'
 try walk_at "WP"
 refine ⟨x,dl,gl,1,us,ds,os,gs,rfl,W.same s3,F,fun r2 y2 H4 n2 s4' h4 t4=>?_⟩
 have s4:=s3.trans s4'
 have l1:y1.length=1+ds.length:=by rw [t3.len,rowsW_len]
 have l2:y2.length=gs.length:=by rw [t4.len,qC]
 try walk_at "WP"
 refine ⟨_,s4' _ _ h3,_,h4,by exact le_big (by omega),fun r3 hr3=>?_⟩
 have s5':=same_new hr3 (.lst (y1 ++ y2))
 have s5:=s4.trans s5'
 have t24:=(s3'.trans s4').trans s5'
 have e5:=t24 _ _ e2
 have f5:=t24 _ _ e3
 have h5:upd H4 r3 (.lst (y1 ++ y2)) r3=some (.lst (y1 ++ y2)):=upd_same
 have t5:HTs iT (upd H4 r3 (.lst (y1 ++ y2))) (y1 ++ y2) ((allN ds gs).map fun x=>[x]):=by
  rw [← allR_one F]
  exact (((t3.same s4').same s5').app (t4.same s5'))
 have r3l:r3 ≠ lo:=(ne_of_none ((s3'.trans s4') _ _ e2) hr3).symm
 have r3h:r3 ≠ hi:=(ne_of_none ((s3'.trans s4') _ _ e3) hr3).symm
 generalize upd H4 r3 (.lst (y1 ++ y2))=H5 at s5 e5 f5 h5 t5 ⊢
 refine ⟨⟨_,SqL.of h5⟩,?_⟩
 have al:=allN_len ds gs
 refine forL (xs:=y1 ++ y2) (fun i σ H6=>∃ (o:Option V),σ = [some (.ref x),some (.int wd),some (.int hf),some (.ref lo),some (.ref hi),o] /\ H6 lo=some (.lst (((nz ((allN ds gs).take i)).map (lowN hf)).map V.int)) /\ H6 hi=some (.lst (((nz ((allN ds gs).take i)).map (highN hf)).map V.int)) /\ (∀ b o,b ≠ lo -> b ≠ hi -> H5 b=some o -> H6 b=some o)) ⟨none,rfl,e5,f5,fun _ _ _ _ z=>z⟩ ?_ ?_ ?_
 ·rintro i σ H6 _ ⟨_,_,_,_,c6⟩
  exact SqL.of (c6 _ _ r3l r3h h5)
 ·rintro i y σ H6 N hy ⟨o,rfl,hl6,hh6,c6⟩ hN
  have hi0:i < ((allN ds gs).map fun x=>[x]).length:=by rw [← t5.len]; exact (qB.mp hy).1
  rw [qC] at hi0
  have hn:(allN ds gs)[i]? = some (allN ds gs)[i]:=qA hi0
  generalize (allN ds gs)[i]=n at hn
  obtain ⟨yp,hy1,hy2⟩:=t5.at_ i [n] (by rw [qI,hn]; rfl)
  rw [hy] at hy1
  cases hy1
  have nb:=allN_small F n (qE hn)
  have nb2:n.natAbs < 2 ^ 9000:=qJ nb (qN (by decide) (by decide))
  have yl:yp ≠ lo:=ne_of hy2 e5 (by intro z; cases z)
  have yh:yp ≠ hi:=ne_of hy2 f5 (by intro z; cases z)
  have hy6:=c6 _ _ yl yh hy2
  have nl:(nz ((allN ds gs).take i)).length <= 100:=by
   refine Nat.le_trans (List.length_filter_le _ _) ?_
   rw [qO]
   omega
  have tk:(allN ds gs).take (i+1)=(allN ds gs).take i ++ [n]:=by rw [List.take_add_one,hn]; rfl
  have step:∀ (z1 z2:Int),n ≠ 0 -> z1=lowN hf n -> z2=highN hf n -> N [some (.ref x),some (.int wd),some (.int hf),some (.ref lo),some (.ref hi),some (.ref yp)] (upd (upd H6 lo (.lst (((nz ((allN ds gs).take i)).map (lowN hf)).map V.int ++ [V.int z1]))) hi (.lst (((nz ((allN ds gs).take i)).map (highN hf)).map V.int ++ [V.int z2]))):=fun z1 z2 hn0 hz1 hz2=>by
   have en:nz ((allN ds gs).take (i+1))=nz ((allN ds gs).take i) ++ [n]:=by
    rw [tk]
    unfold nz
    rw [List.filter_append]
    simp [hn0]
   refine hN _ _ ⟨_,rfl,?_,?_,fun b o b1 b2 hb=>?_⟩
   ·rw [upd_ne lh,upd_same,en,hz1]
    simp
   ·rw [upd_same,en,hz2]
    simp
   ·rw [upd_ne b2,upd_ne b1]
    exact c6 _ _ b1 b2 hb
  have hh7:∀ o,upd H6 lo o hi=some (.lst (((nz ((allN ds gs).take i)).map (highN hf)).map V.int)):=fun o=>by rw [upd_ne lh.symm]; exact hh6
  unfold iT at hy6
  rw [List.map_cons,List.map_nil] at hy6
  have hy7:∀ zs,upd H6 lo (.lst zs) yp=some (.tup [V.int n]):=fun zs=>by rw [upd_ne yl]; exact hy6
  have lz:(((nz ((allN ds gs).take i)).map (lowN hf)).map V.int).length < sizeLine:=by rw [qC,qC]; exact lt_big (by omega)
  have hz:(((nz ((allN ds gs).take i)).map (highN hf)).map V.int).length < sizeLine:=by rw [qC,qC]; exact lt_big (by omega)
  (iterate 5 ((try (walk_at "WP")); (try (simp only [hy6,qJs,qJt,qJl,qJd,exists_eq_left',exists_eq_left])))); (try (walk_at "WP"))
  refine ite2 (fun c=>?_) (fun c=>?_)
  ·have db:∀ m,CDivB m n:=fun m=>divBig (by omega) nb2
   (iterate 5 ((try (walk_at "WP")); (try (simp only [hy6,hl6,hh7,hy7,qJs,qJt,qJl,qJd,exists_eq_left',exists_eq_left])))); (try (walk_at "WP"))
   refine ⟨ty_list hl6,db _,lz,ty_list (hh7 _),db _,hz,?_⟩
   exact step _ _ (by omega) (by unfold lowN; rw [if_pos c]) (by unfold highN; rw [if_pos c])
  ·refine ite2 (fun c2=>?_) (fun c2=>?_)
   ·have db:∀ m,CDivB m (-n):=fun m=>divBig (by omega) (by rw [Int.natAbs_neg]; exact nb2)
    (iterate 5 ((try (walk_at "WP")); (try (simp only [hy6,hl6,hh7,hy7,qJs,qJt,qJl,qJd,exists_eq_left',exists_eq_left])))); (try (walk_at "WP"))
    refine ⟨ty_list hl6,db _,lz,ty_list (hh7 _),db _,hz,?_⟩
    exact step _ _ (by omega) (by unfold lowN; rw [if_neg c]) (by unfold highN; rw [if_neg c])
   ·have n0:n=0:=by omega
    have en:nz ((allN ds gs).take (i+1))=nz ((allN ds gs).take i):=by
     rw [tk]
     unfold nz
     rw [List.filter_append]
     simp [n0]
    exact hN _ _ ⟨_,rfl,by rw [en]; exact hl6,by rw [en]; exact hh6,c6⟩
 ·rintro σ H6 ⟨o,rfl,hl6,hh6,c6⟩
  have ll:(y1 ++ y2).length=(allN ds gs).length:=by rw [qF,l1,l2,al]
  rw [ll,List.take_length] at hl6 hh6
  have h1m:(1:Int) ∈ nz (allN ds gs):=mem_nz.mpr ⟨allN_one ds gs,by decide⟩
  have ne1:(nz (allN ds gs)).map (lowN hf) ≠ []:=fun z=>by
   have:=List.mem_map_of_mem (f:=lowN hf) h1m
   rw [z] at this
   cases this
  have ne2:(nz (allN ds gs)).map (highN hf) ≠ []:=fun z=>by
   have:=List.mem_map_of_mem (f:=highN hf) h1m
   rw [z] at this
   cases this
  try walk_at "WP"
  refine ⟨lo,_,rfl,hl6,ne1,fun u u1 u2=>⟨hi,_,rfl,hh6,ne2,fun v v1 v2=>?_⟩⟩
  try walk_at "WP"
  intro r hr0
  have c7:Same H H6:=fun b o hb=>c6 _ _ (ne_of_none hb hlo) (ne_of_none hb nhi) (s5 _ _ hb)
  have rng:∀ z,(∀ n ∈ allN ds gs,Lies wd (n * z)) ↔ u <= z /\ z <= v:=fun z=>by
   simp only [lie]
   exact all_range hf0 u1 u2 v1 v2
  have u0:u <= 0:=by
   obtain ⟨n,hn,rfl⟩:=qP.mp u1
   exact (low_np hf0 (mem_nz.mp hn).2).1
  have v0:0 <= v:=by
   obtain ⟨n,hn,rfl⟩:=qP.mp v1
   exact (low_np hf0 (mem_nz.mp hn).2).2
  have one:=(lie_range (n:=1) (v:=u) hf0 (by decide))
  have lu:=((rng u).mpr ⟨Int.le_refl _,by omega⟩) 1 (allN_one ds gs)
  have lv:=((rng v).mpr ⟨by omega,Int.le_refl _⟩) 1 (allN_one ds gs)
  rw [lie,Int.one_mul] at lu lv
  have e3000:(((2:Nat) ^ 3000:Nat):Int)=(2:Int) ^ 3000:=by push_cast; rfl
  rw [← e3000] at hfb
  exact q r u v _ (c7.free hr0) (c7.trans (same_new hr0 _)) upd_same u0 v0 (by omega) (by omega) rng
end
section
variable {P:Program}{w:World}{K:PySem.W.Frag}{mg:Str -> Option Value}{base:Heap}
theorem ok_downl (T:Txt K mg):Cal P w K mg base 1 "_law_down" ["_law_told"] spDownL:=by
 have B:=T.bl
 refine mkCal T.t_l_down sc_l_down (fun vs H Q E h=>?_) (fun f cdv A outer s H vs Q E hr h=>?_)
 ·obtain ⟨l,xs,rfl,_⟩:=h
  rfl
 obtain ⟨l,xs,rfl,hl,hlen,q⟩:=h
 refine ⟨_,((@pss_cons _ _ _ _ _ (@ps_set _ _ (1) _ _ _ _ sc_l_down.nd rfl (by walk_at "o") pe_int (by rfl) (by walk_at "o")) (@pss_cons _ _ _ _ _ (@ps_for _ _ _ _ _ _ _ _ PassesOwn.never rfl (@pi_list _ _ _ _ (pv 0)) (@pg_name _ _ (2) _ sc_l_down.nd rfl (by walk_at "o") (by walk_at "o")) (@pss_cons _ _ _ _ _ (@ps_set _ _ (3) _ _ _ _ sc_l_down.nd rfl (by walk_at "o") pe_int (by rfl) (by walk_at "o")) (@pss_cons _ _ _ _ _ (@ps_whl _ _ _ _ _ _ PassesOwn.never (@PW.pt _ _ _ (@pw_and _ _ _ _ _ _ _ (@pt_cmpR _ _ _ _ _ _ _ _ op_lt (pv 3) (pv 1) (@nomark _ _ (by decide) (by decide))) (@pw_and1 _ _ _ _ (@pt_cmpR _ _ _ _ _ _ _ _ op_eq (@pe_op _ _ _ _ _ _ _ _ op_mod (pv 2) pe_int) pe_int (@nomark _ _ (by decide) (by decide)))))) (@pss_cons _ _ _ _ _ (@ps_set _ _ (2) _ _ _ _ sc_l_down.nd rfl (by walk_at "o") (@pe_op _ _ _ _ _ _ _ _ op_fdivB (pv 2) pe_int) (by rfl) (by walk_at "o")) (@pss_one _ _ _ (@ps_set _ _ (3) _ _ _ _ sc_l_down.nd rfl (by walk_at "o") (@pe_op _ _ _ _ _ _ _ _ op_add (pv 3) pe_int) (by rfl) (by walk_at "o"))))) (@pss_one _ _ _ (@ps_set _ _ (1) _ _ _ _ sc_l_down.nd rfl (by walk_at "o") (pv 3) (by rfl) (by walk_at "o"))))) (by intro _ ; rfl)) (@pss_one _ _ _ (@ps_ret _ _ _ _ (pv 1)))))),?_⟩
 rw [show start ["_law_told","_law_most","_law_number","_law_count"] [.ref l]=[some (.ref l),none,none,none] from rfl]
 try walk_at "WP"
 refine ⟨⟨_,SqL.of hl⟩,?_⟩
 refine forL (xs:=xs.map V.int) (fun i σ H1=>∃ (m:Nat) (o2 o3:Option V),σ = [some (.ref l),some (.int m),o2,o3] /\ H1=H /\ m <= 40 /\ ∀ x ∈ xs.take i,(2:Int) ^ m ∣ x) ⟨40,none,none,rfl,rfl,by omega,by simp⟩ ?_ ?_ ?_
 ·rintro i σ H1 _ ⟨_,_,_,_,rfl,_⟩
  exact SqL.of hl
 ·rintro i y σ H1 N hy ⟨m,o2,o3,rfl,rfl,hm,hdv⟩ hN
  obtain ⟨x,hx,rfl⟩:=map_at hy
  try walk_at "WP"
  refine whl (fun k σ H2=>∃ (d:Nat) (x':Int),σ = [some (.ref l),some (.int m),some (.int x'),some (.int d)] /\ H2=H1 /\ k=m - d /\ d <= m /\ x' * 2 ^ d=x) m ⟨0,x,rfl,rfl,rfl,by omega,by simp⟩ ?_
  rintro k σ H2 N2 ⟨d,x',rfl,rfl,rfl,hd,hx'⟩ hN2
  try walk_at "WP"
  have fin:N [some (.ref l),some (.int d),some (.int x'),some (.int d)] H2:=by
   refine hN _ _ ⟨d,_,_,rfl,rfl,by omega,fun y hy=>?_⟩
   rw [List.take_add_one,hx] at hy
   rcases List.mem_append.mp hy with z | z
   ·refine Int.dvd_trans ?_ (hdv y z)
    rw [show m=d+(m - d) by omega,Int.pow_add]
    exact Int.dvd_mul_right _ _
   ·have:y=x:=by simpa using z
    subst this
    exact ⟨x',by rw [← hx',Int.mul_comm]⟩
  refine ite2 (fun c=>?_) (fun c=>?_)
  ·refine ite2 (fun z=>?_) (fun z=>fin)
   refine ⟨divB (by decide) (by decide),hN2 (m - (d+1)) _ _ (by omega) ⟨d+1,x' / 2,by simp,rfl,rfl,by omega,?_⟩⟩
   rw [Int.pow_succ,Int.mul_comm (2 ^ d) 2,← Int.mul_assoc,show x' / 2 * 2=x' by omega]
   exact hx'
  ·exact fin
 ·rintro σ H1 ⟨m,o2,o3,rfl,rfl,hm,hdv⟩
  try walk_at "WP"
  rw [qC,List.take_length] at hdv
  exact q m hm hdv
end
section
variable {P:Program}{w:World}{K:PySem.W.Frag}{mg:Str -> Option Value}{base:Heap}
theorem ok_part59 (T:Txt K mg):Cal P w K mg base 2 "_law_part" ["_law_pen_here","_law_told","_law_down_here"] (spPartD K):=by
 have B:=T.bl
 have C_l_pick:=ok_pick (P:=P) (w:=w) (base:=base) T
 have C_l_down:=ok_downl (P:=P) (w:=w) (base:=base) T
 refine mkCal T.t_l_part sc_l_part (fun vs H Q E h=>?_) (fun f cdv A outer s H vs Q E hr h=>?_)
 ·obtain ⟨p,a,tb,ns,c,ts,ex,rs,db,rfl,_⟩:=h
  rfl
 obtain ⟨p,a,tb,ns,c_,ts,ex,rs,db,rfl,hP,hS,h63,hc,ht,hrs,hpe,htp,hl1,hl2,hb,q⟩:=h
 refine ⟨_,((@pss_cons _ _ _ _ _ (@ps_set _ _ (3) _ _ _ _ sc_l_part.nd rfl (by walk_at "o") (@pe_op _ _ _ _ _ _ _ _ op_sub (@pe_callB _ _ _ _ _ _ _ _ _ call_lenM rfl B.len bo_len (@pa_cons _ _ _ _ _ (pv 1) pa_nil (by rfl)) (by decide) (by decide) (by rfl) (by rfl)) pe_int) (by rfl) (by walk_at "o")) (@pss_mid _ _ _ _ _ (@ps_if _ _ _ _ _ _ _ _ (@pt_cmpR _ _ _ _ _ _ _ _ op_eq (@pe_cal _ _ _ _ _ _ _ _ _ _ C_l_pick hr rfl (@pa_cons _ _ _ _ _ (pv 0) (@pa_cons _ _ _ _ _ pe_int pa_nil (by rfl)) (by rfl)) (by decide) (by rfl) (by rfl)) pe_int (@nomark _ _ (by decide) (by decide))) (@pss_one _ _ _ (@ps_set _ _ (3) _ _ _ _ sc_l_part.nd rfl (by walk_at "o") (@pe_cal _ _ _ _ _ _ _ _ _ _ C_l_pick hr rfl (@pa_cons _ _ _ _ _ (pv 0) (@pa_cons _ _ _ _ _ (@pe_callB _ _ _ _ _ _ _ _ _ call_lenM rfl B.len bo_len (@pa_cons _ _ _ _ _ (pv 1) pa_nil (by rfl)) (by decide) (by decide) (by rfl) (by rfl)) pa_nil (by rfl)) (by rfl)) (by decide) (by rfl) (by rfl)) (by rfl) (by walk_at "o"))) pss_nil) (@pss_cons _ _ _ _ _ (@ps_set _ _ (4) _ _ _ _ sc_l_part.nd rfl (by walk_at "o") (@pe_cal _ _ _ _ _ _ _ _ _ _ C_l_down hr rfl (@pa_cons _ _ _ _ _ (@pe_ix _ _ _ _ _ _ _ ix_M (pv 1) (pv 3) (fun _ _=>rfl)) pa_nil (by rfl)) (by decide) (by rfl) (by rfl)) (by rfl) (by walk_at "o")) (@pss_cons _ _ _ _ _ (@ps_if _ _ _ _ _ _ _ _ (@PW.pt _ _ _ (@pw_and _ _ _ _ _ _ _ (@pt_val _ _ _ (pv 2) (by intro _ ; rfl)) (@pw_and _ _ _ _ _ _ _ (@pt_cmpR _ _ _ _ _ _ _ _ op_gt (pv 4) pe_int (@nomark _ _ (by decide) (by decide))) (@pw_and1 _ _ _ _ (@pt_cmpR _ _ _ _ _ _ _ _ op_gt (@pe_cal _ _ _ _ _ _ _ _ _ _ C_l_pick hr rfl (@pa_cons _ _ _ _ _ (pv 0) (@pa_cons _ _ _ _ _ pe_int pa_nil (by rfl)) (by rfl)) (by decide) (by rfl) (by rfl)) pe_int (@nomark _ _ (by decide) (by decide))))))) (@pss_cons _ _ _ _ _ (@ps_set _ _ (5) _ _ _ _ sc_l_part.nd rfl (by walk_at "o") (@pe_op _ _ _ _ _ _ _ _ op_add pe_int (@pe_cal _ _ _ _ _ _ _ _ _ _ C_l_pick hr rfl (@pa_cons _ _ _ _ _ (pv 0) (@pa_cons _ _ _ _ _ (pv 4) pa_nil (by rfl)) (by rfl)) (by decide) (by rfl) (by rfl))) (by rfl) (by walk_at "o")) (@pss_one _ _ _ (@ps_ret _ _ _ _ (@pe_lst _ _ _ _ (@pa_cons _ _ _ _ _ (pv 3) (@pa_cons _ _ _ _ _ (@pe_op _ _ _ _ _ _ _ _ op_sub pe_int (pv 5)) (@pa_cons _ _ _ _ _ (@pe_comp0 _ _ _ _ _ _ _ _ (["_law_number","_law_shift"]) (1) ([5]) _ _ _ rfl (@pi_list _ _ _ _ (@pe_ix _ _ _ _ _ _ _ ix_M (pv 1) (pv 3) (fun _ _=>rfl))) (fun nd C s H fp=>⟨(@pg_name _ _ (0) _ nd rfl (by walk_at "o") (by walk_at "o")),pn_nil,(@pe_op _ _ _ _ _ _ _ _ op_shr (pv 0) (pv 1))⟩) (by decide +kernel) (by first | rfl | decide +kernel) (by first | rfl | decide +kernel) rfl (fun _=>rfl)) pa_nil (by rfl)) (by rfl)) (by rfl)))))) pss_nil) (@pss_cons _ _ _ _ _ (@ps_set _ _ (5) _ _ _ _ sc_l_part.nd rfl (by walk_at "o") (@pe_ix _ _ _ _ _ _ _ ix_M (@pe_lst _ _ _ _ (@pa_cons _ _ _ _ _ pe_int (@pa_cons _ _ _ _ _ (@pe_cal _ _ _ _ _ _ _ _ _ _ C_l_pick hr rfl (@pa_cons _ _ _ _ _ (pv 0) (@pa_cons _ _ _ _ _ pe_int pa_nil (by rfl)) (by rfl)) (by decide) (by rfl) (by rfl)) (@pa_cons _ _ _ _ _ (@pe_cal _ _ _ _ _ _ _ _ _ _ C_l_pick hr rfl (@pa_cons _ _ _ _ _ (pv 0) (@pa_cons _ _ _ _ _ pe_int pa_nil (by rfl)) (by rfl)) (by decide) (by rfl) (by rfl)) pa_nil (by rfl)) (by rfl)) (by rfl))) (@pe_cal _ _ _ _ _ _ _ _ _ _ C_l_pick hr rfl (@pa_cons _ _ _ _ _ (pv 0) (@pa_cons _ _ _ _ _ pe_int pa_nil (by rfl)) (by rfl)) (by decide) (by rfl) (by rfl)) (fun _ _=>rfl)) (by rfl) (by walk_at "o")) (@pss_one _ _ _ (@ps_ret _ _ _ _ (@pe_lst _ _ _ _ (@pa_cons _ _ _ _ _ (pv 3) (@pa_cons _ _ _ _ _ (pv 5) (@pa_cons _ _ _ _ _ (@pe_comp0 _ _ _ _ _ _ _ _ (["_law_number","_law_shift"]) (1) ([5]) _ _ _ rfl (@pi_list _ _ _ _ (@pe_ix _ _ _ _ _ _ _ ix_M (pv 1) (pv 3) (fun _ _=>rfl))) (fun nd C s H fp=>⟨(@pg_name _ _ (0) _ nd rfl (by walk_at "o") (by walk_at "o")),pn_nil,(@pe_op _ _ _ _ _ _ _ _ op_shlB (pv 0) (pv 1))⟩) (by decide +kernel) (by first | rfl | decide +kernel) (by first | rfl | decide +kernel) rfl (fun _=>rfl)) pa_nil (by rfl)) (by rfl)) (by rfl))))))))))),?_⟩
 rw [show start ["_law_pen_here","_law_told","_law_down_here","_law_thing","_law_low","_law_shift"] [.ref p,.ref tb,.bl db]=[some (.ref p),some (.ref tb),some (.bl db),none,none,none] from rfl]
 have tl:ts.length=rs.length:=hrs.len
 (iterate 5 ((try (walk_at "WP")); (try (simp only [ht,qJs,qJt,qJl,qJd,exists_eq_left',exists_eq_left])))); (try (walk_at "WP"))
 refine mid_of (fun σ H1=>∃ (th:Nat),σ = [some (.ref p),some (.ref tb),some (.bl db),some (.int th),none,none] /\ th < rs.length /\ PPen H1 p a (c_+2) /\ Scr K H1 a ns /\ Chg p H H1) (fun N hN=>?_) ?_
 ·try walk_at "WP"
  refine pick_ hP hS h63 (by omega) (by decide) (by decide) fun r1 H1 a0 a1 P1 S1 C1=>?_
  have ht1:=C1 _ _ htp ht
  try walk_at "WP"
  refine ite2 (fun z=>?_) (fun z=>?_)
  ·(iterate 5 ((try (walk_at "WP")); (try (simp only [ht1,qJs,qJt,qJl,qJd,exists_eq_left',exists_eq_left])))); (try (walk_at "WP"))
   refine pick_ P1 S1 h63 (by omega) (by omega) (by omega) fun r2 H2 b0 b1 P2 S2 C2=>?_
   try walk_at "WP"
   obtain ⟨th,rfl⟩:=Int.eq_ofNat_of_zero_le b0
   exact hN _ _ ⟨th,rfl,by omega,P2.mono (by omega),S2,C1.trans C2⟩
  ·refine hN _ _ ⟨rs.length - 1,?_,by omega,P1.mono (by omega),S1,C1⟩
   rw [show ((rs.length - 1:Nat):Int)=(ts.length:Int) - 1 by omega]
 ·rintro σ H1 ⟨th,rfl,hth,P1,S1,C1⟩
  obtain ⟨rp,row,r1,r2,r3,r4,r5⟩:=row_of hrs hth
  have hrd:rs.getD th []=row:=getD_of r1
  have q:=fun r m sh H'=>q r m th sh H'
  rw [hrd] at q
  obtain ⟨rl12,rbd⟩:=hb row r4
  have rpp:rp ≠ p:=r5 p hpe
  have ht1:=C1 _ _ htp ht
  have hrp1:=C1 _ _ rpp r3
  have at1:atI ts (th:Int)=some (.ref rp):=r2
  (iterate 5 ((try (walk_at "WP")); (try (simp only [ht1,qJs,qJt,qJl,qJd,exists_eq_left',exists_eq_left])))); (try (walk_at "WP"))
  refine ⟨_,at1,rp,row,rfl,hrp1,by omega,fun d hd hdv=>?_⟩
  try walk_at "WP"
  have last:∀ H2,PPen H2 p a (c_+3) -> Scr K H2 a ns -> Chg p H H2 -> spPick K [V.ref p,V.int 3] H2 (fun x H1=>spPick K [V.ref p,V.int 13] H1 (fun x_1 H1=>∀ (p_1:Addr),H1 p_1=none -> spPick K [V.ref p,V.int 3] (upd H1 p_1 (HO.lst [V.int 0,x,x_1])) (fun y H2=>rIxM (V.ref p_1) y H2 fun x H1=>∃ xs,H1 tb=some (HO.lst xs) /\ ∃ v,atI xs (th:Int)=some v /\ ∃ a,v=V.ref a /\ (∃ xs,SqL K H1 a xs) /\
    CompIt (Itl K a) 1 [5] (gName 0) tYes (tOp (rI CShl fun i j=>V.int (i * 2 ^ j.toNat)) (tVar 0) (tVar 1)) [some (V.ref p),some (V.ref tb),some (V.bl db),some (V.int (th:Int)),some (V.int (d:Int)),some x] H1 fun x_2 H1=>∀ (p:Addr),H1 p=none -> Q (V.ref p) (upd H1 p (HO.lst [V.int (th:Int),x,x_2]))) E0) E0) E0:=by
   intro H2 P2 S2 C2'
   refine pick_ P2 S2 h63 (by omega) (by decide) (by decide) fun s1 H3 c0 c1 P3 S3 C3=>?_
   refine pick_ P3 S3 h63 (by omega) (by decide) (by decide) fun s2 H4 d0 d1 P4 S4 C4=>?_
   intro e he
   have se:=same_new he (.lst [V.int 0,V.int s1,V.int s2])
   have C5:=(((C2'.trans C3).trans C4).trans se.chg)
   have P5:=P4.same se
   have S5:=S4.same se
   have ep:=P4.ne he
   have he5:upd H4 e (.lst [V.int 0,V.int s1,V.int s2]) e=some (.lst [V.int 0,V.int s1,V.int s2]):=upd_same
   generalize upd H4 e (.lst [V.int 0,V.int s1,V.int s2])=H5 at C5 P5 S5 he5 ⊢
   refine pick_ P5 S5 h63 (by omega) (by decide) (by decide) fun way H6 w0 w1 P6 S6 C6=>?_
   have he6:=C6 _ _ ep he5
   have hat:∃ u:Int,atI [V.int 0,V.int s1,V.int s2] way=some (.int u) /\ 0 <= u /\ u <= 40:=by
    have six:way=0 \/ way=1 \/ way=2:=by omega
    rcases six with z | z | z <;> rw [z]
    ·exact ⟨_,rfl,by omega,by omega⟩
    ·exact ⟨_,rfl,by omega,by omega⟩
    ·exact ⟨_,rfl,by omega,by omega⟩
   obtain ⟨u,hu,u0,u1⟩:=hat
   have C7:=C5.trans C6
   have ht5:=C7 _ _ htp ht
   have hrp5:=C7 _ _ rpp r3
   (iterate 5 ((try (walk_at "WP")); (try (simp only [he6,qJs,qJt,qJl,qJd,exists_eq_left',exists_eq_left])))); (try (walk_at "WP"))
   refine ⟨_,hu,?_⟩
   (iterate 5 ((try (walk_at "WP")); (try (simp only [ht5,qJs,qJt,qJl,qJd,exists_eq_left',exists_eq_left])))); (try (walk_at "WP"))
   refine ⟨_,at1,rp,rfl,⟨_,SqL.of hrp5⟩,?_⟩
   refine comp_L (f:=liI (mvI u)) (SqL.of hrp5) (by rw [qC]; exact le_big (by omega)) (fun y H' R hy hS' hR=>?_) (fun m hm=>?_)
   ·obtain ⟨n,hn,rfl⟩:=qP.mp hy
    rw [show capV [5] [some (V.ref p),some (V.ref tb),some (V.bl db),some (V.int (th:Int)),some (V.int (d:Int)),some (V.int u)]=[some (V.int u)] from rfl]
    try walk_at "WP"
    refine ⟨shl_ok u0 (by omega) (rbd n hn) (by decide),?_⟩
    rw [← mvI_up u0]
    exact hR
   rw [liI_map]
   have sm:=same_new hm (.lst ((row.map (mvI u)).map V.int))
   have P8:=P6.same sm
   intro r hr0
   have sr:=same_new hr0 (.lst [V.int (th:Int),V.int u,V.ref m])
   exact q r m u _ (C7.new (P8.ne hr0) (sm.free hr0)) (C7.new (P6.ne hm) hm) upd_same (sr _ _ upd_same) hth ⟨by omega,by omega,fun z=>by omega⟩ (fun _=>u0) ((P8.same sr).mono (by omega)) ((S6.same sm).same sr) ((C7.trans sm.chg).trans sr.chg)
  refine ite2 (fun z=>?_) (fun z=>last H1 (P1.mono (by omega)) S1 C1)
  refine ite2 (fun z2=>?_) (fun z2=>last H1 (P1.mono (by omega)) S1 C1)
  refine pick_ P1 S1 h63 (by omega) (by decide) (by decide) fun b3 H2 b30 b31 P2 S2 C2=>?_
  try walk_at "WP"
  refine ite2 (fun z3=>?_) (fun z3=>last H2 (P2.mono (by omega)) S2 (C1.trans C2))
  refine pick_ P2 S2 h63 (by omega) (by omega) (by omega) fun sh0 H3 c0 c1 P3 S3 C3=>?_
  have C3':=(C1.trans C2).trans C3
  have ht3:=C3' _ _ htp ht
  have hrp3:=C3' _ _ rpp r3
  (iterate 5 ((try (walk_at "WP")); (try (simp only [ht3,qJs,qJt,qJl,qJd,exists_eq_left',exists_eq_left])))); (try (walk_at "WP"))
  have c2:0 <= 1+sh0:=by omega
  have c3:1+sh0 <= d:=by omega
  generalize 1+sh0=sh at c2 c3 ⊢
  refine ⟨_,at1,rp,rfl,⟨_,SqL.of hrp3⟩,?_⟩
  refine comp_L (f:=liI (mvI (0 - sh))) (SqL.of hrp3) (by rw [qC]; exact le_big (by omega)) (fun y H' R hy hS' hR=>?_) (fun m hm=>?_)
  ·obtain ⟨n,hn,rfl⟩:=qP.mp hy
   rw [show capV [5] [some (V.ref p),some (V.ref tb),some (V.bl db),some (V.int (th:Int)),some (V.int (d:Int)),some (V.int sh)]=[some (V.int sh)] from rfl]
   try walk_at "WP"
   refine ⟨c2,?_⟩
   rw [← mvI_neg c2]
   exact hR
  rw [liI_map]
  have sm:=same_new hm (.lst ((row.map (mvI (0 - sh))).map V.int))
  have P6:=P3.same sm
  intro r hr0
  have sr:=same_new hr0 (.lst [V.int (th:Int),V.int (0 - sh),V.ref m])
  refine q r m (0 - sh) _ (C3'.new (P6.ne hr0) (sm.free hr0)) (C3'.new (P3.ne hm) hm) upd_same (sr _ _ upd_same) hth ⟨by omega,by omega,fun _ x hx=>?_⟩ (fun y=>by rw [z] at y; cases y) ((P6.same sr).mono (by omega)) ((S3.same sm).same sr) ((C3'.trans sm.chg).trans sr.chg)
  refine Int.dvd_trans ?_ (hdv x hx)
  rw [show (-(0 - sh)).toNat=sh.toNat by omega,show d=sh.toNat+(d - sh.toNat) by omega,Int.pow_add]
  exact Int.dvd_mul_right _ _
theorem ok_web59 (T:Txt K mg):Cal P w K mg base 3 "_law_web" ["_law_pen_here","_law_ins","_law_outs_many","_law_down_here"] (spWeb59 K):=by
 have B:=T.bl
 have C_l_pick:=(ok_pick (P:=P) (w:=w) (base:=base) T).mono (k:=2) (by decide)
 have C_l_part:=ok_part59 (P:=P) (w:=w) (base:=base) T
 refine mkCal T.t_l_web sc_l_web (fun vs H Q E h=>?_) (fun f cdv A outer s H vs Q E hr h=>?_)
 ·obtain ⟨p,a,ns,c,ins,n,db,rfl,_⟩:=h
  rfl
 obtain ⟨p,a,ns,c,ins,nO,db,rfl,P2,S2,h63,hc,u0,u1,hnO,q⟩:=h
 refine ⟨_,((@pss_mid _ _ _ _ _ (@ps_setCompC _ _ _ _ (4) _ _ _ _ _ _ _ (["_law_j","_law_ins"]) (1) ([1]) _ _ _ rfl (@pi_range1 _ _ _ _ _ _ rfl B.range (@pa_cons _ _ _ _ _ (pv 1) pa_nil (by rfl)) (by rfl)) (fun nd C s H fp=>⟨(@pg_name _ _ (0) _ nd rfl (by walk_at "o") (by walk_at "o")),pn_nil,(@pe_comp0 _ _ _ _ _ _ _ _ (["_law_k","_law_j"]) (1) ([0]) _ _ _ rfl (@pi_range1 _ _ _ _ _ _ rfl B.range (@pa_cons _ _ _ _ _ (pv 1) pa_nil (by rfl)) (by rfl)) (fun nd C s H fp=>⟨(@pg_name _ _ (0) _ nd rfl (by walk_at "o") (by walk_at "o")),pn_nil,(@pe_callTy _ _ _ _ _ _ _ _ _ call_int1 rfl B.int bo_int (@pa_cons _ _ _ _ _ (@pe_cmpR _ _ _ _ _ _ _ _ op_eq (pv 0) (pv 1) (@nomark _ _ (by decide) (by decide))) pa_nil (by rfl)) (by decide) (by decide) (by rfl) (by rfl))⟩) (by decide +kernel) (by first | rfl | decide +kernel) (by first | rfl | decide +kernel) rfl (fun _=>rfl))⟩) (by decide +kernel) (by first | rfl | decide +kernel) (by first | rfl | decide +kernel) rfl (fun _=>rfl) sc_l_web.nd rfl (by walk_at "o") (by walk_at "o") rfl) (@pss_cons _ _ _ _ _ (@ps_set _ _ (5) _ _ _ _ sc_l_web.nd rfl (by walk_at "o") (@pe_lst _ _ _ _ pa_nil) (by rfl) (by walk_at "o")) (@pss_mid _ _ _ _ _ (@ps_for _ _ _ _ _ _ _ _ PassesOwn.never rfl (@pi_range1 _ _ _ _ _ _ rfl B.range (@pa_cons _ _ _ _ _ (@pe_ix _ _ _ _ _ _ _ ix_M (@pe_lst _ _ _ _ (@pa_cons _ _ _ _ _ (@pe_cal _ _ _ _ _ _ _ _ _ _ C_l_pick hr rfl (@pa_cons _ _ _ _ _ (pv 0) (@pa_cons _ _ _ _ _ pe_int pa_nil (by rfl)) (by rfl)) (by decide) (by rfl) (by rfl)) (@pa_cons _ _ _ _ _ (@pe_cal _ _ _ _ _ _ _ _ _ _ C_l_pick hr rfl (@pa_cons _ _ _ _ _ (pv 0) (@pa_cons _ _ _ _ _ pe_int pa_nil (by rfl)) (by rfl)) (by decide) (by rfl) (by rfl)) (@pa_cons _ _ _ _ _ (@pe_cal _ _ _ _ _ _ _ _ _ _ C_l_pick hr rfl (@pa_cons _ _ _ _ _ (pv 0) (@pa_cons _ _ _ _ _ pe_int pa_nil (by rfl)) (by rfl)) (by decide) (by rfl) (by rfl)) pa_nil (by rfl)) (by rfl)) (by rfl))) (@pe_cal _ _ _ _ _ _ _ _ _ _ C_l_pick hr rfl (@pa_cons _ _ _ _ _ (pv 0) (@pa_cons _ _ _ _ _ pe_int pa_nil (by rfl)) (by rfl)) (by decide) (by rfl) (by rfl)) (fun _ _=>rfl)) pa_nil (by rfl)) (by rfl)) (@pg_name _ _ (6) _ sc_l_web.nd rfl (by walk_at "o") (by walk_at "o")) (@pss_cons _ _ _ _ _ (@ps_asg _ _ _ _ _ _ (@pe_cal _ _ _ _ _ _ _ _ _ _ C_l_part hr rfl (@pa_cons _ _ _ _ _ (pv 0) (@pa_cons _ _ _ _ _ (pv 4) (@pa_cons _ _ _ _ _ (pv 3) pa_nil (by rfl)) (by rfl)) (by rfl)) (by decide) (by rfl) (by rfl)) (@pg_lst _ _ _ _ _ 3 rfl (@pgs_cons _ _ _ _ _ (@pg_name _ _ (7) _ sc_l_web.nd rfl (by walk_at "o") (by walk_at "o")) (@pgs_cons _ _ _ _ _ (@pg_name _ _ (8) _ sc_l_web.nd rfl (by walk_at "o") (by walk_at "o")) (@pgs_cons _ _ _ _ _ (@pg_name _ _ (9) _ sc_l_web.nd rfl (by walk_at "o") (by walk_at "o")) pgs_nil (by rfl)) (by rfl)) (by rfl)) (by rfl) (by rfl)) (by rfl) (by rfl) (by rfl)) (@pss_cons _ _ _ _ _ (@ps_asg _ _ _ _ _ _ (@pe_cal _ _ _ _ _ _ _ _ _ _ C_l_part hr rfl (@pa_cons _ _ _ _ _ (pv 0) (@pa_cons _ _ _ _ _ (pv 4) (@pa_cons _ _ _ _ _ (pv 3) pa_nil (by rfl)) (by rfl)) (by rfl)) (by decide) (by rfl) (by rfl)) (@pg_lst _ _ _ _ _ 3 rfl (@pgs_cons _ _ _ _ _ (@pg_name _ _ (10) _ sc_l_web.nd rfl (by walk_at "o") (by walk_at "o")) (@pgs_cons _ _ _ _ _ (@pg_name _ _ (11) _ sc_l_web.nd rfl (by walk_at "o") (by walk_at "o")) (@pgs_cons _ _ _ _ _ (@pg_name _ _ (12) _ sc_l_web.nd rfl (by walk_at "o") (by walk_at "o")) pgs_nil (by rfl)) (by rfl)) (by rfl)) (by rfl) (by rfl)) (by rfl) (by rfl) (by rfl)) (@pss_cons _ _ _ _ _ (@ps_set _ _ (13) _ _ _ _ sc_l_web.nd rfl (by walk_at "o") (@pe_op _ _ _ _ _ _ _ _ op_sub pe_int (@pe_op _ _ _ _ _ _ _ _ op_mulB pe_int (@pe_cal _ _ _ _ _ _ _ _ _ _ C_l_pick hr rfl (@pa_cons _ _ _ _ _ (pv 0) (@pa_cons _ _ _ _ _ pe_int pa_nil (by rfl)) (by rfl)) (by decide) (by rfl) (by rfl)))) (by rfl) (by walk_at "o")) (@pss_cons _ _ _ _ _ (@ps_expr _ _ _ _ (@pe_bm _ _ _ _ _ _ _ _ _ _ _ _ PySem.F.plainAttrs_list PySem.F.slot_list_append PySem.F.type_list_append mt_append (pv 5) (@pa_cons _ _ _ _ _ (@pe_tup _ _ _ _ _ (@pa_cons _ _ _ _ _ (@pe_ix _ _ _ _ _ _ _ ix_M (@pe_lst _ _ _ _ (@pa_cons _ _ _ _ _ pe_str (@pa_cons _ _ _ _ _ pe_str pa_nil (by rfl)) (by rfl))) (@pe_callTy _ _ _ _ _ _ _ _ _ call_int1 rfl B.int bo_int (@pa_cons _ _ _ _ _ (@pe_cmpR _ _ _ _ _ _ _ _ op_eq (pv 13) (@pe_un _ _ _ _ _ _ un_neg pe_int) (@nomark _ _ (by decide) (by decide))) pa_nil (by rfl)) (by decide) (by decide) (by rfl) (by rfl)) (fun _ _=>rfl)) (@pa_cons _ _ _ _ _ (pv 7) (@pa_cons _ _ _ _ _ (pv 8) (@pa_cons _ _ _ _ _ (pv 10) (@pa_cons _ _ _ _ _ (pv 11) pa_nil (by rfl)) (by rfl)) (by rfl)) (by rfl)) (by rfl))) pa_nil (by rfl)) (by rfl) (by rfl) (by rfl) (by rfl) (by rfl)) (by rfl)) (@pss_one _ _ _ (@ps_expr _ _ _ _ (@pe_bm _ _ _ _ _ _ _ _ _ _ _ _ PySem.F.plainAttrs_list PySem.F.slot_list_append PySem.F.type_list_append mt_append (pv 4) (@pa_cons _ _ _ _ _ (@pe_comp0 _ _ _ _ _ _ _ _ (["_law_first","_law_second","_law_sign"]) (2) ([13]) _ _ _ rfl (@pi_zip _ _ _ _ _ _ _ _ _ rfl B.zip (@pa_cons _ _ _ _ _ (pv 9) (@pa_cons _ _ _ _ _ (pv 12) pa_nil (by rfl)) (by rfl)) (by rfl) (by rfl)) (fun nd C s H fp=>⟨(@pg_tupM _ _ _ _ _ 2 rfl (@pgs_cons _ _ _ _ _ (@pg_name _ _ (0) _ nd rfl (by walk_at "o") (by walk_at "o")) (@pgs_cons _ _ _ _ _ (@pg_name _ _ (1) _ nd rfl (by walk_at "o") (by walk_at "o")) pgs_nil (by rfl)) (by rfl)) (by rfl) (by rfl)),pn_nil,(@pe_op _ _ _ _ _ _ _ _ op_add (pv 0) (@pe_op _ _ _ _ _ _ _ _ op_mulB (pv 2) (pv 1)))⟩) (by decide +kernel) (by first | rfl | decide +kernel) (by first | rfl | decide +kernel) rfl (fun _=>rfl)) pa_nil (by rfl)) (by rfl) (by rfl) (by rfl) (by rfl) (by rfl)) (by rfl))))))) (by intro _ ; rfl)) (@pss_cons _ _ _ _ _ (@ps_set _ _ (14) _ _ _ _ sc_l_web.nd rfl (by walk_at "o") (@pe_lst _ _ _ _ pa_nil) (by rfl) (by walk_at "o")) (@pss_cons _ _ _ _ _ (@ps_for _ _ _ _ _ _ _ _ PassesOwn.never rfl (@pi_range1 _ _ _ _ _ _ rfl B.range (@pa_cons _ _ _ _ _ (pv 2) pa_nil (by rfl)) (by rfl)) (@pg_name _ _ (6) _ sc_l_web.nd rfl (by walk_at "o") (by walk_at "o")) (@pss_cons _ _ _ _ _ (@ps_asg _ _ _ _ _ _ (@pe_cal _ _ _ _ _ _ _ _ _ _ C_l_part hr rfl (@pa_cons _ _ _ _ _ (pv 0) (@pa_cons _ _ _ _ _ (pv 4) (@pa_cons _ _ _ _ _ (pv 3) pa_nil (by rfl)) (by rfl)) (by rfl)) (by decide) (by rfl) (by rfl)) (@pg_lst _ _ _ _ _ 3 rfl (@pgs_cons _ _ _ _ _ (@pg_name _ _ (15) _ sc_l_web.nd rfl (by walk_at "o") (by walk_at "o")) (@pgs_cons _ _ _ _ _ (@pg_name _ _ (16) _ sc_l_web.nd rfl (by walk_at "o") (by walk_at "o")) (@pgs_cons _ _ _ _ _ (@pg_name _ _ (17) _ sc_l_web.nd rfl (by walk_at "o") (by walk_at "o")) pgs_nil (by rfl)) (by rfl)) (by rfl)) (by rfl) (by rfl)) (by rfl) (by rfl) (by rfl)) (@pss_one _ _ _ (@ps_expr _ _ _ _ (@pe_bm _ _ _ _ _ _ _ _ _ _ _ _ PySem.F.plainAttrs_list PySem.F.slot_list_append PySem.F.type_list_append mt_append (pv 14) (@pa_cons _ _ _ _ _ (@pe_ix _ _ _ _ _ _ _ ix_M (@pe_lst _ _ _ _ (@pa_cons _ _ _ _ _ (@pe_tup _ _ _ _ _ (@pa_cons _ _ _ _ _ (pv 15) (@pa_cons _ _ _ _ _ (pv 16) (@pa_cons _ _ _ _ _ (@pe_op _ _ _ _ _ _ _ _ op_sub pe_int (@pe_op _ _ _ _ _ _ _ _ op_mulB pe_int (@pe_cal _ _ _ _ _ _ _ _ _ _ C_l_pick hr rfl (@pa_cons _ _ _ _ _ (pv 0) (@pa_cons _ _ _ _ _ pe_int pa_nil (by rfl)) (by rfl)) (by decide) (by rfl) (by rfl)))) pa_nil (by rfl)) (by rfl)) (by rfl))) (@pa_cons _ _ _ _ _ (@pe_tup _ _ _ _ _ (@pa_cons _ _ _ _ _ pe_int (@pa_cons _ _ _ _ _ pe_int (@pa_cons _ _ _ _ _ pe_int pa_nil (by rfl)) (by rfl)) (by rfl))) pa_nil (by rfl)) (by rfl))) (@pe_callTy _ _ _ _ _ _ _ _ _ call_int1 rfl B.int bo_int (@pa_cons _ _ _ _ _ (@pe_cmpR _ _ _ _ _ _ _ _ op_eq (@pe_cal _ _ _ _ _ _ _ _ _ _ C_l_pick hr rfl (@pa_cons _ _ _ _ _ (pv 0) (@pa_cons _ _ _ _ _ pe_int pa_nil (by rfl)) (by rfl)) (by decide) (by rfl) (by rfl)) pe_int (@nomark _ _ (by decide) (by decide))) pa_nil (by rfl)) (by decide) (by decide) (by rfl) (by rfl)) (fun _ _=>rfl)) pa_nil (by rfl)) (by rfl) (by rfl) (by rfl) (by rfl) (by rfl)) (by rfl)))) (by intro _ ; rfl)) (@pss_one _ _ _ (@ps_ret _ _ _ _ (@pe_tup _ _ _ _ _ (@pa_cons _ _ _ _ _ (pv 1) (@pa_cons _ _ _ _ _ (pv 5) (@pa_cons _ _ _ _ _ (pv 14) pa_nil (by rfl)) (by rfl)) (by rfl))))))))))),?_⟩
 rw [show start ["_law_pen_here","_law_ins","_law_outs_many","_law_down_here","_law_told","_law_deeds","_law_k","_law_a","_law_s","_law_one","_law_b","_law_t","_law_other","_law_sign","_law_outs","_law_thing","_law_shift","_law_there"] [.ref p,.int (ins:Int),.int (nO:Int),.bl db]=[some (.ref p),some (.int (ins:Int)),some (.int (nO:Int)),some (.bl db),none,none,none,none,none,none,none,none,none,none,none,none,none,none] from rfl]
 try walk_at "WP"
 refine mid_of (fun σ H3=>∃ (tb:Addr) (vs:List V),σ = [some (.ref p),some (.int ins),some (.int nO),some (.bl db),some (.ref tb),none,none,none,none,none,none,none,none,none,none,none,none,none] /\ H tb=none /\ H3 tb=some (.lst vs) /\ HRs H3 [tb,p] vs ((List.range ins).map (unitRow ins)) /\ tb ≠ p /\ PPen H3 p a (c+2) /\ Scr K H3 a ns /\ Chg p H H3) (fun N hN=>?_) ?_
 ·try walk_at "WP"
  refine ⟨by omega,by omega,?_⟩
  rw [Int.toNat_natCast]
  have hex:∀ e ∈ [p],H e ≠ none:=fun e he=>by
   rw [List.mem_singleton.mp he]
   obtain ⟨xs,hx⟩:=P2.lst
   rw [hx]
   intro z
   cases z
  refine comp_rows (by omega) (unitRow ins) [p] hex (fun i H' R hi s' hR=>?_) (fun tb vs H3 hn s3 h3 hr3=>?_)
  ·rw [show capV [1] [some (V.ref p),some (V.int (ins:Int)),some (V.int (nO:Int)),some (V.bl db),none,none,none,none,none,none,none,none,none,none,none,none,none,none]=[some (.int ins)] from rfl]
   try walk_at "WP"
   refine ⟨by omega,by omega,?_⟩
   rw [Int.toNat_natCast]
   refine comp_R (f:=unV i) (le_size (by omega)) (fun y H5 R5 hy s5 hR5=>?_) (fun acc hacc=>?_)
   ·obtain ⟨k,hk,rfl⟩:=qP.mp hy
    rw [show capV [0] [some (V.int (0+(i:Int))),some (V.int (ins:Int))]=[some (V.int (0+(i:Int)))] from rfl]
    try walk_at "WP"
    rw [show (0:Int)+(i:Int)=i by omega]
    exact hR5
   ·rw [unV_map]
    exact hR acc _ hacc (same_new hacc _) upd_same
  ·exact hN _ _ ⟨tb,vs,rfl,hn,h3,hr3,P2.ne hn,(P2.same s3).mono (by omega),S2.same s3,s3.chg⟩
 rintro σ H3 ⟨tb,vs,rfl,ntb,htb,hrs,tbp,P3,S3,C3⟩
 try walk_at "WP"
 intro dl hdl
 have sd:=same_new hdl (.lst [])
 have dlp:dl ≠ p:=P3.ne hdl
 have tbd:tb ≠ dl:=ne_of_none htb hdl
 have I0:FI H p ins tb dl 0 vs [] [] (upd H3 dl (.lst [])):=by
  refine ⟨⟨sd _ _ htb,(hrs.new hdl).same sd,by simp [rowsW],fun r hr=>?_,fun r hr=>?_,upd_same,hts_nil,rfl,fun j d h=>by simp at h,C3.trans sd.chg,ntb,C3.new dlp hdl,tbp,dlp,tbd⟩,fun k d h=>by simp at h⟩
  ·obtain ⟨i,_,rfl⟩:=qP.mp hr
   refine ⟨by rw [unitRow_len]; exact u1,fun n hn=>?_⟩
   rcases unitRow_bound hn with z | z <;> subst z <;> decide
  ·obtain ⟨i,_,rfl⟩:=qP.mp hr
   exact unitRow_len _ _
 have P4:=P3.same sd
 have S4:=S3.same sd
 generalize upd H3 dl (.lst [])=H4 at I0 P4 S4 ⊢
 refine mid_of (fun σ H5=>∃ (k:Nat) (vs us:List V) (ds:List Wd) (o5 o6 o7 o8 o9 o10 o11 o12:Option V),σ = [some (.ref p),some (.int ins),some (.int nO),some (.bl db),some (.ref tb),some (.ref dl),o5,o6,o7,o8,o9,o10,o11,o12,none,none,none,none] /\ k <= 20 /\ FI H p ins tb dl k vs us ds H5 /\ (db=false -> ∀ (k:Nat) (d:Wd),ds[k]? = some d -> 0 <= d.s /\ 0 <= d.t) /\ PPen H5 p a (c+10+30 * k) /\ Scr K H5 a ns) (fun N hN=>?_) ?_
 ·try walk_at "WP"
  refine pick_ P4 S4 h63 (by omega) (by decide) (by decide) fun q1 H5 q10 q11 P5 S5 C5=>?_
  try walk_at "WP"
  refine pick_ P5 S5 h63 (by omega) (by decide) (by decide) fun q2 H6 q20 q21 P6 S6 C6=>?_
  try walk_at "WP"
  refine pick_ P6 S6 h63 (by omega) (by decide) (by decide) fun q3 H7 q30 q31 P7 S7 C7=>?_
  try walk_at "WP"
  intro e2 he2
  have se2:=same_new he2 (.lst [V.int q1,V.int q2,V.int q3])
  refine pick_ (P7.same se2) (S7.same se2) h63 (by omega) (by decide) (by decide) fun q4 H8 q40 q41 P8 S8 C8=>?_
  have hH8:=C8 e2 _ (P7.ne he2) upd_same
  (iterate 5 ((try (walk_at "WP")); (try (simp only [hH8,qJs,qJt,qJl,qJd,exists_eq_left',exists_eq_left])))); (try (walk_at "WP"))
  have hat:∃ u:Nat,atI [V.int q1,V.int q2,V.int q3] q4=some (.int u) /\ u <= 20:=by
   obtain ⟨k1,rfl⟩:=Int.eq_ofNat_of_zero_le q10
   obtain ⟨k2,rfl⟩:=Int.eq_ofNat_of_zero_le q20
   obtain ⟨k3,rfl⟩:=Int.eq_ofNat_of_zero_le q30
   have four:q4=0 \/ q4=1 \/ q4=2:=by omega
   rcases four with z | z | z <;> subst z
   ·exact ⟨k1,rfl,by omega⟩
   ·exact ⟨k2,rfl,by omega⟩
   ·exact ⟨k3,rfl,by omega⟩
  obtain ⟨n,hn,n60⟩:=hat
  refine ⟨_,hn,?_⟩
  try walk_at "WP"
  refine ⟨by omega,by omega,?_⟩
  rw [Int.toNat_natCast]
  have I8:=((((I0.stepP P4 C5).stepP P5 C6).stepP P6 C7).stepP P7 se2.chg).stepP (P7.same se2) C8
  refine forR (fun k σ H7=>∃ (vs us:List V) (ds:List Wd) (o5 o6 o7 o8 o9 o10 o11 o12:Option V),σ = [some (.ref p),some (.int ins),some (.int nO),some (.bl db),some (.ref tb),some (.ref dl),o5,o6,o7,o8,o9,o10,o11,o12,none,none,none,none] /\ FI H p ins tb dl k vs us ds H7 /\ (db=false -> ∀ (k:Nat) (d:Wd),ds[k]? = some d -> 0 <= d.s /\ 0 <= d.t) /\ PPen H7 p a (c+10+30 * k) /\ Scr K H7 a ns)
   ⟨vs,[],[],none,none,none,none,none,none,none,none,rfl,I8,fun _ k d h=>by simp at h,P8.mono (by omega),S8⟩ ?_ ?_
  ·rintro k σ H9 N2 hk ⟨vs,us,ds,o5,o6,o7,o8,o9,o10,o11,o12,rfl,I9,up9,P9,S9⟩ hN2
   have hvl:vs.length=ins+k:=by rw [I9.wi.hrs.len,I9.wi.rl]
   have hrl:(rowsW ins ds).length=ins+k:=I9.wi.rl
   have rbig:∀ r ∈ rowsW ins ds,r.length <= 12 /\ ∀ n ∈ r,n.natAbs < 2 ^ 9000:=fun r hr=>⟨(I9.wi.rb r hr).1,fun n hn=>Nat.lt_of_le_of_lt ((I9.wi.rb r hr).2 n hn) (Nat.pow_lt_pow_right (by decide) (by omega))⟩
   try walk_at "WP"
   refine ⟨p,a,tb,ns,_,vs,[dl,tb,p],rowsW ins ds,db,rfl,P9,S9,h63,by omega,I9.wi.tbl,I9.wi.hrs,by simp,tbp,by omega,by omega,rbig,fun r1 m1 ja sa H10 nr1 nm1 h1 hm1 ja1 hsa upa P10 S10 C10=>?_⟩
   have I10:=I9.stepP P9 C10
   (iterate 5 ((try (walk_at "WP")); (try (simp only [h1,qJs,qJt,qJl,qJd,exists_eq_left',exists_eq_left])))); (try (walk_at "WP"))
   refine ⟨p,a,tb,ns,_,vs,[dl,tb,p],rowsW ins ds,db,rfl,P10,S10,h63,by omega,I10.wi.tbl,I10.wi.hrs,by simp,tbp,by omega,by omega,rbig,fun r2 m2 jb sb H11 nr2 nm2 h2 hm2 jb1 hsb upb P11 S11 C11=>?_⟩
   have I11:=I10.stepP P10 C11
   have m1p:m1 ≠ p:=P9.ne nm1
   have m2p:m2 ≠ p:=P10.ne nm2
   have hm1':=C11 _ _ m1p hm1
   (iterate 5 ((try (walk_at "WP")); (try (simp only [h2,qJs,qJt,qJl,qJd,exists_eq_left',exists_eq_left])))); (try (walk_at "WP"))
   refine pick_ P11 S11 h63 (by omega) (by decide) (by decide) fun r5 H12 r50 r51 P12 S12 C12=>?_
   have I12:=I11.stepP P11 C12
   have hm1'':=C12 _ _ m1p hm1'
   have hm2'':=C12 _ _ m2p hm2
   try walk_at "WP"
   refine ⟨mul_l (by decide) (by decide),ty_list I12.wi.dll,fun e3 he3=>?_⟩
   have s3:=same_new he3 (.lst [V.str (Str.ofString "sum"),V.str (Str.ofString "less")])
   have hw:∃ wd:Str,atI [V.str (Str.ofString "sum"),V.str (Str.ofString "less")] (if 1 - 2 * r5 = -1 then 1 else 0)=some (.str wd) /\ (wd = "sum" \/ wd = "less") /\ sgW wd=1 - 2 * r5:=by
    have two:r5=0 \/ r5=1:=by omega
    rcases two with z | z <;> subst z
    ·exact ⟨_,rfl,.inl rfl,by decide⟩
    ·exact ⟨_,rfl,.inr rfl,by decide⟩
   obtain ⟨wd,hwd,hws,hsg⟩:=hw
   refine ⟨_,hwd,fun x hx=>?_⟩
   have sx:=same_new hx (.tup [V.str wd,V.int (ja:Int),V.int sa,V.int (jb:Int),V.int sb])
   have s13:=s3.trans sx
   have hx13:(upd (upd H12 e3 (.lst [V.str (Str.ofString "sum"),V.str (Str.ofString "less")])) x (.tup [V.str wd,V.int (ja:Int),V.int sa,V.int (jb:Int),V.int sb])) x=some (.tup (wTup ⟨wd,ja,sa,jb,sb⟩)):=upd_same
   generalize upd (upd H12 e3 (.lst [V.str (Str.ofString "sum"),V.str (Str.ofString "less")])) x (.tup [V.str wd,V.int (ja:Int),V.int sa,V.int (jb:Int),V.int sb])=H13 at s13 hx13 ⊢
   have hul:us.length=k:=by rw [I12.wi.hds.len,I12.wi.dlen]
   have d13:=s13 _ _ I12.wi.dll
   have t14:(upd H13 dl (.lst (us ++ [.ref x]))) tb=some (.lst vs):=by rw [upd_ne tbd]; exact s13 _ _ I12.wi.tbl
   have m1d:m1 ≠ dl:=(ne_of_none I9.wi.dll nm1).symm
   have m2d:m2 ≠ dl:=(ne_of_none I10.wi.dll nm2).symm
   have m1_14:(upd H13 dl (.lst (us ++ [.ref x]))) m1=some (.lst ((((rowsW ins ds).getD ja []).map (mvI sa)).map V.int)):=by rw [upd_ne m1d]; exact s13 _ _ hm1''
   have m2_14:(upd H13 dl (.lst (us ++ [.ref x]))) m2=some (.lst ((((rowsW ins ds).getD jb []).map (mvI sb)).map V.int)):=by rw [upd_ne m2d]; exact s13 _ _ hm2''
   have P14:PPen (upd H13 dl (.lst (us ++ [.ref x]))) p a (c+10+30 * k+10+10+1):=(P12.same s13).chg dlp.symm (Chg.upd _)
   have S14:Scr K (upd H13 dl (.lst (us ++ [.ref x]))) a ns:=(S12.same s13).chg d13 (Chg.upd _)
   refine ⟨us,d13,qJ (by omega:us.length < 1000) (le_size (by decide)),ty_list t14,m1,m2,⟨rfl,rfl⟩,_,SqL.of m1_14,_,SqL.of m2_14,?_⟩
   generalize hH14:upd H13 dl (.lst (us ++ [.ref x]))=H14 at t14 m1_14 m2_14 P14 S14 ⊢
   have eja:=qA (l:=rowsW ins ds) (i:=ja) (by omega)
   have ejb:=qA (l:=rowsW ins ds) (i:=jb) (by omega)
   have lja:((rowsW ins ds).getD ja []).length=ins:=by rw [getD_of eja]; exact I12.wi.rw_ _ (qE eja)
   have ljb:((rowsW ins ds).getD jb []).length=ins:=by rw [getD_of ejb]; exact I12.wi.rw_ _ (qE ejb)
   refine comp_zip (SqL.of m1_14) (SqL.of m2_14) (by simp only [qC]; omega) (by simp only [qC]; omega) ((List.zipWith (fun x y=>x+(1 - 2 * r5) * y) (((rowsW ins ds).getD ja []).map (mvI sa)) (((rowsW ins ds).getD jb []).map (mvI sb))).map V.int) (by simp only [qC,List.length_zipWith]; omega) (fun i x y z H' R hx hy hz s' hR=>?_) (fun acc H17 nacc s17 hacc=>?_)
   ·rw [show capV [13] [some (V.ref p),some (V.int (ins:Int)),some (V.int (nO:Int)),some (V.bl db),some (V.ref tb),some (V.ref dl),some (V.int (0+(k:Int))),some (V.int (ja:Int)),some (V.int sa),some (V.ref m1),some (V.int (jb:Int)),some (V.int sb),some (V.ref m2),some (V.int (1 - 2 * r5)),none,none,none,none]=[some (V.int (1 - 2 * r5))] from rfl]
    obtain ⟨x',hx',rfl⟩:=map_at hx
    obtain ⟨y',hy',rfl⟩:=map_at hy
    have hz':z=V.int (x'+(1 - 2 * r5) * y'):=by
     rw [qI,List.getElem?_zipWith,hx',hy'] at hz
     exact (Option.some.inj hz).symm
    subst hz'
    rw [List.cons_append,List.cons_append,List.nil_append]
    try walk_at "WP"
    exact ⟨mul_l (by omega) (by omega),hR⟩
   have erow:List.zipWith (fun x y=>x+(1 - 2 * r5) * y) (((rowsW ins ds).getD ja []).map (mvI sa)) (((rowsW ins ds).getD jb []).map (mvI sb))=rowD (rowsW ins ds) ⟨wd,ja,sa,jb,sb⟩:=by
    unfold rowD
    rw [List.zipWith_map,hsg]
   rw [erow] at hacc
   have t17:=s17 _ _ t14
   refine ⟨vs,t17,qJ (by omega:vs.length < 1000) (le_size (by decide)),?_⟩
   obtain ⟨b1,b2⟩:=rowD_bound (d:=⟨wd,ja,sa,jb,sb⟩) I12.wi.rb I12.wi.rw_ (by show ja < _; omega) (by show jb < _; omega) hsa.1 hsa.2.1 hsb.1 hsb.2.1
   have Ifin:=I12.app u1 s13 hx13 (by rw [hH14]; exact s17) hacc (by rw [hH14]; exact nacc) (P14.ne nacc) (by show ja < _; omega) (by show jb < _; omega) hws hsa hsb b1 b2
   exact hN2 _ _ ⟨_,_,_,_,_,_,_,_,_,_,_,rfl,Ifin,up_snoc up9 upa upb,((P14.same s17).chg tbp.symm (Chg.upd _)).mono (by omega),(S14.same s17).chg t17 (Chg.upd _)⟩
  ·rintro σ H7 ⟨vs,us,ds,o5,o6,o7,o8,o9,o10,o11,o12,rfl,I7,up7,P7,S7⟩
   exact hN _ _ ⟨n,vs,us,ds,_,_,_,_,_,_,_,_,rfl,n60,I7,up7,P7,S7⟩
 rintro σ H5 ⟨kk,vs,us,ds,o5,o6,o7,o8,o9,o10,o11,o12,rfl,hkk,I5,up5,P5,S5⟩
 try walk_at "WP"
 intro gl hgl
 have sg:=same_new hgl (.lst [])
 have P6:=P5.same sg
 have S6:=S5.same sg
 have glp:gl ≠ p:=P5.ne hgl
 have G0:FG H p ins tb dl gl kk vs us [] ds [] (upd H5 gl (.lst [])):=⟨⟨(I5.stepP P5 sg.chg).wi,(I5.wi.hrs.new hgl).same sg,upd_same,hts_nil,(fun g h=>by cases h),I5.wi.chg.new glp hgl,glp,(ne_of_none I5.wi.dll hgl).symm,(ne_of_none I5.wi.tbl hgl).symm⟩,I5.sh,(fun g h=>by cases h)⟩
 generalize upd H5 gl (.lst [])=H6 at G0 P6 S6 ⊢
 try walk_at "WP"
 refine ⟨by omega,by omega,?_⟩
 rw [Int.toNat_natCast]
 have rbig:∀ r ∈ rowsW ins ds,r.length <= 12 /\ ∀ n ∈ r,n.natAbs < 2 ^ 9000:=fun r hr=>⟨(I5.wi.rb r hr).1,fun n hn=>Nat.lt_of_le_of_lt ((I5.wi.rb r hr).2 n hn) (Nat.pow_lt_pow_right (by decide) (by omega))⟩
 have hrl:(rowsW ins ds).length=ins+kk:=I5.wi.rl
 refine forR (fun j σ H9=>∃ (os:List V) (gs:List Go) (o5 o14 o15 o16:Option V),σ = [some (.ref p),some (.int ins),some (.int nO),some (.bl db),some (.ref tb),some (.ref dl),o5,o6,o7,o8,o9,o10,o11,o12,some (.ref gl),o14,o15,o16] /\ FG H p ins tb dl gl kk vs us os ds gs H9 /\ gs.length=j /\ (db=false -> ∀ g ∈ gs,0 <= g.sh) /\ PPen H9 p a (c+5000+30 * j) /\ Scr K H9 a ns)
  ⟨[],[],o5,none,none,none,rfl,G0,rfl,(fun _ g h=>by cases h),P6.mono (by omega),S6⟩ ?_ ?_
 ·rintro j σ H9 N2 hj ⟨os,gs,o5,o14,o15,o16,rfl,G9,hgl9,upg,P9,S9⟩ hN2
  try walk_at "WP"
  refine ⟨p,a,tb,ns,_,vs,[gl,dl,tb,p],rowsW ins ds,db,rfl,P9,S9,h63,by omega,G9.wg.wi.tbl,G9.wg.hrs,by simp,tbp,by omega,by omega,rbig,fun r1 m1 ja sa H10 nr1 nm1 h1 hm1 ja1 hsa upa P10 S10 C10=>?_⟩
  have G10:=G9.stepP P9 C10
  (iterate 5 ((try (walk_at "WP")); (try (simp only [h1,qJs,qJt,qJl,qJd,exists_eq_left',exists_eq_left])))); (try (walk_at "WP"))
  refine ⟨ty_list G10.wg.gll,?_⟩
  refine pick_ P10 S10 h63 (by omega) (by decide) (by decide) fun r5 H12 r50 r51 P12 S12 C12=>?_
  have G12:=G10.stepP P10 C12
  try walk_at "WP"
  refine ⟨mul_l (by decide) (by decide),fun t1 ht1 t2 ht2 l3 hl3=>?_⟩
  have sa1:=same_new ht1 (.tup [V.int (ja:Int),V.int sa,V.int (1 - 2 * r5)])
  have sa2:=same_new ht2 (.tup [V.int 0,V.int 0,V.int 0])
  have sa3:=same_new hl3 (.lst [V.ref t1,V.ref t2])
  have sA:=(sa1.trans sa2).trans sa3
  have t1A:upd (upd (upd H12 t1 (.tup [V.int (ja:Int),V.int sa,V.int (1 - 2 * r5)])) t2 (.tup [V.int 0,V.int 0,V.int 0])) l3 (.lst [V.ref t1,V.ref t2]) t1=some (.tup (gTp ⟨ja,sa,1 - 2 * r5⟩)):=(sa2.trans sa3) _ _ upd_same
  have t2A:upd (upd (upd H12 t1 (.tup [V.int (ja:Int),V.int sa,V.int (1 - 2 * r5)])) t2 (.tup [V.int 0,V.int 0,V.int 0])) l3 (.lst [V.ref t1,V.ref t2]) t2=some (.tup (gTp ⟨0,0,0⟩)):=sa3 _ _ upd_same
  have l3A:upd (upd (upd H12 t1 (.tup [V.int (ja:Int),V.int sa,V.int (1 - 2 * r5)])) t2 (.tup [V.int 0,V.int 0,V.int 0])) l3 (.lst [V.ref t1,V.ref t2]) l3=some (.lst [V.ref t1,V.ref t2]):=upd_same
  have l3p:l3 ≠ p:=(P12.same (sa1.trans sa2)).ne hl3
  have GA:=G12.stepP P12 sA.chg
  have PA:=P12.same sA
  have SA:=S12.same sA
  generalize upd (upd (upd H12 t1 (.tup [V.int (ja:Int),V.int sa,V.int (1 - 2 * r5)])) t2 (.tup [V.int 0,V.int 0,V.int 0])) l3 (.lst [V.ref t1,V.ref t2])=HA at t1A t2A l3A GA PA SA ⊢
  refine pick_ PA SA h63 (by omega) (by decide) (by decide) fun r6 HB r60 r61 PB SB CB=>?_
  have GB:=GA.stepP PA CB
  obtain ⟨pl,hpl⟩:=PA.lst
  have t1B:=CB _ _ (ne_of t1A hpl (by intro z; cases z)) t1A
  have t2B:=CB _ _ (ne_of t2A hpl (by intro z; cases z)) t2A
  have l3B:=CB _ _ l3p l3A
  have gB:=GB.wg.gll
  have hol:os.length=j:=by rw [GB.wg.hgs.len,hgl9]
  have osz:os.length < sizeLine:=qJ (by omega:os.length < 1000) (le_size (by decide))
  (iterate 5 ((try (walk_at "WP")); (try (simp only [l3B,gB,qJs,qJt,qJl,qJd,exists_eq_left',exists_eq_left])))); (try (walk_at "WP"))
  obtain ⟨x,g',hx1,hx2,hx3,hx4,hx5⟩:∃ (x:Addr) (g':Go),atI [V.ref t1,V.ref t2] (if r6=0 then 1 else 0)=some (.ref x) /\ HB x=some (.tup (gTp g')) /\ g'.th < ins+kk /\ (g'=⟨0,0,0⟩ \/ ((g'.sg=1 \/ g'.sg = -1) /\ Sh g'.sh ((rowsW ins ds).getD g'.th []))) /\ (db=false -> 0 <= g'.sh):=by
   by_cases z:r6=0
   ·rw [if_pos z]; exact ⟨t2,⟨0,0,0⟩,rfl,t2B,by show 0 < _; omega,.inl rfl,fun _=>Int.le_refl 0⟩
   ·rw [if_neg z]; exact ⟨t1,⟨ja,sa,1 - 2 * r5⟩,rfl,t1B,by show ja < _; omega,.inr ⟨by show 1 - 2 * r5=1 \/ 1 - 2 * r5 = -1; omega,hsa⟩,upa⟩
  refine ⟨_,hx1,osz,?_⟩
  exact hN2 _ _ ⟨_,_,_,_,_,_,rfl,GB.app hx2 hx3 hx4,by simp [hgl9],(fun z g hg=>by rcases List.mem_append.mp hg with y | y; exact upg z g y; rw [List.mem_singleton.mp y]; exact hx5 z),(PB.chg glp.symm (Chg.upd _)).mono (by omega),SB.chg gB (Chg.upd _)⟩
 ·rintro σ H9 ⟨os,gs,o5,o14,o15,o16,rfl,G9,hgl9,upg,P9,S9⟩
  try walk_at "WP"
  intro w0 hw0
  have sw:=same_new hw0 (.tup [V.int (ins:Int),V.ref dl,V.ref gl])
  have kd:=G9.wg.wi.dlen
  refine q w0 dl gl us ds os gs _ (G9.wg.wi.chg.new (P9.ne hw0) hw0) G9.wg.wi.ndl G9.wg.ngl ⟨upd_same,sw _ _ G9.wg.wi.dll,G9.wg.wi.hds.same sw,sw _ _ G9.wg.gll,G9.wg.hgs.same sw⟩ ⟨⟨u0,u1,G9.wg.wi.dk,?_,?_,?_⟩,G9.sh,G9.go,?_,G9.wg.wi.rw_⟩ (by omega) hgl9 (fun z=>⟨fun d hd=>by obtain ⟨k,hk⟩:=List.getElem?_of_mem hd; exact up5 z k d hk,upg z⟩) ((P9.same sw).mono (by omega)) (S9.same sw) (G9.wg.wi.chg.trans sw.chg)
  ·intro g hg
   rw [kd]
   exact G9.wg.gk g hg
  ·rw [kd]; omega
  ·omega
  ·rw [kd]; exact G9.wg.wi.rb
end
section
variable {P:Program}{w:World}{K:PySem.W.Frag}{mg:Str -> Option Value}{base:Heap}
theorem ok_val59 (T:Txt K mg):Cal P w K mg base 2 "_law_value" ["_law_pen_here","_law_width"] (spValD K):=by
 have B:=T.bl
 have C_l_pick:=ok_pick (P:=P) (w:=w) (base:=base) T
 refine mkCal T.t_l_value sc_l_value (fun vs H Q E h=>?_) (fun f cdv A outer s H vs Q E hr h=>?_)
 ·obtain ⟨p,a,ns,c,w,rfl,_⟩:=h
  rfl
 obtain ⟨p,a,ns,c_,wd,rfl,hP,hS,h63,hc,w1,w2,q⟩:=h
 refine ⟨_,((@pss_cons _ _ _ _ _ (@ps_set _ _ (2) _ _ _ _ sc_l_value.nd rfl (by walk_at "o") (@pe_op _ _ _ _ _ _ _ _ op_shlB pe_int (@pe_callB _ _ _ _ _ _ _ _ _ (@call_min2 _ rfl) rfl B.min bo_min (@pa_cons _ _ _ _ _ pe_int (@pa_cons _ _ _ _ _ (@pe_op _ _ _ _ _ _ _ _ op_sub (pv 1) pe_int) pa_nil (by rfl)) (by rfl)) (by decide) (by decide) (by rfl) (by rfl))) (by rfl) (by walk_at "o")) (@pss_cons _ _ _ _ _ (@ps_set _ _ (3) _ _ _ _ sc_l_value.nd rfl (by walk_at "o") pe_int (by rfl) (by walk_at "o")) (@pss_cons _ _ _ _ _ (@ps_for _ _ _ _ _ _ _ _ PassesOwn.never rfl (@pi_range1 _ _ _ _ _ _ rfl B.range (@pa_cons _ _ _ _ _ pe_int pa_nil (by rfl)) (by rfl)) (@pg_name _ _ (4) _ sc_l_value.nd rfl (by walk_at "o") (by walk_at "o")) (@pss_one _ _ _ (@ps_set _ _ (3) _ _ _ _ sc_l_value.nd rfl (by walk_at "o") (@pe_op _ _ _ _ _ _ _ _ op_add (@pe_op _ _ _ _ _ _ _ _ op_mulB (pv 3) (@pe_op _ _ _ _ _ _ _ _ op_powB pe_int pe_int)) (@pe_cal _ _ _ _ _ _ _ _ _ _ C_l_pick hr rfl (@pa_cons _ _ _ _ _ (pv 0) (@pa_cons _ _ _ _ _ (@pe_op _ _ _ _ _ _ _ _ op_powB pe_int pe_int) pa_nil (by rfl)) (by rfl)) (by decide) (by rfl) (by rfl))) (by rfl) (by walk_at "o"))) (by intro _ ; rfl)) (@pss_cons _ _ _ _ _ (@ps_set _ _ (5) _ _ _ _ sc_l_value.nd rfl (by walk_at "o") (@pe_ix _ _ _ _ _ _ _ ix_M (@pe_lst _ _ _ _ (@pa_cons _ _ _ _ _ (@pe_cal _ _ _ _ _ _ _ _ _ _ C_l_pick hr rfl (@pa_cons _ _ _ _ _ (pv 0) (@pa_cons _ _ _ _ _ pe_int pa_nil (by rfl)) (by rfl)) (by decide) (by rfl) (by rfl)) (@pa_cons _ _ _ _ _ (@pe_op _ _ _ _ _ _ _ _ op_sub (pv 2) pe_int) (@pa_cons _ _ _ _ _ (pv 2) (@pa_cons _ _ _ _ _ (pv 3) pa_nil (by rfl)) (by rfl)) (by rfl)) (by rfl))) (@pe_cal _ _ _ _ _ _ _ _ _ _ C_l_pick hr rfl (@pa_cons _ _ _ _ _ (pv 0) (@pa_cons _ _ _ _ _ pe_int pa_nil (by rfl)) (by rfl)) (by decide) (by rfl) (by rfl)) (fun _ _=>rfl)) (by rfl) (by walk_at "o")) (@pss_cons _ _ _ _ _ (@ps_if _ _ _ _ _ _ _ _ (@pt_cmpR _ _ _ _ _ _ _ _ op_eq (@pe_cal _ _ _ _ _ _ _ _ _ _ C_l_pick hr rfl (@pa_cons _ _ _ _ _ (pv 0) (@pa_cons _ _ _ _ _ pe_int pa_nil (by rfl)) (by rfl)) (by decide) (by rfl) (by rfl)) pe_int (@nomark _ _ (by decide) (by decide))) (@pss_one _ _ _ (@ps_set _ _ (5) _ _ _ _ sc_l_value.nd rfl (by walk_at "o") (@pe_op _ _ _ _ _ _ _ _ op_sub pe_int (pv 5)) (by rfl) (by walk_at "o"))) pss_nil) (@pss_one _ _ _ (@ps_ret _ _ _ _ (pv 5))))))))),?_⟩
 rw [show start ["_law_pen_here","_law_width","_law_half","_law_great","_law_k","_law_number"] [.ref p,.int wd]=[some (.ref p),some (.int wd),none,none,none,none] from rfl]
 try walk_at "WP"
 refine ⟨_,_,⟨rfl,rfl⟩,⟨by split <;> omega,by split <;> omega⟩,?_⟩
 rw [Int.one_mul]
 have hh:0 < (2:Int) ^ (if wd - 1 < 160 then wd - 1 else 160).toNat /\ (2:Int) ^ (if wd - 1 < 160 then wd - 1 else 160).toNat <= 2 ^ 160:=by
  refine ⟨pow_pos2 _,?_⟩
  have:=qN (n:=2) (by decide) (show (if wd - 1 < 160 then wd - 1 else 160).toNat <= 160 by split <;> omega)
  exact_mod_cast this
 generalize (2:Int) ^ (if wd - 1 < 160 then wd - 1 else 160).toNat=hf at hh ⊢
 obtain ⟨hf0,hf1⟩:=hh
 refine forR (fun i σ H1=>∃ (g:Int) (o:Option V),σ = [some (V.ref p),some (V.int wd),some (V.int hf),some (V.int g),o,none] /\ 0 <= g /\ g < (10 ^ 12) ^ i /\ PPen H1 p a (c_+i) /\ Scr K H1 a ns /\ Chg p H H1) ⟨0,none,rfl,by omega,by decide,hP.mono (by omega),hS,fun _ _ _ z=>z⟩ ?_ ?_
 ·rintro i σ H1 N hi ⟨g,o,rfl,g0,g1,P1,S1,C1⟩ hN
  try walk_at "WP"
  refine ⟨mul_r (by decide) (by decide),?_⟩
  refine pick_ P1 S1 h63 (by omega) (by decide) (by decide) fun r H2 r0 r1 P2 S2 C2=>?_
  try walk_at "WP"
  refine hN _ _ ⟨_,_,rfl,by omega,?_,P2.mono (by omega),S2,C1.trans C2⟩
  rw [Int.pow_succ]
  have:g+1 <= (10 ^ 12) ^ i:=g1
  generalize ((10:Int) ^ 15) ^ i=z at this ⊢
  omega
 ·rintro σ H1 ⟨g,o,rfl,g0,g1,P1,S1,C1⟩
  have g2:g < 2 ^ 200:=Int.lt_trans g1 (by decide)
  try walk_at "WP"
  refine pick_ P1 S1 h63 (by omega) (by decide) (by decide) fun r3 H3 r30 r31 P3 S3 C3=>?_
  try walk_at "WP"
  intro l hl
  have sl:=same_new hl (.lst [V.int r3,V.int (hf - 1),V.int hf,V.int g])
  have P4:=P3.same sl
  have S4:=S3.same sl
  have C4:=(C1.trans C3).trans sl.chg
  have lp:=P3.ne hl
  have hl4:upd H3 l (.lst [V.int r3,V.int (hf - 1),V.int hf,V.int g]) l=some (.lst [V.int r3,V.int (hf - 1),V.int hf,V.int g]):=upd_same
  generalize upd H3 l (.lst [V.int r3,V.int (hf - 1),V.int hf,V.int g])=H4 at P4 S4 C4 hl4 ⊢
  refine pick_ P4 S4 h63 (by omega) (by decide) (by decide) fun way H5 r0 r1 P5 S5 C5=>?_
  have hl5:=C5 _ _ lp hl4
  have hat:∃ u:Int,atI [V.int r3,V.int (hf - 1),V.int hf,V.int g] way=some (.int u) /\ 0 <= u /\ u <= 2 ^ 200:=by
   have four:way=0 \/ way=1 \/ way=2 \/ way=3:=by omega
   rcases four with z | z | z | z <;> subst z
   ·exact ⟨_,rfl,by omega,by omega⟩
   ·exact ⟨_,rfl,by omega,by omega⟩
   ·exact ⟨_,rfl,by omega,by omega⟩
   ·exact ⟨_,rfl,by omega,by omega⟩
  obtain ⟨u,hu,u0,u1⟩:=hat
  have hb:u.natAbs <= 2 ^ 300:=by
   have:(2:Int) ^ 200 <= 2 ^ 300:=by decide
   omega
  (iterate 5 ((try (walk_at "WP")); (try (simp only [hl5,qJs,qJt,qJl,qJd,exists_eq_left',exists_eq_left])))); (try (walk_at "WP"))
  refine ⟨_,hu,?_⟩
  try walk_at "WP"
  refine pick_ P5 S5 h63 (by omega) (by decide) (by decide) fun r5 H6 r50 r51 P6 S6 C6=>?_
  try walk_at "WP"
  refine ite2 (fun z=>?_) (fun z=>?_)
  ·exact q _ _ (by omega) (P6.mono (by omega)) S6 ((C4.trans C5).trans C6)
  ·exact q _ _ hb (P6.mono (by omega)) S6 ((C4.trans C5).trans C6)
end
section
variable {P:Program}{w:World}{K:PySem.W.Frag}{mg:Str -> Option Value}{base:Heap}
theorem ok_sure59 (T:Txt K mg):Cal P w K mg base 4 "_law_sure_right" ["_law_web_here","_law_width","_law_values","_law_down_here"] spSure59:=by
 have B:=T.bl
 have C_sure:=ok_sure (P:=P) (w:=w) (base:=base) T
 have C_run_in:=ok_runinK (P:=P) (w:=w) (base:=base) T
 have C_run:=ok_runK (P:=P) (w:=w) (base:=base) T
 refine mkCal T.t_l_sure_right sc_l_sure_right (fun vs H Q E h=>?_) (fun f cdv A outer s H vs Q E hr h=>?_)
 ·obtain ⟨_,_,_,_,_,_,_,_,_,_,_,rfl,_⟩:=h
  rfl
 obtain ⟨x,v,dl,gl,us,ds,os,gs,xs,wd,db,rfl,W,FW,hv,hxb,w1,w2,low,q⟩:=h
 have i12:=FW.ok.i2
 have d60:=FW.ok.dl
 have hV:=FW.vok (xs:=xs) rfl hxb
 refine ⟨_,((@pss_cons _ _ _ _ _ (@ps_set _ _ (4) _ _ _ _ sc_l_sure_right.nd rfl (by walk_at "o") (@pe_cal _ _ _ _ _ _ _ _ _ _ C_sure hr rfl (@pa_cons _ _ _ _ _ (pv 0) (@pa_cons _ _ _ _ _ (pv 1) pa_nil (by rfl)) (by rfl)) (by decide) (by rfl) (by rfl)) (by rfl) (by walk_at "o")) (@pss_mid _ _ _ _ _ (@ps_if _ _ _ _ _ _ _ _ (@PW.pt _ _ _ (@pw_and _ _ _ _ _ _ _ (@pt_not _ _ _ _ (@pt_val _ _ _ (pv 3) (by intro _ ; rfl))) (@pw_and1 _ _ _ _ (@pt_cmpR _ _ _ _ _ _ _ _ (@op_neD _ _ hr) (pv 4) (@pe_op _ _ _ _ _ _ _ _ op_rep (@pe_lst _ _ _ _ (@pa_cons _ _ _ _ _ (pv 1) pa_nil (by rfl))) (@pe_callB _ _ _ _ _ _ _ _ _ call_lenM rfl B.len bo_len (@pa_cons _ _ _ _ _ (pv 4) pa_nil (by rfl)) (by decide) (by decide) (by rfl) (by rfl))) (@nomark _ _ (by decide) (by decide)))))) (@pss_one _ _ _ (@ps_ret _ _ _ _ pe_bl)) pss_nil) (@pss_cons _ _ _ _ _ (@ps_for _ _ _ _ _ _ _ _ PassesOwn.never rfl (@pi_zip3 _ _ _ _ _ _ _ _ _ _ rfl B.zip (@pa_cons _ _ _ _ _ (@pe_cal _ _ _ _ _ _ _ _ _ _ C_run_in hr rfl (@pa_cons _ _ _ _ _ (pv 0) (@pa_cons _ _ _ _ _ (pv 1) (@pa_cons _ _ _ _ _ (@pe_callTy _ _ _ _ _ _ _ _ _ call_list_of rfl B.list bo_list (@pa_cons _ _ _ _ _ (pv 2) pa_nil (by rfl)) (by decide) (by decide) (by rfl) (by rfl)) pa_nil (by rfl)) (by rfl)) (by rfl)) (by decide) (by rfl) (by rfl)) (@pa_cons _ _ _ _ _ (@pe_cal _ _ _ _ _ _ _ _ _ _ C_run hr rfl (@pa_cons _ _ _ _ _ (pv 0) (@pa_cons _ _ _ _ _ (@pe_callTy _ _ _ _ _ _ _ _ _ call_list_of rfl B.list bo_list (@pa_cons _ _ _ _ _ (pv 2) pa_nil (by rfl)) (by decide) (by decide) (by rfl) (by rfl)) pa_nil (by rfl)) (by rfl)) (by decide) (by rfl) (by rfl)) (@pa_cons _ _ _ _ _ (pv 4) pa_nil (by rfl)) (by rfl)) (by rfl)) (by rfl) (by rfl)) (@pg_tupM _ _ _ _ _ 3 rfl (@pgs_cons _ _ _ _ _ (@pg_name _ _ (5) _ sc_l_sure_right.nd rfl (by walk_at "o") (by walk_at "o")) (@pgs_cons _ _ _ _ _ (@pg_name _ _ (6) _ sc_l_sure_right.nd rfl (by walk_at "o") (by walk_at "o")) (@pgs_cons _ _ _ _ _ (@pg_name _ _ (7) _ sc_l_sure_right.nd rfl (by walk_at "o") (by walk_at "o")) pgs_nil (by rfl)) (by rfl)) (by rfl)) (by rfl) (by rfl)) (@pss_one _ _ _ (@ps_if _ _ _ _ _ _ _ _ (@pt_cmpR _ _ _ _ _ _ _ _ op_ne (@pe_op _ _ _ _ _ _ _ _ op_mod (@pe_op _ _ _ _ _ _ _ _ op_sub (pv 5) (pv 6)) (@pe_op _ _ _ _ _ _ _ _ op_shlB pe_int (pv 7))) pe_int (@nomark _ _ (by decide) (by decide))) (@pss_one _ _ _ (@ps_ret _ _ _ _ pe_bl)) pss_nil)) (by intro _ ; rfl)) (@pss_one _ _ _ (@ps_ret _ _ _ _ pe_bl)))))),?_⟩
 rw [show start ["_law_web_here","_law_width","_law_values","_law_down_here","_law_told","_law_there","_law_plain","_law_low"] [.ref x,.int wd,.ref v,.bl db]=[some (.ref x),some (.int wd),some (.ref v),some (.bl db),none,none,none,none] from rfl]
 try walk_at "WP"
 refine ⟨x,dl,gl,xs.length,us,ds,os,gs,wd,rfl,W,FW.dkok,i12,w1,w2,fun du H1 ndu s1 hdu=>?_⟩
 have hdk:∀ (k:Nat) (d:Wd),ds[k]? = some d -> d.a < (qQ xs.length wd).length+k /\ d.b < (qQ xs.length wd).length+k:=fun k d hd=>by
  rw [qL]
  exact ⟨(FW.ok.dk k d hd).1,(FW.ok.dk k d hd).2.1⟩
 have sl:(surW wd xs.length ds).length=xs.length+ds.length:=surW_len _ _ _
 refine mid_of (fun σ H2=>σ = [some (.ref x),some (.int wd),some (.ref v),some (.bl db),some (.ref du),none,none,none] /\ Same H H2 /\ H2 du=some (.lst ((surW wd xs.length ds).map V.int))) (fun N hN=>?_) ?_
 ·try walk_at "WP"
  refine ite2 (fun z=>?_) (fun z=>hN _ _ ⟨rfl,s1,hdu⟩)
  intro l1 n1
  have e1:=same_new n1 (.lst [V.int wd])
  refine ⟨_,e1 _ _ hdu,?_⟩
  rw [qC]
  refine ⟨l1,_,[V.int wd],rfl,rfl,upd_same,by omega,by omega,by rw [Int.toNat_natCast]; exact le_big (by show 1 * _ <= _; omega),fun l2 n2=>?_⟩
  rw [Int.toNat_natCast,rep_w59,← sur_up w1 (fun k d hd=>⟨(FW.ok.dk k d hd).1,(FW.ok.dk k d hd).2.1⟩) (low z).1]
  have e2':=same_new n2 (.lst ((surW wd xs.length ds).map V.int))
  have e2:=e1.trans e2'
  refine neLI (ns:=surW wd xs.length ds) (ms:=surW wd xs.length ds) (SqL.of (e2 _ _ hdu)) (SqL.of upd_same) ?_
  try walk_at "WP"
  exact hN _ _ ⟨rfl,s1.trans e2,e2 _ _ hdu⟩
 rintro σ H2 ⟨rfl,s2,hd2⟩
 have hv2:=s2 _ _ hv
 try walk_at "WP"
 rw [w_forZ3]
 try walk_at "WP"
 refine ⟨_,.inl (SqL.of hv2),fun v1 nv1=>?_⟩
 have s3':=same_new nv1 (.lst (xs.map V.int))
 have e3:upd H2 v1 (.lst (xs.map V.int)) v1=some (.lst (xs.map V.int)):=upd_same
 have s3:=s2.trans s3'
 have hd3:=s3' _ _ hd2
 generalize upd H2 v1 (.lst (xs.map V.int))=H3 at s3 e3 hd3 ⊢
 refine ⟨x,v1,dl,gl,us,ds,os,gs,xs,wd,rfl,(W.same s3).wk,e3,FW.f4.dk4,i12,w1,w2,fun th H4 nth s4' hth=>?_⟩
 have s4:=s3.trans s4'
 have hv4:=s4 _ _ hv
 try walk_at "WP"
 refine ⟨_,.inl (SqL.of hv4),fun v2 nv2=>?_⟩
 have s5':=same_new nv2 (.lst (xs.map V.int))
 have e5:upd H4 v2 (.lst (xs.map V.int)) v2=some (.lst (xs.map V.int)):=upd_same
 have s5:=s4.trans s5'
 have hd5:=s5' _ _ (s4' _ _ hd3)
 have th5:=s5' _ _ hth
 generalize upd H4 v2 (.lst (xs.map V.int))=H5 at s5 e5 hd5 th5 ⊢
 refine ⟨x,v2,dl,gl,us,ds,os,gs,xs,rfl,(W.same s5).wk,e5,hV.v4,fun pn H6 npn s6' hpn=>?_⟩
 have s6:=s5.trans s6'
 have th6:=s6' _ _ th5
 have du6:=s6' _ _ hd5
 try walk_at "WP"
 refine ⟨th,pn,du,⟨rfl,rfl,rfl⟩,_,SqL.of th6,_,SqL.of hpn,_,SqL.of du6,?_⟩
 refine forZ3 (xs:=(rinW wd xs ds).map V.int) (ys:=(valsW xs ds).map V.int) (zs:=(surW wd xs.length ds).map V.int) (by rw [qC,qC,rinW_len,valsW_len]) (by rw [qC,qC,rinW_len,surW_len]) (fun k σ H'=>∃ (o12 o13 o14:Option V),σ = [some (.ref x),some (.int wd),some (.ref v),some (.bl db),some (.ref du),o12,o13,o14] /\ Same H6 H') ⟨_,_,_,rfl,Same.refl _⟩ ?_ ?_ ?_
 ·rintro k σ H' _ ⟨_,_,_,_,s'⟩
  exact ⟨SqL.of (s' _ _ th6),SqL.of (s' _ _ hpn),SqL.of (s' _ _ du6)⟩
 ·rintro k x y z T0 σ H' N3 hx hy hz hT ⟨o12,o13,o14,rfl,s'⟩ hN3
  obtain ⟨x',ex,rfl⟩:=map_at hx
  obtain ⟨y',ey,rfl⟩:=map_at hy
  obtain ⟨z',ez,rfl⟩:=map_at hz
  have hk:k < xs.length+ds.length:=by rw [← rinW_len wd]; exact (qB.mp ex).1
  obtain ⟨b0,b1,b2⟩:=sure_all w1 hV hk
  rw [getD_of ex,getD_of ey,getD_of ez] at b2
  rw [getD_of ez] at b0 b1
  have sT:=same_new hT (.tup [V.int x',V.int y',V.int z'])
  have eT:upd H' T0 (.tup [V.int x',V.int y',V.int z']) T0=some (.tup [V.int x',V.int y',V.int z']):=upd_same
  generalize upd H' T0 (.tup [V.int x',V.int y',V.int z'])=H'' at sT eT ⊢
  (iterate 5 ((try (walk_at "WP")); (try (simp only [eT,qJs,qJt,qJl,qJd,exists_eq_left',exists_eq_left])))); (try (walk_at "WP"))
  have p0:=pow_pos2 z'.toNat
  refine ⟨⟨b0,by omega⟩,?_⟩
  rw [Int.one_mul]
  refine ⟨p0,?_⟩
  rw [if_neg (by rw [Decidable.not_not]; exact Int.emod_eq_zero_of_dvd b2)]
  exact hN3 _ _ ⟨_,_,_,rfl,s'.trans sT⟩
 ·rintro σ H' ⟨_,_,_,rfl,s'⟩
  try walk_at "WP"
  exact q _ (s6.trans s')
end
section
variable {P:Program}{w:World}{K:PySem.W.Frag}{mg:Str -> Option Value}{base:Heap}
theorem ok_beh59 (T:Txt K mg):Cal P w K mg base 6 "_law_behind_right" ["_law_one","_law_other","_law_width","_law_values","_law_down_here"] spBeh59:=by
 have B:=T.bl
 have C_behind:=(ok_behE (P:=P) (w:=w) (base:=base) T).mono (k:=5) (by decide)
 have C_run_outs:=(ok_runoK (P:=P) (w:=w) (base:=base) T).mono (k:=5) (by decide)
 have C_outs_in:=(ok_outsinK (P:=P) (w:=w) (base:=base) T).mono (k:=5) (by decide)
 refine mkCal T.t_l_behind_right sc_l_behind_right (fun vs H Q E h=>?_) (fun f cdv A outer s H vs Q E hr h=>?_)
 ·obtain ⟨_,_,_,_,_,_,_,_,_,_,_,_,_,_,_,_,_,_,_,rfl,_⟩:=h
  rfl
 obtain ⟨x,y,v,d1,g1,d2,g2,m,u1,u2,s1,s2,o1,o2,t1,t2,xs,wd,db,rfl,W1,W2,F1,F2,tm,q1,q2,hv,hxb,w1,w2,low,q⟩:=h
 have i12:=F1.ok.i2
 have m12:=F2.ok.i2
 have h60:s1.length+s2.length <= 60:=by omega
 obtain ⟨V1,G1,E1⟩:=beh_run F1 F2 tm h60 rfl hxb
 obtain ⟨V2,G2⟩:=beh_run2 F1 F2 tm rfl hxb
 have FB:=beh_fw F1 F2 tm h60
 have yl:(ysW xs s1 t1).length=m:=by rw [ys_len,tm]
 have hV:=F1.vok (xs:=xs) rfl hxb
 have G0:∀ g ∈ t1,g.th < xs.length+s1.length /\ Sh14 g.sh ((valsW xs s1).getD g.th 0) /\ (g.sg=0 \/ g.sg=1 \/ g.sg = -1):=fun g hg=>by
  have P:=F1.pts (xs:=xs) rfl g hg
  refine ⟨P.th,?_,F1.sg g hg⟩
  rcases F1.f4.go g hg with z | z
  ·rw [z]; exact ⟨by decide,by decide,fun y=>absurd y (by decide)⟩
  ·exact ⟨z.2.1,z.2.2.1,P.ex⟩
 refine ⟨_,((@pss_cons _ _ _ _ _ (@ps_set _ _ (5) _ _ _ _ sc_l_behind_right.nd rfl (by walk_at "o") (@pe_cal _ _ _ _ _ _ _ _ _ _ C_behind hr rfl (@pa_cons _ _ _ _ _ (pv 0) (@pa_cons _ _ _ _ _ (pv 1) pa_nil (by rfl)) (by rfl)) (by decide) (by rfl) (by rfl)) (by rfl) (by walk_at "o")) (@pss_cons _ _ _ _ _ (@ps_if _ _ _ _ _ _ _ _ (@pt_cmpR _ _ _ _ _ _ _ _ (@op_neD _ _ hr) (@pe_cal _ _ _ _ _ _ _ _ _ _ C_run_outs hr rfl (@pa_cons _ _ _ _ _ (pv 5) (@pa_cons _ _ _ _ _ (@pe_callTy _ _ _ _ _ _ _ _ _ call_list_of rfl B.list bo_list (@pa_cons _ _ _ _ _ (pv 3) pa_nil (by rfl)) (by decide) (by decide) (by rfl) (by rfl)) pa_nil (by rfl)) (by rfl)) (by decide) (by rfl) (by rfl)) (@pe_cal _ _ _ _ _ _ _ _ _ _ C_run_outs hr rfl (@pa_cons _ _ _ _ _ (pv 1) (@pa_cons _ _ _ _ _ (@pe_cal _ _ _ _ _ _ _ _ _ _ C_run_outs hr rfl (@pa_cons _ _ _ _ _ (pv 0) (@pa_cons _ _ _ _ _ (@pe_callTy _ _ _ _ _ _ _ _ _ call_list_of rfl B.list bo_list (@pa_cons _ _ _ _ _ (pv 3) pa_nil (by rfl)) (by decide) (by decide) (by rfl) (by rfl)) pa_nil (by rfl)) (by rfl)) (by decide) (by rfl) (by rfl)) pa_nil (by rfl)) (by rfl)) (by decide) (by rfl) (by rfl)) (@nomark _ _ (by decide) (by decide))) (@pss_one _ _ _ (@ps_ret _ _ _ _ pe_bl)) pss_nil) (@pss_cons _ _ _ _ _ (@ps_set _ _ (6) _ _ _ _ sc_l_behind_right.nd rfl (by walk_at "o") (@pe_cal _ _ _ _ _ _ _ _ _ _ C_outs_in hr rfl (@pa_cons _ _ _ _ _ (pv 1) (@pa_cons _ _ _ _ _ (pv 2) (@pa_cons _ _ _ _ _ (@pe_cal _ _ _ _ _ _ _ _ _ _ C_outs_in hr rfl (@pa_cons _ _ _ _ _ (pv 0) (@pa_cons _ _ _ _ _ (pv 2) (@pa_cons _ _ _ _ _ (@pe_callTy _ _ _ _ _ _ _ _ _ call_list_of rfl B.list bo_list (@pa_cons _ _ _ _ _ (pv 3) pa_nil (by rfl)) (by decide) (by decide) (by rfl) (by rfl)) pa_nil (by rfl)) (by rfl)) (by rfl)) (by decide) (by rfl) (by rfl)) pa_nil (by rfl)) (by rfl)) (by rfl)) (by decide) (by rfl) (by rfl)) (by rfl) (by walk_at "o")) (@pss_one _ _ _ (@ps_ret _ _ _ _ (@pe_or _ _ _ _ _ _ _ (pv 4) (@pe_one _ _ _ _ _ (@pe_cmpR _ _ _ _ _ _ _ _ (@op_eqD _ _ hr) (@pe_cal _ _ _ _ _ _ _ _ _ _ C_outs_in hr rfl (@pa_cons _ _ _ _ _ (pv 5) (@pa_cons _ _ _ _ _ (pv 2) (@pa_cons _ _ _ _ _ (@pe_callTy _ _ _ _ _ _ _ _ _ call_list_of rfl B.list bo_list (@pa_cons _ _ _ _ _ (pv 3) pa_nil (by rfl)) (by decide) (by decide) (by rfl) (by rfl)) pa_nil (by rfl)) (by rfl)) (by rfl)) (by decide) (by rfl) (by rfl)) (pv 6) (@nomark _ _ (by decide) (by decide))))))))))),?_⟩
 rw [show start ["_law_one","_law_other","_law_width","_law_values","_law_down_here","_law_long","_law_after"] [.ref x,.ref y,.int wd,.ref v,.bl db]=[some (.ref x),some (.ref y),some (.int wd),some (.ref v),some (.bl db),none,none] from rfl]
 try walk_at "WP"
 refine ⟨x,y,d1,g1,d2,g2,xs.length,m,u1,u2,s1,s2,o1,o2,t1,t2,rfl,W1,W2,F2.ok,tm,by omega,F2.sg,fun f0 d3 g3 as bs H1 nf nd3 ng3 dg e1 F8=>?_⟩
 try walk_at "WP"
 refine ⟨_,.inl (SqL.of (e1 _ _ hv)),fun v1 n1=>?_⟩
 have e2':=same_new n1 (.lst (xs.map V.int))
 have e2:=e1.trans e2'
 have k1:upd H1 v1 (.lst (xs.map V.int)) v1=some (.lst (xs.map V.int)):=upd_same
 have F8:=F8.same e2'
 generalize upd H1 v1 (.lst (xs.map V.int))=H2 at e2 k1 F8 ⊢
 refine ⟨f0,v1,d3,g3,as,_,bs,_,xs,rfl,F8,k1,V1,FB.ok.gl,G1,fun r1 H3 nr1 e3' hr1=>?_⟩
 have e3:=e2.trans e3'
 have F8:=F8.same e3'
 try walk_at "WP"
 refine ⟨_,.inl (SqL.of (e3 _ _ hv)),fun v2 n2=>?_⟩
 have e4':=same_new n2 (.lst (xs.map V.int))
 have e4:=e3.trans e4'
 have k2:upd H3 v2 (.lst (xs.map V.int)) v2=some (.lst (xs.map V.int)):=upd_same
 have F8:=F8.same e4'
 have hr1:=e4' _ _ hr1
 generalize upd H3 v2 (.lst (xs.map V.int))=H4 at e4 k2 F8 hr1 ⊢
 refine ⟨x,v2,d1,g1,u1,s1,o1,t1,xs,rfl,(W1.same e4).wk,k2,hV.v4,F1.ok.gl,G0,fun r2 H5 nr2 e5' hr2=>?_⟩
 have e5:=e4.trans e5'
 have F8:=F8.same e5'
 have hr1:=e5' _ _ hr1
 try walk_at "WP"
 refine ⟨y,r2,d2,g2,u2,s2,o2,t2,ysW xs s1 t1,rfl,by rw [yl]; exact (W2.same e5).wk,hr2,V2,F2.ok.gl,G2,fun r3 H6 nr3 e6' hr3=>?_⟩
 have e6:=e5.trans e6'
 have F8:=F8.same e6'
 have hr1:=e6' _ _ hr1
 have E1':=E1
 unfold behO behD at E1'
 rw [E1'] at hr1
 try walk_at "WP"
 refine neLI (ns:=t2.map (outV (valsW (ysW xs s1 t1) s2))) (ms:=t2.map (outV (valsW (ysW xs s1 t1) s2))) (SqL.of hr1) (SqL.of hr3) ?_
 try walk_at "WP"
 refine ⟨_,.inl (SqL.of (e6 _ _ hv)),fun v3 n3=>?_⟩
 have e7':=same_new n3 (.lst (xs.map V.int))
 have e7:=e6.trans e7'
 have k3:upd H6 v3 (.lst (xs.map V.int)) v3=some (.lst (xs.map V.int)):=upd_same
 have F8:=F8.same e7'
 generalize upd H6 v3 (.lst (xs.map V.int))=H7 at e7 k3 F8 ⊢
 refine ⟨x,v3,d1,g1,u1,s1,o1,t1,xs,wd,rfl,(W1.same e7).wk,k3,F1.f4.dk4,i12,w1,w2,F1.ok.gl,F1.f4.gin,fun r4 H8 nr4 e8' hr4=>?_⟩
 have e8:=e7.trans e8'
 have F8:=F8.same e8'
 have zl:(t1.map (outIn wd (rinW wd xs s1))).length=m:=by rw [qC,tm]
 try walk_at "WP"
 refine ⟨y,r4,d2,g2,u2,s2,o2,t2,t1.map (outIn wd (rinW wd xs s1)),wd,rfl,by rw [zl]; exact (W2.same e8).wk,hr4,by rw [zl]; exact F2.f4.dk4,by rw [zl]; exact m12,w1,w2,F2.ok.gl,by rw [zl]; exact F2.f4.gin,fun r5 H9 nr5 e9' hr5=>?_⟩
 have e9:=e8.trans e9'
 have F8:=F8.same e9'
 try walk_at "WP"
 refine ite2 (fun z=>?_) (fun z=>?_)
 ·exact q _ e9
 ·obtain ⟨l1,l2⟩:=low (by cases db with | true=>exact absurd rfl z | false=>rfl)
  refine ⟨_,.inl (SqL.of (e9 _ _ hv)),fun v4 n4=>?_⟩
  have e10':=same_new n4 (.lst (xs.map V.int))
  have e10:=e9.trans e10'
  have k4:upd H9 v4 (.lst (xs.map V.int)) v4=some (.lst (xs.map V.int)):=upd_same
  have F8:=F8.same e10'
  have hr5:=e10' _ _ hr5
  generalize upd H9 v4 (.lst (xs.map V.int))=H10 at e10 k4 F8 hr5 ⊢
  refine ⟨f0,v4,d3,g3,as,_,bs,_,xs,wd,rfl,F8,k4,FB.dk4,i12,w1,w2,FB.ok.gl,FB.gin,fun r6 H11 nr6 e11' hr6=>?_⟩
  have e11:=e10.trans e11'
  have hr5:=e11' _ _ hr5
  have E2:=beh_in w1 F1 F2 tm h60 rfl hxb l1 l2
  unfold behO behD at E2
  rw [E2] at hr6
  exact eqLI (ns:=t2.map (outIn wd (rinW wd (t1.map (outIn wd (rinW wd xs s1))) s2))) (ms:=t2.map (outIn wd (rinW wd (t1.map (outIn wd (rinW wd xs s1))) s2))) (SqL.of hr6) (SqL.of hr5) (by rw [decide_eq_true rfl]; exact q _ e11)
end
section
variable {P:Program}{w:World}{K:PySem.W.Frag}{mg:Str -> Option Value}{base:Heap}
theorem ok_turn59 (T:Txt K mg):Cal P w K mg base 6 "_law_turned_right" ["_law_web_here","_law_width","_law_values"] spTurn59:=by
 have B:=T.bl
 have C_turned:=ok_turnE (P:=P) (w:=w) (base:=base) T
 have C_out_numbers:=ok_onums (P:=P) (w:=w) (base:=base) T
 have C_wrapped:=(ok_wrapped (P:=P) (w:=w) (base:=base) T).mono (k:=5) (by decide)
 have C_outs_in:=(ok_outsinK (P:=P) (w:=w) (base:=base) T).mono (k:=5) (by decide)
 refine mkCal T.t_l_turned_right sc_l_turned_right (fun vs H Q E h=>?_) (fun f cdv A outer s H vs Q E hr h=>?_)
 ·obtain ⟨_,_,_,_,_,_,_,_,_,_,_,rfl,_⟩:=h
  rfl
 obtain ⟨x,v,dl,gl,ins,us,ds,os,gs,ys,wd,rfl,W,F,d20,gp,low,hv,yl,yb,w1,w2,q⟩:=h
 have i1:=F.ok.i1
 have i12:=F.ok.i2
 have g12:=F.ok.gl
 have TW:=F.tw (by omega) low
 obtain ⟨μ',TW'⟩:=TW.turn gp (by omega)
 have FT:=TW'.fw
 refine ⟨_,((@pss_cons _ _ _ _ _ (@ps_set _ _ (3) _ _ _ _ sc_l_turned_right.nd rfl (by walk_at "o") (@pe_cal _ _ _ _ _ _ _ _ _ _ C_turned hr rfl (@pa_cons _ _ _ _ _ (pv 0) pa_nil (by rfl)) (by decide) (by rfl) (by rfl)) (by rfl) (by walk_at "o")) (@pss_cons _ _ _ _ _ (@ps_set _ _ (4) _ _ _ _ sc_l_turned_right.nd rfl (by walk_at "o") (@pe_lst _ _ _ _ pa_nil) (by rfl) (by walk_at "o")) (@pss_cons _ _ _ _ _ (@ps_for _ _ _ _ _ _ _ _ PassesOwn.never rfl (@pi_range1 _ _ _ _ _ _ rfl B.range (@pa_cons _ _ _ _ _ (@pe_ix _ _ _ _ _ _ _ ix_U (pv 0) pe_int (fun _ _=>rfl)) pa_nil (by rfl)) (by rfl)) (@pg_name _ _ (5) _ sc_l_turned_right.nd rfl (by walk_at "o") (by walk_at "o")) (@pss_cons _ _ _ _ _ (@ps_set _ _ (6) _ _ _ _ sc_l_turned_right.nd rfl (by walk_at "o") (@pe_callB _ _ _ _ _ _ _ _ _ (@call_sum _ rfl) rfl B.sum bo_sum (@pa_cons _ _ _ _ _ (@pe_comp0 _ _ _ _ _ _ _ _ (["_law_told","_law_value_here","_law_i"]) (2) ([5]) _ _ _ rfl (@pi_zip _ _ _ _ _ _ _ _ _ rfl B.zip (@pa_cons _ _ _ _ _ (@pe_cal _ _ _ _ _ _ _ _ _ _ C_out_numbers hr rfl (@pa_cons _ _ _ _ _ (pv 0) pa_nil (by rfl)) (by decide) (by rfl) (by rfl)) (@pa_cons _ _ _ _ _ (pv 2) pa_nil (by rfl)) (by rfl)) (by rfl) (by rfl)) (fun nd C s H fp=>⟨(@pg_tupM _ _ _ _ _ 2 rfl (@pgs_cons _ _ _ _ _ (@pg_name _ _ (0) _ nd rfl (by walk_at "o") (by walk_at "o")) (@pgs_cons _ _ _ _ _ (@pg_name _ _ (1) _ nd rfl (by walk_at "o") (by walk_at "o")) pgs_nil (by rfl)) (by rfl)) (by rfl) (by rfl)),pn_nil,(@pe_op _ _ _ _ _ _ _ _ op_mulB (@pe_ix _ _ _ _ _ _ _ ix_U (pv 0) (pv 2) (fun _ _=>rfl)) (pv 1))⟩) (by decide +kernel) (by first | rfl | decide +kernel) (by first | rfl | decide +kernel) rfl (fun _=>rfl)) pa_nil (by rfl)) (by decide) (by decide) (by rfl) (by rfl)) (by rfl) (by walk_at "o")) (@pss_one _ _ _ (@ps_expr _ _ _ _ (@pe_bm _ _ _ _ _ _ _ _ _ _ _ _ PySem.F.plainAttrs_list PySem.F.slot_list_append PySem.F.type_list_append mt_append (pv 4) (@pa_cons _ _ _ _ _ (@pe_cal _ _ _ _ _ _ _ _ _ _ C_wrapped hr rfl (@pa_cons _ _ _ _ _ (pv 6) (@pa_cons _ _ _ _ _ (pv 1) pa_nil (by rfl)) (by rfl)) (by decide) (by rfl) (by rfl)) pa_nil (by rfl)) (by rfl) (by rfl) (by rfl) (by rfl) (by rfl)) (by rfl)))) (by intro _ ; rfl)) (@pss_one _ _ _ (@ps_ret _ _ _ _ (@pe_cmpR _ _ _ _ _ _ _ _ (@op_eqD _ _ hr) (@pe_cal _ _ _ _ _ _ _ _ _ _ C_outs_in hr rfl (@pa_cons _ _ _ _ _ (pv 3) (@pa_cons _ _ _ _ _ (pv 1) (@pa_cons _ _ _ _ _ (@pe_callTy _ _ _ _ _ _ _ _ _ call_list_of rfl B.list bo_list (@pa_cons _ _ _ _ _ (pv 2) pa_nil (by rfl)) (by decide) (by decide) (by rfl) (by rfl)) pa_nil (by rfl)) (by rfl)) (by rfl)) (by decide) (by rfl) (by rfl)) (pv 4) (@nomark _ _ (by decide) (by decide))))))))),?_⟩
 rw [show start ["_law_web_here","_law_width","_law_values","_law_about","_law_due","_law_i","_law_total"] [.ref x,.int wd,.ref v]=[some (.ref x),some (.int wd),some (.ref v),none,none,none,none] from rfl]
 try walk_at "WP"
 refine ⟨x,dl,gl,ins,us,ds,os,gs,_,_,rfl,W.wk,TW,gp,fun f0 d3 g3 as bs H1 nf nd3 ng3 dg e1 F8=>?_⟩
 try walk_at "WP"
 intro du ndu
 have d3du:d3 ≠ du:=ne_of_none F8.dll ndu
 have g3du:g3 ≠ du:=ne_of_none F8.gll ndu
 have e2':=same_new ndu (.lst [])
 have e2:=e1.trans e2'
 have hdu:upd H1 du (.lst []) du=some (.lst []):=upd_same
 have F8:=F8.same e2'
 have ndu0:=e1.free ndu
 generalize upd H1 du (.lst [])=H2 at e2 hdu F8 ⊢
 have hx2:=e2 _ _ W.tup
 (iterate 5 ((try (walk_at "WP")); (try (simp only [hx2,qJs,qJt,qJl,qJd,exists_eq_left',exists_eq_left])))); (try (walk_at "WP"))
 refine ⟨by omega,by omega,?_⟩
 rw [Int.toNat_natCast]
 have rok:=allR_wd F
 have b9:(2:Nat) ^ 2500 < 2 ^ 9000:=Nat.pow_lt_pow_right (by decide) (by decide)
 have b3:(2:Nat) ^ 300 < 2 ^ 9000:=Nat.pow_lt_pow_right (by decide) (by decide)
 generalize (2:Nat) ^ 2500=big at rok b9
 generalize hb3:(2:Nat) ^ 300=bg3 at yb b3
 refine forR (fun i σ H3=>∃ (o5 o6:Option V),σ = [some (.ref x),some (.int wd),some (.ref v),some (.ref f0),some (.ref du),o5,o6] /\ Same H H3 /\ H3 du=some (.lst (((List.range i).map fun i=>wrI (totT (outsR ins ds gs) ys i) wd).map V.int)) /\ WbK K H3 f0 d3 g3 gs.length as (trnD ins ds gs) bs (trnO ins ds gs)) ⟨_,_,rfl,e2,hdu,F8⟩ ?_ ?_
 ·rintro i σ H3 N hi ⟨o5,o6,rfl,e3,hd3,F8⟩ hN
  try walk_at "WP"
  refine ⟨x,dl,gl,ins,us,ds,os,gs,rfl,W.same e3,F,fun r1 y1 H4 nr1 e4' hr1 ht1=>?_⟩
  have e4:=e3.trans e4'
  have hd4:=e4' _ _ hd3
  have F8:=F8.same e4'
  have l1:y1.length=gs.length:=by rw [ht1.len,qC]
  have hv4:=e4 _ _ hv
  try walk_at "WP"
  refine ⟨r1,v,⟨rfl,rfl⟩,_,SqL.of hr1,_,SqL.of hv4,?_⟩
  refine comp_zip (SqL.of hr1) (SqL.of hv4) (by rw [qC]; omega) (by omega) ((List.zipWith (fun r y=>r.getD i 0 * y) (outsR ins ds gs) ys).map V.int) (by unfold outsR; simp only [qC,List.length_zipWith]; omega) (fun k u y z H' R hu hy hz s' hR=>?_) (fun acc H5 n5 s5 h5=>?_)
  ·rw [show capV [5] [some (V.ref x),some (V.int wd),some (V.ref v),some (V.ref f0),some (V.ref du),some (V.int (0+(i:Int))),o6]=[some (V.int (0+(i:Int)))] from rfl]
   obtain ⟨y',hy',rfl⟩:=map_at hy
   have kl:k < gs.length:=by rw [← l1]; exact (qB.mp hu).1
   have ek:=qA (l:=outsR ins ds gs) (i:=k) (by unfold outsR; rw [qC]; exact kl)
   generalize (outsR ins ds gs)[k]'(by unfold outsR; rw [qC]; exact kl)=r at ek
   obtain ⟨pr,b1,b2⟩:=ht1.at_ k r ek
   rw [hu] at b1
   cases b1
   have b4:=s' _ _ b2
   unfold iT at b4
   obtain ⟨rl,rb⟩:=rok r (qK _ (qE ek))
   have hz':z=V.int (r.getD i 0 * y'):=by
    rw [qI,List.getElem?_zipWith,ek,hy'] at hz
    exact (Option.some.inj hz).symm
   subst hz'
   have ei:=qA (l:=r) (i:=i) (by omega)
   rw [getD_of ei] at hR
   have nb:=rb _ (qE ei)
   have yb':=yb _ (qE hy')
   rw [List.cons_append,List.cons_append,List.nil_append]
   rw [show (0:Int)+(i:Int)=i by omega]
   (iterate 5 ((try (walk_at "WP")); (try (simp only [b4,qJs,qJt,qJl,qJd,exists_eq_left',exists_eq_left])))); (try (walk_at "WP"))
   refine ⟨_,atI_nat (by rw [qI,ei]; rfl),?_⟩
   try walk_at "WP"
   exact ⟨mul_b (Nat.lt_of_le_of_lt nb b9) (Nat.lt_of_le_of_lt yb' b3) (by decide),hR⟩
  ·try walk_at "WP"
   have hd5:=s5 _ _ hd4
   refine ⟨acc,_,rfl,h5,ty_list hd5,_,wd,rfl,w1,by omega,?_⟩
   (iterate 5 ((try (walk_at "WP")); (try (simp only [hd5,qJs,qJt,qJl,qJd,exists_eq_left',exists_eq_left])))); (try (walk_at "WP"))
   refine ⟨by rw [qC,qC,List.length_range]; exact lt_big (by omega),?_⟩
   refine hN _ _ ⟨_,_,rfl,same_upd ndu0 (e4.trans s5),?_,(F8.same s5).chg hd5 d3du g3du (Chg.upd _)⟩
   rw [upd_same,List.range_succ,List.map_append,List.map_append]
   rfl
 ·rintro σ H3 ⟨o5,o6,rfl,e3,hd3,F8⟩
  try walk_at "WP"
  refine ⟨_,.inl (SqL.of (e3 _ _ hv)),fun v1 n1=>?_⟩
  have e4':=same_new n1 (.lst (ys.map V.int))
  have e4:=e3.trans e4'
  have k1:upd H3 v1 (.lst (ys.map V.int)) v1=some (.lst (ys.map V.int)):=upd_same
  have F8:=F8.same e4'
  have hd4:=e4' _ _ hd3
  generalize upd H3 v1 (.lst (ys.map V.int))=H4 at e4 k1 F8 hd4 ⊢
  refine ⟨f0,v1,d3,g3,as,_,bs,_,ys,wd,rfl,by rw [yl]; exact F8,k1,by rw [yl]; exact FT.dk4,by omega,w1,w2,FT.ok.gl,by rw [yl]; exact FT.gin,fun r6 H5 nr6 e5' hr6=>?_⟩
  have e5:=e4.trans e5'
  have hd5:=e5' _ _ hd4
  rw [TW.outin gp (by omega) yl w1] at hr6
  exact eqLI (SqL.of hr6) (SqL.of hd5) (by rw [decide_eq_true rfl]; exact q _ e5)
end
section
variable {P:Program}{w:World}{K:PySem.W.Frag}{mg:Str -> Option Value}{base:Heap}
theorem ok_range59 (T : Txt K mg) : Cal P w K mg base 8 "_law_range_right" ["_law_pen_here", "_law_one", "_law_width"] (spRange59 K) := by
  have B := T.bl
  have C_l_pick := (ok_pick (P := P) (w := w) (base := base) T).mono (k := 7) (by decide)
  have C_range_in := (ok_rangein (P := P) (w := w) (base := base) T).mono (k := 7) (by decide)
  have C_width_for := (ok_widfor (P := P) (w := w) (base := base) T).mono (k := 7) (by decide)
  have C_fits := ok_fits (P := P) (w := w) (base := base) T
  refine mkCal T.t_l_range_right sc_l_range_right (fun vs H Q E h => ?_) (fun f cdv A outer s H vs Q E hr h => ?_)
  · obtain ⟨_, _, _, _, _, _, _, _, _, _, _, _, rfl, _⟩ := h
    rfl
  obtain ⟨p, a, x, dl, gl, ns, c, us, ds, os, gs, wd, rfl, hP, hS, h63, hc, W, dlp, glp, F, d20, w1, w2, q⟩ := h
  have b9 : (2 : Nat) ^ 3000 + 1 < 2 ^ 9000 := Nat.lt_of_le_of_lt (show (2 : Nat) ^ 3000 + 1 ≤ 2 ^ 3001 by rw [Nat.pow_succ]; have := Nat.pow_pos (n := 3000) (show 0 < 2 by decide); omega) (Nat.pow_lt_pow_right (by decide) (by decide))
  have askW : ∀ (H' : Hp) (lo hi : Int) (R : VK) (E' : XK), Wb H' x dl gl 1 us ds os gs → lo.natAbs < 2 ^ 9000 → hi.natAbs < 2 ^ 9000 → (∀ v H'', Same H' H'' → WidIs ds gs lo hi v → R (.int v) H'') → ∀ t, H' t = none → ∀ l, upd H' t (HO.tup [V.int lo, V.int hi]) l = none → spWidFor [V.ref x, V.ref l] (upd (upd H' t (HO.tup [V.int lo, V.int hi])) l (HO.lst [V.ref t])) R E' := fun H' lo hi R E' W' hlo hhi hR t nt l nl => by
    have e1 := same_new nt (.tup [V.int lo, V.int hi])
    have e2 := same_new nl (.lst [V.ref t])
    exact ⟨x, l, dl, gl, us, ds, os, gs, [V.ref t], [(lo, hi)], rfl, W'.same (e1.trans e2), F, upd_same, HTs.snoc (vs := []) (xs := []) hts_nil (x := (lo, hi)) (p := t) (e2 _ _ upd_same), fun q hq => by rw [List.mem_singleton.mp hq]; exact ⟨hlo, hhi⟩, fun v H'' s' h1 h2 => hR v H'' ((e1.trans e2).trans s') (wid_is F h1 h2)⟩
  refine ⟨_, ((@pss_cons _ _ _ _ _ (@ps_asg _ _ _ _ _ _ (@pe_cal _ _ _ _ _ _ _ _ _ _ C_range_in hr rfl (@pa_cons _ _ _ _ _ (pv 1) (@pa_cons _ _ _ _ _ (pv 2) pa_nil (by rfl)) (by rfl)) (by decide) (by rfl) (by rfl)) (@pg_tupM _ _ _ _ _ 2 rfl (@pgs_cons _ _ _ _ _ (@pg_name _ _ (3) _ sc_l_range_right.nd rfl (by walk_at "o") (by walk_at "o")) (@pgs_cons _ _ _ _ _ (@pg_name _ _ (4) _ sc_l_range_right.nd rfl (by walk_at "o") (by walk_at "o")) pgs_nil (by rfl)) (by rfl)) (by rfl) (by rfl)) (by rfl) (by rfl) (by rfl)) (@pss_mid _ _ _ _ _ (@ps_if _ _ _ _ _ _ _ _ (@PW.pt _ _ _ (@pw_or _ _ _ _ _ _ _ (@pt_not _ _ _ _ (@pt_val _ _ _ (@pe_cal _ _ _ _ _ _ _ _ _ _ C_fits hr rfl (@pa_cons _ _ _ _ _ (pv 1) (@pa_cons _ _ _ _ _ (pv 2) (@pa_cons _ _ _ _ _ (@pe_lst _ _ _ _ (@pa_cons _ _ _ _ _ (@pe_tup _ _ _ _ _ (@pa_cons _ _ _ _ _ (pv 3) (@pa_cons _ _ _ _ _ (pv 4) pa_nil (by rfl)) (by rfl))) pa_nil (by rfl))) pa_nil (by rfl)) (by rfl)) (by rfl)) (by decide) (by rfl) (by rfl)) (by intro _ ; rfl))) (@pw_or1 _ _ _ _ (@pt_cmpR _ _ _ _ _ _ _ _ op_gt (@pe_cal _ _ _ _ _ _ _ _ _ _ C_width_for hr rfl (@pa_cons _ _ _ _ _ (pv 1) (@pa_cons _ _ _ _ _ (@pe_lst _ _ _ _ (@pa_cons _ _ _ _ _ (@pe_tup _ _ _ _ _ (@pa_cons _ _ _ _ _ (pv 3) (@pa_cons _ _ _ _ _ (pv 4) pa_nil (by rfl)) (by rfl))) pa_nil (by rfl))) pa_nil (by rfl)) (by rfl)) (by decide) (by rfl) (by rfl)) (pv 2) (@nomark _ _ (by decide) (by decide)))))) (@pss_one _ _ _ (@ps_ret _ _ _ _ pe_bl)) pss_nil) (@pss_mid _ _ _ _ _ (@ps_if _ _ _ _ _ _ _ _ (@PW.pt _ _ _ (@pw_and _ _ _ _ _ _ _ (@pt_cmpR _ _ _ _ _ _ _ _ op_lt (pv 2) pe_int (@nomark _ _ (by decide) (by decide))) (@pw_and1 _ _ _ _ (@pt_cmpR _ _ _ _ _ _ _ _ op_le (@pe_cal _ _ _ _ _ _ _ _ _ _ C_width_for hr rfl (@pa_cons _ _ _ _ _ (pv 1) (@pa_cons _ _ _ _ _ (@pe_lst _ _ _ _ (@pa_cons _ _ _ _ _ (@pe_tup _ _ _ _ _ (@pa_cons _ _ _ _ _ (pv 3) (@pa_cons _ _ _ _ _ (@pe_op _ _ _ _ _ _ _ _ op_add (pv 4) pe_int) pa_nil (by rfl)) (by rfl))) pa_nil (by rfl))) pa_nil (by rfl)) (by rfl)) (by decide) (by rfl) (by rfl)) (pv 2) (@nomark _ _ (by decide) (by decide)))))) (@pss_one _ _ _ (@ps_ret _ _ _ _ pe_bl)) pss_nil) (@pss_cons _ _ _ _ _ (@ps_set _ _ (5) _ _ _ _ sc_l_range_right.nd rfl (by walk_at "o") (@pe_cal _ _ _ _ _ _ _ _ _ _ C_l_pick hr rfl (@pa_cons _ _ _ _ _ (pv 0) (@pa_cons _ _ _ _ _ (@pe_op _ _ _ _ _ _ _ _ op_powB pe_int pe_int) pa_nil (by rfl)) (by rfl)) (by decide) (by rfl) (by rfl)) (by rfl) (by walk_at "o")) (@pss_cons _ _ _ _ _ (@ps_set _ _ (6) _ _ _ _ sc_l_range_right.nd rfl (by walk_at "o") (@pe_cal _ _ _ _ _ _ _ _ _ _ C_width_for hr rfl (@pa_cons _ _ _ _ _ (pv 1) (@pa_cons _ _ _ _ _ (@pe_lst _ _ _ _ (@pa_cons _ _ _ _ _ (@pe_tup _ _ _ _ _ (@pa_cons _ _ _ _ _ (@pe_op _ _ _ _ _ _ _ _ op_sub pe_int (pv 5)) (@pa_cons _ _ _ _ _ (pv 5) pa_nil (by rfl)) (by rfl))) pa_nil (by rfl))) pa_nil (by rfl)) (by rfl)) (by decide) (by rfl) (by rfl)) (by rfl) (by walk_at "o")) (@pss_cons _ _ _ _ _ (@ps_set _ _ (7) _ _ _ _ sc_l_range_right.nd rfl (by walk_at "o") (@pe_cal _ _ _ _ _ _ _ _ _ _ C_range_in hr rfl (@pa_cons _ _ _ _ _ (pv 1) (@pa_cons _ _ _ _ _ (pv 6) pa_nil (by rfl)) (by rfl)) (by decide) (by rfl) (by rfl)) (by rfl) (by walk_at "o")) (@pss_mid _ _ _ _ _ (@ps_if _ _ _ _ _ _ _ _ (@PW.pt _ _ _ (@pw_or _ _ _ _ _ _ _ (@pt_not _ _ _ _ (@pt_cmpR _ _ _ _ _ _ _ _ op_le (@pe_ix _ _ _ _ _ _ _ ix_U (pv 7) pe_int (fun _ _ => rfl)) (@pe_op _ _ _ _ _ _ _ _ op_sub pe_int (pv 5)) (@nomark _ _ (by decide) (by decide)))) (@pw_or1 _ _ _ _ (@pt_not _ _ _ _ (@pt_cmpR _ _ _ _ _ _ _ _ op_ge (@pe_ix _ _ _ _ _ _ _ ix_U (pv 7) pe_int (fun _ _ => rfl)) (pv 5) (@nomark _ _ (by decide) (by decide))))))) (@pss_one _ _ _ (@ps_ret _ _ _ _ pe_bl)) pss_nil) (@pss_cons _ _ _ _ _ (@ps_if _ _ _ _ _ _ _ _ (@pt_cmpR _ _ _ _ _ _ _ _ op_gt (pv 6) pe_int (@nomark _ _ (by decide) (by decide))) (@pss_cons _ _ _ _ _ (@ps_set _ _ (7) _ _ _ _ sc_l_range_right.nd rfl (by walk_at "o") (@pe_cal _ _ _ _ _ _ _ _ _ _ C_range_in hr rfl (@pa_cons _ _ _ _ _ (pv 1) (@pa_cons _ _ _ _ _ (@pe_op _ _ _ _ _ _ _ _ op_sub (pv 6) pe_int) pa_nil (by rfl)) (by rfl)) (by decide) (by rfl) (by rfl)) (by rfl) (by walk_at "o")) (@pss_one _ _ _ (@ps_ret _ _ _ _ (@pe_or _ _ _ _ _ _ _ (@pe_cmpR _ _ _ _ _ _ _ _ op_gt (@pe_ix _ _ _ _ _ _ _ ix_U (pv 7) pe_int (fun _ _ => rfl)) (@pe_op _ _ _ _ _ _ _ _ op_sub pe_int (pv 5)) (@nomark _ _ (by decide) (by decide))) (@pe_one _ _ _ _ _ (@pe_cmpR _ _ _ _ _ _ _ _ op_lt (@pe_ix _ _ _ _ _ _ _ ix_U (pv 7) pe_int (fun _ _ => rfl)) (pv 5) (@nomark _ _ (by decide) (by decide)))))))) pss_nil) (@pss_one _ _ _ (@ps_ret _ _ _ _ pe_bl))))))))))), ?_⟩
  rw [show start ["_law_pen_here", "_law_one", "_law_width", "_law_low", "_law_high", "_law_far", "_law_least_wide", "_law_inner"] [.ref p, .ref x, .int wd] = [some (.ref p), some (.ref x), some (.int wd), none, none, none, none, none] from rfl]
  try walk_at "WP"
  refine ⟨x, dl, gl, us, ds, os, gs, wd, rfl, W, F, w1, w2, fun r lo hi H1 nr s1 hr1 lo0 hi0 lob hib rng => ?_⟩
  (iterate 5 ((try (walk_at "WP")); (try (simp only [hr1, qJs, qJt, qJl, qJd, exists_eq_left', exists_eq_left])))); (try (walk_at "WP"))
  have lo9 : lo.natAbs < 2 ^ 9000 := by omega
  have hi9 : hi.natAbs < 2 ^ 9000 := by omega
  have hi9' : (hi + 1).natAbs < 2 ^ 9000 := by omega
  clear b9 lob hib
  have r1 := (rng lo).mpr ⟨Int.le_refl _, by omega⟩
  have r2 := (rng hi).mpr ⟨by omega, Int.le_refl _⟩
  refine mid_of (fun σ H2 => σ = [some (.ref p), some (.ref x), some (.int wd), some (.int lo), some (.int hi), none, none, none] ∧ Same H H2) (fun N hN => ?_) ?_
  · try walk_at "WP"
    intro t1 nt1 l1 nl1
    have e1 := same_new nt1 (.tup [V.int lo, V.int hi])
    have e2 := same_new nl1 (.lst [V.ref t1])
    have e12 := s1.trans (e1.trans e2)
    refine ⟨x, l1, dl, gl, us, ds, os, gs, [V.ref t1], [(lo, hi)], wd, rfl, w1, W.same e12, F, upd_same, HTs.snoc (vs := []) (xs := []) hts_nil (x := (lo, hi)) (p := t1) (e2 _ _ upd_same), fun q hq => by rw [List.mem_singleton.mp hq]; exact ⟨lo9, hi9⟩, fun b H2 s2' hb => ?_⟩
    have hb' : b = true := hb.mpr ((ends_one F).mpr ⟨r1, r2⟩)
    subst hb'
    have s2 := e12.trans s2'
    try walk_at "WP"
    refine askW _ lo hi _ _ (W.same s2) lo9 hi9 fun v H3 s3' wi => ?_
    have vw := (wi.2 wd w1).mpr ⟨r1, r2⟩
    try walk_at "WP"
    rw [if_neg (by omega)]
    exact hN _ _ ⟨rfl, s2.trans s3'⟩
  rintro σ H2 ⟨rfl, s2⟩
  refine mid_of (fun σ H3 => σ = [some (.ref p), some (.ref x), some (.int wd), some (.int lo), some (.int hi), none, none, none] ∧ Same H H3) (fun N hN => ?_) ?_
  · try walk_at "WP"
    refine ite2 (fun z => ?_) (fun z => hN _ _ ⟨rfl, s2⟩)
    refine askW _ lo (hi + 1) _ _ (W.same s2) lo9 hi9' fun v H3 s3' wi => ?_
    have vw : ¬ v ≤ wd := fun y => by
      have := (rng (hi + 1)).mp ((wi.2 wd w1).mp y).2
      omega
    try walk_at "WP"
    rw [if_neg vw]
    exact hN _ _ ⟨rfl, s2.trans s3'⟩
  rintro σ H3 ⟨rfl, s3⟩
  try walk_at "WP"
  refine pick_ (hP.same s3) (hS.same s3) h63 (by omega) (by decide) (by decide) fun far H4 f0 f1 P4 S4 C4 => ?_
  have CC : Chg p H H4 := s3.chg.trans C4
  obtain ⟨pl, hpl⟩ := hP.lst
  have W4 := W.chg hpl dlp glp CC
  have nfar : (0 - far).natAbs < 2 ^ 100 := by have : (1000000 : Nat) < 2 ^ 100 := by decide
                                               omega
  have pfar : far.natAbs < 2 ^ 100 := by have : (1000000 : Nat) < 2 ^ 100 := by decide
                                         omega
  try walk_at "WP"
  have b1 : (2 : Nat) ^ 100 < 2 ^ 9000 := Nat.pow_lt_pow_right (by decide) (by decide)
  refine askW _ (0 - far) far _ _ W4 (Nat.lt_trans nfar b1) (Nat.lt_trans pfar b1) fun L H5 s5 wi => ?_
  have L1 := wi.1
  have L2 : L ≤ 3000 := (wi.2 3000 (by decide)).mpr ⟨allN_lie F d20 nfar, allN_lie F d20 pfar⟩
  obtain ⟨y1, y2⟩ := (wi.2 L L1).mp (Int.le_refl _)
  have W5 := W4.same s5
  try walk_at "WP"
  refine ⟨x, dl, gl, us, ds, os, gs, L, rfl, W5, F, L1, L2, fun r' lo' hi' H6 nr' s6' hr' lo0' hi0' lob' hib' rng' => ?_⟩
  have s6 := s5.trans s6'
  have z1 := ((rng' _).mp y1).1
  have z2 := ((rng' _).mp y2).2
  clear lob' hib'
  refine mid_of (fun σ H7 => σ = [some (.ref p), some (.ref x), some (.int wd), some (.int lo), some (.int hi), some (.int far), some (.int L), some (.ref r')] ∧ Same H4 H7) (fun N hN => ?_) ?_
  · (iterate 5 ((try (walk_at "WP")); (try (simp only [hr', qJs, qJt, qJl, qJd, exists_eq_left', exists_eq_left])))); (try (walk_at "WP"))
    rw [if_neg (by omega), if_neg (by omega)]
    exact hN _ _ ⟨rfl, s6⟩
  rintro σ H7 ⟨rfl, s7⟩
  have fin : ∀ H', Same H4 H' → Q (.bl true) H' := fun H' s' => q _ (P4.same s') (S4.same s') (CC.trans s'.chg)
  try walk_at "WP"
  refine ite2 (fun z => ?_) (fun z => fin _ s7)
  refine ⟨x, dl, gl, us, ds, os, gs, L - 1, rfl, W4.same s7, F, by omega, by omega, fun r3 lo3 hi3 H8 nr3 s8' hr3 lo03 hi03 lob3 hib3 rng3 => ?_⟩
  clear lob3 hib3
  have s8 := s7.trans s8'
  have ne : 0 - far < lo3 ∨ hi3 < far := by
    by_cases c1 : 0 - far < lo3
    · exact .inl c1
    · refine .inr ?_
      by_cases c2 : hi3 < far
      · exact c2
      · have := (wi.2 (L - 1) (by omega)).mpr ⟨(rng3 _).mpr ⟨by omega, by omega⟩, (rng3 _).mpr ⟨by omega, by omega⟩⟩
        omega
  (iterate 5 ((try (walk_at "WP")); (try (simp only [hr3, qJs, qJt, qJl, qJd, exists_eq_left', exists_eq_left])))); (try (walk_at "WP"))
  refine ite2 (fun z => fin _ s8) (fun z => ?_)
  rw [decide_eq_true (show hi3 < far by omega)]
  exact fin _ s8
end
section
variable {P:Program}{w:World}{K:PySem.W.Frag}{mg:Str -> Option Value}{base:Heap}
theorem wb_pp {H H':Hp}{x dl gl p a:Addr}{ins:Nat}{us:List V}{ds:List Wd}{os:List V}{gs:List Go}{c:Int}(h:Wb H x dl gl ins us ds os gs)(hP:PPen H p a c)(h1:dl ≠ p)(h2:gl ≠ p)(s:Chg p H H'):Wb H' x dl gl ins us ds os gs:=by
 obtain ⟨xs,hp⟩:=hP.lst
 exact h.chg hp h1 h2 s
theorem ok_law (T:Txt K mg) {f:Addr} {fd:FuncData} (F:Fun K "law" "law" s_law f fd):FnOk P w K mg base CX0 20 f fd ["_law_script"] (spLaw K):=by
 have B:=T.bl
 have C_l_pen:=(ok_ppen (P:=P) (w:=w) (base:=base) T).mono (k:=19) (by decide)
 have C_l_pick:=(ok_pick (P:=P) (w:=w) (base:=base) T).mono (k:=19) (by decide)
 have C_l_web:=(ok_web59 (P:=P) (w:=w) (base:=base) T).mono (k:=19) (by decide)
 have C_l_value:=(ok_val59 (P:=P) (w:=w) (base:=base) T).mono (k:=19) (by decide)
 have C_l_sure_right:=(ok_sure59 (P:=P) (w:=w) (base:=base) T).mono (k:=19) (by decide)
 have C_l_behind_right:=(ok_beh59 (P:=P) (w:=w) (base:=base) T).mono (k:=19) (by decide)
 have C_l_range_right:=(ok_range59 (P:=P) (w:=w) (base:=base) T).mono (k:=19) (by decide)
 have C_l_turned_right:=(ok_turn59 (P:=P) (w:=w) (base:=base) T).mono (k:=19) (by decide)
 refine F.ok sc_law (fun vs H Q E h=>?_) (fun cdv A outer s H vs Q E hr h=>?_)
 ·obtain ⟨a,ns,rfl,_⟩:=h
  rfl
 obtain ⟨a,ns,rfl,hS,h63,q⟩:=h
 refine ⟨_,((@pss_cons _ _ _ _ _ (@ps_set _ _ (1) _ _ _ _ sc_law.nd rfl (by walk_at "o") (@pe_cal _ _ _ _ _ _ _ _ _ _ C_l_pen hr rfl (@pa_cons _ _ _ _ _ (pv 0) pa_nil (by rfl)) (by decide) (by rfl) (by rfl)) (by rfl) (by walk_at "o")) (@pss_cons _ _ _ _ _ (@ps_set _ _ (2) _ _ _ _ sc_law.nd rfl (by walk_at "o") (@pe_cmpR _ _ _ _ _ _ _ _ op_eq (@pe_cal _ _ _ _ _ _ _ _ _ _ C_l_pick hr rfl (@pa_cons _ _ _ _ _ (pv 1) (@pa_cons _ _ _ _ _ pe_int pa_nil (by rfl)) (by rfl)) (by decide) (by rfl) (by rfl)) pe_int (@nomark _ _ (by decide) (by decide))) (by rfl) (by walk_at "o")) (@pss_cons _ _ _ _ _ (@ps_set _ _ (3) _ _ _ _ sc_law.nd rfl (by walk_at "o") (@pe_op _ _ _ _ _ _ _ _ op_add pe_int (@pe_cal _ _ _ _ _ _ _ _ _ _ C_l_pick hr rfl (@pa_cons _ _ _ _ _ (pv 1) (@pa_cons _ _ _ _ _ pe_int pa_nil (by rfl)) (by rfl)) (by decide) (by rfl) (by rfl))) (by rfl) (by walk_at "o")) (@pss_cons _ _ _ _ _ (@ps_set _ _ (4) _ _ _ _ sc_law.nd rfl (by walk_at "o") (@pe_cal _ _ _ _ _ _ _ _ _ _ C_l_web hr rfl (@pa_cons _ _ _ _ _ (pv 1) (@pa_cons _ _ _ _ _ (@pe_op _ _ _ _ _ _ _ _ op_add pe_int (@pe_cal _ _ _ _ _ _ _ _ _ _ C_l_pick hr rfl (@pa_cons _ _ _ _ _ (pv 1) (@pa_cons _ _ _ _ _ pe_int pa_nil (by rfl)) (by rfl)) (by decide) (by rfl) (by rfl))) (@pa_cons _ _ _ _ _ (pv 3) (@pa_cons _ _ _ _ _ (pv 2) pa_nil (by rfl)) (by rfl)) (by rfl)) (by rfl)) (by decide) (by rfl) (by rfl)) (by rfl) (by walk_at "o")) (@pss_cons _ _ _ _ _ (@ps_set _ _ (5) _ _ _ _ sc_law.nd rfl (by walk_at "o") (@pe_cal _ _ _ _ _ _ _ _ _ _ C_l_web hr rfl (@pa_cons _ _ _ _ _ (pv 1) (@pa_cons _ _ _ _ _ (pv 3) (@pa_cons _ _ _ _ _ (@pe_op _ _ _ _ _ _ _ _ op_add pe_int (@pe_cal _ _ _ _ _ _ _ _ _ _ C_l_pick hr rfl (@pa_cons _ _ _ _ _ (pv 1) (@pa_cons _ _ _ _ _ pe_int pa_nil (by rfl)) (by rfl)) (by decide) (by rfl) (by rfl))) (@pa_cons _ _ _ _ _ (pv 2) pa_nil (by rfl)) (by rfl)) (by rfl)) (by rfl)) (by decide) (by rfl) (by rfl)) (by rfl) (by walk_at "o")) (@pss_cons _ _ _ _ _ (@ps_for _ _ _ _ _ _ _ _ PassesOwn.never rfl (@pi_range1 _ _ _ _ _ _ rfl B.range (@pa_cons _ _ _ _ _ pe_int pa_nil (by rfl)) (by rfl)) (@pg_name _ _ (6) _ sc_law.nd rfl (by walk_at "o") (by walk_at "o")) (@pss_cons _ _ _ _ _ (@ps_set _ _ (7) _ _ _ _ sc_law.nd rfl (by walk_at "o") (@pe_op _ _ _ _ _ _ _ _ op_add pe_int (@pe_ix _ _ _ _ _ _ _ ix_M (@pe_lst _ _ _ _ (@pa_cons _ _ _ _ _ (@pe_cal _ _ _ _ _ _ _ _ _ _ C_l_pick hr rfl (@pa_cons _ _ _ _ _ (pv 1) (@pa_cons _ _ _ _ _ pe_int pa_nil (by rfl)) (by rfl)) (by decide) (by rfl) (by rfl)) (@pa_cons _ _ _ _ _ (@pe_cal _ _ _ _ _ _ _ _ _ _ C_l_pick hr rfl (@pa_cons _ _ _ _ _ (pv 1) (@pa_cons _ _ _ _ _ pe_int pa_nil (by rfl)) (by rfl)) (by decide) (by rfl) (by rfl)) (@pa_cons _ _ _ _ _ (@pe_cal _ _ _ _ _ _ _ _ _ _ C_l_pick hr rfl (@pa_cons _ _ _ _ _ (pv 1) (@pa_cons _ _ _ _ _ pe_int pa_nil (by rfl)) (by rfl)) (by decide) (by rfl) (by rfl)) pa_nil (by rfl)) (by rfl)) (by rfl))) (@pe_cal _ _ _ _ _ _ _ _ _ _ C_l_pick hr rfl (@pa_cons _ _ _ _ _ (pv 1) (@pa_cons _ _ _ _ _ pe_int pa_nil (by rfl)) (by rfl)) (by decide) (by rfl) (by rfl)) (fun _ _=>rfl))) (by rfl) (by walk_at "o")) (@pss_cons _ _ _ _ _ (@ps_setComp0 _ _ _ _ (8) _ _ _ _ _ _ _ (["_law_j","_law_pen_here","_law_width"]) (1) ([1,7]) _ _ _ rfl (@pi_range1 _ _ _ _ _ _ rfl B.range (@pa_cons _ _ _ _ _ (@pe_ix _ _ _ _ _ _ _ ix_U (pv 4) pe_int (fun _ _=>rfl)) pa_nil (by rfl)) (by rfl)) (fun nd C s H fp=>⟨(@pg_name _ _ (0) _ nd rfl (by walk_at "o") (by walk_at "o")),pn_nil,(@pe_cal _ _ _ _ _ _ _ _ _ _ C_l_value hr rfl (@pa_cons _ _ _ _ _ (pv 1) (@pa_cons _ _ _ _ _ (pv 2) pa_nil (by rfl)) (by rfl)) (by decide) (by rfl) (by rfl))⟩) (by decide +kernel) (by first | rfl | decide +kernel) (by first | rfl | decide +kernel) rfl (fun _=>rfl) sc_law.nd rfl (by walk_at "o") (by walk_at "o") rfl) (@pss_cons _ _ _ _ _ (@ps_if _ _ _ _ _ _ _ _ (@pt_not _ _ _ _ (@pt_val _ _ _ (@pe_cal _ _ _ _ _ _ _ _ _ _ C_l_sure_right hr rfl (@pa_cons _ _ _ _ _ (pv 4) (@pa_cons _ _ _ _ _ (pv 7) (@pa_cons _ _ _ _ _ (pv 8) (@pa_cons _ _ _ _ _ (pv 2) pa_nil (by rfl)) (by rfl)) (by rfl)) (by rfl)) (by decide) (by rfl) (by rfl)) (by intro _ ; rfl))) (@pss_one _ _ _ (@ps_ret _ _ _ _ pe_bl)) pss_nil) (@pss_cons _ _ _ _ _ (@ps_if _ _ _ _ _ _ _ _ (@pt_not _ _ _ _ (@pt_val _ _ _ (@pe_cal _ _ _ _ _ _ _ _ _ _ C_l_behind_right hr rfl (@pa_cons _ _ _ _ _ (pv 4) (@pa_cons _ _ _ _ _ (pv 5) (@pa_cons _ _ _ _ _ (pv 7) (@pa_cons _ _ _ _ _ (pv 8) (@pa_cons _ _ _ _ _ (pv 2) pa_nil (by rfl)) (by rfl)) (by rfl)) (by rfl)) (by rfl)) (by decide) (by rfl) (by rfl)) (by intro _ ; rfl))) (@pss_one _ _ _ (@ps_ret _ _ _ _ pe_bl)) pss_nil) (@pss_mid _ _ _ _ _ (@ps_if _ _ _ _ _ _ _ _ (@PW.pt _ _ _ (@pw_and _ _ _ _ _ _ _ (@pt_cmpR _ _ _ _ _ _ _ _ op_eq (@pe_ix _ _ _ _ _ _ _ ix_U (pv 4) pe_int (fun _ _=>rfl)) pe_int (@nomark _ _ (by decide) (by decide))) (@pw_and1 _ _ _ _ (@pt_not _ _ _ _ (@pt_val _ _ _ (@pe_cal _ _ _ _ _ _ _ _ _ _ C_l_range_right hr rfl (@pa_cons _ _ _ _ _ (pv 1) (@pa_cons _ _ _ _ _ (pv 4) (@pa_cons _ _ _ _ _ (pv 7) pa_nil (by rfl)) (by rfl)) (by rfl)) (by decide) (by rfl) (by rfl)) (by intro _ ; rfl)))))) (@pss_one _ _ _ (@ps_ret _ _ _ _ pe_bl)) pss_nil) (@pss_cons _ _ _ _ _ (@ps_setComp0 _ _ _ _ (9) _ _ _ _ _ _ _ (["_law_j","_law_pen_here","_law_width"]) (1) ([1,7]) _ _ _ rfl (@pi_range1 _ _ _ _ _ _ rfl B.range (@pa_cons _ _ _ _ _ (pv 3) pa_nil (by rfl)) (by rfl)) (fun nd C s H fp=>⟨(@pg_name _ _ (0) _ nd rfl (by walk_at "o") (by walk_at "o")),pn_nil,(@pe_cal _ _ _ _ _ _ _ _ _ _ C_l_value hr rfl (@pa_cons _ _ _ _ _ (pv 1) (@pa_cons _ _ _ _ _ (pv 2) pa_nil (by rfl)) (by rfl)) (by decide) (by rfl) (by rfl))⟩) (by decide +kernel) (by first | rfl | decide +kernel) (by first | rfl | decide +kernel) rfl (fun _=>rfl) sc_law.nd rfl (by walk_at "o") (by walk_at "o") rfl) (@pss_one _ _ _ (@ps_if _ _ _ _ _ _ _ _ (@PW.pt _ _ _ (@pw_and _ _ _ _ _ _ _ (@pt_not _ _ _ _ (@pt_val _ _ _ (pv 2) (by intro _ ; rfl))) (@pw_and1 _ _ _ _ (@pt_not _ _ _ _ (@pt_val _ _ _ (@pe_cal _ _ _ _ _ _ _ _ _ _ C_l_turned_right hr rfl (@pa_cons _ _ _ _ _ (pv 4) (@pa_cons _ _ _ _ _ (pv 7) (@pa_cons _ _ _ _ _ (pv 9) pa_nil (by rfl)) (by rfl)) (by rfl)) (by decide) (by rfl) (by rfl)) (by intro _ ; rfl)))))) (@pss_one _ _ _ (@ps_ret _ _ _ _ pe_bl)) pss_nil)))))))) (by intro _ ; rfl)) (@pss_one _ _ _ (@ps_ret _ _ _ _ pe_bl))))))))),?_⟩
 rw [show start ["_law_script","_law_pen_here","_law_down_here","_law_middle","_law_one","_law_other","_law_k","_law_width","_law_values","_law_more"] [.ref a]=[some (.ref a),none,none,none,none,none,none,none,none,none] from rfl]
 try walk_at "WP"
 refine ⟨a,rfl,fun p H1 hp sm1 P1=>?_⟩
 try walk_at "WP"
 refine pick_ P1 (hS.same sm1) h63 (by omega) (by decide) (by decide) fun r1 H2 r10 r11 P2 S2 C2=>?_
 try walk_at "WP"
 generalize hdb:decide (r1=0)=db
 refine pick_ P2 S2 h63 (by omega) (by decide) (by decide) fun r2 H3 r20 r21 P3 S3 C3=>?_
 try walk_at "WP"
 obtain ⟨m,hm,m1,m3⟩:∃ m:Nat,1+r2=m /\ 1 <= m /\ m <= 3:=⟨(1+r2).toNat,by omega,by omega,by omega⟩
 rw [hm]
 refine pick_ P3 S3 h63 (by omega) (by decide) (by decide) fun r3 H4 r30 r31 P4 S4 C4=>?_
 try walk_at "WP"
 obtain ⟨ins,hins,i1,i3⟩:∃ ins:Nat,1+r3=ins /\ 1 <= ins /\ ins <= 2:=⟨(1+r3).toNat,by omega,by omega,by omega⟩
 rw [hins]
 refine ⟨p,a,ns,_,ins,m,db,rfl,P4,S4,h63,by omega,i1,by omega,by omega,fun x d1 g1 u1 s1 o1 t1 H5 nx nd1 ng1 W1 F1 q1 tm1 low1 P5 S5 C5=>?_⟩
 have dp1:=P4.ne nd1
 have gp1:=P4.ne ng1
 try walk_at "WP"
 refine pick_ P5 S5 h63 (by omega) (by decide) (by decide) fun r4 H6 r40 r41 P6 S6 C6=>?_
 have W1:=wb_pp W1 P5 dp1 gp1 C6
 try walk_at "WP"
 obtain ⟨n2,hn2,n21,n23⟩:∃ n:Nat,1+r4=n /\ 1 <= n /\ n <= 3:=⟨(1+r4).toNat,by omega,by omega,by omega⟩
 rw [hn2]
 refine ⟨p,a,ns,_,m,n2,db,rfl,P6,S6,h63,by omega,m1,by omega,by omega,fun y d2 g2 u2 s2 o2 t2 H7 ny nd2 ng2 W2 F2 q2 tm2 low2 P7 S7 C7=>?_⟩
 have dp2:=P6.ne nd2
 have gp2:=P6.ne ng2
 have W1:=wb_pp W1 P6 dp1 gp1 C7
 try walk_at "WP"
 refine forR (fun i σ H'=>∃ (o6 o7 o8 o9:Option V),σ = [some (.ref a),some (.ref p),some (.bl db),some (.int m),some (.ref x),some (.ref y),o6,o7,o8,o9] /\ Wb H' x d1 g1 ins u1 s1 o1 t1 /\ Wb H' y d2 g2 m u2 s2 o2 t2 /\ PPen H' p a (300000+1000 * i) /\ Scr K H' a ns) ⟨_,_,_,_,rfl,W1,W2,P7.mono (by omega),S7⟩ ?_ ?_
 ·rintro i σ H8 N hi ⟨o6,o7,o8,o9,rfl,W1,W2,P8,S8⟩ hN
  try walk_at "WP"
  refine pick_ P8 S8 h63 (by omega) (by decide) (by decide) fun k1 H9 k10 k11 P9 S9 C9=>?_
  try walk_at "WP"
  refine pick_ P9 S9 h63 (by omega) (by decide) (by decide) fun k2 H10 k20 k21 P10 S10 C10=>?_
  try walk_at "WP"
  refine pick_ P10 S10 h63 (by omega) (by decide) (by decide) fun k3 H11 k30 k31 P11 S11 C11=>?_
  try walk_at "WP"
  intro e2 he2
  have se2:=same_new he2 (.lst [V.int k1,V.int k2,V.int k3])
  refine pick_ (P11.same se2) (S11.same se2) h63 (by omega) (by decide) (by decide) fun k4 H12 k40 k41 P12 S12 C12=>?_
  have hH12:=C12 e2 _ (P11.ne he2) upd_same
  have CC:Chg p H8 H12:=((((C9.trans C10).trans C11).trans se2.chg).trans C12)
  have W1:=wb_pp W1 P8 dp1 gp1 CC
  have W2:=wb_pp W2 P8 dp2 gp2 CC
  have hat:∃ u:Int,atI [V.int k1,V.int k2,V.int k3] k4=some (.int u) /\ 0 <= u /\ u <= 2999:=by
   have three:k4=0 \/ k4=1 \/ k4=2:=by omega
   rcases three with z | z | z <;> subst z
   ·exact ⟨k1,rfl,by omega,by omega⟩
   ·exact ⟨k2,rfl,by omega,by omega⟩
   ·exact ⟨k3,rfl,by omega,by omega⟩
  obtain ⟨u,hu,u0,u1'⟩:=hat
  have t12:=W1.tup
  (iterate 5 ((try (walk_at "WP")); (try (simp only [hH12,qJs,qJt,qJl,qJd,exists_eq_left',exists_eq_left])))); (try (walk_at "WP"))
  refine ⟨_,hu,?_⟩
  (iterate 5 ((try (walk_at "WP")); (try (simp only [t12,qJs,qJt,qJl,qJd,exists_eq_left',exists_eq_left])))); (try (walk_at "WP"))
  have w1:1 <= 1+u:=by omega
  have w2:1+u <= 3000:=by omega
  generalize 1+u=wd at w1 w2 ⊢
  refine ⟨by omega,by omega,?_⟩
  rw [Int.toNat_natCast]
  refine comp_penI (c:=300000+1000 * i+1+1+1+1) (d:=10) (by omega) P12 S12 (fun x=>x.natAbs <= 2 ^ 300) (fun j H' R hj Pj Sj Cj hR=>?_) (fun v xs H13 nv hxl hxb hv P13 S13 C13=>?_)
  ·rw [show capV [1,7] [some (V.ref a),some (V.ref p),some (V.bl db),some (V.int (m:Int)),some (V.ref x),some (V.ref y),some (V.int (0+(i:Int))),some (V.int wd),o8,o9]=[some (V.ref p),some (V.int wd)] from rfl]
   try walk_at "WP"
   exact ⟨p,a,ns,_,wd,rfl,Pj,Sj,h63,by omega,w1,w2,fun x H5 hx P5 S5 C5=>hR x H5 hx P5 S5 C5⟩
  have W1:=wb_pp W1 P12 dp1 gp1 C13
  have W2:=wb_pp W2 P12 dp2 gp2 C13
  try walk_at "WP"
  refine ⟨x,v,d1,g1,u1,s1,o1,t1,xs,wd,db,rfl,by rw [hxl]; exact W1,by rw [hxl]; exact F1,hv,hxb,w1,w2,low1,fun H14 e14=>?_⟩
  try walk_at "WP"
  refine ⟨x,y,v,d1,g1,d2,g2,m,u1,u2,s1,s2,o1,o2,t1,t2,xs,wd,db,rfl,by rw [hxl]; exact W1.same e14,W2.same e14,by rw [hxl]; exact F1,F2,tm1,q1,q2,e14 _ _ hv,hxb,w1,w2,fun z=>⟨low1 z,low2 z⟩,fun H15 e15'=>?_⟩
  have e15:=e14.trans e15'
  have W1:=W1.same e15
  have W2:=W2.same e15
  have P15:=P13.same e15
  have S15:=S13.same e15
  try walk_at "WP"
  clear hv
  refine mid_of (fun σ H'=>σ = [some (.ref a),some (.ref p),some (.bl db),some (.int m),some (.ref x),some (.ref y),some (V.int (0+(i:Int))),some (V.int wd),some (.ref v),o9] /\ Wb H' x d1 g1 ins u1 s1 o1 t1 /\ Wb H' y d2 g2 m u2 s2 o2 t2 /\ PPen H' p a (300000+1000 * i+100) /\ Scr K H' a ns) (fun N2 hN2=>?_) ?_
  ·have t15:=W1.tup
   (iterate 5 ((try (walk_at "WP")); (try (simp only [t15,qJs,qJt,qJl,qJd,exists_eq_left',exists_eq_left])))); (try (walk_at "WP"))
   refine ite2 (fun z=>?_) (fun z=>hN2 _ _ ⟨rfl,W1,W2,P15.mono (by omega),S15⟩)
   have i1':ins=1:=by omega
   refine ⟨p,a,x,d1,g1,ns,_,u1,s1,o1,t1,wd,rfl,P15,S15,h63,by omega,by rw [← i1']; exact W1,dp1,gp1,by rw [← i1']; exact F1,q1,w1,w2,fun H16 P16 S16 C16=>?_⟩
   try walk_at "WP"
   exact hN2 _ _ ⟨rfl,wb_pp W1 P15 dp1 gp1 C16,wb_pp W2 P15 dp2 gp2 C16,P16.mono (by omega),S16⟩
  rintro σ H16 ⟨rfl,W1,W2,P16,S16⟩
  try walk_at "WP"
  refine ⟨by omega,by omega,?_⟩
  rw [Int.toNat_natCast]
  refine comp_penI (c:=300000+1000 * i+100) (d:=10) (by omega) P16 S16 (fun x=>x.natAbs <= 2 ^ 300) (fun j H' R hj Pj Sj Cj hR=>?_) (fun v2 ys H17 nv2 hyl hyb hv2 P17 S17 C17=>?_)
  ·rw [show capV [1,7] [some (V.ref a),some (V.ref p),some (V.bl db),some (V.int (m:Int)),some (V.ref x),some (V.ref y),some (V.int (0+(i:Int))),some (V.int wd),some (V.ref v),o9]=[some (V.ref p),some (V.int wd)] from rfl]
   try walk_at "WP"
   exact ⟨p,a,ns,_,wd,rfl,Pj,Sj,h63,by omega,w1,w2,fun x H5 hx P5 S5 C5=>hR x H5 hx P5 S5 C5⟩
  have W1:=wb_pp W1 P16 dp1 gp1 C17
  have W2:=wb_pp W2 P16 dp2 gp2 C17
  try walk_at "WP"
  refine ite2 (fun z=>?_) (fun z=>hN _ _ ⟨_,_,_,_,rfl,W1,W2,P17.mono (by omega),S17⟩)
  refine ⟨x,v2,d1,g1,ins,u1,s1,o1,t1,ys,wd,rfl,W1,F1,q1,by omega,low1 z,hv2,by omega,hyb,w1,w2,fun H18 e18=>?_⟩
  try walk_at "WP"
  exact hN _ _ ⟨_,_,_,_,rfl,W1.same e18,W2.same e18,(P17.same e18).mono (by omega),S17.same e18⟩
 ·rintro σ H8 ⟨o6,o7,o8,o9,rfl,W1,W2,P8,S8⟩
  try walk_at "WP"
  exact q _
end
theorem ln1 {α:Type}{us:List α}(h:us.length=1):∃ a0,us=[a0]:=match us,h with | [a0],_=>⟨a0,rfl⟩
theorem ln2 {α:Type}{us:List α}(h:us.length=2):∃ a0 a1,us=[a0,a1]:=match us,h with | [a0,a1],_=>⟨a0,a1,rfl⟩
theorem ln3 {α:Type}{us:List α}(h:us.length=3):∃ a0 a1 a2,us=[a0,a1,a2]:=match us,h with | [a0,a1,a2],_=>⟨a0,a1,a2,rfl⟩
theorem ln4 {α:Type}{us:List α}(h:us.length=4):∃ a0 a1 a2 a3,us=[a0,a1,a2,a3]:=match us,h with | [a0,a1,a2,a3],_=>⟨a0,a1,a2,a3,rfl⟩
theorem ln5 {α:Type}{us:List α}(h:us.length=5):∃ a0 a1 a2 a3 a4,us=[a0,a1,a2,a3,a4]:=match us,h with | [a0,a1,a2,a3,a4],_=>⟨a0,a1,a2,a3,a4,rfl⟩
theorem all_mk {l:PySem.W.OpenLaw} {w:World} {K:PySem.W.Frag} {h:Heap} {mg:Str -> Option Value} {fa:Addr} (X:K.In h) (G:h.Ns mainGlobals mg) (hfa:mg "law" = some (.ref fa))
  {f1:Addr} {od1 an1:Option Addr} {sl1:Array (Option Value)} {oc1 kV1 dc1 pm1 cd1 ct1:Value} {f2:Addr} {od2 an2:Option Addr} {sl2:Array (Option Value)} {oc2 kV2 dc2 pm2 cd2 ct2:Value} {f3:Addr} {od3 an3:Option Addr} {sl3:Array (Option Value)} {oc3 kV3 dc3 pm3 cd3 ct3:Value} {f4:Addr} {od4 an4:Option Addr} {sl4:Array (Option Value)} {oc4 kV4 dc4 pm4 cd4 ct4:Value} {f5:Addr} {od5 an5:Option Addr} {sl5:Array (Option Value)} {oc5 kV5 dc5 pm5 cd5 ct5:Value} {f6:Addr} {od6 an6:Option Addr} {sl6:Array (Option Value)} {oc6 kV6 dc6 pm6 cd6 ct6:Value} {f7:Addr} {od7 an7:Option Addr} {sl7:Array (Option Value)} {oc7 kV7 dc7 pm7 cd7 ct7:Value} {f8:Addr} {od8 an8:Option Addr} {sl8:Array (Option Value)} {oc8 kV8 dc8 pm8 cd8 ct8:Value} {f9:Addr} {od9 an9:Option Addr} {sl9:Array (Option Value)} {oc9 kV9 dc9 pm9 cd9 ct9:Value} {f10:Addr} {od10 an10:Option Addr} {sl10:Array (Option Value)} {oc10 kV10 dc10 pm10 cd10 ct10:Value} {f11:Addr} {od11 an11:Option Addr} {sl11:Array (Option Value)} {oc11 kV11 dc11 pm11 cd11 ct11:Value} {f12:Addr} {od12 an12:Option Addr} {sl12:Array (Option Value)} {oc12 kV12 dc12 pm12 cd12 ct12:Value} {f13:Addr} {od13 an13:Option Addr} {sl13:Array (Option Value)} {oc13 kV13 dc13 pm13 cd13 ct13:Value} {f14:Addr} {od14 an14:Option Addr} {sl14:Array (Option Value)} {oc14 kV14 dc14 pm14 cd14 ct14:Value} {f15:Addr} {od15 an15:Option Addr} {sl15:Array (Option Value)} {oc15 kV15 dc15 pm15 cd15 ct15:Value} {f16:Addr} {od16 an16:Option Addr} {sl16:Array (Option Value)} {oc16 kV16 dc16 pm16 cd16 ct16:Value} {f17:Addr} {od17 an17:Option Addr} {sl17:Array (Option Value)} {oc17 kV17 dc17 pm17 cd17 ct17:Value} {f18:Addr} {od18 an18:Option Addr} {sl18:Array (Option Value)} {oc18 kV18 dc18 pm18 cd18 ct18:Value} {f19:Addr} {od19 an19:Option Addr} {sl19:Array (Option Value)} {oc19 kV19 dc19 pm19 cd19 ct19:Value} {f20:Addr} {od20 an20:Option Addr} {sl20:Array (Option Value)} {oc20 kV20 dc20 pm20 cd20 ct20:Value} {f21:Addr} {od21 an21:Option Addr} {sl21:Array (Option Value)} {oc21 kV21 dc21 pm21 cd21 ct21:Value} {f22:Addr} {od22 an22:Option Addr} {sl22:Array (Option Value)} {oc22 kV22 dc22 pm22 cd22 ct22:Value} {f23:Addr} {od23 an23:Option Addr} {sl23:Array (Option Value)} {oc23 kV23 dc23 pm23 cd23 ct23:Value} {f24:Addr} {od24 an24:Option Addr} {sl24:Array (Option Value)} {oc24 kV24 dc24 pm24 cd24 ct24:Value} {f25:Addr} {od25 an25:Option Addr} {sl25:Array (Option Value)} {oc25 kV25 dc25 pm25 cd25 ct25:Value} {f26:Addr} {od26 an26:Option Addr} {sl26:Array (Option Value)} {oc26 kV26 dc26 pm26 cd26 ct26:Value} {f27:Addr} {od27 an27:Option Addr} {sl27:Array (Option Value)} {oc27 kV27 dc27 pm27 cd27 ct27:Value} {f28:Addr} {od28 an28:Option Addr} {sl28:Array (Option Value)} {oc28 kV28 dc28 pm28 cd28 ct28:Value} {f29:Addr} {od29 an29:Option Addr} {sl29:Array (Option Value)} {oc29 kV29 dc29 pm29 cd29 ct29:Value} {f30:Addr} {od30 an30:Option Addr} {sl30:Array (Option Value)} {oc30 kV30 dc30 pm30 cd30 ct30:Value} {f31:Addr} {od31 an31:Option Addr} {sl31:Array (Option Value)} {oc31 kV31 dc31 pm31 cd31 ct31:Value} {f32:Addr} {od32 an32:Option Addr} {sl32:Array (Option Value)} {oc32 kV32 dc32 pm32 cd32 ct32:Value} {f33:Addr} {od33 an33:Option Addr} {sl33:Array (Option Value)} {oc33 kV33 dc33 pm33 cd33 ct33:Value} {f34:Addr} {od34 an34:Option Addr} {sl34:Array (Option Value)} {oc34 kV34 dc34 pm34 cd34 ct34:Value} {f35:Addr} {od35 an35:Option Addr} {sl35:Array (Option Value)} {oc35 kV35 dc35 pm35 cd35 ct35:Value} {f36:Addr} {od36 an36:Option Addr} {sl36:Array (Option Value)} {oc36 kV36 dc36 pm36 cd36 ct36:Value} {f37:Addr} {od37 an37:Option Addr} {sl37:Array (Option Value)} {oc37 kV37 dc37 pm37 cd37 ct37:Value} {f38:Addr} {od38 an38:Option Addr} {sl38:Array (Option Value)} {oc38 kV38 dc38 pm38 cd38 ct38:Value} {f39:Addr} {od39 an39:Option Addr} {sl39:Array (Option Value)} {oc39 kV39 dc39 pm39 cd39 ct39:Value} {f40:Addr} {od40 an40:Option Addr} {sl40:Array (Option Value)} {oc40 kV40 dc40 pm40 cd40 ct40:Value} {f41:Addr} {od41 an41:Option Addr} {sl41:Array (Option Value)} {oc41 kV41 dc41 pm41 cd41 ct41:Value} {f42:Addr} {od42 an42:Option Addr} {sl42:Array (Option Value)} {oc42 kV42 dc42 pm42 cd42 ct42:Value} {f43:Addr} {od43 an43:Option Addr} {sl43:Array (Option Value)} {oc43 kV43 dc43 pm43 cd43 ct43:Value} {f44:Addr} {od44 an44:Option Addr} {sl44:Array (Option Value)} {oc44 kV44 dc44 pm44 cd44 ct44:Value} {f45:Addr} {od45 an45:Option Addr} {sl45:Array (Option Value)} {oc45 kV45 dc45 pm45 cd45 ct45:Value} {fc1:Addr} {oe1:Option Addr} {sm1:Array (Option Value)} {nc1:Nat} {ta1 tb1 td1:Tok}
  (a1:PySem.W.nsIn K mainGlobals "shifted" = some (some (.ref f1))) (l1:K.lookup f1=some ⟨oc1,od1,.func (PySem.W.fnOf "shifted" "shifted" (defArgs s_shifted) (defBody s_shifted) (defScope s_shifted) .none kV1 dc1 pm1 an1 cd1 ct1),sl1⟩) (c1:PySem.W.codeIn K cd1 "shifted" = true) (k1:PySem.W.keepIn K (.ref f1)=true)
  (a2:PySem.W.nsIn K mainGlobals "shifted_row" = some (some (.ref f2))) (l2:K.lookup f2=some ⟨oc2,od2,.func (PySem.W.fnOf "shifted_row" "shifted_row" (defArgs s_shifted_row) (defBody s_shifted_row) (defScope s_shifted_row) .none kV2 dc2 pm2 an2 cd2 ct2),sl2⟩) (c2:PySem.W.codeIn K cd2 "shifted_row" = true) (k2:PySem.W.keepIn K (.ref f2)=true)
  (a3:PySem.W.nsIn K mainGlobals "input_rows" = some (some (.ref f3))) (l3:K.lookup f3=some ⟨oc3,od3,.func (PySem.W.fnOf "input_rows" "input_rows" (defArgs s_input_rows) (defBody s_input_rows) (defScope s_input_rows) .none kV3 dc3 pm3 an3 cd3 ct3),sl3⟩) (c3:PySem.W.codeIn K cd3 "input_rows" = true) (k3:PySem.W.keepIn K (.ref f3)=true)
  (a4:PySem.W.nsIn K mainGlobals "input_row" = some (some (.ref f4))) (l4:K.lookup f4=some ⟨oc4,od4,.func (PySem.W.fnOf "input_row" "input_row" (defArgs s_input_row) (defBody s_input_row) (defScope s_input_row) .none kV4 dc4 pm4 an4 cd4 ct4),sl4⟩) (c4:PySem.W.codeIn K cd4 "input_row" = true) (k4:PySem.W.keepIn K (.ref f4)=true)
  (a5:PySem.W.nsIn K mainGlobals "deed_row" = some (some (.ref f5))) (l5:K.lookup f5=some ⟨oc5,od5,.func (PySem.W.fnOf "deed_row" "deed_row" (defArgs s_deed_row) (defBody s_deed_row) (defScope s_deed_row) .none kV5 dc5 pm5 an5 cd5 ct5),sl5⟩) (c5:PySem.W.codeIn K cd5 "deed_row" = true) (k5:PySem.W.keepIn K (.ref f5)=true)
  (a6:PySem.W.nsIn K mainGlobals "second_sign" = some (some (.ref f6))) (l6:K.lookup f6=some ⟨oc6,od6,.func (PySem.W.fnOf "second_sign" "second_sign" (defArgs s_second_sign) (defBody s_second_sign) (defScope s_second_sign) .none kV6 dc6 pm6 an6 cd6 ct6),sl6⟩) (c6:PySem.W.codeIn K cd6 "second_sign" = true) (k6:PySem.W.keepIn K (.ref f6)=true)
  (a7:PySem.W.nsIn K mainGlobals "numbers" = some (some (.ref f7))) (l7:K.lookup f7=some ⟨oc7,od7,.func (PySem.W.fnOf "numbers" "numbers" (defArgs s_numbers) (defBody s_numbers) (defScope s_numbers) .none kV7 dc7 pm7 an7 cd7 ct7),sl7⟩) (c7:PySem.W.codeIn K cd7 "numbers" = true) (k7:PySem.W.keepIn K (.ref f7)=true)
  (a8:PySem.W.nsIn K mainGlobals "out_numbers" = some (some (.ref f8))) (l8:K.lookup f8=some ⟨oc8,od8,.func (PySem.W.fnOf "out_numbers" "out_numbers" (defArgs s_out_numbers) (defBody s_out_numbers) (defScope s_out_numbers) .none kV8 dc8 pm8 an8 cd8 ct8),sl8⟩) (c8:PySem.W.codeIn K cd8 "out_numbers" = true) (k8:PySem.W.keepIn K (.ref f8)=true)
  (a9:PySem.W.nsIn K mainGlobals "out_row" = some (some (.ref f9))) (l9:K.lookup f9=some ⟨oc9,od9,.func (PySem.W.fnOf "out_row" "out_row" (defArgs s_out_row) (defBody s_out_row) (defScope s_out_row) .none kV9 dc9 pm9 an9 cd9 ct9),sl9⟩) (c9:PySem.W.codeIn K cd9 "out_row" = true) (k9:PySem.W.keepIn K (.ref f9)=true)
  (a10:PySem.W.nsIn K mainGlobals "arrows" = some (some (.ref f10))) (l10:K.lookup f10=some ⟨oc10,od10,.func (PySem.W.fnOf "arrows" "arrows" (defArgs s_arrows) (defBody s_arrows) (defScope s_arrows) .none kV10 dc10 pm10 an10 cd10 ct10),sl10⟩) (c10:PySem.W.codeIn K cd10 "arrows" = true) (k10:PySem.W.keepIn K (.ref f10)=true)
  (a11:PySem.W.nsIn K mainGlobals "deed_arrows" = some (some (.ref f11))) (l11:K.lookup f11=some ⟨oc11,od11,.func (PySem.W.fnOf "deed_arrows" "deed_arrows" (defArgs s_deed_arrows) (defBody s_deed_arrows) (defScope s_deed_arrows) .none kV11 dc11 pm11 an11 cd11 ct11),sl11⟩) (c11:PySem.W.codeIn K cd11 "deed_arrows" = true) (k11:PySem.W.keepIn K (.ref f11)=true)
  (a12:PySem.W.nsIn K mainGlobals "out_arrows" = some (some (.ref f12))) (l12:K.lookup f12=some ⟨oc12,od12,.func (PySem.W.fnOf "out_arrows" "out_arrows" (defArgs s_out_arrows) (defBody s_out_arrows) (defScope s_out_arrows) .none kV12 dc12 pm12 an12 cd12 ct12),sl12⟩) (c12:PySem.W.codeIn K cd12 "out_arrows" = true) (k12:PySem.W.keepIn K (.ref f12)=true)
  (a13:PySem.W.nsIn K mainGlobals "thing_count" = some (some (.ref f13))) (l13:K.lookup f13=some ⟨oc13,od13,.func (PySem.W.fnOf "thing_count" "thing_count" (defArgs s_thing_count) (defBody s_thing_count) (defScope s_thing_count) .none kV13 dc13 pm13 an13 cd13 ct13),sl13⟩) (c13:PySem.W.codeIn K cd13 "thing_count" = true) (k13:PySem.W.keepIn K (.ref f13)=true)
  (a14:PySem.W.nsIn K mainGlobals "wrapped" = some (some (.ref f14))) (l14:K.lookup f14=some ⟨oc14,od14,.func (PySem.W.fnOf "wrapped" "wrapped" (defArgs s_wrapped) (defBody s_wrapped) (defScope s_wrapped) .none kV14 dc14 pm14 an14 cd14 ct14),sl14⟩) (c14:PySem.W.codeIn K cd14 "wrapped" = true) (k14:PySem.W.keepIn K (.ref f14)=true)
  (a15:PySem.W.nsIn K mainGlobals "run_in" = some (some (.ref f15))) (l15:K.lookup f15=some ⟨oc15,od15,.func (PySem.W.fnOf "run_in" "run_in" (defArgs s_run_in) (defBody s_run_in) (defScope s_run_in) .none kV15 dc15 pm15 an15 cd15 ct15),sl15⟩) (c15:PySem.W.codeIn K cd15 "run_in" = true) (k15:PySem.W.keepIn K (.ref f15)=true)
  (a16:PySem.W.nsIn K mainGlobals "shifted_in" = some (some (.ref f16))) (l16:K.lookup f16=some ⟨oc16,od16,.func (PySem.W.fnOf "shifted_in" "shifted_in" (defArgs s_shifted_in) (defBody s_shifted_in) (defScope s_shifted_in) .none kV16 dc16 pm16 an16 cd16 ct16),sl16⟩) (c16:PySem.W.codeIn K cd16 "shifted_in" = true) (k16:PySem.W.keepIn K (.ref f16)=true)
  (a17:PySem.W.nsIn K mainGlobals "outs_in" = some (some (.ref f17))) (l17:K.lookup f17=some ⟨oc17,od17,.func (PySem.W.fnOf "outs_in" "outs_in" (defArgs s_outs_in) (defBody s_outs_in) (defScope s_outs_in) .none kV17 dc17 pm17 an17 cd17 ct17),sl17⟩) (c17:PySem.W.codeIn K cd17 "outs_in" = true) (k17:PySem.W.keepIn K (.ref f17)=true)
  (a18:PySem.W.nsIn K mainGlobals "sure" = some (some (.ref f18))) (l18:K.lookup f18=some ⟨oc18,od18,.func (PySem.W.fnOf "sure" "sure" (defArgs s_sure) (defBody s_sure) (defScope s_sure) .none kV18 dc18 pm18 an18 cd18 ct18),sl18⟩) (c18:PySem.W.codeIn K cd18 "sure" = true) (k18:PySem.W.keepIn K (.ref f18)=true)
  (a19:PySem.W.nsIn K mainGlobals "fits" = some (some (.ref f19))) (l19:K.lookup f19=some ⟨oc19,od19,.func (PySem.W.fnOf "fits" "fits" (defArgs s_fits) (defBody s_fits) (defScope s_fits) .none kV19 dc19 pm19 an19 cd19 ct19),sl19⟩) (c19:PySem.W.codeIn K cd19 "fits" = true) (k19:PySem.W.keepIn K (.ref f19)=true)
  (a20:PySem.W.nsIn K mainGlobals "width_for" = some (some (.ref f20))) (l20:K.lookup f20=some ⟨oc20,od20,.func (PySem.W.fnOf "width_for" "width_for" (defArgs s_width_for) (defBody s_width_for) (defScope s_width_for) .none kV20 dc20 pm20 an20 cd20 ct20),sl20⟩) (c20:PySem.W.codeIn K cd20 "width_for" = true) (k20:PySem.W.keepIn K (.ref f20)=true)
  (a21:PySem.W.nsIn K mainGlobals "end_of" = some (some (.ref f21))) (l21:K.lookup f21=some ⟨oc21,od21,.func (PySem.W.fnOf "end_of" "end_of" (defArgs s_end_of) (defBody s_end_of) (defScope s_end_of) .none kV21 dc21 pm21 an21 cd21 ct21),sl21⟩) (c21:PySem.W.codeIn K cd21 "end_of" = true) (k21:PySem.W.keepIn K (.ref f21)=true)
  (a22:PySem.W.nsIn K mainGlobals "width_of" = some (some (.ref f22))) (l22:K.lookup f22=some ⟨oc22,od22,.func (PySem.W.fnOf "width_of" "width_of" (defArgs s_width_of) (defBody s_width_of) (defScope s_width_of) .none kV22 dc22 pm22 an22 cd22 ct22),sl22⟩) (c22:PySem.W.codeIn K cd22 "width_of" = true) (k22:PySem.W.keepIn K (.ref f22)=true)
  (a23:PySem.W.nsIn K mainGlobals "range_in" = some (some (.ref f23))) (l23:K.lookup f23=some ⟨oc23,od23,.func (PySem.W.fnOf "range_in" "range_in" (defArgs s_range_in) (defBody s_range_in) (defScope s_range_in) .none kV23 dc23 pm23 an23 cd23 ct23),sl23⟩) (c23:PySem.W.codeIn K cd23 "range_in" = true) (k23:PySem.W.keepIn K (.ref f23)=true)
  (a24:PySem.W.nsIn K mainGlobals "parts_of" = some (some (.ref f24))) (l24:K.lookup f24=some ⟨oc24,od24,.func (PySem.W.fnOf "parts_of" "parts_of" (defArgs s_parts_of) (defBody s_parts_of) (defScope s_parts_of) .none kV24 dc24 pm24 an24 cd24 ct24),sl24⟩) (c24:PySem.W.codeIn K cd24 "parts_of" = true) (k24:PySem.W.keepIn K (.ref f24)=true)
  (a25:PySem.W.nsIn K mainGlobals "moved" = some (some (.ref f25))) (l25:K.lookup f25=some ⟨oc25,od25,.func (PySem.W.fnOf "moved" "moved" (defArgs s_moved) (defBody s_moved) (defScope s_moved) .none kV25 dc25 pm25 an25 cd25 ct25),sl25⟩) (c25:PySem.W.codeIn K cd25 "moved" = true) (k25:PySem.W.keepIn K (.ref f25)=true)
  (a26:PySem.W.nsIn K mainGlobals "deed_of" = some (some (.ref f26))) (l26:K.lookup f26=some ⟨oc26,od26,.func (PySem.W.fnOf "deed_of" "deed_of" (defArgs s_deed_of) (defBody s_deed_of) (defScope s_deed_of) .none kV26 dc26 pm26 an26 cd26 ct26),sl26⟩) (c26:PySem.W.codeIn K cd26 "deed_of" = true) (k26:PySem.W.keepIn K (.ref f26)=true)
  (a27:PySem.W.nsIn K mainGlobals "sign_of" = some (some (.ref f27))) (l27:K.lookup f27=some ⟨oc27,od27,.func (PySem.W.fnOf "sign_of" "sign_of" (defArgs s_sign_of) (defBody s_sign_of) (defScope s_sign_of) .none kV27 dc27 pm27 an27 cd27 ct27),sl27⟩) (c27:PySem.W.codeIn K cd27 "sign_of" = true) (k27:PySem.W.keepIn K (.ref f27)=true)
  (a28:PySem.W.nsIn K mainGlobals "add_sum" = some (some (.ref f28))) (l28:K.lookup f28=some ⟨oc28,od28,.func (PySem.W.fnOf "add_sum" "add_sum" (defArgs s_add_sum) (defBody s_add_sum) (defScope s_add_sum) .none kV28 dc28 pm28 an28 cd28 ct28),sl28⟩) (c28:PySem.W.codeIn K cd28 "add_sum" = true) (k28:PySem.W.keepIn K (.ref f28)=true)
  (a29:PySem.W.nsIn K mainGlobals "behind" = some (some (.ref f29))) (l29:K.lookup f29=some ⟨oc29,od29,.func (PySem.W.fnOf "behind" "behind" (defArgs s_behind) (defBody s_behind) (defScope s_behind) .none kV29 dc29 pm29 an29 cd29 ct29),sl29⟩) (c29:PySem.W.codeIn K cd29 "behind" = true) (k29:PySem.W.keepIn K (.ref f29)=true)
  (a30:PySem.W.nsIn K mainGlobals "moved_parts" = some (some (.ref f30))) (l30:K.lookup f30=some ⟨oc30,od30,.func (PySem.W.fnOf "moved_parts" "moved_parts" (defArgs s_moved_parts) (defBody s_moved_parts) (defScope s_moved_parts) .none kV30 dc30 pm30 an30 cd30 ct30),sl30⟩) (c30:PySem.W.codeIn K cd30 "moved_parts" = true) (k30:PySem.W.keepIn K (.ref f30)=true)
  (a31:PySem.W.nsIn K mainGlobals "run" = some (some (.ref f31))) (l31:K.lookup f31=some ⟨oc31,od31,.func (PySem.W.fnOf "run" "run" (defArgs s_run) (defBody s_run) (defScope s_run) .none kV31 dc31 pm31 an31 cd31 ct31),sl31⟩) (c31:PySem.W.codeIn K cd31 "run" = true) (k31:PySem.W.keepIn K (.ref f31)=true)
  (a32:PySem.W.nsIn K mainGlobals "run_outs" = some (some (.ref f32))) (l32:K.lookup f32=some ⟨oc32,od32,.func (PySem.W.fnOf "run_outs" "run_outs" (defArgs s_run_outs) (defBody s_run_outs) (defScope s_run_outs) .none kV32 dc32 pm32 an32 cd32 ct32),sl32⟩) (c32:PySem.W.codeIn K cd32 "run_outs" = true) (k32:PySem.W.keepIn K (.ref f32)=true)
  (a33:PySem.W.nsIn K mainGlobals "turned" = some (some (.ref f33))) (l33:K.lookup f33=some ⟨oc33,od33,.func (PySem.W.fnOf "turned" "turned" (defArgs s_turned) (defBody s_turned) (defScope s_turned) .none kV33 dc33 pm33 an33 cd33 ct33),sl33⟩) (c33:PySem.W.codeIn K cd33 "turned" = true) (k33:PySem.W.keepIn K (.ref f33)=true)
  (a34:PySem.W.nsIn K mainGlobals "refuse_down" = some (some (.ref f34))) (l34:K.lookup f34=some ⟨oc34,od34,.func (PySem.W.fnOf "refuse_down" "refuse_down" (defArgs s_refuse_down) (defBody s_refuse_down) (defScope s_refuse_down) .none kV34 dc34 pm34 an34 cd34 ct34),sl34⟩) (c34:PySem.W.codeIn K cd34 "refuse_down" = true) (k34:PySem.W.keepIn K (.ref f34)=true)
  (a35:PySem.W.nsIn K mainGlobals "_law_pen" = some (some (.ref f35))) (l35:K.lookup f35=some ⟨oc35,od35,.func (PySem.W.fnOf "_law_pen" "_law_pen" (defArgs s_l_pen) (defBody s_l_pen) (defScope s_l_pen) .none kV35 dc35 pm35 an35 cd35 ct35),sl35⟩) (c35:PySem.W.codeIn K cd35 "_law_pen" = true) (k35:PySem.W.keepIn K (.ref f35)=true)
  (a36:PySem.W.nsIn K mainGlobals "_law_pick" = some (some (.ref f36))) (l36:K.lookup f36=some ⟨oc36,od36,.func (PySem.W.fnOf "_law_pick" "_law_pick" (defArgs s_l_pick) (defBody s_l_pick) (defScope s_l_pick) .none kV36 dc36 pm36 an36 cd36 ct36),sl36⟩) (c36:PySem.W.codeIn K cd36 "_law_pick" = true) (k36:PySem.W.keepIn K (.ref f36)=true)
  (a37:PySem.W.nsIn K mainGlobals "_law_down" = some (some (.ref f37))) (l37:K.lookup f37=some ⟨oc37,od37,.func (PySem.W.fnOf "_law_down" "_law_down" (defArgs s_l_down) (defBody s_l_down) (defScope s_l_down) .none kV37 dc37 pm37 an37 cd37 ct37),sl37⟩) (c37:PySem.W.codeIn K cd37 "_law_down" = true) (k37:PySem.W.keepIn K (.ref f37)=true)
  (a38:PySem.W.nsIn K mainGlobals "_law_part" = some (some (.ref f38))) (l38:K.lookup f38=some ⟨oc38,od38,.func (PySem.W.fnOf "_law_part" "_law_part" (defArgs s_l_part) (defBody s_l_part) (defScope s_l_part) .none kV38 dc38 pm38 an38 cd38 ct38),sl38⟩) (c38:PySem.W.codeIn K cd38 "_law_part" = true) (k38:PySem.W.keepIn K (.ref f38)=true)
  (a39:PySem.W.nsIn K mainGlobals "_law_web" = some (some (.ref f39))) (l39:K.lookup f39=some ⟨oc39,od39,.func (PySem.W.fnOf "_law_web" "_law_web" (defArgs s_l_web) (defBody s_l_web) (defScope s_l_web) .none kV39 dc39 pm39 an39 cd39 ct39),sl39⟩) (c39:PySem.W.codeIn K cd39 "_law_web" = true) (k39:PySem.W.keepIn K (.ref f39)=true)
  (a40:PySem.W.nsIn K mainGlobals "_law_value" = some (some (.ref f40))) (l40:K.lookup f40=some ⟨oc40,od40,.func (PySem.W.fnOf "_law_value" "_law_value" (defArgs s_l_value) (defBody s_l_value) (defScope s_l_value) .none kV40 dc40 pm40 an40 cd40 ct40),sl40⟩) (c40:PySem.W.codeIn K cd40 "_law_value" = true) (k40:PySem.W.keepIn K (.ref f40)=true)
  (a41:PySem.W.nsIn K mainGlobals "_law_sure_right" = some (some (.ref f41))) (l41:K.lookup f41=some ⟨oc41,od41,.func (PySem.W.fnOf "_law_sure_right" "_law_sure_right" (defArgs s_l_sure_right) (defBody s_l_sure_right) (defScope s_l_sure_right) .none kV41 dc41 pm41 an41 cd41 ct41),sl41⟩) (c41:PySem.W.codeIn K cd41 "_law_sure_right" = true) (k41:PySem.W.keepIn K (.ref f41)=true)
  (a42:PySem.W.nsIn K mainGlobals "_law_behind_right" = some (some (.ref f42))) (l42:K.lookup f42=some ⟨oc42,od42,.func (PySem.W.fnOf "_law_behind_right" "_law_behind_right" (defArgs s_l_behind_right) (defBody s_l_behind_right) (defScope s_l_behind_right) .none kV42 dc42 pm42 an42 cd42 ct42),sl42⟩) (c42:PySem.W.codeIn K cd42 "_law_behind_right" = true) (k42:PySem.W.keepIn K (.ref f42)=true)
  (a43:PySem.W.nsIn K mainGlobals "_law_range_right" = some (some (.ref f43))) (l43:K.lookup f43=some ⟨oc43,od43,.func (PySem.W.fnOf "_law_range_right" "_law_range_right" (defArgs s_l_range_right) (defBody s_l_range_right) (defScope s_l_range_right) .none kV43 dc43 pm43 an43 cd43 ct43),sl43⟩) (c43:PySem.W.codeIn K cd43 "_law_range_right" = true) (k43:PySem.W.keepIn K (.ref f43)=true)
  (a44:PySem.W.nsIn K mainGlobals "_law_turned_right" = some (some (.ref f44))) (l44:K.lookup f44=some ⟨oc44,od44,.func (PySem.W.fnOf "_law_turned_right" "_law_turned_right" (defArgs s_l_turned_right) (defBody s_l_turned_right) (defScope s_l_turned_right) .none kV44 dc44 pm44 an44 cd44 ct44),sl44⟩) (c44:PySem.W.codeIn K cd44 "_law_turned_right" = true) (k44:PySem.W.keepIn K (.ref f44)=true)
  (a45:PySem.W.nsIn K mainGlobals "law" = some (some (.ref f45))) (l45:K.lookup f45=some ⟨oc45,od45,.func (PySem.W.fnOf "law" "law" (defArgs s_law) (defBody s_law) (defScope s_law) .none kV45 dc45 pm45 an45 cd45 ct45),sl45⟩) (c45:PySem.W.codeIn K cd45 "law" = true) (k45:PySem.W.keepIn K (.ref f45)=true)
  (ac1:PySem.W.nsIn K mainGlobals "NO_OUT" = some (some (.ref fc1))) (lc1:K.lookup fc1=some ⟨.type "tuple",oe1,.seq #[.int 0 ta1,.int 0 tb1,.int 0 td1] nc1,sm1⟩)
  (z1:PySem.W.nsIn K mainGlobals "abs" = some none)
  (z2:PySem.W.nsIn K mainGlobals "enumerate" = some none)
  (z3:PySem.W.nsIn K mainGlobals "int" = some none)
  (z4:PySem.W.nsIn K mainGlobals "len" = some none)
  (z5:PySem.W.nsIn K mainGlobals "list" = some none)
  (z6:PySem.W.nsIn K mainGlobals "max" = some none)
  (z7:PySem.W.nsIn K mainGlobals "min" = some none)
  (z8:PySem.W.nsIn K mainGlobals "range" = some none)
  (z9:PySem.W.nsIn K mainGlobals "reversed" = some none)
  (z10:PySem.W.nsIn K mainGlobals "sum" = some none)
  (z11:PySem.W.nsIn K mainGlobals "tuple" = some none)
  (z12:PySem.W.nsIn K mainGlobals "zip" = some none)
  : ∃ fd:FuncData,(∀ (s:Shared) (v:Value),BindsTo s fd ⟨[v],[]⟩ [("_law_script",v)]) /\ ∀ base:Heap,K.In base -> base.Ns mainGlobals mg -> FnOk l.prog w K mg base CX0 20 fa fd ["_law_script"] (spLaw K):=by
 have e:=hfa.symm.trans (PySem.W.mg_of X G a45)
 cases e
 have F1:=fun_mk (st:=s_shifted) l1 c1 k1
 have b1:=F1.binds (ps:=["number","shift"]) fun _ _ _ _ _ _ us hl=>by obtain ⟨a0_,a1_,rfl⟩:=ln2 (us:=us) hl; rfl
 have F2:=fun_mk (st:=s_shifted_row) l2 c2 k2
 have b2:=F2.binds (ps:=["row","shift"]) fun _ _ _ _ _ _ us hl=>by obtain ⟨a0_,a1_,rfl⟩:=ln2 (us:=us) hl; rfl
 have F3:=fun_mk (st:=s_input_rows) l3 c3 k3
 have b3:=F3.binds (ps:=["ins"]) fun _ _ _ _ _ _ us hl=>by obtain ⟨a0_,rfl⟩:=ln1 (us:=us) hl; rfl
 have F4:=fun_mk (st:=s_input_row) l4 c4 k4
 have b4:=F4.binds (ps:=["ins","thing"]) fun _ _ _ _ _ _ us hl=>by obtain ⟨a0_,a1_,rfl⟩:=ln2 (us:=us) hl; rfl
 have F5:=fun_mk (st:=s_deed_row) l5 c5 k5
 have b5:=F5.binds (ps:=["deed","rows"]) fun _ _ _ _ _ _ us hl=>by obtain ⟨a0_,a1_,rfl⟩:=ln2 (us:=us) hl; rfl
 have F6:=fun_mk (st:=s_second_sign) l6 c6 k6
 have b6:=F6.binds (ps:=["deed"]) fun _ _ _ _ _ _ us hl=>by obtain ⟨a0_,rfl⟩:=ln1 (us:=us) hl; rfl
 have F7:=fun_mk (st:=s_numbers) l7 c7 k7
 have b7:=F7.binds (ps:=["web"]) fun _ _ _ _ _ _ us hl=>by obtain ⟨a0_,rfl⟩:=ln1 (us:=us) hl; rfl
 have F8:=fun_mk (st:=s_out_numbers) l8 c8 k8
 have b8:=F8.binds (ps:=["web"]) fun _ _ _ _ _ _ us hl=>by obtain ⟨a0_,rfl⟩:=ln1 (us:=us) hl; rfl
 have F9:=fun_mk (st:=s_out_row) l9 c9 k9
 have b9:=F9.binds (ps:=["out","rows"]) fun _ _ _ _ _ _ us hl=>by obtain ⟨a0_,a1_,rfl⟩:=ln2 (us:=us) hl; rfl
 have F10:=fun_mk (st:=s_arrows) l10 c10 k10
 have b10:=F10.binds (ps:=["web"]) fun _ _ _ _ _ _ us hl=>by obtain ⟨a0_,rfl⟩:=ln1 (us:=us) hl; rfl
 have F11:=fun_mk (st:=s_deed_arrows) l11 c11 k11
 have b11:=F11.binds (ps:=["web"]) fun _ _ _ _ _ _ us hl=>by obtain ⟨a0_,rfl⟩:=ln1 (us:=us) hl; rfl
 have F12:=fun_mk (st:=s_out_arrows) l12 c12 k12
 have b12:=F12.binds (ps:=["web"]) fun _ _ _ _ _ _ us hl=>by obtain ⟨a0_,rfl⟩:=ln1 (us:=us) hl; rfl
 have F13:=fun_mk (st:=s_thing_count) l13 c13 k13
 have b13:=F13.binds (ps:=["web"]) fun _ _ _ _ _ _ us hl=>by obtain ⟨a0_,rfl⟩:=ln1 (us:=us) hl; rfl
 have F14:=fun_mk (st:=s_wrapped) l14 c14 k14
 have b14:=F14.binds (ps:=["number","width"]) fun _ _ _ _ _ _ us hl=>by obtain ⟨a0_,a1_,rfl⟩:=ln2 (us:=us) hl; rfl
 have F15:=fun_mk (st:=s_run_in) l15 c15 k15
 have b15:=F15.binds (ps:=["web","width","values"]) fun _ _ _ _ _ _ us hl=>by obtain ⟨a0_,a1_,a2_,rfl⟩:=ln3 (us:=us) hl; rfl
 have F16:=fun_mk (st:=s_shifted_in) l16 c16 k16
 have b16:=F16.binds (ps:=["value","shift","width"]) fun _ _ _ _ _ _ us hl=>by obtain ⟨a0_,a1_,a2_,rfl⟩:=ln3 (us:=us) hl; rfl
 have F17:=fun_mk (st:=s_outs_in) l17 c17 k17
 have b17:=F17.binds (ps:=["web","width","values"]) fun _ _ _ _ _ _ us hl=>by obtain ⟨a0_,a1_,a2_,rfl⟩:=ln3 (us:=us) hl; rfl
 have F18:=fun_mk (st:=s_sure) l18 c18 k18
 have b18:=F18.binds (ps:=["web","width"]) fun _ _ _ _ _ _ us hl=>by obtain ⟨a0_,a1_,rfl⟩:=ln2 (us:=us) hl; rfl
 have F19:=fun_mk (st:=s_fits) l19 c19 k19
 have b19:=F19.binds (ps:=["web","width","ranges"]) fun _ _ _ _ _ _ us hl=>by obtain ⟨a0_,a1_,a2_,rfl⟩:=ln3 (us:=us) hl; rfl
 have F20:=fun_mk (st:=s_width_for) l20 c20 k20
 have b20:=F20.binds (ps:=["web","ranges"]) fun _ _ _ _ _ _ us hl=>by obtain ⟨a0_,a1_,rfl⟩:=ln2 (us:=us) hl; rfl
 have F21:=fun_mk (st:=s_end_of) l21 c21 k21
 have b21:=F21.binds (ps:=["row","ranges","side"]) fun _ _ _ _ _ _ us hl=>by obtain ⟨a0_,a1_,a2_,rfl⟩:=ln3 (us:=us) hl; rfl
 have F22:=fun_mk (st:=s_width_of) l22 c22 k22
 have b22:=F22.binds (ps:=["number"]) fun _ _ _ _ _ _ us hl=>by obtain ⟨a0_,rfl⟩:=ln1 (us:=us) hl; rfl
 have F23:=fun_mk (st:=s_range_in) l23 c23 k23
 have b23:=F23.binds (ps:=["web","width"]) fun _ _ _ _ _ _ us hl=>by obtain ⟨a0_,a1_,rfl⟩:=ln2 (us:=us) hl; rfl
 have F24:=fun_mk (st:=s_parts_of) l24 c24 k24
 have b24:=F24.binds (ps:=["deed"]) fun _ _ _ _ _ _ us hl=>by obtain ⟨a0_,rfl⟩:=ln1 (us:=us) hl; rfl
 have F25:=fun_mk (st:=s_moved) l25 c25 k25
 have b25:=F25.binds (ps:=["part","shift","sign"]) fun _ _ _ _ _ _ us hl=>by obtain ⟨a0_,a1_,a2_,rfl⟩:=ln3 (us:=us) hl; rfl
 have F26:=fun_mk (st:=s_deed_of) l26 c26 k26
 have b26:=F26.binds (ps:=["one","other"]) fun _ _ _ _ _ _ us hl=>by obtain ⟨a0_,a1_,rfl⟩:=ln2 (us:=us) hl; rfl
 have F27:=fun_mk (st:=s_sign_of) l27 c27 k27
 have b27:=F27.binds (ps:=["one","other"]) fun _ _ _ _ _ _ us hl=>by obtain ⟨a0_,a1_,rfl⟩:=ln2 (us:=us) hl; rfl
 have F28:=fun_mk (st:=s_add_sum) l28 c28 k28
 have b28:=F28.binds (ps:=["ins","deeds","one","other"]) fun _ _ _ _ _ _ us hl=>by obtain ⟨a0_,a1_,a2_,a3_,rfl⟩:=ln4 (us:=us) hl; rfl
 have F29:=fun_mk (st:=s_behind) l29 c29 k29
 have b29:=F29.binds (ps:=["one","other"]) fun _ _ _ _ _ _ us hl=>by obtain ⟨a0_,a1_,rfl⟩:=ln2 (us:=us) hl; rfl
 have F30:=fun_mk (st:=s_moved_parts) l30 c30 k30
 have b30:=F30.binds (ps:=["parts","stands"]) fun _ _ _ _ _ _ us hl=>by obtain ⟨a0_,a1_,rfl⟩:=ln2 (us:=us) hl; rfl
 have F31:=fun_mk (st:=s_run) l31 c31 k31
 have b31:=F31.binds (ps:=["web","values"]) fun _ _ _ _ _ _ us hl=>by obtain ⟨a0_,a1_,rfl⟩:=ln2 (us:=us) hl; rfl
 have F32:=fun_mk (st:=s_run_outs) l32 c32 k32
 have b32:=F32.binds (ps:=["web","values"]) fun _ _ _ _ _ _ us hl=>by obtain ⟨a0_,a1_,rfl⟩:=ln2 (us:=us) hl; rfl
 have F33:=fun_mk (st:=s_turned) l33 c33 k33
 have b33:=F33.binds (ps:=["web"]) fun _ _ _ _ _ _ us hl=>by obtain ⟨a0_,rfl⟩:=ln1 (us:=us) hl; rfl
 have F34:=fun_mk (st:=s_refuse_down) l34 c34 k34
 have b34:=F34.binds (ps:=["web"]) fun _ _ _ _ _ _ us hl=>by obtain ⟨a0_,rfl⟩:=ln1 (us:=us) hl; rfl
 have F35:=fun_mk (st:=s_l_pen) l35 c35 k35
 have b35:=F35.binds (ps:=["_law_script"]) fun _ _ _ _ _ _ us hl=>by obtain ⟨a0_,rfl⟩:=ln1 (us:=us) hl; rfl
 have F36:=fun_mk (st:=s_l_pick) l36 c36 k36
 have b36:=F36.binds (ps:=["_law_pen_here","_law_many"]) fun _ _ _ _ _ _ us hl=>by obtain ⟨a0_,a1_,rfl⟩:=ln2 (us:=us) hl; rfl
 have F37:=fun_mk (st:=s_l_down) l37 c37 k37
 have b37:=F37.binds (ps:=["_law_told"]) fun _ _ _ _ _ _ us hl=>by obtain ⟨a0_,rfl⟩:=ln1 (us:=us) hl; rfl
 have F38:=fun_mk (st:=s_l_part) l38 c38 k38
 have b38:=F38.binds (ps:=["_law_pen_here","_law_told","_law_down_here"]) fun _ _ _ _ _ _ us hl=>by obtain ⟨a0_,a1_,a2_,rfl⟩:=ln3 (us:=us) hl; rfl
 have F39:=fun_mk (st:=s_l_web) l39 c39 k39
 have b39:=F39.binds (ps:=["_law_pen_here","_law_ins","_law_outs_many","_law_down_here"]) fun _ _ _ _ _ _ us hl=>by obtain ⟨a0_,a1_,a2_,a3_,rfl⟩:=ln4 (us:=us) hl; rfl
 have F40:=fun_mk (st:=s_l_value) l40 c40 k40
 have b40:=F40.binds (ps:=["_law_pen_here","_law_width"]) fun _ _ _ _ _ _ us hl=>by obtain ⟨a0_,a1_,rfl⟩:=ln2 (us:=us) hl; rfl
 have F41:=fun_mk (st:=s_l_sure_right) l41 c41 k41
 have b41:=F41.binds (ps:=["_law_web_here","_law_width","_law_values","_law_down_here"]) fun _ _ _ _ _ _ us hl=>by obtain ⟨a0_,a1_,a2_,a3_,rfl⟩:=ln4 (us:=us) hl; rfl
 have F42:=fun_mk (st:=s_l_behind_right) l42 c42 k42
 have b42:=F42.binds (ps:=["_law_one","_law_other","_law_width","_law_values","_law_down_here"]) fun _ _ _ _ _ _ us hl=>by obtain ⟨a0_,a1_,a2_,a3_,a4_,rfl⟩:=ln5 (us:=us) hl; rfl
 have F43:=fun_mk (st:=s_l_range_right) l43 c43 k43
 have b43:=F43.binds (ps:=["_law_pen_here","_law_one","_law_width"]) fun _ _ _ _ _ _ us hl=>by obtain ⟨a0_,a1_,a2_,rfl⟩:=ln3 (us:=us) hl; rfl
 have F44:=fun_mk (st:=s_l_turned_right) l44 c44 k44
 have b44:=F44.binds (ps:=["_law_web_here","_law_width","_law_values"]) fun _ _ _ _ _ _ us hl=>by obtain ⟨a0_,a1_,a2_,rfl⟩:=ln3 (us:=us) hl; rfl
 have F45:=fun_mk (st:=s_law) l45 c45 k45
 have b45:=F45.binds (ps:=["_law_script"]) fun _ _ _ _ _ _ us hl=>by obtain ⟨a0_,rfl⟩:=ln1 (us:=us) hl; rfl
 have T:Txt K mg:=⟨⟨PySem.W.mg_none_of X G z1,PySem.W.mg_none_of X G z2,PySem.W.mg_none_of X G z3,PySem.W.mg_none_of X G z4,PySem.W.mg_none_of X G z5,PySem.W.mg_none_of X G z6,PySem.W.mg_none_of X G z7,PySem.W.mg_none_of X G z8,PySem.W.mg_none_of X G z9,PySem.W.mg_none_of X G z10,PySem.W.mg_none_of X G z11,PySem.W.mg_none_of X G z12⟩,⟨_,_,F1,PySem.W.mg_of X G a1,b1⟩,⟨_,_,F2,PySem.W.mg_of X G a2,b2⟩,⟨_,_,F3,PySem.W.mg_of X G a3,b3⟩,⟨_,_,F4,PySem.W.mg_of X G a4,b4⟩,⟨_,_,F5,PySem.W.mg_of X G a5,b5⟩,⟨_,_,F6,PySem.W.mg_of X G a6,b6⟩,⟨_,_,F7,PySem.W.mg_of X G a7,b7⟩,⟨_,_,F8,PySem.W.mg_of X G a8,b8⟩,⟨_,_,F9,PySem.W.mg_of X G a9,b9⟩,⟨_,_,F10,PySem.W.mg_of X G a10,b10⟩,⟨_,_,F11,PySem.W.mg_of X G a11,b11⟩,⟨_,_,F12,PySem.W.mg_of X G a12,b12⟩,⟨_,_,F13,PySem.W.mg_of X G a13,b13⟩,⟨_,_,F14,PySem.W.mg_of X G a14,b14⟩,⟨_,_,F15,PySem.W.mg_of X G a15,b15⟩,⟨_,_,F16,PySem.W.mg_of X G a16,b16⟩,⟨_,_,F17,PySem.W.mg_of X G a17,b17⟩,⟨_,_,F18,PySem.W.mg_of X G a18,b18⟩,⟨_,_,F19,PySem.W.mg_of X G a19,b19⟩,⟨_,_,F20,PySem.W.mg_of X G a20,b20⟩,⟨_,_,F21,PySem.W.mg_of X G a21,b21⟩,⟨_,_,F22,PySem.W.mg_of X G a22,b22⟩,⟨_,_,F23,PySem.W.mg_of X G a23,b23⟩,⟨_,_,F24,PySem.W.mg_of X G a24,b24⟩,⟨_,_,F25,PySem.W.mg_of X G a25,b25⟩,⟨_,_,F26,PySem.W.mg_of X G a26,b26⟩,⟨_,_,F27,PySem.W.mg_of X G a27,b27⟩,⟨_,_,F28,PySem.W.mg_of X G a28,b28⟩,⟨_,_,F29,PySem.W.mg_of X G a29,b29⟩,⟨_,_,F30,PySem.W.mg_of X G a30,b30⟩,⟨_,_,F31,PySem.W.mg_of X G a31,b31⟩,⟨_,_,F32,PySem.W.mg_of X G a32,b32⟩,⟨_,_,F33,PySem.W.mg_of X G a33,b33⟩,⟨_,_,F34,PySem.W.mg_of X G a34,b34⟩,⟨_,_,F35,PySem.W.mg_of X G a35,b35⟩,⟨_,_,F36,PySem.W.mg_of X G a36,b36⟩,⟨_,_,F37,PySem.W.mg_of X G a37,b37⟩,⟨_,_,F38,PySem.W.mg_of X G a38,b38⟩,⟨_,_,F39,PySem.W.mg_of X G a39,b39⟩,⟨_,_,F40,PySem.W.mg_of X G a40,b40⟩,⟨_,_,F41,PySem.W.mg_of X G a41,b41⟩,⟨_,_,F42,PySem.W.mg_of X G a42,b42⟩,⟨_,_,F43,PySem.W.mg_of X G a43,b43⟩,⟨_,_,F44,PySem.W.mg_of X G a44,b44⟩,⟨_,_,F45,PySem.W.mg_of X G a45,b45⟩,⟨fc1,PySem.W.mg_of X G ac1,_,_,_,lc1,rfl,rfl,le_size (by show 3 <= 1000; decide),.cons ⟨_,rfl⟩ (.cons ⟨_,rfl⟩ (.cons ⟨_,rfl⟩ .nil))⟩⟩
 refine ⟨PySem.W.fnOf "law" "law" (defArgs s_law) (defBody s_law) (defScope s_law) .none kV45 dc45 pm45 an45 cd45 ct45,fun s v=>.of_eq rfl,fun base _ _=>?_⟩
 exact ok_law T F45
theorem walk {l:PySem.W.OpenLaw}{q:Program}{loose:List Str}{XP:(Str -> Option Value) -> Heap -> Prop}{YP:World -> Heap -> Prop}{d:DefRec}{K:Params -> PySem.W.Frag}(hn:l.most=some 63)(hdf:d.params.defaults=[])
  (hY:∀ (w:World) (h:Heap),YP w h -> (K w.params).In h)
  (F:∀ (w:World) (mg:Str -> Option Value) (fa:Addr) (h:Heap),(K w.params).In h -> h.Ns mainGlobals mg -> mg d.name=some (.ref fa) ->
   ∃ fd:FuncData,(∀ (s:Shared) (u:Value),BindsTo s fd ⟨[u],[]⟩ [("_law_script",u)]) /\ ∀ base:Heap,(K w.params).In base -> base.Ns mainGlobals mg -> FnOk l.prog w (K w.params) mg base CX0 20 fa fd ["_law_script"] (spLaw (K w.params))) :
  PySem.W.WalkO q loose XP YP l.row.toRowW d [] (fun f vs=>PySem.call f vs) :=
 L2.walk_of (n:=63) (k:=20) (x:="_law_script") (CX:=fun _=>CX0) (sp:=fun w=>spLaw (K w.params)) hn (by decide) hdf ⟨rfl,by decide,by decide⟩ hY F (fun _ _ a ns hl hO hS=>⟨a,ns,rfl,scr_of hO hS,hl,fun _=>rfl⟩) fun _ _ _ _ _ z=>z
end Law
def PySem.W.Fast.tw17933119106674515255:Unit:=()
def PySem.W.Fast.tw806015157659477412:Unit:=()
def PySem.W.Fast.tw8121478482246104932:Unit:=()
def PySem.W.Fast.tw244121068751574171:Unit:=()
def PySem.W.Fast.tw1995921225992137462:Unit:=()
def PySem.W.Fast.tw10674622616727624008:Unit:=()
def PySem.W.Fast.tw8973601440482460231:Unit:=()
def PySem.W.Fast.tw9606031647844302834:Unit:=()
def PySem.W.Fast.tw2635482517248423313:Unit:=()
def PySem.W.Fast.tw4764858952539253864:Unit:=()
def PySem.W.Fast.tw7227002794076514870:Unit:=()
def PySem.W.Fast.tw12587491236942968153:Unit:=()
def PySem.W.Fast.tw13797400458454288881:Unit:=()
def PySem.W.Fast.tw7256181533515281064:Unit:=()
def PySem.W.Fast.tw15732231888650414449:Unit:=()
def PySem.W.Fast.tw4777162443306816098:Unit:=()
def PySem.W.Fast.tw476519147501222765:Unit:=()
def PySem.W.Fast.tw8977269556110825680:Unit:=()
def PySem.W.Fast.tw14002158986623186653:Unit:=()
def PySem.W.Fast.tw3750301221682004607:Unit:=()
def PySem.W.Fast.tw11878671010031394566:Unit:=()
def PySem.W.Fast.tw6021136786193208:Unit:=()
open PySem PySem.W PyProof.Rows
set_option maxRecDepth 100000 in
set_option maxHeartbeats 0 in
theorem PySem.Challenge.cw_shiftsums_k59_whole_widths_holds : PySem.Challenge.rw_shiftsums_k59_whole_widths.Holds := by
 w_on; o_law; k_head; (case hw=>w_witness2)
 k_fill
 refine Law.walk (l:=PySem.Challenge.rw_shiftsums_k59_whole_widths) rfl rfl (fun w h Y=>PySem.W.kIn_of Y) ?F
 case F =>
  intro w mg fa h KX G hmg
  refine' Law.all_mk KX G hmg ?a1 ?l1 ?c1 ?k1 ?a2 ?l2 ?c2 ?k2 ?a3 ?l3 ?c3 ?k3 ?a4 ?l4 ?c4 ?k4 ?a5 ?l5 ?c5 ?k5 ?a6 ?l6 ?c6 ?k6 ?a7 ?l7 ?c7 ?k7 ?a8 ?l8 ?c8 ?k8 ?a9 ?l9 ?c9 ?k9 ?a10 ?l10 ?c10 ?k10 ?a11 ?l11 ?c11 ?k11 ?a12 ?l12 ?c12 ?k12 ?a13 ?l13 ?c13 ?k13 ?a14 ?l14 ?c14 ?k14 ?a15 ?l15 ?c15 ?k15 ?a16 ?l16 ?c16 ?k16 ?a17 ?l17 ?c17 ?k17 ?a18 ?l18 ?c18 ?k18 ?a19 ?l19 ?c19 ?k19 ?a20 ?l20 ?c20 ?k20 ?a21 ?l21 ?c21 ?k21 ?a22 ?l22 ?c22 ?k22 ?a23 ?l23 ?c23 ?k23 ?a24 ?l24 ?c24 ?k24 ?a25 ?l25 ?c25 ?k25 ?a26 ?l26 ?c26 ?k26 ?a27 ?l27 ?c27 ?k27 ?a28 ?l28 ?c28 ?k28 ?a29 ?l29 ?c29 ?k29 ?a30 ?l30 ?c30 ?k30 ?a31 ?l31 ?c31 ?k31 ?a32 ?l32 ?c32 ?k32 ?a33 ?l33 ?c33 ?k33 ?a34 ?l34 ?c34 ?k34 ?a35 ?l35 ?c35 ?k35 ?a36 ?l36 ?c36 ?k36 ?a37 ?l37 ?c37 ?k37 ?a38 ?l38 ?c38 ?k38 ?a39 ?l39 ?c39 ?k39 ?a40 ?l40 ?c40 ?k40 ?a41 ?l41 ?c41 ?k41 ?a42 ?l42 ?c42 ?k42 ?a43 ?l43 ?c43 ?k43 ?a44 ?l44 ?c44 ?k44 ?a45 ?l45 ?c45 ?k45 ?ac1 ?lc1 ?z1 ?z2 ?z3 ?z4 ?z5 ?z6 ?z7 ?z8 ?z9 ?z10 ?z11 ?z12
  (case a1=>k_is); (case l1=>k_is); (case c1=>k_is); (case k1=>k_is)
  (case a2=>k_is); (case l2=>k_is); (case c2=>k_is); (case k2=>k_is)
  (case a3=>k_is); (case l3=>k_is); (case c3=>k_is); (case k3=>k_is)
  (case a4=>k_is); (case l4=>k_is); (case c4=>k_is); (case k4=>k_is)
  (case a5=>k_is); (case l5=>k_is); (case c5=>k_is); (case k5=>k_is)
  (case a6=>k_is); (case l6=>k_is); (case c6=>k_is); (case k6=>k_is)
  (case a7=>k_is); (case l7=>k_is); (case c7=>k_is); (case k7=>k_is)
  (case a8=>k_is); (case l8=>k_is); (case c8=>k_is); (case k8=>k_is)
  (case a9=>k_is); (case l9=>k_is); (case c9=>k_is); (case k9=>k_is)
  (case a10=>k_is); (case l10=>k_is); (case c10=>k_is); (case k10=>k_is)
  (case a11=>k_is); (case l11=>k_is); (case c11=>k_is); (case k11=>k_is)
  (case a12=>k_is); (case l12=>k_is); (case c12=>k_is); (case k12=>k_is)
  (case a13=>k_is); (case l13=>k_is); (case c13=>k_is); (case k13=>k_is)
  (case a14=>k_is); (case l14=>k_is); (case c14=>k_is); (case k14=>k_is)
  (case a15=>k_is); (case l15=>k_is); (case c15=>k_is); (case k15=>k_is)
  (case a16=>k_is); (case l16=>k_is); (case c16=>k_is); (case k16=>k_is)
  (case a17=>k_is); (case l17=>k_is); (case c17=>k_is); (case k17=>k_is)
  (case a18=>k_is); (case l18=>k_is); (case c18=>k_is); (case k18=>k_is)
  (case a19=>k_is); (case l19=>k_is); (case c19=>k_is); (case k19=>k_is)
  (case a20=>k_is); (case l20=>k_is); (case c20=>k_is); (case k20=>k_is)
  (case a21=>k_is); (case l21=>k_is); (case c21=>k_is); (case k21=>k_is)
  (case a22=>k_is); (case l22=>k_is); (case c22=>k_is); (case k22=>k_is)
  (case a23=>k_is); (case l23=>k_is); (case c23=>k_is); (case k23=>k_is)
  (case a24=>k_is); (case l24=>k_is); (case c24=>k_is); (case k24=>k_is)
  (case a25=>k_is); (case l25=>k_is); (case c25=>k_is); (case k25=>k_is)
  (case a26=>k_is); (case l26=>k_is); (case c26=>k_is); (case k26=>k_is)
  (case a27=>k_is); (case l27=>k_is); (case c27=>k_is); (case k27=>k_is)
  (case a28=>k_is); (case l28=>k_is); (case c28=>k_is); (case k28=>k_is)
  (case a29=>k_is); (case l29=>k_is); (case c29=>k_is); (case k29=>k_is)
  (case a30=>k_is); (case l30=>k_is); (case c30=>k_is); (case k30=>k_is)
  (case a31=>k_is); (case l31=>k_is); (case c31=>k_is); (case k31=>k_is)
  (case a32=>k_is); (case l32=>k_is); (case c32=>k_is); (case k32=>k_is)
  (case a33=>k_is); (case l33=>k_is); (case c33=>k_is); (case k33=>k_is)
  (case a34=>k_is); (case l34=>k_is); (case c34=>k_is); (case k34=>k_is)
  (case a35=>k_is); (case l35=>k_is); (case c35=>k_is); (case k35=>k_is)
  (case a36=>k_is); (case l36=>k_is); (case c36=>k_is); (case k36=>k_is)
  (case a37=>k_is); (case l37=>k_is); (case c37=>k_is); (case k37=>k_is)
  (case a38=>k_is); (case l38=>k_is); (case c38=>k_is); (case k38=>k_is)
  (case a39=>k_is); (case l39=>k_is); (case c39=>k_is); (case k39=>k_is)
  (case a40=>k_is); (case l40=>k_is); (case c40=>k_is); (case k40=>k_is)
  (case a41=>k_is); (case l41=>k_is); (case c41=>k_is); (case k41=>k_is)
  (case a42=>k_is); (case l42=>k_is); (case c42=>k_is); (case k42=>k_is)
  (case a43=>k_is); (case l43=>k_is); (case c43=>k_is); (case k43=>k_is)
  (case a44=>k_is); (case l44=>k_is); (case c44=>k_is); (case k44=>k_is)
  (case a45=>k_is); (case l45=>k_is); (case c45=>k_is); (case k45=>k_is)
  (case ac1=>k_is); (case lc1=>k_is); (case z1=>k_is); (case z2=>k_is)
  (case z3=>k_is); (case z4=>k_is); (case z5=>k_is); (case z6=>k_is)
  (case z7=>k_is); (case z8=>k_is); (case z9=>k_is); (case z10=>k_is)
  (case z11=>k_is); (case z12=>k_is)
end
