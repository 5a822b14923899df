import PyProof.Rows.All
import Wide.All
import OpenK.AllK
import Wide.FinOn
import Lean
import PyProof.EqAt
import PyProof.EqKinds
import PyProof.TupleCall
import PyProof.NeKinds
import KE.KMinBuiltin
import PyProof.Rows.CallKwBuiltin
import KE.KDictList
import PyProof.ZipIter
import PyProof.EnumFor
import PyProof.EnumMake
import PyProof.EnumStmt
import PyProof.Rows.Range3
import KE.KItemsList
import PyProof.ListRange
import KE.KIsAll
import PyProof.TupleIter
import PyProof.StationsW
import OpenK.KOwn
import PyProof.RulesDel
import PyProof.ExcArgsOwn
import PyProof.ExcAttrAll.ValueError
import KE.IntBitsLaws
import PyProof.IsRules
import PyProof.SetKind
import PyProof.Rows.SetFrom
import PyProof.CollectWalk
import PyProof.ListNew
import PyProof.Seq
import KE.KSortedM
import PyProof.InstStoreFacts
import PyProof.ExcInit
import KE.KSortTup
import PyProof.AttrMissSeq
import KE.KEqDict
import PyProof.Rows.FStr
import PyProof.Rows.StrJoin2
import OpenK.KTop
import PyProof.StrLaws
import PyProof.TupleKey
import PyProof.SetRoads
import PyProof.StrBlockH
import PyProof.StrWalks
import PyProof.Rows.StrNews2
import PyProof.Rows.StrFirst
import PyProof.StrLawsTight
import PyProof.StrLawsIn
import PyProof.StrLawsIdx
import KE.KIntText
import PyProof.CallStr
import PyProof.RangeIter
import PySem.Challenge.RW_shiftsums_k17_ways_and_terms
open List renaming getElem?_eq_getElem → qA
open List renaming getElem?_eq_some_iff → qB
open List renaming length_map → qC
open List renaming getD_eq_getElem?_getD → qD
open List renaming mem_of_getElem? → qE
open List renaming length_append → qF
open List renaming getElem?_append_right → qG
open List renaming getElem?_append_left → qH
open List renaming getElem?_map → qI
open Nat renaming lt_of_lt_of_le → qJ
open List renaming mem_append_right → qK
open List renaming length_replicate → qL
open List renaming size_toArray → qM
open Nat renaming pow_le_pow_right → qN
open List renaming length_take → qO
open List renaming mem_map → qP
open List renaming replicate → qQ
section
set_option Elab.async false
set_option linter.all false
set_option maxRecDepth 100000
namespace L2
open PySem PySem.Spec PyProof.Rows
abbrev Key:=Sum Int Str
def keyIs:Key -> Value -> Bool
 | .inl k,v=>Value.isInt k v
 | .inr x,v=>Value.isStrOf x v
def keyH (w:World):Key -> Int
 | .inl k=>hashInt k
 | .inr x=>hashStr w x
theorem keyIs_shape:∀ {k:Key} {v:Value},keyIs k v=true -> (∃ i t,k=Sum.inl i /\ v=Value.int i t) \/ (∃ x t,k=Sum.inr x /\ v=Value.str x t)
 | .inl i,v,h=>by
  obtain ⟨t,e⟩:=Value.isInt_shape (k:=i) (v:=v) h
  exact .inl ⟨i,t,rfl,e⟩
 | .inr x,v,h=>by
  obtain ⟨t,e⟩:=Value.isStrOf_shape (x:=x) (v:=v) h
  exact .inr ⟨x,t,rfl,e⟩
theorem key_ll (a b:Int):decide ((Sum.inl a:Key)=Sum.inl b)=(a == b):=by
 by_cases e:a=b
 ·subst e; simp
 ·have h:¬ (Sum.inl a:Key)=Sum.inl b:=fun q=>e (Sum.inl.inj q)
  rw [decide_eq_false h]
  exact (beq_eq_false_iff_ne.mpr e).symm
theorem key_rr (a b:Str):decide ((Sum.inr a:Key)=Sum.inr b)=decide (a=b):=by
 by_cases e:a=b
 ·subst e; simp
 ·have h:¬ (Sum.inr a:Key)=Sum.inr b:=fun q=>e (Sum.inr.inj q)
  rw [decide_eq_false h,decide_eq_false e]
theorem key_lr (a:Int)(b:Str):decide ((Sum.inl a:Key)=Sum.inr b)=false:=decide_eq_false (fun q=>nomatch q)
theorem key_rl (a:Str)(b:Int):decide ((Sum.inr a:Key)=Sum.inl b)=false:=decide_eq_false (fun q=>nomatch q)
def mixKind (prog:Program)(w:World):PySem.KeyKind prog w Key where
 is:=keyIs
 hash:=keyH w
 inj:=fun v a b ha hb=>by
  rcases keyIs_shape ha with ⟨i,t,rfl,rfl⟩ | ⟨x,t,rfl,rfl⟩
  ·rcases keyIs_shape hb with ⟨j,u,rfl,e⟩ | ⟨y,u,rfl,e⟩
   ·injection e with e1 _; rw [e1]
   ·exact nomatch e
  ·rcases keyIs_shape hb with ⟨j,u,rfl,e⟩ | ⟨y,u,rfl,e⟩
   ·exact nomatch e
   ·injection e with e1 _; rw [e1]
 byValue:=fun k v h=>by
  rcases keyIs_shape h with ⟨i,t,rfl,rfl⟩ | ⟨x,t,rfl,rfl⟩ <;> rfl
 pyHash:=fun hv h=>by
  rcases keyIs_shape hv with ⟨i,t,rfl,rfl⟩ | ⟨x,t,rfl,rfl⟩
  ·exact wpAny_pyHash_int h
  ·exact wpAny_pyHash_str h
 eqBool:=fun hu hv h=>by
  rcases keyIs_shape hu with ⟨i,t,rfl,rfl⟩ | ⟨x,t,rfl,rfl⟩
  ·rcases keyIs_shape hv with ⟨j,u,rfl,rfl⟩ | ⟨y,u,rfl,rfl⟩
   ·rw [key_ll] at h; exact wpAny_eqBool_int h
   ·rw [key_lr] at h; exact SeqAt.EqAt.int_str i t y u _ _ _ _ h
  ·rcases keyIs_shape hv with ⟨j,u,rfl,rfl⟩ | ⟨y,u,rfl,rfl⟩
   ·rw [key_rl] at h; exact SeqAt.EqAt.str_int x t j u _ _ _ _ h
   ·rw [key_rr] at h; exact wpAny_eqBool_str h
 «strs»:=fun k x t v h=>by
  rcases keyIs_shape h with ⟨i,u,rfl,e⟩ | ⟨y,u,rfl,e⟩
  ·exact nomatch e
  ·injection e with e1 _
   subst e1
   cases v <;> rfl
end L2
namespace L2
open PySem PySem.Spec PyProof.Rows
inductive V where
 | non | bl (b:Bool) | int (i:Int) | str (x:Str) | byt (b:Array UInt8) | flt (b:UInt64) | ref (a:Addr) | ty (n:String)
 deriving DecidableEq
def RelV:V -> Value -> Prop
 | .non,u=>u=Value.none
 | .bl b,u=>u=Value.bool b
 | .int i,u=>∃ t,u=Value.int i t
 | .str x,u=>∃ t,u=Value.str x t
 | .byt b,u=>∃ t,u=Value.bytes b t
 | .flt b,u=>∃ t,u=Value.float b t
 | .ref a,u=>u=Value.ref a
 | .ty n,u=>u=Value.type n
abbrev Vals:List V -> List Value -> Prop:=Paired RelV
theorem Vals.length {xs:List V}{us:List Value}(r:Vals xs us):xs.length=us.length:=Paired.length r
theorem Vals.get:∀ {xs:List V} {us:List Value} {i:Nat} {x:V},Vals xs us -> xs[i]? = some x -> ∃ u,us[i]? = some u /\ RelV x u
 | _,_,_,_,.nil,e=>by simp at e
 | _,_,0,_,.cons r _,e=>by simp at e; subst e; exact ⟨_,rfl,r⟩
 | _,_,i+1,x,.cons _ t,e=>by
  obtain ⟨u,h1,h2⟩:=Vals.get (i:=i) (x:=x) t (by simpa using e)
  exact ⟨u,by simpa using h1,h2⟩
theorem Vals.set {x:V}{u:Value}(r:RelV x u):∀ {xs:List V} {us:List Value} (i:Nat),Vals xs us -> Vals (xs.set i x) (us.set i u)
 | _,_,_,.nil=>.nil
 | _,_,0,.cons _ t=>.cons r t
 | _,_,i+1,.cons q t=>.cons q (Vals.set r i t)
theorem Vals.append:∀ {xs ys:List V} {us ws:List Value},Vals xs us -> Vals ys ws -> Vals (xs ++ ys) (us ++ ws)
 | _,_,_,_,.nil,s=>s
 | _,_,_,_,.cons r t,s=>.cons r (Vals.append t s)
theorem Vals.take:∀ {xs:List V} {us:List Value} (n:Nat),Vals xs us -> Vals (xs.take n) (us.take n)
 | _,_,0,_=>.nil
 | _,_,_+1,.nil=>.nil
 | _,_,n+1,.cons r t=>.cons r (Vals.take n t)
theorem Vals.drop:∀ {xs:List V} {us:List Value} (n:Nat),Vals xs us -> Vals (xs.drop n) (us.drop n)
 | _,_,0,r=>r
 | _,_,_+1,.nil=>.nil
 | _,_,n+1,.cons _ t=>Vals.drop n t
def RelO:Option V -> Option Value -> Prop
 | some v,some u=>RelV v u
 | none,none=>True
 | _,_=>False
def KV {κ:Type}:List (κ × V) -> List (κ × Value) -> Prop:=Paired fun (p:κ × V) (q:κ × Value)=>p.1=q.1 /\ RelV p.2 q.2
def kV:Key -> V
 | .inl i=>.int i
 | .inr x=>.str x
inductive HO where
 | lst (xs:List V)
 | tup (xs:List V)
 | dK (kvs:List (Key × V)) | dT (kvs:List (List Key × V))
 | set (S:Int -> Bool) (n:Nat)
 | ins (C dx:Addr) (fs:List (Str × V))
 | own (x:Addr)
 | xd (fs:List (Str × V))
 | met (f x:Addr)
 | rng (lo hi:Int)
 | frz (o:Obj) (u:HO)
 | tbl (ps:Array Value)
 | ext (φ:Heap -> Prop)
abbrev Hp:=Addr -> Option HO
def upd (H:Hp)(a:Addr)(o:HO):Hp:=fun b=>if b=a then some o else H b
theorem upd_same {H:Hp}{a:Addr}{o:HO}:upd H a o a=some o:=by unfold upd; rw [if_pos rfl]
theorem upd_ne {H:Hp}{a b:Addr}{o:HO}(h:b ≠ a):upd H a o b=H b:=by unfold upd; rw [if_neg h]
theorem upd_upd {H:Hp}{a:Addr}{o u:HO}:upd (upd H a o) a u=upd H a u:=by
 funext b; unfold upd; split <;> rfl
theorem ne_of {H:Hp}{a b:Addr}{o u:HO}(h:H a=some o)(h':H b=some u)(d:o ≠ u):a ≠ b:=by
 intro e; subst e; rw [h] at h'; exact d (Option.some.inj h')
theorem ne_of_none {H:Hp}{a b:Addr}{o:HO}(h:H a=some o)(h':H b=none):a ≠ b:=by
 intro e; subst e; rw [h] at h'; cases h'
section
variable (P:Program)(w:World)
def ObjOk (H:Hp)(h:Heap)(a:Addr):HO -> Prop
 | .lst xs=>xs.length <= sizeLine /\ ∃ (its:List Value) (n:Nat),Vals xs its /\ h.get? a=some { cls:=.type "list",data:=.seq its.toArray n }
 | .tup xs=>xs.length <= sizeLine /\ ∃ its:List Value,Vals xs its /\ IsTup h a its.toArray
 | .dK kvs=>kvs.length <= sizeLine /\ (a == sysModules)=false /\ ∃ vs,KV kvs vs /\ h.DictOf (mixKind P w) a vs
 | .dT kvs=>kvs.length <= sizeLine /\ (a == sysModules)=false /\ ∃ xs:List (List Key × Addr × Value),
   Paired (fun (p:List Key × V) (q:List Key × Addr × Value)=>p.1=q.1 /\ H q.2.1=some (.tup (p.1.map kV)) /\ RelV p.2 q.2.2) kvs xs /\
   ∃ o es ep,h.get? a=some o /\ o.ExactDict /\ o.data = .dict es ep /\ es.toList=xs.map (entryOfKey (tupleKind (mixKind P w))) /\ (xs.map (·.1)).Nodup
 | .set S n=>h.SetOf (intKind P w) a S n
 | .ins C dx fs=>H dx=some (.own a) /\ fs.length <= 1000 /\ dx ≠ a /\ h.get? a=some (PySem.W.instObj C dx) /\
   ∃ mA,h.Ns1 dx mA /\ (∀ f,RelO (fs.lookup f) (mA f)) /\ PySem.Within mA (fs.map (·.1))
 | .own _=>∃ o,h.get? a=some o
 | .xd fs=>∃ mA,h.Ns1 a mA /\ ∀ f,RelO (fs.lookup f) (mA f)
 | .rng lo hi=>∃ t u v,h.get? a=some { cls:=.type "range",data:=.fields #[.int lo t,.int hi u,.int 1 v] }
 | .frz o u=>h.get? a=some o /\ ObjOk H h a u
 | .tbl ps=>h.get? a=some { cls:=.none,data:=.fields ps }
 | .met f x=>h.get? a=some (PySem.W.methodObj (.ref f) (.ref x))
 | .ext φ=>φ h /\ (∃ o,h.get? a=some o) /\ ∀ h1 h2:Heap,φ h1 -> (∀ o,h1.get? a=some o -> h2.get? a=some o) -> φ h2
def HOk (H:Hp)(h:Heap):Prop:=∀ a o,H a=some o -> ObjOk P w H h a o
end
section
variable {P:Program}{w:World}{H H':Hp}{h h':Heap}{a:Addr}{o:HO}
theorem ObjOk.lt (x:ObjOk P w H h a o):a < h.objs.size:=by
 cases o with
 | lst xs=>obtain ⟨_,_,_,_,e⟩:=x; exact Heap.lt_size e
 | tup xs=>obtain ⟨_,_,_,p⟩:=x; exact p.lt
 | dK kvs=>obtain ⟨_,_,_,_,o,_,_,e,_⟩:=x; exact Heap.lt_size e
 | dT kvs=>obtain ⟨_,_,_,_,o,_,_,e,_⟩:=x; exact Heap.lt_size e
 | set S n=>obtain ⟨o,_,_,_,e,_⟩:=x; exact Heap.lt_size e
 | ins C dx fs=>obtain ⟨_,_,_,e,_⟩:=x; exact Heap.lt_size e
 | own y=>obtain ⟨_,e⟩:=x; exact Heap.lt_size e
 | xd fs=>obtain ⟨_,⟨_,_,_,e,_⟩,_⟩:=x; exact Heap.lt_size e
 | rng lo hi=>obtain ⟨_,_,_,e⟩:=x; exact Heap.lt_size e
 | frz ob u=>obtain ⟨e,_⟩:=x; exact Heap.lt_size e
 | tbl ps=>exact Heap.lt_size (show h.get? a=some _ from x)
 | met f y=>exact Heap.lt_size (show h.get? a=some _ from x)
 | ext φ=>obtain ⟨_,⟨_,e⟩,_⟩:=x; exact Heap.lt_size e
theorem Paired.mapP {α β:Type}{F G:α -> β -> Prop}:∀ {l₁:List α} {l₂:List β},Paired F l₁ l₂ -> (∀ a b,F a b -> G a b) -> Paired G l₁ l₂
 | _,_,.nil,_=>.nil
 | _,_,.cons r t,f=>.cons (f _ _ r) (Paired.mapP t f)
theorem ObjOk.stay (x:ObjOk P w H h a o)(k:∀ b u,(b=a \/ H b=some (.own a)) -> h.get? b=some u -> h'.get? b=some u)
  (ho:∀ b,H b=some (.own a) -> H' b=some (.own a)) (ht:∀ b xs,H b=some (.tup xs) -> H' b=some (.tup xs)):ObjOk P w H' h' a o:=by
 induction o with
 | lst xs=>obtain ⟨z,its,n,r,e⟩:=x; exact ⟨z,its,n,r,k _ _ (.inl rfl) e⟩
 | tup xs=>obtain ⟨z,its,r,ob,e,c⟩:=x; exact ⟨z,its,r,ob,k _ _ (.inl rfl) e,c⟩
 | dK kvs=>obtain ⟨z,y,vs,r,ob,es,ep,e,c⟩:=x; exact ⟨z,y,vs,r,ob,es,ep,k _ _ (.inl rfl) e,c⟩
 | dT kvs =>
  obtain ⟨z,y,xs,r,ob,es,ep,e,c⟩:=x
  exact ⟨z,y,xs,Paired.mapP r fun p q z=>⟨z.1,ht _ _ z.2.1,z.2.2⟩,ob,es,ep,k _ _ (.inl rfl) e,c⟩
 | set S n=>obtain ⟨ob,es,ep,t,e,c⟩:=x; exact ⟨ob,es,ep,t,k _ _ (.inl rfl) e,c⟩
 | ins C dx fs =>
  obtain ⟨d,z,ne,e,mA,⟨od,es,ep,e2,c⟩,r⟩:=x
  exact ⟨ho _ d,z,ne,k _ _ (.inl rfl) e,mA,⟨od,es,ep,k _ _ (.inr d) e2,c⟩,r⟩
 | own y=>obtain ⟨ob,e⟩:=x; exact ⟨ob,k _ _ (.inl rfl) e⟩
 | xd fs=>obtain ⟨mA,⟨od,es,ep,e,c⟩,r⟩:=x; exact ⟨mA,⟨od,es,ep,k _ _ (.inl rfl) e,c⟩,r⟩
 | rng lo hi=>obtain ⟨t,u,v,e⟩:=x; exact ⟨t,u,v,k _ _ (.inl rfl) e⟩
 | frz ob u ih=>obtain ⟨e,q⟩:=x; exact ⟨k _ _ (.inl rfl) e,ih q⟩
 | tbl ps =>
  have e:h.get? a=some { cls:=.none,data:=.fields ps }:=x
  show h'.get? a=some { cls:=.none,data:=.fields ps }
  exact k a _ (.inl rfl) e
 | met f y =>
  have e:h.get? a=some (PySem.W.methodObj (.ref f) (.ref y)):=x
  show h'.get? a=some (PySem.W.methodObj (.ref f) (.ref y))
  exact k a _ (.inl rfl) e
 | ext φ=>obtain ⟨p,⟨o,e⟩,st⟩:=x; exact ⟨st _ _ p fun o q=>k _ _ (.inl rfl) q,⟨o,k _ _ (.inl rfl) e⟩,st⟩
theorem HOk.lt (x:HOk P w H h)(e:H a=some o):a < h.objs.size:=(x a o e).lt
theorem HOk.fresh (x:HOk P w H h)(e:h.objs.size <= a):H a=none:=by
 cases q:H a with
 | none=>rfl
 | some u=>exact absurd (qJ (x.lt q) e) (Nat.lt_irrefl _)
theorem HOk.kept (x:HOk P w H h)(k:∀ b u,h.get? b=some u -> h'.get? b=some u):HOk P w H h':=fun a o e =>
 (x a o e).stay (fun b u _ q=>k b u q) (fun _ q=>q) fun _ _ q=>q
theorem HOk.laid (x:HOk P w H h)(k:∀ b u,h.get? b=some u -> h'.get? b=some u)(hp:h.objs.size <= a)(new:ObjOk P w (upd H a o) h' a o):HOk P w (upd H a o) h':=fun b u e=>by
 have hn:=x.fresh hp
 by_cases hb:b=a
 ·subst hb; rw [upd_same] at e; cases e; exact new
 ·rw [upd_ne hb] at e
  exact (x b u e).stay (fun c v _ q=>k c v q) (fun c q=>by rw [upd_ne (ne_of_none q hn)]; exact q) fun c xs q=>by rw [upd_ne (ne_of_none q hn)]; exact q
end
def Rd (H:Hp)(a:Addr)(u:HO):Prop:=H a=some u \/ ∃ o,H a=some (.frz o u)
theorem Rd.ok {P:Program}{w:World}{H:Hp}{h:Heap}{a:Addr}{u:HO}(r:Rd H a u)(x:HOk P w H h):ObjOk P w H h a u:=by
 rcases r with r | ⟨o,r⟩
 ·exact x a u r
 ·obtain ⟨_,q⟩:=x a _ r
  exact q
def Mut:Option HO -> Prop
 | some (.lst _)=>True
 | some (.dK _)=>True
 | some (.dT _)=>True
 | some (.set _ _)=>True
 | some (.ins _ _ _)=>True
 | some (.ext _)=>True
 | _=>False
section
variable {P:Program}{w:World}{H:Hp}{h h':Heap}{x e:Addr}{o':HO}
theorem HOk.write (ok:HOk P w H h)(mu:Mut (H x))(he:e=x \/ H e=some (.own x))(k:∀ b u,b ≠ e -> h.get? b=some u -> h'.get? b=some u)(heo:∃ u,h'.get? e=some u)
  (new:ObjOk P w (upd H x o') h' x o'):HOk P w (upd H x o') h':=fun b u q=>by
 have nown:∀ c y,H c=some (.own y) -> c ≠ x:=fun c y r z=>by subst z; rw [r] at mu; exact mu
 have ntup:∀ c xs,H c=some (.tup xs) -> c ≠ x:=fun c xs r z=>by subst z; rw [r] at mu; exact mu
 by_cases hb:b=x
 ·subst hb; rw [upd_same] at q; cases q; exact new
 ·rw [upd_ne hb] at q
  by_cases hbe:b=e
  ·have q':H b=some (.own x):=by
    rcases he with z | z
    ·exact absurd (hbe.trans z) hb
    ·rw [hbe]; exact z
   rw [q] at q'; cases q'
   obtain ⟨v,hv⟩:=heo
   exact ⟨v,by rw [hbe]; exact hv⟩
  ·refine (ok b u q).stay (fun c v hc r=>k c v ?_ r) (fun c r=>by rw [upd_ne (nown c b r)]; exact r) fun c xs r=>by rw [upd_ne (ntup c xs r)]; exact r
   rcases hc with rfl | hc
   ·exact hbe
   ·rintro rfl
    rcases he with z | z
    ·exact nown c b hc z
    ·rw [hc] at z; cases z; exact hb rfl
end
structure Un (fs ex:List Addr) (H H':Hp) (h h':Heap):Prop where
 keep:∀ b o,h.get? b=some o -> H b=none -> b ∉ fs -> b ∉ ex -> h'.get? b=some o
 slot:∀ b o,h.get? b=some o -> H b=none -> b ∈ fs -> b ∉ ex -> ∃ sl,h'.get? b=some { o with slots:=sl }
 free:∀ b o,h.get? b=some o -> H b=none -> b ∉ ex -> H' b=none
 there:∀ b o,h.get? b=some o -> b ∉ ex -> ∃ o',h'.get? b=some o'
 tups:∀ b xs,H b=some (.tup xs) -> H' b=some (.tup xs)
 frzs:∀ b o u,H b=some (.frz o u) -> H' b=some (.frz o u)
 tbls:∀ b ps,H b=some (.tbl ps) -> ∃ more,H' b=some (.tbl (ps ++ more))
section
variable {fs fs' ex ex':List Addr}{H H1 H2:Hp}{h h1 h2 h':Heap}{a x e:Addr}{o:HO}
theorem Un.any (u:Un fs ex H H1 h h1){b:Addr}{ob:Obj}(q:h.get? b=some ob)(n:H b=none)(hx:b ∉ ex):∃ sl,h1.get? b=some { ob with slots:=sl }:=by
 by_cases hb:b ∈ fs
 ·exact u.slot b ob q n hb hx
 ·exact ⟨ob.slots,u.keep b ob q n hb hx⟩
theorem Un.kept (k:∀ b u,h.get? b=some u -> h'.get? b=some u):Un fs ex H H h h' :=
 ⟨fun b ob q _ _ _=>k b ob q,fun b ob q _ _ _=>⟨ob.slots,k b ob q⟩,fun _ _ _ n _=>n,fun b ob q _=>⟨ob,k b ob q⟩,fun _ _ q=>q,fun _ _ _ q=>q,fun _ ps q=>⟨#[],by rw [q]; simp⟩⟩
theorem Un.refl:Un fs ex H H h h:=Un.kept fun _ _ q=>q
theorem Un.laid (k:∀ b u,h.get? b=some u -> h'.get? b=some u)(hp:h.objs.size <= a)(hn:H a=none):Un fs ex H (upd H a o) h h' where
 keep:=fun b u q _ _ _=>k b u q
 slot:=fun b u q _ _ _=>⟨u.slots,k b u q⟩
 free:=fun b u q n _=>by rw [upd_ne (Nat.ne_of_lt (qJ (Heap.lt_size q) hp))]; exact n
 there:=fun b u q _=>⟨u,k b u q⟩
 tups:=fun b xs q=>by rw [upd_ne (ne_of_none q hn)]; exact q
 frzs:=fun b u xs q=>by rw [upd_ne (ne_of_none q hn)]; exact q
 tbls:=fun b ps q=>⟨#[],by rw [upd_ne (ne_of_none q hn),q]; simp⟩
theorem Un.write (mu:Mut (H x))(he:e=x \/ H e=some (.own x))(k:∀ b u,b ≠ e -> h.get? b=some u -> h'.get? b=some u)(heo:∃ u,h'.get? e=some u):Un fs ex H (upd H x o) h h':=by
 have hx:∀ b,H b=none -> b ≠ x:=fun b n z=>by subst z; rw [n] at mu; exact mu
 have hb:∀ b,H b=none -> b ≠ e:=fun b n z=>by
  subst z
  rcases he with r | r
  ·exact hx b n r
  ·rw [n] at r; cases r
 have hm:∀ b u,H b=some u -> ¬ Mut (some u) -> b ≠ x:=fun b u q nm z=>by subst z; rw [q] at mu; exact nm mu
 refine ⟨fun b u q n _ _=>k b u (hb b n) q,fun b u q n _ _=>⟨u.slots,k b u (hb b n) q⟩,fun b u q n _=>by rw [upd_ne (hx b n)]; exact n,fun b u q _=>?_,
  fun b xs q=>by rw [upd_ne (hm b _ q fun z=>z)]; exact q,fun b u xs q=>by rw [upd_ne (hm b _ q fun z=>z)]; exact q,fun b ps q=>⟨#[],by rw [upd_ne (hm b _ q fun z=>z),q]; simp⟩⟩
 by_cases hbe:b=e
 ·subst hbe; exact heo
 ·exact ⟨u,k b u hbe q⟩
end
def trk (h:Heap)(H:Hp):List Addr:=(List.range h.objs.size).filter fun a=>(H a).isSome
def hidT (h:Heap)(H:Hp):Heap:=PySem.W.hideAll h (trk h H)
theorem hidT_size (h:Heap)(H:Hp):(hidT h H).objs.size=h.objs.size:=PySem.W.hideAll_size _ _
theorem hidT_get {h:Heap}{H:Hp}{b:Addr}{o:Obj}(e:h.get? b=some o)(n:H b=none):(hidT h H).get? b=some o :=
 PySem.W.hideAll_get _ e fun hm=>by
  have q:(H b).isSome=true:=(List.mem_filter.mp hm).2
  rw [n] at q; simp at q
theorem of_hidT {h:Heap}{H:Hp}{b:Addr}{o:Obj}(e:(hidT h H).get? b=some o):h.get? b=some o /\ H b=none:=by
 have e':h.get? b=some o:=PySem.W.of_hideAll (trk h H) e
 refine ⟨e',?_⟩
 cases q:H b with
 | none=>rfl
 | some x =>
  have hm:b ∈ trk h H:=List.mem_filter.mpr ⟨List.mem_range.mpr (Heap.lt_size e'),by simp [q]⟩
  have z:(hidT h H).get? b=none:=PySem.W.hideAll_none (trk h H) hm
  rw [z] at e; cases e
def allNews (g h:Heap)(L:Addr):List (Addr × Obj):=(List.range h.objs.size).filterMap fun a=>if a=L \/ (g.get? a).isSome=true then none else (h.get? a).map fun o=>(a,o)
def rest (g h:Heap)(L d:Addr):List (Addr × Obj):=(allNews g h L).filter fun p=>decide (p.1 ≠ d)
end L2
namespace L2
open PySem PySem.Spec PyProof.Rows
structure Mod (K:PySem.W.Frag) (mg:Str -> Option Value) (base:Heap):Prop where
 kin:K.In base
 glob:base.Ns mainGlobals mg
 blt:∃ mb,base.Ns builtinsNs mb /\ ∀ x:Str,x ≠ "__name__" -> mb x=bootBuiltins x
 nolimit:base.NoLimit
structure Cx where
 prog:Program
 w:World
 K:PySem.W.Frag
 mg:Str -> Option Value
 base:Heap
 A:Around
 N:List Str
 s₀:Shared
 H₀:Hp
 env:Env
 outer:List Env
 stack:List Env
 ex:List Addr
 fn:Str -> Bool
 calm:Bool
 pn:List (Addr × Obj)
 xe:Value -> Shared -> Prop
def frs (l:List Env):List Addr:=l.filterMap (·.frame)
abbrev Cx.fs (X:Cx):List Addr:=frs X.outer
def Vis (sc:Scope)(x:Str):Prop:=sc.names.lookup x=some .local \/ sc.names.lookup x=some .cell \/ sc.names.lookup x=some .free
def Loc (sc:Scope)(x:Str):Prop:=sc.names.lookup x=some .local \/ sc.names.lookup x=some .cell
def Look (env:Env)(h:Heap)(m:Str -> Option Value)(x:Str)(u:Value):Prop :=
 (env.kindOf x=some .local /\ m x=some u) \/ ((env.kindOf x=some .cell \/ env.kindOf x=some .free) /\ ∃ c,env.cells.lookup x=some c /\ h.IsCell c (some u))
structure Cx.Ok (X:Cx):Prop where
 mod:Mod X.K X.mg X.base
 kind:X.env.scope.kind = .function
 glob:X.env.globals=mainGlobals
 blt:X.env.builtins=builtinsNs
 above:X.s₀.heap.objs.size <= X.env.locals
 inj:∀ x y c,X.env.cells.lookup x=some c -> X.env.cells.lookup y=some c -> x=y
 has:∀ x,(X.env.kindOf x=some .cell \/ X.env.kindOf x=some .free) -> ∃ c,X.env.cells.lookup x=some c
 cab:∀ x c,X.fn x=true -> X.env.cells.lookup x=some c -> X.s₀.heap.objs.size <= c
 hd:X.calm=true -> X.A.handled=none
 frames:X.A.frames=some X.stack
 stk:X.stack=X.outer \/ (X.stack=X.env :: X.outer /\ X.env.frame=some X.env.locals)
 exf:∀ b ∈ X.ex,b ≠ X.env.locals /\ ∀ x c,X.env.cells.lookup x=some c -> c ≠ b
 bs:∀ b o,X.base.get? b=some o -> X.s₀.heap.get? b=some o /\ X.H₀ b=none
 bsz:X.base.objs.size <= X.s₀.heap.objs.size
 noex:∀ b o,X.base.get? b=some o -> b ∉ X.ex
 exfs:∀ b ∈ X.ex,b ∉ X.fs
 funs:X.s₀.heap.FunFrames X.base X.outer
 frf:∀ b ∈ X.fs,X.H₀ b=none
structure Inv (X:Cx) (pins:List (Addr × Obj)) (σ:List (Option V)) (H:Hp) (s:Shared):Prop where
 ok:X.Ok
 os:s.os=X.s₀.os
 bare:AllBare s.gens
 base:Un X.fs X.ex X.H₀ H X.s₀.heap s.heap
 loc:∃ m,s.heap.Ns X.env.locals m /\ ∀ (i:Nat) (x:Str) (v:V),X.N[i]? = some x -> σ[i]? = some (some v) -> Vis X.env.scope x -> ∃ u,RelV v u /\ Look X.env s.heap m x u
 cell:∀ x c,X.env.cells.lookup x=some c -> ∃ v,s.heap.IsCell c v
 free:H X.env.locals=none
 freeC:∀ x c,X.env.cells.lookup x=some c -> H c=none
 pin:∀ p ∈ X.pn ++ pins,s.heap.get? p.1=some p.2 /\ H p.1=none /\ p.1 ≠ X.env.locals /\ p.1 ∉ X.fs /\ ∀ v,p.2.data ≠ .cell v
 hok:HOk X.prog X.w H s.heap
 len:σ.length=X.N.length
section
variable {X:Cx}{pins:List (Addr × Obj)}{σ:List (Option V)}{H H':Hp}{s:Shared}{h':Heap}
theorem Cx.Ok.nofr (ok:X.Ok){b:Addr}{o:Obj}(e:X.base.get? b=some o):b ∉ X.fs:=fun hb=>by
 have:=(ok.funs.mem hb).1
 rw [e] at this; cases this
theorem Inv.bs (I:Inv X pins σ H s):∀ b o,X.base.get? b=some o -> s.heap.get? b=some o /\ H b=none:=fun b o e =>
 ⟨I.base.keep b o (I.ok.bs b o e).1 (I.ok.bs b o e).2 (I.ok.nofr e) (I.ok.noex b o e),I.base.free b o (I.ok.bs b o e).1 (I.ok.bs b o e).2 (I.ok.noex b o e)⟩
theorem Inv.bk (I:Inv X pins σ H s):∀ b o,X.base.get? b=some o -> s.heap.get? b=some o:=fun b o e=>(I.bs b o e).1
theorem Inv.mod (I:Inv X pins σ H s):Mod X.K X.mg X.base:=I.ok.mod
theorem Inv.kIn (I:Inv X pins σ H s):X.K.In s.heap:=I.ok.mod.kin.keeps I.bk
theorem Inv.lt (I:Inv X pins σ H s):X.env.locals < s.heap.objs.size:=let ⟨_,hn,_⟩:=I.loc; hn.lt
theorem Inv.sz (I:Inv X pins σ H s):X.s₀.heap.objs.size <= s.heap.objs.size:=Nat.le_trans I.ok.above (Nat.le_of_lt I.lt)
theorem Inv.nofs (I:Inv X pins σ H s){a:Addr}(h:s.heap.objs.size <= a):a ∉ X.fs:=fun hb=>by
 obtain ⟨_,o,ho,_⟩:=I.ok.funs.mem hb
 exact absurd (qJ (Heap.lt_size ho) (Nat.le_trans I.sz h)) (Nat.lt_irrefl _)
theorem Inv.cne (I:Inv X pins σ H s):∀ x c,X.env.cells.lookup x=some c -> c ≠ X.env.locals:=fun x c e z=>by
 obtain ⟨v,o,ho,hd⟩:=I.cell x c e
 obtain ⟨m,⟨o',es,ep,ho',hd',_⟩,_⟩:=I.loc
 rw [z,ho'] at ho; cases ho; rw [hd'] at hd; cases hd
theorem Inv.funs (I:Inv X pins σ H s):s.heap.FunFrames X.base X.outer:=by
 have all:∀ (l:List Env),(∀ b ∈ frs l,b ∈ X.fs) -> X.s₀.heap.FunFrames X.base l -> s.heap.FunFrames X.base l:=by
  intro l
  induction l with
  | nil=>intro _ _; trivial
  | cons env r ih =>
   intro hs hl
   obtain ⟨hk,⟨L,o,hf,hn,ho,hd⟩,hr⟩:=hl
   have hL:L ∈ X.fs:=hs L (by unfold frs; rw [List.filterMap_cons,hf]; exact List.mem_cons_self)
   obtain ⟨sl,e⟩:=I.base.slot L o ho (I.ok.frf L hL) hL fun z=>I.ok.exfs L z hL
   exact ⟨hk,⟨L,_,hf,hn,e,hd⟩,ih (fun b hb=>hs b (by unfold frs; rw [List.filterMap_cons,hf]; exact List.mem_cons_of_mem _ hb)) hr⟩
 exact all X.outer (fun _ hb=>hb) I.ok.funs
theorem Inv.stack (I:Inv X pins σ H s):s.heap.FunFrames X.base X.stack:=by
 rcases I.ok.stk with e | ⟨e,hf⟩
 ·rw [e]; exact I.funs
 ·rw [e]
  obtain ⟨m,hn,_⟩:=I.loc
  refine .cons (by rw [I.ok.kind]; decide) hf hn ?_ I.funs
  exact Heap.get?_none_of_le (Nat.le_trans I.ok.bsz I.ok.above)
theorem Inv.stkSub (I:Inv X pins σ H s):∀ b ∈ frs X.stack,b ∈ X.env.locals :: X.fs:=fun b hb=>by
 rcases I.ok.stk with e | ⟨e,hf⟩
 ·rw [e] at hb; exact List.mem_cons_of_mem _ hb
 ·rw [e] at hb
  unfold frs at hb
  rw [List.filterMap_cons,hf] at hb
  exact hb
theorem Inv.stkFree (I:Inv X pins σ H s):∀ b ∈ frs X.stack,H b=none:=fun b hb=>by
 rcases List.mem_cons.mp (I.stkSub b hb) with e | hb
 ·rw [e]; exact I.free
 ·obtain ⟨_,o,ho,_⟩:=I.ok.funs.mem hb
  exact I.base.free b o ho (I.ok.frf b hb) fun z=>I.ok.exfs b z hb
theorem Inv.step {g':Array GenState}{t':Nat}{d':Drawn}{ch:List Addr}(I:Inv X pins σ H s)
  (hch:∀ b ∈ ch,(b ∈ X.ex \/ X.s₀.heap.objs.size <= b) /\ b ≠ X.env.locals /\ (∀ x c,X.env.cells.lookup x=some c -> c ≠ b) /\ ∀ p ∈ X.pn ++ pins,p.1 ≠ b)
  (keep:∀ b o,b ≠ X.env.locals -> b ∉ X.fs -> b ∉ ch -> s.heap.get? b=some o -> H b=none -> h'.get? b=some o)
  (slot:∀ b o,b ≠ X.env.locals -> b ∈ X.fs -> b ∉ ch -> s.heap.get? b=some o -> H b=none -> ∃ sl,h'.get? b=some { o with slots:=sl }) (free:∀ b o,b ∉ ch -> s.heap.get? b=some o -> H b=none -> H' b=none)
  (there:∀ b o,b ∉ ch -> s.heap.get? b=some o -> ∃ o',h'.get? b=some o')
  (tups:∀ b xs,H b=some (.tup xs) -> H' b=some (.tup xs)) (frzs:∀ b o u,H b=some (.frz o u) -> H' b=some (.frz o u)) (tbls:∀ b ps,H b=some (.tbl ps) -> ∃ more,H' b=some (.tbl (ps ++ more)))
  (ns:∀ m,s.heap.Ns X.env.locals m -> h'.Ns X.env.locals m) (hok:HOk X.prog X.w H' h') (hg:AllBare g') :
  Inv X pins σ H' { s with heap:=h',gens:=g',drawn:=d',toks:=t' }:=by
 have neL:∀ b o,X.s₀.heap.get? b=some o -> b ≠ X.env.locals:=fun b o e=>Nat.ne_of_lt (qJ (Heap.lt_size e) I.ok.above)
 have neC:∀ b o,X.s₀.heap.get? b=some o -> b ∉ X.ex -> b ∉ ch:=fun b o e hx hb=>by
  rcases (hch b hb).1 with z | z
  ·exact hx z
  ·exact absurd (qJ (Heap.lt_size e) z) (Nat.lt_irrefl _)
 have cellK:∀ x c,X.env.cells.lookup x=some c -> ∀ v,s.heap.IsCell c v -> h'.IsCell c v:=fun x c e v ⟨o,ho,hd⟩=>by
  have nch:c ∉ ch:=fun z=>(hch c z).2.2.1 x c e rfl
  by_cases hc:c ∈ X.fs
  ·obtain ⟨sl,q⟩:=slot c o (I.cne x c e) hc nch ho (I.freeC x c e)
   exact ⟨_,q,hd⟩
  ·exact ⟨o,keep c o (I.cne x c e) hc nch ho (I.freeC x c e),hd⟩
 refine ⟨I.ok,I.os,hg,⟨fun b o e n hb hx=>?_,fun b o e n hb hx=>?_,fun b o e n hx=>?_,fun b o e hx=>?_,fun b xs e=>tups b xs (I.base.tups b xs e),fun b o xs e=>frzs b o xs (I.base.frzs b o xs e),fun b ps e=>?_⟩,?_,fun x c e=>?_,?_,fun x c e=>?_,fun p hp=>?_,hok,I.len⟩
 ·exact keep b o (neL b o e) hb (neC b o e hx) (I.base.keep b o e n hb hx) (I.base.free b o e n hx)
 ·obtain ⟨sl,e1⟩:=I.base.slot b o e n hb hx
  obtain ⟨sl',e2⟩:=slot b _ (neL b o e) hb (neC b o e hx) e1 (I.base.free b o e n hx)
  exact ⟨sl',e2⟩
 ·obtain ⟨o',e1⟩:=I.base.there b o e hx
  exact free b o' (neC b o e hx) e1 (I.base.free b o e n hx)
 ·obtain ⟨o',e1⟩:=I.base.there b o e hx
  exact there b o' (neC b o e hx) e1
 ·obtain ⟨m1,e1⟩:=I.base.tbls b ps e
  obtain ⟨m2,e2⟩:=tbls b _ e1
  exact ⟨m1 ++ m2,by rw [e2,Array.append_assoc]⟩
 ·obtain ⟨m,hn,hl⟩:=I.loc
  refine ⟨m,ns m hn,fun i x v e1 e2 e3=>?_⟩
  obtain ⟨u,r,l⟩:=hl i x v e1 e2 e3
  refine ⟨u,r,?_⟩
  rcases l with l | ⟨k,c,e,z⟩
  ·exact .inl l
  ·exact .inr ⟨k,c,e,cellK x c e _ z⟩
 ·obtain ⟨v,z⟩:=I.cell x c e
  exact ⟨v,cellK x c e v z⟩
 ·obtain ⟨m,⟨o,_,_,ho,_⟩,_⟩:=I.loc
  exact free _ o (fun z=>(hch _ z).2.1 rfl) ho I.free
 ·obtain ⟨v,o,ho,hd⟩:=I.cell x c e
  exact free c o (fun z=>(hch c z).2.2.1 x c e rfl) ho (I.freeC x c e)
 ·obtain ⟨e,n,ne,nf,d⟩:=I.pin p hp
  have nch:p.1 ∉ ch:=fun z=>(hch p.1 z).2.2.2 p hp rfl
  exact ⟨keep p.1 p.2 ne nf nch e n,free p.1 p.2 nch e n,ne,nf,d⟩
theorem Inv.un {t':Nat}(I:Inv X pins σ H s)(u:Un X.fs [] H H' s.heap h')(hok:HOk X.prog X.w H' h'):Inv X pins σ H' { s with heap:=h',toks:=t' }:=by
 obtain ⟨m,⟨o,es,ep,ho,r⟩,_⟩:=id I.loc
 obtain ⟨sl,hL⟩:=u.any ho I.free (by simp)
 exact I.step (g':=s.gens) (d':=s.drawn) (ch:=[]) (fun _ z=>nomatch z) (fun b o _ hb _ e n=>u.keep b o e n hb (by simp)) (fun b o _ hb _ e n=>u.slot b o e n hb (by simp)) (fun b o _ e n=>u.free b o e n (by simp)) (fun b o _ e=>u.there b o e (by simp)) u.tups u.frzs u.tbls (fun m' hm=>by
  obtain ⟨o',es',ep',ho',r'⟩:=hm
  rw [ho] at ho'; cases ho'
  exact ⟨_,es',ep',hL,r'⟩) hok I.bare
theorem Inv.call {g':Array GenState}{t':Nat}{d':Drawn}{ch:List Addr}(I:Inv X pins σ H s)(u:Un (frs X.stack) ch H H' s.heap h')(hok:HOk X.prog X.w H' h')(hg:AllBare g')
  (hch:∀ b ∈ ch,(b ∈ X.ex \/ X.s₀.heap.objs.size <= b) /\ b ≠ X.env.locals /\ (∀ x c,X.env.cells.lookup x=some c -> c ≠ b) /\ ∀ p ∈ X.pn ++ pins,p.1 ≠ b) :
  Inv X pins σ H' { s with heap:=h',gens:=g',drawn:=d',toks:=t' }:=by
 obtain ⟨m,⟨o,es,ep,ho,r⟩,_⟩:=id I.loc
 obtain ⟨sl,hL⟩:=u.any ho I.free fun z=>(hch _ z).2.1 rfl
 exact I.step (ch:=ch) hch (fun b o hL hb hc e n=>u.keep b o e n (fun z=>(List.mem_cons.mp (I.stkSub b z)).elim hL hb) hc) (fun b o _ _ hc e n=>u.any e n hc) (fun b o hc e n=>u.free b o e n hc) (fun b o hc e=>u.there b o e hc) u.tups u.frzs u.tbls (fun m' hm=>by
  obtain ⟨o',es',ep',ho',r'⟩:=hm
  rw [ho] at ho'; cases ho'
  exact ⟨_,es',ep',hL,r'⟩) hok hg
theorem Inv.turned {t':Nat}{it:Addr}(I:Inv X pins σ H s)(k:∀ b o,b ≠ it -> s.heap.get? b=some o -> h'.get? b=some o)(hn:H it=none)(hL:it ≠ X.env.locals)
  (h1:it ∈ X.ex \/ X.s₀.heap.objs.size <= it) (h2:∀ x c,X.env.cells.lookup x=some c -> c ≠ it) (h3:∀ p ∈ X.pn ++ pins,p.1 ≠ it):Inv X pins σ H { s with heap:=h',toks:=t' }:=by
 have nit:∀ b u,H b=some u -> b ≠ it:=fun b u e z=>by rw [z,hn] at e; cases e
 refine I.step (g':=s.gens) (d':=s.drawn) (ch:=[it]) (fun b hb=>?_) (fun b o _ _ hc e _=>k b o (fun z=>hc (by simp [z])) e) (fun b o _ _ hc e _=>⟨o.slots,k b o (fun z=>hc (by simp [z])) e⟩) (fun _ _ _ _ n=>n)
  (fun b o hc e=>⟨o,k b o (fun z=>hc (by simp [z])) e⟩) (fun _ _ e=>e) (fun _ _ _ e=>e) (fun b ps e=>⟨#[],by rw [e]; simp⟩) (fun m hm=>?_) (fun b u e=>?_) I.bare
 ·have e:b=it:=by simpa using hb
  subst e
  exact ⟨h1,hL,h2,h3⟩
 ·obtain ⟨o,es,ep,ho,r⟩:=hm
  exact ⟨o,es,ep,k _ o (Ne.symm hL) ho,r⟩
 ·refine (I.hok b u e).stay (fun c v hc q=>k c v ?_ q) (fun _ q=>q) fun _ _ q=>q
  rcases hc with z | z
  ·rw [z]; exact nit b u e
  ·exact nit c _ z
theorem Inv.tok (I:Inv X pins σ H s)(t:Nat):Inv X pins σ H { s with toks:=t }:=I.un (h':=s.heap) (t':=t) Un.refl I.hok
theorem Inv.kept {t':Nat}(I:Inv X pins σ H s)(k:∀ b u,s.heap.get? b=some u -> h'.get? b=some u):Inv X pins σ H { s with heap:=h',toks:=t' }:=I.un (Un.kept k) (I.hok.kept k)
theorem Inv.laid {a:Addr}{o:HO}{t':Nat}(I:Inv X pins σ H s)(k:∀ b u,s.heap.get? b=some u -> h'.get? b=some u)(hp:s.heap.objs.size <= a)(new:ObjOk X.prog X.w (upd H a o) h' a o) :
  Inv X pins σ (upd H a o) { s with heap:=h',toks:=t' }:=I.un (Un.laid k hp (I.hok.fresh hp)) (I.hok.laid k hp new)
theorem Inv.write {x e:Addr}{o:HO}{t':Nat}(I:Inv X pins σ H s)(mu:Mut (H x))(he:e=x \/ H e=some (.own x))(k:∀ b u,b ≠ e -> s.heap.get? b=some u -> h'.get? b=some u)(heo:∃ u,h'.get? e=some u)
  (new:ObjOk X.prog X.w (upd H x o) h' x o):Inv X pins σ (upd H x o) { s with heap:=h',toks:=t' }:=I.un (Un.write mu he k heo) (I.hok.write mu he k heo new)
theorem Inv.pins_of {pins':List (Addr × Obj)}(I:Inv X pins σ H s)(h:∀ p ∈ pins',s.heap.get? p.1=some p.2 /\ H p.1=none /\ p.1 ≠ X.env.locals /\ p.1 ∉ X.fs /\ ∀ v,p.2.data ≠ .cell v):Inv X pins' σ H s :=
 ⟨I.ok,I.os,I.bare,I.base,I.loc,I.cell,I.free,I.freeC,fun p hp=>(List.mem_append.mp hp).elim (fun z=>I.pin p (List.mem_append_left _ z)) (h p),I.hok,I.len⟩
theorem nodup_ix {N:List Str}(hN:N.Nodup){i j:Nat}{x:Str}(a:N[i]? = some x)(b:N[j]? = some x):i=j:=by
 obtain ⟨h1,e1⟩:=qB.mp a
 obtain ⟨h2,e2⟩:=qB.mp b
 exact (List.getElem_inj hN).mp (e1.trans e2.symm)
theorem store_ok2 {M:Model}{A:Around}{E:Value -> Shared -> Prop}{i:Nat}{x:Str}{v:V}{u:Value}{Q:Unit -> Shared -> Prop}(I:Inv X pins σ H s)(hN:X.N.Nodup)(hi:X.N[i]? = some x)(hx:Loc X.env.scope x)(r:RelV v u)
  (h:∀ s',Inv X pins (σ.set i (some v)) H s' -> (∃ a,Heap.SameBut a s.heap s'.heap /\ (a=X.env.locals \/ X.env.cells.lookup x=some a)) -> Q () s') (hf:X.fn x=true \/ X.env.scope.names.lookup x=some .local:=by first | exact .inl rfl | exact .inr rfl | assumption):wpAny M A (storeName X.env x u) Q E s:=by
 obtain ⟨m,hn,hl⟩:=id I.loc
 have hcls:(X.env.scope.kind == .class || (X.env.scope.kind == .module && X.env.locals != X.env.globals))=false:=by rw [I.ok.kind]; rfl
 have hiσ:i < σ.length:=by rw [I.len]; exact (qB.mp hi).1
 have cne:=I.cne
 have tracked:∀ {a:Addr} {h':Heap},(∃ o,s.heap.get? a=some o /\ H a=none) -> Heap.SameBut a s.heap h' -> HOk X.prog X.w H h':=fun {a h'} ha hs b ob e=>by
  obtain ⟨_,_,hfree⟩:=ha
  refine (I.hok b ob e).stay (fun c w' hc q=>(hs.2 c ?_).trans q) (fun _ q=>q) fun _ _ q=>q
  rintro rfl
  rcases hc with rfl | hc
  ·rw [hfree] at e; cases e
  ·rw [hfree] at hc; cases hc
 rcases hx with hk | hk
 ·refine wpAny_storeName_local hk hn (fun h' hn' hs=>?_) hcls
  obtain ⟨oL,_,_,hoL,_⟩:=id hn
  refine h _ ⟨I.ok,I.os,I.bare,⟨fun b o e n hb hx=>?_,fun b o e n hb hx=>?_,I.base.free,fun b o e hx=>?_,I.base.tups,I.base.frzs,I.base.tbls⟩,⟨_,hn',fun j y v' e1 e2 e3=>?_⟩,fun y c e=>?_,I.free,I.freeC,fun p hp=>?_,tracked ⟨oL,hoL,I.free⟩ hs,by simpa using I.len⟩ ⟨_,hs,.inl rfl⟩
  ·exact (hs.2 b (Nat.ne_of_lt (qJ (Heap.lt_size e) I.ok.above))).trans (I.base.keep b o e n hb hx)
  ·obtain ⟨sl,e1⟩:=I.base.slot b o e n hb hx
   exact ⟨sl,(hs.2 b (Nat.ne_of_lt (qJ (Heap.lt_size e) I.ok.above))).trans e1⟩
  ·obtain ⟨o',e1⟩:=I.base.there b o e hx
   exact ⟨o',(hs.2 b (Nat.ne_of_lt (qJ (Heap.lt_size e) I.ok.above))).trans e1⟩
  ·by_cases hj:j=i
   ·subst hj
    rw [hi] at e1; cases e1
    rw [List.getElem?_set_self hiσ] at e2
    cases e2
    exact ⟨u,r,.inl ⟨hk,by simp⟩⟩
   ·rw [List.getElem?_set_ne (Ne.symm hj)] at e2
    obtain ⟨u',r',q⟩:=hl j y v' e1 e2 e3
    refine ⟨u',r',?_⟩
    rcases q with ⟨k,e⟩ | ⟨k,c,e,z⟩
    ·refine .inl ⟨k,?_⟩
     have:y ≠ x:=fun e=>hj (nodup_ix hN e1 (e ▸ hi))
     simp [this,e]
    ·exact .inr ⟨k,c,e,z.sameBut hs (cne y c e)⟩
  ·obtain ⟨w',z⟩:=I.cell y c e
   exact ⟨w',z.sameBut hs (cne y c e)⟩
  ·obtain ⟨e,n,ne,nf,d⟩:=I.pin p hp
   exact ⟨(hs.2 p.1 ne).trans e,n,ne,nf,d⟩
 ·have hfn:X.fn x=true:=by
   rcases hf with z | z
   ·exact z
   ·rw [z] at hk; cases hk
  obtain ⟨c,hc⟩:=I.ok.has x (.inl hk)
  obtain ⟨w',z⟩:=I.cell x c hc
  refine wpAny_storeName_cell I.ok.kind hk hc z (fun h' hc' hs=>?_)
  obtain ⟨oc,hoc,hocd⟩:=id z
  refine h { s with heap:=h' } ⟨I.ok,I.os,I.bare,⟨fun b o e n hb hx=>?_,fun b o e n hb hx=>?_,I.base.free,fun b o e hx=>?_,I.base.tups,I.base.frzs,I.base.tbls⟩,⟨m,hn.sameBut hs (Ne.symm (cne x c hc)),fun j y v' e1 e2 e3=>?_⟩,fun y c' e=>?_,I.free,I.freeC,fun p hp=>?_,tracked ⟨oc,hoc,I.freeC x c hc⟩ hs,by simpa using I.len⟩ ⟨c,hs,.inr hc⟩
  ·exact (hs.2 b (Nat.ne_of_lt (qJ (Heap.lt_size e) (I.ok.cab x c hfn hc)))).trans (I.base.keep b o e n hb hx)
  ·obtain ⟨sl,e1⟩:=I.base.slot b o e n hb hx
   exact ⟨sl,(hs.2 b (Nat.ne_of_lt (qJ (Heap.lt_size e) (I.ok.cab x c hfn hc)))).trans e1⟩
  ·obtain ⟨o',e1⟩:=I.base.there b o e hx
   exact ⟨o',(hs.2 b (Nat.ne_of_lt (qJ (Heap.lt_size e) (I.ok.cab x c hfn hc)))).trans e1⟩
  ·by_cases hj:j=i
   ·subst hj
    rw [hi] at e1; cases e1
    rw [List.getElem?_set_self hiσ] at e2
    cases e2
    exact ⟨u,r,.inr ⟨.inl hk,c,hc,hc'⟩⟩
   ·rw [List.getElem?_set_ne (Ne.symm hj)] at e2
    obtain ⟨u',r',q⟩:=hl j y v' e1 e2 e3
    refine ⟨u',r',?_⟩
    rcases q with q | ⟨k,c',e,z'⟩
    ·exact .inl q
    ·refine .inr ⟨k,c',e,z'.sameBut hs ?_⟩
     rintro rfl
     exact hj (nodup_ix hN e1 (I.ok.inj _ _ _ e hc ▸ hi))
  ·by_cases hcc:c'=c
   ·subst hcc; exact ⟨_,hc'⟩
   ·obtain ⟨w2,z2⟩:=I.cell y c' e
    exact ⟨w2,z2.sameBut hs hcc⟩
  ·obtain ⟨e,n,ne,nf,d⟩:=I.pin p hp
   refine ⟨(hs.2 p.1 ?_).trans e,n,ne,nf,d⟩
   intro q
   rw [q,hoc] at e
   have q':oc=p.2:=Option.some.inj e
   exact d w' (by rw [← q']; exact hocd)
theorem store_ok {M:Model}{A:Around}{E:Value -> Shared -> Prop}{i:Nat}{x:Str}{v:V}{u:Value}{Q:Unit -> Shared -> Prop}(I:Inv X pins σ H s)(hN:X.N.Nodup)(hi:X.N[i]? = some x)(hx:Loc X.env.scope x)(r:RelV v u)
  (h:∀ s',Inv X pins (σ.set i (some v)) H s' -> Q () s') (hf:X.fn x=true \/ X.env.scope.names.lookup x=some .local:=by first | exact .inl rfl | exact .inr rfl | assumption):wpAny M A (storeName X.env x u) Q E s :=
 store_ok2 I hN hi hx r (fun s' I' _=>h s' I') hf
theorem Inv.call' {s':Shared}{ch:List Addr}(I:Inv X pins σ H s)(ho:s'.os=s.os)(u:Un (frs X.stack) ch H H' s.heap s'.heap)(hok:HOk X.prog X.w H' s'.heap)(hg:AllBare s'.gens)
  (hch:∀ b ∈ ch,(b ∈ X.ex \/ X.s₀.heap.objs.size <= b) /\ b ≠ X.env.locals /\ (∀ x c,X.env.cells.lookup x=some c -> c ≠ b) /\ ∀ p ∈ X.pn ++ pins,p.1 ≠ b):Inv X pins σ H' s':=by
 obtain ⟨h',g',d',t',o'⟩:=s'
 have e:o'=s.os:=ho
 subst e
 exact I.call (g':=g') (t':=t') (d':=d') u hok hg hch
end
abbrev XK:=Value -> Option Addr -> Hp -> Prop
abbrev St:=List (Option V)
abbrev VK:=V -> Hp -> Prop
abbrev TE:=St -> Hp -> VK -> Prop
abbrev TT:=St -> Hp -> (Bool -> Hp -> Prop) -> Prop
abbrev TA:=St -> Hp -> (List V -> Hp -> Prop) -> Prop
structure Ends where
 nx:St -> Hp -> Prop
 rt:VK
 bk:St -> Hp -> Prop:=fun _ _=>False
 ct:St -> Hp -> Prop:=fun _ _=>False
abbrev TS:=Ends -> St -> Hp -> Prop
def EP (X:Cx)(pins:List (Addr × Obj))(σ:St)(Q:VK)(u:Value)(s':Shared):Prop:=∃ v H',Inv X pins σ H' s' /\ RelV v u /\ Q v H'
def TP (X:Cx)(pins:List (Addr × Obj))(σ:St)(Q:Bool -> Hp -> Prop)(b:Bool)(s':Shared):Prop:=∃ H',Inv X pins σ H' s' /\ Q b H'
def AP (X:Cx)(pins:List (Addr × Obj))(σ:St)(Q:List V -> Hp -> Prop)(us:List Value)(s':Shared):Prop:=∃ vs H',Inv X pins σ H' s' /\ Vals vs us /\ Q vs H'
def SP (X:Cx)(pins:List (Addr × Obj))(D:Ends)(f:Flow)(s':Shared):Prop :=
 match f with
 | .next=>∃ σ' H',Inv X pins σ' H' s' /\ D.nx σ' H'
 | .brk=>∃ σ' H',Inv X pins σ' H' s' /\ D.bk σ' H'
 | .cont=>∃ σ' H',Inv X pins σ' H' s' /\ D.ct σ' H'
 | .ret u=>∃ v σ' H',Inv X pins σ' H' s' /\ RelV v u /\ D.rt v H'
def PE (X:Cx)(e:Expr)(t:TE):Prop :=
 ∀ (pins:List (Addr × Obj)) (s:Shared) (σ:St) (H:Hp) (Q:VK),Inv X pins σ H s -> t σ H Q -> wpAny (model X.prog X.w) X.A (eval e X.env) (EP X pins σ Q) X.xe s
def PT (X:Cx)(e:Expr)(t:TT):Prop :=
 ∀ (pins:List (Addr × Obj)) (s:Shared) (σ:St) (H:Hp) (Q:Bool -> Hp -> Prop),Inv X pins σ H s -> t σ H Q -> wpAny (model X.prog X.w) X.A (isTrue e X.env (eval e X.env)) (TP X pins σ Q) X.xe s
def PW (X:Cx)(e:Expr)(t:TT):Prop :=
 ∀ (whole:Sem Value) (pins:List (Addr × Obj)) (s:Shared) (σ:St) (H:Hp) (Q:Bool -> Hp -> Prop),Inv X pins σ H s -> t σ H Q -> wpAny (model X.prog X.w) X.A (isTrue e X.env whole) (TP X pins σ Q) X.xe s
theorem PW.pt {X:Cx}{e:Expr}{t:TT}(h:PW X e t):PT X e t:=h _
def PA (X:Cx)(es:List Expr)(t:TA):Prop :=
 ∀ (pos:Pos) (pins:List (Addr × Obj)) (s:Shared) (σ:St) (H:Hp) (Q:List V -> Hp -> Prop),Inv X pins σ H s -> t σ H Q -> wpAny (model X.prog X.w) X.A (spliced (backTo pos (starEach es X.env))) (AP X pins σ Q) X.xe s
def PS (X:Cx)(st:Stmt)(t:TS):Prop :=
 ∀ (pins:List (Addr × Obj)) (s:Shared) (σ:St) (H:Hp) (D:Ends),Inv X pins σ H s -> t D σ H -> wpAny (model X.prog X.w) X.A (exec st X.env) (SP X pins D) X.xe s
def PSs (X:Cx)(st:List Stmt)(t:TS):Prop :=
 ∀ (pins:List (Addr × Obj)) (s:Shared) (σ:St) (H:Hp) (D:Ends),Inv X pins σ H s -> t D σ H -> wpAny (model X.prog X.w) X.A (execs st X.env) (SP X pins D) X.xe s
theorem thn {α:Type}{t:Sem α}{Q Q':α -> Shared -> Prop}{M:Model}{A:Around}{E:Value -> Shared -> Prop}{s:Shared}(h:wpAny M A t Q E s)(hQ:∀ a s,Q a s -> Q' a s):wpAny M A t Q' E s:=wpAny_mono h hQ fun _ _ x=>x
end L2
namespace L2
open PySem PySem.Spec PyProof.Rows
section
variable {X:Cx}
def tVar (i:Nat):TE:=fun σ H Q=>∃ v,σ[i]? = some (some v) /\ Q v H
def tC (v:V):TE:=fun _ H Q=>Q v H
theorem pe_var {i:Nat} {x:Str} {pos:Pos} (hN:X.N[i]? = some x) (hv:Vis X.env.scope x) (hd:(x == ("__debug__" : Str))=false:=by decide) (hcd:(x == ("__classdict__" : Str))=false:=by decide):PE X (.Name x pos) (tVar i):=by
 intro pins s σ H Q I h
 obtain ⟨v,e,h⟩:=h
 obtain ⟨m,hn,hl⟩:=I.loc
 obtain ⟨u,r,l⟩:=hl i x v hN e hv
 have fin:EP X pins σ Q u s:=⟨v,H,I,r,h⟩
 rcases l with ⟨hk,hm⟩ | ⟨hk,c,hc,hcell⟩
 ·exact wpAny_Name (wpAny_loadName_local I.ok.kind hk hn hm fin) hd
 ·rcases hk with hk | hk
  ·exact wpAny_Name (wpAny_loadName_cell I.ok.kind hk hc hcell fin) hd
  ·exact wpAny_Name (wpAny_loadName_free I.ok.kind hk hc hcell fin hcd) hd
theorem pe_int {i j pos}:PE X (.Constant (.int i) j pos) (tC (.int i)):=fun _ _ _ H _ I h=>wpAny_Constant_int ⟨.int i,H,I.tok _,⟨_,rfl⟩,h⟩
theorem pe_bl {b j pos}:PE X (.Constant (.bool b) j pos) (tC (.bl b)):=fun _ _ _ H _ I h=>Constant_bool ⟨.bl b,H,I,rfl,h⟩
theorem pe_non {j pos}:PE X (.Constant .none j pos) (tC .non):=fun _ _ _ H _ I h=>Constant_none ⟨.non,H,I,rfl,h⟩
theorem pe_str {x j pos}:PE X (.Constant (.str x) j pos) (tC (.str x)):=fun _ _ _ H _ I h=>Calls.Constant_str ⟨.str x,H,I.tok _,⟨_,rfl⟩,h⟩
def Gl (X:Cx)(x:Str):Prop:=X.env.kindOf x=some .globalImplicit
theorem ld_glob {E:Value -> Shared -> Prop}{pins:List (Addr × Obj)}{s:Shared}{σ:St}{H:Hp}{x:Str}{u:Value}{pos:Pos}{Q:Value -> Shared -> Prop}(I:Inv X pins σ H s)(hg:Gl X x)(hm:X.mg x=some u)(h:Q u s)
  (hd:(x == ("__debug__" : Str))=false:=by decide):wpAny (model X.prog X.w) X.A (eval (.Name x pos) X.env) Q E s :=
 Calls.Name_function_global I.ok.kind hg (Calls.loadGlobal_global (by rw [I.ok.glob]; exact I.mod.glob.keeps I.bk) hm h) hd
theorem ld_blt {E:Value -> Shared -> Prop}{pins:List (Addr × Obj)}{s:Shared}{σ:St}{H:Hp}{x:Str}{u:Value}{pos:Pos}{Q:Value -> Shared -> Prop}(I:Inv X pins σ H s)(hg:Gl X x)(hm:X.mg x=none)(hv:bootBuiltins x=some u)(h:Q u s)
  (hn:x ≠ "__name__":=by decide) (hd:(x == ("__debug__" : Str))=false:=by decide):wpAny (model X.prog X.w) X.A (eval (.Name x pos) X.env) Q E s:=by
 obtain ⟨mb,h1,h2⟩:=I.mod.blt
 exact Calls.Name_function_global I.ok.kind hg (Calls.loadGlobal_builtin (by rw [I.ok.glob]; exact I.mod.glob.keeps I.bk) hm (by rw [I.ok.blt]; exact h1.keeps I.bk) ((h2 x hn).trans hv) h) hd
theorem pe_glob {x:Str} {v:V} {u:Value} {pos:Pos} (hg:Gl X x) (hm:X.mg x=some u) (r:RelV v u) (hd:(x == ("__debug__" : Str))=false:=by decide):PE X (.Name x pos) (tC v) :=
 fun _ _ _ H _ I h=>ld_glob I hg hm ⟨v,H,I,r,h⟩ hd
theorem pe_bltn {x:Str} {v:V} {u:Value} {pos:Pos} (hg:Gl X x) (hm:X.mg x=none) (hv:bootBuiltins x=some u) (r:RelV v u) (hn:x ≠ "__name__":=by decide) (hd:(x == ("__debug__" : Str))=false:=by decide):PE X (.Name x pos) (tC v) :=
 fun _ _ _ H _ I h=>ld_blt I hg hm hv ⟨v,H,I,r,h⟩ hn hd
variable {a b:Expr}{ta tb:TE}{pos:Pos}
def tIsN (ta:TE):TE:=fun σ H Q=>ta σ H fun x H1=>Q (.bl (decide (x = .non))) H1
def tNotN (ta:TE):TE:=fun σ H Q=>ta σ H fun x H1=>Q (.bl (!decide (x = .non))) H1
def tB (t:TE):TT:=fun σ H Q=>t σ H fun x H1=>∃ c,x = .bl c /\ Q c H1
theorem pt_val {e:Expr}{t:TE}(h:PE X e t)(he:∀ whole,isTrue e X.env whole=(do let v ← whole; standAt e.pos; holding [v] (truthy v)):=by intro _; rfl):PT X e (tB t):=by
 intro pins s σ H Q I hw
 refine isTrue_plain (thn (h pins s σ H _ I hw) fun v s1 ⟨x,H1,I1,r1,q1⟩=>?_) (he _)
 obtain ⟨d,rfl,q⟩:=q1
 cases r1
 exact wpAny_truthy_bool ⟨H1,I1,q⟩
variable {tA tB':TT}{rest:List Expr}
def tAnd (t u:TT):TT:=fun σ H Q=>t σ H fun c H1=>if c=true then u σ H1 Q else Q false H1
def tOr (t u:TT):TT:=fun σ H Q=>t σ H fun c H1=>if c=true then Q true H1 else u σ H1 Q
def tNot (t:TT):TT:=fun σ H Q=>t σ H fun c H1=>Q (!c) H1
theorem pw_or1 (ha:PT X a tA):PW X (.BoolOp .Or [a] pos) tA:=by
 intro wh pins s σ H Q I h
 refine isTrue_or (thn (ha pins s σ H Q I h) fun c s1 e=>?_)
 cases c with
 | false=>exact isTrue_or_nil e
 | true=>exact e
theorem pw_or (ha:PT X a tA)(hb:PW X (.BoolOp .Or (b :: rest) pos) tB'):PW X (.BoolOp .Or (a :: b :: rest) pos) (tOr tA tB'):=by
 intro wh pins s σ H Q I h
 refine isTrue_or (thn (ha pins s σ H _ I h) fun c s1 ⟨H1,I1,q1⟩=>?_)
 cases c with
 | true=>exact ⟨H1,I1,q1⟩
 | false=>exact hb wh pins s1 σ H1 Q I1 q1
theorem pt_not (ha:PT X a tA):PT X (.UnaryOp .Not a pos) (tNot tA):=by
 intro pins s σ H Q I h
 exact isTrue_not (ha pins s σ H (fun c H1=>Q (!c) H1) I h)
def tAndV (ta tb:TE):TE:=fun σ H Q=>ta σ H fun x H1=>∃ c,x = .bl c /\ if c=true then tb σ H1 Q else Q (.bl false) H1
def tOrV (ta tb:TE):TE:=fun σ H Q=>ta σ H fun x H1=>∃ c,x = .bl c /\ if c=true then Q (.bl true) H1 else tb σ H1 Q
def tNotV (ta:TE):TE:=fun σ H Q=>ta σ H fun x H1=>∃ c,x = .bl c /\ Q (.bl (!c)) H1
theorem pe_one {op}{t:TE}(h:PE X a t):PE X (.BoolOp op [a] pos) t:=fun pins s σ H Q I hw=>BoolOp_one (h pins s σ H Q I hw)
theorem pe_and (ha:PE X a ta)(hb:PE X (.BoolOp .And (b :: rest) pos) tb):PE X (.BoolOp .And (a :: b :: rest) pos) (tAndV ta tb):=by
 intro pins s σ H Q I h
 refine BoolOp_and (thn (ha pins s σ H _ I h) fun v s1 ⟨x,H1,I1,r1,q1⟩=>?_)
 obtain ⟨c,rfl,q1⟩:=q1
 cases r1
 refine wpAny_truthy_bool ?_
 cases c with
 | true=>exact hb pins s1 σ H1 Q I1 q1
 | false=>exact ⟨.bl false,H1,I1,rfl,q1⟩
theorem pe_not (ha:PE X a ta):PE X (.UnaryOp .Not a pos) (tNotV ta):=by
 intro pins s σ H Q I h
 refine UnaryOp_ (thn (ha pins s σ H _ I h) fun v s1 ⟨x,H1,I1,r1,q1⟩=>?_)
 obtain ⟨c,rfl,q1⟩:=q1
 cases r1
 exact not_of (wpAny_truthy_bool ⟨.bl (!c),H1,I1,rfl,q1⟩)
def tIf (t:TT)(ta tb:TE):TE:=fun σ H Q=>t σ H fun c H1=>if c=true then ta σ H1 Q else tb σ H1 Q
theorem pe_ifExp {c:Expr}(hc:PT X c tA)(ha:PE X a ta)(hb:PE X b tb):PE X (.IfExp c a b pos) (tIf tA ta tb):=by
 intro pins s σ H Q I h
 refine wpAny_IfExp (thn (hc pins s σ H _ I h) fun d s1 ⟨H1,I1,q1⟩=>?_)
 cases d with
 | true=>exact ha pins s1 σ H1 Q I1 q1
 | false=>exact hb pins s1 σ H1 Q I1 q1
end
end L2
namespace L2
open PySem PySem.Spec PyProof.Rows
def SqL (K:PySem.W.Frag)(H:Hp)(a:Addr)(xs:List V):Prop :=
 Rd H a (.lst xs) \/
  ∃ (o:Obj) (its:Array Value) (n:Nat),K.lookup a=some o /\ o.cls = .type "list" /\ o.dict=none /\ o.data = .seq its n /\ its.size <= sizeLine /\ Vals xs its.toList
def SqT (K:PySem.W.Frag)(H:Hp)(a:Addr)(xs:List V):Prop :=
 Rd H a (.tup xs) \/
  ∃ (o:Obj) (its:Array Value) (n:Nat),K.lookup a=some o /\ o.cls = .type "tuple" /\ o.data = .seq its n /\ its.size <= sizeLine /\ Vals xs its.toList
def absV:Value -> Option V
 | .none=>some .non
 | .bool b=>some (.bl b)
 | .int i _=>some (.int i)
 | .str x _=>some (.str x)
 | .bytes b _=>some (.byt b)
 | .float b _=>some (.flt b)
 | .ref a=>some (.ref a)
 | .type n=>some (.ty n)
 | _=>none
theorem RelV.abs {x:V}{u:Value}(r:RelV x u):absV u=some x:=by
 cases x with
 | non=>cases r; rfl
 | bl _=>cases r; rfl
 | int _=>obtain ⟨t,rfl⟩:=r; rfl
 | str _=>obtain ⟨t,rfl⟩:=r; rfl
 | byt _=>obtain ⟨t,rfl⟩:=r; rfl
 | flt _=>obtain ⟨t,rfl⟩:=r; rfl
 | ref _=>cases r; rfl
 | ty _=>cases r; rfl
theorem RelV.inj {x y:V}{u:Value}(r:RelV x u)(q:RelV y u):x=y:=Option.some.inj (r.abs.symm.trans q.abs)
theorem Vals.inj:∀ {xs ys:List V} {us:List Value},Vals xs us -> Vals ys us -> xs=ys
 | _,_,_,.nil,.nil=>rfl
 | _,_,_,.cons r t,.cons r' t'=>by rw [r.inj r',Vals.inj t t']
section
variable {X:Cx}{pins:List (Addr × Obj)}{σ:St}{H:Hp}{s:Shared}{a:Addr}{xs ys:List V}
theorem SqL.of {K:PySem.W.Frag}(h:H a=some (.lst xs)):SqL K H a xs:=.inl (.inl h)
theorem SqT.of {K:PySem.W.Frag}(h:H a=some (.tup xs)):SqT K H a xs:=.inl (.inl h)
theorem Inv.list (I:Inv X pins σ H s)(h:SqL X.K H a xs):∃ its:List Value,Vals xs its /\ PlainL s.heap a its.toArray /\ xs.length <= sizeLine:=by
 rcases h with h | ⟨o,its,n,hk,hc,hd,hs,hz,r⟩
 ·obtain ⟨z,its,n,r,e⟩:=h.ok I.hok
  exact ⟨its,r,⟨_,n,e,rfl,rfl,rfl⟩,z⟩
 ·refine ⟨its.toList,r,⟨o,n,I.kIn a o hk,hc,hd,by simpa using hs⟩,?_⟩
  have e:=r.length
  simp only [Array.length_toList] at e
  omega
theorem Inv.tuple (I:Inv X pins σ H s)(h:SqT X.K H a xs):∃ its:List Value,Vals xs its /\ IsTup s.heap a its.toArray /\ xs.length <= sizeLine:=by
 rcases h with h | ⟨o,its,n,hk,hc,hs,hz,r⟩
 ·obtain ⟨z,its,r,p⟩:=h.ok I.hok
  exact ⟨its,r,p,z⟩
 ·refine ⟨its.toList,r,⟨o,I.kIn a o hk,hc,n,by simpa using hs⟩,?_⟩
  have e:=r.length
  simp only [Array.length_toList] at e
  omega
theorem Inv.list_inj (I:Inv X pins σ H s)(h:SqL X.K H a xs)(h':SqL X.K H a ys):xs=ys:=by
 obtain ⟨its,r,⟨o,n,e,_,_,d⟩,_⟩:=I.list h
 obtain ⟨its',r',⟨o',n',e',_,_,d'⟩,_⟩:=I.list h'
 rw [e] at e'; cases e'
 rw [d] at d'
 injection d' with d1 _
 have:its=its':=by simpa using congrArg Array.toList d1
 subst this
 exact r.inj r'
theorem Inv.tuple_inj (I:Inv X pins σ H s)(h:SqT X.K H a xs)(h':SqT X.K H a ys):xs=ys:=by
 obtain ⟨its,r,⟨o,e,_,n,d⟩,_⟩:=I.tuple h
 obtain ⟨its',r',⟨o',e',_,n',d'⟩,_⟩:=I.tuple h'
 rw [e] at e'; cases e'
 rw [d] at d'
 injection d' with d1 _
 have:its=its':=by simpa using congrArg Array.toList d1
 subst this
 exact r.inj r'
end
abbrev Cx.wish (X:Cx) (E:Value -> Shared -> Prop):Cx:={ X with xe:=E }
abbrev Cx.nox (X:Cx):Cx:=X.wish fun _ _=>False
theorem Cx.Ok.wish {X:Cx}(ok:X.Ok)(E:Value -> Shared -> Prop):(X.wish E).Ok :=
 ⟨ok.mod,ok.kind,ok.glob,ok.blt,ok.above,ok.inj,ok.has,ok.cab,ok.hd,ok.frames,ok.stk,ok.exf,ok.bs,ok.bsz,ok.noex,ok.exfs,ok.funs,ok.frf⟩
theorem Cx.Ok.unwish {X:Cx}{E:Value -> Shared -> Prop}(ok:(X.wish E).Ok):X.Ok :=
 ⟨ok.mod,ok.kind,ok.glob,ok.blt,ok.above,ok.inj,ok.has,ok.cab,ok.hd,ok.frames,ok.stk,ok.exf,ok.bs,ok.bsz,ok.noex,ok.exfs,ok.funs,ok.frf⟩
section
variable {X:Cx}{pins:List (Addr × Obj)}{σ:St}{H:Hp}{s:Shared}{E:Value -> Shared -> Prop}
theorem Inv.wish (I:Inv X pins σ H s)(E:Value -> Shared -> Prop):Inv (X.wish E) pins σ H s:=⟨I.ok.wish E,I.os,I.bare,I.base,I.loc,I.cell,I.free,I.freeC,I.pin,I.hok,I.len⟩
theorem Inv.unwish (I:Inv (X.wish E) pins σ H s):Inv X pins σ H s:=⟨I.ok.unwish,I.os,I.bare,I.base,I.loc,I.cell,I.free,I.freeC,I.pin,I.hok,I.len⟩
theorem SP.unwish {D:Ends}{f:Flow}{s':Shared}(h:SP (X.wish E) pins D f s'):SP X pins D f s':=by
 cases f with
 | next=>obtain ⟨σ',H',I,q⟩:=h; exact ⟨σ',H',I.unwish,q⟩
 | brk=>obtain ⟨σ',H',I,q⟩:=h; exact ⟨σ',H',I.unwish,q⟩
 | cont=>obtain ⟨σ',H',I,q⟩:=h; exact ⟨σ',H',I.unwish,q⟩
 | ret u=>obtain ⟨v,σ',H',I,r,q⟩:=h; exact ⟨v,σ',H',I.unwish,r,q⟩
theorem PSs.nox {st:List Stmt}{t:TS}(h:PSs X.nox st t):PSs X st t:=fun pins s σ H D I hw =>
 wpAny_mono (h pins s σ H D (I.wish _) hw) (fun _ _ q=>q.unwish) fun _ _ z=>False.elim z
end
section
variable {X:Cx}{st:Stmt}{rest:List Stmt}{t u:TS}{e:Expr}{te:TE}{pos:Pos}
def tNext:TS:=fun D σ H=>D.nx σ H
def tSeq (t u:TS):TS:=fun D σ H=>t { D with nx:=u D } σ H
theorem pss_nil:PSs X [] tNext:=fun _ _ σ H _ I h=>wpAny_execs_nil ⟨σ,H,I,h⟩
theorem pss_cons (h1:PS X st t)(h2:PSs X rest u):PSs X (st :: rest) (tSeq t u):=by
 intro pins s σ H D I h
 refine wpAny_execs_cons (thn (h1 pins s σ H { D with nx:=u D } I h) fun f s1 q=>?_)
 cases f with
 | next =>
  obtain ⟨σ',H',I',q⟩:=q
  exact h2 pins s1 σ' H' D I' q
 | ret v=>exact q
 | brk=>exact q
 | cont=>exact q
theorem pss_one (h1:PS X st t):PSs X [st] t:=by
 intro pins s σ H D I h
 refine wpAny_execs_cons (thn (h1 pins s σ H D I h) fun f s1 q=>?_)
 cases f with
 | next=>exact wpAny_execs_nil q
 | ret v=>exact q
 | brk=>exact q
 | cont=>exact q
def tBreak:TS:=fun D σ H=>D.bk σ H
def tCont:TS:=fun D σ H=>D.ct σ H
theorem Inv.quiet {pins:List (Addr × Obj)}{σ:St}{H:Hp}{s:Shared}(I:Inv X pins σ H s):interactive X.env=false:=by simp [interactive,I.ok.kind]
def tDrop (te:TE):TS:=fun D σ H=>te σ H fun _ H1=>D.nx σ H1
theorem ps_expr (he:PE X e te)(hs:swapsWith e none pos.line X.env=pure false:=by rfl):PS X (.Expr e pos) (tDrop te):=by
 intro pins s σ H D I h
 exact wpAny_Expr_any (thn (he pins s σ H _ I h) fun v s1 ⟨x,H1,I1,r1,q1⟩=>⟨σ,H1,I1,q1⟩) I.quiet hs
def tRet (te:TE):TS:=fun D σ H=>te σ H D.rt
theorem ps_ret (he:PE X e te):PS X (.Return (some e) pos) (tRet te):=by
 intro pins s σ H D I h
 exact wpAny_Return_some (thn (he pins s σ H _ I h) fun v s1 ⟨x,H1,I1,r1,q1⟩=>⟨x,σ,H1,I1,r1,q1⟩)
def tRetN:TS:=fun D _ H=>D.rt .non H
def tIfS (c:TT)(t u:TS):TS:=fun D σ H=>c σ H fun b H1=>if b=true then t D σ H1 else u D σ H1
theorem ps_if {c:Expr}{a b:List Stmt}{tc:TT}(hc:PT X c tc)(ha:PSs X a t)(hb:PSs X b u):PS X (.If c a b pos) (tIfS tc t u):=by
 intro pins s σ H D I h
 refine wpAny_If (thn (hc pins s σ H _ I h) fun d s1 ⟨H1,I1,q1⟩=>?_)
 cases d with
 | true=>exact ha pins s1 σ H1 D I1 q1
 | false=>exact hb pins s1 σ H1 D I1 q1
def tNever:TS:=fun _ _ _=>False
theorem ps_never:PS X st tNever:=fun _ _ _ _ _ _ h=>h.elim
end
abbrev TG:=V -> St -> Hp -> (St -> Hp -> Prop) -> Prop
abbrev TGs:=List V -> St -> Hp -> (St -> Hp -> Prop) -> Prop
def PG (X:Cx)(target:Expr)(t:TG):Prop :=
 ∀ (pins:List (Addr × Obj)) (s:Shared) (σ:St) (H:Hp) (v:V) (u:Value) (Q:St -> Hp -> Prop),Inv X pins σ H s -> RelV v u -> t v σ H Q ->
  wpAny (model X.prog X.w) X.A (assign target X.env u) (fun _ s'=>∃ σ' H',Inv X pins σ' H' s' /\ Q σ' H') X.xe s
def PGs (X:Cx)(ts:List Expr)(t:TGs):Prop :=
 ∀ (pins:List (Addr × Obj)) (s:Shared) (σ:St) (H:Hp) (vs:List V) (us:List Value) (Q:St -> Hp -> Prop),Inv X pins σ H s -> Vals vs us -> t vs σ H Q ->
  wpAny (model X.prog X.w) X.A (assignInOrder ((assignEach ts X.env).map (·.2)) us) (fun _ s'=>∃ σ' H',Inv X pins σ' H' s' /\ Q σ' H') X.xe s
abbrev TSet:=V -> V -> V -> Hp -> (Hp -> Prop) -> Prop
def PSet (X:Cx)(t:TSet):Prop :=
 ∀ (pins:List (Addr × Obj)) (s:Shared) (σ:St) (H:Hp) (o i v:V) (ov iv u:Value) (Q:Hp -> Prop),Inv X pins σ H s -> RelV o ov -> RelV i iv -> RelV v u -> t o i v H Q ->
  wpAny (model X.prog X.w) X.A (setItem ov iv u) (fun _ s'=>∃ H',Inv X pins σ H' s' /\ Q H') X.xe s
abbrev TIp:=V -> V -> Hp -> VK -> Prop
section
variable {X:Cx}{pos:Pos}
def gName (i:Nat):TG:=fun v σ H Q=>Q (σ.set i (some v)) H
theorem pg_name {i:Nat}{x:Str}(hN:X.N.Nodup)(hi:X.N[i]? = some x)(hx:Loc X.env.scope x)(hf:X.fn x=true \/ X.env.scope.names.lookup x=some .local:=by first | exact .inl rfl | exact .inr rfl | assumption):PG X (.Name x pos) (gName i):=by
 intro pins s σ H v u Q I r h
 exact wpAny_assign_Name (store_ok I hN hi hx r (fun s' I'=>⟨_,H,I',h⟩) hf)
def gNil:TGs:=fun vs σ H Q=>vs=[] /\ Q σ H
def gCons (t:TG)(u:TGs):TGs:=fun vs σ H Q=>∃ v r,vs=v :: r /\ t v σ H fun σ' H'=>u r σ' H' Q
theorem pgs_nil:PGs X [] gNil:=by
 intro pins s σ H vs us Q I r h
 obtain ⟨e,h⟩:=h
 subst e
 cases r
 exact assignInOrder_nil ⟨σ,H,I,h⟩
theorem pgs_cons {e:Expr}{es:List Expr}{t:TG}{u:TGs}(h1:PG X e t)(h2:PGs X es u)
  (hs:(assignEach (e :: es) X.env).map (·.2)=assign e X.env :: (assignEach es X.env).map (·.2):=by rfl):PGs X (e :: es) (gCons t u):=by
 intro pins s σ H vs us Q I r h
 obtain ⟨v,vr,e1,h⟩:=h
 subst e1
 cases r with
 | cons r rr =>
  rw [hs]
  refine assignInOrder_cons (thn (h1 pins s σ H _ _ _ I r h) fun _ s1 ⟨σ1,H1,I1,q1⟩=>?_)
  exact h2 pins s1 σ1 H1 _ _ Q I1 rr q1
def gTup (K:PySem.W.Frag)(n:Nat)(t:TGs):TG:=fun v σ H Q=>∃ a xs,v = .ref a /\ SqT K H a xs /\ xs.length=n /\ t xs σ H Q
theorem pg_tup {es:List Expr}{k:Nat}{t:TGs}{n:Nat}(hc:X.calm=true)(h:PGs X es t)
  (hn:(assignEach es X.env).length=n:=by rfl) (hst:(assignEach es X.env).findIdx? (·.1)=none:=by rfl):PG X (.Tuple es k pos) (gTup X.K n t):=by
 intro pins s σ H v u Q I r hw
 obtain ⟨a,xs,e1,hq,hl,hw⟩:=hw
 subst e1
 cases r
 obtain ⟨its,rv,ht,hz⟩:=I.tuple hq
 refine assign_Tuple_tuple (I.ok.hd hc) ht (by simp [hn,← hl,rv.length]) hst fun h' hx=>?_
 have I1:Inv X pins σ H { s with heap:=h' }:=I.kept (t':=s.toks) fun b o e=>hx b o (Nat.ne_of_lt (Heap.lt_size e)) e
 exact h pins _ σ H xs _ Q I1 (by simpa using rv) hw
def gSub (to ti:TE)(t:TSet):TG:=fun v σ H Q=>to σ H fun o H1=>ti σ H1 fun i H2=>t o i v H2 fun H3=>Q σ H3
theorem pg_sub {o i:Expr}{to ti:TE}{t:TSet}(ho:PE X o to)(hi:PE X i ti)(hs:PSet X t)
  (ha:∀ v,assign (.Subscript o i pos) X.env v=(do
   let ov ← holding [v] (eval o X.env)
   let iv ← holding [v,ov] (eval i X.env)
   standAt pos
   holding [v,ov,iv] (setItem ov iv v)
   release [v,ov,iv] []):=by intro _; rfl):PG X (.Subscript o i pos) (gSub to ti t):=by
 intro pins s σ H v u Q I r h
 rw [ha]
 refine wpAny_bind (wpAny_holding (thn (ho pins s σ H _ I h) fun ov s1 ⟨x,H1,I1,r1,q1⟩=>?_))
 refine wpAny_bind (wpAny_holding (thn (hi pins s1 σ H1 _ I1 q1) fun iv s2 ⟨y,H2,I2,r2,q2⟩=>?_))
 refine wpAny_bind (wpAny_standAt (wpAny_bind (wpAny_holding (thn (hs pins s2 σ H2 x y v ov iv u _ I2 r1 r2 r q2) fun _ s3 ⟨H3,I3,q3⟩=>?_))))
 exact wpAny_release ⟨σ,H3,I3,q3⟩
def tAsg (te:TE)(g:TG):TS:=fun D σ H=>te σ H fun x H1=>g x σ H1 D.nx
theorem ps_asg {tg e:Expr}{te:TE}{g:TG}(he:PE X e te)(hg:PG X tg g)(hs:swapsWithSole [tg] e pos.line X.env=pure false:=by rfl)(hw:swappedStores [tg] e X.env=pure none:=by rfl)
  (h1:(assignEach [tg] X.env).map (·.2)=[assign tg X.env]:=by rfl):PS X (.Assign [tg] e pos) (tAsg te g):=by
 intro pins s σ H D I h
 refine wpAny_Assign_stores (thn (he pins s σ H _ I h) fun v s1 ⟨x,H1,I1,r1,q1⟩=>?_) hs hw
 rw [h1]
 exact thn (hg pins s1 σ H1 x v _ I1 r1 q1) fun _ s2 q=>q
theorem ps_set {i:Nat}{x:Str}{e:Expr}{te:TE}{pos':Pos}(hN:X.N.Nodup)(hi:X.N[i]? = some x)(hx:Loc X.env.scope x)(he:PE X e te)(hs:swapsWith e (some (.Name x pos')) pos.line X.env=pure false:=by rfl)(hf:X.fn x=true \/ X.env.scope.names.lookup x=some .local:=by first | exact .inl rfl | exact .inr rfl | assumption) :
  PS X (.Assign [.Name x pos'] e pos) (tAsg te (gName i)):=by
 intro pins s σ H D I h
 refine wpAny_Assign_Name (thn (he pins s σ H _ I h) fun v s1 ⟨y,H1,I1,r1,q1⟩=>?_) hs
 exact store_ok I1 hN hi hx r1 (fun s2 I2=>⟨_,H1,I2,q1⟩) hf
def tAug (i:Nat)(te:TE)(ti:TIp):TS:=fun D σ H=>∃ x,σ[i]? = some (some x) /\ te σ H fun y H1=>ti x y H1 fun z H2=>D.nx (σ.set i (some z)) H2
def ipI (f:Int -> Int -> Int):TIp:=fun x y H Q=>∃ i j,x = .int i /\ y = .int j /\ Q (.int (f i j)) H
end
section
variable {X:Cx}{pos:Pos}
end
structure It where
 go:Nat -> Hp -> Prop
 yld:Nat -> Hp -> V -> Hp -> Prop
 stop:Nat -> Hp -> Prop
def FpOk (X:Cx)(pins:List (Addr × Obj))(H:Hp)(b:Addr):Prop :=
 H b=none /\ b ≠ X.env.locals /\ b ∉ X.fs /\ (b ∈ X.ex \/ X.s₀.heap.objs.size <= b) /\ (∀ x c,X.env.cells.lookup x=some c -> c ≠ b) /\ ∀ p ∈ X.pn ++ pins,p.1 ≠ b
theorem Inv.fpOk {X:Cx}{pins:List (Addr × Obj)}{σ:St}{H H':Hp}{s:Shared}{b:Addr}(I:Inv X pins σ H s)(hb:s.heap.objs.size <= b)(hn:H' b=none):FpOk X pins H' b:=by
 refine ⟨hn,Nat.ne_of_gt (qJ I.lt hb),I.nofs hb,.inr (Nat.le_trans I.sz hb),fun x c e z=>?_,fun p hp z=>?_⟩
 ·obtain ⟨v,q⟩:=I.cell x c e
  exact absurd (qJ q.lt (by rw [z]; exact hb)) (Nat.lt_irrefl _)
 ·exact absurd (qJ (Heap.lt_size (I.pin p hp).1) (by rw [z]; exact hb)) (Nat.lt_irrefl _)
structure Turn (P:Program) (w:World) (K:PySem.W.Frag) (tg:Expr) (J:It) (fp:List Addr) (it:Addr) (tn:Nat -> Heap -> Prop):Prop where
 mem:it ∈ fp
 obj:∀ i h,tn i h -> ∀ b ∈ fp,∃ o,h.get? b=some o /\ ∀ v,o.data ≠ .cell v
 keep:∀ i h h',tn i h -> (∀ b ∈ fp,∀ o,h.get? b=some o -> h'.get? b=some o) -> tn i h'
 item:∀ (X:Cx),X.prog=P -> X.w=w -> X.K=K -> X.calm=true -> ∀ (i:Nat) (pins:List (Addr × Obj)) (s:Shared) (σ:St) (H:Hp) (E:Value -> Shared -> Prop),Inv X pins σ H s -> (∀ b ∈ fp,FpOk X pins H b) -> tn i s.heap -> J.go i H ->
  wpAny (model P w) X.A (pyNext (.ref it)) (fun r s1=>∃ u,r=some u /\
   wpAny (model P w) X.A (letOwnedTupleGo tg (.ref it) u) (fun _ s2=>∃ x H',Inv X pins σ H' s2 /\ RelV x u /\ J.yld i H x H' /\ tn (i+1) s2.heap /\ ∀ b ∈ fp,H' b=none) E s1) E s
 done:∀ (X:Cx),X.prog=P -> X.w=w -> X.K=K -> X.calm=true -> ∀ (i:Nat) (pins:List (Addr × Obj)) (s:Shared) (σ:St) (H:Hp) (E:Value -> Shared -> Prop),Inv X pins σ H s -> (∀ b ∈ fp,FpOk X pins H b) -> tn i s.heap -> J.stop i H ->
  wpAny (model P w) X.A (pyNext (.ref it)) (fun r s1=>r=none /\ Inv X pins σ H s1) E s
 self:∀ (A:Around) (i:Nat) (s:Shared) (Q:Value -> Shared -> Prop) (E:Value -> Shared -> Prop),tn i s.heap -> Q (.ref it) s -> wpAny (model P w) A (pyIter (.ref it)) Q E s
abbrev TI:=St -> Hp -> (It -> Hp -> Prop) -> Prop
def PIE (X:Cx)(pins:List (Addr × Obj))(σ:St)(tg:Expr)(R:It -> Hp -> Prop)(itv:Value)(s2:Shared):Prop :=
 ∃ (it:Addr) (fp:List Addr) (tn:Nat -> Heap -> Prop) (J:It) (H':Hp),itv = .ref it /\ Inv X pins σ H' s2 /\ Turn X.prog X.w X.K tg J fp it tn /\ tn 0 s2.heap /\ (∀ b ∈ fp,FpOk X pins H' b) /\ R J H'
def PI (X:Cx)(tg iter:Expr)(wi:TI):Prop :=
 ∀ (pins:List (Addr × Obj)) (s:Shared) (σ:St) (H:Hp) (R:It -> Hp -> Prop),Inv X pins σ H s -> wi σ H R ->
  wpAny (model X.prog X.w) X.A (eval iter X.env) (fun v s1=>wpAny (model X.prog X.w) X.A (pyIter v) (PIE X pins σ tg R) X.xe s1) X.xe s
theorem go_of {M : Model}{A : Around}{E : Value → Shared → Prop}{s : Shared}{tg : Expr}{it : Addr}{u : Value}{o : Obj}{n : String}{vs : Array Value}{Q : Unit → Shared → Prop}(ho : s.heap.get? it = some o)(hc : o.cls = .type n)(hd : o.data = .fields vs)
    (hn : ["enumerate", "zip", "dict_itemiterator", "dict_reverseitemiterator", "odict_iterator", "itertools.zip_longest", "itertools.pairwise"].contains n = false) (hQ : Q () s) : wpAny M A (letOwnedTupleGo tg (.ref it) u) Q E s := by
  unfold letOwnedTupleGo
  cases tg <;> first
    | exact wpAny_pure hQ
    | (cases u <;> first
        | exact wpAny_pure hQ
        | (refine wpAny_bind (wpAny_load ho ?_)
           rw [hc, hd]
           show wpAny M A (if (["enumerate", "zip", "dict_itemiterator", "dict_reverseitemiterator", "odict_iterator", "itertools.zip_longest", "itertools.pairwise"].contains n && vs[0]? == some (rawInt _)) = true then _ else _) Q E s
           rw [if_neg (by intro h; rw [hn, Bool.false_and] at h; cases h)]
           exact wpAny_pure hQ))
def Itl (K:PySem.W.Frag)(a:Addr):It :=
 ⟨fun i H=>∃ xs x,SqL K H a xs /\ xs[i]? = some x,fun i H x H'=>H'=H /\ ∀ xs,SqL K H a xs -> xs[i]? = some x,fun i H=>∃ xs,SqL K H a xs /\ xs.length <= i⟩
def Itt (K:PySem.W.Frag)(a:Addr):It :=
 ⟨fun i H=>∃ xs x,SqT K H a xs /\ xs[i]? = some x,fun i H x H'=>H'=H /\ ∀ xs,SqT K H a xs -> xs[i]? = some x,fun i H=>∃ xs,SqT K H a xs /\ xs.length <= i⟩
def Itr (lo:Int)(n:Nat):It:=⟨fun i _=>i < n,fun i H x H'=>H'=H /\ x = .int (lo+i),fun i _=>n <= i⟩
theorem turn_list {P:Program}{w:World}{K:PySem.W.Frag}{tg:Expr}(a it:Addr):Turn P w K tg (Itl K a) [it] it (fun i h=>h.IsListIter it a i) where
 mem:=by simp
 obj:=fun i h st b hb=>by
  have e:b=it:=by simpa using hb
  subst e
  obtain ⟨o,e,c,d⟩:=st
  exact ⟨o,e,fun v z=>by rw [d] at z; cases z⟩
 keep:=fun i h h' st k=>st.at fun o e=>k it (by simp) o e
 item:=by
  intro X hP hw hK hc i pins s σ H E I hf st hg
  subst hP hw hK
  obtain ⟨xs,x,hq,hx⟩:=hg
  obtain ⟨its,rv,p,hz⟩:=I.list hq
  obtain ⟨u,hu,ru⟩:=rv.get hx
  obtain ⟨f0,f1,f2,f3,f4,f5⟩:=hf it (by simp)
  refine wpAny_pyNext_list_item st p.isList (x:=u) (by simpa using hu) fun h' st' sb=>?_
  have I1:Inv X pins σ H { s with heap:=h' }:=I.turned (t':=s.toks) (fun b o hb e=>(sb.2 b hb).trans e) f0 f1 f3 f4 f5
  obtain ⟨o,e,c,d⟩:=id st'
  exact ⟨u,rfl,go_of (s:={ s with heap:=h' }) e c d (by decide) ⟨x,H,I1,ru,⟨rfl,fun ys hy=>by rw [I.list_inj hy hq]; exact hx⟩,st',fun b hb=>(hf b hb).1⟩⟩
 done:=by
  intro X hP hw hK hc i pins s σ H E I hf st hg
  subst hP hw hK
  obtain ⟨xs,hq,hx⟩:=hg
  obtain ⟨its,rv,p,hz⟩:=I.list hq
  obtain ⟨f0,f1,f2,f3,f4,f5⟩:=hf it (by simp)
  have hl:=rv.length
  exact wpAny_pyNext_list_end (I.ok.hd hc) st p.isList (by simp; omega) fun h' eb=>⟨rfl,I.turned (t':=s.toks) (fun b o hb e=>eb b o hb e) f0 f1 f3 f4 f5⟩
 self:=fun _ _ _ _ _ st h=>wpAny_pyIter_listiter st h
theorem turn_tuple {P:Program}{w:World}{K:PySem.W.Frag}{tg:Expr}(a it:Addr):Turn P w K tg (Itt K a) [it] it (fun i h=>h.IsTupleIter it a i) where
 mem:=by simp
 obj:=fun i h st b hb=>by
  have e:b=it:=by simpa using hb
  subst e
  obtain ⟨o,e,c,d⟩:=st
  exact ⟨o,e,fun v z=>by rw [d] at z; cases z⟩
 keep:=fun i h h' st k=>st.at fun o e=>k it (by simp) o e
 item:=by
  intro X hP hw hK hc i pins s σ H E I hf st hg
  subst hP hw hK
  obtain ⟨xs,x,hq,hx⟩:=hg
  obtain ⟨its,rv,p,hz⟩:=I.tuple hq
  obtain ⟨u,hu,ru⟩:=rv.get hx
  obtain ⟨f0,f1,f2,f3,f4,f5⟩:=hf it (by simp)
  refine wpAny_pyNext_tuple_item st (show s.heap.IsTuple a its.toArray from p) (x:=u) (by simpa using hu) fun h' st' sb=>?_
  have I1:Inv X pins σ H { s with heap:=h' }:=I.turned (t':=s.toks) (fun b o hb e=>(sb.2 b hb).trans e) f0 f1 f3 f4 f5
  obtain ⟨o,e,c,d⟩:=id st'
  exact ⟨u,rfl,go_of (s:={ s with heap:=h' }) e c d (by decide) ⟨x,H,I1,ru,⟨rfl,fun ys hy=>by rw [I.tuple_inj hy hq]; exact hx⟩,st',fun b hb=>(hf b hb).1⟩⟩
 done:=by
  intro X hP hw hK hc i pins s σ H E I hf st hg
  subst hP hw hK
  obtain ⟨xs,hq,hx⟩:=hg
  obtain ⟨its,rv,p,hz⟩:=I.tuple hq
  obtain ⟨f0,f1,f2,f3,f4,f5⟩:=hf it (by simp)
  have hl:=rv.length
  exact wpAny_pyNext_tuple_end (I.ok.hd hc) st (show s.heap.IsTuple a its.toArray from p) (by simp; omega) fun h' eb=>⟨rfl,I.turned (t':=s.toks) (fun b o hb e=>eb b o hb e) f0 f1 f3 f4 f5⟩
 self:=fun _ _ _ _ _ st h=>wpAny_pyIter_tupleiter st h
theorem turn_range {P:Program}{w:World}{K:PySem.W.Frag}{tg:Expr}(it:Addr)(lo:Int)(n:Nat):Turn P w K tg (Itr lo n) [it] it (fun i h=>IsRangeIter h it (lo+(i:Nat) * 1) ((n:Int) - (i:Nat)) 1) where
 mem:=by simp
 obj:=fun i h st b hb=>by
  have e:b=it:=by simpa using hb
  subst e
  exact ⟨_,st,fun v z=>by
   have z':Data.fields _=Data.cell v:=z
   cases z'⟩
 keep:=fun i h h' st k=>k it (by simp) _ st
 item:=by
  intro X hP hw hK hc i pins s σ H E I hf st hg
  subst hP hw hK
  obtain ⟨f0,f1,f2,f3,f4,f5⟩:=hf it (by simp)
  have W:=Walks.range (prog:=X.prog) (w:=X.w) (I.ok.hd hc) it lo 1 n
  refine W.item i s _ _ hg st fun v h' tk hv st' kk=>?_
  obtain ⟨t,rfl⟩:=hv
  have I1:Inv X pins σ H { s with heap:=h',toks:=tk }:=I.turned (fun b o hb e=>kk b o (by simpa using hb) e) f0 f1 f3 f4 f5
  refine ⟨_,rfl,go_of (s:={ s with heap:=h',toks:=tk }) (n:="range_iterator") st' rfl rfl (by decide) ⟨.int (lo+i),H,I1,⟨t,?_⟩,⟨rfl,rfl⟩,st',fun b hb=>(hf b hb).1⟩⟩
  rw [Int.mul_one]
 done:=by
  intro X hP hw hK hc i pins s σ H E I hf st hg
  subst hP hw hK
  obtain ⟨f0,f1,f2,f3,f4,f5⟩:=hf it (by simp)
  exact wpAny_pyNext_range_end (I.ok.hd hc) st (by have:n <= i:=hg; omega) fun h' eb=>⟨rfl,I.turned (t':=s.toks) (fun b o hb e=>eb b o hb e) f0 f1 f3 f4 f5⟩
 self:=fun _ _ _ _ _ st h=>wpAny_pyIter_rangeiter st h
end L2
namespace L2
open PySem PySem.Spec PyProof.Rows
section
variable {X:Cx}{tg:Expr}
def iList (K:PySem.W.Frag)(tl:TE):TI:=fun σ H R=>tl σ H fun x H1=>∃ a,x = .ref a /\ (∃ xs,SqL K H1 a xs) /\ R (Itl K a) H1
def iTup (K:PySem.W.Frag)(tl:TE):TI:=fun σ H R=>tl σ H fun x H1=>∃ a,x = .ref a /\ (∃ xs,SqT K H1 a xs) /\ R (Itt K a) H1
theorem pi_list {l:Expr}{tl:TE}(hl:PE X l tl):PI X tg l (iList X.K tl):=by
 intro pins s σ H R I h
 refine thn (hl pins s σ H _ I h) fun v s1 ⟨x,H1,I1,r1,q1⟩=>?_
 obtain ⟨a,e,⟨xs,hq⟩,q⟩:=q1
 subst e
 cases r1
 obtain ⟨its,rv,p,hz⟩:=I1.list hq
 refine wpAny_pyIter_list p.isList ?_
 refine ⟨s1.heap.objs.size,[s1.heap.objs.size],_,_,H1,rfl,I1.kept (t':=s1.toks) fun b o e=>Heap.get?_push_of_some _ e,turn_list a _,⟨_,Heap.get?_push_size _ rfl,rfl,rfl⟩,fun b hb=>?_,q⟩
 have e:b=s1.heap.objs.size:=by simpa using hb
 subst e
 exact I1.fpOk (Nat.le_refl _) (I1.hok.fresh (Nat.le_refl _))
theorem pi_tup {l:Expr}{tl:TE}(hl:PE X l tl):PI X tg l (iTup X.K tl):=by
 intro pins s σ H R I h
 refine thn (hl pins s σ H _ I h) fun v s1 ⟨x,H1,I1,r1,q1⟩=>?_
 obtain ⟨a,e,⟨xs,hq⟩,q⟩:=q1
 subst e
 cases r1
 obtain ⟨its,rv,p,hz⟩:=I1.tuple hq
 refine wpAny_pyIter_tuple (show s1.heap.IsTuple a its.toArray from p) ?_
 refine ⟨s1.heap.objs.size,[s1.heap.objs.size],_,_,H1,rfl,I1.kept (t':=s1.toks) fun b o e=>Heap.get?_push_of_some _ e,turn_tuple a _,⟨_,Heap.get?_push_size _ rfl,rfl,rfl⟩,fun b hb=>?_,q⟩
 have e:b=s1.heap.objs.size:=by simpa using hb
 subst e
 exact I1.fpOk (Nat.le_refl _) (I1.hok.fresh (Nat.le_refl _))
theorem range_it {pins:List (Addr × Obj)}{σ:St}{H:Hp}{s:Shared}{R:It -> Hp -> Prop}{E:Value -> Shared -> Prop}{lo hi:Int}{t u v:Tok}{tk:Nat}(I:Inv X pins σ H s)(h1:-(2 ^ 62) <= lo)(h2:lo < 2 ^ 62)(h3:-(2 ^ 62) <= hi)(h4:hi < 2 ^ 62)
  (q:R (Itr lo (hi - lo).toNat) H):wpAny (model X.prog X.w) X.A (pyIter (.ref s.heap.objs.size)) (PIE X pins σ tg R) E { s with heap:=s.heap.push { cls:=.type "range",data:=.fields #[.int lo t,.int hi u,.int 1 v] },toks:=tk }:=by
 refine wpAny_pyIter_range (IsRange.new ..) (small_one h1 h2 h3 h4) ?_
 have I1:Inv X pins σ H { s with heap:=s.heap.push { cls:=.type "range",data:=.fields #[.int lo t,.int hi u,.int 1 v] },toks:=tk }:=I.kept fun b o e=>Heap.get?_push_of_some _ e
 refine ⟨(s.heap.push { cls:=.type "range",data:=.fields #[.int lo t,.int hi u,.int 1 v] }).objs.size,[(s.heap.push { cls:=.type "range",data:=.fields #[.int lo t,.int hi u,.int 1 v] }).objs.size],_,_,H,rfl,
  I1.kept (t':=tk) fun b o e=>Heap.get?_push_of_some _ e,turn_range _ lo (hi - lo).toNat,?_,fun b hb=>?_,q⟩
 ·have e1:lo+((0:Nat):Int) * 1=lo:=by simp
  have e2:(((hi - lo).toNat:Nat):Int) - ((0:Nat):Int)=Builtin.Range.rangeSize lo hi 1:=by rw [rangeSize_one]; split <;> omega
  show IsRangeIter _ _ (lo+((0:Nat):Int) * 1) ((((hi - lo).toNat:Nat):Int) - ((0:Nat):Int)) 1
  rw [e1,e2]
  exact Heap.get?_push_size _ rfl
 ·have e:b=(s.heap.push { cls:=.type "range",data:=.fields #[.int lo t,.int hi u,.int 1 v] }).objs.size:=by simpa using hb
  subst e
  exact I1.fpOk (Nat.le_refl _) (I1.hok.fresh (Nat.le_refl _))
def iRng1 (ta:TA):TI:=fun σ H R=>ta σ H fun vs H1=>∃ j:Int,vs=[.int j] /\ -(2 ^ 62) <= j /\ j < 2 ^ 62 /\ R (Itr 0 j.toNat) H1
def iRng2 (ta:TA):TI:=fun σ H R=>ta σ H fun vs H1=>∃ i j:Int,vs=[.int i,.int j] /\ (-(2 ^ 62) <= i /\ i < 2 ^ 62 /\ -(2 ^ 62) <= j /\ j < 2 ^ 62) /\ R (Itr i (j - i).toNat) H1
theorem pi_range1 {a:Expr} {ta:TA} {p pos:Pos} (hg:Gl X "range") (hm:X.mg "range" = none) (ha:PA X [a] ta) (hs:starEach [a] X.env=[(false,eval a X.env)]:=by rfl):PI X tg (.Call (.Name "range" p) [a] [] pos) (iRng1 ta):=by
 intro pins s σ H R I h
 refine Call_ (ld_blt I hg hm boot_range (PyProof.Rows.callWith_type1 (thn (ha pos pins s σ H _ I h) fun us s1 ⟨vs,H1,I1,r1,q1⟩=>?_) hs rfl))
 obtain ⟨j,e,q1,q2,q⟩:=q1
 subst e
 cases r1 with
 | cons r rr =>
  cases rr
  obtain ⟨t,rfl⟩:=r
  exact call_range_1 (range_it I1 (by omega) (by omega) q1 q2 (by simpa using q))
def tFor (wi:TI)(g:TG)(tb:TS):TS:=fun D σ H=>wi σ H fun J H1=>∃ W:Nat -> Nat -> St -> Hp -> Prop,(∃ m,W 0 m σ H1) /\ ∀ i m σ H,W i m σ H ->
 (J.stop i H /\ D.nx σ H) \/ (J.go i H /\ ∃ N:St -> Hp -> Prop,(∀ σ' H',N σ' H' -> ∃ m',m' < m /\ W (i+1) m' σ' H') /\ ∀ x H',J.yld i H x H' -> g x σ H' fun σ2 H2=>tb { D with nx:=N,ct:=N,bk:=D.nx } σ2 H2)
def pinsAt (fp:List Addr)(h:Heap):List (Addr × Obj):=fp.filterMap fun b=>(h.get? b).map fun o=>(b,o)
theorem mem_pinsAt {fp:List Addr}{h:Heap}{b:Addr}{o:Obj}(hb:b ∈ fp)(e:h.get? b=some o):(b,o) ∈ pinsAt fp h:=List.mem_filterMap.mpr ⟨b,hb,by rw [e]; rfl⟩
theorem of_pinsAt {fp:List Addr}{h:Heap}{p:Addr × Obj}(hp:p ∈ pinsAt fp h):p.1 ∈ fp /\ h.get? p.1=some p.2:=by
 obtain ⟨b,hb,e⟩:=List.mem_filterMap.mp hp
 cases q:h.get? b with
 | none=>rw [q] at e; cases e
 | some o =>
  rw [q] at e
  have e':(b,o)=p:=Option.some.inj e
  subst e'
  exact ⟨hb,q⟩
theorem Inv.pinned {pins:List (Addr × Obj)}{σ:St}{H:Hp}{s:Shared}{fp:List Addr}(I:Inv X pins σ H s)(hf:∀ b ∈ fp,FpOk X pins H b)(ho:∀ b ∈ fp,∃ o,s.heap.get? b=some o /\ ∀ v,o.data ≠ .cell v):Inv X (pins ++ pinsAt fp s.heap) σ H s :=
 I.pins_of fun p hp=>(List.mem_append.mp hp).elim (fun z=>I.pin p (qK _ z)) fun z=>by
  obtain ⟨hb,e⟩:=of_pinsAt z
  obtain ⟨f0,f1,f2,_⟩:=hf p.1 hb
  obtain ⟨o,e',d⟩:=ho p.1 hb
  rw [e] at e'; cases e'
  exact ⟨e,f0,f1,f2,d⟩
theorem Inv.unpinned {pins pl:List (Addr × Obj)}{σ:St}{H:Hp}{s:Shared}(I:Inv X (pins ++ pl) σ H s):Inv X pins σ H s:=I.pins_of fun p hp=>I.pin p (qK _ (List.mem_append_left _ hp))
theorem ps_for {iter:Expr}{body:List Stmt}{wi:TI}{g:TG}{tb:TS}{pos:Pos}(hp:PassesOwn (model X.prog X.w) X.A X.env X.xe)(hc:X.calm=true)(hi:PI X tg iter wi)(hg:PG X tg g)(hb:PSs X body tb)
  (hs:∀ x,foldedSetIterable iter X.env x=pure x:=by intro _; rfl):PS X (.For tg iter body [] pos) (tFor wi g tb):=by
 intro pins s σ H D I h
 refine wpAny_For (thn (hi pins s σ H _ I h) fun v s1 h1=>thn h1 fun itv s2 h2=>?_) hs
 obtain ⟨it,fp,tn,J,H2,e,I2,T,st2,f2,W,⟨m0,w0⟩,turn⟩:=h2
 subst e
 -- what stays true of the iterator's objects through the loop
 have stat:∀ {H':Hp},(∀ b ∈ fp,H' b=none) -> ∀ b ∈ fp,FpOk X pins H' b:=fun hn b hb=>⟨hn b hb,(f2 b hb).2⟩
 refine codeAny_forLoop_any (fun n s'=>∃ i σ' H',Inv X pins σ' H' s' /\ tn i s'.heap /\ (∀ b ∈ fp,H' b=none) /\ W i n σ' H') ?_ m0 ⟨0,σ,H2,I2,st2,fun b hb=>(f2 b hb).1,w0⟩
 rintro n s3 ⟨i,σ3,H3,I3,st3,fr3,w3⟩
 rcases turn i n σ3 H3 w3 with ⟨stop,qn⟩ | ⟨go,N,hN,step⟩
 ·refine wpAny_passesOwn hp (thn (T.done X rfl rfl rfl hc i pins s3 σ3 H3 X.xe I3 (stat fr3) st3 stop) fun r s4 ⟨hr,I4⟩=>?_)
  subst hr
  exact wpAny_execs_nil ⟨σ3,H3,I4,qn⟩
 ·refine wpAny_passesOwn hp (thn (T.item X rfl rfl rfl hc i pins s3 σ3 H3 X.xe I3 (stat fr3) st3 go) fun r s4 ⟨u,hr,h4⟩=>?_)
  subst hr
  refine wpAny_passesOwn hp (thn h4 fun _ s5 ⟨x,H5,I5,r5,y5,st5,fr5⟩=>?_)
  have I5':=I5.pinned (stat fr5) (T.obj _ _ st5)
  refine wpAny_passesOwn hp (thn (hg _ s5 σ3 H5 x u _ I5' r5 (step x H5 y5)) fun _ s6 ⟨σ6,H6,I6,q6⟩=>?_)
  refine wpAny_passesOwn hp (thn (hb _ s6 σ6 H6 _ I6 q6) fun f s7 q7=>?_)
  have again:∀ {σ7:St} {H7:Hp},Inv X (pins ++ pinsAt fp s5.heap) σ7 H7 s7 -> N σ7 H7 -> ∃ m,m < n /\ ∃ i σ' H',Inv X pins σ' H' s7 /\ tn i s7.heap /\ (∀ b ∈ fp,H' b=none) /\ W i m σ' H':=fun {σ7 H7} I7 n7=>by
   obtain ⟨m',hm,w7⟩:=hN σ7 H7 n7
   refine ⟨m',hm,i+1,σ7,H7,I7.unpinned,T.keep _ _ _ st5 fun b hb o e=>(I7.pin (b,o) (qK _ (qK _ (mem_pinsAt hb e)))).1,fun b hb=>?_,w7⟩
   obtain ⟨o,e,d⟩:=T.obj _ _ st5 b hb
   exact (I7.pin (b,o) (qK _ (qK _ (mem_pinsAt hb e)))).2.1
  cases f with
  | next=>obtain ⟨σ7,H7,I7,n7⟩:=q7; exact again I7 n7
  | cont=>obtain ⟨σ7,H7,I7,n7⟩:=q7; exact again I7 n7
  | brk=>obtain ⟨σ7,H7,I7,q7⟩:=q7; exact ⟨σ7,H7,I7.unpinned,q7⟩
  | ret v=>obtain ⟨x7,σ7,H7,I7,r7,q7⟩:=q7; exact ⟨x7,σ7,H7,I7.unpinned,r7,q7⟩
end
theorem for_list {K:PySem.W.Frag}{a:Addr}{xs:List V}{g:TG}{tb:TS}{D:Ends}{σ:St}{H:Hp}(Pv:Nat -> St -> Hp -> Prop)(h0:Pv 0 σ H)(hl:∀ i σ H,i <= xs.length -> Pv i σ H -> SqL K H a xs)
  (hs:∀ i x σ H,xs[i]? = some x -> Pv i σ H -> g x σ H fun σ2 H2=>tb { D with nx:=Pv (i+1),ct:=Pv (i+1),bk:=D.nx } σ2 H2) (hd:∀ σ H,Pv xs.length σ H -> D.nx σ H) :
  ∃ W:Nat -> Nat -> St -> Hp -> Prop,(∃ m,W 0 m σ H) /\ ∀ i m σ H,W i m σ H ->
   ((Itl K a).stop i H /\ D.nx σ H) \/ ((Itl K a).go i H /\ ∃ N:St -> Hp -> Prop,(∀ σ' H',N σ' H' -> ∃ m',m' < m /\ W (i+1) m' σ' H') /\ ∀ x H',(Itl K a).yld i H x H' -> g x σ H' fun σ2 H2=>tb { D with nx:=N,ct:=N,bk:=D.nx } σ2 H2):=by
 refine ⟨fun i m σ H=>m=xs.length - i /\ i <= xs.length /\ Pv i σ H,⟨xs.length,by simp,Nat.zero_le _,h0⟩,?_⟩
 rintro i m σ H ⟨rfl,hi,p⟩
 have q:=hl i σ H hi p
 by_cases hlt:i < xs.length
 ·refine .inr ⟨⟨xs,xs[i],q,by simp [hlt]⟩,Pv (i+1),fun σ' H' p'=>⟨xs.length - (i+1),by omega,rfl,hlt,p'⟩,fun x H' y=>?_⟩
  obtain ⟨e,y⟩:=y
  subst e
  exact hs i x σ _ (y xs q) p
 ·have e:i=xs.length:=by omega
  subst e
  exact .inl ⟨⟨xs,q,Nat.le_refl _⟩,hd σ H p⟩
theorem for_range {lo:Int}{n:Nat}{g:TG}{tb:TS}{D:Ends}{σ:St}{H:Hp}(Pv:Nat -> St -> Hp -> Prop)(h0:Pv 0 σ H)
  (hs:∀ i σ H,i < n -> Pv i σ H -> g (.int (lo+i)) σ H fun σ2 H2=>tb { D with nx:=Pv (i+1),ct:=Pv (i+1),bk:=D.nx } σ2 H2) (hd:∀ σ H,Pv n σ H -> D.nx σ H) :
  ∃ W:Nat -> Nat -> St -> Hp -> Prop,(∃ m,W 0 m σ H) /\ ∀ i m σ H,W i m σ H ->
   ((Itr lo n).stop i H /\ D.nx σ H) \/ ((Itr lo n).go i H /\ ∃ N:St -> Hp -> Prop,(∀ σ' H',N σ' H' -> ∃ m',m' < m /\ W (i+1) m' σ' H') /\ ∀ x H',(Itr lo n).yld i H x H' -> g x σ H' fun σ2 H2=>tb { D with nx:=N,ct:=N,bk:=D.nx } σ2 H2):=by
 refine ⟨fun i m σ H=>m=n - i /\ i <= n /\ Pv i σ H,⟨n,by simp,Nat.zero_le _,h0⟩,?_⟩
 rintro i m σ H ⟨rfl,hi,p⟩
 by_cases hlt:i < n
 ·refine .inr ⟨hlt,Pv (i+1),fun σ' H' p'=>⟨n - (i+1),by omega,rfl,hlt,p'⟩,fun x H' y=>?_⟩
  obtain ⟨e,y⟩:=y
  subst e y
  exact hs i σ _ hlt p
 ·have e:i=n:=by omega
  subst e
  exact .inl ⟨Nat.le_refl _,hd σ H p⟩
end L2
namespace L2
open PySem PySem.Spec PyProof.Rows
abbrev R2:=V -> V -> Hp -> VK -> Prop
def OpR (X:Cx)(f:Value -> Value -> Sem Value)(r:R2):Prop :=
 ∀ (pins:List (Addr × Obj)) (s:Shared) (σ:St) (H:Hp) (x y:V) (v u:Value) (Q:VK),Inv X pins σ H s -> RelV x v -> RelV y u -> r x y H Q ->
  wpAny (model X.prog X.w) X.A (f v u) (EP X pins σ Q) X.xe s
def UnR (X:Cx)(f:Value -> Sem Value)(r:V -> Hp -> VK -> Prop):Prop :=
 ∀ (pins:List (Addr × Obj)) (s:Shared) (σ:St) (H:Hp) (x:V) (v:Value) (Q:VK),Inv X pins σ H s -> RelV x v -> r x H Q ->
  wpAny (model X.prog X.w) X.A (f v) (EP X pins σ Q) X.xe s
def CallR (X:Cx)(f:Value)(r:List V -> Hp -> VK -> Prop):Prop :=
 ∀ (pins:List (Addr × Obj)) (s:Shared) (σ:St) (H:Hp) (xs:List V) (us:List Value) (Q:VK),Inv X pins σ H s -> Vals xs us -> r xs H Q ->
  wpAny (model X.prog X.w) X.A (call f us) (EP X pins σ Q) X.xe s
def tOp (r:R2)(ta tb:TE):TE:=fun σ H Q=>ta σ H fun x H1=>tb σ H1 fun y H2=>r x y H2 Q
def tUn (r:V -> Hp -> VK -> Prop)(ta:TE):TE:=fun σ H Q=>ta σ H fun x H1=>r x H1 Q
def rI (C:Int -> Int -> Prop)(g:Int -> Int -> V):R2:=fun x y H Q=>∃ i j,x = .int i /\ y = .int j /\ C i j /\ Q (g i j) H
def rI0 (g:Int -> Int -> V):R2:=fun x y H Q=>∃ i j,x = .int i /\ y = .int j /\ Q (g i j) H
def rU (g:Int -> V):V -> Hp -> VK -> Prop:=fun x H Q=>∃ i,x = .int i /\ Q (g i) H
section
variable {X:Cx}{a b c:Expr}{ta tb tc:TE}{pos:Pos}
theorem binT (ha:PE X a ta)(hb:PE X b tb){pins:List (Addr × Obj)}{s:Shared}{σ:St}{H:Hp}{R:V -> V -> Hp -> Prop}(I:Inv X pins σ H s)
  (h:ta σ H fun x H1=>tb σ H1 fun y H2=>R x y H2) {Q:Value -> Shared -> Prop} {f:Value -> Value -> Sem Value}
  (hf:∀ v u s2 x y H2,Inv X pins σ H2 s2 -> RelV x v -> RelV y u -> R x y H2 -> wpAny (model X.prog X.w) X.A (f v u) Q X.xe s2) :
  wpAny (model X.prog X.w) X.A (eval a X.env) (fun v s₁=>wpAny (model X.prog X.w) X.A (eval b X.env) (fun u s₂=>wpAny (model X.prog X.w) X.A (f v u) Q X.xe s₂) X.xe s₁) X.xe s:=by
 refine thn (ha pins s σ H _ I h) fun v s1 ⟨x,H1,I1,r1,q1⟩=>?_
 refine thn (hb pins s1 σ H1 _ I1 q1) fun u s2 ⟨y,H2,I2,r2,q2⟩=>?_
 exact hf v u s2 x y H2 I2 r1 r2 q2
theorem pe_op {op:Operator}{r:R2}(ho:OpR X (binaryOp op) r)(ha:PE X a ta)(hb:PE X b tb):PE X (.BinOp a op b pos) (tOp r ta tb):=by
 intro pins s σ H Q I h
 exact wpAny_BinOp (binT ha hb I h fun v u s2 x y H2 I2 rx ry q=>ho pins s2 σ H2 x y v u Q I2 rx ry q)
theorem pe_un {op:UnaryOp}{r:V -> Hp -> VK -> Prop}(ho:UnR X (unaryOp op) r)(ha:PE X a ta):PE X (.UnaryOp op a pos) (tUn r ta):=by
 intro pins s σ H Q I h
 exact UnaryOp_ (thn (ha pins s σ H _ I h) fun v s1 ⟨x,H1,I1,r1,q1⟩=>ho pins s1 σ H1 x v Q I1 r1 q1)
theorem opI {f:Value -> Value -> Sem Value}{C:Int -> Int -> Prop}{g:Int -> Int -> Int}
  (rule:∀ (i j:Int) (t u:Tok) (s:Shared) (Q:Value -> Shared -> Prop) (E:Value -> Shared -> Prop),C i j -> Q (.int (g i j) s.toks) { s with toks:=s.toks+1 } -> wpAny (model X.prog X.w) X.A (f (.int i t) (.int j u)) Q E s) :
  OpR X f (rI C fun i j=>.int (g i j)):=by
 intro pins s σ H x y v u Q I rx ry h
 obtain ⟨i,j,rfl,rfl,hc,q⟩:=h
 obtain ⟨t,rfl⟩:=rx
 obtain ⟨t',rfl⟩:=ry
 exact rule i j t t' s _ _ hc ⟨.int (g i j),H,I.tok _,⟨_,rfl⟩,q⟩
theorem opI0 {f:Value -> Value -> Sem Value}{g:Int -> Int -> Int}
  (rule:∀ (i j:Int) (t u:Tok) (s:Shared) (Q:Value -> Shared -> Prop) (E:Value -> Shared -> Prop),Q (.int (g i j) s.toks) { s with toks:=s.toks+1 } -> wpAny (model X.prog X.w) X.A (f (.int i t) (.int j u)) Q E s) :
  OpR X f (rI0 fun i j=>.int (g i j)):=by
 intro pins s σ H x y v u Q I rx ry h
 obtain ⟨i,j,rfl,rfl,q⟩:=h
 obtain ⟨t,rfl⟩:=rx
 obtain ⟨t',rfl⟩:=ry
 exact rule i j t t' s _ _ ⟨.int (g i j),H,I.tok _,⟨_,rfl⟩,q⟩
theorem opB0 {f:Value -> Value -> Sem Value}{g:Int -> Int -> Bool}
  (rule:∀ (i j:Int) (t u:Tok) (s:Shared) (Q:Value -> Shared -> Prop) (E:Value -> Shared -> Prop),Q (.bool (g i j)) s -> wpAny (model X.prog X.w) X.A (f (.int i t) (.int j u)) Q E s) :
  OpR X f (rI0 fun i j=>.bl (g i j)):=by
 intro pins s σ H x y v u Q I rx ry h
 obtain ⟨i,j,rfl,rfl,q⟩:=h
 obtain ⟨t,rfl⟩:=rx
 obtain ⟨t',rfl⟩:=ry
 exact rule i j t t' s _ _ ⟨.bl (g i j),H,I,rfl,q⟩
theorem two_pow_nn (k:Nat):(0:Int) <= 2 ^ k:=by
 rw [two_pow_cast]
 exact Int.natCast_nonneg _
theorem op_add:OpR X (binaryOp .Add) (rI0 fun i j=>.int (i+j)):=opI0 fun _ _ _ _ _ _ _ q=>add_int q
theorem op_sub:OpR X (binaryOp .Sub) (rI0 fun i j=>.int (i - j)):=opI0 fun _ _ _ _ _ _ _ q=>sub_int q
theorem op_mod:OpR X (binaryOp .Mod) (rI (fun _ j=>0 < j) fun i j=>.int (i % j)):=opI fun i j _ _ _ _ _ hc q=>by
 have h1:(0:Int) < j:=hc
 exact mod_int' (by omega) (by rw [Int.fmod_eq_emod_of_nonneg i (by omega)]; exact q)
theorem op_shr:OpR X (binaryOp .RShift) (rI (fun _ j=>0 <= j) fun i j=>.int (i / 2 ^ j.toNat)):=opI fun i j _ _ _ _ _ hc q =>
 rshift_int hc (by rw [Int.fdiv_eq_ediv_of_nonneg i (two_pow_nn _)]; exact q)
theorem unI {f:Value -> Sem Value}{g:Int -> Int}
  (rule:∀ (i:Int) (t:Tok) (s:Shared) (Q:Value -> Shared -> Prop) (E:Value -> Shared -> Prop),Q (.int (g i) s.toks) { s with toks:=s.toks+1 } -> wpAny (model X.prog X.w) X.A (f (.int i t)) Q E s) :
  UnR X f (rU fun i=>.int (g i)):=by
 intro pins s σ H x v Q I rx h
 obtain ⟨i,rfl,q⟩:=h
 obtain ⟨t,rfl⟩:=rx
 exact rule i t s _ _ ⟨.int (g i),H,I.tok _,⟨_,rfl⟩,q⟩
theorem un_neg:UnR X (unaryOp .USub) (rU fun i=>.int (-i)):=unI fun _ _ _ _ _ q=>neg_int q
end
def scal:V -> V -> Bool
 | .non,.non=>true | .non,.int _=>true | .int _,.non=>true | .non,.bl _=>true | .bl _,.non=>true | .non,.str _=>true | .str _,.non=>true
 | .int _,.int _=>true | .bl _,.bl _=>true | .str _,.str _=>true | .byt _,.byt _=>true
 | .int _,.str _=>true | .str _,.int _=>true | .bl _,.str _=>true | .str _,.bl _=>true
 | _,_=>false
def rEq:R2:=fun x y H Q=>scal x y=true /\ Q (.bl (decide (x=y))) H
def rNe:R2:=fun x y H Q=>scal x y=true /\ Q (.bl (!decide (x=y))) H
theorem dec_int {i j:Int}:decide (V.int i=V.int j)=(i == j):=by
 rw [Bool.eq_iff_iff]
 simp
theorem dec_bl {i j:Bool}:decide (V.bl i=V.bl j)=(i == j):=by
 rw [Bool.eq_iff_iff]
 simp
theorem dec_str {i j:Str}:decide (V.str i=V.str j)=(i == j):=by
 rw [Bool.eq_iff_iff]
 simp
theorem dec_byt {i j:Array UInt8}:decide (V.byt i=V.byt j)=(i.toList == j.toList):=by
 rw [Bool.eq_iff_iff]
 cases i
 cases j
 simp
section
variable {X:Cx}{a b c:Expr}{ta tb tc:TE}{pos:Pos}
theorem fin_bl {pins:List (Addr × Obj)}{σ:St}{H:Hp}{s:Shared}{Q:VK}{k k':Bool}(I:Inv X pins σ H s)(q:Q (.bl k) H)(e:k=k'):EP X pins σ Q (.bool k') s:=by
 subst e
 exact ⟨.bl k,H,I,rfl,q⟩
theorem op_eq:OpR X (compareOp .Eq) rEq:=by
 intro pins s σ H x y v u Q I rx ry h
 obtain ⟨hs,q⟩:=h
 cases x with
 | non =>
  cases rx
  cases y with
  | non=>cases ry; exact PySem.EqNone.eq_none_none (fin_bl I q (by simp))
  | bl j=>cases ry; exact PySem.EqNone.eq_none_bool (fin_bl I q (by simp))
  | int j=>obtain ⟨t',rfl⟩:=ry; exact PySem.EqNone.eq_none_int (fin_bl I q (by simp))
  | str j=>obtain ⟨t',rfl⟩:=ry; exact PySem.EqNone.eq_none_str (fin_bl I q (by simp))
  | _=>exact absurd (show false=true from hs) Bool.false_ne_true
 | bl i =>
  cases rx
  cases y with
  | non=>cases ry; exact PySem.EqNone.eq_bool_none (fin_bl I q (by simp))
  | bl j=>cases ry; exact eq_bool (fin_bl I q dec_bl)
  | str j=>obtain ⟨t',rfl⟩:=ry; exact PySem.EqMixed.eq_bool_str (fin_bl I q (by simp))
  | _=>exact absurd (show false=true from hs) Bool.false_ne_true
 | int i =>
  obtain ⟨t,rfl⟩:=rx
  cases y with
  | non=>cases ry; exact PySem.EqNone.eq_int_none (fin_bl I q (by simp))
  | int j=>obtain ⟨t',rfl⟩:=ry; exact eq_int (fin_bl I q dec_int)
  | str j=>obtain ⟨t',rfl⟩:=ry; exact PySem.EqMixed.eq_int_str (fin_bl I q (by simp))
  | _=>exact absurd (show false=true from hs) Bool.false_ne_true
 | str i =>
  obtain ⟨t,rfl⟩:=rx
  cases y with
  | non=>cases ry; exact PySem.EqNone.eq_str_none (fin_bl I q (by simp))
  | bl j=>cases ry; exact PySem.EqMixed.eq_str_bool (fin_bl I q (by simp))
  | int j=>obtain ⟨t',rfl⟩:=ry; exact PySem.EqMixed.eq_str_int (fin_bl I q (by simp))
  | str j=>obtain ⟨t',rfl⟩:=ry; exact eq_str (fin_bl I q dec_str)
  | _=>exact absurd (show false=true from hs) Bool.false_ne_true
 | byt i =>
  obtain ⟨t,rfl⟩:=rx
  cases y with
  | byt j=>obtain ⟨t',rfl⟩:=ry; exact PySem.W.eq_bytes (fin_bl I q dec_byt)
  | _=>exact absurd (show false=true from hs) Bool.false_ne_true
 | _=>cases y <;> exact absurd (show false=true from hs) Bool.false_ne_true
theorem op_ne:OpR X (compareOp .NotEq) rNe:=by
 intro pins s σ H x y v u Q I rx ry h
 obtain ⟨hs,q⟩:=h
 cases x with
 | non =>
  cases rx
  cases y with
  | non=>cases ry; exact PySem.EqNone.ne_none_none (fin_bl I q (by simp))
  | bl j=>cases ry; exact PySem.EqNone.ne_none_bool (fin_bl I q (by simp))
  | int j=>obtain ⟨t',rfl⟩:=ry; exact PySem.EqNone.ne_none_int (fin_bl I q (by simp))
  | str j=>obtain ⟨t',rfl⟩:=ry; exact PySem.EqNone.ne_none_str (fin_bl I q (by simp))
  | _=>exact absurd (show false=true from hs) Bool.false_ne_true
 | bl i =>
  cases rx
  cases y with
  | non=>cases ry; exact PySem.EqNone.ne_bool_none (fin_bl I q (by simp))
  | bl j=>cases ry; exact ne_bool (fin_bl I q (congrArg not dec_bl))
  | str j=>obtain ⟨t',rfl⟩:=ry; exact PySem.EqMixed.ne_bool_str (fin_bl I q (by simp))
  | _=>exact absurd (show false=true from hs) Bool.false_ne_true
 | int i =>
  obtain ⟨t,rfl⟩:=rx
  cases y with
  | non=>cases ry; exact PySem.EqNone.ne_int_none (fin_bl I q (by simp))
  | int j=>obtain ⟨t',rfl⟩:=ry; exact ne_int (fin_bl I q (congrArg not dec_int))
  | str j=>obtain ⟨t',rfl⟩:=ry; exact PySem.EqMixed.ne_int_str (fin_bl I q (by simp))
  | _=>exact absurd (show false=true from hs) Bool.false_ne_true
 | str i =>
  obtain ⟨t,rfl⟩:=rx
  cases y with
  | non=>cases ry; exact PySem.EqNone.ne_str_none (fin_bl I q (by simp))
  | bl j=>cases ry; exact PySem.EqMixed.ne_str_bool (fin_bl I q (by simp))
  | int j=>obtain ⟨t',rfl⟩:=ry; exact PySem.EqMixed.ne_str_int (fin_bl I q (by simp))
  | str j=>obtain ⟨t',rfl⟩:=ry; exact ne_str (fin_bl I q (congrArg not dec_str))
  | _=>exact absurd (show false=true from hs) Bool.false_ne_true
 | byt i =>
  obtain ⟨t,rfl⟩:=rx
  cases y with
  | byt j=>obtain ⟨t',rfl⟩:=ry; exact PySem.W.ne_bytes (fin_bl I q (congrArg not dec_byt))
  | _=>exact absurd (show false=true from hs) Bool.false_ne_true
 | _=>cases y <;> exact absurd (show false=true from hs) Bool.false_ne_true
theorem op_lt:OpR X (compareOp .Lt) (rI0 fun i j=>.bl (decide (i < j))):=opB0 fun _ _ _ _ _ _ _ q=>lt_int q
theorem op_gt:OpR X (compareOp .Gt) (rI0 fun i j=>.bl (decide (j < i))):=opB0 fun _ _ _ _ _ _ _ q=>gt_int q
theorem op_ge:OpR X (compareOp .GtE) (rI0 fun i j=>.bl (decide (j <= i))):=opB0 fun _ _ _ _ _ _ _ q=>ge_int q
theorem nomark (b:Expr){op:CmpOp}(h:op ≠ .In:=by decide)(h2:op ≠ .NotIn:=by decide):behindInMarks op b=false:=by
 have e1:(op == CmpOp.In)=false:=by cases op <;> first | rfl | exact absurd rfl h
 have e2:(op == CmpOp.NotIn)=false:=by cases op <;> first | rfl | exact absurd rfl h2
 cases b <;> simp [behindInMarks,e1,e2]
theorem pe_cmpR {op:CmpOp}{r:R2}(ho:OpR X (compareOp op) r)(ha:PE X a ta)(hb:PE X b tb)(hm:behindInMarks op b=false):PE X (.Compare a [op] [b] pos) (tOp r ta tb):=by
 intro pins s σ H Q I h
 exact wpAny_Compare1 (binT ha hb I h fun v u s2 x y H2 I2 rx ry q=>ho pins s2 σ H2 x y v u Q I2 rx ry q) hm
def tTest (t:TE):TT:=fun σ H Q=>t σ H fun x H'=>∃ k,x = .bl k /\ Q k H'
theorem pt_cmpR {op:CmpOp}{r:R2}(ho:OpR X (compareOp op) r)(ha:PE X a ta)(hb:PE X b tb)(hm:behindInMarks op b=false):PT X (.Compare a [op] [b] pos) (tTest (tOp r ta tb)):=by
 intro pins s σ H Q I h
 refine wpAny_isTrue_Compare1 (thn (ha pins s σ H _ I h) fun v s1 ⟨x,H1,I1,r1,q1⟩=>thn (hb pins s1 σ H1 _ I1 q1) fun u s2 ⟨y,H2,I2,r2,q2⟩ =>
  thn (ho pins s2 σ H2 x y v u _ I2 r1 r2 q2) fun c s3 ⟨z,H3,I3,r3,k,e,q3⟩=>?_) hm
 subst e
 cases r3
 exact wpAny_truthy_bool ⟨H3,I3,q3⟩
def tChain (r r':R2)(ta tb tc:TE):TE:=fun σ H Q=>ta σ H fun x H1=>tb σ H1 fun y H2=>r x y H2 fun z H3=>∃ k,z = .bl k /\
 (if k=true then tc σ H3 fun w' H4=>r' y w' H4 Q else Q (.bl false) H3)
theorem line63:(sizeLine:Nat) < 2 ^ 63:=by rw [sizeLine_eq]; decide
theorem vals1 {x:V}{us:List Value}(r:Vals [x] us):∃ u,us=[u] /\ RelV x u:=by
 cases r with
 | cons r1 r2=>cases r2; exact ⟨_,rfl,r1⟩
theorem vals2 {x y:V}{us:List Value}(r:Vals [x,y] us):∃ u w',us=[u,w'] /\ RelV x u /\ RelV y w':=by
 cases r with
 | cons r1 r2 =>
  cases r2 with
  | cons r3 r4=>cases r4; exact ⟨_,_,rfl,r1,r3⟩
theorem call_abs:CallR X (.builtin "abs") (fun xs H Q=>∃ i,xs=[.int i] /\ Q (.int (if i < 0 then -i else i)) H):=by
 intro pins s σ H xs us Q I r h
 obtain ⟨i,rfl,q⟩:=h
 obtain ⟨u,rfl,t,rfl⟩:=vals1 r
 exact call_abs_int fun u tk=>⟨.int (if i < 0 then -i else i),H,I.tok _,⟨_,rfl⟩,q⟩
theorem call_max2 (hc:X.calm=true):CallR X (.builtin "max") (fun xs H Q=>∃ i j,xs=[.int i,.int j] /\ Q (.int (if j > i then j else i)) H):=by
 intro pins s σ H xs us Q I r h
 obtain ⟨i,j,rfl,q⟩:=h
 obtain ⟨u,w',rfl,⟨t,rfl⟩,⟨t',rfl⟩⟩:=vals2 r
 refine max_two_ints (I.ok.hd hc) fun h' tk k=>⟨_,H,I.kept k,?_,q⟩
 by_cases hj:j > i
 ·rw [if_pos hj,if_pos hj]; exact ⟨_,rfl⟩
 ·rw [if_neg hj,if_neg hj]; exact ⟨_,rfl⟩
theorem call_min2 (hc:X.calm=true):CallR X (.builtin "min") (fun xs H Q=>∃ i j,xs=[.int i,.int j] /\ Q (.int (if j < i then j else i)) H):=by
 intro pins s σ H xs us Q I r h
 obtain ⟨i,j,rfl,q⟩:=h
 obtain ⟨u,w',rfl,⟨t,rfl⟩,⟨t',rfl⟩⟩:=vals2 r
 refine min_two_ints (I.ok.hd hc) fun h' tk k=>⟨_,H,I.kept k,?_,q⟩
 by_cases hj:j < i
 ·rw [if_pos hj,if_pos hj]; exact ⟨_,rfl⟩
 ·rw [if_neg hj,if_neg hj]; exact ⟨_,rfl⟩
theorem call_int1:CallR X (.type "int") (fun xs H Q=>(∃ i,xs=[.int i] /\ Q (.int i) H) \/ ∃ k,xs=[.bl k] /\ Q (.int (if k then 1 else 0)) H):=by
 intro pins s σ H xs us Q I r h
 rcases h with ⟨i,rfl,q⟩ | ⟨k,rfl,q⟩
 ·obtain ⟨u,rfl,t,rfl⟩:=vals1 r
  exact call_int_int ⟨.int i,H,I,⟨_,rfl⟩,q⟩
 ·obtain ⟨u,rfl,r1⟩:=vals1 r
  cases r1
  exact call_int_bool ⟨.int (if k then 1 else 0),H,I.tok _,⟨_,rfl⟩,q⟩
end
end L2
namespace L2
open PySem PySem.Spec PyProof.Rows
structure ObjM (h:Heap) (x dx C:Addr) (mA:Str -> Option Value):Prop where
 obj:h.get? x=some (PySem.W.instObj C dx)
 ns:h.Ns1 dx mA
 ne:dx ≠ x
theorem lookIn_ns {h:Heap}{dx:Addr}{mA:Str -> Option Value}(n:h.Ns1 dx mA):∃ od,h.get? dx=some od /\ ∀ name,PySem.W.lookIn name od=some (mA name):=by
 obtain ⟨o,es,ep,ho,hd,hk,_,hm⟩:=n
 refine ⟨o,ho,fun name=>?_⟩
 have e:=hm name
 unfold nsFind findBy at e
 rw [← Array.find?_toList] at e
 unfold PySem.W.lookIn
 rw [hd]
 dsimp only
 split
 ·rename_i y q
  rw [q] at e
  exact congrArg some e
 ·rename_i q
  rw [q] at e
  have a:es.toList.any (·.refKey)=false:=by
   rw [List.any_eq_false]
   intro y hy
   obtain ⟨z,t,hkey⟩:=hk y (Array.mem_toList_iff.mp hy)
   simp [DictEntry.refKey,hkey]
  have a':¬ es.toList.any (·.refKey)=true:=by rw [a]; exact Bool.false_ne_true
  rw [if_neg a']
  exact congrArg some e
theorem ObjM.look {h:Heap}{x dx C:Addr}{mA:Str -> Option Value}(I:ObjM h x dx C mA):∃ od,PySem.W.InstAt h x (PySem.W.instObj C dx) C (some od) /\ ∀ name,PySem.W.lookIn name od=some (mA name) :=
 let ⟨od,ho,hl⟩:=lookIn_ns I.ns
 ⟨od,⟨I.obj,rfl,rfl,ho⟩,hl⟩
section
variable {prog:Program}{w:World}{A:Around}{E:Value -> Shared -> Prop}{s:Shared}{K:PySem.W.Frag}{x dx C f:Addr}{mA:Str -> Option Value}{name:Str}{v:Value}
end
section
variable {P:Program}{w:World}{H H':Hp}{h h':Heap}{a C dx:Addr}{fs fs':List (Str × V)}
theorem ins_get (hok:HOk P w H h)(e:H a=some (.ins C dx fs)):∃ mA,ObjM h a dx C mA /\ (∀ f,RelO (fs.lookup f) (mA f)) /\ PySem.Within mA (fs.map (·.1)) /\ fs.length <= 1000 /\ H dx=some (.own a):=by
 obtain ⟨d,z,ne,ob,mA,n,r,q⟩:=(show ObjOk P w H h a (.ins C dx fs) from hok a _ e)
 exact ⟨mA,⟨ob,n,ne⟩,r,q,z,d⟩
end
structure Cls (K:PySem.W.Frag) (C:Addr):Prop where
 pg:PySem.W.plainGet K C Str.empty=true
 hd:PySem.W.hasDictIn K C=true
 po:PySem.W.plainOver K C=true
 sa:PySem.W.findIn K (.ref C) "__setattr__" = some (some (.builtin "object.__setattr__"))
theorem Cls.get {K:PySem.W.Frag}{C:Addr}(c:Cls K C)(f:Str):PySem.W.plainGet K C f=true:=c.pg
section
variable {X:Cx}{pins:List (Addr × Obj)}{σ:St}{H:Hp}{s:Shared}{a C dx:Addr}{fs:List (Str × V)}{f:Str}{v:V}{A:Around}{E:Value -> Shared -> Prop}
end
section
variable {X:Cx}{o e value:Expr}{f:Str}{pos pos' tpos:Pos}{ta tv:TE}
end
section
variable {X:Cx}{pins:List (Addr × Obj)}{σ:St}{H:Hp}{s:Shared}{A:Around}{E:Value -> Shared -> Prop}{Q:Value -> Shared -> Prop}{c:Value}{b:Bool}
inductive TyOf (K:PySem.W.Frag) (H:Hp):V -> Value -> Prop where
 | non:TyOf K H .non (.type "NoneType")
 | bl (x:Bool):TyOf K H (.bl x) (.type "bool")
 | int (i:Int):TyOf K H (.int i) (.type "int")
 | str (x:Str):TyOf K H (.str x) (.type "str")
 | flt (x:UInt64):TyOf K H (.flt x) (.type "float")
 | lst {a:Addr} {xs:List V} (e:H a=some (.lst xs)):TyOf K H (.ref a) (.type "list")
 | frz {a:Addr} {o:Obj} {xs:List V} (e:H a=some (.frz o (.lst xs))):TyOf K H (.ref a) (.type "list")
 | tup {a:Addr} {xs:List V} (e:H a=some (.tup xs)):TyOf K H (.ref a) (.type "tuple")
 | dK {a:Addr} {kvs:List (Key × V)} (e:H a=some (.dK kvs)):TyOf K H (.ref a) (.type "dict")
 | dT {a:Addr} {kvs:List (List Key × V)} (e:H a=some (.dT kvs)):TyOf K H (.ref a) (.type "dict")
 | ins {a C dx:Addr} {fs:List (Str × V)} (e:H a=some (.ins C dx fs)) (cl:Cls K C) (ha:PySem.W.findIn K (.ref C) "__class__" = some (some (.builtin "object.__class__")))
   (hn:PySem.W.specialIn K (.builtin "object.__class__") "__get__" = some (some (.builtin "getset_descriptor.__get__"))) (htk:PySem.W.takesIn K (.builtin "object.__class__")=some true)
   (hm:PySem.W.mroIn K C (.type "object")=some true):TyOf K H (.ref a) (.ref C)
theorem isinst_ok {x:V}{u t:Value}(I:Inv X pins σ H s)(rx:RelV x u)(ty:TyOf X.K H x t)(e:PySem.W.kitOne X.K t c=some b)(h:∀ tk,Q (.bool b) { s with toks:=tk }) :
  wpAny (model X.prog X.w) A (call (.builtin "isinstance") [u,c]) Q E s:=by
 cases ty with
 | non=>cases (show u=Value.none from rx); exact PySem.W.kia_one PySem.W.kitx_none I.kIn True.intro e (fun z=>nomatch z) h
 | bl y=>cases (show u=Value.bool y from rx); exact PySem.W.kia_one PySem.W.kitx_bool I.kIn True.intro e (fun z=>nomatch z) h
 | int i=>obtain ⟨t,q⟩:=(show ∃ t,u=Value.int i t from rx); cases q; exact PySem.W.kia_one PySem.W.kitx_int I.kIn True.intro e (fun z=>nomatch z) h
 | str y=>obtain ⟨t,q⟩:=(show ∃ t,u=Value.str y t from rx); cases q; exact PySem.W.kia_one PySem.W.kitx_str I.kIn True.intro e (fun z=>nomatch z) h
 | flt y=>obtain ⟨t,q⟩:=(show ∃ t,u=Value.float y t from rx); cases q; exact PySem.W.kia_one PySem.W.kitx_float I.kIn True.intro e (fun z=>nomatch z) h
 | @lst a xs ea =>
  cases (show u=Value.ref a from rx)
  obtain ⟨_,_,n,_,h1⟩:=(show ObjOk X.prog X.w H s.heap a (.lst xs) from I.hok a _ ea)
  exact PySem.W.kia_one PySem.W.kitx_list I.kIn ⟨_,h1,rfl⟩ e (fun z=>nomatch z) h
 | @frz a ob xs ea =>
  cases (show u=Value.ref a from rx)
  obtain ⟨_,_,_,n,_,h1⟩:=(show ObjOk X.prog X.w H s.heap a (.frz ob (.lst xs)) from I.hok a _ ea)
  exact PySem.W.kia_one PySem.W.kitx_list I.kIn ⟨_,h1,rfl⟩ e (fun z=>nomatch z) h
 | @tup a xs ea =>
  cases (show u=Value.ref a from rx)
  obtain ⟨_,_,_,p⟩:=(show ObjOk X.prog X.w H s.heap a (.tup xs) from I.hok a _ ea)
  obtain ⟨o,h1,h2,_⟩:=p
  exact PySem.W.kia_one PySem.W.kitx_tuple I.kIn ⟨o,h1,h2⟩ e (fun z=>nomatch z) h
 | @dK a kvs ea =>
  cases (show u=Value.ref a from rx)
  obtain ⟨_,_,vs,_,p⟩:=(show ObjOk X.prog X.w H s.heap a (.dK kvs) from I.hok a _ ea)
  obtain ⟨o,es,ep,h1,h2,_⟩:=p
  exact PySem.W.kia_one PySem.W.kitx_dict I.kIn ⟨o,h1,h2.1⟩ e (fun z=>nomatch z) h
 | @dT a kvs ea =>
  cases (show u=Value.ref a from rx)
  obtain ⟨_,_,xs,_,o,es,ep,h1,h2,_⟩:=(show ObjOk X.prog X.w H s.heap a (.dT kvs) from I.hok a _ ea)
  exact PySem.W.kia_one PySem.W.kitx_dict I.kIn ⟨o,h1,h2.1⟩ e (fun z=>nomatch z) h
 | @ins a C dx fs ea cl ha hn htk hm =>
  cases (show u=Value.ref a from rx)
  obtain ⟨mA,O,_⟩:=ins_get I.hok ea
  obtain ⟨od,J,_⟩:=O.look
  exact PySem.W.kia_one (PySem.W.kitx_own (cl.get _) cl.hd ha hn htk hm) I.kIn J e (fun z=>nomatch z) h
end
end L2
namespace L2
open PySem PySem.Spec PyProof.Rows
structure Room (k:Nat) (A:Around):Prop where
 hd:A.handled=none
 dp:A.depth+3 * k+5 < recursionLimit
 un:A.units+16 * k+200 < cLine
theorem Room.mono {j k:Nat}{A:Around}(r:Room k A)(h:j <= k):Room j A:=⟨r.hd,by have:=r.dp; omega,by have:=r.un; omega⟩
theorem Room.deeper {k:Nat}{A:Around}(r:Room (k+1) A)(env:Env):Room k (A.deeper env) :=
 ⟨r.hd,by have:=r.dp; show A.depth+1+3 * k+5 < _; omega,by have:=r.un; show A.units+3+16 * k+200 < _; omega⟩
theorem Room.depth {k:Nat}{A:Around}(r:Room k A):A.depth < recursionLimit:=by have:=r.dp; omega
theorem Room.units {k:Nat}{A:Around}(r:Room k A):A.units+64 < cLine:=by have:=r.un; omega
def tNil:TA:=fun _ H Q=>Q [] H
def tCons (ta:TE)(tr:TA):TA:=fun σ H Q=>ta σ H fun x H1=>tr σ H1 fun xs H2=>Q (x :: xs) H2
section
variable {X:Cx}{e:Expr}{es:List Expr}{te:TE}{t:TA}{pos:Pos}
theorem pa_nil:PA X [] tNil:=fun _ _ _ _ H Q I h=>Calls.spliced_nil ⟨[],H,I,.nil,h⟩
theorem pa_cons (ha:PE X e te)(hr:PA X es t)(hs:starEach (e :: es) X.env=(false,eval e X.env) :: starEach es X.env:=by rfl):PA X (e :: es) (tCons te t):=by
 intro pos pins s σ H Q I h
 rw [hs]
 show wpAny _ _ (spliced ((false,eval e X.env) :: backTo pos (starEach es X.env))) _ _ s
 refine Calls.spliced_cons (thn (ha pins s σ H _ I h) fun u s1 ⟨x,H1,I1,r1,q1⟩=>?_)
 exact thn (hr pos pins s1 σ H1 _ I1 q1) fun us s2 ⟨xs,H2,I2,r2,q2⟩=>⟨x :: xs,H2,I2,.cons r1 r2,q2⟩
def tTup (t:TA):TE:=fun σ H Q=>t σ H fun xs H1=>xs.length <= sizeLine /\ ∀ p,H1 p=none -> Q (.ref p) (upd H1 p (.tup xs))
def tLst (t:TA):TE:=fun σ H Q=>t σ H fun xs H1=>xs.length <= sizeLine /\ ∀ p,H1 p=none -> Q (.ref p) (upd H1 p (.lst xs))
theorem pe_tup {x1}(h:PA X es t):PE X (.Tuple es x1 pos) (tTup t):=by
 intro pins s σ H Q I hq
 refine wpAny_Tuple_spliced (thn (h pos pins s σ H _ I hq) fun us s1 ⟨xs,H1,I1,r,z,q⟩=>⟨by rw [← r.length]; exact z,?_⟩)
 have hf:H1 s1.heap.objs.size=none:=I1.hok.fresh (Nat.le_refl _)
 refine ⟨.ref s1.heap.objs.size,upd H1 s1.heap.objs.size (.tup xs),I1.laid (t':=s1.toks) (fun b u e=>Heap.get?_push_of_some _ e) (Nat.le_refl _) ?_,rfl,q _ hf⟩
 exact ⟨z,us,r,⟨_,Heap.get?_push_size _ rfl,rfl,_,rfl⟩⟩
theorem pe_lst (h:PA X es t):PE X (.List es pos) (tLst t):=by
 intro pins s σ H Q I hq
 refine wpAny_List_spliced (thn (h pos pins s σ H _ I hq) fun us s1 ⟨xs,H1,I1,r,z,q⟩=>⟨by rw [← r.length]; exact z,?_⟩)
 have hf:H1 s1.heap.objs.size=none:=I1.hok.fresh (Nat.le_refl _)
 refine ⟨.ref s1.heap.objs.size,upd H1 s1.heap.objs.size (.lst xs),I1.laid (t':=s1.toks) (fun b u e=>Heap.get?_push_of_some _ e) (Nat.le_refl _) ?_,rfl,q _ hf⟩
 exact ⟨z,us,0,r,Heap.get?_push_size _ rfl⟩
end
abbrev Sp:=List V -> Hp -> VK -> XK -> Prop
abbrev CXT:=List Env -> Hp -> Shared -> XK -> Value -> Shared -> Prop
structure Env0 (P:Program) (w:World) (K:PySem.W.Frag) (mg:Str -> Option Value) (base:Heap) (A:Around) (outer:List Env) (s:Shared) (H:Hp):Prop where
 frames:A.frames=some outer
 mod:Mod K mg base
 bs:∀ b o,base.get? b=some o -> s.heap.get? b=some o /\ H b=none
 bsz:base.objs.size <= s.heap.objs.size
 funs:s.heap.FunFrames base outer
 frf:∀ b ∈ frs outer,H b=none
 hok:HOk P w H s.heap
 bare:AllBare s.gens
def CE (outer:List Env)(P:Program)(w:World)(H:Hp)(s:Shared)(Q:VK)(u:Value)(s':Shared):Prop :=
 ∃ v H',s'.os=s.os /\ AllBare s'.gens /\ Un (frs outer) [] H H' s.heap s'.heap /\ HOk P w H' s'.heap /\ RelV v u /\ Q v H'
def CR (CX:CXT)(outer:List Env)(P:Program)(w:World)(H:Hp)(s:Shared)(Q:VK)(E:XK)(r:Result)(s':Shared):Prop :=
 match r with
 | .ok (.ret u)=>CE outer P w H s Q u s'
 | .ok _=>False
 | .error e=>CX outer H s E e s'
structure FnOk (P:Program) (w:World) (K:PySem.W.Frag) (mg:Str -> Option Value) (base:Heap) (CX:CXT) (k:Nat) (f:Addr) (fd:FuncData) (ps:List Str) (sp:Sp):Prop where
 len:∀ vs H Q E,sp vs H Q E -> vs.length=ps.length
 run:∀ (A:Around) (outer:List Env) (s:Shared) (H:Hp) (args:Args) (us:List Value) (vs:List V) (Q:VK) (E:XK),Room k A -> Env0 P w K mg base A outer s H -> BindsTo s fd args (ps.zip us) -> Vals vs us -> sp vs H Q E ->
  codeAny (model P w) A (.call (.ref f) args) (CR CX outer P w H s Q E) s
theorem FnOk.mono {P:Program}{w:World}{K:PySem.W.Frag}{mg:Str -> Option Value}{base:Heap}{CX:CXT}{j k:Nat}{f:Addr}{fd:FuncData}{ps:List Str}{sp:Sp}(F:FnOk P w K mg base CX j f fd ps sp)(h:j <= k) :
  FnOk P w K mg base CX k f fd ps sp:=⟨F.len,fun A outer s H args us vs Q E hr=>F.run A outer s H args us vs Q E (hr.mono h)⟩
theorem FnOk.imp {P:Program}{w:World}{K:PySem.W.Frag}{mg:Str -> Option Value}{base:Heap}{CX:CXT}{k:Nat}{f:Addr}{fd:FuncData}{ps:List Str}{sp sp':Sp}(F:FnOk P w K mg base CX k f fd ps sp)
  (h:∀ vs H Q E,sp' vs H Q E -> sp vs H Q E):FnOk P w K mg base CX k f fd ps sp' :=
 ⟨fun vs H Q E q=>F.len vs H Q E (h _ _ _ _ q),fun A outer s H args us vs Q E hr he hb hv hs=>F.run A outer s H args us vs Q E hr he hb hv (h _ _ _ _ hs)⟩
section
variable {X:Cx}{pins:List (Addr × Obj)}{σ:St}{H:Hp}{s s':Shared}
theorem Inv.env0 (I:Inv X pins σ H s):Env0 X.prog X.w X.K X.mg X.base X.A X.stack s H :=
 ⟨I.ok.frames,I.ok.mod,I.bs,Nat.le_trans I.ok.bsz I.sz,I.stack,I.stkFree,I.hok,I.bare⟩
theorem Inv.after {Q:VK}{u:Value}(I:Inv X pins σ H s)(h:CE X.stack X.prog X.w H s Q u s'):EP X pins σ Q u s':=by
 obtain ⟨v,H',os,bare,un,hok,r,q⟩:=h
 obtain ⟨hh,g,d,t,os'⟩:=s'
 obtain rfl:os'=s.os:=os
 exact ⟨v,H',I.call (h':=hh) (g':=g) (d':=d) (t':=t) (ch:=[]) un hok bare (fun b z=>absurd z (by simp)),r,q⟩
end
def tCall (sp:Sp)(dvs:List V)(E:XK)(t:TA):TE:=fun σ H Q=>t σ H fun vs H1=>sp (vs ++ dvs) H1 Q E
def Binds (K:PySem.W.Frag)(fd:FuncData)(ps:List Str)(ds:List Value):Prop :=
 ∀ (s:Shared) (us:List Value),K.In s.heap -> (us ++ ds).length=ps.length -> BindsTo s fd ⟨us,[]⟩ (ps.zip (us ++ ds))
theorem Binds.all {K:PySem.W.Frag}{fd:FuncData}{ps:List Str}(h:∀ us:List Value,us.length=ps.length -> bindArgs fd ⟨us,[]⟩=pure (ps.zip us)):Binds K fd ps []:=fun s us _ hl=>by
 rw [List.append_nil] at hl ⊢
 exact .of_eq (h us hl)
def Passes (CX:CXT)(X:Cx)(E:XK):Prop:=∀ (pins:List (Addr × Obj)) (σ:St) (H:Hp) (s:Shared) (e:Value) (s':Shared),Inv X pins σ H s -> CX X.stack H s E e s' -> X.xe e s'
section
variable {X:Cx}{CX:CXT}{k:Nat}{f C:Addr}{fd:FuncData}{ps:List Str}{sp:Sp}{dvs:List V}{ds:List Value}{E:XK}{x m:Str}{p pos apos:Pos}{e o:Expr}{es:List Expr}{ta:TE}{t:TA}
theorem run_fn {pins:List (Addr × Obj)}{σ:St}{H:Hp}{s:Shared}{Q:VK}{us:List Value}{vs:List V}(F:FnOk X.prog X.w X.K X.mg X.base CX k f fd ps sp)(hr:Room k X.A)(hb:Binds X.K fd ps ds)(hd:Vals dvs ds)(hx:Passes CX X E)
  (I:Inv X pins σ H s) (r:Vals vs us) (h:sp (vs ++ dvs) H Q E):wpAny (model X.prog X.w) X.A (call (.ref f) us) (EP X pins σ Q) X.xe s:=by
 have r2:Vals (vs ++ dvs) (us ++ ds):=r.append hd
 have hl:(us ++ ds).length=ps.length:=by rw [← r2.length]; exact F.len _ _ _ _ h
 refine wpAny_call (codeAny_mono (F.run X.A X.stack s H ⟨us,[]⟩ (us ++ ds) (vs ++ dvs) Q E hr I.env0 (hb s us I.kIn hl) r2 h) fun r s' hq=>?_)
 cases r with
 | error e=>exact hx pins σ H s e s' I hq
 | ok fl =>
  cases fl with
  | ret u=>exact I.after hq
  | next=>exact False.elim hq
  | brk=>exact False.elim hq
  | cont=>exact False.elim hq
theorem pe_call (F:FnOk X.prog X.w X.K X.mg X.base CX k f fd ps sp)(hr:Room k X.A)(hg:Gl X x)(hm:X.mg x=some (.ref f))(hk:PySem.W.keepIn X.K (.ref f)=true)(hb:Binds X.K fd ps ds)(hd:Vals dvs ds)(hx:Passes CX X E)
  (ha:PA X (e :: es) t) (hdb:(x == ("__debug__" : Str))=false:=by decide) (he:starEach (e :: es) X.env=(false,eval e X.env) :: starEach es X.env:=by rfl) (hpl:(backTo pos (starEach es X.env)).any (·.1)=false:=by rfl) :
  PE X (.Call (.Name x p) (e :: es) [] pos) (tCall sp dvs E t):=by
 intro pins s σ H Q I h
 refine wpAny_Call_Name_kw (ld_glob I hg hm ?_ hdb)
 refine PySem.W.callWith_K (h₀:=X.base) I.ok.mod.kin hk (thn (ha pos pins s σ H _ I h) fun us s1 ⟨vs,H1,I1,r,q⟩=>⟨I1.kIn,?_⟩) he hpl
 exact run_fn F hr hb hd hx I1 r q
end
section
variable {X:Cx}{CX:CXT}{k:Nat}{f C:Addr}{fd:FuncData}{ps ks:List Str}{sp:Sp}{E:XK}{x m:Str}{p pos apos kpos:Pos}{e o:Expr}{es:List Expr}{kws:List Keyword}{te ta:TE}{t tk:TA}{nm:Option Str}
variable {g:List Value -> List Value -> List Value}{gV:List V -> List V -> List V}
end
structure FnScope (N P:List Str) (sc:Scope):Prop where
 kind:sc.kind = .function
 co:sc.isCoroutine=false
 gen:sc.isGenerator=false
 nd:N.Nodup
 pre:N.take P.length=P
 par:∀ x ∈ P,sc.names.lookup x=some .local \/ sc.names.lookup x=some .cell
 nofree:∀ y ∈ sc.names,y.2 ≠ .free
theorem bindL_out {kindOf:Str -> Option NameKind}{x:Str}:∀ {binds:List (Str × Value)} {m:Str -> Option Value},(∀ v,(x,v) ∉ binds) -> bindL kindOf binds m x=m x
 | [],_,_=>rfl
 | (n,v) :: r,m,h=>by
  unfold bindL
  rw [bindL_out fun w hw=>h w (List.mem_cons_of_mem _ hw)]
  split
  ·have:x ≠ n:=by rintro rfl; exact h v List.mem_cons_self
   simp [this]
  ·rfl
theorem bindC_out {kindOf:Str -> Option NameKind}{x:Str}:∀ {binds:List (Str × Value)} {m:Str -> Option Value},(∀ v,(x,v) ∉ binds) -> bindC kindOf binds m x=m x
 | [],_,_=>rfl
 | (n,v) :: r,m,h=>by
  unfold bindC
  rw [bindC_out fun w hw=>h w (List.mem_cons_of_mem _ hw)]
  split
  ·rfl
  ·have:x ≠ n:=by rintro rfl; exact h v List.mem_cons_self
   simp [this]
theorem bindL_get {kindOf:Str -> Option NameKind}{x:Str}{v:Value}:∀ {P:List Str} {vs:List Value} {i:Nat} {m:Str -> Option Value},P.Nodup -> P[i]? = some x -> vs[i]? = some v -> kindOf x=some .local ->
  bindL kindOf (P.zip vs) m x=some v
 | [],_,_,_,_,h,_,_=>by simp at h
 | _ :: _,[],_,_,_,_,h,_=>by simp at h
 | p :: P,w :: vs,0,m,nd,h1,h2,hk=>by
  simp at h1 h2; subst h1; subst h2
  show bindL kindOf ((p,w) :: P.zip vs) m p=_
  unfold bindL
  rw [bindL_out fun v hv=>(List.nodup_cons.mp nd).1 (List.of_mem_zip hv).1,if_pos hk]
  simp
 | p :: P,w :: vs,i+1,m,nd,h1,h2,hk=>by
  show bindL kindOf ((p,w) :: P.zip vs) m x=_
  unfold bindL
  exact bindL_get (i:=i) (List.nodup_cons.mp nd).2 (by simpa using h1) (by simpa using h2) hk
theorem bindC_get {kindOf:Str -> Option NameKind}{x:Str}{v:Value}:∀ {P:List Str} {vs:List Value} {i:Nat} {m:Str -> Option Value},P.Nodup -> P[i]? = some x -> vs[i]? = some v -> kindOf x ≠ some .local ->
  bindC kindOf (P.zip vs) m x=some v
 | [],_,_,_,_,h,_,_=>by simp at h
 | _ :: _,[],_,_,_,_,h,_=>by simp at h
 | p :: P,w :: vs,0,m,nd,h1,h2,hk=>by
  simp at h1 h2; subst h1; subst h2
  show bindC kindOf ((p,w) :: P.zip vs) m p=_
  unfold bindC
  rw [bindC_out fun v hv=>(List.nodup_cons.mp nd).1 (List.of_mem_zip hv).1,if_neg hk]
  simp
 | p :: P,w :: vs,i+1,m,nd,h1,h2,hk=>by
  show bindC kindOf ((p,w) :: P.zip vs) m x=_
  unfold bindC
  exact bindC_get (i:=i) (List.nodup_cons.mp nd).2 (by simpa using h1) (by simpa using h2) hk
def start (N:List Str)(vs:List V):St:=vs.map some ++ qQ (N.length - vs.length) none
def cxOf (CX:CXT)(P:Program)(w:World)(K:PySem.W.Frag)(mg:Str -> Option Value)(base:Heap)(N:List Str)(qual:Str)(scope:Scope)(f:Addr)(cd:Value)(A:Around)(outer:List Env)(s:Shared)(H:Hp)(E:XK):Cx where
 prog:=P
 w:=w
 K:=K
 mg:=mg
 base:=base
 A:=A.deeper (envOfC qual scope s.heap.objs.size f cd)
 N:=N
 s₀:=s
 H₀:=H
 env:=envOfC qual scope s.heap.objs.size f cd
 outer:=outer
 stack:=envOfC qual scope s.heap.objs.size f cd :: outer
 ex:=[]
 calm:=true
 fn:=fun _=>true
 pn:=[]
 xe:=fun e s'=>wpAny (model P w) (A.deeper (envOfC qual scope s.heap.objs.size f cd)) (leaving (envOfC qual scope s.heap.objs.size f cd) e) (fun _ s''=>CX outer H s E e s'') (fun e' s''=>CX outer H s E e' s'') s'
theorem cell_has {sc:Scope}{n:Nat}{x:Str}(h:sc.names.lookup x=some .cell):∃ c,(cellsFrom n sc.names []).lookup x=some c:=by
 have q:=PySem.W.cellsFrom_some sc.names n [] (.inl h)
 exact Option.isSome_iff_exists.mp q
theorem inv_start {CX:CXT}{P:Program}{w:World}{K:PySem.W.Frag}{mg:Str -> Option Value}{base:Heap}{N ps:List Str}{qual:Str}{scope:Scope}{f:Addr}{cd:Value}{A:Around}{outer:List Env}{s s1:Shared}{H:Hp}{E:XK}{us:List Value}{vs:List V}
  (S:FnScope N ps scope) (hd:A.handled=none) (e0:Env0 P w K mg base A outer s H) (hl:vs.length=ps.length) (r:Vals vs us)
  (x:InCallC s s.heap.objs.size (bindL (envOfC qual scope s.heap.objs.size f cd).kindOf (ps.zip us) fun _=>none) (cellsFrom (s.heap.objs.size+1) scope.names []) (bindC (envOfC qual scope s.heap.objs.size f cd).kindOf (ps.zip us) fun _=>none) s1) :
  Inv (cxOf CX P w K mg base N qual scope f cd A outer s H E) [] (start N vs) H s1:=by
 have hpl:ps.length <= N.length:=by have:=congrArg List.length S.pre; rw [qO] at this; omega
 obtain ⟨h1,tk,rfl,hk⟩:=x.done
 have noA:∀ b:Addr,b ∉ (cxOf CX P w K mg base N qual scope f cd A outer s H E).ex:=fun b z=>absurd (show b ∈ ([]:List Addr) from z) (by simp)
 refine ⟨⟨e0.mod,S.kind,rfl,rfl,Nat.le_refl _,fun y z c h1 h2=>?_,fun y hy=>?_,fun y c _ h=>?_,fun _=>hd,Around.frames_deeper e0.frames,.inr ⟨rfl,rfl⟩,fun b z=>absurd z (noA b),e0.bs,e0.bsz,fun b _ _=>noA b,fun b z=>absurd z (noA b),e0.funs,e0.frf⟩,
  rfl,e0.bare,Un.kept hk,⟨_,x.toInCall.ns,fun i y v h1 h2 h3=>?_⟩,fun y c h=>⟨_,x.cell y c h⟩,e0.hok.fresh (Nat.le_refl _),fun y c h=>?_,fun p hp=>absurd (show p ∈ ([]:List (Addr × Obj)) from hp) (by simp),e0.hok.kept hk,?_⟩
 ·exact name_of_addr x.apart (PySem.mem_of_lookup h1) (PySem.mem_of_lookup h2)
 ·have hy:scope.names.lookup y=some .cell \/ scope.names.lookup y=some .free:=hy
  rcases hy with hy | hy
  ·exact cell_has hy
  ·exact absurd rfl (S.nofree _ (PySem.mem_of_lookup hy))
 ·exact Nat.le_of_lt (x.above y c (PySem.mem_of_lookup h))
 ·have hi:i < vs.length:=by
   unfold start at h2
   by_cases hi:i < vs.length
   ·exact hi
   ·rw [qG (by simpa using hi)] at h2
    rw [List.getElem?_replicate] at h2
    split at h2 <;> cases h2
  have ha:vs[i]? = some v:=by
   unfold start at h2
   rw [qH (by simpa using hi),qI] at h2
   cases e:vs[i]? with
   | none=>rw [e] at h2; cases h2
   | some a=>rw [e] at h2; cases h2; rfl
  obtain ⟨u,hu,rv⟩:=r.get ha
  have hp:ps[i]? = some y:=by
   rw [← S.pre,List.getElem?_take_of_lt (by omega)]; exact h1
  have ndP:ps.Nodup:=by rw [← S.pre]; exact S.nd.sublist (List.take_sublist _ _)
  refine ⟨u,rv,?_⟩
  rcases S.par y (qE hp) with k | k
  ·exact .inl ⟨k,bindL_get ndP hp hu k⟩
  ·obtain ⟨c,e⟩:=cell_has (n:=s.heap.objs.size+1) k
   refine .inr ⟨.inl k,c,e,?_⟩
   have q:=x.cell y c e
   rw [bindC_get ndP hp hu (by show scope.names.lookup y ≠ _; rw [k]; decide)] at q
   exact q
 ·exact e0.hok.fresh (Nat.le_of_lt (x.above y c (PySem.mem_of_lookup h)))
 ·unfold start
  show _=N.length
  rw [qF,qC,qL]
  omega
theorem fn_of {CX:CXT}{P:Program}{w:World}{K:PySem.W.Frag}{mg:Str -> Option Value}{base:Heap}{k:Nat}{f:Addr}{name qual:Str}{params:Arguments}{body:List Stmt}{scope:Scope}{dV kV doc pm cdv ct oc:Value}{an od:Option Addr}
  {osl:Array (Option Value)} {N ps:List Str} {sp:Sp} (lk:K.lookup f=some ⟨oc,od,.func (PySem.W.fnOf name qual params body scope dV kV doc pm an cdv ct),osl⟩) (hcd:PySem.W.codeIn K cdv qual=true) (S:FnScope N ps scope)
  (len:∀ vs H Q E,sp vs H Q E -> vs.length=ps.length)
  (hbody:∀ (A:Around) (outer:List Env) (s:Shared) (H:Hp) (vs:List V) (Q:VK) (E:XK),Room k (A.deeper (envOfC qual scope s.heap.objs.size f cdv)) -> sp vs H Q E ->
   ∃ t,PSs (cxOf CX P w K mg base N qual scope f cdv A outer s H E) body t /\ t { nx:=fun _ H'=>Q .non H',rt:=Q } (start N vs) H) :
  FnOk P w K mg base CX (k+1) f (PySem.W.fnOf name qual params body scope dV kV doc pm an cdv ct) ps sp:=by
 refine ⟨len,fun A outer s H args us vs Q E hr e0 hb r hsp=>?_⟩
 have hl:=len _ _ _ _ hsp
 have KX:K.In s.heap:=e0.mod.kin.keeps fun b o e=>(e0.bs b o e).1
 have lim:s.heap.NoLimit:=e0.mod.nolimit.keeps fun b o e=>(e0.bs b o e).1
 have hkind:∀ y ∈ ps.zip us,scope.names.lookup y.1=some .local \/ (scope.names.lookup y.1=some .cell /\ ((cellsFrom (s.heap.objs.size+1) scope.names []).lookup y.1).isSome=true):=fun ⟨n,v⟩ hy=>by
  rcases S.par n (List.of_mem_zip hy).1 with q | q
  ·exact .inl q
  ·exact .inr ⟨q,PySem.W.cellsFrom_some _ _ _ (.inl q)⟩
 refine codeAny_call_function hr.depth (KX _ _ lk) rfl S.co S.gen rfl (PySem.W.codeRec_of KX hcd) (hb _ _ _ _ ?_)
 refine wpAny_newFunctionEnv_cells S.kind hkind fun env he s1 x=>?_
 subst he
 refine ⟨lim.keeps x.toInCall.keep,codeAny_func ?_⟩
 obtain ⟨t,ht,hq⟩:=hbody A outer s H vs Q E (hr.deeper _) hsp
 have I:Inv (cxOf CX P w K mg base N qual scope f cdv A outer s H E) [] (start N vs) H s1:=inv_start S hr.hd e0 hl r x
 refine wpAny_mono (ht [] s1 (start N vs) H _ I hq) (fun fl s' hs=>?_) fun e s' hs=>hs
 have fin:∀ {σ':St} {H':Hp} {v:V} {u:Value},Inv (cxOf CX P w K mg base N qual scope f cdv A outer s H E) [] σ' H' s' -> RelV v u -> Q v H' -> CE outer P w H s Q u s' :=
  fun {σ' H' v u} J rv q=>⟨v,H',J.os,J.bare,J.base,J.hok,rv,q⟩
 cases fl with
 | ret u =>
  obtain ⟨v,σ',H',J,rv,q⟩:=hs
  exact fin J rv q
 | next =>
  obtain ⟨σ',H',J,q⟩:=hs
  exact fin (v:=V.non) (u:=Value.none) J rfl q
 | brk =>
  obtain ⟨_,_,_,q⟩:=hs
  exact False.elim q
 | cont =>
  obtain ⟨_,_,_,q⟩:=hs
  exact False.elim q
end L2
namespace L2
open PySem PySem.Spec PyProof.Rows
section
variable {X:Cx}{x:Str}{p pos:Pos}{e:Expr}{es:List Expr}{t:TA}{id T:String}{r:List V -> Hp -> VK -> Prop}
def tCB (r:List V -> Hp -> VK -> Prop)(t:TA):TE:=fun σ H Q=>t σ H fun vs H1=>r vs H1 Q
theorem pe_callB (hc:CallR X (.builtin id) r) (hg:Gl X x) (hm:X.mg x=none) (hv:bootBuiltins x=some (.builtin id)) (ha:PA X (e :: es) t) (hn:x ≠ "__name__":=by decide) (hdb:(x == ("__debug__" : Str))=false:=by decide)
  (he:starEach (e :: es) X.env=(false,eval e X.env) :: starEach es X.env:=by rfl) (hpl:(backTo pos (starEach es X.env)).any (·.1)=false:=by rfl):PE X (.Call (.Name x p) (e :: es) [] pos) (tCB r t):=by
 intro pins s σ H Q I h
 refine wpAny_Call_Name_kw (ld_blt I hg hm hv ?_ hn hdb)
 exact PyProof.Rows.callWith_builtin1 (thn (ha pos pins s σ H _ I h) fun us s1 ⟨vs,H1,I1,r1,q1⟩=>hc pins s1 σ H1 vs us Q I1 r1 q1) he hpl
theorem pe_callTy (hc:CallR X (.type T) r) (hg:Gl X x) (hm:X.mg x=none) (hv:bootBuiltins x=some (.type T)) (ha:PA X (e :: es) t) (hn:x ≠ "__name__":=by decide) (hdb:(x == ("__debug__" : Str))=false:=by decide)
  (he:starEach (e :: es) X.env=(false,eval e X.env) :: starEach es X.env:=by rfl) (hpl:(backTo pos (starEach es X.env)).any (·.1)=false:=by rfl):PE X (.Call (.Name x p) (e :: es) [] pos) (tCB r t):=by
 intro pins s σ H Q I h
 refine wpAny_Call_Name_kw (ld_blt I hg hm hv ?_ hn hdb)
 exact PyProof.Rows.callWith_type1 (thn (ha pos pins s σ H _ I h) fun us s1 ⟨vs,H1,I1,r1,q1⟩=>hc pins s1 σ H1 vs us Q I1 r1 q1) he hpl
end
end L2
namespace HT
open PySem PyProof.Rows
section
open PySem.SeqAt
open PySem.AutoSeq1 (wpAny_loadPart')
open PySem.MeetsSeq PySem.MeetsSeq2 PySem.MeetsSeq3
end
section
variable {prog:Program}{w:World}{A:Around}{E:Value -> Shared -> Prop}{s:Shared}
def sIx (n d:Nat):Option Int -> Nat
 | none=>d
 | some v=>if v < 0 then (v+(n:Int)).toNat else min v.toNat n
theorem sIx_none (n d:Nat):sIx n d none=d:=rfl
theorem sIx_nat (n d k:Nat):sIx n d (some (k:Int))=min k n:=by
 show (if (k:Int) < 0 then ((k:Int)+(n:Int)).toNat else min (k:Int).toNat n)=min k n
 rw [if_neg (by omega),Int.toNat_natCast]
end
end HT
namespace L2
open PySem PySem.Spec PyProof.Rows
abbrev TO:=St -> Hp -> (Option Int -> Hp -> Prop) -> Prop
def PO (X:Cx)(e:Option Expr)(t:TO):Prop :=
 ∀ (pins:List (Addr × Obj)) (s:Shared) (σ:St) (H:Hp) (Q:Option Int -> Hp -> Prop),Inv X pins σ H s -> t σ H Q ->
  wpAny (model X.prog X.w) X.A (evalPart e X.env) (fun u s'=>∃ o H',Inv X pins σ H' s' /\ IsPart u o /\ Q o H') X.xe s
def tNoPart:TO:=fun _ H Q=>Q none H
def tPart (t:TE):TO:=fun σ H Q=>t σ H fun x H1=>∃ i,x = .int i /\ Q (some i) H1
section
variable {X:Cx}{e:Expr}{te:TE}{lo hi:Option Expr}{tl th:TO}{pos p2:Pos}
theorem po_none:PO X none tNoPart:=by
 intro pins s σ H Q I h
 rw [evalPart_none]
 exact wpAny_pure ⟨none,H,I,.none,h⟩
theorem po_some (h:PE X e te):PO X (some e) (tPart te):=by
 intro pins s σ H Q I hw
 rw [evalPart_some]
 refine thn (h pins s σ H _ I hw) fun u s1 ⟨x,H1,I1,r1,q1⟩=>?_
 obtain ⟨i,rfl,q⟩:=q1
 obtain ⟨t,rfl⟩:=r1
 exact ⟨some i,H1,I1,.int i t,q⟩
def SlR (X:Cx)(r:V -> Option Int -> Option Int -> Hp -> VK -> Prop):Prop :=
 ∀ (pins:List (Addr × Obj)) (s:Shared) (σ:St) (H:Hp) (x:V) (v vl vu:Value) (lo hi:Option Int) (sl:Addr) (Q:VK),Inv X pins σ H s -> RelV x v -> s.heap.IsSliceOf sl vl vu .none -> IsPart vl lo -> IsPart vu hi -> r x lo hi H Q ->
  ∃ T id,typeLookup (.type T) "__getitem__" = pure (some (.builtin id)) /\ s.TypeIs v T /\ wpAny (model X.prog X.w) X.A (getItem v (.ref sl)) (EP X pins σ Q) X.xe s
def tSl (r:V -> Option Int -> Option Int -> Hp -> VK -> Prop)(te:TE)(tl th:TO):TE:=fun σ H Q=>te σ H fun x H1=>tl σ H1 fun l H2=>th σ H2 fun u H3=>r x l u H3 Q
theorem pe_slice {r:V -> Option Int -> Option Int -> Hp -> VK -> Prop}(hr:SlR X r)(he:PE X e te)(hl:PO X lo tl)(hu:PO X hi th):PE X (.Subscript e (.Slice lo hi none p2) pos) (tSl r te tl th):=by
 intro pins s σ H Q I h
 refine Subscript_ (thn (he pins s σ H _ I h) fun v s1 ⟨x,H1,I1,r1,q1⟩=>?_)
 refine wpAny_Slice (thn (hl pins s1 σ H1 _ I1 q1) fun vl s2 ⟨l,H2,I2,pl,q2⟩=>thn (hu pins s2 σ H2 _ I2 q2) fun vu s3 ⟨u,H3,I3,pu,q3⟩=>?_)
 rw [evalPart_none]
 refine wpAny_pure ?_
 have I4:Inv X pins σ H3 { s3 with heap:=s3.heap.push { cls:=.type "slice",data:=.fields #[vl,vu,.none] } }:=I3.kept (t':=s3.toks) fun b ob q=>Heap.get?_push_of_some _ q
 obtain ⟨T,id,hT,ht,hg⟩:=hr pins { s3 with heap:=s3.heap.push { cls:=.type "slice",data:=.fields #[vl,vu,.none] } } σ H3 x v vl vu l u s3.heap.objs.size Q I4 r1 (Heap.IsSliceOf.new ..) pl pu q3
 show wpAny (model X.prog X.w) X.A (subscriptTail e (.Slice lo hi none p2) v (.ref s3.heap.objs.size)) (EP X pins σ Q) X.xe { s3 with heap:=s3.heap.push { cls:=.type "slice",data:=.fields #[vl,vu,.none] } }
 exact tail_any (ops:=[.ref s3.heap.objs.size,v]) ht hT hg (by with_unfolding_all rfl)
def cutV (xs:List V)(lo hi:Option Int):List V:=(xs.drop (HT.sIx xs.length 0 lo)).take (HT.sIx xs.length xs.length hi - HT.sIx xs.length 0 lo)
theorem cutV_length (xs:List V)(lo hi:Option Int):(cutV xs lo hi).length <= xs.length:=by
 unfold cutV
 rw [qO,List.length_drop]
 omega
end
end L2
namespace L2
open PySem PySem.Spec PyProof.Rows
def ixN (n:Nat)(i:Int):Option Nat:=if 0 <= i then (if i < n then some i.toNat else none) else if -(n:Int) <= i then some (i+n).toNat else none
def atI {α:Type}(xs:List α)(i:Int):Option α:=(ixN xs.length i).bind fun j=>xs[j]?
theorem ixN_seq {n:Nat}{i:Int}{j:Nat}(h:ixN n i=some j):seqIndex? i n=some j /\ j < n /\ -(n:Int) <= i /\ i < n:=by
 unfold ixN at h
 by_cases h0:0 <= i
 ·rw [if_pos h0] at h
  by_cases h1:i < n
  ·rw [if_pos h1] at h
   have e:i.toNat=j:=Option.some.inj h
   exact ⟨by rw [seqIndex_of h0 h1,e],by omega,by omega,h1⟩
  ·rw [if_neg h1] at h; cases h
 ·rw [if_neg h0] at h
  by_cases h1:-(n:Int) <= i
  ·rw [if_pos h1] at h
   have e:(i+n).toNat=j:=Option.some.inj h
   exact ⟨by rw [seqIndex_neg (by omega) h1,e],by omega,h1,by omega⟩
  ·rw [if_neg h1] at h; cases h
theorem atI_get {α:Type}{xs:List α}{i:Int}{v:α}(h:atI xs i=some v):∃ j,seqIndex? i xs.length=some j /\ xs[j]? = some v /\ j < xs.length /\ -(xs.length:Int) <= i /\ i < xs.length:=by
 unfold atI at h
 cases e:ixN xs.length i with
 | none=>rw [e] at h; cases h
 | some j =>
  rw [e] at h
  obtain ⟨h1,h2,h3,h4⟩:=ixN_seq e
  exact ⟨j,h1,h,h2,h3,h4⟩
theorem atI_nat {α:Type}{xs:List α}{j:Nat}{v:α}(h:xs[j]? = some v):atI xs (j:Int)=some v:=by
 have hj:j < xs.length:=(qB.mp h).1
 have e:ixN xs.length (j:Int)=some j:=by
  unfold ixN
  rw [if_pos (by omega),if_pos (by omega)]; simp
 unfold atI; rw [e]; exact h
def PlainIx (b:Expr):Prop:=∀ o i,subscripted b false o i=operate [o,i] (getItem o i)
def IxR (X:Cx)(r:R2):Prop :=
 ∀ (value slice:Expr) (pins:List (Addr × Obj)) (s:Shared) (σ:St) (H:Hp) (x y:V) (v u:Value) (Q:VK),Inv X pins σ H s -> RelV x v -> RelV y u -> r x y H Q ->
  subscripted slice false v u=operate [v,u] (getItem v u) -> wpAny (model X.prog X.w) X.A (subscriptTail value slice v u) (EP X pins σ Q) X.xe s
def MtR (X:Cx)(id:String)(r:V -> List V -> Hp -> VK -> Prop):Prop :=
 ∀ (pins:List (Addr × Obj)) (s:Shared) (σ:St) (H:Hp) (x:V) (xs:List V) (v:Value) (us:List Value) (Q:VK),Inv X pins σ H s -> RelV x v -> Vals xs us -> r x xs H Q ->
  wpAny (model X.prog X.w) X.A (call (.builtin id) (v :: us)) (EP X pins σ Q) X.xe s
section
variable {X:Cx}{a b:Expr}{ta tb:TE}{pos:Pos}
theorem pe_ix {r:R2}(hr:IxR X r)(ha:PE X a ta)(hb:PE X b tb)(hs:PlainIx b):PE X (.Subscript a b pos) (tOp r ta tb):=by
 intro pins s σ H Q I h
 exact Subscript_ (binT ha hb I h fun v u s2 x y H2 I2 rx ry q=>hr a b pins s2 σ H2 x y v u Q I2 rx ry q (hs _ _))
def rIxL (K:PySem.W.Frag):R2:=fun x y H Q=>∃ p xs i v,x = .ref p /\ y = .int i /\ SqL K H p xs /\ atI xs i=some v /\ Q v H
def rIxT (K:PySem.W.Frag):R2:=fun x y H Q=>∃ p xs i v,x = .ref p /\ y = .int i /\ SqT K H p xs /\ atI xs i=some v /\ Q v H
theorem ix_list:IxR X (rIxL X.K):=by
 intro value slice pins s σ H x y v u Q I rx ry h hs
 obtain ⟨p,xs,i,z,rfl,rfl,hq,he,q⟩:=h
 cases rx
 obtain ⟨t,rfl⟩:=ry
 obtain ⟨its,r,pl,hz⟩:=I.list hq
 obtain ⟨j,h1,h2,h3,h4,h5⟩:=atI_get he
 obtain ⟨w,ew,rw'⟩:=r.get h2
 have hl:=r.length
 have hn:=line63
 have fin:EP X pins σ Q w s:=⟨z,H,I,rw',q⟩
 by_cases h0:0 <= i
 ·have hj:i.toNat=j:=by
   rw [seqIndex_of h0 h5] at h1
   exact Option.some.inj h1
  exact item_listR pl.isList h0 (by omega) (by rw [hj]; simpa using ew) fin hs
 ·have hj:(i+(its.toArray.size:Int)).toNat=j:=by
   rw [seqIndex_neg (by omega) h4] at h1
   rw [qM,← hl]
   exact Option.some.inj h1
  exact subscriptTail_builtinR (x:=w) pl.isList.typeIs slot_list_getitem.lookup
   (wpAny_getItem_list_neg (Q:=fun r s'=>r=w /\ EP X pins σ Q r s') pl.isList (by omega) (by rw [qM] <;> omega) (by omega) (by rw [hj]; simpa using ew) ⟨rfl,fin⟩) hs
theorem ix_tup:IxR X (rIxT X.K):=by
 intro value slice pins s σ H x y v u Q I rx ry h hs
 obtain ⟨p,xs,i,z,rfl,rfl,hq,he,q⟩:=h
 cases rx
 obtain ⟨t,rfl⟩:=ry
 obtain ⟨its,r,pl,hz⟩:=I.tuple hq
 obtain ⟨j,h1,h2,h3,h4,h5⟩:=atI_get he
 obtain ⟨w,ew,rw'⟩:=r.get h2
 have hl:=r.length
 have hn:=line63
 have fin:EP X pins σ Q w s:=⟨z,H,I,rw',q⟩
 exact subscriptTail_builtinR (x:=w) pl.typeIs slot_tuple_getitem.lookup
  (getItem_tuple (j:=j) (Q:=fun r s'=>r=w /\ EP X pins σ Q r s') pl (by omega) (by omega) (by rw [qM,← hl]; exact h1) (by simpa using ew) ⟨rfl,fin⟩) hs
theorem mapSeq_set (its:List Value)(n j:Nat)(u:Value):Obj.mapSeq (·.setIfInBounds j u) { cls:=.type "list",data:=.seq its.toArray n } = { cls:=.type "list",data:=.seq (its.set j u).toArray n }:=by
 simp [Obj.mapSeq]
theorem Inv.lst {pins:List (Addr × Obj)}{σ:St}{H:Hp}{s:Shared}{p:Addr}{xs:List V}(I:Inv X pins σ H s)(h:H p=some (.lst xs)) :
  ∃ (its:List Value) (n:Nat),Vals xs its /\ s.heap.get? p=some { cls:=.type "list",data:=.seq its.toArray n } /\ xs.length <= sizeLine:=by
 obtain ⟨z,its,n,r,e⟩:=I.hok p _ h
 exact ⟨its,n,r,e,z⟩
theorem Inv.lstUpd {pins:List (Addr × Obj)}{σ:St}{H:Hp}{s:Shared}{p:Addr}{xs ys:List V}{its its':List Value}{n n':Nat}{f:Obj -> Obj}(I:Inv X pins σ H s)(h:H p=some (.lst xs))
  (ho:s.heap.get? p=some { cls:=.type "list",data:=.seq its.toArray n }) (hf:f { cls:=.type "list",data:=.seq its.toArray n } = { cls:=.type "list",data:=.seq its'.toArray n' }) (r:Vals ys its') (hz:ys.length <= sizeLine) (t:Nat) :
  Inv X pins σ (upd H p (.lst ys)) { s with heap:=s.heap.update p f,toks:=t }:=by
 have e:(s.heap.update p f).get? p=some { cls:=.type "list",data:=.seq its'.toArray n' }:=by
  rw [Heap.get?_update_self f ho (by rw [hf] <;> rfl),hf]
 refine I.write (x:=p) (e:=p) (by rw [h]; trivial) (.inl rfl) (fun b u hb q=>(Heap.get?_update_other _ _ (Ne.symm hb)).trans q) ⟨_,e⟩ ?_
 exact ⟨hz,its',n',r,e⟩
def rSetL:V -> V -> V -> Hp -> (Hp -> Prop) -> Prop:=fun o i v H Q=>∃ p xs k j,o = .ref p /\ i = .int k /\ H p=some (.lst xs) /\ ixN xs.length k=some j /\ Q (upd H p (.lst (xs.set j v)))
theorem set_list:PSet X rSetL:=by
 intro pins s σ H o i v ov iv u Q I ro ri rv h
 obtain ⟨p,xs,k,j,rfl,rfl,hp,hj,q⟩:=h
 cases ro
 obtain ⟨t,rfl⟩:=ri
 obtain ⟨its,n,r,ho,hz⟩:=I.lst hp
 obtain ⟨h1,h2,h3,h4⟩:=ixN_seq hj
 have hl:=r.length
 have hn:=line63
 have I':Inv X pins σ (upd H p (.lst (xs.set j v))) { s with heap:=s.heap.update p (Obj.mapSeq (·.setIfInBounds j u)) } :=
  I.lstUpd hp ho (mapSeq_set its n j u) (r.set rv j) (by rw [List.length_set]; exact hz) s.toks
 by_cases h0:0 <= k
 ·have hk:k.toNat=j:=by
   rw [seqIndex_of h0 h4] at h1
   exact Option.some.inj h1
  exact PySem.W.ki_setAt ho h0 (by omega) (by rw [qM,← hl]; exact h4) (by rw [hk]; exact ⟨_,I',q⟩)
 ·have hk:(k+(its.toArray.size:Int)).toNat=j:=by
   rw [seqIndex_neg (by omega) h3] at h1
   rw [qM,← hl]
   exact Option.some.inj h1
  exact PySem.W.ki_setBack ho (by omega) (by rw [qM,← hl]; exact h3) (by omega) (by rw [hk]; exact ⟨_,I',q⟩)
theorem slice_bounds (lo hi:Option Int)(n:Nat):(sliceBounds lo hi none n).1=((HT.sIx n 0 lo:Nat):Int) /\ (sliceBounds lo hi none n).2.1=((HT.sIx n n hi:Nat):Int) /\ (sliceBounds lo hi none n).2.2=1:=by
 refine ⟨?_,?_,rfl⟩
 ·cases lo with
  | none=>simp [sliceBounds,HT.sIx]
  | some i =>
   simp only [sliceBounds,HT.sIx,Option.getD_none,show (1:Int) > 0 by decide,if_true]
   by_cases h:i < 0
   ·simp only [h,if_true] <;> omega
   ·simp only [h,if_false] <;> omega
 ·cases hi with
  | none=>simp [sliceBounds,HT.sIx]
  | some i =>
   simp only [sliceBounds,HT.sIx,Option.getD_none,show (1:Int) > 0 by decide,if_true]
   by_cases h:i < 0
   ·simp only [h,if_true] <;> omega
   ·simp only [h,if_false] <;> omega
theorem slicePick_cut (its:List Value)(lo hi:Option Int):slicePick its.toArray lo hi none=((its.drop (HT.sIx its.length 0 lo)).take (HT.sIx its.length its.length hi - HT.sIx its.length 0 lo)).toArray:=by
 obtain ⟨h1,h2,h3⟩:=slice_bounds lo hi its.toArray.size
 unfold slicePick
 rw [h1,h2,h3]
 simp only [sliceRange_one,pick_run,qM] <;> rfl
def rSlL (K:PySem.W.Frag):V -> Option Int -> Option Int -> Hp -> VK -> Prop:=fun x lo hi H Q=>∃ a xs,x = .ref a /\ SqL K H a xs /\ ∀ p,H p=none -> Q (.ref p) (upd H p (.lst (cutV xs lo hi)))
theorem sl_list:SlR X (rSlL X.K):=by
 intro pins s σ H x v vl vu lo hi sl Q I rx hs pl pu h
 obtain ⟨a,xs,rfl,hx,q⟩:=h
 cases rx
 obtain ⟨its,r,ht,hz⟩:=I.list hx
 have hlen:=r.length
 refine ⟨"list",_,slot_list_getitem.lookup,ht.isList.typeIs,?_⟩
 refine wpAny_getItem_list_slice ht.isList hs pl pu .none (by simp) ?_ (by rw [qM] <;> omega)
 rw [slicePick_cut,← hlen]
 refine ⟨.ref s.heap.objs.size,_,I.laid (t':=s.toks) (o:=.lst (cutV xs lo hi)) (fun b ob q=>Heap.get?_push_of_some _ q) (Nat.le_refl _) ?_,rfl,q _ (I.hok.fresh (Nat.le_refl _))⟩
 exact ⟨Nat.le_trans (cutV_length xs lo hi) hz,_,0,(r.drop (HT.sIx xs.length 0 lo)).take (HT.sIx xs.length xs.length hi - HT.sIx xs.length 0 lo),Heap.get?_push_size _ rfl⟩
def flatV:V -> Bool
 | .non=>true
 | .bl _=>true
 | .int _=>true
 | .str _=>true
 | _=>false
def eqV:V -> V -> Bool
 | .non,.non=>true
 | .bl a,.bl b=>a == b
 | .bl a,.int b=>(if a then 1 else 0) == b
 | .int a,.bl b=>a == (if b then 1 else 0)
 | .int a,.int b=>a == b
 | .str a,.str b=>a == b
 | _,_=>false
theorem eqAt_V {A:Around}{s:Shared}{y x:V}{u v:Value}(ry:RelV y u)(rx:RelV x v)(fy:flatV y=true)(fx:flatV x=true):SeqAt.EqAt A s u v (eqV y x):=by
 cases y with
 | non =>
  cases ry
  cases x with
  | non=>cases rx; exact SeqAt.EqAt.same _
  | bl b=>cases rx; exact SeqAt.EqAt.none_bool b
  | int b=>obtain ⟨t,rfl⟩:=rx; exact SeqAt.EqAt.none_int b t
  | str b=>obtain ⟨t,rfl⟩:=rx; exact SeqAt.EqAt.none_str b t
  | _=>exact absurd (show false=true from fx) Bool.false_ne_true
 | bl a =>
  cases ry
  cases x with
  | non=>cases rx; exact SeqAt.EqAt.bool_none a
  | bl b=>cases rx; exact SeqAt.EqAt.bool_bool a b
  | int b=>obtain ⟨t,rfl⟩:=rx; exact SeqAt.EqAt.bool_int a b t
  | str b=>obtain ⟨t,rfl⟩:=rx; exact SeqAt.EqAt.bool_str a b t
  | _=>exact absurd (show false=true from fx) Bool.false_ne_true
 | int a =>
  obtain ⟨t',rfl⟩:=ry
  cases x with
  | non=>cases rx; exact SeqAt.EqAt.int_none a t'
  | bl b=>cases rx; exact SeqAt.EqAt.int_bool a t' b
  | int b=>obtain ⟨t,rfl⟩:=rx; exact SeqAt.EqAt.int_int a t' b t
  | str b=>obtain ⟨t,rfl⟩:=rx; exact SeqAt.EqAt.int_str a t' b t
  | _=>exact absurd (show false=true from fx) Bool.false_ne_true
 | str a =>
  obtain ⟨t',rfl⟩:=ry
  cases x with
  | non=>cases rx; exact SeqAt.EqAt.str_none a t'
  | bl b=>cases rx; exact SeqAt.EqAt.str_bool a t' b
  | int b=>obtain ⟨t,rfl⟩:=rx; exact SeqAt.EqAt.str_int a t' b t
  | str b=>obtain ⟨t,rfl⟩:=rx; exact SeqAt.EqAt.str_str a t' b t
  | _=>exact absurd (show false=true from fx) Bool.false_ne_true
 | _=>exact absurd (show false=true from fy) Bool.false_ne_true
theorem call_len_seq:CallR X (.builtin "len") (fun xs H Q=>∃ p ys,xs=[.ref p] /\ (SqL X.K H p ys \/ SqT X.K H p ys) /\ Q (.int ys.length) H):=by
 intro pins s σ H xs us Q I r h
 obtain ⟨p,ys,rfl,hq,q⟩:=h
 obtain ⟨u,rfl,rx⟩:=vals1 r
 cases rx
 have hn:=line63
 rcases hq with hq | hq
 ·obtain ⟨its,r',pl,hz⟩:=I.list hq
  have hlen:=r'.length
  exact Calls.call_len_list pl.isList (by simp only [qM] <;> omega) ⟨.int ys.length,H,I.tok _,⟨s.toks+1,by rw [qM,hlen]⟩,q⟩
 ·obtain ⟨its,r',pl,hz⟩:=I.tuple hq
  have hlen:=r'.length
  exact len_tuple pl (by simp only [qM] <;> omega) ⟨.int ys.length,H,I.tok _,⟨s.toks+1,by rw [qM,hlen]⟩,q⟩
theorem call_list_of:CallR X (.type "list") (fun xs H Q=>∃ p ys,xs=[.ref p] /\ (SqL X.K H p ys \/ SqT X.K H p ys) /\ ∀ l,H l=none -> Q (.ref l) (upd H l (.lst ys))):=by
 intro pins s σ H xs us Q I r h
 obtain ⟨p,ys,rfl,hq,q⟩:=h
 obtain ⟨u,rfl,rx⟩:=vals1 r
 cases rx
 have fin:∀ (its:List Value),Vals ys its -> ys.length <= sizeLine -> ∀ (h':Heap) (c':Nat),(∀ b o',s.heap.get? b=some o' -> h'.get? b=some o') ->
   h'.get? s.heap.objs.size=some { cls:=.type "list",dict:=none,data:=.seq its.toArray c',slots:=#[] } -> EP X pins σ Q (.ref s.heap.objs.size) { s with heap:=h' }:=fun its r' hz h' c' kp e =>
  ⟨.ref s.heap.objs.size,_,I.laid (t':=s.toks) kp (Nat.le_refl _) (show ObjOk X.prog X.w _ h' _ (.lst ys) from ⟨hz,its,c',r',e⟩),rfl,q _ (I.hok.fresh (Nat.le_refl _))⟩
 rcases hq with hq | hq
 ·obtain ⟨its,r',pl,hz⟩:=I.list hq
  have hlen:=r'.length
  obtain ⟨o,ho,hc,n,hd⟩:=pl.isList
  exact call_list_seq p (.inl rfl) ho hc hd (fun h' c' kp e=>fin its r' hz h' c' kp e) (by simp only [qM] <;> omega)
 ·obtain ⟨its,r',pl,hz⟩:=I.tuple hq
  have hlen:=r'.length
  obtain ⟨o,ho,hc,n,hd⟩:=pl
  exact call_list_seq p (.inr rfl) ho hc hd (fun h' c' kp e=>fin its r' hz h' c' kp e) (by simp only [qM] <;> omega)
def tyV (K:PySem.W.Frag)(T:String)(x:V)(H:Hp):Prop:=match x with
 | .str _=>T = "str"
 | .int _=>T = "int"
 | .ref p=>(T = "list" /\ ∃ xs,SqL K H p xs) \/ (T = "tuple" /\ ∃ o,K.lookup p=some o /\ o.cls = .type "tuple" /\ o.dict=none) \/
   (T = "dict" /\ ((∃ kvs,H p=some (.dK kvs)) \/ ∃ kvs,H p=some (.dT kvs))) \/ (T = "set" /\ ∃ S n,H p=some (.set S n))
 | _=>False
theorem tyV_is {pins:List (Addr × Obj)}{σ:St}{H:Hp}{s:Shared}{T:String}{x:V}{v:Value}(I:Inv X pins σ H s)(r:RelV x v)(ty:tyV X.K T x H) :
  s.TypeIs v T /\ ∀ a,v = .ref a -> ∃ ob,s.heap.get? a=some ob /\ ob.dict=none:=by
 cases x with
 | str z =>
  obtain ⟨t,rfl⟩:=r
  cases (show T = "str" from ty)
  exact ⟨typeIs_str s z t,fun _ e=>nomatch e⟩
 | int i =>
  obtain ⟨t,rfl⟩:=r
  cases (show T = "int" from ty)
  exact ⟨typeIs_int s i t,fun _ e=>nomatch e⟩
 | ref p =>
  cases r
  rcases ty with ⟨rfl,xs,hq⟩ | ⟨rfl,o,hk,hc,hd⟩ | ⟨rfl,hk⟩ | ⟨rfl,S,n,hk⟩
  ·obtain ⟨its,_,pl,_⟩:=I.list hq
   refine ⟨pl.isList.typeIs,fun a e=>?_⟩
   cases e
   obtain ⟨o,n,e,c,hd,_⟩:=pl
   exact ⟨o,e,hd⟩
  ·refine ⟨⟨o,I.kIn p o hk,hc⟩,fun a e=>?_⟩
   cases e
   exact ⟨o,I.kIn _ o hk,hd⟩
  ·have z:∃ o,s.heap.get? p=some o /\ o.ExactDict:=by
    rcases hk with ⟨kvs,hk⟩ | ⟨kvs,hk⟩
    ·obtain ⟨_,_,_,_,o,_,_,e,ex,_⟩:=I.hok p _ hk
     exact ⟨o,e,ex⟩
    ·obtain ⟨_,_,_,_,o,_,_,e,ex,_⟩:=I.hok p _ hk
     exact ⟨o,e,ex⟩
   obtain ⟨o,e,ex⟩:=z
   refine ⟨⟨o,e,ex.1⟩,fun a e2=>?_⟩
   cases e2
   exact ⟨o,e,ex.2.1⟩
  ·obtain ⟨o,_,_,_,e,ex,_⟩:=I.hok p _ hk
   refine ⟨⟨o,e,ex.1⟩,fun a e2=>?_⟩
   cases e2
   exact ⟨o,e,ex.2.1⟩
 | _=>exact False.elim ty
def tBM0 (K:PySem.W.Frag)(T:String)(r:V -> List V -> Hp -> VK -> Prop)(to:TE):TE:=fun σ H Q=>to σ H fun x H1=>tyV K T x H1 /\ r x [] H1 Q
def tBM (K:PySem.W.Frag)(T:String)(r:V -> List V -> Hp -> VK -> Prop)(to:TE)(t:TA):TE:=fun σ H Q=>to σ H fun x H1=>tyV K T x H1 /\ t σ H1 fun xs H2=>r x xs H2 Q
variable {o e:Expr}{es:List Expr}{to:TE}{t:TA}{name:Str}{apos cpos:Pos}{T id:String}{r:V -> List V -> Hp -> VK -> Prop}
theorem pe_bm0 (pa:PlainAttrs T) (slot:Slot T name id) (hty:typeOf (.builtin id)=pure (.type "method_descriptor")) (hm:MtR X id r) (ho:PE X o to)
  (hbase:attributeBase o name X.env (eval o X.env)=eval o X.env:=by rfl) (hline:(apos.endLine == cpos.line)=true:=by rfl):PE X (.Call (.Attribute o name apos) [] [] cpos) (tBM0 X.K T r to):=by
 intro pins s σ H Q I h
 refine wpAny_Call_method0_late hbase hline (thn (ho pins s σ H _ I h) fun v s1 ⟨x,H1,I1,r1,ty,q1⟩=>?_)
 obtain ⟨h1,h2⟩:=tyV_is I1 r1 ty
 exact ⟨T,id,pa,slot,hty,h1,h2,Calls.callWith_builtin rfl (PySem.evalArgs_none (hm pins s1 σ H1 x [] v [] Q I1 r1 .nil q1))⟩
theorem pe_bm (pa:PlainAttrs T) (slot:Slot T name id) (hty:typeOf (.builtin id)=pure (.type "method_descriptor")) (hm:MtR X id r) (ho:PE X o to) (ha:PA X (e :: es) t)
  (hbase:attributeBase o name X.env (eval o X.env)=eval o X.env:=by rfl)
  (hfew:((backTo cpos (starEach (e :: es) X.env)).all (fun x=>!x.1) && (backToKw cpos (keywordEach [] X.env)).all (fun x=>x.1.isSome)
   && decide ((e :: es).length+([]:List Keyword).length+(if ([]:List Keyword).isEmpty then 0 else 1) < 30))=true:=by rfl)
  (hline:(apos.endLine == cpos.line)=true:=by rfl) (hs:starEach (e :: es) X.env=(false,eval e X.env) :: starEach es X.env:=by rfl) (hplain:(backTo cpos (starEach es X.env)).any (·.1)=false:=by rfl) :
  PE X (.Call (.Attribute o name apos) (e :: es) [] cpos) (tBM X.K T r to t):=by
 intro pins s σ H Q I h
 refine wpAny_Call_method_late hbase hfew hline rfl (thn (ho pins s σ H _ I h) fun v s1 ⟨x,H1,I1,r1,ty,q1⟩=>?_)
 obtain ⟨h1,h2⟩:=tyV_is I1 r1 ty
 refine ⟨T,id,pa,slot,hty,h1,h2,?_⟩
 have hA:=ha cpos pins s1 σ H1 _ I1 q1
 rw [hs] at hA ⊢
 refine Calls.callWith_builtin (by show (false || (backTo cpos (starEach es X.env)).any (·.1))=false; rw [hplain] <;> rfl) (Calls.evalArgs_plain ?_)
 exact thn hA fun us s2 ⟨vs,H2,I2,r2,q2⟩=>hm pins s2 σ H2 x vs v us Q I2 r1 r2 q2
end
end L2
namespace L2
open PySem PySem.Spec PyProof.Rows
def MtM (X:Cx)(id:String)(r:V -> List V -> Hp -> VK -> Prop):Prop :=
 ∀ (pins:List (Addr × Obj)) (s:Shared) (σ:St) (H:Hp) (x:V) (xs:List V) (v:Value) (us:List Value) (Q:VK),Inv X pins σ H s -> RelV x v -> Vals xs us -> r x xs H Q ->
  wpAny (model X.prog X.w) X.A (call (.builtin id) (v :: us)) (EP X pins σ Q) X.xe s
theorem Vals.one:∀ {x:V} {us:List Value},Vals [x] us -> ∃ u,us=[u] /\ RelV x u
 | _,_,.cons r .nil=>⟨_,rfl,r⟩
theorem Vals.two:∀ {x y:V} {us:List Value},Vals [x,y] us -> ∃ u v,us=[u,v] /\ RelV x u /\ RelV y v :=by
 intro x y us h
 cases h with
 | cons r t =>
  cases t with
  | cons q n =>
   cases n
   exact ⟨_,_,rfl,r,q⟩
theorem Vals.zero:∀ {us:List Value},Vals [] us -> us=[]
 | _,.nil=>rfl
theorem Vals.dropLast {xs:List V}{us:List Value}(h:Vals xs us):Vals xs.dropLast us.dropLast:=by
 induction h with
 | nil=>exact .nil
 | cons r t ih =>
  cases t with
  | nil=>exact .nil
  | cons q t'=>exact .cons r ih
theorem erase_last {α:Type}(l:List α):l.eraseIdx (l.length - 1)=l.dropLast:=by
 induction l with
 | nil=>rfl
 | cons a r ih =>
  cases r with
  | nil=>rfl
  | cons b r =>
   have e:(a :: b :: r).length - 1=((b :: r).length - 1)+1:=by
    have h1:(a :: b :: r).length=r.length+2:=rfl
    have h2:(b :: r).length=r.length+1:=rfl
    omega
   rw [e,List.eraseIdx_cons_succ,ih]
   all_goals rfl
section
variable {X:Cx}{pins:List (Addr × Obj)}{σ:St}{H:Hp}{s:Shared}{l b:Addr}{xs ys zs:List V}
theorem Inv.lset {its its':List Value}{n:Nat}{f:Array Value -> Array Value}{t':Nat}(I:Inv X pins σ H s)(hH:H l=some (.lst xs))
  (e:s.heap.get? l=some { cls:=.type "list",data:=.seq its.toArray n }) (hf:f its.toArray=its'.toArray) (hv:Vals ys its') (hz:ys.length <= sizeLine) :
  Inv X pins σ (upd H l (.lst ys)) { s with heap:=s.heap.update l (Obj.mapSeq f),toks:=t' }:=by
 have q:=PySem.IsL.update e f
 rw [hf] at q
 refine I.write (x:=l) (e:=l) (by rw [hH]; exact trivial) (.inl rfl) (fun b' u hb hu=>(Heap.get?_update_other s.heap (Obj.mapSeq f) (Ne.symm hb)).trans hu) ⟨_,q⟩ ?_
 exact ⟨hz,its',_,hv,q⟩
theorem Inv.lnew {its:List Value}{t':Nat}(I:Inv X pins σ H s)(hv:Vals ys its)(hz:ys.length <= sizeLine) :
  Inv X pins σ (upd H s.heap.objs.size (.lst ys)) { s with heap:=s.heap.push { cls:=.type "list",data:=.seq its.toArray },toks:=t' } :=
 I.laid (fun _ _ q=>Heap.get?_push_of_some _ q) (Nat.le_refl _) ⟨hz,its,0,hv,Heap.get?_push_size _ rfl⟩
theorem Inv.fresh (I:Inv X pins σ H s):H s.heap.objs.size=none:=I.hok.fresh (Nat.le_refl _)
theorem Inv.lstM (I:Inv X pins σ H s)(hH:H l=some (.lst xs)):xs.length <= sizeLine /\ ∃ (its:List Value) (n:Nat),Vals xs its /\ xs.length=its.length /\ s.heap.get? l=some { cls:=.type "list",data:=.seq its.toArray n }:=by
 obtain ⟨z,its,n,r,e⟩:=I.hok l _ hH
 exact ⟨z,its,n,r,r.length,e⟩
theorem notLongL {n:Nat}(h:n <= sizeLine):Builtin.List.listTooLong n=false:=by
 unfold Builtin.List.listTooLong
 exact decide_eq_false (by omega)
end
section
variable {X:Cx}
def rAppend:V -> List V -> Hp -> VK -> Prop:=fun x vs H Q=>∃ l xs y,x = .ref l /\ vs=[y] /\ H l=some (.lst xs) /\ xs.length < sizeLine /\ Q .non (upd H l (.lst (xs ++ [y])))
theorem mt_append:MtM X "list.append" rAppend:=by
 intro pins s σ H x vs v us Q I rx rv h
 obtain ⟨l,xs,y,rfl,rfl,hH,hz,q⟩:=h
 cases rx
 obtain ⟨u,rfl,ru⟩:=rv.one
 obtain ⟨z,its,n,r,hl,e⟩:=I.lstM hH
 refine call_meets F.slot_list_append ⟨_,e,rfl⟩ F.entry_list_append (F.args_list_append_2 _ _) (PySem.list_append l its.toArray n u (by rw [qM]; omega)) ⟨e,?_⟩
 refine ⟨.non,_,I.lset (its':=its ++ [u]) hH e (by simp) (r.append (.cons ru .nil)) ?_,rfl,q⟩
 rw [qF,List.length_singleton]
 omega
def rExtend:V -> List V -> Hp -> VK -> Prop:=fun x vs H Q=>∃ l b xs zs,x = .ref l /\ vs=[.ref b] /\ H l=some (.lst xs) /\ H b=some (.lst zs) /\ xs.length+zs.length <= sizeLine /\ Q .non (upd H l (.lst (xs ++ zs)))
theorem mt_extend:MtM X "list.extend" rExtend:=by
 intro pins s σ H x vs v us Q I rx rv h
 obtain ⟨l,b,xs,zs,rfl,rfl,hH,hB,hz,q⟩:=h
 cases rx
 obtain ⟨u,rfl,ru⟩:=rv.one
 cases ru
 obtain ⟨z,its,n,r,hl,e⟩:=I.lstM hH
 obtain ⟨z2,its2,n2,r2,hl2,e2⟩:=I.lstM hB
 have hsz:its.toArray.size+its2.toArray.size <= sizeLine:=by rw [qM,qM]; omega
 have hlong:¬ (!its.toArray.isEmpty && Builtin.List.listTooLong (its.toArray.size+its2.toArray.size))=true:=by
  rw [notLongL hsz,Bool.and_false]
  exact Bool.false_ne_true
 refine call_meets F.slot_list_extend ⟨_,e,rfl⟩ F.entry_list_extend (F.args_list_extend_2 _ _)
  (AutoSeq1.list_extend_list_list_0 l its.toArray n b its2.toArray n2 hlong (by rw [qM]; omega) (by omega)) ⟨e,e2,?_⟩
 refine ⟨.non,_,I.lset (its':=its ++ its2) hH e (by simp) (r.append r2) ?_,rfl,q⟩
 rw [qF]
 omega
def rPop:V -> List V -> Hp -> VK -> Prop:=fun x vs H Q=>∃ l xs y,x = .ref l /\ vs=[] /\ H l=some (.lst xs) /\ xs[xs.length - 1]? = some y /\ Q y (upd H l (.lst xs.dropLast))
theorem mt_pop:MtM X "list.pop" rPop:=by
 intro pins s σ H x vs v us Q I rx rv h
 obtain ⟨l,xs,y,rfl,rfl,hH,hy,q⟩:=h
 cases rx
 have hus:=rv.zero
 subst hus
 obtain ⟨z,its,n,r,hl,e⟩:=I.lstM hH
 obtain ⟨u,hu,ru⟩:=r.get hy
 have hy':its.toArray[its.toArray.size - 1]? = some u:=by
  show its.toArray[its.length - 1]? = some u
  rw [← Array.getElem?_toList,← hl]
  exact hu
 refine call_meets F.slot_list_pop ⟨_,e,rfl⟩ F.entry_list_pop (F.args_list_pop_1 _) (MeetsSeq.list_pop_last l its.toArray n u hy' (by rw [qM]; omega)) ⟨e,?_⟩
 refine ⟨y,_,I.lset (its':=its.dropLast) hH e ?_ r.dropLast ?_,ru,q⟩
 ·show its.toArray.eraseIdxIfInBounds (its.toArray.size - 1)=its.dropLast.toArray
  rw [qM,List.eraseIdxIfInBounds_toArray,erase_last]
 ·rw [List.length_dropLast]
  omega
def rReverse:V -> List V -> Hp -> VK -> Prop:=fun x vs H Q=>∃ l xs,x = .ref l /\ vs=[] /\ H l=some (.lst xs) /\ Q .non (upd H l (.lst xs.reverse))
def rClear:V -> List V -> Hp -> VK -> Prop:=fun x vs H Q=>∃ l xs,x = .ref l /\ vs=[] /\ H l=some (.lst xs) /\ Q .non (upd H l (.lst []))
def rCat:R2:=fun x y H Q=>∃ l b xs zs,x = .ref l /\ y = .ref b /\ H l=some (.lst xs) /\ H b=some (.lst zs) /\ xs.length+zs.length <= sizeLine /\ ∀ p,H p=none -> Q (.ref p) (upd H p (.lst (xs ++ zs)))
theorem op_cat:OpR X (binaryOp .Add) rCat:=by
 intro pins s σ H x y v u Q I rx ry h
 obtain ⟨l,b,xs,zs,rfl,rfl,hH,hB,hz,q⟩:=h
 cases rx
 cases ry
 obtain ⟨z,its,n,r,hl,e⟩:=I.lstM hH
 obtain ⟨z2,its2,n2,r2,hl2,e2⟩:=I.lstM hB
 refine PySem.P.add_list e e2 ?_ (by rw [qM,qM]; omega)
 have ea:its.toArray ++ its2.toArray=(its ++ its2).toArray:=by simp
 rw [ea]
 exact ⟨.ref _,_,I.lnew (t':=s.toks) (r.append r2) (by rw [qF]; omega),rfl,q _ I.fresh⟩
end
section
variable {prog:Program}{w:World}{A:Around}{E:Value -> Shared -> Prop}{s:Shared}
end
section
variable {X:Cx}
end
end L2
namespace L2
open PySem PySem.Spec PyProof.Rows
section
variable {κ:Type}[DecidableEq κ]
def valV (kvs:List (κ × V))(k:κ):Option V:=(kvs.find? fun kv=>decide (kv.1=k)).map (·.2)
def putK (kvs:List (κ × V))(k:κ)(v:V):List (κ × V) :=
 if (kvs.any fun kv=>decide (kv.1=k))=true then kvs.map (fun kv=>if kv.1=k then (kv.1,v) else kv) else kvs ++ [(k,v)]
theorem valV_pos {p:κ × V}{r:List (κ × V)}{k:κ}(e:p.1=k):valV (p :: r) k=some p.2:=by simp [valV,List.find?_cons,e]
theorem valV_neg {p:κ × V}{r:List (κ × V)}{k:κ}(e:¬ p.1=k):valV (p :: r) k=valV r k:=by simp [valV,List.find?_cons,e]
theorem valV_any (k:κ):∀ kvs:List (κ × V),(kvs.any fun kv=>decide (kv.1=k))=(valV kvs k).isSome
 | []=>rfl
 | p :: r=>by
  rw [List.any_cons]
  by_cases e:p.1=k
  ·simp only [valV_pos e,decide_eq_true e,Bool.true_or,Option.isSome_some]
  ·rw [valV_neg e,decide_eq_false e,Bool.false_or]; exact valV_any k r
end
section
variable {P:Program}{w:World}{H:Hp}{h:Heap}{a:Addr}
end
section
variable {X:Cx}{pins:List (Addr × Obj)}{σ:St}{H:Hp}{s:Shared}{a:Addr}{y v:V}{u r:Value}{o:Option V}{A:Around}{E:Value -> Shared -> Prop}
end
section
variable {X:Cx}{pins:List (Addr × Obj)}{σ:St}{H:Hp}{s:Shared}{a:Addr}{kvs:List (Key × V)}{k:Key}{u:Value}{A:Around}{E:Value -> Shared -> Prop}
end
section
variable {X:Cx}{o i e value:Expr}{pos pos' tpos:Pos}{td ty tv:TE}
end
def tDNewK:TE:=fun _ H Q=>∀ p,H p=none -> Q (.ref p) (upd H p (.dK []))
section
variable {X:Cx}{pos:Pos}
end
def tPairs:List (TE × TE) -> St -> Hp -> (List (V × V) -> Hp -> Prop) -> Prop
 | [],_,H,Q=>Q [] H
 | (tk,tv) :: r,σ,H,Q=>tk σ H fun x H1=>tv σ H1 fun y H2=>tPairs r σ H2 fun ps H3=>Q ((x,y) :: ps) H3
def mergeK (kvs more:List (Key × V)):List (Key × V):=more.foldl (fun acc kv=>putK acc kv.1 kv.2) kvs
def tDisp (trs:List (TE × TE)):TE:=fun σ H Q=>∀ p,H p=none -> tPairs trs σ (upd H p (.dK [])) fun ps H2=>H2 p=some (.dK []) /\ ∃ kvs:List (Key × V),ps=kvs.map (fun kv=>(kV kv.1,kv.2)) /\ kvs.length <= 15 /\ Q (.ref p) (upd H2 p (.dK (mergeK [] kvs)))
section
variable {X:Cx}{pins:List (Addr × Obj)}{σ:St}{H:Hp}{s:Shared}{a:Addr}{y d:V}{u r:Value}{o:Option V}{A:Around}{E:Value -> Shared -> Prop}
end
section
variable {X:Cx}{o e f:Expr}{apos cpos:Pos}{td ty tx:TE}
end
section
variable {X:Cx}{pins:List (Addr × Obj)}{σ:St}{H:Hp}{s:Shared}{a:Addr}{kvs:List (Key × V)}{A:Around}{E:Value -> Shared -> Prop}
end
section
variable {X:Cx}{pins:List (Addr × Obj)}{σ:St}{H:Hp}{s:Shared}{a:Addr}{y:V}{u:Value}{A:Around}{E:Value -> Shared -> Prop}
end
end L2
namespace Att
open PySem PySem.W PySem.Calls PyProof.Rows
theorem ints_of_wellAll {P:Params}{h:Heap}:∀ (ns:List Int) (vs:List Value),WellAll P h vs (ns.map WData.int) -> IntsAre vs ns:=by
 intro ns
 induction ns with
 | nil =>
  intro vs w
  rw [List.map_nil] at w
  cases w
  exact .nil
 | cons n ns ih =>
  intro vs w
  rw [List.map_cons] at w
  cases w with
  | cons a b =>
   cases a
   exact .cons _ _ (ih _ b)
theorem script_of {l:OpenLaw}{n:Nat}(hn:l.most=some n){P:Params}{h:Heap}{args:List WData}{vals:List Value}
  (hpre:l.row.toRowW.claim.pre args=true) (hwl:WellAll P h vals args) :
  ∃ a vs ns,vals=[Value.ref a] /\ args=[WData.list (ns.map WData.int)] /\ h.get? a=some { cls:=.type "list",data:=.seq vs.toArray } /\ IntsAre vs ns /\ ns.length <= n:=by
 have hsh:WShape.hasAll [] args [.list .int]=true:=(pre_splitW hpre).1
 have hc:l.pre.holds [] { args:=args } = true:=(pre_splitW hpre).2
 obtain ⟨d,r,rfl,h1,h2⟩:=hasAllW_cons hsh
 obtain rfl:=hasAllW_nil h2
 obtain ⟨xs,rfl,h3⟩:=hasW_list h1
 obtain ⟨ns,rfl⟩:=items_int h3
 have hlen:ns.length <= n:=by
  unfold OpenLaw.pre at hc
  have h4:(WTm.not (.lt (.lit (.int (n:Int))) (.len (.arg 0)))).holds [] { args:=[.list (ns.map .int)] } = true:=by
   have h4:=(holds_andW hc).1
   rw [hn] at h4
   exact h4
  have h5:=condW_of h4 (w_not (w_lt w_lit (w_len_list (w_arg rfl))))
  rw [qC] at h5
  refine Nat.le_of_not_lt fun q=>?_
  have q':(n:Int) < ((ns.length:Nat):Int):=by omega
  first
   | (rw [decide_eq_true q'] at h5; exact absurd h5 (by decide))
   | (simp at h5; omega)
 cases hwl with
 | cons w1 w2 =>
  cases w2
  cases w1 with
  | list ho hall=>exact ⟨_,_,ns,rfl,rfl,ho,ints_of_wellAll ns _ hall,hlen⟩
theorem post_true (l:OpenLaw)(args:List WData):l.row.toRowW.claim.post args (.bool true) args=true :=
 postW_of (r:=l.row.toRowW) (X:=(true == true))
  (show WShape.has [] (.bool true) .bool=true by first | rfl | decide | simp [WShape.has,WShape.arms,WShape.armsAll])
  (show (WTm.eq .res (.lit (.bool true))).value [] { args:=args,res:=some (.bool true),after:=args } = some (.bool (true == true)) from w_eq_bool (w_res rfl) w_lit) rfl
theorem attach_call {l:OpenLaw}{n:Nat}{q:Program}{loose:List Str}{XP:(Str -> Option Value) -> Heap -> Prop}{YP:World -> Heap -> Prop}{d:DefRec}
  (hn:l.most=some n) (hdf:d.params.defaults=[])
  (call:∀ (w:World) (s₀ s₁:Shared) (mg mb:Str -> Option Value) (fa:Addr) (o:Obj) (pm cd doc:Value) (a:Addr) (vs:List Value) (ns:List Int),
   Ground q loose [] XP w s₀ mg mb s₁.heap -> YP w s₁.heap ->
   s₁.heap.get? fa=some o -> o.data = .func (docDef d.name d.params d.body d.scope pm cd doc) -> s₁.heap.CodeRec cd d.name -> mg d.name=some (.ref fa) ->
   s₁.heap.get? a=some { cls:=.type "list",data:=.seq vs.toArray } -> IntsAre vs ns -> ns.length <= n -> s₁.gens = #[] ->
   codeAny (model l.prog w) callerA (.call (.ref fa) ⟨[.ref a],[]⟩) (fun r s'=>r = .ok (.ret (.bool true)) /\ OldK s₁.heap s'.heap /\ s'.os=s₁.os /\ AllBare s'.gens) s₁) :
  WalkO q loose XP YP l.row.toRowW d [] (fun f vs=>PySem.call f vs):=by
 intro w s₀ s₁ mg mb G Y fa o pm cd doc dV kV ho hd hcd hD hmg hg args vals as hpre hlay hrd hwl hlo
 obtain rfl:dV = .none:=Dflts.none hD hdf
 obtain rfl:kV = .none:=Dflts.noKw hD
 obtain ⟨a,vs,ns,rfl,rfl,hobj,hints,hlen⟩:=script_of hn hpre hwl
 refine enter_call (codeAny_mono (call w s₀ s₁ mg mb fa o pm cd doc a vs ns G Y ho (fd_plain hd) hcd hmg hobj hints hlen hg) fun r s' hq=>?_)
 obtain ⟨rfl,h2,h3,h4⟩:=hq
 exact ⟨.inl ⟨.bool true,.bool true,[],rfl,fun _=>rfl,.bool true,post_true l _,fun _=>⟨List.Pairwise.nil,fun _ hm=>(nomatch hm)⟩⟩,h2,h3,h4⟩
section
variable {prog:Program}{w:World}{A:Around}{E:Value -> Shared -> Prop}{s:Shared}{K:Frag}
end
end Att
namespace L2
open PySem PySem.Spec PyProof.Rows
theorem vals_ints:∀ {vs:List Value} {ns:List Int},IntsAre vs ns -> Vals (ns.map V.int) vs
 | _,_,.nil=>.nil
 | _,_,.cons n t h=>.cons ⟨t,rfl⟩ (vals_ints h)
def Only (H:Hp):Prop:=∀ b,H b=none \/ ∃ o xs,H b=some (.frz o (.lst xs))
theorem law_call {P:Program}{w:World}{K:PySem.W.Frag}{mg mb:Str -> Option Value}{CX:CXT}{k:Nat}{fa a:Addr}{fd:FuncData}{x:Str}{sp:Sp}{s₁:Shared}{vs:List Value}{ns:List Int}
  (KX:K.In s₁.heap) (hns:s₁.heap.Ns mainGlobals mg) (hb:s₁.heap.Ns builtinsNs mb) (hbb:∀ x:Str,x ≠ "__name__" -> mb x=bootBuiltins x) (hlim:s₁.heap.NoLimit) (hg:s₁.gens = #[])
  (ha:s₁.heap.get? a=some { cls:=.type "list",data:=.seq vs.toArray }) (hi:IntsAre vs ns) (hl:ns.length <= sizeLine) (hr:Room k callerA)
  (F:∀ base:Heap,K.In base -> base.Ns mainGlobals mg -> FnOk P w K mg base CX k fa fd [x] sp) (hbind:∀ (s:Shared) (u:Value),BindsTo s fd ⟨[u],[]⟩ [(x,u)])
  (hsp:∀ H:Hp,Only H -> SqL K H a (ns.map V.int) -> sp [.ref a] H (fun v _=>v = .bl true) fun _ _ _=>False)
  (hCX:∀ H e s',CX [] H s₁ (fun _ _ _=>False) e s' -> False) :
  codeAny (model P w) callerA (.call (.ref fa) ⟨[.ref a],[]⟩) (fun r s'=>r = .ok (.ret (.bool true)) /\ OldK s₁.heap s'.heap /\ s'.os=s₁.os /\ AllBare s'.gens) s₁:=by
 have rv:=vals_ints hi
 have lenV:=hi.length
 -- from an abstract heap in which nothing but the script may be tracked
 have core:∀ H:Hp,Only H -> SqL K H a (ns.map V.int) -> HOk P w H s₁.heap -> (∀ b,H b ≠ none -> b=a) -> (H a ≠ none -> K.lookup a=none) ->
   codeAny (model P w) callerA (.call (.ref fa) ⟨[.ref a],[]⟩) (fun r s'=>r = .ok (.ret (.bool true)) /\ OldK s₁.heap s'.heap /\ s'.os=s₁.os /\ AllBare s'.gens) s₁:=by
  intro H hO hS hok hA hK
  have base_of:∀ {b:Addr} {o:Obj},s₁.heap.get? b=some o -> H b=none -> (hidT s₁.heap H).get? b=some o:=fun e n=>hidT_get e n
  have noA:∀ {b:Addr} {o:Obj} {es:Array DictEntry} {ep:Nat},s₁.heap.get? b=some o -> o.data = .dict es ep -> H b=none:=fun {b o es ep} e d=>by
   cases q:H b with
   | none=>rfl
   | some u =>
    have e':b=a:=hA b (by rw [q]; simp)
    subst e'
    rw [ha] at e; cases e
    have d':Data.seq vs.toArray _=Data.dict es ep:=d
    cases d'
  have nsK:∀ {b:Addr} {m:Str -> Option Value},s₁.heap.Ns b m -> (hidT s₁.heap H).Ns b m:=fun {b m} ⟨o,es,ep,e,d,r⟩=>⟨o,es,ep,base_of e (noA e d),d,r⟩
  have hKb:K.In (hidT s₁.heap H):=fun b o e=>base_of (KX b o e) (by
   cases q:H b with
   | none=>rfl
   | some u =>
    have e':b=a:=hA b (by rw [q]; simp)
    subst e'
    rw [hK (by rw [q]; simp)] at e; cases e)
  have hM:Mod K mg (hidT s₁.heap H):=⟨hKb,nsK hns,⟨mb,nsK hb,hbb⟩,let ⟨mc,h1,h2⟩:=hlim; ⟨mc,nsK h1,h2⟩⟩
  have e0:Env0 P w K mg (hidT s₁.heap H) callerA [] s₁ H:=⟨rfl,hM,fun b o e=>of_hidT e,Nat.le_of_eq (hidT_size _ _),trivial,fun b hb=>absurd (show b ∈ ([]:List Addr) from hb) (by simp),hok,.of_eq hg⟩
  refine codeAny_mono ((F _ hKb (nsK hns)).run callerA [] s₁ H ⟨[.ref a],[]⟩ [.ref a] [.ref a] _ _ hr e0 (hbind s₁ (.ref a)) (.cons rfl .nil) (hsp H hO hS)) fun r s' h=>?_
  cases r with
  | error e=>exact (hCX H e s' h).elim
  | ok fl =>
   cases fl with
   | next=>exact False.elim h
   | brk=>exact False.elim h
   | cont=>exact False.elim h
   | ret u =>
    obtain ⟨v,H',os,bare,un,hok',r',q⟩:=h
    have q':v = .bl true:=q
    subst q'
    obtain rfl:u=Value.bool true:=r'
    refine ⟨rfl,OldK.of_keep fun b o e=>?_,os,bare⟩
    cases q:H b with
    | none=>exact un.keep b o e q (by intro z; exact absurd (show b ∈ ([]:List Addr) from z) (by simp)) (by simp)
    | some u =>
     rcases hO b with z | ⟨ob,xs,z⟩
     ·rw [q] at z; cases z
     ·have z2:=un.frzs b ob _ z
      obtain ⟨e1,_⟩:=hok b _ z
      obtain ⟨e2,_⟩:=hok' b _ z2
      rw [e] at e1; cases e1
      exact e2
 cases hk:K.lookup a with
 | some o =>
  -- the script is one of the module's own objects
  have e:=KX a o hk
  rw [ha] at e
  cases e
  refine core (fun _=>none) (fun _=>.inl rfl) (.inr ⟨_,vs.toArray,_,hk,rfl,rfl,rfl,by rw [qM,lenV]; exact hl,by simpa using rv⟩) (fun b u z=>by have z':(none:Option HO)=some u:=z; cases z') (fun b z=>absurd rfl z) fun z=>absurd rfl z
 | none =>
  refine core (fun b=>if b=a then some (.frz { cls:=.type "list",data:=.seq vs.toArray } (.lst (ns.map V.int))) else none) (fun b=>?_) (.inl (.inr ⟨{ cls:=.type "list",data:=.seq vs.toArray },if_pos rfl⟩)) (fun b u z=>?_) (fun b z=>?_) fun _=>hk
  ·by_cases hb:b=a
   ·exact .inr ⟨_,_,if_pos hb⟩
   ·exact .inl (if_neg hb)
  ·by_cases hb:b=a
   ·have z':=(if_pos hb).symm.trans z
    cases z'
    subst hb
    exact ⟨ha,by rw [qC]; exact hl,vs,_,rv,ha⟩
   ·have z':=(if_neg hb).symm.trans z
    cases z'
  ·by_cases hb:b=a
   ·exact hb
   ·exact absurd (if_neg hb) z
end L2
namespace L2
open PySem PySem.Spec PyProof.Rows
theorem walk_of {l:PySem.W.OpenLaw}{n k:Nat}{q:Program}{loose:List Str}{XP:(Str -> Option Value) -> Heap -> Prop}{YP:World -> Heap -> Prop}{d:DefRec}{K:Params -> PySem.W.Frag}{CX:World -> CXT}{sp:World -> Sp}{x:Str}
  (hn:l.most=some n) (hn2:n <= sizeLine) (hdf:d.params.defaults=[]) (hr:Room k callerA)
  (hY:∀ (w:World) (h:Heap),YP w h -> (K w.params).In h)
  (F:∀ (w:World) (mg:Str -> Option Value) (fa:Addr) (h:Heap),(K w.params).In h -> h.Ns mainGlobals mg -> mg d.name=some (.ref fa) ->
   ∃ fd:FuncData,(∀ (s:Shared) (u:Value),BindsTo s fd ⟨[u],[]⟩ [(x,u)]) /\
    ∀ base:Heap,(K w.params).In base -> base.Ns mainGlobals mg -> FnOk l.prog w (K w.params) mg base (CX w) k fa fd [x] (sp w))
  (hsp:∀ (w:World) (H:Hp) (a:Addr) (ns:List Int),ns.length <= n -> Only H -> SqL (K w.params) H a (ns.map V.int) -> sp w [.ref a] H (fun v _=>v = .bl true) fun _ _ _=>False)
  (hCX:∀ (w:World) (H:Hp) (s:Shared) (e:Value) (s':Shared),CX w [] H s (fun _ _ _=>False) e s' -> False) :
  PySem.W.WalkO q loose XP YP l.row.toRowW d [] (fun f vs=>PySem.call f vs):=by
 refine Att.attach_call hn hdf fun w s₀ s₁ mg mb fa o pm cd doc a vs ns G Y ho hd hcd hmg hobj hints hlen hg=>?_
 have KX:=hY w _ Y
 obtain ⟨fd,hb,hF⟩:=F w mg fa _ KX G.T.g hmg
 exact law_call KX G.T.g G.T.b G.T.builtins G.T.nolimit hg hobj hints (Nat.le_trans hlen hn2) hr hF hb (fun H hO hS=>hsp w H a ns hlen hO hS) fun H e s'=>hCX w H s₁ e s'
end L2
namespace L2
open PySem PySem.Spec PyProof.Rows
def defArgs (s:Stmt):Arguments:=match s with
 | .FunctionDef _ a _ _ _ _ _ _ _ _=>a
 | _=>{ posonlyargs:=[],args:=[],vararg:=none,kwonlyargs:=[],kw_defaults:=[],kwarg:=none,defaults:=[] }
def defBody (s:Stmt):List Stmt:=match s with
 | .FunctionDef _ _ b _ _ _ _ _ _ _=>b
 | _=>[]
def defScope (s:Stmt):Scope:=match s with
 | .FunctionDef _ _ _ _ _ _ sc _ _ _=>sc
 | _=>{ kind:=.function,names:=[],isGenerator:=false,isCoroutine:=false }
abbrev CX0:CXT:=fun _ _ _ _ _ _=>False
abbrev E0:XK:=fun _ _ _=>False
theorem pass0 {X:Cx}:Passes CX0 X E0:=fun _ _ _ _ _ _ _ h=>h.elim
structure Fun (K:PySem.W.Frag) (x qual:Str) (st:Stmt) (f:Addr) (fd:FuncData):Prop where
 ex:∃ (oc:Value) (od:Option Addr) (kV doc pm:Value) (an:Option Addr) (cdv ct:Value) (osl:Array (Option Value)),
  fd=PySem.W.fnOf x qual (defArgs st) (defBody st) (defScope st) .none kV doc pm an cdv ct /\ K.lookup f=some ⟨oc,od,.func fd,osl⟩ /\ PySem.W.codeIn K cdv qual=true
 kp:PySem.W.keepIn K (.ref f)=true
section
variable {P:Program}{w:World}{K:PySem.W.Frag}{mg:Str -> Option Value}{base:Heap}
theorem Fun.ok {x qual:Str}{st:Stmt}{f:Addr}{fd:FuncData}{N ps:List Str}{k:Nat}{sp:Sp}(F:Fun K x qual st f fd)(S:FnScope N ps (defScope st))(len:∀ vs H Q E,sp vs H Q E -> vs.length=ps.length)
  (hbody:∀ (cdv:Value) (A:Around) (outer:List Env) (s:Shared) (H:Hp) (vs:List V) (Q:VK) (E:XK),Room k (A.deeper (envOfC qual (defScope st) s.heap.objs.size f cdv)) -> sp vs H Q E ->
   ∃ t,PSs (cxOf CX0 P w K mg base N qual (defScope st) f cdv A outer s H E).nox (defBody st) t /\ t { nx:=fun _ H'=>Q .non H',rt:=Q } (start N vs) H):FnOk P w K mg base CX0 (k+1) f fd ps sp:=by
 obtain ⟨oc,od,kV,doc,pm,an,cdv,ct,osl,rfl,lk,hcd⟩:=F.ex
 refine fn_of lk hcd S len fun A outer s H vs Q E hr hsp=>?_
 obtain ⟨t,h,q⟩:=hbody cdv A outer s H vs Q E hr hsp
 exact ⟨t,h.nox,q⟩
theorem Fun.binds {x qual:Str}{st:Stmt}{f:Addr}{fd:FuncData}{ps:List Str}(F:Fun K x qual st f fd)
  (h:∀ (kV doc pm:Value) (an:Option Addr) (cdv ct:Value) (us:List Value),us.length=ps.length -> bindArgs (PySem.W.fnOf x qual (defArgs st) (defBody st) (defScope st) .none kV doc pm an cdv ct) ⟨us,[]⟩=pure (ps.zip us)):Binds K fd ps []:=by
 obtain ⟨oc,od,kV,doc,pm,an,cdv,ct,osl,rfl,lk,hcd⟩:=F.ex
 exact .all (h kV doc pm an cdv ct)
theorem fun_mk {x qual:Str}{st:Stmt}{f:Addr}{oc:Value}{od an:Option Addr}{osl:Array (Option Value)}{kV doc pm cdv ct:Value}(l:K.lookup f=some ⟨oc,od,.func (PySem.W.fnOf x qual (defArgs st) (defBody st) (defScope st) .none kV doc pm an cdv ct),osl⟩)
  (c:PySem.W.codeIn K cdv qual=true) (k:PySem.W.keepIn K (.ref f)=true):Fun K x qual st f (PySem.W.fnOf x qual (defArgs st) (defBody st) (defScope st) .none kV doc pm an cdv ct):=⟨⟨oc,od,kV,doc,pm,an,cdv,ct,osl,rfl,l,c⟩,k⟩
end
theorem small1000 {n:Nat}(h:n <= 1000):n < sizeLine:=Nat.lt_of_le_of_lt h (by decide)
section
variable {X:Cx}
theorem pv (i:Nat) {x:Str} {pos:Pos} (hN:X.N[i]? = some x:=by rfl) (hv:Vis X.env.scope x:=by first | exact Or.inl rfl | exact Or.inr (Or.inl rfl) | exact Or.inr (Or.inr rfl)) (hd:(x == ("__debug__" : Str))=false:=by decide)
  (hcd:(x == ("__classdict__" : Str))=false:=by decide):PE X (.Name x pos) (tVar i):=pe_var hN hv hd hcd
end
theorem ite2 {c A B:Prop}[Decidable c](h1:c -> A)(h2:¬ c -> B):if c then A else B:=by
 by_cases h:c
 ·rw [if_pos h]
  exact h1 h
 ·rw [if_neg h]
  exact h2 h
def Same (H H':Hp):Prop:=∀ b o,H b=some o -> H' b=some o
theorem Same.refl (H:Hp):Same H H:=fun _ _ h=>h
theorem Same.trans {H H1 H2:Hp}(a:Same H H1)(b:Same H1 H2):Same H H2:=fun c o h=>b c o (a c o h)
theorem Same.free {H H':Hp}(e:Same H H'){l:Addr}(h:H' l=Option.none):H l=Option.none:=by
 cases q:H l with
 | none=>rfl
 | some o =>
  rw [e l o q] at h
  cases h
theorem Same.seq {K:PySem.W.Frag}{H H':Hp}{a:Addr}{xs:List V}(e:Same H H')(h:SqL K H a xs):SqL K H' a xs:=by
 rcases h with (h | ⟨o,h⟩) | h
 ·exact .inl (.inl (e _ _ h))
 ·exact .inl (.inr ⟨o,e _ _ h⟩)
 ·exact .inr h
end L2
namespace L2
open PySem PySem.Spec PyProof.Rows
section
variable {X:Cx}
end
end L2
namespace L2
open PySem PySem.Spec PyProof.Rows
section
variable {κ:Type}[DecidableEq κ]
end
end L2
set_option Elab.async false
set_option linter.all false
set_option maxRecDepth 100000
namespace L2
open PySem PySem.Spec PyProof.Rows
section
variable {σ:St}{H:Hp}{Q:VK}{D:Ends}
theorem w_var {i:Nat}:tVar i σ H Q = ∃ v,σ[i]? = some (some v) /\ Q v H:=rfl
theorem w_C {v:V}:tC v σ H Q=Q v H:=rfl
theorem w_op {r:R2}{ta tb:TE}:tOp r ta tb σ H Q=ta σ H fun x H1=>tb σ H1 fun y H2=>r x y H2 Q:=rfl
theorem w_un {r:V -> Hp -> VK -> Prop}{ta:TE}:tUn r ta σ H Q=ta σ H fun x H1=>r x H1 Q:=rfl
theorem w_rI {C:Int -> Int -> Prop}{g:Int -> Int -> V}{i j:Int}:rI C g (.int i) (.int j) H Q=(C i j /\ Q (g i j) H) :=
 propext ⟨fun ⟨a,b,e1,e2,c,q⟩=>by cases e1; cases e2; exact ⟨c,q⟩,fun ⟨c,q⟩=>⟨i,j,rfl,rfl,c,q⟩⟩
theorem w_rI0 {g:Int -> Int -> V}{i j:Int}:rI0 g (.int i) (.int j) H Q=Q (g i j) H :=
 propext ⟨fun ⟨a,b,e1,e2,q⟩=>by cases e1; cases e2; exact q,fun q=>⟨i,j,rfl,rfl,q⟩⟩
theorem w_rU {g:Int -> V}{i:Int}:rU g (.int i) H Q=Q (g i) H :=
 propext ⟨fun ⟨a,e1,q⟩=>by cases e1; exact q,fun q=>⟨i,rfl,q⟩⟩
theorem w_eqI {i j:Int}:rEq (.int i) (.int j) H Q=Q (.bl (decide (i=j))) H :=
 propext (by
  have e:decide (V.int i=V.int j)=decide (i=j):=by by_cases h:i=j <;> simp [h]
  unfold rEq; rw [e]; exact ⟨fun h=>h.2,fun h=>⟨rfl,h⟩⟩)
theorem w_neI {i j:Int}:rNe (.int i) (.int j) H Q=Q (.bl (!decide (i=j))) H :=
 propext (by
  have e:decide (V.int i=V.int j)=decide (i=j):=by by_cases h:i=j <;> simp [h]
  unfold rNe; rw [e]; exact ⟨fun h=>h.2,fun h=>⟨rfl,h⟩⟩)
theorem w_seq {t u:TS}:tSeq t u D σ H=t { D with nx:=u D } σ H:=rfl
theorem w_next:tNext D σ H=D.nx σ H:=rfl
theorem w_break:tBreak D σ H=D.bk σ H:=rfl
theorem w_cont:tCont D σ H=D.ct σ H:=rfl
theorem w_ifS {c:TT}{t u:TS}:tIfS c t u D σ H=c σ H fun b H1=>if b=true then t D σ H1 else u D σ H1:=rfl
theorem w_ret {te:TE}:tRet te D σ H=te σ H D.rt:=rfl
theorem w_retN:tRetN D σ H=D.rt .non H:=rfl
theorem w_drop {te:TE}:tDrop te D σ H=te σ H fun _ H1=>D.nx σ H1:=rfl
theorem w_asg {te:TE}{g:TG}:tAsg te g D σ H=te σ H fun x H1=>g x σ H1 D.nx:=rfl
theorem w_gName {i:Nat}{v:V}{R:St -> Hp -> Prop}:gName i v σ H R=R (σ.set i (some v)) H:=rfl
theorem w_gSub {to ti:TE}{t:TSet}{v:V}{R:St -> Hp -> Prop}:gSub to ti t v σ H R=to σ H fun o H1=>ti σ H1 fun i H2=>t o i v H2 fun H3=>R σ H3:=rfl
theorem w_test {t:TE}{R:Bool -> Hp -> Prop}:tTest t σ H R=t σ H fun x H'=>∃ k,x = .bl k /\ R k H':=rfl
theorem w_B {t:TE}{R:Bool -> Hp -> Prop}:tB t σ H R=t σ H fun x H'=>∃ k,x = .bl k /\ R k H':=rfl
theorem w_and {t u:TT}{R:Bool -> Hp -> Prop}:tAnd t u σ H R=t σ H fun c H1=>if c=true then u σ H1 R else R false H1:=rfl
theorem w_or {t u:TT}{R:Bool -> Hp -> Prop}:tOr t u σ H R=t σ H fun c H1=>if c=true then R true H1 else u σ H1 R:=rfl
theorem w_not {t:TT}{R:Bool -> Hp -> Prop}:tNot t σ H R=t σ H fun c H1=>R (!c) H1:=rfl
theorem w_andV {ta tb:TE}:tAndV ta tb σ H Q=ta σ H fun x H1=>∃ c,x = .bl c /\ if c=true then tb σ H1 Q else Q (.bl false) H1:=rfl
theorem w_orV {ta tb:TE}:tOrV ta tb σ H Q=ta σ H fun x H1=>∃ c,x = .bl c /\ if c=true then Q (.bl true) H1 else tb σ H1 Q:=rfl
theorem w_notV {ta:TE}:tNotV ta σ H Q=ta σ H fun x H1=>∃ c,x = .bl c /\ Q (.bl (!c)) H1:=rfl
theorem w_if {t:TT}{ta tb:TE}:tIf t ta tb σ H Q=t σ H fun c H1=>if c=true then ta σ H1 Q else tb σ H1 Q:=rfl
theorem w_call {sp:Sp}{dvs:List V}{E:XK}{t:TA}:tCall sp dvs E t σ H Q=t σ H fun vs H1=>sp (vs ++ dvs) H1 Q E:=rfl
theorem w_nil {R:List V -> Hp -> Prop}:tNil σ H R=R [] H:=rfl
theorem w_cons {ta:TE}{tr:TA}{R:List V -> Hp -> Prop}:tCons ta tr σ H R=ta σ H fun x H1=>tr σ H1 fun xs H2=>R (x :: xs) H2:=rfl
theorem w_CB {r:List V -> Hp -> VK -> Prop}{t:TA}:tCB r t σ H Q=t σ H fun vs H1=>r vs H1 Q:=rfl
theorem w_lst {t:TA}:tLst t σ H Q=t σ H fun xs H1=>xs.length <= sizeLine /\ ∀ p,H1 p=none -> Q (.ref p) (upd H1 p (.lst xs)):=rfl
theorem w_tup {t:TA}:tTup t σ H Q=t σ H fun xs H1=>xs.length <= sizeLine /\ ∀ p,H1 p=none -> Q (.ref p) (upd H1 p (.tup xs)):=rfl
theorem w_isN {ta:TE}:tIsN ta σ H Q=ta σ H fun x H1=>Q (.bl (decide (x = .non))) H1:=rfl
theorem w_notN {ta:TE}:tNotN ta σ H Q=ta σ H fun x H1=>Q (.bl (!decide (x = .non))) H1:=rfl
theorem w_chain {r r':R2}{ta tb tc:TE}:tChain r r' ta tb tc σ H Q=(ta σ H fun x H1=>tb σ H1 fun y H2=>r x y H2 fun z H3=>∃ k,z = .bl k /\
 if k=true then tc σ H3 fun w H4=>r' y w H4 Q else Q (.bl false) H3):=by first | rfl | (unfold tChain; rfl)
end
section
variable {X:Cx}{st:Stmt}{rest:List Stmt}{t u:TS}
def tMid (t u:TS):TS:=fun D σ H=>∃ mid:St -> Hp -> Prop,t { D with nx:=mid } σ H /\ ∀ σ' H',mid σ' H' -> u D σ' H'
theorem pss_mid (h1:PS X st t)(h2:PSs X rest u):PSs X (st :: rest) (tMid t u):=by
 intro pins s σ H D I h
 obtain ⟨mid,q,k⟩:=h
 refine wpAny_execs_cons (thn (h1 pins s σ H { D with nx:=mid } I q) fun f s1 q=>?_)
 cases f with
 | next =>
  obtain ⟨σ',H',I',q⟩:=q
  exact h2 pins s1 σ' H' D I' (k _ _ q)
 | ret v=>exact q
 | brk=>exact q
 | cont=>exact q
end
structure Cal (P:Program) (w:World) (K:PySem.W.Frag) (mg:Str -> Option Value) (base:Heap) (k:Nat) (x:Str) (ps:List Str) (sp:Sp):Prop where
 ex:∃ (f:Addr) (fd:FuncData),FnOk P w K mg base CX0 k f fd ps sp /\ mg x=some (.ref f) /\ PySem.W.keepIn K (.ref f)=true /\ Binds K fd ps []
theorem Cal.mono {P:Program}{w:World}{K:PySem.W.Frag}{mg:Str -> Option Value}{base:Heap}{j k:Nat}{x:Str}{ps:List Str}{sp:Sp}(C:Cal P w K mg base j x ps sp)(h:j <= k):Cal P w K mg base k x ps sp:=by
 obtain ⟨f,fd,a,b,c,d⟩:=C.ex
 exact ⟨f,fd,a.mono h,b,c,d⟩
theorem Cal.imp {P:Program}{w:World}{K:PySem.W.Frag}{mg:Str -> Option Value}{base:Heap}{k:Nat}{x:Str}{ps:List Str}{sp sp':Sp}(C:Cal P w K mg base k x ps sp)(h:∀ vs H Q E,sp' vs H Q E -> sp vs H Q E):Cal P w K mg base k x ps sp':=by
 obtain ⟨f,fd,a,b,c,d⟩:=C.ex
 exact ⟨f,fd,a.imp h,b,c,d⟩
section
variable {X:Cx}{k:Nat}{x:Str}{ps:List Str}{sp:Sp}{e:Expr}{es:List Expr}{t:TA}{p pos:Pos}
theorem pe_cal (C:Cal X.prog X.w X.K X.mg X.base k x ps sp) (hr:Room k X.A) (hg:Gl X x) (ha:PA X (e :: es) t) (hd:(x == ("__debug__" : Str))=false:=by decide)
  (he:starEach (e :: es) X.env=(false,eval e X.env) :: starEach es X.env:=by rfl) (hpl:(backTo pos (starEach es X.env)).any (·.1)=false:=by rfl):PE X (.Call (.Name x p) (e :: es) [] pos) (tCall sp [] E0 t):=by
 obtain ⟨f,fd,a,b,c,d⟩:=C.ex
 exact pe_call a hr hg b c d .nil pass0 ha hd he hpl
end
theorem bits_le {i:Int}{n:Nat}(h:i.natAbs < 2 ^ n):Builtin.Int.intBits i <= n:=by
 unfold Builtin.Int.intBits
 split
 ·exact Nat.zero_le _
 ·rename_i h0
  have hp:i.natAbs ≠ 0:=by
   intro z
   exact h0 (by simpa using z)
  have:i.natAbs.log2 < n:=(Nat.log2_lt hp).mpr h
  omega
def CShl (i j:Int):Prop:=0 <= j /\ j <= 1000000 /\ Builtin.Int.intBits i <= 1000000
def CDivB (i j:Int):Prop:=0 < j /\ j.natAbs.log2 < 9000
section
variable {X:Cx}
theorem op_shlB:OpR X (binaryOp .LShift) (rI CShl fun i j=>.int (i * 2 ^ j.toNat)):=opI fun i j _ _ _ _ _ hc q=>lshift_int hc.1 (by have h1:=hc.2.1; have h2:=hc.2.2; omega) q
theorem op_mulB:OpR X (binaryOp .Mult) (rI IntMulOk fun i j=>.int (i * j)):=opI fun _ _ _ _ _ _ _ hc q=>mul_int q hc
theorem op_fdivB:OpR X (binaryOp .FloorDiv) (rI CDivB fun i j=>.int (i / j)):=opI fun i j _ _ _ _ _ hc q=>by
 have e:i / j=i.fdiv j:=(Int.fdiv_eq_ediv_of_nonneg i (Int.le_of_lt hc.1)).symm
 rw [e] at q
 exact floordiv_int (by have:=hc.1; omega) q (.inl (PyProof.noPylong_of_log2 hc.2))
def rIsI (K:PySem.W.Frag):List V -> Hp -> VK -> Prop:=fun xs H Q=>∃ x T t b,xs=[x,.ty T] /\ TyOf K H x t /\ PySem.W.kitOne K t (.type T)=some b /\ Q (.bl b) H
theorem call_isI:CallR X (.builtin "isinstance") (rIsI X.K):=by
 intro pins s σ H xs us Q I r h
 obtain ⟨x,T,t,b,rfl,ty,e,q⟩:=h
 obtain ⟨u1,u2,rfl,r1,r2⟩:=Vals.two r
 cases r2
 exact isinst_ok I r1 ty e fun tk=>⟨.bl b,H,I.tok _,rfl,q⟩
end
theorem mul_l {i j:Int}(h1:-(2 ^ 64) < i)(h2:i < 2 ^ 64):IntMulOk i j:=.of_left (intBits_le_64 h1 h2)
theorem mul_r {i j:Int}(h1:-(2 ^ 64) < j)(h2:j < 2 ^ 64):IntMulOk i j:=.of_right (intBits_le_64 h1 h2)
theorem kit_same {K:PySem.W.Frag}(T:String):PySem.W.kitOne K (.type T) (.type T)=some true:=by unfold PySem.W.kitOne; rw [if_pos (by simp)]
theorem kit_int_bool {K:PySem.W.Frag}:PySem.W.kitOne K (.type "int") (.type "bool")=some false:=by first | rfl | decide +kernel | (unfold PySem.W.kitOne PySem.W.kitCls; decide +kernel)
theorem kit_bool_int {K:PySem.W.Frag}:PySem.W.kitOne K (.type "bool") (.type "int")=some true:=by first | rfl | decide +kernel
theorem kit_non_int {K:PySem.W.Frag}:PySem.W.kitOne K (.type "NoneType") (.type "int")=some false:=by first | rfl | decide +kernel
theorem kit_str_int {K:PySem.W.Frag}:PySem.W.kitOne K (.type "str") (.type "int")=some false:=by first | rfl | decide +kernel
end L2
set_option Elab.async false
set_option linter.all false
set_option maxRecDepth 100000
namespace L2
open PySem PySem.Spec PyProof.Rows
theorem bo_len:bootBuiltins "len" = some (.builtin "len"):=by decide +kernel
theorem bo_abs:bootBuiltins "abs" = some (.builtin "abs"):=by decide +kernel
theorem bo_min:bootBuiltins "min" = some (.builtin "min"):=by decide +kernel
theorem bo_max:bootBuiltins "max" = some (.builtin "max"):=by decide +kernel
theorem bo_all:bootBuiltins "all" = some (.builtin "all"):=by decide +kernel
theorem bo_any:bootBuiltins "any" = some (.builtin "any"):=by decide +kernel
theorem bo_sorted:bootBuiltins "sorted" = some (.builtin "sorted"):=by decide +kernel
theorem bo_isinstance:bootBuiltins "isinstance" = some (.builtin "isinstance"):=by decide +kernel
theorem bo_int:bootBuiltins "int" = some (.type "int"):=by decide +kernel
theorem bo_bool:bootBuiltins "bool" = some (.type "bool"):=by decide +kernel
theorem bo_list:bootBuiltins "list" = some (.type "list"):=by decide +kernel
theorem bo_tuple:bootBuiltins "tuple" = some (.type "tuple"):=by decide +kernel
theorem bo_zip:bootBuiltins "zip" = some (.type "zip"):=by decide +kernel
theorem bo_reversed:bootBuiltins "reversed" = some (.type "reversed"):=by decide +kernel
def CPowB (i j:Int):Prop:=0 <= j /\ j <= 1000000 /\ -(2 ^ 64) < i /\ i < 2 ^ 64
section
variable {X:Cx}
theorem op_powB:OpR X (binaryOp .Pow) (rI CPowB fun i j=>.int (i ^ j.toNat)):=opI fun i j _ _ _ _ _ hc q=>pow_int_small hc.1 hc.2.1 (by have h1:=hc.2.2.1; have h2:=hc.2.2.2; omega) q
end
theorem w_shl1 {j:Int}:CShl 1 j=(0 <= j /\ j <= 1000000):=propext ⟨fun h=>⟨h.1,h.2.1⟩,fun h=>⟨h.1,h.2,Nat.le_trans (bits_le (n:=1) (by decide)) (by decide)⟩⟩
theorem divB {i j:Int}(h:0 < j)(h2:j < 2 ^ 64):CDivB i j:=⟨h,by
 have e:j.natAbs < 2 ^ 64:=by omega
 have e2:j.natAbs ≠ 0:=by omega
 have:=(Nat.log2_lt e2).mpr e
 omega⟩
section
variable {P:Program}{w:World}{K:PySem.W.Frag}{mg:Str -> Option Value}{base:Heap}
theorem mkCal {x qual:Str}{st:Stmt}{N ps:List Str}{k:Nat}{sp:Sp}(T:∃ (f:Addr) (fd:FuncData),Fun K x qual st f fd /\ mg x=some (.ref f) /\ Binds K fd ps [])(S:FnScope N ps (defScope st))(len:∀ vs H Q E,sp vs H Q E -> vs.length=ps.length)
  (hbody:∀ (f:Addr) (cdv:Value) (A:Around) (outer:List Env) (s:Shared) (H:Hp) (vs:List V) (Q:VK) (E:XK),Room k (A.deeper (envOfC qual (defScope st) s.heap.objs.size f cdv)) -> sp vs H Q E ->
   ∃ t,PSs (cxOf CX0 P w K mg base N qual (defScope st) f cdv A outer s H E).nox (defBody st) t /\ t { nx:=fun _ H'=>Q .non H',rt:=Q } (start N vs) H):Cal P w K mg base (k+1) x ps sp:=by
 obtain ⟨f,fd,F,m,b⟩:=T
 exact ⟨f,fd,F.ok S len fun cdv A outer s H vs Q E hr h=>hbody f cdv A outer s H vs Q E hr h,m,F.kp,b⟩
end
def Chg (p:Addr)(H H':Hp):Prop:=∀ b o,b ≠ p -> H b=some o -> H' b=some o
theorem Chg.trans {p:Addr}{H H1 H2:Hp}(a:Chg p H H1)(b:Chg p H1 H2):Chg p H H2:=fun c o n h=>b c o n (a c o n h)
theorem Same.chg {p:Addr}{H H':Hp}(h:Same H H'):Chg p H H':=fun b o _ q=>h b o q
theorem Chg.upd {p:Addr}{H:Hp}(o:HO):Chg p H (upd H p o):=fun b u n q=>by rw [upd_ne n]; exact q
theorem same_new {H:Hp}{p:Addr}(h:H p=none)(o:HO):Same H (upd H p o):=fun b u q=>by rw [upd_ne (ne_of_none q h)]; exact q
def Scr (K:PySem.W.Frag)(H:Hp)(a:Addr)(ns:List Int):Prop :=
 (∃ o,H a=some (.frz o (.lst (ns.map V.int)))) \/ (∃ (o:Obj) (its:Array Value) (n:Nat),K.lookup a=some o /\ o.cls = .type "list" /\ o.dict=none /\ o.data = .seq its n /\ its.size <= sizeLine /\ Vals (ns.map V.int) its.toList)
section
variable {K:PySem.W.Frag}{H H':Hp}{a p:Addr}{ns:List Int}
theorem Scr.sq (h:Scr K H a ns):SqL K H a (ns.map V.int):=by
 rcases h with h | h
 ·exact .inl (.inr h)
 ·exact .inr h
theorem scr_of (hO:Only H)(hS:SqL K H a (ns.map V.int)):Scr K H a ns:=by
 rcases hS with (h | h) | h
 ·rcases hO a with z | ⟨o,xs,z⟩
  ·rw [z] at h; cases h
  ·rw [z] at h; cases h
 ·exact .inl h
 ·exact .inr h
theorem Scr.same (h:Scr K H a ns)(s:Same H H'):Scr K H' a ns:=by
 rcases h with ⟨o,h⟩ | h
 ·exact .inl ⟨o,s _ _ h⟩
 ·exact .inr h
end
def spLaw (K:PySem.W.Frag):Sp:=fun vs H Q _=>∃ (a:Addr) (ns:List Int),vs=[.ref a] /\ Scr K H a ns /\ ns.length <= 63 /\ ∀ H',Q (.bl true) H'
theorem atI_int {ns:List Int}{i:Int}(h0:0 <= i)(h1:i < (ns.length:Int)):∃ v:Int,atI (ns.map V.int) i=some (.int v) /\ ns[i.toNat]? = some v:=by
 have hk:i.toNat < ns.length:=by omega
 have e:i=((i.toNat:Nat):Int):=by omega
 have q:atI (ns.map V.int) ((i.toNat:Nat):Int)=some (.int ns[i.toNat]):=atI_nat (by rw [qI,qA hk] <;> rfl)
 rw [← e] at q
 exact ⟨ns[i.toNat],q,qA hk⟩
def Feed (H:Hp)(p:Addr)(c:Int):Prop:=∃ g m st:Int,H p=some (.lst [.int g,.int m,.int st]) /\ 0 <= g /\ 0 <= m /\ m < 2147483423 /\ 0 <= st /\ st <= c
theorem Feed.mono {H:Hp}{p:Addr}{c d:Int}(h:Feed H p c)(l:c <= d):Feed H p d:=by
 obtain ⟨g,m,st,a,b,c,d,e,f⟩:=h
 exact ⟨g,m,st,a,b,c,d,e,by omega⟩
theorem Feed.same {H H':Hp}{p:Addr}{c:Int}(h:Feed H p c)(s:Same H H'):Feed H' p c:=by
 obtain ⟨g,m,st,a,r⟩:=h
 exact ⟨g,m,st,s _ _ a,r⟩
theorem Feed.lst {H:Hp}{p:Addr}{c:Int}(h:Feed H p c):∃ xs,H p=some (.lst xs):=by
 obtain ⟨g,m,st,a,r⟩:=h
 exact ⟨_,a⟩
def spFeed (K:PySem.W.Frag):Sp:=fun vs H Q _=>∃ (a:Addr) (ns:List Int) (k:Int),vs=[.ref a,.int k] /\ Scr K H a ns /\ ns.length <= 63 /\ 0 <= k /\ k <= 1000 /\
 ∀ p H',H p=none -> Same H H' -> Feed H' p 0 -> Q (.ref p) H'
def lim:Nat -> Int
 | 0=>11
 | n+1=>1000000 * (lim n - 1)
def spTakeN (n:Nat):Sp:=fun vs H Q _=>∃ (p:Addr) (m c:Int),vs=[.ref p,.int m] /\ Feed H p c /\ c <= 1000000000 - 2 ^ n /\ 0 < n /\ n <= 10 /\ 1 <= m /\ m <= lim n /\
 ∀ (r:Int) H',0 <= r -> r < m -> Feed H' p (c+2 ^ n) -> Chg p H H' -> Q (.int r) H'
def spTake:Sp:=fun vs H Q _=>∃ (p:Addr) (m c:Int),vs=[.ref p,.int m] /\ Feed H p c /\ c <= 900000000 /\ 1 <= m /\ m <= 10 ^ 60 /\
 ∀ (r:Int) H',0 <= r -> r < m -> Feed H' p (c+1024) -> Chg p H H' -> Q (.int r) H'
def rIxM:R2:=fun x y H Q=>∃ p xs i v,x = .ref p /\ y = .int i /\ H p=some (.lst xs) /\ atI xs i=some v /\ Q v H
def rIxU:R2:=fun x y H Q=>∃ p xs i v,x = .ref p /\ y = .int i /\ H p=some (.tup xs) /\ atI xs i=some v /\ Q v H
section
variable {X:Cx}
theorem IxR.mono {r r':R2}(h:IxR X r)(m:∀ x y H Q,r' x y H Q -> r x y H Q):IxR X r':=fun va sl pins s σ H x y v u Q I rx ry q hs=>h va sl pins s σ H x y v u Q I rx ry (m _ _ _ _ q) hs
theorem ix_M:IxR X rIxM:=ix_list.mono fun x y H Q ⟨p,xs,i,v,e1,e2,h,a,q⟩=>⟨p,xs,i,v,e1,e2,SqL.of h,a,q⟩
theorem ix_U:IxR X rIxU:=ix_tup.mono fun x y H Q ⟨p,xs,i,v,e1,e2,h,a,q⟩=>⟨p,xs,i,v,e1,e2,SqT.of h,a,q⟩
theorem CallR.mono {f:Value}{r r':List V -> Hp -> VK -> Prop}(h:CallR X f r)(m:∀ xs H Q,r' xs H Q -> r xs H Q):CallR X f r':=fun pins s σ H xs us Q I rx q=>h pins s σ H xs us Q I rx (m _ _ _ q)
theorem call_lenM:CallR X (.builtin "len") (fun xs H Q=>∃ p ys,xs=[.ref p] /\ H p=some (.lst ys) /\ Q (.int ys.length) H):=call_len_seq.mono fun xs H Q ⟨p,ys,e,h,q⟩=>⟨p,ys,e,.inl (SqL.of h),q⟩
theorem call_lenU:CallR X (.builtin "len") (fun xs H Q=>∃ p ys,xs=[.ref p] /\ H p=some (.tup ys) /\ Q (.int ys.length) H):=call_len_seq.mono fun xs H Q ⟨p,ys,e,h,q⟩=>⟨p,ys,e,.inr (SqT.of h),q⟩
theorem call_lenS:CallR X (.builtin "len") (fun xs H Q=>∃ p ys,xs=[.ref p] /\ SqL X.K H p ys /\ Q (.int ys.length) H):=call_len_seq.mono fun xs H Q ⟨p,ys,e,h,q⟩=>⟨p,ys,e,.inl h,q⟩
end
section
variable {H:Hp}{Q:VK}
theorem w_ixM {p:Addr}{i:Int}:rIxM (.ref p) (.int i) H Q = ∃ xs,H p=some (.lst xs) /\ ∃ v,atI xs i=some v /\ Q v H :=
 propext ⟨fun ⟨p',xs,i',v,e1,e2,h,a,q⟩=>by cases e1; cases e2; exact ⟨xs,h,v,a,q⟩,fun ⟨xs,h,v,a,q⟩=>⟨p,xs,i,v,rfl,rfl,h,a,q⟩⟩
theorem w_ixU {p:Addr}{i:Int}:rIxU (.ref p) (.int i) H Q = ∃ xs,H p=some (.tup xs) /\ ∃ v,atI xs i=some v /\ Q v H :=
 propext ⟨fun ⟨p',xs,i',v,e1,e2,h,a,q⟩=>by cases e1; cases e2; exact ⟨xs,h,v,a,q⟩,fun ⟨xs,h,v,a,q⟩=>⟨p,xs,i,v,rfl,rfl,h,a,q⟩⟩
theorem w_ixL {K:PySem.W.Frag}{p:Addr}{i:Int}:rIxL K (.ref p) (.int i) H Q = ∃ xs,SqL K H p xs /\ ∃ v,atI xs i=some v /\ Q v H :=
 propext ⟨fun ⟨p',xs,i',v,e1,e2,h,a,q⟩=>by cases e1; cases e2; exact ⟨xs,h,v,a,q⟩,fun ⟨xs,h,v,a,q⟩=>⟨p,xs,i,v,rfl,rfl,h,a,q⟩⟩
theorem w_setL {p:Addr}{k:Int}{v:V}{R:Hp -> Prop}:rSetL (.ref p) (.int k) v H R = ∃ xs,H p=some (.lst xs) /\ ∃ j,ixN xs.length k=some j /\ R (upd H p (.lst (xs.set j v))) :=
 propext ⟨fun ⟨p',xs,k',j,e1,e2,h,a,q⟩=>by cases e1; cases e2; exact ⟨xs,h,j,a,q⟩,fun ⟨xs,h,j,a,q⟩=>⟨p,xs,k,j,rfl,rfl,h,a,q⟩⟩
end
theorem at_0 {α:Type}{a:α}{l:List α}:atI (a :: l) 0=some a:=atI_nat (j:=0) rfl
theorem at_1 {α:Type}{a b:α}{l:List α}:atI (a :: b :: l) 1=some b:=atI_nat (j:=1) rfl
theorem at_2 {α:Type}{a b c:α}{l:List α}:atI (a :: b :: c :: l) 2=some c:=atI_nat (j:=2) rfl
theorem at_3 {α:Type}{a b c d:α}{l:List α}:atI (a :: b :: c :: d :: l) 3=some d:=atI_nat (j:=3) rfl
theorem ixN_0 {n:Nat}:ixN (n+1) 0=some 0:=by unfold ixN; rw [if_pos (Int.le_refl 0),if_pos (by omega)]; rfl
theorem ixN_1 {n:Nat}:ixN (n+1+1) 1=some 1:=by unfold ixN; rw [if_pos (by decide),if_pos (by omega)]; rfl
theorem ixN_2 {n:Nat}:ixN (n+1+1+1) 2=some 2:=by unfold ixN; rw [if_pos (by decide),if_pos (by omega)]; rfl
section
variable {CX:CXT}{P:Program}{w:World}{K:PySem.W.Frag}{mg:Str -> Option Value}{base:Heap}{N:List Str}{qual:Str}{scope:Scope}{f:Addr}{cd:Value}{A:Around}{outer:List Env}{s:Shared}{H:Hp}{E:XK}
theorem w_cxK:(cxOf CX P w K mg base N qual scope f cd A outer s H E).K=K:=rfl
end
theorem le_size {n:Nat}(h:n <= 1000):n <= sizeLine:=Nat.le_of_lt (small1000 h)
theorem sl_1:(0+1 <= sizeLine)=True:=eq_true (le_size (by decide))
theorem sl_2:(0+1+1 <= sizeLine)=True:=eq_true (le_size (by decide))
theorem sl_3:(0+1+1+1 <= sizeLine)=True:=eq_true (le_size (by decide))
theorem sl_4:(0+1+1+1+1 <= sizeLine)=True:=eq_true (le_size (by decide))
theorem sl_5:(0+1+1+1+1+1 <= sizeLine)=True:=eq_true (le_size (by decide))
theorem sl_6:(0+1+1+1+1+1+1 <= sizeLine)=True:=eq_true (le_size (by decide))
theorem sl_7:(0+1+1+1+1+1+1+1 <= sizeLine)=True:=eq_true (le_size (by decide))
theorem sl_8:(0+1+1+1+1+1+1+1+1 <= sizeLine)=True:=eq_true (le_size (by decide))
theorem sl_0:(0 <= sizeLine)=True:=eq_true (le_size (by decide))
theorem feed_of {H:Hp}{p:Addr}{g m st c:Int}(hg:0 <= g)(h0:0 <= m)(h1:m < 2147483423)(s0:0 <= st)(s1:st <= c):Feed (upd H p (.lst [.int g,.int m,.int st])) p c:=⟨g,m,st,upd_same,hg,h0,h1,s0,s1⟩
theorem divq {g m:Int}(hg:0 <= g)(hm:0 < m):0 <= g / m:=Int.ediv_nonneg hg (Int.le_of_lt hm)
theorem modq {g m:Int}(hm:0 < m):0 <= g % m /\ g % m < m:=⟨Int.emod_nonneg _ (by omega),Int.emod_lt_of_pos _ hm⟩
theorem two_pow {n:Nat}:(1:Int) <= 2 ^ n /\ (2:Int) ^ (n+1)=2 ^ n+2 ^ n:=by
 constructor
 ·have:=Int.pow_pos (n:=2) (m:=n) (by decide)
  omega
 ·rw [Int.pow_succ]; omega
theorem lim_ge:∀ n,11 <= lim n /\ (0 < n -> 10000000 <= lim n)
 | 0=>⟨by decide,fun h=>by omega⟩
 | n+1=>by
  have h:=(lim_ge n).1
  have e:lim (n+1)=1000000 * (lim n - 1):=rfl
  exact ⟨by omega,fun _=>by omega⟩
def ForR (lo:Int)(n:Nat)(g:TG)(tb:TS)(D:Ends)(σ:St)(H:Hp):Prop:=∃ W:Nat -> Nat -> St -> Hp -> Prop,(∃ m,W 0 m σ H) /\ ∀ i m σ H,W i m σ H ->
 ((Itr lo n).stop i H /\ D.nx σ H) \/ ((Itr lo n).go i H /\ ∃ N:St -> Hp -> Prop,(∀ σ' H',N σ' H' -> ∃ m',m' < m /\ W (i+1) m' σ' H') /\ ∀ x H',(Itr lo n).yld i H x H' -> g x σ H' fun σ2 H2=>tb { D with nx:=N,ct:=N,bk:=D.nx } σ2 H2)
def ForL (K:PySem.W.Frag)(a:Addr)(g:TG)(tb:TS)(D:Ends)(σ:St)(H:Hp):Prop:=∃ W:Nat -> Nat -> St -> Hp -> Prop,(∃ m,W 0 m σ H) /\ ∀ i m σ H,W i m σ H ->
 ((Itl K a).stop i H /\ D.nx σ H) \/ ((Itl K a).go i H /\ ∃ N:St -> Hp -> Prop,(∀ σ' H',N σ' H' -> ∃ m',m' < m /\ W (i+1) m' σ' H') /\ ∀ x H',(Itl K a).yld i H x H' -> g x σ H' fun σ2 H2=>tb { D with nx:=N,ct:=N,bk:=D.nx } σ2 H2)
def ForT (K:PySem.W.Frag)(a:Addr)(g:TG)(tb:TS)(D:Ends)(σ:St)(H:Hp):Prop:=∃ W:Nat -> Nat -> St -> Hp -> Prop,(∃ m,W 0 m σ H) /\ ∀ i m σ H,W i m σ H ->
 ((Itt K a).stop i H /\ D.nx σ H) \/ ((Itt K a).go i H /\ ∃ N:St -> Hp -> Prop,(∀ σ' H',N σ' H' -> ∃ m',m' < m /\ W (i+1) m' σ' H') /\ ∀ x H',(Itt K a).yld i H x H' -> g x σ H' fun σ2 H2=>tb { D with nx:=N,ct:=N,bk:=D.nx } σ2 H2)
section
variable {σ:St}{H:Hp}{D:Ends}{g:TG}{tb:TS}{K:PySem.W.Frag}{a:Addr}
theorem w_for1 {ta:TA}:tFor (iRng1 ta) g tb D σ H=(ta σ H fun vs H1=>∃ j:Int,vs=[.int j] /\ -(2 ^ 62) <= j /\ j < 2 ^ 62 /\ ForR 0 j.toNat g tb D σ H1):=rfl
theorem w_forL {tl:TE}:tFor (iList K tl) g tb D σ H=(tl σ H fun x H1=>∃ a,x = .ref a /\ (∃ xs,SqL K H1 a xs) /\ ForL K a g tb D σ H1):=rfl
theorem w_forT {tl:TE}:tFor (iTup K tl) g tb D σ H=(tl σ H fun x H1=>∃ a,x = .ref a /\ (∃ xs,SqT K H1 a xs) /\ ForT K a g tb D σ H1):=rfl
theorem forR {lo:Int}{n:Nat}(Pv:Nat -> St -> Hp -> Prop)(h0:Pv 0 σ H)
  (hs:∀ i σ H (N:St -> Hp -> Prop),i < n -> Pv i σ H -> (∀ σ' H',Pv (i+1) σ' H' -> N σ' H') -> g (.int (lo+i)) σ H fun σ2 H2=>tb { D with nx:=N,ct:=N,bk:=D.nx } σ2 H2) (hd:∀ σ H,Pv n σ H -> D.nx σ H):ForR lo n g tb D σ H :=
 for_range Pv h0 (fun i σ H h p=>hs i σ H _ h p fun _ _ q=>q) hd
theorem forL {xs:List V}(Pv:Nat -> St -> Hp -> Prop)(h0:Pv 0 σ H)(hl:∀ i σ H,i <= xs.length -> Pv i σ H -> SqL K H a xs)
  (hs:∀ i x σ H (N:St -> Hp -> Prop),xs[i]? = some x -> Pv i σ H -> (∀ σ' H',Pv (i+1) σ' H' -> N σ' H') -> g x σ H fun σ2 H2=>tb { D with nx:=N,ct:=N,bk:=D.nx } σ2 H2) (hd:∀ σ H,Pv xs.length σ H -> D.nx σ H):ForL K a g tb D σ H:=for_list Pv h0 hl (fun i x σ H h p=>hs i x σ H _ h p fun _ _ q=>q) hd
end
theorem take_ {H:Hp}{p:Addr}{m c:Int}{Q:VK}{E:XK}(hF:Feed H p c)(hc:c <= 900000000)(h1:1 <= m)(h2:m <= 10 ^ 60)
  (q:∀ (r:Int) H',0 <= r -> r < m -> Feed H' p (c+1024) -> Chg p H H' -> Q (.int r) H'):spTake [.ref p,.int m] H Q E:=⟨p,m,c,rfl,hF,hc,h1,h2,q⟩
theorem Feed.ne {H:Hp}{p q:Addr}{c:Int}(hF:Feed H p c)(hq:H q=none):q ≠ p:=by
 obtain ⟨xs,h⟩:=hF.lst
 exact (ne_of_none h hq).symm
theorem mid_of {t u:TS}{D:Ends}{σ:St}{H:Hp}(M:St -> Hp -> Prop)(h1:∀ N:St -> Hp -> Prop,(∀ σ H,M σ H -> N σ H) -> t { D with nx:=N } σ H)(h2:∀ σ H,M σ H -> u D σ H):tMid t u D σ H:=⟨M,h1 M fun _ _ q=>q,h2⟩
section
variable {K:PySem.W.Frag}{H:Hp}{Q:VK}
theorem isI_mk {x:V}{T:String}{t:Value}{b:Bool}(ty:TyOf K H x t)(u:∀ t',TyOf K H x t' -> t'=t)(k:PySem.W.kitOne K t (.type T)=some b):rIsI K [x,.ty T] H Q=Q (.bl b) H :=
 propext ⟨fun ⟨x',T',t',b',e,ty',k',q⟩=>by
  cases e
  rw [u _ ty',k] at k'
  cases k'
  exact q,fun q=>⟨x,T,t,b,rfl,ty,k,q⟩⟩
theorem kit_non_bool:PySem.W.kitOne K (.type "NoneType") (.type "bool")=some false:=by first | rfl | decide +kernel
theorem kit_str_bool:PySem.W.kitOne K (.type "str") (.type "bool")=some false:=by first | rfl | decide +kernel
theorem w_isI_ii {i:Int}:rIsI K [.int i,.ty "int"] H Q=Q (.bl true) H:=isI_mk (.int i) (fun _ h=>by cases h; rfl) (kit_same _)
theorem w_isI_ib {i:Int}:rIsI K [.int i,.ty "bool"] H Q=Q (.bl false) H:=isI_mk (.int i) (fun _ h=>by cases h; rfl) kit_int_bool
theorem w_isI_bi {i:Bool}:rIsI K [.bl i,.ty "int"] H Q=Q (.bl true) H:=isI_mk (.bl i) (fun _ h=>by cases h; rfl) kit_bool_int
theorem w_isI_bb {i:Bool}:rIsI K [.bl i,.ty "bool"] H Q=Q (.bl true) H:=isI_mk (.bl i) (fun _ h=>by cases h; rfl) (kit_same _)
theorem w_isI_ni:rIsI K [.non,.ty "int"] H Q=Q (.bl false) H:=isI_mk .non (fun _ h=>by cases h; rfl) kit_non_int
theorem w_isI_nb:rIsI K [.non,.ty "bool"] H Q=Q (.bl false) H:=isI_mk .non (fun _ h=>by cases h; rfl) kit_non_bool
theorem w_isI_si {x:Str}:rIsI K [.str x,.ty "int"] H Q=Q (.bl false) H:=isI_mk (.str x) (fun _ h=>by cases h; rfl) kit_str_int
theorem w_isI_sb {x:Str}:rIsI K [.str x,.ty "bool"] H Q=Q (.bl false) H:=isI_mk (.str x) (fun _ h=>by cases h; rfl) kit_str_bool
end
theorem pow_pos2 (k:Nat):(0:Int) < 2 ^ k:=Int.pow_pos (by decide)
end L2
set_option Elab.async false
set_option linter.all false
set_option maxRecDepth 100000
set_option maxHeartbeats 1000000
namespace L2
open PySem PySem.Spec PyProof.Rows
def closOf (scope:Scope)(env:Env):List (Str × Addr):=(scope.names.filterMap fun x=>if x.2 == .free then (env.cells.lookup x.1).map fun c=>(x.1,c) else none).reverse
theorem closureFor_ok {scope:Scope}{env:Env}(h:∀ x ∈ scope.names,x.2 = .free -> ∃ c,env.cells.lookup x.1=some c):closureFor scope env=pure (closOf scope env):=by
 unfold closureFor closOf
 have all:∀ (l:List (Str × NameKind)) (acc:List (Str × Addr)),(∀ x ∈ l,x.2 = .free -> ∃ c,env.cells.lookup x.1=some c) ->
   (forIn l acc fun x r=>(match x with | (name,kind)=>if (kind == .free)=true then do let a ← cellOf env name; pure (ForInStep.yield ((name,a) :: r)) else pure (ForInStep.yield r):Sem (ForInStep (List (Str × Addr))))) =
    pure ((l.filterMap fun x=>if x.2 == .free then (env.cells.lookup x.1).map fun c=>(x.1,c) else none).reverse ++ acc):=by
  intro l
  induction l with
  | nil=>intro acc _; simp
  | cons x r ih =>
   intro acc hx
   obtain ⟨n,k⟩:=x
   have hr:∀ y ∈ r,y.2 = .free -> ∃ c,env.cells.lookup y.1=some c:=fun y hy=>hx y (List.mem_cons_of_mem _ hy)
   by_cases hk:k = .free
   ·subst hk
    obtain ⟨c,hc⟩:=hx (n,.free) List.mem_cons_self rfl
    have e1:cellOf env n=pure c:=by unfold cellOf; rw [show env.cells.lookup n=some c from hc]
    simp only [List.forIn_cons,beq_self_eq_true,if_true,e1,pure_bind,List.filterMap_cons]
    rw [ih _ hr]
    simp [show env.cells.lookup n=some c from hc]
   ·have hb:(k == NameKind.free)=false:=by simpa using hk
    simp only [List.forIn_cons,hb,Bool.false_eq_true,if_false,pure_bind,List.filterMap_cons]
    rw [ih _ hr]
 have:=all scope.names [] h
 rw [List.append_nil] at this
 simp only [bind_pure]
 first | exact this | (rw [this]) | (simpa using this)
theorem mem_clos {scope:Scope}{env:Env}{x:Str}{c:Addr}(h:(closOf scope env).lookup x=some c):env.cells.lookup x=some c:=by
 have m:=PySem.mem_of_lookup h
 unfold closOf at m
 rw [List.mem_reverse,List.mem_filterMap] at m
 obtain ⟨y,hy,e⟩:=m
 split at e
 ·cases q:env.cells.lookup y.1 with
  | none=>rw [q] at e; cases e
  | some d =>
   rw [q] at e
   simp only [Option.map_some,Option.some.injEq,Prod.mk.injEq] at e
   rw [← e.1,q,e.2]
 ·cases e
theorem lookup_mem {α:Type}:∀ {l:List (Str × α)} {x:Str} {c:α},(x,c) ∈ l -> ∃ d,l.lookup x=some d
 | (k,v) :: r,x,c,h=>by
  rw [List.lookup_cons]
  cases hb:x == k with
  | true=>exact ⟨v,rfl⟩
  | false =>
   rcases List.mem_cons.mp h with e | e
   ·injection e with e1 e2
    subst e1
    simp at hb
   ·exact lookup_mem e
theorem clos_has {scope:Scope}{env:Env}{x:Str}{c:Addr}(h:(x,NameKind.free) ∈ scope.names)(hc:env.cells.lookup x=some c):(closOf scope env).lookup x=some c:=by
 have m:(x,c) ∈ closOf scope env:=by
  unfold closOf
  rw [List.mem_reverse,List.mem_filterMap]
  exact ⟨(x,.free),h,by simp [hc]⟩
 obtain ⟨d,hd⟩:=lookup_mem m
 have:=mem_clos hd
 rw [hc] at this
 rw [hd,← this]
theorem relabel_lookup {env:Env}:∀ {names:List (Str × NameKind)} {x:Str} {k:NameKind},
  (names.map fun (n,k)=>if (k == NameKind.free && env.scope.kind == .function && env.kindOf n == some .cell) then (n,NameKind.cell) else (n,k)).lookup x=some k ->
  ∃ k0,names.lookup x=some k0 /\ (k0=k \/ (k0 = .free /\ k = .cell))
 | [],_,_,h=>by simp at h
 | (n,k) :: r,x,k',h=>by
  simp only [List.map_cons] at h
  by_cases hc:(k == NameKind.free && env.scope.kind == .function && env.kindOf n == some .cell)=true
  ·rw [if_pos hc,List.lookup_cons] at h
   rw [List.lookup_cons]
   cases hb:x == n with
   | true =>
    rw [hb] at h
    simp only [Option.some.injEq] at h
    refine ⟨k,rfl,.inr ⟨?_,h.symm⟩⟩
    simp only [Bool.and_eq_true,beq_iff_eq] at hc
    exact hc.1.1
   | false =>
    rw [hb] at h
    exact relabel_lookup h
  ·rw [if_neg hc,List.lookup_cons] at h
   rw [List.lookup_cons]
   cases hb:x == n with
   | true =>
    rw [hb] at h
    simp only [Option.some.injEq] at h
    exact ⟨k,rfl,.inl h⟩
   | false =>
    rw [hb] at h
    exact relabel_lookup h
theorem codeAny_compLoop_gen {prog:Program}{w:World}{A:Around}{R:Result -> Shared -> Prop}{s:Shared}{elt target iter:Expr}{ifs:List Expr}{scope:Scope}{pos:Pos}{it acc:Value}{env:Env}(I:Nat -> Shared -> Prop)
  (turn:∀ n s,I n s -> wpAny (model prog w) A (pyNext it) (fun r s₁=>match r with
   | none=>R (.ok .next) s₁
   | some v=>wpAny (model prog w) A (letOwnedTupleGo target it v) (fun _ s₁'=>wpAny (model prog w) A (assign target env v) (fun _ s₂ =>
     wpAny (model prog w) A (forIn ifs true fun c r=>if r=true then do let ok ← isTrue c env (eval c env); pure (ForInStep.yield ok) else pure (ForInStep.yield r)) (fun ok s₃ =>
      if ok=true then wpAny (model prog w) A (eval elt env) (fun x s₄ =>
       wpAny (model prog w) A (call (.builtin "list.append") [acc,x]) (fun _ s₅=>∃ m,m < n /\ I m s₅) (fun _ _=>False) s₄) (fun _ _=>False) s₃
      else ∃ m,m < n /\ I m s₃) (fun _ _=>False) s₂) (fun _ _=>False) s₁') (fun _ _=>False) s₁) (fun _ _=>False) s)
  (n:Nat) (h:I n s) :
  codeAny (model prog w) A (.compLoop (.ListComp elt [⟨target,iter,ifs,0⟩] scope pos) 0 it acc env) R s:=by
 refine codeAny_loop rfl I (fun n s hI=>?_) n h
 show wpAny _ A ((compTurn (.ListComp elt [⟨target,iter,ifs,0⟩] scope pos) 0 it acc env).onRaise (fun x=>do noteFrame x env; theTreesLotGoes x)) _ _ s
 refine wpAny_noted ?_
 rw [compTurn_list]
 refine wpAny_bind (wpAny_standAt (wpAny_bind (wpAny_mono (turn n s hI) (fun r s₁ h₁=>?_) fun _ _ h'=>h'.elim)))
 cases r with
 | none=>exact wpAny_pure h₁
 | some v =>
  refine wpAny_bind (wpAny_mono h₁ (fun _ s₁' h₁'=>?_) fun _ _ h'=>h'.elim)
  refine wpAny_bind (wpAny_mono h₁' (fun _ s₂ h₂=>wpAny_bind (wpAny_mono h₂ (fun ok s₃ h₃=>?_) fun _ _ h'=>h'.elim)) fun _ _ h'=>h'.elim)
  cases ok with
  | false=>exact wpAny_pure ⟨rfl,h₃⟩
  | true =>
   exact wpAny_bind (wpAny_bind (wpAny_mono h₃ (fun x s₄ h₄=>wpAny_bind (wpAny_mono h₄ (fun _ s₅ h₅=>wpAny_pure (wpAny_pure ⟨rfl,h₅⟩)) fun _ _ h'=>h'.elim)) fun _ _ h'=>h'.elim))
def PN (X:Cx)(ifs:List Expr)(t:TT):Prop :=
 ∀ (pins:List (Addr × Obj)) (s:Shared) (σ:St) (H:Hp) (Q:Bool -> Hp -> Prop),Inv X pins σ H s -> t σ H Q ->
  wpAny (model X.prog X.w) X.A (forIn ifs true fun c r=>if r=true then do let ok ← isTrue c X.env (eval c X.env); pure (ForInStep.yield ok) else pure (ForInStep.yield r)) (TP X pins σ Q) X.xe s
def tYes:TT:=fun _ H Q=>Q true H
section
variable {X:Cx}
theorem pn_nil:PN X [] tYes:=fun _ _ σ H Q I h=>wpAny_pure ⟨H,I,h⟩
end
def compCx (X:Cx)(N:List Str)(scope:Scope)(C:Addr)(s:Shared)(H:Hp)(fp:List Addr):Cx :=
 { X with N:=N,s₀:=s,H₀:=H,env:=compEnvC scope (closOf scope X.env) C X.env,outer:=X.stack,stack:=X.stack,ex:=fp,fn:=fun _=>false,pn:=[],xe:=fun _ _=>False }
structure CompBody (X:Cx) (tg:Expr) (ifs:List Expr) (elt:Expr) (g:TG) (tt:TT) (te:TE):Prop where
 tg:PG X tg g
 tt:PN X ifs tt
 te:PE X elt te
def scB (sc xsc:Scope):Bool:=(sc.kind == .function) && sc.names.all fun x=>(x.2 != .cell) && (x.2 != .local || sc.names.lookup x.1 == some .local) && (x.2 != .free || (xsc.names.lookup x.1 == some .cell) || (xsc.names.lookup x.1 == some .free))
def capB (cs:List Nat)(ns XN:List Str)(sc xsc:Scope):Bool:=(cs.zip ns).all fun p=>(XN[p.1]? == some p.2) && (sc.names.lookup p.2 == some .free) && (xsc.names.lookup p.2 != some .local)
def capSt (nt:Nat)(cs:List Nat)(σ:St):St:=qQ nt none ++ cs.map fun c=>(σ[c]?).join
def tComp (wi:TI)(nt:Nat)(cs:List Nat)(g:TG)(tt:TT)(te:TE):TE:=fun σ H Q=>wi σ H fun J H1=>∀ acc,H1 acc=none ->
 ∃ W:Nat -> Nat -> List V -> St -> Hp -> Prop,(∃ m,W 0 m [] (capSt nt cs σ) (upd H1 acc (.lst []))) /\ ∀ i m ys σ' H',W i m ys σ' H' -> H' acc=some (.lst ys) /\
  ((J.stop i H' /\ Q (.ref acc) H') \/ (J.go i H' /\ ys.length < sizeLine /\ ∃ N:List V -> St -> Hp -> Prop,(∀ zs σ2 H2,N zs σ2 H2 -> ∃ m',m' < m /\ W (i+1) m' zs σ2 H2) /\
   ∀ x H2,J.yld i H' x H2 -> g x σ' H2 fun σ3 H3=>tt σ3 H3 fun b H4=>if b=true then te σ3 H4 fun y H5=>H5 acc=some (.lst ys) /\ N (ys ++ [y]) σ3 (upd H5 acc (.lst (ys ++ [y]))) else N ys σ3 H4))
section
variable {X:Cx}
theorem compCx_inv {pins:List (Addr × Obj)}{σ:St}{H:Hp}{s:Shared}{N:List Str}{scope:Scope}{nt:Nat}{cs:List Nat}{fp:List Addr}{h1:Heap}{tk:Nat}(I:Inv X pins σ H s)
  (hsc:scB scope X.env.scope=true) (hcap:capB cs (N.drop nt) X.N scope X.env.scope=true) (hlen:N.length=nt+cs.length)
  (hf:∀ b ∈ fp,FpOk X pins H b) (hfl:∀ b ∈ fp,b < s.heap.objs.size) (hn:h1.Ns s.heap.objs.size fun _=>none) (hk:∀ b o,s.heap.get? b=some o -> h1.get? b=some o) :
  Inv (compCx X N scope s.heap.objs.size s H fp) [] (capSt nt cs σ) H { s with heap:=h1,toks:=tk }:=by
 unfold scB at hsc
 rw [Bool.and_eq_true] at hsc
 obtain ⟨hkd,hall⟩:=hsc
 have hkd:scope.kind = .function:=by simpa using hkd
 rw [List.all_eq_true] at hall
 have nocell:∀ x ∈ scope.names,x.2 ≠ .cell:=fun x hx e=>by have:=hall x hx; rw [e] at this; simp at this
 have free2:∀ x,(x,NameKind.free) ∈ scope.names -> X.env.kindOf x=some .cell \/ X.env.kindOf x=some .free:=fun x hx=>by
  have:=hall _ hx
  simp only [bne_self_eq_false,Bool.false_or,Bool.and_eq_true,Bool.or_eq_true,beq_iff_eq] at this
  exact this.2
 have kinds:∀ x,((compCx X N scope s.heap.objs.size s H fp).env.kindOf x=some .cell \/ (compCx X N scope s.heap.objs.size s H fp).env.kindOf x=some .free) -> (x,NameKind.free) ∈ scope.names:=fun x hx=>by
  have q:∃ k,(relabel scope X.env).names.lookup x=some k /\ (k = .cell \/ k = .free):=by
   rcases hx with e | e
   ·exact ⟨_,e,.inl rfl⟩
   ·exact ⟨_,e,.inr rfl⟩
  obtain ⟨k,e,hk'⟩:=q
  obtain ⟨k0,e0,r⟩:=relabel_lookup e
  have m:=PySem.mem_of_lookup e0
  rcases r with r | ⟨r,_⟩
  ·subst r
   rcases hk' with z | z
   ·exact absurd z (nocell _ m)
   ·rw [z] at m; exact m
  ·rw [r] at m; exact m
 have cellOf:∀ x c,(closOf scope X.env).lookup x=some c -> X.env.cells.lookup x=some c:=fun x c e=>mem_clos e
 have clt:∀ x c,X.env.cells.lookup x=some c -> c < s.heap.objs.size:=fun x c e=>by
  obtain ⟨v,q⟩:=I.cell x c e
  exact q.lt
 refine ⟨⟨I.ok.mod,?_,I.ok.glob,I.ok.blt,Nat.le_refl _,?_,?_,?_,I.ok.hd,I.ok.frames,.inl rfl,?_,?_,?_,?_,?_,?_,?_⟩,rfl,I.bare,Un.kept hk,⟨_,hn,?_⟩,?_,?_,?_,?_,I.hok.kept hk,?_⟩
 ·show (relabel scope X.env).kind=_
  exact hkd
 ·intro x y c e1 e2
  exact I.ok.inj x y c (cellOf x c e1) (cellOf y c e2)
 ·intro x hx
  have m:=kinds x hx
  obtain ⟨c,hc⟩:=I.ok.has x (free2 x m)
  exact ⟨c,clos_has m hc⟩
 ·intro x c z
  cases z
 ·intro b hb
  obtain ⟨f0,f1,f2,f3,f4,f5⟩:=hf b hb
  exact ⟨Nat.ne_of_lt (hfl b hb),fun x c e=>f4 x c (cellOf x c e)⟩
 ·intro b o e
  exact I.bs b o e
 ·exact Nat.le_trans I.ok.bsz I.sz
 ·intro b o e hb
  obtain ⟨f0,f1,f2,f3,f4,f5⟩:=hf b hb
  rcases f3 with z | z
  ·exact I.ok.noex b o e z
  ·exact absurd (qJ (Heap.lt_size (I.ok.bs b o e).1) z) (Nat.lt_irrefl _)
 ·intro b hb hs
  obtain ⟨f0,f1,f2,f3,f4,f5⟩:=hf b hb
  rcases List.mem_cons.mp (I.stkSub b hs) with z | z
  ·exact f1 z
  ·exact f2 z
 ·exact I.stack
 ·exact I.stkFree
 ·intro i x v e1 e2 _
  have hi:nt <= i:=by
   refine Nat.le_of_not_lt fun z=>?_
   unfold capSt at e2
   rw [qH (by simpa using z),List.getElem?_replicate,if_pos z] at e2
   cases e2
  unfold capSt at e2
  rw [qG (by simpa using hi),qL,qI] at e2
  cases q:cs[i - nt]? with
  | none=>rw [q] at e2; cases e2
  | some c =>
   rw [q] at e2
   simp only [Option.map_some,Option.some.injEq] at e2
   have e3:σ[c]? = some (some v):=by
    cases z:σ[c]? with
    | none=>rw [z] at e2; cases e2
    | some o=>rw [z] at e2; exact congrArg some e2
   unfold capB at hcap
   rw [List.all_eq_true] at hcap
   have e4:(N.drop nt)[i - nt]? = some x:=by
    rw [List.getElem?_drop,show nt+(i - nt)=i by omega]
    exact e1
   have m:(c,x) ∈ cs.zip (N.drop nt):=by
    have:(cs.zip (N.drop nt))[i - nt]? = some (c,x):=by rw [List.getElem?_zip_eq_some]; exact ⟨q,e4⟩
    exact qE this
   have hm:=hcap _ m
   simp only [Bool.and_eq_true,beq_iff_eq,bne_iff_ne,ne_eq] at hm
   obtain ⟨⟨h1',h2'⟩,h3'⟩:=hm
   have hlk:scope.names.lookup x=some .free:=h2'
   have h2':(x,NameKind.free) ∈ scope.names:=PySem.mem_of_lookup hlk
   obtain ⟨mm,hmm,hl⟩:=I.loc
   have vis:Vis X.env.scope x:=.inr (free2 x h2')
   obtain ⟨u,r,l⟩:=hl c x v h1' e3 vis
   rcases l with ⟨z,_⟩ | ⟨z,d,hd,hcell⟩
   ·exact absurd z h3'
   ·refine ⟨u,r,.inr ⟨?_,d,clos_has h2' hd,?_⟩⟩
    ·-- its kind in the block
     have isf:∃ k,(relabel scope X.env).names.lookup x=some k:=by
      have:∃ k',(x,k') ∈ (relabel scope X.env).names:=by
       unfold relabel
       by_cases cc:(X.env.scope.kind == .function && X.env.kindOf x == some .cell)=true
       ·refine ⟨.cell,qP.mpr ⟨(x,.free),h2',?_⟩⟩
        simp only [Bool.and_eq_true] at cc
        simp [cc.1,cc.2]
       ·refine ⟨.free,qP.mpr ⟨(x,.free),h2',?_⟩⟩
        simp only [Bool.and_eq_true] at cc
        have cc':¬ ((NameKind.free == NameKind.free && X.env.scope.kind == .function && X.env.kindOf x == some .cell)=true):=by
         simp only [beq_self_eq_true,Bool.true_and,Bool.and_eq_true]
         exact cc
        show (if (NameKind.free == NameKind.free && X.env.scope.kind == .function && X.env.kindOf x == some .cell)=true then (x,NameKind.cell) else (x,NameKind.free))=(x,NameKind.free)
        rw [if_neg cc']
      obtain ⟨k',hk'⟩:=this
      exact lookup_mem hk'
     obtain ⟨k,ek⟩:=isf
     obtain ⟨k0,e0,rr⟩:=relabel_lookup ek
     rcases rr with rr | ⟨_,rr⟩
     ·subst rr
      rw [hlk] at e0
      cases e0
      exact .inr ek
     ·subst rr
      exact .inl ek
    ·obtain ⟨o,ho,hd'⟩:=hcell
     exact ⟨o,hk _ _ ho,hd'⟩
 ·intro x c e
  obtain ⟨v,o,ho,hd⟩:=I.cell x c (cellOf x c e)
  exact ⟨v,o,hk _ _ ho,hd⟩
 ·exact I.hok.fresh (Nat.le_refl _)
 ·intro x c e
  exact I.freeC x c (cellOf x c e)
 ·intro p hp
  cases hp
 ·show (capSt nt cs σ).length=N.length
  unfold capSt
  rw [qF,qL,qC,hlen]
theorem un_same {fs ex:List Addr}{H H':Hp}{h h1 h':Heap}{C:Addr}(u:Un fs ex H H' h h1)(hs:Heap.SameBut C h1 h')(hC:h.objs.size <= C):Un fs ex H H' h h' where
 keep:=fun b o e n hb hx=>(hs.2 b (Nat.ne_of_lt (qJ (Heap.lt_size e) hC))).trans (u.keep b o e n hb hx)
 slot:=fun b o e n hb hx=>by
  obtain ⟨sl,q⟩:=u.slot b o e n hb hx
  exact ⟨sl,(hs.2 b (Nat.ne_of_lt (qJ (Heap.lt_size e) hC))).trans q⟩
 free:=u.free
 there:=fun b o e hx=>by
  obtain ⟨o',q⟩:=u.there b o e hx
  exact ⟨o',(hs.2 b (Nat.ne_of_lt (qJ (Heap.lt_size e) hC))).trans q⟩
 tups:=u.tups
 frzs:=u.frzs
 tbls:=u.tbls
theorem hok_same {P:Program}{w:World}{H:Hp}{h h':Heap}{C:Addr}(x:HOk P w H h)(hs:Heap.SameBut C h h')(hC:H C=none):HOk P w H h':=fun b u e =>
 (x b u e).stay (fun c v hc q=>(hs.2 c (fun z=>by
  subst z
  rcases hc with z | z
  ·subst z; rw [hC] at e; cases e
  ·rw [hC] at z; cases z)).trans q) (fun _ q=>q) fun _ _ q=>q
theorem pe_comp0 {tg iter elt:Expr}{ifs:List Expr}{scope:Scope}{pos:Pos}{wi:TI}{N:List Str}{nt:Nat}{cs:List Nat}{g:TG}{tt:TT}{te:TE}(hc:X.calm=true)(hi:PI X tg iter wi)
  (hb:N.Nodup -> ∀ (C:Addr) (s:Shared) (H:Hp) (fp:List Addr),CompBody (compCx X N scope C s H fp) tg ifs elt g tt te)
  (hnd:N.Nodup) (hsc:scB scope X.env.scope=true) (hcap:capB cs (N.drop nt) X.N scope X.env.scope=true) (hlen:N.length=nt+cs.length)
  (hs:∀ x,foldedSetIterable iter X.env x=pure x):PE X (.ListComp elt [⟨tg,iter,ifs,0⟩] scope pos) (tComp wi nt cs g tt te):=by
 intro pins s σ H Q I h
 have hsc':=hsc
 unfold scB at hsc'
 rw [Bool.and_eq_true] at hsc'
 obtain ⟨hkd,hall⟩:=hsc'
 have hkd:scope.kind = .function:=by simpa using hkd
 rw [List.all_eq_true] at hall
 have nocell:∀ x ∈ scope.names,x.2 ≠ .cell:=fun x hx e=>by have:=hall x hx; rw [e] at this; simp at this
 have hnames:∀ x ∈ scope.names,x.2 = .local -> scope.names.lookup x.1=some .local:=fun x hx e=>by
  have:=hall x hx
  rw [e] at this
  simp only [bne_self_eq_false,Bool.false_or,Bool.and_eq_true,beq_iff_eq] at this
  exact this.1.2
 have hclos:closureFor scope X.env=pure (closOf scope X.env):=closureFor_ok fun x hx e=>by
  have:=hall x hx
  rw [e] at this
  simp only [bne_self_eq_false,Bool.false_or,Bool.and_eq_true,Bool.or_eq_true,beq_iff_eq] at this
  exact I.ok.has x.1 this.2
 rw [eval_ListComp]
 refine wpAny_comprehension_free (use:=none) rfl hs hclos hkd hnames (thn (hi pins s σ H _ I h) fun v s1 h1=>thn h1 fun itv s2 h2=>?_)
 obtain ⟨it,fp,tn,J,H2,e,I2,T,st2,f2,hR⟩:=h2
 subst e
 refine wpAny_newObj_type (wpAny_newFunctionEnv nocell (by intro y hy; simp at hy) (fun h3 hn3 hs3=>?_) hkd)
 have fr:=I2.fresh
 have I3:Inv X pins σ (upd H2 s2.heap.objs.size (.lst [])) { s2 with heap:=s2.heap.push { cls:=.type "list",data:=.seq ([]:List Value).toArray },toks:=s2.toks }:=I2.lnew .nil (le_size (by decide))
 obtain ⟨W,⟨m0,w0⟩,turn⟩:=hR _ fr
 generalize hacc:s2.heap.objs.size=acc at *
 generalize hsx:({ s2 with heap:=s2.heap.push { cls:=.type "list",data:=.seq ([]:List Value).toArray },toks:=s2.toks }:Shared)=sx at *
 have hC:sx.heap.objs.size=acc+1:=by rw [← hsx,← hacc]; exact Heap.size_push _ _
 have fpl:∀ b ∈ fp,b < acc:=fun b hb=>by
  obtain ⟨o,ho,_⟩:=T.obj _ _ st2 b hb
  rw [← hacc]
  exact Heap.lt_size ho
 have f3:∀ b ∈ fp,FpOk X pins (upd H2 acc (.lst [])) b:=fun b hb=>by
  obtain ⟨f0,f1⟩:=f2 b hb
  exact ⟨by rw [upd_ne (Nat.ne_of_lt (fpl b hb))]; exact f0,f1⟩
 have keep3:∀ b o,sx.heap.get? b=some o -> h3.get? b=some o:=fun b o e=>by
  have hne:b ≠ sx.heap.objs.size:=Nat.ne_of_lt (Heap.lt_size e)
  exact (hs3.2 b hne).trans (Heap.get?_push_of_some _ e)
 have IC:Inv (compCx X N scope sx.heap.objs.size sx (upd H2 acc (.lst [])) fp) [] (capSt nt cs σ) (upd H2 acc (.lst [])) { sx with heap:=h3,toks:=sx.toks+([]:List (Str × Value)).length } :=
  compCx_inv I3 hsc hcap hlen f3 (fun b hb=>by rw [hC]; exact Nat.lt_succ_of_lt (fpl b hb)) (by simpa using hn3) keep3
 have hn3':H2 acc=none:=fr
 generalize hXC:compCx X N scope sx.heap.objs.size sx (upd H2 acc (.lst [])) fp=XC at IC
 have ctxP:XC.prog=X.prog:=by rw [← hXC]; rfl
 have ctxW:XC.w=X.w:=by rw [← hXC]; rfl
 have ctxK:XC.K=X.K:=by rw [← hXC]; rfl
 have ctxA:XC.A=X.A:=by rw [← hXC]; rfl
 have ctxC:XC.calm=true:=by rw [← hXC]; exact hc
 have ctxX:XC.xe=fun _ _=>False:=by rw [← hXC]; rfl
 have ctxE:XC.env=compEnvC scope (closOf scope X.env) sx.heap.objs.size X.env:=by rw [← hXC]; rfl
 have body:CompBody XC tg ifs elt g tt te:=by rw [← hXC]; exact hb hnd _ _ _ _
 have st3:tn 0 h3:=T.keep _ _ _ st2 fun b hb o e=>keep3 b o (by rw [← hsx]; exact Heap.get?_push_of_some _ e)
 have stat:∀ {H':Hp},(∀ b ∈ fp,H' b=none) -> ∀ b ∈ fp,FpOk XC [] H' b:=fun hn b hb=>by
  obtain ⟨f0,f1,f2',f3',f4,f5⟩:=f3 b hb
  refine ⟨hn b hb,?_,?_,.inl (by rw [← hXC]; exact hb),fun x c e=>?_,fun p hp=>?_⟩
  ·rw [ctxE]
   exact Nat.ne_of_lt (by rw [hC]; exact Nat.lt_succ_of_lt (fpl b hb))
  ·rw [← hXC]
   intro z
   rcases List.mem_cons.mp (I3.stkSub b z) with z | z
   ·exact f1 z
   ·exact f2' z
  ·rw [ctxE] at e
   exact f4 x c (mem_clos e)
  ·rw [← hXC] at hp
   cases hp
 have fin:∀ {σ':St} {H':Hp} {s':Shared},Inv XC [] σ' H' s' -> Q (.ref acc) H' -> compPost (model X.prog X.w) X.A X.xe none (EP X pins σ Q) (.ref acc) sx.heap.objs.size (.ok .next) s':=by
  intro σ' H' s' J' q
  obtain ⟨m,hm,_⟩:=J'.loc
  have hfree:=J'.free
  rw [ctxE] at hm hfree
  refine ⟨m,hm,fun h' hs'=>⟨.ref acc,H',?_,rfl,q⟩⟩
  have u:=J'.base
  rw [← hXC] at u
  have ok:=J'.hok
  rw [ctxP,ctxW] at ok
  have os:=J'.os
  rw [← hXC] at os
  refine I3.call' (s':={ s' with heap:=h' }) os (un_same u hs' (Nat.le_refl _)) (hok_same ok hs' hfree) J'.bare fun b hb=>?_
  obtain ⟨f0,f1,f2',f3',f4,f5⟩:=f3 b hb
  exact ⟨f3',f1,f4,f5⟩
 have loop:codeAny (model X.prog X.w) X.A (.compLoop (.ListComp elt [⟨tg,iter,ifs,0⟩] scope pos) 0 (.ref it) (.ref acc) XC.env) (compPost (model X.prog X.w) X.A X.xe none (EP X pins σ Q) (.ref acc) sx.heap.objs.size)
   { sx with heap:=h3,toks:=sx.toks+([]:List (Str × Value)).length }:=by
  rw [← ctxP,← ctxW,← ctxA]
  refine codeAny_compLoop_gen (fun n s'=>∃ i ys σ' H',Inv XC [] σ' H' s' /\ tn i s'.heap /\ (∀ b ∈ fp,H' b=none) /\ W i n ys σ' H') ?_ m0 ⟨0,[],_,_,IC,st3,fun b hb=>(f3 b hb).1,w0⟩
  rintro n s3 ⟨i,ys,σ3,H3,I3',st3',fr3,w3⟩
  have T':=T
  rw [← ctxP,← ctxW,← ctxK] at T'
  obtain ⟨hacc3,alt⟩:=turn i n ys σ3 H3 w3
  rcases alt with ⟨stop,qn⟩ | ⟨go,hsz,NN,hNN,step⟩
  ·refine thn (T'.done XC rfl rfl rfl ctxC i [] s3 σ3 H3 _ I3' (stat fr3) st3' stop) fun r s4 ⟨hr,I4⟩=>?_
   subst hr
   rw [ctxP,ctxW,ctxA]
   exact fin I4 qn
  ·refine thn (T'.item XC rfl rfl rfl ctxC i [] s3 σ3 H3 _ I3' (stat fr3) st3' go) fun r s4 ⟨u,hr,h4⟩=>?_
   subst hr
   refine thn h4 fun _ s5 ⟨x,H5,I5,r5,y5,st5,fr5⟩=>?_
   have I5':=I5.pinned (stat fr5) (T'.obj _ _ st5)
   have a1:=body.tg _ s5 σ3 H5 x u _ I5' r5 (step x H5 y5)
   rw [ctxX] at a1
   refine thn a1 fun _ s6 ⟨σ6,H6,I6,q6⟩=>?_
   have a2:=body.tt _ s6 σ6 H6 _ I6 q6
   rw [ctxX] at a2
   refine thn a2 fun b s7 ⟨H7,I7,q7⟩=>?_
   have again:∀ {s8:Shared} {σ7:St} {H7:Hp} {zs:List V},Inv XC ([] ++ pinsAt fp s5.heap) σ7 H7 s8 -> NN zs σ7 H7 -> ∃ m,m < n /\ ∃ i ys σ' H',Inv XC [] σ' H' s8 /\ tn i s8.heap /\ (∀ b ∈ fp,H' b=none) /\ W i m ys σ' H':=fun {s8 σ7 H7 zs} I7 n7=>by
    obtain ⟨m',hm,w7⟩:=hNN zs σ7 H7 n7
    refine ⟨m',hm,i+1,zs,σ7,H7,I7.unpinned,T'.keep _ _ _ st5 fun b hb o e=>(I7.pin (b,o) (qK _ (qK _ (mem_pinsAt hb e)))).1,fun b hb=>?_,w7⟩
    obtain ⟨o,e,d⟩:=T'.obj _ _ st5 b hb
    exact (I7.pin (b,o) (qK _ (qK _ (mem_pinsAt hb e)))).2.1
   cases b with
   | false =>
    rw [if_neg Bool.false_ne_true] at q7 ⊢
    exact again I7 q7
   | true =>
    rw [if_pos rfl] at q7 ⊢
    have a3:=body.te _ s7 σ6 H7 _ I7 q7
    rw [ctxX] at a3
    refine thn a3 fun xv s8 ⟨y,H8,I8,r8,q8⟩=>?_
    obtain ⟨hl8,n8⟩:=q8
    have a4:=mt_append (X:=XC) _ s8 σ6 H8 (.ref acc) [y] (.ref acc) [xv] (fun _ H9=>NN (ys ++ [y]) σ6 H9) I8 rfl (.cons r8 .nil) ⟨acc,ys,y,rfl,rfl,hl8,hsz,n8⟩
    rw [ctxX] at a4
    refine thn a4 fun _ s9 ⟨_,H9,I9,_,q9⟩=>?_
    exact again I9 q9
 rw [ctxE] at loop
 exact codeAny_compStart_list loop (T.self X.A 0 _ _ _ st3 loop)
theorem ps_setComp0 {y:Str}{py spos:Pos}{ix:Nat}{tg iter elt:Expr}{ifs:List Expr}{scope:Scope}{pos:Pos}{wi:TI}{N:List Str}{nt:Nat}{cs:List Nat}{g:TG}{tt:TT}{te:TE}(hc:X.calm=true)(hi:PI X tg iter wi)
  (hb:N.Nodup -> ∀ (C:Addr) (s:Shared) (H:Hp) (fp:List Addr),CompBody (compCx X N scope C s H fp) tg ifs elt g tt te)
  (hnd:N.Nodup) (hsc:scB scope X.env.scope=true) (hcap:capB cs (N.drop nt) X.N scope X.env.scope=true) (hlen:N.length=nt+cs.length)
  (hs:∀ x,foldedSetIterable iter X.env x=pure x) (hN:X.N.Nodup) (hix:X.N[ix]? = some y) (hy:Loc X.env.scope y) (hf:X.fn y=true \/ X.env.scope.names.lookup y=some .local)
  (hsw:swapsWith (.ListComp elt [⟨tg,iter,ifs,0⟩] scope pos) (some (.Name y py)) spos.line X.env=pure true):PS X (.Assign [.Name y py] (.ListComp elt [⟨tg,iter,ifs,0⟩] scope pos) spos) (tAsg (tComp wi nt cs g tt te) (gName ix)):=by
 intro pins s σ H D I h
 have hsc':=hsc
 unfold scB at hsc'
 rw [Bool.and_eq_true] at hsc'
 obtain ⟨hkd,hall⟩:=hsc'
 have hkd:scope.kind = .function:=by simpa using hkd
 rw [List.all_eq_true] at hall
 have nocell:∀ x ∈ scope.names,x.2 ≠ .cell:=fun x hx e=>by have:=hall x hx; rw [e] at this; simp at this
 have hnames:∀ x ∈ scope.names,x.2 = .local -> scope.names.lookup x.1=some .local:=fun x hx e=>by
  have:=hall x hx
  rw [e] at this
  simp only [bne_self_eq_false,Bool.false_or,Bool.and_eq_true,beq_iff_eq] at this
  exact this.1.2
 have hclos:closureFor scope X.env=pure (closOf scope X.env):=closureFor_ok fun x hx e=>by
  have:=hall x hx
  rw [e] at this
  simp only [bne_self_eq_false,Bool.false_or,Bool.and_eq_true,Bool.or_eq_true,beq_iff_eq] at this
  exact I.ok.has x.1 this.2
 rw [exec_Assign_Name_used _ _ _ _ hsw]
 refine wpAny_bind (wpAny_standAt (wpAny_bind ?_))
 show wpAny _ X.A (do let _ ← comprehension (.ListComp elt [⟨tg,iter,ifs,0⟩] scope pos) scope X.env _ (newList []) false (eval iter X.env) (some (assign (.Name y py) X.env))) _ _ s
 refine wpAny_bind (wpAny_mono (wpAny_comprehension_free (use:=some (assign (.Name y py) X.env)) (Q:=fun _ s'=>SP X pins D .next s') rfl hs hclos hkd hnames
  (thn (hi pins s σ H _ I h) fun v s1 h1=>thn h1 fun itv s2 h2=>?_)) (fun _ s' hq=>wpAny_pure (wpAny_pure hq)) fun _ _ e=>e)
 obtain ⟨it,fp,tn,J,H2,e,I2,T,st2,f2,hR⟩:=h2
 subst e
 refine wpAny_newObj_type (wpAny_newFunctionEnv nocell (by intro y hy; simp at hy) (fun h3 hn3 hs3=>?_) hkd)
 have fr:=I2.fresh
 have I3:Inv X pins σ (upd H2 s2.heap.objs.size (.lst [])) { s2 with heap:=s2.heap.push { cls:=.type "list",data:=.seq ([]:List Value).toArray },toks:=s2.toks }:=I2.lnew .nil (le_size (by decide))
 obtain ⟨W,⟨m0,w0⟩,turn⟩:=hR _ fr
 generalize hacc:s2.heap.objs.size=acc at *
 generalize hsx:({ s2 with heap:=s2.heap.push { cls:=.type "list",data:=.seq ([]:List Value).toArray },toks:=s2.toks }:Shared)=sx at *
 have hC:sx.heap.objs.size=acc+1:=by rw [← hsx,← hacc]; exact Heap.size_push _ _
 have fpl:∀ b ∈ fp,b < acc:=fun b hb=>by
  obtain ⟨o,ho,_⟩:=T.obj _ _ st2 b hb
  rw [← hacc]
  exact Heap.lt_size ho
 have f3:∀ b ∈ fp,FpOk X pins (upd H2 acc (.lst [])) b:=fun b hb=>by
  obtain ⟨f0,f1⟩:=f2 b hb
  exact ⟨by rw [upd_ne (Nat.ne_of_lt (fpl b hb))]; exact f0,f1⟩
 have keep3:∀ b o,sx.heap.get? b=some o -> h3.get? b=some o:=fun b o e=>by
  have hne:b ≠ sx.heap.objs.size:=Nat.ne_of_lt (Heap.lt_size e)
  exact (hs3.2 b hne).trans (Heap.get?_push_of_some _ e)
 have IC:Inv (compCx X N scope sx.heap.objs.size sx (upd H2 acc (.lst [])) fp) [] (capSt nt cs σ) (upd H2 acc (.lst [])) { sx with heap:=h3,toks:=sx.toks+([]:List (Str × Value)).length } :=
  compCx_inv I3 hsc hcap hlen f3 (fun b hb=>by rw [hC]; exact Nat.lt_succ_of_lt (fpl b hb)) (by simpa using hn3) keep3
 have hn3':H2 acc=none:=fr
 generalize hXC:compCx X N scope sx.heap.objs.size sx (upd H2 acc (.lst [])) fp=XC at IC
 have ctxP:XC.prog=X.prog:=by rw [← hXC]; rfl
 have ctxW:XC.w=X.w:=by rw [← hXC]; rfl
 have ctxK:XC.K=X.K:=by rw [← hXC]; rfl
 have ctxA:XC.A=X.A:=by rw [← hXC]; rfl
 have ctxC:XC.calm=true:=by rw [← hXC]; exact hc
 have ctxX:XC.xe=fun _ _=>False:=by rw [← hXC]; rfl
 have ctxE:XC.env=compEnvC scope (closOf scope X.env) sx.heap.objs.size X.env:=by rw [← hXC]; rfl
 have body:CompBody XC tg ifs elt g tt te:=by rw [← hXC]; exact hb hnd _ _ _ _
 have st3:tn 0 h3:=T.keep _ _ _ st2 fun b hb o e=>keep3 b o (by rw [← hsx]; exact Heap.get?_push_of_some _ e)
 have stat:∀ {H':Hp},(∀ b ∈ fp,H' b=none) -> ∀ b ∈ fp,FpOk XC [] H' b:=fun hn b hb=>by
  obtain ⟨f0,f1,f2',f3',f4,f5⟩:=f3 b hb
  refine ⟨hn b hb,?_,?_,.inl (by rw [← hXC]; exact hb),fun x c e=>?_,fun p hp=>?_⟩
  ·rw [ctxE]
   exact Nat.ne_of_lt (by rw [hC]; exact Nat.lt_succ_of_lt (fpl b hb))
  ·rw [← hXC]
   intro z
   rcases List.mem_cons.mp (I3.stkSub b z) with z | z
   ·exact f1 z
   ·exact f2' z
  ·rw [ctxE] at e
   exact f4 x c (mem_clos e)
  ·rw [← hXC] at hp
   cases hp
 have fin:∀ {σ':St} {H':Hp} {s':Shared},Inv XC [] σ' H' s' -> D.nx (σ.set ix (some (.ref acc))) H' -> compPost (model X.prog X.w) X.A X.xe (some (assign (.Name y py) X.env)) (fun _ s'=>SP X pins D .next s') (.ref acc) sx.heap.objs.size (.ok .next) s':=by
  intro σ' H' s' J' q
  obtain ⟨m,hm,_⟩:=J'.loc
  have hfree:=J'.free
  rw [ctxE] at hm hfree
  have u:=J'.base
  rw [← hXC] at u
  have ok:=J'.hok
  rw [ctxP,ctxW] at ok
  have os:=J'.os
  rw [← hXC] at os
  have IX:Inv X pins σ H' s':=I3.call' os u ok J'.bare fun b hb=>by
   obtain ⟨f0,f1,f2',f3',f4,f5⟩:=f3 b hb
   exact ⟨f3',f1,f4,f5⟩
  have hCL:sx.heap.objs.size ≠ X.env.locals:=Nat.ne_of_gt I3.lt
  have hCc:∀ x c,X.env.cells.lookup x=some c -> c ≠ sx.heap.objs.size:=fun x c e=>by
   obtain ⟨v,z⟩:=I3.cell x c e
   exact Nat.ne_of_lt z.lt
  have hCp:∀ p ∈ X.pn ++ pins,p.1 ≠ sx.heap.objs.size:=fun p hp=>Nat.ne_of_lt (Heap.lt_size (I3.pin p hp).1)
  show wpAny _ X.A (assign (.Name y py) X.env (.ref acc)) _ _ s'
  refine wpAny_assign_Name (store_ok2 IX hN hix hy (v:=.ref acc) rfl (fun s'' I'' ⟨a,hsb,ha⟩=>?_) hf)
  have hCa:sx.heap.objs.size ≠ a:=fun z=>by
   rcases ha with e | e
   ·exact hCL (z.trans e)
   ·exact hCc _ _ e z.symm
  refine ⟨m,hm.sameBut hsb hCa,fun h' hs'=>⟨_,H',?_,q⟩⟩
  exact I''.turned (t':=s''.toks) (fun b o hb e=>(hs'.2 b hb).trans e) hfree hCL (.inr I3.sz) hCc hCp
 have loop:codeAny (model X.prog X.w) X.A (.compLoop (.ListComp elt [⟨tg,iter,ifs,0⟩] scope pos) 0 (.ref it) (.ref acc) XC.env) (compPost (model X.prog X.w) X.A X.xe (some (assign (.Name y py) X.env)) (fun _ s'=>SP X pins D .next s') (.ref acc) sx.heap.objs.size)
   { sx with heap:=h3,toks:=sx.toks+([]:List (Str × Value)).length }:=by
  rw [← ctxP,← ctxW,← ctxA]
  refine codeAny_compLoop_gen (fun n s'=>∃ i ys σ' H',Inv XC [] σ' H' s' /\ tn i s'.heap /\ (∀ b ∈ fp,H' b=none) /\ W i n ys σ' H') ?_ m0 ⟨0,[],_,_,IC,st3,fun b hb=>(f3 b hb).1,w0⟩
  rintro n s3 ⟨i,ys,σ3,H3,I3',st3',fr3,w3⟩
  have T':=T
  rw [← ctxP,← ctxW,← ctxK] at T'
  obtain ⟨hacc3,alt⟩:=turn i n ys σ3 H3 w3
  rcases alt with ⟨stop,qn⟩ | ⟨go,hsz,NN,hNN,step⟩
  ·refine thn (T'.done XC rfl rfl rfl ctxC i [] s3 σ3 H3 _ I3' (stat fr3) st3' stop) fun r s4 ⟨hr,I4⟩=>?_
   subst hr
   rw [ctxP,ctxW,ctxA]
   exact fin I4 qn
  ·refine thn (T'.item XC rfl rfl rfl ctxC i [] s3 σ3 H3 _ I3' (stat fr3) st3' go) fun r s4 ⟨u,hr,h4⟩=>?_
   subst hr
   refine thn h4 fun _ s5 ⟨x,H5,I5,r5,y5,st5,fr5⟩=>?_
   have I5':=I5.pinned (stat fr5) (T'.obj _ _ st5)
   have a1:=body.tg _ s5 σ3 H5 x u _ I5' r5 (step x H5 y5)
   rw [ctxX] at a1
   refine thn a1 fun _ s6 ⟨σ6,H6,I6,q6⟩=>?_
   have a2:=body.tt _ s6 σ6 H6 _ I6 q6
   rw [ctxX] at a2
   refine thn a2 fun b s7 ⟨H7,I7,q7⟩=>?_
   have again:∀ {s8:Shared} {σ7:St} {H7:Hp} {zs:List V},Inv XC ([] ++ pinsAt fp s5.heap) σ7 H7 s8 -> NN zs σ7 H7 -> ∃ m,m < n /\ ∃ i ys σ' H',Inv XC [] σ' H' s8 /\ tn i s8.heap /\ (∀ b ∈ fp,H' b=none) /\ W i m ys σ' H':=fun {s8 σ7 H7 zs} I7 n7=>by
    obtain ⟨m',hm,w7⟩:=hNN zs σ7 H7 n7
    refine ⟨m',hm,i+1,zs,σ7,H7,I7.unpinned,T'.keep _ _ _ st5 fun b hb o e=>(I7.pin (b,o) (qK _ (qK _ (mem_pinsAt hb e)))).1,fun b hb=>?_,w7⟩
    obtain ⟨o,e,d⟩:=T'.obj _ _ st5 b hb
    exact (I7.pin (b,o) (qK _ (qK _ (mem_pinsAt hb e)))).2.1
   cases b with
   | false =>
    rw [if_neg Bool.false_ne_true] at q7 ⊢
    exact again I7 q7
   | true =>
    rw [if_pos rfl] at q7 ⊢
    have a3:=body.te _ s7 σ6 H7 _ I7 q7
    rw [ctxX] at a3
    refine thn a3 fun xv s8 ⟨y,H8,I8,r8,q8⟩=>?_
    obtain ⟨hl8,n8⟩:=q8
    have a4:=mt_append (X:=XC) _ s8 σ6 H8 (.ref acc) [y] (.ref acc) [xv] (fun _ H9=>NN (ys ++ [y]) σ6 H9) I8 rfl (.cons r8 .nil) ⟨acc,ys,y,rfl,rfl,hl8,hsz,n8⟩
    rw [ctxX] at a4
    refine thn a4 fun _ s9 ⟨_,H9,I9,_,q9⟩=>?_
    exact again I9 q9
 rw [ctxE] at loop
 exact codeAny_compStart_list loop (T.self X.A 0 _ _ _ st3 loop)
end
end L2
set_option Elab.async false
set_option linter.all false
set_option maxRecDepth 100000
set_option maxHeartbeats 1000000
namespace L2
open PySem PySem.Spec PyProof.Rows
inductive Dt where
 | f (x:V)
 | l (xs:List Dt)
 | t (xs:List Dt)
mutual
def Is (K:PySem.W.Frag)(H:Hp)(x:V):Dt -> Prop
 | .f y=>x=y /\ flatV y=true
 | .l ds=>∃ p xs,x = .ref p /\ SqL K H p xs /\ IsL K H xs ds
 | .t ds=>∃ p xs,x = .ref p /\ SqT K H p xs /\ IsL K H xs ds
def IsL (K:PySem.W.Frag)(H:Hp)(xs:List V):List Dt -> Prop
 | []=>xs=[]
 | d :: ds=>∃ x r,xs=x :: r /\ Is K H x d /\ IsL K H r ds
end
mutual
def deq:Dt -> Dt -> Bool
 | .f x,.f y=>eqV x y
 | .l xs,.l ys=>deqL xs ys
 | .t xs,.t ys=>deqL xs ys
 | _,_=>false
def deqL:List Dt -> List Dt -> Bool
 | [],[]=>true
 | x :: xs,y :: ys=>deq x y && deqL xs ys
 | _,_=>false
end
mutual
def dep:Dt -> Nat
 | .f _=>0
 | .l xs=>depL xs+1
 | .t xs=>depL xs+1
def depL:List Dt -> Nat
 | []=>0
 | d :: ds=>max (dep d) (depL ds)
end
theorem IsL.len {K:PySem.W.Frag}{H:Hp}:∀ {ds:List Dt} {xs:List V},IsL K H xs ds -> xs.length=ds.length
 | [],xs,h=>by rw [IsL] at h; subst h; rfl
 | d :: ds,xs,h=>by
  rw [IsL] at h
  obtain ⟨x,r,rfl,_,h⟩:=h
  rw [List.length_cons,List.length_cons,IsL.len h]
theorem IsL.get {K:PySem.W.Frag}{H:Hp}:∀ {ds:List Dt} {xs:List V} {j:Nat} {x:V},IsL K H xs ds -> xs[j]? = some x -> ∃ d,ds[j]? = some d /\ Is K H x d
 | [],xs,j,x,h,e=>by rw [IsL] at h; subst h; simp at e
 | d :: ds,xs,j,x,h,e=>by
  rw [IsL] at h
  obtain ⟨y,r,rfl,hy,h⟩:=h
  cases j with
  | zero=>simp at e; subst e; exact ⟨d,rfl,hy⟩
  | succ j=>exact IsL.get (j:=j) h (by simpa using e)
theorem depL_mem {ds:List Dt}:∀ {d:Dt} {j:Nat},ds[j]? = some d -> dep d <= depL ds:=by
 induction ds with
 | nil=>intro d j e; simp at e
 | cons a r ih =>
  intro d j e
  rw [depL]
  cases j with
  | zero=>simp at e; subst e; omega
  | succ j=>have:=ih (d:=d) (j:=j) (by simpa using e); omega
mutual
theorem deq_refl:∀ (d:Dt) {K:PySem.W.Frag} {H:Hp} {x:V},Is K H x d -> deq d d=true
 | .f y,K,H,x,h=>by
  rw [Is] at h
  rw [deq]
  have hy:=h.2
  cases y <;> first | (simp [eqV]; done) | (exact absurd hy (by decide)) | (cases hy)
 | .l ds,K,H,x,h=>by
  rw [Is] at h
  obtain ⟨p,xs,_,_,h⟩:=h
  rw [deq]
  exact deqL_refl ds h
 | .t ds,K,H,x,h=>by
  rw [Is] at h
  obtain ⟨p,xs,_,_,h⟩:=h
  rw [deq]
  exact deqL_refl ds h
theorem deqL_refl:∀ (ds:List Dt) {K:PySem.W.Frag} {H:Hp} {xs:List V},IsL K H xs ds -> deqL ds ds=true
 | [],_,_,_,_=>by rw [deqL]
 | d :: ds,K,H,xs,h=>by
  rw [IsL] at h
  obtain ⟨y,r,_,hy,h⟩:=h
  rw [deqL,deq_refl d hy,deqL_refl ds h]
  rfl
end
theorem deqL_get:∀ {ds es:List Dt},deqL ds es=(decide (ds.length=es.length) && (List.range ds.length).all fun j=>match ds[j]?,es[j]? with | some d,some e=>deq d e | _,_=>false)
 | [],[]=>by simp [deqL]
 | [],e :: es=>by simp [deqL]
 | d :: ds,[]=>by simp [deqL]
 | d :: ds,e :: es=>by
  rw [deqL,deqL_get]
  have r:List.range (d :: ds).length=0 :: (List.range ds.length).map (· + 1):=by rw [List.length_cons,List.range_succ_eq_map]
  rw [r,List.all_cons,List.all_map]
  simp only [List.getElem?_cons_zero,List.length_cons,Nat.add_right_cancel_iff]
  have c:((fun j=>match (d :: ds)[j]?,(e :: es)[j]? with | some d,some e=>deq d e | _,_=>false) ∘ fun x=>x+1)=(fun j=>match ds[j]?,es[j]? with | some d,some e=>deq d e | _,_=>false):=by
   funext j
   simp
  rw [c]
  cases deq d e <;> cases decide (ds.length=es.length) <;> rfl
section
variable {X:Cx}{pins:List (Addr × Obj)}{σ:St}{H:Hp}{s:Shared}
mutual
theorem Is.inj:∀ (d:Dt) {e:Dt} {x:V},Inv X pins σ H s -> Is X.K H x d -> Is X.K H x e -> (∀ p xs ys,SqL X.K H p xs -> ¬ SqT X.K H p ys) -> d=e
 | .f y,e,x,I,h,h',hk=>by
  rw [Is] at h
  obtain ⟨rfl,hy⟩:=h
  cases e with
  | f z=>rw [Is] at h'; rw [h'.1]
  | l ds=>rw [Is] at h'; obtain ⟨p,xs,e,_⟩:=h'; subst e; cases hy
  | t ds=>rw [Is] at h'; obtain ⟨p,xs,e,_⟩:=h'; subst e; cases hy
 | .l ds,e,x,I,h,h',hk=>by
  rw [Is] at h
  obtain ⟨p,xs,rfl,hs,h⟩:=h
  cases e with
  | f z=>rw [Is] at h'; obtain ⟨e,hz⟩:=h'; subst e; cases hz
  | l es =>
   rw [Is] at h'
   obtain ⟨q,ys,e,hs',h'⟩:=h'
   cases e
   rw [I.list_inj hs' hs] at h'
   rw [IsL.inj ds I h h' hk]
  | t es =>
   rw [Is] at h'
   obtain ⟨q,ys,e,hs',h'⟩:=h'
   cases e
   exact absurd hs' (hk _ _ _ hs)
 | .t ds,e,x,I,h,h',hk=>by
  rw [Is] at h
  obtain ⟨p,xs,rfl,hs,h⟩:=h
  cases e with
  | f z=>rw [Is] at h'; obtain ⟨e,hz⟩:=h'; subst e; cases hz
  | l es =>
   rw [Is] at h'
   obtain ⟨q,ys,e,hs',h'⟩:=h'
   cases e
   exact absurd hs (hk _ _ _ hs')
  | t es =>
   rw [Is] at h'
   obtain ⟨q,ys,e,hs',h'⟩:=h'
   cases e
   rw [I.tuple_inj hs' hs] at h'
   rw [IsL.inj ds I h h' hk]
theorem IsL.inj:∀ (ds:List Dt) {es:List Dt} {xs:List V},Inv X pins σ H s -> IsL X.K H xs ds -> IsL X.K H xs es -> (∀ p xs ys,SqL X.K H p xs -> ¬ SqT X.K H p ys) -> ds=es
 | [],es,xs,I,h,h',hk=>by
  rw [IsL] at h
  subst h
  cases es with
  | nil=>rfl
  | cons e es=>rw [IsL] at h'; obtain ⟨_,_,e,_⟩:=h'; cases e
 | d :: ds,es,xs,I,h,h',hk=>by
  rw [IsL] at h
  obtain ⟨y,r,rfl,hy,h⟩:=h
  cases es with
  | nil=>rw [IsL] at h'; cases h'
  | cons e es =>
   rw [IsL] at h'
   obtain ⟨y',r',e1,hy',h'⟩:=h'
   cases e1
   rw [Is.inj d I hy hy' hk,IsL.inj ds I h h' hk]
end
theorem Inv.apart (I:Inv X pins σ H s):∀ p xs ys,SqL X.K H p xs -> ¬ SqT X.K H p ys:=fun p xs ys h h'=>by
 obtain ⟨its,_,⟨o,n,e,c,_⟩,_⟩:=I.list h
 obtain ⟨its',_,⟨o',e',c',_⟩,_⟩:=I.tuple h'
 rw [e] at e'
 cases e'
 rw [c] at c'
 exact absurd c' (by decide)
theorem eqAt_F {x:V}(e:Dt){A:Around}{y:V}{u v:Value}(hu:A.units < cLine)(I:Inv X pins σ H s)(fx:flatV x=true)(hy:Is X.K H y e)(rx:RelV x u)(ry:RelV y v):SeqAt.EqAt A s u v (deq (.f x) e):=by
 cases e with
 | f y' =>
  rw [Is] at hy
  obtain ⟨rfl,fy⟩:=hy
  rw [deq]
  exact eqAt_V rx ry fx fy
 | l ds =>
  rw [Is] at hy
  obtain ⟨p,ys,rfl,hs,_⟩:=hy
  cases ry
  obtain ⟨its,_,pl,_⟩:=I.list hs
  have hl:=pl.isList
  rw [show deq (.f x) (.l ds)=false by rw [deq]; all_goals (intros; simp_all)]
  cases x with
  | non=>cases rx; exact SeqAt.EqAt.none_list hl hu
  | bl b=>cases rx; exact SeqAt.EqAt.bool_list b hl hu
  | int i=>obtain ⟨t,rfl⟩:=rx; exact SeqAt.EqAt.int_list i t hl hu
  | str z=>obtain ⟨t,rfl⟩:=rx; exact SeqAt.EqAt.str_list z t hl hu
  | _=>cases fx
 | t ds =>
  rw [Is] at hy
  obtain ⟨p,ys,rfl,hs,_⟩:=hy
  cases ry
  obtain ⟨its,_,pl,_⟩:=I.tuple hs
  have hl:s.heap.IsTuple p its.toArray:=pl
  rw [show deq (.f x) (.t ds)=false by rw [deq]; all_goals (intros; simp_all)]
  cases x with
  | non=>cases rx; exact SeqAt.EqAt.none_tuple hl hu
  | bl b=>cases rx; exact SeqAt.EqAt.bool_tuple b hl hu
  | int i=>obtain ⟨t,rfl⟩:=rx; exact SeqAt.EqAt.int_tuple i t hl hu
  | str z=>obtain ⟨t,rfl⟩:=rx; exact SeqAt.EqAt.str_tuple z t hl hu
  | _=>cases fx
def deqAt (ds es:List Dt)(j:Nat):Bool:=match ds[j]?,es[j]? with | some d,some e=>deq d e | _,_=>false
theorem elems {n:Nat}{A:Around}(ih:∀ (d e:Dt) {A:Around} {x y:V} {u v:Value},dep d <= n -> A.units+n < cLine -> Inv X pins σ H s -> Is X.K H x d -> Is X.K H y e -> RelV x u -> RelV y v -> SeqAt.EqAt A s u v (deq d e))(hu:A.units+(n+1) < cLine)(I:Inv X pins σ H s)
  {ds es:List Dt} {xs ys:List V} {its its':List Value} (hd:depL ds <= n) (hx:IsL X.K H xs ds) (hy:IsL X.K H ys es) (rx:Vals xs its) (ry:Vals ys its') :
  ∀ j (h1:j < its.toArray.size) (h2:j < its'.toArray.size),SeqAt.EqAt A.in1 s its.toArray[j] its'.toArray[j] (deqAt ds es j):=by
 intro j h1 h2
 have l1:=rx.length
 have l2:=ry.length
 have k1:j < xs.length:=by simpa [l1] using h1
 have k2:j < ys.length:=by simpa [l2] using h2
 obtain ⟨d,e1,q1⟩:=hx.get (qA k1)
 obtain ⟨e,e2,q2⟩:=hy.get (qA k2)
 obtain ⟨u,hu',ru⟩:=rx.get (qA k1)
 obtain ⟨v,hv',rv⟩:=ry.get (qA k2)
 have f1:its.toArray[j]=u:=by
  have:its[j]? = some its.toArray[j]:=by simp
  rw [hu'] at this
  exact (Option.some.inj this).symm
 have f2:its'.toArray[j]=v:=by
  have:its'[j]? = some its'.toArray[j]:=by simp
  rw [hv'] at this
  exact (Option.some.inj this).symm
 rw [f1,f2]
 unfold deqAt
 rw [e1,e2]
 exact ih d e (Nat.le_trans (depL_mem e1) hd) (by rw [Around.in1_units]; omega) I q1 q2 ru rv
theorem all_deqAt {ds es:List Dt}(h:ds.length=es.length):(List.range ds.length).all (deqAt ds es)=deqL ds es:=by
 rw [deqL_get,decide_eq_true h,Bool.true_and]
 rfl
theorem deqL_ne {ds es:List Dt}(h:ds.length ≠ es.length):deqL ds es=false:=by
 rw [deqL_get,decide_eq_false h,Bool.false_and]
theorem rcAt_D:∀ (n:Nat) (d e:Dt) {A:Around} {x y:V} {u v:Value},dep d <= n -> A.units+n < cLine -> Inv X pins σ H s -> Is X.K H x d -> Is X.K H y e -> RelV x u -> RelV y v -> SeqAt.EqAt A s u v (deq d e) /\ (∀ p,x = .ref p -> SeqAt.RcAt A s u v (deq d e))
 | n,.f x',e,A,x,y,u,v,hn,hu,I,hx,hy,rx,ry=>by
  rw [Is] at hx
  obtain ⟨rfl,fx⟩:=hx
  exact ⟨eqAt_F e (by omega) I fx hy rx ry,fun p e=>by subst e; cases fx⟩
 | 0,.l ds,e,A,x,y,u,v,hn,hu,I,hx,hy,rx,ry=>by rw [dep] at hn; omega
 | 0,.t ds,e,A,x,y,u,v,hn,hu,I,hx,hy,rx,ry=>by rw [dep] at hn; omega
 | n+1,.l ds,e,A,x,y,u,v,hn,hu,I,hx,hy,rx,ry=>by
  rw [dep] at hn
  have hx0:=hx
  rw [Is] at hx
  obtain ⟨p,xs,rfl,hs,hxs⟩:=hx
  cases rx
  obtain ⟨its,rv,pl,_⟩:=I.list hs
  have hl:=pl.isList
  have hu':A.units < cLine:=by omega
  have ih:=fun (d e:Dt) {A:Around} {x y:V} {u v:Value} (a:dep d <= n) (b:A.units+n < cLine) (c:Inv X pins σ H s) (f:Is X.K H x d) (g:Is X.K H y e) (h:RelV x u) (i:RelV y v)=>(rcAt_D n d e a b c f g h i).1
  cases e with
  | f y' =>
   rw [Is] at hy
   obtain ⟨rfl,fy⟩:=hy
   rw [show deq (.l ds) (.f y)=false by rw [deq]; all_goals (intros; simp_all)]
   cases y with
   | non=>cases ry; exact ⟨SeqAt.EqAt.list_none hl hu',fun _ _=>SeqAt.RcAt.list_none hl hu'⟩
   | bl b=>cases ry; exact ⟨SeqAt.EqAt.list_bool b hl hu',fun _ _=>SeqAt.RcAt.list_bool b hl hu'⟩
   | int i=>obtain ⟨t,rfl⟩:=ry; exact ⟨SeqAt.EqAt.list_int i t hl hu',fun _ _=>SeqAt.RcAt.list_int i t hl hu'⟩
   | str z=>obtain ⟨t,rfl⟩:=ry; exact ⟨SeqAt.EqAt.list_str z t hl hu',fun _ _=>SeqAt.RcAt.list_str z t hl hu'⟩
   | _=>cases fy
  | l es =>
   have hy0:=hy
   rw [Is] at hy
   obtain ⟨q,ys,rfl,hs',hys⟩:=hy
   cases ry
   obtain ⟨its',rv',pl',_⟩:=I.list hs'
   have hl':=pl'.isList
   have e1:its.toArray.size=ds.length:=by rw [qM,← rv.length,hxs.len]
   have e2:its'.toArray.size=es.length:=by rw [qM,← rv'.length,hys.len]
   have rc:SeqAt.RcAt A s (.ref p) (.ref q) (deq (.l ds) (.l es)):=by
    rw [deq]
    by_cases hz:ds.length=es.length
    ·have:=SeqAt.RcAt.lists hl hl' (by omega) hu' (elems ih hu I (by omega) hxs hys rv rv')
     rw [e1,all_deqAt hz] at this
     exact this
    ·rw [deqL_ne hz]
     exact SeqAt.RcAt.lists_lengths hl hl' (by rw [bne_iff_ne]; omega) hu'
   refine ⟨?_,fun _ _=>rc⟩
   by_cases hpq:p=q
   ·subst hpq
    have:=Is.inj _ I hx0 hy0 I.apart
    rw [← this,deq_refl _ hx0]
    exact SeqAt.EqAt.same _
   ·exact SeqAt.EqAt.of_refs hpq rc
  | t es =>
   rw [Is] at hy
   obtain ⟨q,ys,rfl,hs',hys⟩:=hy
   cases ry
   obtain ⟨its',rv',pl',_⟩:=I.tuple hs'
   have hl':s.heap.IsTuple q its'.toArray:=pl'
   rw [show deq (.l ds) (.t es)=false by rw [deq]; all_goals (intros; simp_all)]
   exact ⟨SeqAt.EqAt.list_tuple hl hl' hu',fun _ _=>SeqAt.RcAt.list_tuple hl hl' hu'⟩
 | n+1,.t ds,e,A,x,y,u,v,hn,hu,I,hx,hy,rx,ry=>by
  rw [dep] at hn
  have hx0:=hx
  rw [Is] at hx
  obtain ⟨p,xs,rfl,hs,hxs⟩:=hx
  cases rx
  obtain ⟨its,rv,pl,_⟩:=I.tuple hs
  have hl:s.heap.IsTuple p its.toArray:=pl
  have hu':A.units < cLine:=by omega
  have ih:=fun (d e:Dt) {A:Around} {x y:V} {u v:Value} (a:dep d <= n) (b:A.units+n < cLine) (c:Inv X pins σ H s) (f:Is X.K H x d) (g:Is X.K H y e) (h:RelV x u) (i:RelV y v)=>(rcAt_D n d e a b c f g h i).1
  cases e with
  | f y' =>
   rw [Is] at hy
   obtain ⟨rfl,fy⟩:=hy
   rw [show deq (.t ds) (.f y)=false by rw [deq]; all_goals (intros; simp_all)]
   cases y with
   | non=>cases ry; exact ⟨SeqAt.EqAt.tuple_none hl hu',fun _ _=>SeqAt.RcAt.tuple_none hl hu'⟩
   | bl b=>cases ry; exact ⟨SeqAt.EqAt.tuple_bool b hl hu',fun _ _=>SeqAt.RcAt.tuple_bool b hl hu'⟩
   | int i=>obtain ⟨t,rfl⟩:=ry; exact ⟨SeqAt.EqAt.tuple_int i t hl hu',fun _ _=>SeqAt.RcAt.tuple_int i t hl hu'⟩
   | str z=>obtain ⟨t,rfl⟩:=ry; exact ⟨SeqAt.EqAt.tuple_str z t hl hu',fun _ _=>SeqAt.RcAt.tuple_str z t hl hu'⟩
   | _=>cases fy
  | l es =>
   rw [Is] at hy
   obtain ⟨q,ys,rfl,hs',hys⟩:=hy
   cases ry
   obtain ⟨its',rv',pl',_⟩:=I.list hs'
   have hl':=pl'.isList
   rw [show deq (.t ds) (.l es)=false by rw [deq]; all_goals (intros; simp_all)]
   exact ⟨SeqAt.EqAt.tuple_list hl hl' hu',fun _ _=>SeqAt.RcAt.tuple_list hl hl' hu'⟩
  | t es =>
   have hy0:=hy
   rw [Is] at hy
   obtain ⟨q,ys,rfl,hs',hys⟩:=hy
   cases ry
   obtain ⟨its',rv',pl',_⟩:=I.tuple hs'
   have hl':s.heap.IsTuple q its'.toArray:=pl'
   have e1:its.toArray.size=ds.length:=by rw [qM,← rv.length,hxs.len]
   have e2:its'.toArray.size=es.length:=by rw [qM,← rv'.length,hys.len]
   have rc:SeqAt.RcAt A s (.ref p) (.ref q) (deq (.t ds) (.t es)):=by
    rw [deq]
    have:=SeqAt.RcAt.tuples hl hl' hu' (elems ih hu I (by omega) hxs hys rv rv')
    rw [e1,e2] at this
    by_cases hz:ds.length=es.length
    ·rw [← hz,Nat.min_self,all_deqAt hz,beq_self_eq_true,Bool.and_true] at this
     exact this
    ·rw [deqL_ne hz]
     have:(ds.length == es.length)=false:=by simpa using hz
     simp_all
   refine ⟨?_,fun _ _=>rc⟩
   by_cases hpq:p=q
   ·subst hpq
    have:=Is.inj _ I hx0 hy0 I.apart
    rw [← this,deq_refl _ hx0]
    exact SeqAt.EqAt.same _
   ·exact SeqAt.EqAt.of_refs hpq rc
end
def rEqD (K:PySem.W.Frag):R2:=fun x y H Q=>∃ p d e,x = .ref p /\ Is K H x d /\ Is K H y e /\ dep d <= 50 /\ Q (.bl (deq d e)) H
def rNeD (K:PySem.W.Frag):R2:=fun x y H Q=>∃ p d e,x = .ref p /\ Is K H x d /\ Is K H y e /\ dep d <= 50 /\ Q (.bl (!deq d e)) H
section
variable {X:Cx}
theorem op_eqD {k:Nat}(hr:Room k X.A):OpR X (compareOp .Eq) (rEqD X.K):=by
 intro pins s σ H x y v u Q I rx ry h
 obtain ⟨p,d,e,rfl,hx,hy,hd,q⟩:=h
 have:=(rcAt_D 50 d e (A:=X.A) hd (by have:=hr.units; omega) I hx hy rx ry).2 p rfl
 exact this X.prog X.w X.xe _ ⟨.bl _,H,I,rfl,q⟩
end
end L2
set_option Elab.async false
set_option linter.all false
set_option maxRecDepth 100000
set_option maxHeartbeats 1000000
namespace L2
open PySem PySem.Spec PyProof.Rows
section
variable {X:Cx}{pins:List (Addr × Obj)}{σ:St}{H:Hp}{s:Shared}
theorem ih50 (n:Nat)(d e:Dt){A:Around}{x y:V}{u v:Value}(a:dep d <= n)(b:A.units+n < cLine)(c:Inv X pins σ H s)(f:Is X.K H x d)(g:Is X.K H y e)(h:RelV x u)(i:RelV y v):SeqAt.EqAt A s u v (deq d e):=(rcAt_D n d e a b c f g h i).1
theorem neAt_D (n:Nat)(d e:Dt){A:Around}{p:Addr}{y:V}{v:Value}(hn:dep d <= n+1)(hu:A.units+(n+1) < cLine)(I:Inv X pins σ H s)(hx:Is X.K H (.ref p) d)(hy:Is X.K H y e)(ry:RelV y v):SeqAt.RcNeAt A s (.ref p) v (!deq d e):=by
 have hu':A.units < cLine:=by omega
 cases d with
 | f x=>rw [Is] at hx; obtain ⟨e,hz⟩:=hx; subst e; cases hz
 | l ds =>
  rw [dep] at hn
  rw [Is] at hx
  obtain ⟨p',xs,e0,hs,hxs⟩:=hx
  cases e0
  obtain ⟨its,rv,pl,_⟩:=I.list hs
  have hl:=pl.isList
  cases e with
  | f y' =>
   rw [Is] at hy
   obtain ⟨rfl,fy⟩:=hy
   rw [show deq (.l ds) (.f y)=false by rw [deq]; all_goals (intros; simp_all)]
   cases y with
   | non=>cases ry; exact SeqAt.RcNeAt.list_none hl hu'
   | bl b=>cases ry; exact SeqAt.RcNeAt.list_bool b hl hu'
   | int i=>obtain ⟨t,rfl⟩:=ry; exact SeqAt.RcNeAt.list_int i t hl hu'
   | str z=>obtain ⟨t,rfl⟩:=ry; exact SeqAt.RcNeAt.list_str z t hl hu'
   | _=>cases fy
  | l es =>
   rw [Is] at hy
   obtain ⟨q,ys,rfl,hs',hys⟩:=hy
   cases ry
   obtain ⟨its',rv',pl',_⟩:=I.list hs'
   have hl':=pl'.isList
   have e1:its.toArray.size=ds.length:=by rw [qM,← rv.length,hxs.len]
   have e2:its'.toArray.size=es.length:=by rw [qM,← rv'.length,hys.len]
   rw [deq]
   by_cases hz:ds.length=es.length
   ·have:=SeqAt.RcNeAt.lists hl hl' (by omega) hu' (elems (ih50 n) hu I (by omega) hxs hys rv rv')
    rw [e1,all_deqAt hz] at this
    exact this
   ·rw [deqL_ne hz]
    exact SeqAt.RcNeAt.lists_lengths hl hl' (by rw [bne_iff_ne]; omega) hu'
  | t es =>
   rw [Is] at hy
   obtain ⟨q,ys,rfl,hs',hys⟩:=hy
   cases ry
   obtain ⟨its',rv',pl',_⟩:=I.tuple hs'
   have hl':s.heap.IsTuple q its'.toArray:=pl'
   rw [show deq (.l ds) (.t es)=false by rw [deq]; all_goals (intros; simp_all)]
   exact SeqAt.RcNeAt.list_tuple hl hl' hu'
 | t ds =>
  rw [dep] at hn
  rw [Is] at hx
  obtain ⟨p',xs,e0,hs,hxs⟩:=hx
  cases e0
  obtain ⟨its,rv,pl,_⟩:=I.tuple hs
  have hl:s.heap.IsTuple p its.toArray:=pl
  cases e with
  | f y' =>
   rw [Is] at hy
   obtain ⟨rfl,fy⟩:=hy
   rw [show deq (.t ds) (.f y)=false by rw [deq]; all_goals (intros; simp_all)]
   cases y with
   | non=>cases ry; exact SeqAt.RcNeAt.tuple_none hl hu'
   | bl b=>cases ry; exact SeqAt.RcNeAt.tuple_bool b hl hu'
   | int i=>obtain ⟨t,rfl⟩:=ry; exact SeqAt.RcNeAt.tuple_int i t hl hu'
   | str z=>obtain ⟨t,rfl⟩:=ry; exact SeqAt.RcNeAt.tuple_str z t hl hu'
   | _=>cases fy
  | l es =>
   rw [Is] at hy
   obtain ⟨q,ys,rfl,hs',hys⟩:=hy
   cases ry
   obtain ⟨its',rv',pl',_⟩:=I.list hs'
   have hl':=pl'.isList
   rw [show deq (.t ds) (.l es)=false by rw [deq]; all_goals (intros; simp_all)]
   exact SeqAt.RcNeAt.tuple_list hl hl' hu'
  | t es =>
   rw [Is] at hy
   obtain ⟨q,ys,rfl,hs',hys⟩:=hy
   cases ry
   obtain ⟨its',rv',pl',_⟩:=I.tuple hs'
   have hl':s.heap.IsTuple q its'.toArray:=pl'
   have e1:its.toArray.size=ds.length:=by rw [qM,← rv.length,hxs.len]
   have e2:its'.toArray.size=es.length:=by rw [qM,← rv'.length,hys.len]
   rw [deq]
   have:=SeqAt.RcNeAt.tuples hl hl' hu' (elems (ih50 n) hu I (by omega) hxs hys rv rv')
   rw [e1,e2] at this
   by_cases hz:ds.length=es.length
   ·rw [← hz,Nat.min_self,all_deqAt hz,beq_self_eq_true,Bool.and_true] at this
    exact this
   ·rw [deqL_ne hz]
    have:(ds.length == es.length)=false:=by simpa using hz
    simp_all
end
section
variable {X:Cx}
theorem op_neD {k:Nat}(hr:Room k X.A):OpR X (compareOp .NotEq) (rNeD X.K):=by
 intro pins s σ H x y v u Q I rx ry h
 obtain ⟨p,d,e,rfl,hx,hy,hd,q⟩:=h
 cases rx
 have:=neAt_D 50 d e (A:=X.A) (by omega) (by have:=hr.units; omega) I hx hy ry
 exact this X.prog X.w X.xe _ ⟨.bl _,H,I,rfl,q⟩
end
theorem isL_flat {K:PySem.W.Frag}{H:Hp}:∀ {xs:List V},xs.all flatV=true -> IsL K H xs (xs.map Dt.f)
 | [],_=>by rw [List.map_nil,IsL]
 | x :: r,h=>by
  rw [List.all_cons,Bool.and_eq_true] at h
  rw [List.map_cons,IsL]
  exact ⟨x,r,rfl,by rw [Is]; exact ⟨rfl,h.1⟩,isL_flat h.2⟩
theorem is_lst {K:PySem.W.Frag}{H:Hp}{p:Addr}{xs:List V}(h:SqL K H p xs)(f:xs.all flatV=true):Is K H (.ref p) (.l (xs.map Dt.f)):=by rw [Is]; exact ⟨p,xs,rfl,h,isL_flat f⟩
theorem is_tup {K:PySem.W.Frag}{H:Hp}{p:Addr}{xs:List V}(h:SqT K H p xs)(f:xs.all flatV=true):Is K H (.ref p) (.t (xs.map Dt.f)):=by rw [Is]; exact ⟨p,xs,rfl,h,isL_flat f⟩
theorem depL_flat:∀ {xs:List V},depL (xs.map Dt.f)=0
 | []=>by rw [List.map_nil,depL]
 | x :: r=>by rw [List.map_cons,depL,depL_flat,dep]; rfl
theorem dep_l {xs:List V}:dep (.l (xs.map Dt.f))=1:=by rw [dep,depL_flat]
theorem dep_t {xs:List V}:dep (.t (xs.map Dt.f))=1:=by rw [dep,depL_flat]
theorem flat_ints (ns:List Int):(ns.map V.int).all flatV=true:=by rw [List.all_map]; simp [flatV]
theorem deqL_ints:∀ (ns ms:List Int),deqL ((ns.map V.int).map Dt.f) ((ms.map V.int).map Dt.f)=decide (ns=ms)
 | [],[]=>by simp [deqL]
 | [],m :: ms=>by simp [deqL]
 | n :: ns,[]=>by simp [deqL]
 | n :: ns,m :: ms=>by
  rw [List.map_cons,List.map_cons,List.map_cons,List.map_cons,deqL,deqL_ints ns ms,deq]
  by_cases h1:n=m <;> by_cases h2:ns=ms <;> simp [eqV,h1,h2]
theorem deq_lints (ns ms:List Int):deq (.l ((ns.map V.int).map Dt.f)) (.l ((ms.map V.int).map Dt.f))=decide (ns=ms):=by rw [deq,deqL_ints]
theorem neLI {K:PySem.W.Frag}{H:Hp}{p q:Addr}{ns ms:List Int}{Q:VK}(h1:SqL K H p (ns.map V.int))(h2:SqL K H q (ms.map V.int))(h:Q (.bl (!decide (ns=ms))) H):rNeD K (.ref p) (.ref q) H Q :=
 ⟨p,_,_,rfl,is_lst h1 (flat_ints _),is_lst h2 (flat_ints _),by rw [dep_l]; decide,by rw [deq_lints]; exact h⟩
def CompIt (J:It)(nt:Nat)(cs:List Nat)(g:TG)(tt:TT)(te:TE)(σ:St)(H1:Hp)(Q:VK):Prop:=∀ acc,H1 acc=none ->
 ∃ W:Nat -> Nat -> List V -> St -> Hp -> Prop,(∃ m,W 0 m [] (capSt nt cs σ) (upd H1 acc (.lst []))) /\ ∀ i m ys σ' H',W i m ys σ' H' -> H' acc=some (.lst ys) /\
  ((J.stop i H' /\ Q (.ref acc) H') \/ (J.go i H' /\ ys.length < sizeLine /\ ∃ N:List V -> St -> Hp -> Prop,(∀ zs σ2 H2,N zs σ2 H2 -> ∃ m',m' < m /\ W (i+1) m' zs σ2 H2) /\
   ∀ x H2,J.yld i H' x H2 -> g x σ' H2 fun σ3 H3=>tt σ3 H3 fun b H4=>if b=true then te σ3 H4 fun y H5=>H5 acc=some (.lst ys) /\ N (ys ++ [y]) σ3 (upd H5 acc (.lst (ys ++ [y]))) else N ys σ3 H4))
section
variable {K:PySem.W.Frag}{σ:St}{H:Hp}{Q:VK}{nt:Nat}{cs:List Nat}{g:TG}{tt:TT}{te:TE}{a:Addr}
theorem w_compL {tl:TE}:tComp (iList K tl) nt cs g tt te σ H Q=(tl σ H fun x H1=>∃ a,x = .ref a /\ (∃ xs,SqL K H1 a xs) /\ CompIt (Itl K a) nt cs g tt te σ H1 Q):=rfl
theorem w_compT {tl:TE}:tComp (iTup K tl) nt cs g tt te σ H Q=(tl σ H fun x H1=>∃ a,x = .ref a /\ (∃ xs,SqT K H1 a xs) /\ CompIt (Itt K a) nt cs g tt te σ H1 Q):=rfl
theorem w_comp1 {ta:TA}:tComp (iRng1 ta) nt cs g tt te σ H Q=(ta σ H fun vs H1=>∃ j:Int,vs=[.int j] /\ -(2 ^ 62) <= j /\ j < 2 ^ 62 /\ CompIt (Itr 0 j.toNat) nt cs g tt te σ H1 Q):=rfl
theorem w_yes {R:Bool -> Hp -> Prop}:tYes σ H R=R true H:=rfl
def capV (cs:List Nat)(σ:St):St:=cs.map fun c=>(σ[c]?).join
theorem comp_pure {J:It}{xs:List V}(f:V -> Option V)(hz:xs.length <= sizeLine)
  (hJ:∀ H',Same H H' -> (∀ i,i < xs.length -> J.go i H') /\ (∀ i x H2,J.yld i H' x H2 -> H2=H' /\ (i < xs.length -> xs[i]? = some x)) /\ J.stop xs.length H')
  (hb:∀ x H' (R:Option V -> Hp -> Prop),x ∈ xs -> Same H H' -> R (f x) H' -> tt (some x :: capV cs σ) H' fun b H4=>if b=true then te (some x :: capV cs σ) H4 fun y H5=>R (some y) H5 else R none H4)
  (hd:∀ acc,H acc=none -> Q (.ref acc) (upd H acc (.lst (xs.filterMap f)))):CompIt J 1 cs (gName 0) tt te σ H Q:=by
 intro acc hn
 have sm:∀ ys,Same H (upd H acc (.lst ys)):=fun ys=>same_new hn _
 refine ⟨fun i m ys σ' H'=>m=xs.length - i /\ i <= xs.length /\ (∃ o,σ'=o :: capV cs σ) /\ ys=(xs.take i).filterMap f /\ H'=upd H acc (.lst ys),⟨_,rfl,Nat.zero_le _,⟨none,rfl⟩,by simp,rfl⟩,?_⟩
 rintro i m ys σ' H' ⟨rfl,hi,⟨o,rfl⟩,hys,rfl⟩
 refine ⟨upd_same,?_⟩
 have hl:ys.length <= i:=by
  rw [hys]
  exact Nat.le_trans (List.length_filterMap_le _ _) (by rw [qO]; omega)
 by_cases hlt:i < xs.length
 ·refine .inr ⟨(hJ _ (sm ys)).1 i hlt,by omega,fun zs σ2 H2=>(∃ o,σ2=o :: capV cs σ) /\ zs=(xs.take (i+1)).filterMap f /\ H2=upd H acc (.lst zs),fun zs σ2 H2 ⟨q1,q2,q3⟩=>⟨xs.length - (i+1),by omega,rfl,hlt,q1,q2,q3⟩,fun x H2 y=>?_⟩
  obtain ⟨e,hx⟩:=(hJ _ (sm ys)).2.1 i x H2 y
  have hx:=hx hlt
  subst e
  show tt (some x :: capV cs σ) _ _
  have tk:xs.take (i+1)=xs.take i ++ [x]:=by rw [List.take_add_one,hx]; rfl
  refine hb x _ (fun o H5=>match o with | some y=>H5 acc=some (.lst ys) /\ (∃ o,some x :: capV cs σ = o :: capV cs σ) /\ ys ++ [y]=(xs.take (i+1)).filterMap f /\ upd H5 acc (.lst (ys ++ [y]))=upd H acc (.lst (ys ++ [y])) | none=>(∃ o,some x :: capV cs σ = o :: capV cs σ) /\ ys=(xs.take (i+1)).filterMap f /\ H5=upd H acc (.lst ys)) (qE hx) (sm ys) ?_
  cases hf:f x with
  | none =>
   refine ⟨⟨_,rfl⟩,?_,rfl⟩
   rw [tk,List.filterMap_append,← hys]
   simp [hf]
  | some y =>
   refine ⟨upd_same,⟨_,rfl⟩,?_,upd_upd⟩
   rw [tk,List.filterMap_append,← hys]
   simp [hf]
 ·have e:i=xs.length:=by omega
  subst e
  rw [List.take_length] at hys
  subst hys
  exact .inl ⟨(hJ _ (sm _)).2.2,hd acc hn⟩
theorem comp_L {xs:List V}(h:SqL K H a xs)(hz:xs.length <= sizeLine)(f:V -> Option V)
  (hb:∀ x H' (R:Option V -> Hp -> Prop),x ∈ xs -> Same H H' -> R (f x) H' -> tt (some x :: capV cs σ) H' fun b H4=>if b=true then te (some x :: capV cs σ) H4 fun y H5=>R (some y) H5 else R none H4)
  (hd:∀ acc,H acc=none -> Q (.ref acc) (upd H acc (.lst (xs.filterMap f)))):CompIt (Itl K a) 1 cs (gName 0) tt te σ H Q :=
 comp_pure f hz (fun H' s=>by
  have h':=s.seq h
  exact ⟨fun i hi=>⟨xs,xs[i],h',by simp [hi]⟩,fun i x H2 y=>⟨y.1,fun _=>y.2 xs h'⟩,⟨xs,h',Nat.le_refl _⟩⟩) hb hd
theorem Same.seqT {K:PySem.W.Frag}{H H':Hp}{a:Addr}{xs:List V}(e:Same H H')(h:SqT K H a xs):SqT K H' a xs:=by
 rcases h with (h | ⟨o,h⟩) | h
 ·exact .inl (.inl (e _ _ h))
 ·exact .inl (.inr ⟨o,e _ _ h⟩)
 ·exact .inr h
theorem comp_T {xs:List V}(h:SqT K H a xs)(hz:xs.length <= sizeLine)(f:V -> Option V)
  (hb:∀ x H' (R:Option V -> Hp -> Prop),x ∈ xs -> Same H H' -> R (f x) H' -> tt (some x :: capV cs σ) H' fun b H4=>if b=true then te (some x :: capV cs σ) H4 fun y H5=>R (some y) H5 else R none H4)
  (hd:∀ acc,H acc=none -> Q (.ref acc) (upd H acc (.lst (xs.filterMap f)))):CompIt (Itt K a) 1 cs (gName 0) tt te σ H Q :=
 comp_pure f hz (fun H' s=>by
  have h':=s.seqT h
  exact ⟨fun i hi=>⟨xs,xs[i],h',by simp [hi]⟩,fun i x H2 y=>⟨y.1,fun _=>y.2 xs h'⟩,⟨xs,h',Nat.le_refl _⟩⟩) hb hd
def rngV (lo:Int)(n:Nat):List V:=(List.range n).map fun (i:Nat)=>V.int (lo+(i:Int))
theorem rngV_get {lo:Int}{n i:Nat}(h:i < n):(rngV lo n)[i]? = some (.int (lo+i)):=by unfold rngV; rw [qI,List.getElem?_range h]; rfl
theorem rngV_len {lo:Int}{n:Nat}:(rngV lo n).length=n:=by unfold rngV; rw [qC,List.length_range]
theorem comp_R {lo:Int}{n:Nat}(hz:n <= sizeLine)(f:V -> Option V)
  (hb:∀ x H' (R:Option V -> Hp -> Prop),x ∈ rngV lo n -> Same H H' -> R (f x) H' -> tt (some x :: capV cs σ) H' fun b H4=>if b=true then te (some x :: capV cs σ) H4 fun y H5=>R (some y) H5 else R none H4)
  (hd:∀ acc,H acc=none -> Q (.ref acc) (upd H acc (.lst ((rngV lo n).filterMap f)))):CompIt (Itr lo n) 1 cs (gName 0) tt te σ H Q :=
 comp_pure (xs:=rngV lo n) f (by rw [rngV_len]; exact hz) (fun H' s=>by
  rw [rngV_len]
  exact ⟨fun i hi=>hi,fun i x H2 y=>⟨y.1,fun hi=>by rw [rngV_get hi,y.2]⟩,Nat.le_refl _⟩) hb hd
end
end L2
set_option Elab.async false
set_option linter.all false
set_option maxRecDepth 100000
set_option maxHeartbeats 1000000
namespace L2
open PySem PySem.Spec PyProof.Rows
section
variable {X:Cx}
theorem vals_bools:∀ {bs:List Bool} {us:List Value},Vals (bs.map V.bl) us -> us=bs.map Value.bool
 | [],_,h=>by cases h; rfl
 | b :: r,_,h=>by
  cases h with
  | cons q t =>
   cases q
   rw [vals_bools t]
   rfl
theorem truth_bools {prog:Program}{w:World}{A:Around}{bs:List Bool}:TruthOf prog w A (fun i v=>(bs.map Value.bool).toArray[i]? = some v) (fun i=>bs.getD i true):=by
 intro i v s Q E h hq
 rw [List.getElem?_toArray,qI] at h
 cases e:bs[i]? with
 | none=>rw [e] at h; cases h
 | some b =>
  rw [e] at h
  cases h
  have:bs.getD i true=b:=by simp [List.getD,e]
  exact wpAny_truthy_bool (by rw [← this]; exact hq)
theorem all_getD:∀ (bs:List Bool),(List.range bs.length).all (fun i=>bs.getD i true)=bs.all id
 | []=>rfl
 | b :: r=>by
  rw [List.length_cons,List.range_succ_eq_map,List.all_cons,List.all_map,List.all_cons]
  have:((fun i=>(b :: r).getD i true) ∘ Nat.succ)=fun i=>r.getD i true:=by funext i; simp [List.getD]
  rw [this,all_getD r]
  rfl
theorem any_getD:∀ (bs:List Bool),(List.range bs.length).any (fun i=>bs.getD i true)=bs.any id
 | []=>rfl
 | b :: r=>by
  rw [List.length_cons,List.range_succ_eq_map,List.any_cons,List.any_map,List.any_cons]
  have:((fun i=>(b :: r).getD i true) ∘ Nat.succ)=fun i=>r.getD i true:=by funext i; simp [List.getD]
  rw [this,any_getD r]
  rfl
def rAll:List V -> Hp -> VK -> Prop:=fun xs H Q=>∃ (p:Addr) (bs:List Bool),xs=[.ref p] /\ H p=some (.lst (bs.map V.bl)) /\ Q (.bl (bs.all id)) H
def rAny:List V -> Hp -> VK -> Prop:=fun xs H Q=>∃ (p:Addr) (bs:List Bool),xs=[.ref p] /\ H p=some (.lst (bs.map V.bl)) /\ Q (.bl (bs.any id)) H
theorem walk_list {pins:List (Addr × Obj)}{σ:St}{H:Hp}{s:Shared}{p:Addr}{xs:List V}(hc:X.calm=true)(I:Inv X pins σ H s)(hp:H p=some (.lst xs)){Q:Value -> Shared -> Prop}{E:Value -> Shared -> Prop}
  (h:∀ (its:List Value),Vals xs its -> ∀ s2:Shared,s2.heap.IsListIter s.heap.objs.size p 0 /\ s2.heap.IsList p its.toArray -> (∀ b ∈ [s.heap.objs.size,p],b < s2.heap.objs.size) -> p ≠ s.heap.objs.size -> Walks X.prog X.w X.A.in1 s.heap.objs.size [s.heap.objs.size,p] [s.heap.objs.size] its.toArray.size (fun i v=>its.toArray[i]? = some v) (fun i h=>h.IsListIter s.heap.objs.size p i /\ h.IsList p its.toArray) ->
   (∀ h' tk,(∀ b o,b ∉ [s.heap.objs.size] -> s2.heap.get? b=some o -> h'.get? b=some o) -> Inv X pins σ H { s2 with heap:=h',toks:=tk }) -> Q (.ref s.heap.objs.size) s2):wpAny (model X.prog X.w) X.A.in1 (pyIter (.ref p)) Q E s:=by
 obtain ⟨its,rv,pl,_⟩:=I.list (SqL.of hp)
 have hlt:p < s.heap.objs.size:=I.hok.lt hp
 refine wpAny_pyIter_list pl.isList (h its rv _ ⟨⟨_,Heap.get?_push_size _ rfl,rfl,rfl⟩,pl.isList.push _⟩ (fun b hb=>?_) (Nat.ne_of_lt hlt) (Walks.list (A:=X.A.in1) (I.ok.hd hc) _ p (Nat.ne_of_lt hlt) its.toArray) fun h' tk hk=>?_)
 ·show b < (s.heap.push _).objs.size
  rw [Heap.size_push]
  rcases List.mem_cons.mp hb with e | e
  ·rw [e]; exact Nat.lt_succ_self _
  ·have:b=p:=by simpa using e
   rw [this]; exact Nat.lt_succ_of_lt hlt
 ·exact I.kept (h':=h') (t':=tk) fun b o e=>hk b o (by simpa using Nat.ne_of_lt (Heap.lt_size e)) (Heap.get?_push_of_some _ e)
theorem call_all (hc:X.calm=true):CallR X (.builtin "all") rAll:=by
 intro pins s σ H xs us Q I r h
 obtain ⟨p,bs,rfl,hp,q⟩:=h
 obtain ⟨u,rfl,ru⟩:=Vals.one r
 cases ru
 refine call_all_walk (walk_list hc I hp fun its rv s2 st hfp hne W hI=>?_)
 have e:=vals_bools rv
 subst e
 refine ⟨_,_,_,_,_,_,_,rfl,W,st,truth_bools,fun h' tk hk=>⟨.bl (bs.all id),H,hI h' tk hk,?_,q⟩⟩
 have:(bs.map Value.bool).toArray.size=bs.length:=by simp
 rw [this,all_getD]
 rfl
theorem call_any (hc:X.calm=true):CallR X (.builtin "any") rAny:=by
 intro pins s σ H xs us Q I r h
 obtain ⟨p,bs,rfl,hp,q⟩:=h
 obtain ⟨u,rfl,ru⟩:=Vals.one r
 cases ru
 refine call_any_walk (walk_list hc I hp fun its rv s2 st hfp hne W hI=>?_)
 have e:=vals_bools rv
 subst e
 refine ⟨_,_,_,_,_,_,_,rfl,W,st,truth_bools,fun h' tk hk=>⟨.bl (bs.any id),H,hI h' tk hk,?_,q⟩⟩
 have:(bs.map Value.bool).toArray.size=bs.length:=by simp
 rw [this,any_getD]
 rfl
def rBits:V -> List V -> Hp -> VK -> Prop:=fun x vs H Q=>∃ i,x = .int i /\ vs=[] /\ Q (.int (Builtin.Int.intBits i:Nat)) H
theorem w_rBits {i:Int}{H:Hp}{Q:VK}:rBits (.int i) [] H Q=Q (.int (Builtin.Int.intBits i:Nat)) H:=propext ⟨fun ⟨j,e,_,q⟩=>by cases e; exact q,fun q=>⟨i,rfl,rfl,q⟩⟩
theorem w_tyInt {K:PySem.W.Frag}{i:Int}{H:Hp}:tyV K "int" (.int i) H=True:=eq_true (by first | exact rfl | (unfold tyV; rfl) | (unfold tyV; simp))
end
section
variable {K:PySem.W.Frag}{σ:St}{H:Hp}{Q:VK}
theorem w_bm {T:String}{r:V -> List V -> Hp -> VK -> Prop}{to:TE}{t:TA}:tBM K T r to t σ H Q=(to σ H fun x H1=>tyV K T x H1 /\ t σ H1 fun xs H2=>r x xs H2 Q):=rfl
theorem w_bm0 {T:String}{r:V -> List V -> Hp -> VK -> Prop}{to:TE}:tBM0 K T r to σ H Q=(to σ H fun x H1=>tyV K T x H1 /\ r x [] H1 Q):=rfl
theorem w_append {l:Addr}{y:V}:rAppend (.ref l) [y] H Q = ∃ xs,H l=some (.lst xs) /\ xs.length < sizeLine /\ Q .non (upd H l (.lst (xs ++ [y]))) :=
 propext ⟨fun ⟨l',xs,y',e1,e2,h,z,q⟩=>by cases e1; cases e2; exact ⟨xs,h,z,q⟩,fun ⟨xs,h,z,q⟩=>⟨l,xs,y,rfl,rfl,h,z,q⟩⟩
theorem ty_list {l:Addr}{xs:List V}(h:H l=some (.lst xs)):tyV K "list" (.ref l) H:=by
 first | exact .inl ⟨rfl,_,SqL.of h⟩ | (unfold tyV; exact .inl ⟨rfl,_,SqL.of h⟩)
end
end L2
set_option Elab.async false
set_option linter.all false
set_option maxRecDepth 100000
namespace L2
open PySem PySem.Spec PyProof.Rows PySem.W
end L2
set_option Elab.async false
set_option linter.all false
set_option maxRecDepth 100000
namespace L2
open PySem PySem.Spec PyProof.Rows
def gTupM (n:Nat)(t:TGs):TG:=fun v σ H Q=>∃ a xs,v = .ref a /\ H a=some (.tup xs) /\ xs.length=n /\ t xs σ H Q
theorem pg_tupM {X:Cx}{es:List Expr}{k:Nat}{t:TGs}{pos:Pos}(n:Nat)(hc:X.calm=true)(h:PGs X es t)(hn:(assignEach es X.env).length=n:=by rfl)(hst:(assignEach es X.env).findIdx? (·.1)=none:=by rfl):PG X (.Tuple es k pos) (gTupM n t):=by
 intro pins s σ H v u Q I r hw
 obtain ⟨a,xs,e1,hq,hl,hw⟩:=hw
 exact pg_tup (X:=X) (n:=n) hc h hn hst pins s σ H v u Q I r ⟨a,xs,e1,SqT.of hq,hl,hw⟩
section
variable {K:PySem.W.Frag}{σ:St}{H:Hp}{Q:VK}{R:St -> Hp -> Prop}
theorem w_gTupM {n:Nat}{t:TGs}{a:Addr}:gTupM n t (.ref a) σ H R = ∃ xs,H a=some (.tup xs) /\ xs.length=n /\ t xs σ H R :=
 propext ⟨fun ⟨a',xs,e,h,l,q⟩=>by cases e; exact ⟨xs,h,l,q⟩,fun ⟨xs,h,l,q⟩=>⟨a,xs,rfl,h,l,q⟩⟩
theorem w_gCons {t:TG}{u:TGs}{v:V}{r:List V}:gCons t u (v :: r) σ H R=t v σ H fun σ' H'=>u r σ' H' R :=
 propext ⟨fun ⟨v',r',e,q⟩=>by cases e; exact q,fun q=>⟨v,r,rfl,q⟩⟩
theorem w_gNil:gNil [] σ H R=R σ H:=propext ⟨fun ⟨_,q⟩=>q,fun q=>⟨rfl,q⟩⟩
theorem isI_tt {t:Addr}{xs:List V}(h:H t=some (.tup xs)):rIsI K [.ref t,.ty "tuple"] H Q=Q (.bl true) H:=isI_mk (.tup h) (fun _ z=>by cases z <;> first | rfl | (rename_i e; rw [h] at e; cases e) | (rename_i e _ _ _ _ _; rw [h] at e; cases e)) (kit_same _)
theorem isI_ll {t:Addr}{xs:List V}(h:H t=some (.lst xs)):rIsI K [.ref t,.ty "list"] H Q=Q (.bl true) H:=isI_mk (.lst h) (fun _ z=>by cases z <;> first | rfl | (rename_i e; rw [h] at e; cases e) | (rename_i e _ _ _ _ _; rw [h] at e; cases e)) (kit_same _)
end
end L2
set_option Elab.async false
set_option linter.all false
set_option maxRecDepth 100000
namespace L2
open PySem PySem.Spec PyProof.Rows
def rDG:R2:=fun x y H Q=>∃ a k,x = .ref a /\ y=kV k /\ ∃ kvs,H a=some (.dK kvs) /\ ∃ v,valV kvs k=some v /\ Q v H
def rDP:V -> V -> V -> Hp -> (Hp -> Prop) -> Prop:=fun x y v H R=>∃ a k,x = .ref a /\ y=kV k /\ ∃ kvs,H a=some (.dK kvs) /\ kvs.length < sizeLine /\ R (upd H a (.dK (putK kvs k v)))
def sDP (td ty tv:TE):TS:=fun D σ H=>tv σ H fun v H1=>td σ H1 fun x H2=>ty σ H2 fun y H3=>rDP x y v H3 fun H4=>D.nx σ H4
def rDI (neg:Bool):R2:=fun y x H Q=>∃ a k,x = .ref a /\ y=kV k /\ ∃ kvs,H a=some (.dK kvs) /\ Q (.bl (if neg then !(valV kvs k).isSome else (valV kvs k).isSome)) H
section
variable {X:Cx}{o i e value:Expr}{pos pos' tpos:Pos}{td ty tv:TE}
end
section
variable {σ:St}{H:Hp}{Q:VK}{D:Ends}{a:Addr}{v:V}{R:Hp -> Prop}
theorem kV_s {k:Key}{x:Str}:(V.str x=kV k)=(k = .inr x):=propext ⟨fun e=>by cases k <;> cases e; rfl,fun e=>by subst e; rfl⟩
theorem kV_i {k:Key}{x:Int}:(V.int x=kV k)=(k = .inl x):=propext ⟨fun e=>by cases k <;> cases e; rfl,fun e=>by subst e; rfl⟩
theorem w_dgS {x:Str}:rDG (.ref a) (.str x) H Q = ∃ kvs,H a=some (.dK kvs) /\ ∃ v,valV kvs (.inr x)=some v /\ Q v H :=
 propext ⟨fun ⟨a',k,e1,e2,q⟩=>by cases e1; rw [kV_s] at e2; subst e2; exact q,fun q=>⟨a,.inr x,rfl,rfl,q⟩⟩
theorem w_dgI {x:Int}:rDG (.ref a) (.int x) H Q = ∃ kvs,H a=some (.dK kvs) /\ ∃ v,valV kvs (.inl x)=some v /\ Q v H :=
 propext ⟨fun ⟨a',k,e1,e2,q⟩=>by cases e1; rw [kV_i] at e2; subst e2; exact q,fun q=>⟨a,.inl x,rfl,rfl,q⟩⟩
theorem w_sDP {td ty tv:TE}:sDP td ty tv D σ H=(tv σ H fun v H1=>td σ H1 fun x H2=>ty σ H2 fun y H3=>rDP x y v H3 fun H4=>D.nx σ H4):=rfl
theorem w_dpS {x:Str}:rDP (.ref a) (.str x) v H R = ∃ kvs,H a=some (.dK kvs) /\ kvs.length < sizeLine /\ R (upd H a (.dK (putK kvs (.inr x) v))) :=
 propext ⟨fun ⟨a',k,e1,e2,q⟩=>by cases e1; rw [kV_s] at e2; subst e2; exact q,fun q=>⟨a,.inr x,rfl,rfl,q⟩⟩
theorem w_dpI {x:Int}:rDP (.ref a) (.int x) v H R = ∃ kvs,H a=some (.dK kvs) /\ kvs.length < sizeLine /\ R (upd H a (.dK (putK kvs (.inl x) v))) :=
 propext ⟨fun ⟨a',k,e1,e2,q⟩=>by cases e1; rw [kV_i] at e2; subst e2; exact q,fun q=>⟨a,.inl x,rfl,rfl,q⟩⟩
theorem w_dII {neg:Bool}{x:Int}:rDI neg (.int x) (.ref a) H Q = ∃ kvs,H a=some (.dK kvs) /\ Q (.bl (if neg then !(valV kvs (.inl x)).isSome else (valV kvs (.inl x)).isSome)) H :=
 propext ⟨fun ⟨a',k,e1,e2,q⟩=>by cases e1; rw [kV_i] at e2; subst e2; exact q,fun q=>⟨a,.inl x,rfl,rfl,q⟩⟩
theorem w_disp {trs:List (TE × TE)}:tDisp trs σ H Q = ∀ p,H p=none -> tPairs trs σ (upd H p (.dK [])) fun ps H2=>H2 p=some (.dK []) /\ ∃ kvs:List (Key × V),ps=kvs.map (fun kv=>(kV kv.1,kv.2)) /\ kvs.length <= 15 /\ Q (.ref p) (upd H2 p (.dK (mergeK [] kvs))):=rfl
end
def penKV (a:Addr)(at_ l:Int):List (Key × V):=[(.inr "script",.ref a),(.inr "at",.int at_),(.inr "left",.int l)]
theorem pen_s {a:Addr}{t l:Int}:valV (penKV a t l) (.inr "script")=some (.ref a):=by unfold penKV; rw [valV_pos rfl]
theorem key_sa:¬ (Sum.inr "script" : Key)=(Sum.inr "at" : Key):=by decide
theorem key_sl:¬ (Sum.inr "script" : Key)=(Sum.inr "left" : Key):=by decide
theorem key_al:¬ (Sum.inr "at" : Key)=(Sum.inr "left" : Key):=by decide
theorem pen_a {a:Addr}{t l:Int}:valV (penKV a t l) (.inr "at")=some (.int t):=by unfold penKV; rw [valV_neg key_sa,valV_pos rfl]
theorem pen_l {a:Addr}{t l:Int}:valV (penKV a t l) (.inr "left")=some (.int l):=by unfold penKV; rw [valV_neg key_sl,valV_neg key_al,valV_pos rfl]
theorem pen_len {a:Addr}{t l:Int}:((penKV a t l).length < sizeLine)=True:=eq_true (qJ (by decide:3 < 1000) (le_size (by decide)))
theorem pen_pa {a:Addr}{t l x:Int}:putK (penKV a t l) (.inr "at") (.int x)=penKV a x l:=by
 unfold putK
 rw [valV_any,pen_a]
 rfl
theorem pen_pl {a:Addr}{t l x:Int}:putK (penKV a t l) (.inr "left") (.int x)=penKV a t x:=by
 unfold putK
 rw [valV_any,pen_l]
 rfl
end L2
set_option Elab.async false
set_option linter.all false
set_option maxRecDepth 100000
namespace L2
open PySem PySem.Spec PyProof.Rows
def Itv (K:PySem.W.Frag)(a:Addr)(n:Nat):It :=
 ⟨fun i H=>i < n /\ ∃ xs,SqL K H a xs /\ xs.length=n,fun i H x H'=>H'=H /\ ∀ xs,SqL K H a xs -> xs.length=n -> xs[n - 1 - i]? = some x,fun i H=>i=n⟩
theorem turn_rev {P:Program}{w:World}{K:PySem.W.Frag}{tg:Expr}(a it:Addr)(n:Nat):Turn P w K tg (Itv K a n) [it] it (fun i h=>i <= n /\ h.IsRevIter it a ((n:Int) - 1 - (i:Int))) where
 mem:=by simp
 obj:=fun i h st b hb=>by
  have e:b=it:=by simpa using hb
  subst e
  obtain ⟨_,o,e,c,d⟩:=st
  exact ⟨o,e,fun v z=>by rw [d] at z; cases z⟩
 keep:=fun i h h' st k=>⟨st.1,st.2.at fun o e=>k it (by simp) o e⟩
 item:=by
  intro X hP hw hK hc i pins s σ H E I hf st hg
  subst hP hw hK
  obtain ⟨hi,xs,hq,hn⟩:=hg
  obtain ⟨its,rv,p,hz⟩:=I.list hq
  have hlt:n - 1 - i < xs.length:=by omega
  obtain ⟨u,hu,ru⟩:=rv.get (qA hlt)
  obtain ⟨f0,f1,f2,f3,f4,f5⟩:=hf it (by simp)
  have e1:(n:Int) - 1 - (i:Int)=((n - 1 - i:Nat):Int):=by omega
  have st2:=st.2
  rw [e1] at st2
  refine wpAny_pyNext_rev_item st2 p.isList (x:=u) (by simpa using hu) fun h' st' sb=>?_
  have I1:Inv X pins σ H { s with heap:=h' }:=I.turned (t':=s.toks) (fun b o hb e=>(sb.2 b hb).trans e) f0 f1 f3 f4 f5
  obtain ⟨o,e,c,d⟩:=id st'
  have e2:((n - 1 - i:Nat):Int) - 1=(n:Int) - 1 - ((i+1:Nat):Int):=by omega
  rw [e2] at st'
  exact ⟨u,rfl,go_of (s:={ s with heap:=h' }) e c d (by decide) ⟨xs[n - 1 - i],H,I1,ru,⟨rfl,fun ys hy _=>by rw [I.list_inj hy hq]; exact qA hlt⟩,⟨hi,st'⟩,fun b hb=>(hf b hb).1⟩⟩
 done:=by
  intro X hP hw hK hc i pins s σ H E I hf st hg
  subst hP hw hK
  obtain ⟨f0,f1,f2,f3,f4,f5⟩:=hf it (by simp)
  have hg:i=n:=hg
  have st2:=st.2
  rw [show (n:Int) - 1 - (i:Int) = -1 by omega] at st2
  exact wpAny_pyNext_rev_end (I.ok.hd hc) st2 fun h' eb=>⟨rfl,I.turned (t':=s.toks) (fun b o hb e=>eb b o hb e) f0 f1 f3 f4 f5⟩
 self:=fun _ _ _ _ _ st h=>wpAny_pyIter_revIter st.2 h
def iRev (K:PySem.W.Frag)(ta:TA):TI:=fun σ H R=>ta σ H fun vs H1=>∃ a xs,vs=[.ref a] /\ SqL K H1 a xs /\ R (Itv K a xs.length) H1
theorem pi_rev {X:Cx} {tg a:Expr} {ta:TA} {p pos:Pos} (hg:Gl X "reversed") (hm:X.mg "reversed" = none) (ha:PA X [a] ta) (hs:starEach [a] X.env=[(false,eval a X.env)]:=by rfl):PI X tg (.Call (.Name "reversed" p) [a] [] pos) (iRev X.K ta):=by
 intro pins s σ H R I h
 refine Call_ (ld_blt I hg hm bo_reversed (PyProof.Rows.callWith_type1 (thn (ha pos pins s σ H _ I h) fun us s1 ⟨vs,H1,I1,r1,q1⟩=>?_) hs rfl))
 obtain ⟨l,xs,e,hq,q⟩:=q1
 subst e
 obtain ⟨u,rfl,ru⟩:=Vals.one r1
 cases ru
 obtain ⟨its,rv,pl,hz⟩:=I1.list hq
 have hlen:its.toArray.size=xs.length:=by rw [qM,rv.length]
 refine call_reversed_list pl.isList ?_
 rw [hlen]
 have I2:Inv X pins σ H1 { s1 with heap:=s1.heap.push (revObj l ((xs.length:Int) - 1)) }:=I1.kept (t':=s1.toks) fun b o e=>Heap.get?_push_of_some _ e
 have st:(s1.heap.push (revObj l ((xs.length:Int) - 1))).IsRevIter s1.heap.objs.size l ((xs.length:Int) - 1 - ((0:Nat):Int)):=by
  rw [show (xs.length:Int) - 1 - ((0:Nat):Int)=(xs.length:Int) - 1 by omega]
  exact ⟨_,Heap.get?_push_size _ rfl,rfl,rfl⟩
 refine wpAny_pyIter_revIter st ?_
 refine ⟨s1.heap.objs.size,[s1.heap.objs.size],_,_,H1,rfl,I2,turn_rev l _ xs.length,⟨Nat.zero_le _,st⟩,fun b hb=>?_,q⟩
 have e:b=s1.heap.objs.size:=by simpa using hb
 subst e
 exact I1.fpOk (Nat.le_refl _) (I1.hok.fresh (Nat.le_refl _))
def ForV (K:PySem.W.Frag)(a:Addr)(n:Nat)(g:TG)(tb:TS)(D:Ends)(σ:St)(H:Hp):Prop:=∃ W:Nat -> Nat -> St -> Hp -> Prop,(∃ m,W 0 m σ H) /\ ∀ i m σ H,W i m σ H ->
 ((Itv K a n).stop i H /\ D.nx σ H) \/ ((Itv K a n).go i H /\ ∃ N:St -> Hp -> Prop,(∀ σ' H',N σ' H' -> ∃ m',m' < m /\ W (i+1) m' σ' H') /\ ∀ x H',(Itv K a n).yld i H x H' -> g x σ H' fun σ2 H2=>tb { D with nx:=N,ct:=N,bk:=D.nx } σ2 H2)
section
variable {σ:St}{H:Hp}{D:Ends}{g:TG}{tb:TS}{K:PySem.W.Frag}{a:Addr}
theorem w_forV {ta:TA}:tFor (iRev K ta) g tb D σ H=(ta σ H fun vs H1=>∃ a xs,vs=[.ref a] /\ SqL K H1 a xs /\ ForV K a xs.length g tb D σ H1):=rfl
theorem forV {xs:List V}(Pv:Nat -> St -> Hp -> Prop)(h0:Pv 0 σ H)(hl:∀ i σ H,i <= xs.length -> Pv i σ H -> SqL K H a xs)
  (hs:∀ i x σ H (N:St -> Hp -> Prop),xs.reverse[i]? = some x -> Pv i σ H -> (∀ σ' H',Pv (i+1) σ' H' -> N σ' H') -> g x σ H fun σ2 H2=>tb { D with nx:=N,ct:=N,bk:=D.nx } σ2 H2) (hd:∀ σ H,Pv xs.length σ H -> D.nx σ H):ForV K a xs.length g tb D σ H:=by
 refine ⟨fun i m σ H=>m=xs.length - i /\ i <= xs.length /\ Pv i σ H,⟨xs.length,by simp,Nat.zero_le _,h0⟩,?_⟩
 rintro i m σ H ⟨rfl,hi,p⟩
 have q:=hl i σ H hi p
 by_cases hlt:i < xs.length
 ·refine .inr ⟨⟨hlt,xs,q,rfl⟩,Pv (i+1),fun σ' H' p'=>⟨xs.length - (i+1),by omega,rfl,hlt,p'⟩,fun x H' y=>?_⟩
  obtain ⟨e,y⟩:=y
  subst e
  refine hs i x σ _ (Pv (i+1)) ?_ p fun _ _ z=>z
  rw [List.getElem?_reverse hlt]
  exact y xs q rfl
 ·have e:i=xs.length:=by omega
  subst e
  exact .inl ⟨rfl,hd σ H p⟩
end
end L2
set_option Elab.async false
set_option linter.all false
set_option maxRecDepth 100000
namespace L2
open PySem
def fs (n:Int):Int:=if n % 2=0 then 0 else 2 - n % 4
def nafF:Nat -> Int -> List Int
 | 0,_=>[]
 | k+1,n=>if n=0 then [] else fs n :: nafF k ((n - fs n) / 2)
def naf (n:Int):List Int:=nafF n.natAbs n
end L2
set_option Elab.async false
set_option linter.all false
set_option maxRecDepth 100000
namespace L2
open PySem PySem.Spec PyProof.Rows
def wt (ds:List Int):Nat:=(ds.filter fun d=>decide (d ≠ 0)).length
def tWhl (c:TT)(tb:TS):TS:=fun D σ H=>∃ W:Nat -> St -> Hp -> Prop,(∃ m,W m σ H) /\ ∀ m σ H,W m σ H -> ∀ N:St -> Hp -> Prop,(∀ m' σ' H',m' < m -> W m' σ' H' -> N σ' H') ->
 c σ H fun b H1=>if b=true then tb { D with nx:=N,ct:=N,bk:=D.nx } σ H1 else D.nx σ H1
theorem ps_whl {X:Cx}{pos:Pos}{c:Expr}{body:List Stmt}{tc:TT}{tb:TS}(hp:PassesOwn (model X.prog X.w) X.A X.env X.xe)(hc:PT X c tc)(hb:PSs X body tb):PS X (.While c body [] pos) (tWhl tc tb):=by
 intro pins s σ H D I h
 obtain ⟨W,⟨m0,w0⟩,turn⟩:=h
 refine wpAny_While (codeAny_whileLoop (fun n s'=>∃ σ' H',Inv X pins σ' H' s' /\ W n σ' H') ?_ m0 ⟨σ,H,I,w0⟩)
 rintro n s1 ⟨σ1,H1,I1,w1⟩
 refine wpAny_passesOwn hp (thn (hc pins s1 σ1 H1 _ I1 (turn n σ1 H1 w1 (fun σ' H'=>∃ m',m' < n /\ W m' σ' H') fun m' _ _ l z=>⟨m',l,z⟩)) fun b s2 ⟨H2,I2,q2⟩=>?_)
 cases b with
 | true =>
  rw [if_pos rfl] at q2 ⊢
  refine wpAny_passesOwn hp (thn (hb pins s2 σ1 H2 _ I2 q2) fun f s3 q3=>?_)
  cases f with
  | next =>
   obtain ⟨σ3,H3,I3,m',hm,w3⟩:=q3
   exact ⟨m',hm,σ3,H3,I3,w3⟩
  | cont =>
   obtain ⟨σ3,H3,I3,m',hm,w3⟩:=q3
   exact ⟨m',hm,σ3,H3,I3,w3⟩
  | brk=>exact q3
  | ret v=>exact q3
 | false =>
  rw [if_neg Bool.false_ne_true] at q2 ⊢
  exact wpAny_execs_nil ⟨σ1,H2,I2,q2⟩
theorem whl {c:TT}{tb:TS}{D:Ends}{σ:St}{H:Hp}(Pv:Nat -> St -> Hp -> Prop)(m:Nat)(h0:Pv m σ H)
  (hs:∀ m σ H (N:St -> Hp -> Prop),Pv m σ H -> (∀ m' σ' H',m' < m -> Pv m' σ' H' -> N σ' H') -> c σ H fun b H1=>if b=true then tb { D with nx:=N,ct:=N,bk:=D.nx } σ H1 else D.nx σ H1):tWhl c tb D σ H :=
 ⟨Pv,⟨m,h0⟩,fun m σ H p N hN=>hs m σ H N p hN⟩
theorem filterMap_some {α β:Type}(f:α -> β)(xs:List α):xs.filterMap (fun x=>some (f x))=xs.map f:=by
 induction xs with
 | nil=>rfl
 | cons x r ih=>rw [List.filterMap_cons,ih]; rfl
end L2
set_option Elab.async false
set_option linter.all false
set_option maxRecDepth 100000
namespace L2
open PySem
theorem le_big {n:Nat}(h:n <= 100000):n <= sizeLine:=Nat.le_trans h (by decide)
theorem lt_big {n:Nat}(h:n < 100000):n < sizeLine:=qJ h (by decide)
theorem same_upd {H H':Hp}{r:Addr}{o:HO}(h:H r=none)(s:Same H H'):Same H (upd H' r o):=fun b u q=>by rw [upd_ne (ne_of_none q h)]; exact s b u q
def On2 (vs:List V)(P:Int -> Int -> Prop):Prop:=∃ i j,vs=[.int i,.int j] /\ P i j
theorem w_On2 {i j:Int}{P:Int -> Int -> Prop}:On2 [.int i,.int j] P=P i j:=propext ⟨fun ⟨i',j',e,q⟩=>by cases e; exact q,fun q=>⟨i,j,rfl,q⟩⟩
section
variable {σ:St}{H:Hp}{D:Ends}{g:TG}{tb:TS}{K:PySem.W.Frag}{Q:VK}{nt:Nat}{cs:List Nat}{tt:TT}{te:TE}
theorem w_for2b {ta:TA}:tFor (iRng2 ta) g tb D σ H=(ta σ H fun vs H1=>On2 vs fun i j=>(-(2 ^ 62) <= i /\ i < 2 ^ 62 /\ -(2 ^ 62) <= j /\ j < 2 ^ 62) /\ ForR i (j - i).toNat g tb D σ H1):=rfl
theorem w_comp2b {ta:TA}:tComp (iRng2 ta) nt cs g tt te σ H Q=(ta σ H fun vs H1=>On2 vs fun i j=>(-(2 ^ 62) <= i /\ i < 2 ^ 62 /\ -(2 ^ 62) <= j /\ j < 2 ^ 62) /\ CompIt (Itr i (j - i).toNat) nt cs g tt te σ H1 Q):=rfl
end
end L2
set_option Elab.async false
set_option linter.all false
set_option maxRecDepth 100000
namespace L2
open PySem
abbrev wn (n:Int):Nat:=wt (naf n)
theorem w_neB {a b:Bool}{H:Hp}{Q:VK}:rNe (.bl a) (.bl b) H Q=Q (.bl (!decide (a=b))) H :=
 propext (by
  have e:decide (V.bl a=V.bl b)=decide (a=b):=by by_cases h:a=b <;> simp [h]
  unfold rNe; rw [e]; exact ⟨fun h=>h.2,fun h=>⟨rfl,h⟩⟩)
theorem w_eqB {a b:Bool}{H:Hp}{Q:VK}:rEq (.bl a) (.bl b) H Q=Q (.bl (decide (a=b))) H :=
 propext (by
  have e:decide (V.bl a=V.bl b)=decide (a=b):=by by_cases h:a=b <;> simp [h]
  unfold rEq; rw [e]; exact ⟨fun h=>h.2,fun h=>⟨rfl,h⟩⟩)
end L2
set_option Elab.async false
set_option linter.all false
set_option maxRecDepth 100000
namespace L2
open PySem
abbrev SS:=List (Int × Int) × List Int
def stp (m:Int)(s:SS)(o:Int):SS:=if (s.1.lookup o).isSome=false /\ (if o < 0 then -o else o) < 200 then (s.1 ++ [(o,m)],s.2 ++ [o]) else s
def kin (m n:Int)(s:SS)(k:Nat):SS:=stp m (stp m s (n+1 * 2 ^ k)) (n - 1 * 2 ^ k)
end L2
set_option Elab.async false
set_option linter.all false
set_option maxRecDepth 100000
set_option maxHeartbeats 1000000
namespace L2
open PySem PySem.Spec PyProof.Rows
section
variable {prog:Program}{w:World}{A:Around}{R:Result -> Shared -> Prop}{I S:Addr}{fp wr:List Addr}{n:Nat}{P:Nat -> Value -> Prop}{St:Nat -> Heap -> Prop}{bt:Nat -> Nat -> Bool}{d:Value}
end
section
variable {prog:Program}{w:World}{A:Around}{E:Value -> Shared -> Prop}{s:Shared}{d x:Value}
end
def mz:List Int -> Int
 | []=>0
 | x :: r=>if mz r < x then x else mz r
section
variable {X:Cx}{e:Expr}{es:List Expr}{kws:List Keyword}{t tk:TA}{p pos:Pos}
def tMaxD (t tk:TA):TE:=fun σ H Q=>t σ H fun vs H1=>tk σ H1 fun zs H2=>∃ (p:Addr) (ns:List Int),vs=[.ref p] /\ zs=[.int 0] /\ H2 p=some (.lst (ns.map V.int)) /\ (∀ n ∈ ns,0 <= n) /\ Q (.int (mz ns)) H2
end
section
variable {K:PySem.W.Frag}{σ:St}{H:Hp}{Q:VK}
theorem w_maxD {t tk:TA}:tMaxD t tk σ H Q=t σ H fun vs H1=>tk σ H1 fun zs H2=>∃ (p:Addr) (ns:List Int),vs=[.ref p] /\ zs=[.int 0] /\ H2 p=some (.lst (ns.map V.int)) /\ (∀ n ∈ ns,0 <= n) /\ Q (.int (mz ns)) H2:=rfl
theorem w_sl {r:V -> Option Int -> Option Int -> Hp -> VK -> Prop}{te:TE}{tl th:TO}:tSl r te tl th σ H Q=te σ H fun x H1=>tl σ H1 fun l H2=>th σ H2 fun u H3=>r x l u H3 Q:=rfl
theorem w_noPart {R:Option Int -> Hp -> Prop}:tNoPart σ H R=R none H:=rfl
theorem w_part {t:TE}{R:Option Int -> Hp -> Prop}:tPart t σ H R=t σ H fun x H1=>∃ i,x = .int i /\ R (some i) H1:=rfl
theorem w_slL {a:Addr}{lo hi:Option Int}:rSlL K (.ref a) lo hi H Q = ∃ xs,SqL K H a xs /\ ∀ p,H p=none -> Q (.ref p) (upd H p (.lst (cutV xs lo hi))) :=
 propext ⟨fun ⟨a',xs,e,h,q⟩=>by cases e; exact ⟨xs,h,q⟩,fun ⟨xs,h,q⟩=>⟨a,xs,rfl,h,q⟩⟩
def liI (g:Int -> Int):V -> Option V:=fun x=>match x with
 | .int n=>some (.int (g n))
 | _=>none
theorem liI_map (g:Int -> Int):∀ (ns:List Int),(ns.map V.int).filterMap (liI g)=(ns.map g).map V.int
 | []=>rfl
 | n :: r=>by
  rw [List.map_cons,List.filterMap_cons_some (f:=liI g) (a:=V.int n) (b:=V.int (g n)) rfl,liI_map g r]
  rfl
end
end L2
set_option Elab.async false
set_option linter.all false
set_option maxRecDepth 100000
set_option maxHeartbeats 1000000
namespace L2
open PySem PySem.Spec PyProof.Rows
section
variable {σ:St}{H:Hp}{Q:VK}{D:Ends}
theorem w_aug {i:Nat}{te:TE}{ti:TIp}:tAug i te ti D σ H = ∃ x,σ[i]? = some (some x) /\ te σ H fun y H1=>ti x y H1 fun z H2=>D.nx (σ.set i (some z)) H2:=rfl
theorem w_ipI {f:Int -> Int -> Int}{i j:Int}:ipI f (.int i) (.int j) H Q=Q (.int (f i j)) H:=propext ⟨fun ⟨_,_,e1,e2,q⟩=>by cases e1; cases e2; exact q,fun q=>⟨i,j,rfl,rfl,q⟩⟩
theorem w_dnK:tDNewK σ H Q = ∀ p,H p=none -> Q (.ref p) (upd H p (.dK [])):=rfl
end
structure Dd where
 g:Int
 a:Nat
 s:Nat
 b:Nat
 t:Nat
def dnum (ns:List Int)(d:Dd):Int:=ns.getD d.a 0 * 2 ^ d.s+d.g * (ns.getD d.b 0 * 2 ^ d.t)
def ev (ds:List Dd):List Int:=ds.foldl (fun ns d=>ns ++ [dnum ns d]) [1]
theorem snoc_ind {α:Type}{p:List α -> Prop}(h0:p [])(hs:∀ xs x,p xs -> p (xs ++ [x]))(xs:List α):p xs:=by
 have:p xs.reverse.reverse:=by
  generalize xs.reverse=ys
  induction ys with
  | nil=>exact h0
  | cons y r ih=>rw [List.reverse_cons]; exact hs _ _ ih
 rwa [List.reverse_reverse] at this
section
variable {X:Cx}
end
section
variable {K:PySem.W.Frag}{H:Hp}{Q:VK}
theorem w_ixT {p:Addr}{i:Int}:rIxT K (.ref p) (.int i) H Q = ∃ xs,SqT K H p xs /\ ∃ v,atI xs i=some v /\ Q v H :=
 propext ⟨fun ⟨p',xs,i',v,e1,e2,h,a,q⟩=>by cases e1; cases e2; exact ⟨xs,h,v,a,q⟩,fun ⟨xs,h,v,a,q⟩=>⟨p,xs,i,v,rfl,rfl,h,a,q⟩⟩
theorem w_eqS {x y:Str}:rEq (.str x) (.str y) H Q=Q (.bl (decide (x=y))) H :=
 propext (by
  have e:decide (V.str x=V.str y)=decide (x=y):=by by_cases h:x=y <;> simp [h]
  unfold rEq
  rw [e]
  exact ⟨fun h=>h.2,fun h=>⟨rfl,h⟩⟩)
end
end L2
set_option Elab.async false
set_option linter.all false
set_option maxRecDepth 100000
set_option maxHeartbeats 1000000
namespace L2
open PySem PySem.Spec PyProof.Rows
theorem Inv.turnedL {X:Cx}{pins:List (Addr × Obj)}{σ:St}{H:Hp}{s:Shared}{h':Heap}{t':Nat}(ch:List Addr)(I:Inv X pins σ H s)(k:∀ b o,b ∉ ch -> s.heap.get? b=some o -> h'.get? b=some o)(hf:∀ b ∈ ch,FpOk X pins H b):Inv X pins σ H { s with heap:=h',toks:=t' }:=by
 have nit:∀ b u,H b=some u -> b ∉ ch:=fun b u e z=>by rw [(hf b z).1] at e; cases e
 refine I.step (g':=s.gens) (d':=s.drawn) (ch:=ch) (fun b hb=>?_) (fun b o _ _ hc e _=>k b o hc e) (fun b o _ _ hc e _=>⟨o.slots,k b o hc e⟩) (fun _ _ _ _ n=>n)
  (fun b o hc e=>⟨o,k b o hc e⟩) (fun _ _ e=>e) (fun _ _ _ e=>e) (fun b ps e=>⟨#[],by rw [e]; simp⟩) (fun m hm=>?_) (fun b u e=>?_) I.bare
 ·obtain ⟨f0,f1,f2,f3,f4,f5⟩:=hf b hb
  exact ⟨f3,f1,f4,f5⟩
 ·obtain ⟨o,es,ep,ho,r⟩:=hm
  exact ⟨o,es,ep,k _ o (fun z=>(hf _ z).2.1 rfl) ho,r⟩
 ·refine (I.hok b u e).stay (fun c v hc q=>k c v ?_ q) (fun _ q=>q) fun _ _ q=>q
  rcases hc with z | z
  ·rw [z]; exact nit b u e
  ·exact nit c _ z
theorem get_push_ne {h:Heap}{b:Addr}{o o':Obj}(n:b ≠ h.objs.size)(e:(h.push o').get? b=some o):h.get? b=some o:=by
 rw [Heap.get?_push_ne h b o' n] at e
 exact e
def Itz (K : PySem.W.Frag)(a b : Addr) : It :=
  ⟨fun i H => ∃ xs ys, SqL K H a xs ∧ SqL K H b ys ∧ i < xs.length ∧ i < ys.length,
   fun i H x H' => ∃ T u v, x = .ref T ∧ H T = none ∧ H' = upd H T (.tup [u, v]) ∧ (∀ xs, SqL K H a xs → xs[i]? = some u) ∧ (∀ ys, SqL K H b ys → ys[i]? = some v),
   fun i H => ∃ xs ys, SqL K H a xs ∧ SqL K H b ys ∧ (xs.length ≤ i ∨ ys.length ≤ i)⟩
def tnZ (z TI TO i1 i2 a b:Addr)(i:Nat)(h:Heap):Prop:=IsZip h z TI TO .none /\ IsPair h TI (.ref i1) (.ref i2) /\ (∃ x y,IsPair h TO x y) /\ h.IsListIter i1 a i /\ h.IsListIter i2 b i
theorem turn_zip {P:Program}{w:World}{K:PySem.W.Frag}{elts:List Expr}{x1:Nat}{pos:Pos}{z TI TO i1 i2 a b:Addr}(D:ZipApart z TI TO i1 i2 a b):Turn P w K (.Tuple elts x1 pos) (Itz K a b) [z,TI,TO,i1,i2] z (tnZ z TI TO i1 i2 a b) where
 mem:=by simp
 obj:=fun i h st c hc=>by
  obtain ⟨t1,t2,⟨x0,y0,t3⟩,⟨o4,e4,c4,d4⟩,⟨o5,e5,c5,d5⟩⟩:=st
  simp only [List.mem_cons,List.not_mem_nil,or_false] at hc
  rcases hc with e | e | e | e | e <;> subst e
  ·exact ⟨_,t1,fun v q=>by cases q⟩
  ·exact ⟨_,t2,fun v q=>by cases q⟩
  ·exact ⟨_,t3,fun v q=>by cases q⟩
  ·exact ⟨o4,e4,fun v q=>by rw [d4] at q; cases q⟩
  ·exact ⟨o5,e5,fun v q=>by rw [d5] at q; cases q⟩
 keep:=fun i h h' st k=>by
  obtain ⟨t1,t2,⟨x0,y0,t3⟩,t4,t5⟩:=st
  exact ⟨k z (by simp) _ t1,k TI (by simp) _ t2,⟨x0,y0,k TO (by simp) _ t3⟩,t4.at fun o e=>k i1 (by simp) o e,t5.at fun o e=>k i2 (by simp) o e⟩
 item:=by
  intro X hP hw hK hc i pins s σ H E I hf st hg
  subst hP hw hK
  obtain ⟨xs,ys,hq,hq2,hi,hi2⟩:=hg
  obtain ⟨its,rv,p,hz⟩:=I.list hq
  obtain ⟨its2,rv2,p2,hz2⟩:=I.list hq2
  obtain ⟨u,hu,ru⟩:=rv.get (qA hi)
  obtain ⟨v,hv,rv'⟩:=rv2.get (qA hi2)
  obtain ⟨t1,t2,⟨x0,y0,t3⟩,t4,t5⟩:=st
  have hl1:z < s.heap.objs.size:=Heap.lt_size t1
  have hl3:TO < s.heap.objs.size:=Heap.lt_size t3
  have hl2:TI < s.heap.objs.size:=Heap.lt_size t2
  have hl4:i1 < s.heap.objs.size:=by obtain ⟨o,e,_⟩:=t4; exact Heap.lt_size e
  have hl5:i2 < s.heap.objs.size:=by obtain ⟨o,e,_⟩:=t5; exact Heap.lt_size e
  refine wpAny_pyNext_zip_item D t1 t2 t3 t4 t5 p.isList p2.isList (x:=u) (y:=v) (by simpa using hu) (by simpa using hv) fun h' a1 a2 a3 a4 a5 a6 a7=>⟨_,rfl,?_⟩
  refine wpAny_letOwnedTupleGo_zip a1 fun h2 b1 b2=>?_
  have hT0:H s.heap.objs.size=none:=I.hok.fresh (Nat.le_refl _)
  have I1:Inv X pins σ (upd H s.heap.objs.size (.tup [xs[i],ys[i]])) { s with heap:=s.heap.push { cls:=.type "tuple",data:=.seq [u,v].toArray } } :=
   I.laid (t':=s.toks) (fun b o e=>Heap.get?_push_of_some _ e) (Nat.le_refl _) (show ObjOk X.prog X.w _ _ _ (.tup [xs[i],ys[i]]) from ⟨le_size (by show 2 <= 1000; decide),[u,v],.cons ru (.cons rv' .nil),IsTup.new _ _⟩)
  have fpk:∀ c ∈ [z,TI,TO,i1,i2],c ≠ s.heap.objs.size:=fun c hc=>by
   simp only [List.mem_cons,List.not_mem_nil,or_false] at hc
   rcases hc with e | e | e | e | e <;> subst e <;> exact Nat.ne_of_lt (by assumption)
  have fp2:∀ c ∈ [z,TI,TO,i1,i2],FpOk X pins (upd H s.heap.objs.size (.tup [xs[i],ys[i]])) c:=fun c hc=>by
   obtain ⟨f0,f⟩:=hf c hc
   exact ⟨by rw [upd_ne (fpk c hc)]; exact f0,f⟩
  have I2:Inv X pins σ (upd H s.heap.objs.size (.tup [xs[i],ys[i]])) { s with heap:=h2 }:=by
   refine Inv.turnedL (s:={ s with heap:=s.heap.push { cls:=.type "tuple",data:=.seq [u,v].toArray } }) (t':=s.toks) (h':=h2) [z,TO,i1,i2] I1 (fun b o hb e=>?_) (fun c hc=>fp2 c (by simp only [List.mem_cons,List.not_mem_nil,or_false] at hc ⊢; rcases hc with e | e | e | e <;> simp [e]))
   simp only [List.mem_cons,List.not_mem_nil,or_false,not_or] at hb
   obtain ⟨n1,n2,n3,n4⟩:=hb
   refine (b2.2 b n1).trans ?_
   by_cases hT:b=s.heap.objs.size
   ·subst hT
    rw [Heap.get?_push_size _ rfl] at e
    rw [← e]
    exact a5
   ·exact a7 b o n1 n2 n3 n4 (get_push_ne hT e)
  have t4':h2.IsListIter i1 a (i+1):=a3.at fun o e=>(b2.2 _ D.i1z).trans e
  have t5':h2.IsListIter i2 b (i+1):=a4.at fun o e=>(b2.2 _ D.i2z).trans e
  refine ⟨.ref s.heap.objs.size,_,I2,rfl,⟨_,xs[i],ys[i],rfl,hT0,rfl,fun zs h=>?_,fun zs h=>?_⟩,⟨b1,(b2.2 _ D.TIz).trans (a7 TI _ D.TIz D.TITO D.TIi1 D.TIi2 t2),⟨_,_,(b2.2 _ D.TOz).trans a2⟩,t4',t5'⟩,fun c hc=>(fp2 c hc).1⟩
  ·rw [I.list_inj h hq]; exact qA hi
  ·rw [I.list_inj h hq2]; exact qA hi2
 done:=by
  intro X hP hw hK hc i pins s σ H E I hf st hg
  subst hP hw hK
  obtain ⟨xs,ys,hq,hq2,hend⟩:=hg
  obtain ⟨its,rv,p,hz⟩:=I.list hq
  obtain ⟨its2,rv2,p2,hz2⟩:=I.list hq2
  obtain ⟨t1,t2,⟨x0,y0,t3⟩,t4,t5⟩:=st
  refine wpAny_pyNext_zip_end (I.ok.hd hc) D t1 t2 t3 t4 t5 p.isList p2.isList ?_ fun h' a7=>⟨rfl,?_⟩
  ·rcases hend with e | e
   ·left; simp [← rv.length,e]
   ·right; simp [← rv2.length,e]
  ·refine Inv.turnedL (t':=s.toks) (h':=h') [z,TO,i1,i2] I (fun b o hb e=>?_) (fun c hc=>hf c (by simp only [List.mem_cons,List.not_mem_nil,or_false] at hc ⊢; rcases hc with e | e | e | e <;> simp [e]))
   simp only [List.mem_cons,List.not_mem_nil,or_false,not_or] at hb
   obtain ⟨n1,n2,n3,n4⟩:=hb
   exact a7 b o n1 n2 n3 n4 e
 self:=fun _ _ _ _ _ st h=>wpAny_pyIter_zip st.1 h
def iZip (K:PySem.W.Frag)(ta:TA):TI:=fun σ H R=>ta σ H fun vs H1=>∃ a b xs ys,vs=[.ref a,.ref b] /\ SqL K H1 a xs /\ SqL K H1 b ys /\ R (Itz K a b) H1
theorem pi_zip {X:Cx} {elts:List Expr} {x1:Nat} {tpos:Pos} {a b:Expr} {ta:TA} {p pos:Pos} (hg:Gl X "zip") (hm:X.mg "zip" = none) (ha:PA X [a,b] ta) (hs:starEach [a,b] X.env=(false,eval a X.env) :: starEach [b] X.env:=by rfl) (hpl:(backTo pos (starEach [b] X.env)).any (·.1)=false:=by rfl) :
  PI X (.Tuple elts x1 tpos) (.Call (.Name "zip" p) [a,b] [] pos) (iZip X.K ta):=by
 intro pins s σ H R I h
 refine Call_ (ld_blt I hg hm bo_zip (PyProof.Rows.callWith_type1 (thn (ha pos pins s σ H _ I h) fun us s1 ⟨vs,H1,I1,r1,q1⟩=>?_) hs hpl))
 obtain ⟨l1,l2,xs,ys,e,hq,hq2,q⟩:=q1
 subst e
 obtain ⟨u1,u2,rfl,ru1,ru2⟩:=vals2 r1
 cases (show u1=Value.ref l1 from ru1)
 cases (show u2=Value.ref l2 from ru2)
 obtain ⟨its,rv,pl,hz⟩:=I1.list hq
 obtain ⟨its2,rv2,pl2,hz2⟩:=I1.list hq2
 have lt1:l1 < s1.heap.objs.size:=by obtain ⟨o,e,_⟩:=pl.isList; exact Heap.lt_size e
 have lt2:l2 < s1.heap.objs.size:=by obtain ⟨o,e,_⟩:=pl2.isList; exact Heap.lt_size e
 refine call_zip_2 pl.isList pl2.isList fun h' z1 z2 z3 z4 z5 z6 z7=>?_
 have I2:Inv X pins σ H1 { s1 with heap:=h' }:=I1.kept (t':=s1.toks) z7
 refine wpAny_pyIter_zip z1 ?_
 have D:ZipApart (s1.heap.objs.size+4) (s1.heap.objs.size+2) (s1.heap.objs.size+3) s1.heap.objs.size (s1.heap.objs.size+1) l1 l2:=by
  have q1:@LT.lt Nat _ l1 s1.heap.objs.size:=lt1
  have q2:@LT.lt Nat _ l2 s1.heap.objs.size:=lt2
  constructor <;> (show ¬ @Eq Nat _ _; omega)
 refine ⟨s1.heap.objs.size+4,_,_,_,H1,rfl,I2,turn_zip D,⟨z1,z2,⟨_,_,z3⟩,z4,z5⟩,fun c hc=>?_,q⟩
 have hle:s1.heap.objs.size <= c:=by
  simp only [List.mem_cons,List.not_mem_nil,or_false] at hc
  show (s1.heap.objs.size:Nat) <= c
  rcases hc with e | e | e | e | e <;> subst e <;> (show @LE.le Nat _ _ _; omega)
 exact I1.fpOk hle (I1.hok.fresh hle)
end L2
set_option Elab.async false
set_option linter.all false
set_option maxRecDepth 100000
set_option maxHeartbeats 1000000
namespace L2
open PySem PySem.Spec PyProof.Rows
theorem bo_enumerate:bootBuiltins "enumerate" = some (.type "enumerate"):=by decide +kernel
def Ite (K : PySem.W.Frag)(a : Addr) : It :=
  ⟨fun i H => ∃ xs, SqL K H a xs ∧ i < xs.length,
   fun i H x H' => ∃ T u, x = .ref T ∧ H T = none ∧ H' = upd H T (.tup [.int (i : Int), u]) ∧ (∀ xs, SqL K H a xs → xs[i]? = some u),
   fun i H => ∃ xs, SqL K H a xs ∧ xs.length ≤ i⟩
theorem turn_enum {P:Program}{w:World}{K:PySem.W.Frag}{elts:List Expr}{x1:Nat}{pos:Pos}{e it a:Addr}(hne:e ≠ it):Turn P w K (.Tuple elts x1 pos) (Ite K a) [e,it] e (fun i h=>(∃ old,IsEnum h e it (i:Int) old) /\ h.IsListIter it a i) where
 mem:=by simp
 obj:=fun i h st c hc=>by
  obtain ⟨⟨old,t1⟩,⟨o2,e2,c2,d2⟩⟩:=st
  simp only [List.mem_cons,List.not_mem_nil,or_false] at hc
  rcases hc with z | z <;> subst z
  ·exact ⟨_,t1,fun v q=>by cases q⟩
  ·exact ⟨o2,e2,fun v q=>by rw [d2] at q; cases q⟩
 keep:=fun i h h' st k=>by
  obtain ⟨⟨old,t1⟩,t2⟩:=st
  exact ⟨⟨old,k e (by simp) _ t1⟩,t2.at fun o z=>k it (by simp) o z⟩
 item:=by
  intro X hP hw hK hc i pins s σ H E I hf st hg
  subst hP hw hK
  obtain ⟨xs,hq,hi⟩:=hg
  obtain ⟨its,rv,p,hz⟩:=I.list hq
  obtain ⟨u,hu,ru⟩:=rv.get (qA hi)
  obtain ⟨⟨old,t1⟩,t2⟩:=st
  have hl1:e < s.heap.objs.size:=Heap.lt_size t1
  have hl2:it < s.heap.objs.size:=by obtain ⟨o,z,_⟩:=t2; exact Heap.lt_size z
  refine wpAny_pyNext_enum_item t1 t2 p.isList (x:=u) (by simpa using hu) hne fun h' a1 a2 a3 a4 a5=>⟨_,rfl,?_⟩
  refine wpAny_letOwnedTupleGo_enum (s:={ s with heap:=h',toks:=s.toks+1 }) a1 fun h2 b1 b2=>?_
  have hT0:H s.heap.objs.size=none:=I.hok.fresh (Nat.le_refl _)
  have I1:Inv X pins σ (upd H s.heap.objs.size (.tup [.int (i:Int),xs[i]])) { s with heap:=s.heap.push { cls:=.type "tuple",data:=.seq [Value.int (i:Int) s.toks,u].toArray } } :=
   I.laid (t':=s.toks) (fun b o z=>Heap.get?_push_of_some _ z) (Nat.le_refl _) (show ObjOk X.prog X.w _ _ _ (.tup [.int (i:Int),xs[i]]) from ⟨le_size (by show 2 <= 1000; decide),[Value.int (i:Int) s.toks,u],.cons ⟨_,rfl⟩ (.cons ru .nil),IsTup.new _ _⟩)
  have fpk:∀ c ∈ [e,it],c ≠ s.heap.objs.size:=fun c hc=>by
   simp only [List.mem_cons,List.not_mem_nil,or_false] at hc
   rcases hc with z | z <;> subst z <;> exact Nat.ne_of_lt (by assumption)
  have fp2:∀ c ∈ [e,it],FpOk X pins (upd H s.heap.objs.size (.tup [.int (i:Int),xs[i]])) c:=fun c hc=>by
   obtain ⟨f0,f⟩:=hf c hc
   exact ⟨by rw [upd_ne (fpk c hc)]; exact f0,f⟩
  have I2:Inv X pins σ (upd H s.heap.objs.size (.tup [.int (i:Int),xs[i]])) { s with heap:=h2,toks:=s.toks+1 }:=by
   refine Inv.turnedL (s:={ s with heap:=s.heap.push { cls:=.type "tuple",data:=.seq [Value.int (i:Int) s.toks,u].toArray } }) (t':=s.toks+1) (h':=h2) [e,it] I1 (fun b o hb z=>?_) fp2
   simp only [List.mem_cons,List.not_mem_nil,or_false,not_or] at hb
   obtain ⟨n1,n2⟩:=hb
   refine (b2.2 b n1).trans ?_
   by_cases hT:b=s.heap.objs.size
   ·subst hT
    rw [Heap.get?_push_size _ rfl] at z
    rw [← z]
    exact a3
   ·exact a5 b o n1 n2 (get_push_ne hT z)
  have e1:((i:Int)+1)=((i+1:Nat):Int):=by omega
  rw [e1] at b1
  refine ⟨.ref s.heap.objs.size,_,I2,rfl,⟨_,xs[i],rfl,hT0,rfl,fun zs h=>?_⟩,⟨⟨_,b1⟩,a2.at fun o z=>(b2.2 _ hne.symm).trans z⟩,fun c hc=>(fp2 c hc).1⟩
  rw [I.list_inj h hq]; exact qA hi
 done:=by
  intro X hP hw hK hc i pins s σ H E I hf st hg
  subst hP hw hK
  obtain ⟨xs,hq,hend⟩:=hg
  obtain ⟨its,rv,p,hz⟩:=I.list hq
  obtain ⟨⟨old,t1⟩,t2⟩:=st
  refine wpAny_pyNext_enum_end (I.ok.hd hc) t1 t2 p.isList (by simp [← rv.length,hend]) fun h' a7=>⟨rfl,?_⟩
  refine Inv.turnedL (t':=s.toks) (h':=h') [it] I (fun b o hb z=>a7 b o (by simpa using hb) z) (fun c hc=>hf c (by simp only [List.mem_cons,List.not_mem_nil,or_false] at hc ⊢; exact .inr hc))
 self:=fun _ i s _ _ st h=>by
  obtain ⟨⟨old,t1⟩,t2⟩:=st
  exact wpAny_pyIter_enum t1 h
def iEnum (K:PySem.W.Frag)(ta:TA):TI:=fun σ H R=>ta σ H fun vs H1=>∃ a xs,vs=[.ref a] /\ SqL K H1 a xs /\ R (Ite K a) H1
theorem pi_enum {X:Cx} {elts:List Expr} {x1:Nat} {tpos:Pos} {a:Expr} {ta:TA} {p pos:Pos} (hg:Gl X "enumerate") (hm:X.mg "enumerate" = none) (ha:PA X [a] ta) (hs:starEach [a] X.env=[(false,eval a X.env)]:=by rfl) :
  PI X (.Tuple elts x1 tpos) (.Call (.Name "enumerate" p) [a] [] pos) (iEnum X.K ta):=by
 intro pins s σ H R I h
 refine Call_ (ld_blt I hg hm bo_enumerate (PyProof.Rows.callWith_type1 (thn (ha pos pins s σ H _ I h) fun us s1 ⟨vs,H1,I1,r1,q1⟩=>?_) hs rfl))
 obtain ⟨l1,xs,e,hq,q⟩:=q1
 subst e
 obtain ⟨u1,rfl,ru1⟩:=vals1 r1
 cases (show u1=Value.ref l1 from ru1)
 obtain ⟨its,rv,pl,hz⟩:=I1.list hq
 refine call_enumerate_list pl.isList fun h' z1 z2 z3 z4=>?_
 have I2:Inv X pins σ H1 { s1 with heap:=h' }:=I1.kept (t':=s1.toks) z4
 refine wpAny_pyIter_enum z1 ?_
 refine ⟨s1.heap.objs.size+1,_,_,_,H1,rfl,I2,turn_enum (by show ¬ @Eq Nat _ _; omega),⟨⟨_,z1⟩,z2⟩,fun c hc=>?_,q⟩
 have hle:s1.heap.objs.size <= c:=by
  simp only [List.mem_cons,List.not_mem_nil,or_false] at hc
  rcases hc with z | z <;> subst z <;> (show @LE.le Nat _ _ _; omega)
 exact I1.fpOk hle (I1.hok.fresh hle)
section
variable {K:PySem.W.Frag}{σ:St}{H:Hp}{Q:VK}
theorem comp_any {J:It}{nt:Nat}{cs:List Nat}{g:TG}{tt:TT}{te:TE}(n:Nat)(Pv:Addr -> Nat -> List V -> Hp -> Prop)(hz:n <= sizeLine)
  (hgo:∀ acc i ys H',i < n -> Pv acc i ys H' -> J.go i H') (hst:∀ acc ys H',Pv acc n ys H' -> J.stop n H')
  (h0:∀ acc,H acc=none -> Pv acc 0 [] (upd H acc (.lst []))) (hacc:∀ acc i ys H',Pv acc i ys H' -> H' acc=some (.lst ys) /\ ys.length <= i)
  (hs:∀ acc i ys H' (ts:St) x H2 (N:List V -> St -> Hp -> Prop),H acc=none -> i < n -> Pv acc i ys H' -> J.yld i H' x H2 -> ts.length=nt -> (∀ zs (ts':St) H3,ts'.length=nt -> Pv acc (i+1) zs H3 -> N zs (ts' ++ capV cs σ) H3) ->
   g x (ts ++ capV cs σ) H2 fun σ3 H3=>tt σ3 H3 fun b H4=>if b=true then te σ3 H4 fun y H5=>H5 acc=some (.lst ys) /\ N (ys ++ [y]) σ3 (upd H5 acc (.lst (ys ++ [y]))) else N ys σ3 H4)
  (hd:∀ acc ys H',H acc=none -> Pv acc n ys H' -> Q (.ref acc) H'):CompIt J nt cs g tt te σ H Q:=by
 intro acc hn
 refine ⟨fun i m ys σ' H'=>m=n - i /\ i <= n /\ (∃ ts:St,ts.length=nt /\ σ'=ts ++ capV cs σ) /\ Pv acc i ys H',⟨_,rfl,Nat.zero_le _,⟨qQ nt none,qL,rfl⟩,h0 acc hn⟩,?_⟩
 rintro i m ys σ' H' ⟨rfl,hi,⟨ts,hts,rfl⟩,p⟩
 obtain ⟨ha,hl⟩:=hacc acc i ys H' p
 refine ⟨ha,?_⟩
 by_cases hlt:i < n
 ·refine .inr ⟨hgo acc i ys H' hlt p,by omega,fun zs σ2 H2=>(∃ ts:St,ts.length=nt /\ σ2=ts ++ capV cs σ) /\ Pv acc (i+1) zs H2,fun zs σ2 H2 ⟨q1,q2⟩=>⟨n - (i+1),by omega,rfl,hlt,q1,q2⟩,fun x H2 y=>?_⟩
  exact hs acc i ys H' ts x H2 (fun zs σ2 H2=>(∃ ts:St,ts.length=nt /\ σ2=ts ++ capV cs σ) /\ Pv acc (i+1) zs H2) hn hlt p y hts fun zs ts' H3 h1 h2=>⟨⟨ts',h1,rfl⟩,h2⟩
 ·have e:i=n:=by omega
  subst e
  exact .inl ⟨hst acc ys H' p,hd acc ys H' hn p⟩
theorem w_compE {ta:TA}{nt:Nat}{cs:List Nat}{g:TG}{tt:TT}{te:TE}:tComp (iEnum K ta) nt cs g tt te σ H Q=(ta σ H fun vs H1=>∃ a xs,vs=[.ref a] /\ SqL K H1 a xs /\ CompIt (Ite K a) nt cs g tt te σ H1 Q):=rfl
theorem w_compZ {ta:TA}{nt:Nat}{cs:List Nat}{g:TG}{tt:TT}{te:TE}:tComp (iZip K ta) nt cs g tt te σ H Q=(ta σ H fun vs H1=>∃ a b xs ys,vs=[.ref a,.ref b] /\ SqL K H1 a xs /\ SqL K H1 b ys /\ CompIt (Itz K a b) nt cs g tt te σ H1 Q):=rfl
end
def Itr3 (lo c:Int)(n:Nat):It:=⟨fun i _=>i < n,fun i H x H'=>H'=H /\ x = .int (lo+i * c),fun i _=>n <= i⟩
def stepN (lo hi c:Int):Nat:=(Builtin.Range.rangeSize lo hi c).toNat
def iRng3 (ta:TA):TI:=fun σ H R=>ta σ H fun vs H1=>∃ i j c:Int,vs=[.int i,.int j,.int c] /\ (0 <= i /\ i < 2 ^ 31 /\ -1 <= j /\ j < 2 ^ 31 /\ c=2) /\ R (Itr3 i c (stepN i j c)) H1
def ForR3 (lo c:Int)(n:Nat)(g:TG)(tb:TS)(D:Ends)(σ:St)(H:Hp):Prop:=∃ W:Nat -> Nat -> St -> Hp -> Prop,(∃ m,W 0 m σ H) /\ ∀ i m σ H,W i m σ H ->
 ((Itr3 lo c n).stop i H /\ D.nx σ H) \/ ((Itr3 lo c n).go i H /\ ∃ N:St -> Hp -> Prop,(∀ σ' H',N σ' H' -> ∃ m',m' < m /\ W (i+1) m' σ' H') /\ ∀ x H',(Itr3 lo c n).yld i H x H' -> g x σ H' fun σ2 H2=>tb { D with nx:=N,ct:=N,bk:=D.nx } σ2 H2)
section
variable {σ:St}{H:Hp}{D:Ends}{g:TG}{tb:TS}{lo c:Int}{n:Nat}
theorem w_for3 {ta:TA}:tFor (iRng3 ta) g tb D σ H=(ta σ H fun vs H1=>∃ i j c:Int,vs=[.int i,.int j,.int c] /\ (0 <= i /\ i < 2 ^ 31 /\ -1 <= j /\ j < 2 ^ 31 /\ c=2) /\ ForR3 i c (stepN i j c) g tb D σ H1):=rfl
end
end L2
set_option Elab.async false
set_option linter.all false
set_option maxRecDepth 100000
set_option maxHeartbeats 1000000
namespace L2
open PySem PySem.Spec
theorem get_snoc {α:Type}{xs:List α}{x y:α}{i:Nat}(h:(xs ++ [x])[i]? = some y):(i < xs.length /\ xs[i]? = some y) \/ (i=xs.length /\ y=x):=by
 by_cases hi:i < xs.length
 ·rw [qH hi] at h
  exact .inl ⟨hi,h⟩
 ·rw [qG (by omega)] at h
  have hz:i - xs.length=0:=by
   cases hk:i - xs.length with
   | zero=>rfl
   | succ m=>rw [hk] at h; simp at h
  rw [hz] at h
  cases h
  exact .inr ⟨by omega,rfl⟩
theorem abs_le_of {a b:Int}{m n:Nat}{g h:Int}(hg:g=1 \/ g = -1)(hh:h=1 \/ h = -1)(ha:a.natAbs <= m)(hb:b.natAbs <= n):(g * a+h * b).natAbs <= m+n:=by
 rcases hg with e | e <;> rcases hh with e2 | e2 <;> subst e <;> subst e2 <;> omega
end L2
set_option Elab.async false
set_option linter.all false
set_option maxRecDepth 100000
set_option maxHeartbeats 1000000
namespace L2
open PySem PySem.Spec PyProof.Rows
def gTupK (K:PySem.W.Frag)(n:Nat)(t:TGs):TG:=gTup K n t
section
variable {K:PySem.W.Frag}{σ:St}{H:Hp}{R:St -> Hp -> Prop}
theorem w_gTupK {n:Nat}{t:TGs}{a:Addr}:gTupK K n t (.ref a) σ H R = ∃ xs,SqT K H a xs /\ xs.length=n /\ t xs σ H R :=
 propext ⟨fun ⟨a',xs,e,h,l,q⟩=>by cases e; exact ⟨xs,h,l,q⟩,fun ⟨xs,h,l,q⟩=>⟨a,xs,rfl,h,l,q⟩⟩
end
end L2
set_option Elab.async false
set_option linter.all false
set_option maxRecDepth 100000
set_option maxHeartbeats 1000000
namespace L2
open PySem PySem.Spec PyProof.Rows
section
variable {X:Cx}{pins:List (Addr × Obj)}{σ:St}{H:Hp}{s:Shared}{p:Addr}{xs:List V}
def gLst (n:Nat)(t:TGs):TG:=fun v σ H Q=>∃ a xs,v = .ref a /\ H a=some (.lst xs) /\ xs.length=n /\ t xs σ H Q
end
section
variable {σ:St}{H:Hp}{R:St -> Hp -> Prop}
theorem w_gLst {n:Nat}{t:TGs}{a:Addr}:gLst n t (.ref a) σ H R = ∃ xs,H a=some (.lst xs) /\ xs.length=n /\ t xs σ H R :=
 propext ⟨fun ⟨a',xs,e,h,l,q⟩=>by cases e; exact ⟨xs,h,l,q⟩,fun ⟨xs,h,l,q⟩=>⟨a,xs,rfl,h,l,q⟩⟩
end
def ForE (K:PySem.W.Frag)(a:Addr)(g:TG)(tb:TS)(D:Ends)(σ:St)(H:Hp):Prop:=∃ W:Nat -> Nat -> St -> Hp -> Prop,(∃ m,W 0 m σ H) /\ ∀ i m σ H,W i m σ H ->
 ((Ite K a).stop i H /\ D.nx σ H) \/ ((Ite K a).go i H /\ ∃ N:St -> Hp -> Prop,(∀ σ' H',N σ' H' -> ∃ m',m' < m /\ W (i+1) m' σ' H') /\ ∀ x H',(Ite K a).yld i H x H' -> g x σ H' fun σ2 H2=>tb { D with nx:=N,ct:=N,bk:=D.nx } σ2 H2)
section
variable {K:PySem.W.Frag}{σ:St}{H:Hp}{D:Ends}{g:TG}{tb:TS}{a:Addr}
theorem w_forE {ta:TA}:tFor (iEnum K ta) g tb D σ H=(ta σ H fun vs H1=>∃ a xs,vs=[.ref a] /\ SqL K H1 a xs /\ ForE K a g tb D σ H1):=rfl
theorem forE {xs:List V}(Pv:Nat -> St -> Hp -> Prop)(h0:Pv 0 σ H)(hl:∀ i σ H,i <= xs.length -> Pv i σ H -> SqL K H a xs)
  (hs:∀ i x T σ H (N:St -> Hp -> Prop),xs[i]? = some x -> H T=none -> Pv i σ H -> (∀ σ' H',Pv (i+1) σ' H' -> N σ' H') -> g (.ref T) σ (upd H T (.tup [.int (i:Int),x])) fun σ2 H2=>tb { D with nx:=N,ct:=N,bk:=D.nx } σ2 H2)
  (hd:∀ σ H,Pv xs.length σ H -> D.nx σ H):ForE K a g tb D σ H:=by
 refine ⟨fun i m σ H=>m=xs.length - i /\ i <= xs.length /\ Pv i σ H,⟨_,rfl,Nat.zero_le _,h0⟩,?_⟩
 rintro i m σ H ⟨rfl,hi,p⟩
 have q:=hl i σ H hi p
 by_cases hlt:i < xs.length
 ·refine .inr ⟨⟨xs,q,hlt⟩,Pv (i+1),fun σ' H' p'=>⟨xs.length - (i+1),by omega,rfl,hlt,p'⟩,fun x H' y=>?_⟩
  obtain ⟨T,u,rfl,hT,rfl,hu⟩:=y
  exact hs i u T σ H (Pv (i+1)) (hu xs q) hT p fun _ _ z=>z
 ·have e:i=xs.length:=by omega
  subst e
  exact .inl ⟨⟨xs,q,Nat.le_refl _⟩,hd σ H p⟩
end
end L2
set_option Elab.async false
set_option linter.all false
set_option maxRecDepth 100000
set_option maxHeartbeats 1000000
namespace L2
open PySem PySem.Spec
def spLower:Sp:=fun vs H Q _=>∃ (l:Addr) (xs:List Int),vs=[.ref l] /\ H l=some (.lst (xs.map V.int)) /\ xs.length <= 100 /\ ∀ (f:Int) H',0 <= f -> f <= 40 -> (∀ x ∈ xs,(2:Int) ^ f.toNat ∣ x) -> Same H H' -> Q (.int f) H'
def mvI (s n:Int):Int:=n * 2 ^ (if 0 > s then (0:Int) else s).toNat / 2 ^ (if 0 > 0 - s then (0:Int) else 0 - s).toNat
def spLMoved:Sp:=fun vs H Q _=>∃ (l:Addr) (xs:List Int) (s:Int),vs=[.ref l,.int s] /\ H l=some (.lst (xs.map V.int)) /\ xs.length <= 100 /\ (∀ x ∈ xs,x.natAbs < 2 ^ 9000) /\ -40 <= s /\ s <= 40 /\ ∀ r H',H r=none -> Same H H' -> H' r=some (.lst ((xs.map (mvI s)).map V.int)) -> Q (.ref r) H'
end L2
set_option Elab.async false
set_option linter.all false
set_option maxRecDepth 100000
set_option maxHeartbeats 1000000
namespace L2
open PySem PySem.Spec
structure Wd where
 w:Str
 a:Nat
 s:Int
 b:Nat
 t:Int
structure Go where
 th:Nat
 sh:Int
 sg:Int
def wTup (d:Wd):List V:=[.str d.w,.int d.a,.int d.s,.int d.b,.int d.t]
def gTp (g:Go):List V:=[.int g.th,.int g.sh,.int g.sg]
structure HTs {α:Type} (f:α -> List V) (H:Hp) (vs:List V) (xs:List α):Prop where
 len:vs.length=xs.length
 at_:∀ (k:Nat) (x:α),xs[k]? = some x -> ∃ p:Addr,vs[k]? = some (.ref p) /\ H p=some (.tup (f x))
section
variable {α:Type}{f:α -> List V}{H H':Hp}{vs us:List V}{xs:List α}{l:Addr}
theorem HTs.same (h:HTs f H vs xs)(s:Same H H'):HTs f H' vs xs:=⟨h.len,fun k d e=>by
 obtain ⟨x,e1,e2⟩:=h.at_ k d e
 exact ⟨x,e1,s _ _ e2⟩⟩
theorem HTs.chgL (h:HTs f H vs xs)(hl:H l=some (.lst us))(c:Chg l H H'):HTs f H' vs xs:=⟨h.len,fun k d e=>by
 obtain ⟨x,e1,e2⟩:=h.at_ k d e
 exact ⟨x,e1,c _ _ (ne_of e2 hl (by intro z; cases z)) e2⟩⟩
theorem HTs.snoc {x:α}{p:Addr}(h:HTs f H vs xs)(hx:H p=some (.tup (f x))):HTs f H (vs ++ [.ref p]) (xs ++ [x]):=by
 refine ⟨by simp [h.len],fun k e he=>?_⟩
 rcases get_snoc he with ⟨hk,z⟩ | ⟨hk,rfl⟩
 ·obtain ⟨y,e1,e2⟩:=h.at_ k e z
  exact ⟨y,by rw [qH (by rw [h.len]; exact hk)]; exact e1,e2⟩
 ·refine ⟨p,?_,hx⟩
  rw [qG (by rw [h.len]; omega),h.len,hk,Nat.sub_self]
  rfl
theorem hts_nil:HTs f H [] []:=⟨rfl,fun k d h=>by simp at h⟩
end
structure HRs (H:Hp) (ex:List Addr) (vs:List V) (rs:List (List Int)):Prop where
 len:vs.length=rs.length
 at_:∀ (k:Nat) (r:List Int),rs[k]? = some r -> ∃ p:Addr,vs[k]? = some (.ref p) /\ H p=some (.lst (r.map V.int)) /\ ∀ e ∈ ex,p ≠ e
section
variable {H H':Hp}{ex:List Addr}{vs:List V}{rs:List (List Int)}{l:Addr}
theorem HRs.same (h:HRs H ex vs rs)(s:Same H H'):HRs H' ex vs rs:=⟨h.len,fun k d e=>by
 obtain ⟨x,e1,e2,e3⟩:=h.at_ k d e
 exact ⟨x,e1,s _ _ e2,e3⟩⟩
theorem HRs.chg (h:HRs H ex vs rs)(hl:l ∈ ex)(c:Chg l H H'):HRs H' ex vs rs:=⟨h.len,fun k d e=>by
 obtain ⟨x,e1,e2,e3⟩:=h.at_ k d e
 exact ⟨x,e1,c _ _ (e3 l hl) e2,e3⟩⟩
theorem HRs.new (h:HRs H ex vs rs)(hl:H l=none):HRs H (l :: ex) vs rs:=⟨h.len,fun k d e=>by
 obtain ⟨x,e1,e2,e3⟩:=h.at_ k d e
 refine ⟨x,e1,e2,fun z hz=>?_⟩
 rcases List.mem_cons.mp hz with e | e
 ·subst e; exact ne_of_none e2 hl
 ·exact e3 z e⟩
theorem HRs.snoc {r:List Int}{p:Addr}(h:HRs H ex vs rs)(hx:H p=some (.lst (r.map V.int)))(he:∀ e ∈ ex,p ≠ e):HRs H ex (vs ++ [.ref p]) (rs ++ [r]):=by
 refine ⟨by simp [h.len],fun k e he2=>?_⟩
 rcases get_snoc he2 with ⟨hk,z⟩ | ⟨hk,rfl⟩
 ·obtain ⟨y,e1,e2⟩:=h.at_ k e z
  exact ⟨y,by rw [qH (by rw [h.len]; exact hk)]; exact e1,e2⟩
 ·refine ⟨p,?_,hx,he⟩
  rw [qG (by rw [h.len]; omega),h.len,hk,Nat.sub_self]
  rfl
theorem hrs_nil:HRs H ex [] []:=⟨rfl,fun k d h=>by simp at h⟩
end
def RB (b:Nat)(rs:List (List Int)):Prop:=∀ r ∈ rs,r.length <= 12 /\ ∀ n ∈ r,n.natAbs <= 2 ^ b
theorem RB.snoc {b c:Nat}{rs:List (List Int)}{r:List Int}(h:RB b rs)(hc:b <= c)(hl:r.length <= 12)(hr:∀ n ∈ r,n.natAbs <= 2 ^ c):RB c (rs ++ [r]):=fun q hq=>by
 rcases List.mem_append.mp hq with z | z
 ·exact ⟨(h q z).1,fun n hn=>Nat.le_trans ((h q z).2 n hn) (qN (by decide) hc)⟩
 ·rw [List.mem_singleton.mp z]; exact ⟨hl,hr⟩
theorem mvI_bound {s n:Int}{b:Nat}(h0:-40 <= s)(h1:s <= 40)(h:n.natAbs <= 2 ^ b):(mvI s n).natAbs <= 2 ^ (b+40):=by
 unfold mvI
 generalize hj:(if 0 > s then (0:Int) else s).toNat=j
 have hj40:j <= 40:=by rw [← hj]; split <;> omega
 generalize (if 0 > 0 - s then (0:Int) else 0 - s).toNat=k
 have p:=pow_pos2 k
 have h2:(n * 2 ^ j).natAbs <= 2 ^ (b+40):=by
  rw [Int.natAbs_mul,Int.natAbs_pow]
  refine Nat.le_trans (Nat.mul_le_mul h (qN (by decide) hj40:2 ^ j <= 2 ^ 40)) ?_
  rw [← Nat.pow_add]
  exact Nat.le_refl _
 generalize n * 2 ^ j=x at h2
 refine Nat.le_trans ?_ h2
 have:(x / 2 ^ k).natAbs <= x.natAbs:=Int.natAbs_ediv_le_natAbs x (2 ^ k)
 exact this
structure WebOk (ins:Nat) (ds:List Wd) (gs:List Go):Prop where
 i1:1 <= ins
 i2:ins <= 12
 dk:∀ (k:Nat) (d:Wd),ds[k]? = some d -> d.a < ins+k /\ d.b < ins+k /\ (d.w = "sum" \/ d.w = "less")
 gk:∀ g ∈ gs,g.th < ins+ds.length
 dl:ds.length <= 60
 gl:gs.length <= 12
end L2
set_option Elab.async false
set_option linter.all false
set_option maxRecDepth 100000
set_option maxHeartbeats 1000000
namespace L2
open PySem PySem.Spec PyProof.Rows
theorem cf_mem:∀ (names:List (Str × NameKind)) (n:Nat) (acc:List (Str × Addr)) (p:Str × Addr),p ∈ cellsFrom n names acc -> p ∈ acc \/ ((p.1,NameKind.cell) ∈ names /\ n <= p.2)
 | [],_,_,_,h=>.inl h
 | (y,k) :: r,n,acc,p,h=>by
  unfold cellsFrom at h
  by_cases hk:(k == .cell)=true
  ·rw [if_pos hk] at h
   have ek:k = .cell:=by simpa using hk
   subst ek
   rcases cf_mem r (n+1) _ p h with z | ⟨z,l⟩
   ·rcases List.mem_cons.mp z with e | e
    ·subst e
     exact .inr ⟨List.mem_cons_self,Nat.le_refl _⟩
    ·exact .inl e
   ·exact .inr ⟨List.mem_cons_of_mem _ z,Nat.le_of_succ_le l⟩
  ·rw [if_neg hk] at h
   rcases cf_mem r n acc p h with z | ⟨z,l⟩
   ·exact .inl z
   ·exact .inr ⟨List.mem_cons_of_mem _ z,l⟩
theorem cf_inj:∀ (names:List (Str × NameKind)) (n lo:Nat) (acc:List (Str × Addr)),lo <= n -> (∀ p ∈ acc,(p.2:Nat) < n) -> (∀ (x y:Str) (c:Addr),(x,c) ∈ acc -> (y,c) ∈ acc -> lo <= c -> x=y) ->
  ∀ (x y:Str) (c:Addr),(x,c) ∈ cellsFrom n names acc -> (y,c) ∈ cellsFrom n names acc -> lo <= c -> x=y
 | [],_,_,_,_,_,hi,x,y,c,h1,h2,l=>hi x y c h1 h2 l
 | (z,k) :: r,n,lo,acc,hl,hn,hi,x,y,c,h1,h2,l=>by
  unfold cellsFrom at h1 h2
  by_cases hk:(k == .cell)=true
  ·rw [if_pos hk] at h1 h2
   refine cf_inj r (n+1) lo _ (Nat.le_succ_of_le hl) (fun p hp=>?_) (fun x y c a b l=>?_) x y c h1 h2 l
   ·rcases List.mem_cons.mp hp with e | e
    ·subst e; exact Nat.lt_succ_self _
    ·exact Nat.lt_succ_of_lt (hn p e)
   ·rcases List.mem_cons.mp a with e | e <;> rcases List.mem_cons.mp b with e' | e'
    ·rw [(Prod.mk.inj e).1,(Prod.mk.inj e').1]
    ·have:=hn _ e'
     rw [(Prod.mk.inj e).2] at this
     exact absurd this (Nat.lt_irrefl _)
    ·have:=hn _ e
     rw [(Prod.mk.inj e').2] at this
     exact absurd this (Nat.lt_irrefl _)
    ·exact hi x y c e e' l
  ·rw [if_neg hk] at h1 h2
   exact cf_inj r n lo acc hl hn hi x y c h1 h2 l
theorem cf_keep {x:Str}{c:Addr}:∀ (names:List (Str × NameKind)) (n:Nat) (acc:List (Str × Addr)),acc.lookup x=some c -> (x,NameKind.cell) ∉ names -> (cellsFrom n names acc).lookup x=some c
 | [],_,_,h,_=>h
 | (y,k) :: r,n,acc,h,hm=>by
  unfold cellsFrom
  have hr:(x,NameKind.cell) ∉ r:=fun z=>hm (List.mem_cons_of_mem _ z)
  by_cases hk:(k == .cell)=true
  ·rw [if_pos hk]
   have ek:k = .cell:=by simpa using hk
   subst ek
   refine cf_keep r (n+1) _ ?_ hr
   rw [List.lookup_cons]
   have hne:(x == y)=false:=by
    cases e:x == y with
    | false=>rfl
    | true=>rw [beq_iff_eq.mp e] at hm; exact absurd List.mem_cons_self hm
   rw [hne]
   exact h
  ·rw [if_neg hk]
   exact cf_keep r n acc h hr
theorem cf_new:∀ (names:List (Str × NameKind)) (h:Heap) (acc:List (Str × Addr)) (p:Str × Addr),p ∈ cellsFrom h.objs.size names acc -> p ∈ acc \/ (pushCells h names).IsCell p.2 none
 | [],_,_,_,h=>.inl h
 | (y,k) :: r,h,acc,p,hp=>by
  unfold cellsFrom at hp
  unfold pushCells
  by_cases hk:(k == .cell)=true
  ·rw [if_pos hk] at hp ⊢
   have:=cf_new r (h.push { cls:=.type "cell",data:=.cell none }) ((y,h.objs.size) :: acc) p (by rw [Heap.size_push]; exact hp)
   rcases this with z | z
   ·rcases List.mem_cons.mp z with e | e
    ·subst e
     exact .inr ⟨_,pushCells_keeps r _ _ _ (Heap.get?_push_size _ rfl),rfl⟩
    ·exact .inl e
   ·exact .inr z
  ·rw [if_neg hk] at hp ⊢
   exact cf_new r h acc p hp
theorem mem_clos2 {scope:Scope}{env:Env}{x:Str}{c:Addr}(m:(x,c) ∈ closOf scope env):env.cells.lookup x=some c /\ (x,NameKind.free) ∈ scope.names:=by
 unfold closOf at m
 rw [List.mem_reverse,List.mem_filterMap] at m
 obtain ⟨⟨n,k⟩,hy,e⟩:=m
 split at e
 ·rename_i hk
  have hk:k = .free:=by simpa using hk
  subst hk
  cases q:env.cells.lookup n with
  | none=>rw [q] at e; cases e
  | some d =>
   rw [q] at e
   simp only [Option.map_some,Option.some.injEq,Prod.mk.injEq] at e
   rw [← e.1,q,e.2]
   exact ⟨rfl,hy⟩
 ·cases e
def compEnvK (scope:Scope)(cl:List (Str × Addr))(C:Addr)(env:Env):Env :=
 { scope:=relabel scope env,locals:=C,globals:=env.globals,cells:=cellsFrom (C+1) scope.names cl,qual:=env.qual,func:=none,code:=env.code,frame:=env.frame,builtins:=env.builtins }
def nfeH (h:Heap)(names:List (Str × NameKind)):Heap:=pushCells (h.push { cls:=.type "dict",data:=.dict #[] }) names
theorem nfe_cells {M:Model}{A:Around}{E:Value -> Shared -> Prop}{s:Shared}{scope:Scope}{globals:Addr}{cl:List (Str × Addr)}{qual:Str}{env:Env}{Q:Env -> Shared -> Prop}
  (hQ:Q { scope:=scope,locals:=s.heap.objs.size,globals:=globals,cells:=cellsFrom (s.heap.objs.size+1) scope.names cl,qual:=qual,func:=none,code:=env.code,frame:=env.frame,builtins:=env.builtins } { s with heap:=nfeH s.heap scope.names }) :
  wpAny M A (newFunctionEnv scope globals cl [] qual none .none (some env)) Q E s:=by
 simp only [newFunctionEnv,Option.isSome_some,if_true]
 refine wpAny_bind (wpAny_alloc ?_)
 refine wpAny_bind (wpAny_layCells _ (fun name kind cells=>by cases hkc:kind == NameKind.cell <;> simp [hkc]) _ _ _ _ ?_)
 rw [show ({ s with heap:=s.heap.push { cls:=.type "dict",data:=.dict #[] } }:Shared).heap.objs.size=s.heap.objs.size+1 from Heap.size_push ..]
 rw [List.forIn_nil]
 exact wpAny_bind (wpAny_pure (wpAny_pure hQ))
def compCxC (X:Cx)(N:List Str)(scope:Scope)(C:Addr)(s:Shared)(H:Hp)(fp:List Addr):Cx :=
 { X with N:=N,s₀:=s,H₀:=H,env:=compEnvK scope (closOf scope X.env) C X.env,outer:=X.stack,stack:=X.stack,ex:=fp,fn:=fun x=>scope.names.lookup x == some .cell,pn:=[],xe:=fun _ _=>False }
def scC (sc xsc:Scope):Bool:=(sc.kind == .function) && sc.names.all fun x=>(x.2 != .cell || sc.names.lookup x.1 == some .cell) && (x.2 != .local || sc.names.lookup x.1 == some .local) && (x.2 != .free || ((sc.names.lookup x.1 == some .free) && ((xsc.names.lookup x.1 == some .cell) || (xsc.names.lookup x.1 == some .free))))
section
variable {X:Cx}
theorem compCxC_inv {pins:List (Addr × Obj)}{σ:St}{H:Hp}{s:Shared}{N:List Str}{scope:Scope}{nt:Nat}{cs:List Nat}{fp:List Addr}{tk:Nat}(I:Inv X pins σ H s)
  (hsc:scC scope X.env.scope=true) (hcap:capB cs (N.drop nt) X.N scope X.env.scope=true) (hlen:N.length=nt+cs.length)
  (hf:∀ b ∈ fp,FpOk X pins H b) (hfl:∀ b ∈ fp,b < s.heap.objs.size) :
  Inv (compCxC X N scope s.heap.objs.size s H fp) [] (capSt nt cs σ) H { s with heap:=nfeH s.heap scope.names,toks:=tk }:=by
 have hk:∀ b o,s.heap.get? b=some o -> (nfeH s.heap scope.names).get? b=some o:=fun b o e=>pushCells_keeps _ _ b o (Heap.get?_push_of_some _ e)
 have hn:(nfeH s.heap scope.names).Ns s.heap.objs.size fun _=>none:=(Heap.Ns.new s.heap (.type "dict")).keeps (pushCells_keeps _ _)
 unfold scC at hsc
 rw [Bool.and_eq_true] at hsc
 obtain ⟨hkd,hall⟩:=hsc
 have hkd:scope.kind = .function:=by simpa using hkd
 rw [List.all_eq_true] at hall
 have cellL:∀ x,(x,NameKind.cell) ∈ scope.names -> scope.names.lookup x=some .cell:=fun x hx=>by
  have:=hall _ hx
  simp only [bne_self_eq_false,Bool.false_or,Bool.and_eq_true,beq_iff_eq] at this
  exact this.1.1
 have freeL:∀ x,(x,NameKind.free) ∈ scope.names -> scope.names.lookup x=some .free:=fun x hx=>by
  have:=hall _ hx
  simp only [bne_self_eq_false,Bool.false_or,Bool.and_eq_true,beq_iff_eq] at this
  exact this.2.1
 have free2:∀ x,(x,NameKind.free) ∈ scope.names -> X.env.kindOf x=some .cell \/ X.env.kindOf x=some .free:=fun x hx=>by
  have:=hall _ hx
  simp only [bne_self_eq_false,Bool.false_or,Bool.and_eq_true,Bool.or_eq_true,beq_iff_eq] at this
  exact this.2.2
 have kinds:∀ x,((compCxC X N scope s.heap.objs.size s H fp).env.kindOf x=some .cell \/ (compCxC X N scope s.heap.objs.size s H fp).env.kindOf x=some .free) -> scope.names.lookup x=some .cell \/ (x,NameKind.free) ∈ scope.names:=fun x hx=>by
  have q:∃ k,(relabel scope X.env).names.lookup x=some k /\ (k = .cell \/ k = .free):=by
   rcases hx with e | e
   ·exact ⟨_,e,.inl rfl⟩
   ·exact ⟨_,e,.inr rfl⟩
  obtain ⟨k,e,hk'⟩:=q
  obtain ⟨k0,e0,r⟩:=relabel_lookup e
  have m:=PySem.mem_of_lookup e0
  rcases r with r | ⟨r,_⟩
  ·subst r
   rcases hk' with z | z
   ·rw [z] at e0; exact .inl e0
   ·rw [z] at m; exact .inr m
  ·rw [r] at m; exact .inr m
 have clt:∀ x c,X.env.cells.lookup x=some c -> c < s.heap.objs.size:=fun x c e=>by
  obtain ⟨v,q⟩:=I.cell x c e
  exact q.lt
 -- a cell of the block: one of the caller's,or one of its own
 have two:∀ x c,(compCxC X N scope s.heap.objs.size s H fp).env.cells.lookup x=some c -> (X.env.cells.lookup x=some c /\ (x,NameKind.free) ∈ scope.names) \/ ((x,NameKind.cell) ∈ scope.names /\ s.heap.objs.size+1 <= c /\ (nfeH s.heap scope.names).IsCell c none):=fun x c e=>by
  have m:=PySem.mem_of_lookup e
  rcases cf_mem _ _ _ _ m with z | ⟨z,l⟩
  ·exact .inl (mem_clos2 z)
  ·refine .inr ⟨z,l,?_⟩
   have m':(x,c) ∈ cellsFrom (s.heap.push { cls:=.type "dict",data:=.dict #[] }).objs.size scope.names (closOf scope X.env):=by rw [Heap.size_push]; exact m
   rcases cf_new _ _ _ _ m' with q | q
   ·have:=clt x c (mem_clos2 q).1
    exact absurd (qJ this (Nat.le_of_succ_le l)) (Nat.lt_irrefl _)
   ·exact q
 refine ⟨⟨I.ok.mod,?_,I.ok.glob,I.ok.blt,Nat.le_refl _,?_,?_,?_,I.ok.hd,I.ok.frames,.inl rfl,?_,?_,?_,?_,?_,?_,?_⟩,rfl,I.bare,Un.kept hk,⟨_,hn,?_⟩,?_,?_,?_,?_,I.hok.kept hk,?_⟩
 ·show (relabel scope X.env).kind=_
  exact hkd
 ·intro x y c e1 e2
  rcases two x c e1 with ⟨a,_⟩ | ⟨_,a,_⟩ <;> rcases two y c e2 with ⟨b,_⟩ | ⟨_,b,_⟩
  ·exact I.ok.inj x y c a b
  ·exact absurd (qJ (clt x c a) (Nat.le_of_succ_le b)) (Nat.lt_irrefl _)
  ·exact absurd (qJ (clt y c b) (Nat.le_of_succ_le a)) (Nat.lt_irrefl _)
  ·refine cf_inj scope.names (s.heap.objs.size+1) (s.heap.objs.size+1) (closOf scope X.env) (Nat.le_refl _) (fun p hp=>Nat.lt_succ_of_lt (clt p.1 p.2 (mem_clos2 hp).1)) (fun x y c h1 h2 l=>?_) x y c (PySem.mem_of_lookup e1) (PySem.mem_of_lookup e2) a
   exact absurd (qJ (clt x c (mem_clos2 h1).1) (Nat.le_of_succ_le l)) (Nat.lt_irrefl _)
 ·intro x hx
  rcases kinds x hx with m | m
  ·exact Option.isSome_iff_exists.mp (PySem.W.cellsFrom_some scope.names (s.heap.objs.size+1) (closOf scope X.env) (.inl m))
  ·obtain ⟨c,hc⟩:=I.ok.has x (free2 x m)
   exact Option.isSome_iff_exists.mp (PySem.W.cellsFrom_some scope.names (s.heap.objs.size+1) (closOf scope X.env) (.inr (by rw [clos_has m hc]; rfl)))
 ·intro x c z e
  have z:scope.names.lookup x=some .cell:=by simpa [compCxC] using z
  rcases two x c e with ⟨_,m⟩ | ⟨_,l,_⟩
  ·have:=freeL x m
   rw [z] at this
   cases this
  ·exact Nat.le_of_succ_le l
 ·intro b hb
  obtain ⟨f0,f1,f2,f3,f4,f5⟩:=hf b hb
  refine ⟨Nat.ne_of_lt (hfl b hb),fun x c e=>?_⟩
  rcases two x c e with ⟨a,_⟩ | ⟨_,l,_⟩
  ·exact f4 x c a
  ·exact fun z=>absurd (qJ (hfl b hb) (Nat.le_of_succ_le (z ▸ l))) (Nat.lt_irrefl _)
 ·intro b o e
  exact I.bs b o e
 ·exact Nat.le_trans I.ok.bsz I.sz
 ·intro b o e hb
  obtain ⟨f0,f1,f2,f3,f4,f5⟩:=hf b hb
  rcases f3 with z | z
  ·exact I.ok.noex b o e z
  ·exact absurd (qJ (Heap.lt_size (I.ok.bs b o e).1) z) (Nat.lt_irrefl _)
 ·intro b hb hs
  obtain ⟨f0,f1,f2,f3,f4,f5⟩:=hf b hb
  rcases List.mem_cons.mp (I.stkSub b hs) with z | z
  ·exact f1 z
  ·exact f2 z
 ·exact I.stack
 ·exact I.stkFree
 ·intro i x v e1 e2 _
  have hi:nt <= i:=by
   refine Nat.le_of_not_lt fun z=>?_
   unfold capSt at e2
   rw [qH (by simpa using z),List.getElem?_replicate,if_pos z] at e2
   cases e2
  unfold capSt at e2
  rw [qG (by simpa using hi),qL,qI] at e2
  cases q:cs[i - nt]? with
  | none=>rw [q] at e2; cases e2
  | some c =>
   rw [q] at e2
   simp only [Option.map_some,Option.some.injEq] at e2
   have e3:σ[c]? = some (some v):=by
    cases z:σ[c]? with
    | none=>rw [z] at e2; cases e2
    | some o=>rw [z] at e2; exact congrArg some e2
   unfold capB at hcap
   rw [List.all_eq_true] at hcap
   have e4:(N.drop nt)[i - nt]? = some x:=by
    rw [List.getElem?_drop,show nt+(i - nt)=i by omega]
    exact e1
   have m:(c,x) ∈ cs.zip (N.drop nt):=by
    have:(cs.zip (N.drop nt))[i - nt]? = some (c,x):=by rw [List.getElem?_zip_eq_some]; exact ⟨q,e4⟩
    exact qE this
   have hm:=hcap _ m
   simp only [Bool.and_eq_true,beq_iff_eq,bne_iff_ne,ne_eq] at hm
   obtain ⟨⟨h1',h2'⟩,h3'⟩:=hm
   have hlk:scope.names.lookup x=some .free:=h2'
   have h2':(x,NameKind.free) ∈ scope.names:=PySem.mem_of_lookup hlk
   have nocell:(x,NameKind.cell) ∉ scope.names:=fun z=>by
    have:=cellL x z
    rw [hlk] at this
    cases this
   obtain ⟨mm,hmm,hl⟩:=I.loc
   have vis:Vis X.env.scope x:=.inr (free2 x h2')
   obtain ⟨u,r,l⟩:=hl c x v h1' e3 vis
   rcases l with ⟨z,_⟩ | ⟨z,d,hd,hcell⟩
   ·exact absurd z h3'
   ·refine ⟨u,r,.inr ⟨?_,d,cf_keep _ _ _ (clos_has h2' hd) nocell,?_⟩⟩
    ·have isf:∃ k,(relabel scope X.env).names.lookup x=some k:=by
      have:∃ k',(x,k') ∈ (relabel scope X.env).names:=by
       unfold relabel
       by_cases cc:(X.env.scope.kind == .function && X.env.kindOf x == some .cell)=true
       ·refine ⟨.cell,qP.mpr ⟨(x,.free),h2',?_⟩⟩
        simp only [Bool.and_eq_true] at cc
        simp [cc.1,cc.2]
       ·refine ⟨.free,qP.mpr ⟨(x,.free),h2',?_⟩⟩
        simp only [Bool.and_eq_true] at cc
        have cc':¬ ((NameKind.free == NameKind.free && X.env.scope.kind == .function && X.env.kindOf x == some .cell)=true):=by
         simp only [beq_self_eq_true,Bool.true_and,Bool.and_eq_true]
         exact cc
        show (if (NameKind.free == NameKind.free && X.env.scope.kind == .function && X.env.kindOf x == some .cell)=true then (x,NameKind.cell) else (x,NameKind.free))=(x,NameKind.free)
        rw [if_neg cc']
      obtain ⟨k',hk'⟩:=this
      exact lookup_mem hk'
     obtain ⟨k,ek⟩:=isf
     obtain ⟨k0,e0,rr⟩:=relabel_lookup ek
     rcases rr with rr | ⟨_,rr⟩
     ·subst rr
      rw [hlk] at e0
      cases e0
      exact .inr ek
     ·subst rr
      exact .inl ek
    ·obtain ⟨o,ho,hd'⟩:=hcell
     exact ⟨o,hk _ _ ho,hd'⟩
 ·intro x c e
  rcases two x c e with ⟨a,_⟩ | ⟨_,_,a⟩
  ·obtain ⟨v,o,ho,hd⟩:=I.cell x c a
   exact ⟨v,o,hk _ _ ho,hd⟩
  ·exact ⟨none,a⟩
 ·exact I.hok.fresh (Nat.le_refl _)
 ·intro x c e
  rcases two x c e with ⟨a,_⟩ | ⟨_,l,_⟩
  ·exact I.freeC x c a
  ·exact I.hok.fresh (Nat.le_of_succ_le l)
 ·intro p hp
  cases hp
 ·show (capSt nt cs σ).length=N.length
  unfold capSt
  rw [qF,qL,qC,hlen]
theorem compC_core {use:Option (Value -> Sem Unit)}{QQ:Value -> Shared -> Prop}{ipos:Pos}{tg iter elt:Expr}{ifs:List Expr}{scope:Scope}{pos:Pos}{wi:TI}{N:List Str}{nt:Nat}{cs:List Nat}{g:TG}{tt:TT}{te:TE}(hc:X.calm=true)(hi:PI X tg iter wi)
  (hb:N.Nodup -> ∀ (C:Addr) (s:Shared) (H:Hp) (fp:List Addr),CompBody (compCxC X N scope C s H fp) tg ifs elt g tt te)
  (hnd:N.Nodup) (hsc:scC scope X.env.scope=true) (hcap:capB cs (N.drop nt) X.N scope X.env.scope=true) (hlen:N.length=nt+cs.length)
  (hs:∀ x,foldedSetIterable iter X.env x=pure x) {pins:List (Addr × Obj)} {s:Shared} {σ:St} {H:Hp} {Q:V -> Hp -> Prop} (I:Inv X pins σ H s) (h:tComp wi nt cs g tt te σ H Q)
  (hfin:∀ {acc:Addr} {fp:List Addr} {HX:Hp} {sx:Shared} {σ':St} {H':Hp} {s':Shared},Inv X pins σ HX sx -> (∀ b ∈ fp,FpOk X pins HX b) -> Inv (compCxC X N scope sx.heap.objs.size sx HX fp) [] σ' H' s' -> Q (.ref acc) H' -> compPost (model X.prog X.w) X.A X.xe use QQ (.ref acc) sx.heap.objs.size (.ok .next) s') :
  wpAny (model X.prog X.w) X.A (comprehension (.ListComp elt [⟨tg,iter,ifs,0⟩] scope pos) scope X.env ipos (newList []) false (eval iter X.env) use) QQ X.xe s:=by
 have hsc':=hsc
 unfold scC at hsc'
 rw [Bool.and_eq_true] at hsc'
 obtain ⟨hkd,hall⟩:=hsc'
 have hkd:scope.kind = .function:=by simpa using hkd
 rw [List.all_eq_true] at hall
 have hnames:∀ x ∈ scope.names,x.2 = .local -> scope.names.lookup x.1=some .local:=fun x hx e=>by
  have:=hall x hx
  rw [e] at this
  simp only [bne_self_eq_false,Bool.false_or,Bool.and_eq_true,beq_iff_eq] at this
  exact this.1.2
 have hclos:closureFor scope X.env=pure (closOf scope X.env):=closureFor_ok fun x hx e=>by
  have:=hall x hx
  rw [e] at this
  simp only [bne_self_eq_false,Bool.false_or,Bool.and_eq_true,Bool.or_eq_true,beq_iff_eq] at this
  exact I.ok.has x.1 this.2.2
 refine wpAny_comprehension_free (use:=use) rfl hs hclos hkd hnames (thn (hi pins s σ H _ I h) fun v s1 h1=>thn h1 fun itv s2 h2=>?_)
 obtain ⟨it,fp,tn,J,H2,e,I2,T,st2,f2,hR⟩:=h2
 subst e
 refine wpAny_newObj_type (nfe_cells ?_)
 have fr:=I2.fresh
 have I3:Inv X pins σ (upd H2 s2.heap.objs.size (.lst [])) { s2 with heap:=s2.heap.push { cls:=.type "list",data:=.seq ([]:List Value).toArray },toks:=s2.toks }:=I2.lnew .nil (le_size (by decide))
 obtain ⟨W,⟨m0,w0⟩,turn⟩:=hR _ fr
 generalize hacc:s2.heap.objs.size=acc at *
 generalize hsx:({ s2 with heap:=s2.heap.push { cls:=.type "list",data:=.seq ([]:List Value).toArray },toks:=s2.toks }:Shared)=sx at *
 have hC:sx.heap.objs.size=acc+1:=by rw [← hsx,← hacc]; exact Heap.size_push _ _
 have fpl:∀ b ∈ fp,b < acc:=fun b hb=>by
  obtain ⟨o,ho,_⟩:=T.obj _ _ st2 b hb
  rw [← hacc]
  exact Heap.lt_size ho
 have f3:∀ b ∈ fp,FpOk X pins (upd H2 acc (.lst [])) b:=fun b hb=>by
  obtain ⟨f0,f1⟩:=f2 b hb
  exact ⟨by rw [upd_ne (Nat.ne_of_lt (fpl b hb))]; exact f0,f1⟩
 have keep3:∀ b o,sx.heap.get? b=some o -> (nfeH sx.heap scope.names).get? b=some o:=fun b o e=>pushCells_keeps _ _ b o (Heap.get?_push_of_some _ e)
 have hn3:(nfeH sx.heap scope.names).Ns sx.heap.objs.size fun _=>none:=(Heap.Ns.new sx.heap (.type "dict")).keeps (pushCells_keeps _ _)
 have IC:Inv (compCxC X N scope sx.heap.objs.size sx (upd H2 acc (.lst [])) fp) [] (capSt nt cs σ) (upd H2 acc (.lst [])) { sx with heap:=nfeH sx.heap scope.names,toks:=sx.toks } :=
  compCxC_inv (tk:=sx.toks) I3 hsc hcap hlen f3 (fun b hb=>by rw [hC]; exact Nat.lt_succ_of_lt (fpl b hb))
 have hn3':H2 acc=none:=fr
 generalize hXC:compCxC X N scope sx.heap.objs.size sx (upd H2 acc (.lst [])) fp=XC at IC
 have ctxP:XC.prog=X.prog:=by rw [← hXC]; rfl
 have ctxW:XC.w=X.w:=by rw [← hXC]; rfl
 have ctxK:XC.K=X.K:=by rw [← hXC]; rfl
 have ctxA:XC.A=X.A:=by rw [← hXC]; rfl
 have ctxC:XC.calm=true:=by rw [← hXC]; exact hc
 have ctxX:XC.xe=fun _ _=>False:=by rw [← hXC]; rfl
 have ctxE:XC.env=compEnvK scope (closOf scope X.env) sx.heap.objs.size X.env:=by rw [← hXC]; rfl
 have body:CompBody XC tg ifs elt g tt te:=by rw [← hXC]; exact hb hnd _ _ _ _
 have st3:tn 0 (nfeH sx.heap scope.names):=T.keep _ _ _ st2 fun b hb o e=>keep3 b o (by rw [← hsx]; exact Heap.get?_push_of_some _ e)
 have stat:∀ {H':Hp},(∀ b ∈ fp,H' b=none) -> ∀ b ∈ fp,FpOk XC [] H' b:=fun hn b hb=>by
  obtain ⟨f0,f1,f2',f3',f4,f5⟩:=f3 b hb
  refine ⟨hn b hb,?_,?_,.inl (by rw [← hXC]; exact hb),fun x c e=>?_,fun p hp=>?_⟩
  ·rw [ctxE]
   exact Nat.ne_of_lt (by rw [hC]; exact Nat.lt_succ_of_lt (fpl b hb))
  ·rw [← hXC]
   intro z
   rcases List.mem_cons.mp (I3.stkSub b z) with z | z
   ·exact f1 z
   ·exact f2' z
  ·rw [ctxE] at e
   rcases cf_mem _ _ _ _ (PySem.mem_of_lookup e) with z | ⟨_,z⟩
   ·exact f4 x c (mem_clos2 z).1
   ·have h9:=fpl b hb
    have z:sx.heap.objs.size+1 <= c:=z
    rw [hC] at z
    exact Nat.ne_of_gt (qJ h9 (Nat.le_of_succ_le (Nat.le_of_succ_le z)))
  ·rw [← hXC] at hp
   cases hp
 have fin:∀ {σ':St} {H':Hp} {s':Shared},Inv XC [] σ' H' s' -> Q (.ref acc) H' -> compPost (model X.prog X.w) X.A X.xe use QQ (.ref acc) sx.heap.objs.size (.ok .next) s':=fun {σ' H' s'} J' q=>hfin I3 f3 (by rw [hXC]; exact J') q
 have loop:codeAny (model X.prog X.w) X.A (.compLoop (.ListComp elt [⟨tg,iter,ifs,0⟩] scope pos) 0 (.ref it) (.ref acc) XC.env) (compPost (model X.prog X.w) X.A X.xe use QQ (.ref acc) sx.heap.objs.size)
   { sx with heap:=nfeH sx.heap scope.names,toks:=sx.toks }:=by
  rw [← ctxP,← ctxW,← ctxA]
  refine codeAny_compLoop_gen (fun n s'=>∃ i ys σ' H',Inv XC [] σ' H' s' /\ tn i s'.heap /\ (∀ b ∈ fp,H' b=none) /\ W i n ys σ' H') ?_ m0 ⟨0,[],_,_,IC,st3,fun b hb=>(f3 b hb).1,w0⟩
  rintro n s3 ⟨i,ys,σ3,H3,I3',st3',fr3,w3⟩
  have T':=T
  rw [← ctxP,← ctxW,← ctxK] at T'
  obtain ⟨hacc3,alt⟩:=turn i n ys σ3 H3 w3
  rcases alt with ⟨stop,qn⟩ | ⟨go,hsz,NN,hNN,step⟩
  ·refine thn (T'.done XC rfl rfl rfl ctxC i [] s3 σ3 H3 _ I3' (stat fr3) st3' stop) fun r s4 ⟨hr,I4⟩=>?_
   subst hr
   rw [ctxP,ctxW,ctxA]
   exact fin I4 qn
  ·refine thn (T'.item XC rfl rfl rfl ctxC i [] s3 σ3 H3 _ I3' (stat fr3) st3' go) fun r s4 ⟨u,hr,h4⟩=>?_
   subst hr
   refine thn h4 fun _ s5 ⟨x,H5,I5,r5,y5,st5,fr5⟩=>?_
   have I5':=I5.pinned (stat fr5) (T'.obj _ _ st5)
   have a1:=body.tg _ s5 σ3 H5 x u _ I5' r5 (step x H5 y5)
   rw [ctxX] at a1
   refine thn a1 fun _ s6 ⟨σ6,H6,I6,q6⟩=>?_
   have a2:=body.tt _ s6 σ6 H6 _ I6 q6
   rw [ctxX] at a2
   refine thn a2 fun b s7 ⟨H7,I7,q7⟩=>?_
   have again:∀ {s8:Shared} {σ7:St} {H7:Hp} {zs:List V},Inv XC ([] ++ pinsAt fp s5.heap) σ7 H7 s8 -> NN zs σ7 H7 -> ∃ m,m < n /\ ∃ i ys σ' H',Inv XC [] σ' H' s8 /\ tn i s8.heap /\ (∀ b ∈ fp,H' b=none) /\ W i m ys σ' H':=fun {s8 σ7 H7 zs} I7 n7=>by
    obtain ⟨m',hm,w7⟩:=hNN zs σ7 H7 n7
    refine ⟨m',hm,i+1,zs,σ7,H7,I7.unpinned,T'.keep _ _ _ st5 fun b hb o e=>(I7.pin (b,o) (qK _ (qK _ (mem_pinsAt hb e)))).1,fun b hb=>?_,w7⟩
    obtain ⟨o,e,d⟩:=T'.obj _ _ st5 b hb
    exact (I7.pin (b,o) (qK _ (qK _ (mem_pinsAt hb e)))).2.1
   cases b with
   | false =>
    rw [if_neg Bool.false_ne_true] at q7 ⊢
    exact again I7 q7
   | true =>
    rw [if_pos rfl] at q7 ⊢
    have a3:=body.te _ s7 σ6 H7 _ I7 q7
    rw [ctxX] at a3
    refine thn a3 fun xv s8 ⟨y,H8,I8,r8,q8⟩=>?_
    obtain ⟨hl8,n8⟩:=q8
    have a4:=mt_append (X:=XC) _ s8 σ6 H8 (.ref acc) [y] (.ref acc) [xv] (fun _ H9=>NN (ys ++ [y]) σ6 H9) I8 rfl (.cons r8 .nil) ⟨acc,ys,y,rfl,rfl,hl8,hsz,n8⟩
    rw [ctxX] at a4
    refine thn a4 fun _ s9 ⟨_,H9,I9,_,q9⟩=>?_
    exact again I9 q9
 rw [ctxE] at loop
 exact codeAny_compStart_list loop (T.self X.A 0 _ _ _ st3 loop)
theorem ps_setCompC {y:Str}{py spos:Pos}{ix:Nat}{tg iter elt:Expr}{ifs:List Expr}{scope:Scope}{pos:Pos}{wi:TI}{N:List Str}{nt:Nat}{cs:List Nat}{g:TG}{tt:TT}{te:TE}(hc:X.calm=true)(hi:PI X tg iter wi)
  (hb:N.Nodup -> ∀ (C:Addr) (s:Shared) (H:Hp) (fp:List Addr),CompBody (compCxC X N scope C s H fp) tg ifs elt g tt te)
  (hnd:N.Nodup) (hsc:scC scope X.env.scope=true) (hcap:capB cs (N.drop nt) X.N scope X.env.scope=true) (hlen:N.length=nt+cs.length)
  (hs:∀ x,foldedSetIterable iter X.env x=pure x) (hN:X.N.Nodup) (hix:X.N[ix]? = some y) (hy:Loc X.env.scope y) (hf:X.fn y=true \/ X.env.scope.names.lookup y=some .local)
  (hsw:swapsWith (.ListComp elt [⟨tg,iter,ifs,0⟩] scope pos) (some (.Name y py)) spos.line X.env=pure true):PS X (.Assign [.Name y py] (.ListComp elt [⟨tg,iter,ifs,0⟩] scope pos) spos) (tAsg (tComp wi nt cs g tt te) (gName ix)):=by
 intro pins s σ H D I h
 rw [exec_Assign_Name_used _ _ _ _ hsw]
 refine wpAny_bind (wpAny_standAt (wpAny_bind ?_))
 show wpAny _ X.A (do let _ ← comprehension (.ListComp elt [⟨tg,iter,ifs,0⟩] scope pos) scope X.env _ (newList []) false (eval iter X.env) (some (assign (.Name y py) X.env))) _ _ s
 refine wpAny_bind (wpAny_mono (compC_core (use:=some (assign (.Name y py) X.env)) (QQ:=fun _ s'=>SP X pins D .next s') hc hi hb hnd hsc hcap hlen hs I h fun {acc fp HX sx σ' H' s'} I3 f3 J' q=>?_) (fun _ s' hq=>wpAny_pure (wpAny_pure hq)) fun _ _ e=>e)
 obtain ⟨m,hm,_⟩:=J'.loc
 have IX:Inv X pins σ H' s':=I3.call' J'.os J'.base J'.hok J'.bare fun b hb=>by
  obtain ⟨f0,f1,f2',f3',f4,f5⟩:=f3 b hb
  exact ⟨f3',f1,f4,f5⟩
 have hCL:sx.heap.objs.size ≠ X.env.locals:=Nat.ne_of_gt I3.lt
 have hCc:∀ x c,X.env.cells.lookup x=some c -> c ≠ sx.heap.objs.size:=fun x c e=>by
  obtain ⟨v,z⟩:=I3.cell x c e
  exact Nat.ne_of_lt z.lt
 have hCp:∀ p ∈ X.pn ++ pins,p.1 ≠ sx.heap.objs.size:=fun p hp=>Nat.ne_of_lt (Heap.lt_size (I3.pin p hp).1)
 show wpAny _ X.A (assign (.Name y py) X.env (.ref acc)) _ _ s'
 refine wpAny_assign_Name (store_ok2 IX hN hix hy (v:=.ref acc) rfl (fun s'' I'' ⟨a,hsb,ha⟩=>?_) hf)
 have hCa:sx.heap.objs.size ≠ a:=fun z=>by
  rcases ha with e | e
  ·exact hCL (z.trans e)
  ·exact hCc _ _ e z.symm
 refine ⟨m,hm.sameBut hsb hCa,fun h' hs'=>⟨_,H',?_,q⟩⟩
 exact I''.turned (t':=s''.toks) (fun b o hb e=>(hs'.2 b hb).trans e) J'.free hCL (.inr I3.sz) hCc hCp
end
end L2
set_option Elab.async false
set_option linter.all false
set_option maxRecDepth 100000
set_option maxHeartbeats 1000000
namespace L2
open PySem PySem.Spec
theorem Chg.updN {p q:Addr}{H H':Hp}{o:HO}(c:Chg p H H')(h:H q=none):Chg p H (L2.upd H' q o):=fun b u n e=>by rw [upd_ne (ne_of_none e h)]; exact c b u n e
theorem Chg.new {p q:Addr}{H H':Hp}(c:Chg p H H')(n:q ≠ p)(h:H' q=none):H q=none:=by
 cases e:H q with
 | none=>rfl
 | some o=>rw [c q o n e] at h; cases h
section
variable {K:PySem.W.Frag}{σ:St}{H:Hp}{Q:VK}{cs:List Nat}{te:TE}
theorem comp_zip {r1 r2:Addr}{us vs:List V}(h1:SqL K H r1 us)(h2:SqL K H r2 vs)(hl:vs.length=us.length)(hz:us.length <= 1000)(zs:List V)(hzl:zs.length=us.length)
  (hb:∀ (i:Nat) (x y z:V) H' (R:VK),us[i]? = some x -> vs[i]? = some y -> zs[i]? = some z -> Same H H' -> R z H' -> te ([some x,some y] ++ capV cs σ) H' R)
  (hd:∀ acc H',H acc=none -> Same H H' -> H' acc=some (.lst zs) -> Q (.ref acc) H') :
  CompIt (Itz K r1 r2) 2 cs (gTupM 2 (gCons (gName 0) (gCons (gName 1) gNil))) tYes te σ H Q:=by
 refine comp_any us.length (fun acc i ws H'=>Same H H' /\ H' acc=some (.lst ws) /\ ws=zs.take i) (le_size hz) ?_ ?_ ?_ ?_ ?_ ?_
 ·rintro acc i ws H' hi ⟨s,_,_⟩
  exact ⟨_,_,s.seq h1,s.seq h2,hi,by omega⟩
 ·rintro acc ws H' ⟨s,_,_⟩
  exact ⟨_,_,s.seq h1,s.seq h2,.inl (Nat.le_refl _)⟩
 ·intro acc ha
  exact ⟨same_new ha _,upd_same,rfl⟩
 ·rintro acc i ws H' ⟨s,ha,rfl⟩
  exact ⟨ha,by rw [qO]; omega⟩
 ·rintro acc i ws H' ts x H2 N hn hi ⟨s,ha,rfl⟩ ⟨T,u,v,rfl,hT,rfl,e1,e2⟩ hts hN
  have hu:=e1 _ (s.seq h1)
  have hv:=e2 _ (s.seq h2)
  obtain ⟨z,hzi⟩:∃ z,zs[i]? = some z:=⟨_,qA (by omega)⟩
  obtain ⟨t0,t1,rfl⟩:∃ t0 t1,ts=[t0,t1]:=by
   match ts,hts with
   | [a,b],_=>exact ⟨a,b,rfl⟩
  rw [w_gTupM]
  refine ⟨[u,v],upd_same,rfl,?_⟩
  rw [w_gCons,w_gName,w_gCons,w_gName,w_gNil,w_yes,if_pos rfl]
  have sT:=same_new hT (.tup [u,v])
  refine hb i u v z _ _ hu hv hzi (s.trans sT) ?_
  have tk:zs.take (i+1)=zs.take i ++ [z]:=by rw [List.take_add_one,hzi]; rfl
  refine ⟨sT _ _ ha,hN _ [some u,some v] _ rfl ⟨same_upd hn (s.trans sT),upd_same,tk.symm⟩⟩
 ·rintro acc ws H' hn ⟨s,ha,rfl⟩
  refine hd acc H' hn s ?_
  rw [ha,List.take_of_length_le (by omega)]
theorem comp_rows {n:Nat}(hz:n <= 1000)(row:Nat -> List Int)(ex:List Addr)(hex:∀ e ∈ ex,H e ≠ none)
  (hb:∀ (i:Nat) H' (R:VK),i < n -> Same H H' -> (∀ r H5,H' r=none -> Same H' H5 -> H5 r=some (.lst ((row i).map V.int)) -> R (.ref r) H5) -> te (some (.int (0+(i:Int))) :: capV cs σ) H' R)
  (hd:∀ acc ys H',H acc=none -> Same H H' -> H' acc=some (.lst ys) -> HRs H' (acc :: ex) ys ((List.range n).map row) -> Q (.ref acc) H') :
  CompIt (Itr 0 n) 1 cs (gName 0) tYes te σ H Q:=by
 refine comp_any n (fun acc i ws H'=>Same H H' /\ H acc=none /\ H' acc=some (.lst ws) /\ HRs H' (acc :: ex) ws ((List.range i).map row)) (le_size hz) ?_ ?_ ?_ ?_ ?_ ?_
 ·rintro acc i ws H' hi _
  exact hi
 ·rintro acc ws H' _
  exact Nat.le_refl _
 ·intro acc ha
  exact ⟨same_new ha _,ha,upd_same,hrs_nil⟩
 ·rintro acc i ws H' ⟨s,_,ha,hr⟩
  exact ⟨ha,by rw [hr.len,qC,List.length_range]; exact Nat.le_refl _⟩
 ·rintro acc i ws H' ts x H2 N hn hi ⟨s,hn',ha,hr⟩ ⟨rfl,rfl⟩ hts hN
  obtain ⟨t0,rfl⟩:∃ t0,ts=[t0]:=by
   match ts,hts with
   | [a],_=>exact ⟨a,rfl⟩
  rw [w_gName,w_yes,if_pos rfl]
  refine hb i _ _ hi s fun r H5 hr0 s5 h5=>?_
  refine ⟨s5 _ _ ha,hN _ [_] _ rfl ⟨same_upd hn (s.trans s5),hn,upd_same,?_⟩⟩
  have hra:r ≠ acc:=(ne_of_none ha hr0).symm
  have ne:∀ e ∈ acc :: ex,r ≠ e:=fun e he=>by
   rcases List.mem_cons.mp he with z | z
   ·subst z; exact hra
   ·cases hh:H e with
    | none=>exact absurd hh (hex e z)
    | some o=>exact (ne_of_none (s _ _ hh) hr0).symm
  have h2:HRs (upd H5 acc (.lst (ws ++ [.ref r]))) (acc :: ex) (ws ++ [.ref r]) ((List.range i).map row ++ [row i]):=by
   refine HRs.snoc ((hr.same s5).chg List.mem_cons_self (Chg.upd _)) ?_ ne
   rw [upd_ne hra]; exact h5
  rw [List.range_succ,List.map_append]
  exact h2
 ·rintro acc ws H' hn ⟨s,_,ha,hr⟩
  exact hd acc ws H' hn s ha hr
end
def unitRow (n i:Nat):List Int:=(List.range n).map fun k=>if k=i then 1 else 0
def unV (i:Nat):V -> Option V:=fun x=>match x with
 | .int k=>some (.int (if k=(i:Int) then 1 else 0))
 | _=>none
theorem unV_map (n i:Nat):(rngV 0 n).filterMap (unV i)=(unitRow n i).map V.int:=by
 unfold rngV unitRow
 rw [List.map_map,List.filterMap_map]
 rw [show (unV i ∘ fun (k:Nat)=>V.int (0+(k:Int)))=fun k=>some ((V.int ∘ fun k=>if k=i then 1 else 0) k) from ?_,filterMap_some]
 funext k
 show some (V.int (if 0+(k:Int)=(i:Int) then 1 else 0))=some (V.int (if k=i then 1 else 0))
 by_cases h:k=i
 ·subst h; rw [if_pos (by omega),if_pos rfl]
 ·rw [if_neg (by omega),if_neg h]
theorem unitRow_len (n i:Nat):(unitRow n i).length=n:=by unfold unitRow; rw [qC,List.length_range]
theorem unitRow_bound {n i:Nat}{x:Int}(h:x ∈ unitRow n i):x=0 \/ x=1:=by
 unfold unitRow at h
 obtain ⟨k,_,rfl⟩:=qP.mp h
 by_cases e:k=i
 ·rw [if_pos e]; exact .inr rfl
 ·rw [if_neg e]; exact .inl rfl
end L2
set_option Elab.async false
set_option linter.all false
set_option maxRecDepth 100000
set_option maxHeartbeats 1000000
namespace L2
open PySem PySem.Spec
theorem map_at {ns:List Int}{i:Nat}{x:V}(h:(ns.map V.int)[i]? = some x):∃ n,ns[i]? = some n /\ x=V.int n:=by
 rw [qI] at h
 cases e:ns[i]? with
 | none=>rw [e] at h; cases h
 | some n=>rw [e] at h; exact ⟨n,rfl,(Option.some.inj h).symm⟩
structure WI (H:Hp) (p:Addr) (ins:Nat) (tb dl:Addr) (k:Nat) (vs us:List V) (rs:List (List Int)) (ds:List Wd) (H':Hp):Prop where
 tbl:H' tb=some (.lst vs)
 hrs:HRs H' [dl,tb,p] vs rs
 rl:rs.length=ins+k
 rb:RB (41 * k) rs
 rw_:∀ r ∈ rs,r.length=ins
 dll:H' dl=some (.lst us)
 hds:HTs wTup H' us ds
 dlen:ds.length=k
 dk:∀ (j:Nat) (d:Wd),ds[j]? = some d -> d.a < ins+j /\ d.b < ins+j /\ (d.w = "sum" \/ d.w = "less")
 chg:Chg p H H'
 ntb:H tb=none
 ndl:H dl=none
 tp:tb ≠ p
 dp:dl ≠ p
 td:tb ≠ dl
theorem HRs.sub {H:Hp}{ex ex':List Addr}{vs:List V}{rs:List (List Int)}(h:HRs H ex vs rs)(s:∀ e ∈ ex',e ∈ ex):HRs H ex' vs rs:=⟨h.len,fun k r e=>by
 obtain ⟨p,e1,e2,e3⟩:=h.at_ k r e
 exact ⟨p,e1,e2,fun z hz=>e3 z (s z hz)⟩⟩
structure WG (H:Hp) (p:Addr) (ins:Nat) (tb dl gl:Addr) (k:Nat) (vs us os:List V) (rs:List (List Int)) (ds:List Wd) (gs:List Go) (H':Hp):Prop where
 wi:WI H p ins tb dl k vs us rs ds H'
 hrs:HRs H' [gl,dl,tb,p] vs rs
 gll:H' gl=some (.lst os)
 hgs:HTs gTp H' os gs
 gk:∀ g ∈ gs,g.th < ins+k
 ngl:H gl=none
 gp:gl ≠ p
 gd:gl ≠ dl
 gt:gl ≠ tb
theorem WG.app {H:Hp}{p:Addr}{ins:Nat}{tb dl gl:Addr}{k:Nat}{vs us os:List V}{rs:List (List Int)}{ds:List Wd}{gs:List Go}{H':Hp}(h:WG H p ins tb dl gl k vs us os rs ds gs H'){x:Addr}{g:Go}
  (hx:H' x=some (.tup (gTp g))) (hg:g.th < ins+k):WG H p ins tb dl gl k vs us (os ++ [.ref x]) rs ds (gs ++ [g]) (upd H' gl (.lst (os ++ [.ref x]))):=by
 have C:Chg gl H' (upd H' gl (.lst (os ++ [.ref x]))):=Chg.upd _
 have nx:x ≠ gl:=ne_of hx h.gll (by intro z; cases z)
 have r1:=h.hrs.chg (l:=gl) (by simp) C
 have w1:WI H p ins tb dl k vs us rs ds (upd H' gl (.lst (os ++ [.ref x]))) :=
  { h.wi with tbl:=C _ _ h.gt.symm h.wi.tbl,hrs:=r1.sub (by intro e he; exact List.mem_cons_of_mem _ he),dll:=C _ _ h.gd.symm h.wi.dll,hds:=h.wi.hds.chgL h.gll C,chg:=h.wi.chg.updN h.ngl }
 refine ⟨w1,r1,upd_same,(h.hgs.chgL h.gll C).snoc (by rw [upd_ne nx]; exact hx),fun e he=>?_,h.ngl,h.gp,h.gd,h.gt⟩
 rcases List.mem_append.mp he with z | z
 ·exact h.gk e z
 ·rw [List.mem_singleton.mp z]; exact hg
end L2
set_option Elab.async false
set_option linter.all false
set_option maxRecDepth 100000
set_option maxHeartbeats 1000000
namespace L2
open PySem PySem.Spec
structure Wb (H:Hp) (w dl gl:Addr) (ins:Nat) (us:List V) (ds:List Wd) (os:List V) (gs:List Go):Prop where
 tup:H w=some (.tup [.int ins,.ref dl,.ref gl])
 dll:H dl=some (.lst us)
 hds:HTs wTup H us ds
 gll:H gl=some (.lst os)
 hgs:HTs gTp H os gs
theorem Wb.same {H H':Hp}{w dl gl:Addr}{ins:Nat}{us:List V}{ds:List Wd}{os:List V}{gs:List Go}(h:Wb H w dl gl ins us ds os gs)(s:Same H H'):Wb H' w dl gl ins us ds os gs :=
 ⟨s _ _ h.tup,s _ _ h.dll,h.hds.same s,s _ _ h.gll,h.hgs.same s⟩
theorem Wb.chg {H H':Hp}{w dl gl l:Addr}{ins:Nat}{us xs:List V}{ds:List Wd}{os:List V}{gs:List Go}(h:Wb H w dl gl ins us ds os gs)(hl:H l=some (.lst xs))(h1:dl ≠ l)(h2:gl ≠ l)(c:Chg l H H'):Wb H' w dl gl ins us ds os gs :=
 ⟨c _ _ (ne_of h.tup hl (by intro z; cases z)) h.tup,c _ _ h1 h.dll,h.hds.chgL hl c,c _ _ h2 h.gll,h.hgs.chgL hl c⟩
def sgW (w:Str):Int:=if w = "less" then -1 else 1
structure Ar where
 st:Nat
 go:Nat
 sh:Int
 sg:Int
def aTup (a:Ar):List V:=[.int a.st,.int a.go,.int a.sh,.int a.sg]
def arrF (ins:Nat):Nat -> List Wd -> List Ar
 | _,[]=>[]
 | k,d :: r=>⟨d.a,ins+k,d.s,1⟩ :: ⟨d.b,ins+k,d.t,sgW d.w⟩ :: arrF ins (k+1) r
theorem arrF_app (ins:Nat):∀ (xs ys:List Wd) (k:Nat),arrF ins k (xs ++ ys)=arrF ins k xs ++ arrF ins (k+xs.length) ys
 | [],ys,k=>rfl
 | d :: r,ys,k=>by
  show ⟨d.a,ins+k,d.s,1⟩ :: ⟨d.b,ins+k,d.t,sgW d.w⟩ :: arrF ins (k+1) (r ++ ys)=_
  rw [arrF_app ins r ys (k+1),show k+1+r.length=k+(d :: r).length by simp; omega]
  rfl
theorem arrF_len (ins:Nat):∀ (xs:List Wd) (k:Nat),(arrF ins k xs).length=2 * xs.length
 | [],_=>rfl
 | d :: r,k=>by
  show (arrF ins (k+1) r).length+1+1=_
  rw [arrF_len ins r (k+1)]; simp; omega
theorem arr_at {ins:Nat}:∀ {ds:List Wd} {k t:Nat} {a:Ar},(arrF ins k ds)[t]? = some a -> ∃ d,ds[t / 2]? = some d /\ a.go=ins+k+t / 2 /\ ((t % 2=0 /\ a=⟨d.a,ins+k+t / 2,d.s,1⟩) \/ (t % 2=1 /\ a=⟨d.b,ins+k+t / 2,d.t,sgW d.w⟩))
 | [],k,t,a,h=>by
  rw [show arrF ins k []=[] from rfl] at h
  simp at h
 | d :: r,k,t,a,h=>by
  match t,h with
  | 0,h=>cases h; exact ⟨d,rfl,rfl,.inl ⟨rfl,rfl⟩⟩
  | 1,h=>cases h; exact ⟨d,rfl,rfl,.inr ⟨rfl,rfl⟩⟩
  | t+2,h =>
   have h':(arrF ins (k+1) r)[t]? = some a:=h
   obtain ⟨e,e1,e2,e3⟩:=arr_at h'
   have q:(t+2) / 2=t / 2+1:=by omega
   have q2:ins+(k+1)+t / 2=ins+k+(t / 2+1):=by omega
   rw [q]
   rw [q2] at e2 e3
   refine ⟨e,e1,e2,?_⟩
   rcases e3 with ⟨z,e3⟩ | ⟨z,e3⟩
   ·exact .inl ⟨by omega,e3⟩
   ·exact .inr ⟨by omega,e3⟩
inductive Rch (ins:Nat) (ds:List Wd) (gs:List Go):Nat -> Prop
 | root {g:Go}:g ∈ gs -> g.sg ≠ 0 -> Rch ins ds gs g.th
 | fst {k:Nat} {d:Wd}:ds[k]? = some d -> Rch ins ds gs (ins+k) -> Rch ins ds gs d.a
 | snd {k:Nat} {d:Wd}:ds[k]? = some d -> Rch ins ds gs (ins+k) -> Rch ins ds gs d.b
def spSnd:Sp:=fun vs H Q _=>∃ (x:Addr) (d:Wd),vs=[.ref x] /\ H x=some (.tup (wTup d)) /\ Q (.int (sgW d.w)) H
theorem ixN_nat {n j:Nat}(h:j < n):ixN n (j:Int)=some j:=by unfold ixN; rw [if_pos (by omega),if_pos (by omega)]; rfl
end L2
set_option Elab.async false
set_option linter.all false
set_option maxRecDepth 100000
set_option maxHeartbeats 1000000
namespace L2
open PySem PySem.Spec
section
variable {H:Hp}{Q:VK}
theorem w_pop {l:Addr}:rPop (.ref l) [] H Q = ∃ xs y,H l=some (.lst xs) /\ xs[xs.length - 1]? = some y /\ Q y (upd H l (.lst xs.dropLast)) :=
 propext ⟨fun ⟨l',xs,y,e,_,h,g,q⟩=>by cases e; exact ⟨xs,y,h,g,q⟩,fun ⟨xs,y,h,g,q⟩=>⟨l,xs,y,rfl,rfl,h,g,q⟩⟩
theorem w_extend {l b:Addr}:rExtend (.ref l) [.ref b] H Q = ∃ xs zs,H l=some (.lst xs) /\ H b=some (.lst zs) /\ xs.length+zs.length <= sizeLine /\ Q .non (upd H l (.lst (xs ++ zs))) :=
 propext ⟨fun ⟨l',b',xs,zs,e,e2,h⟩=>by cases e; cases e2; exact ⟨xs,zs,h⟩,fun ⟨xs,zs,h⟩=>⟨l,b,xs,zs,rfl,rfl,h⟩⟩
theorem w_reverse {l:Addr}:rReverse (.ref l) [] H Q = ∃ xs,H l=some (.lst xs) /\ Q .non (upd H l (.lst xs.reverse)) :=
 propext ⟨fun ⟨l',xs,e,_,h⟩=>by cases e; exact ⟨xs,h⟩,fun ⟨xs,h⟩=>⟨l,xs,rfl,rfl,h⟩⟩
theorem w_clear {l:Addr}:rClear (.ref l) [] H Q = ∃ xs,H l=some (.lst xs) /\ Q .non (upd H l (.lst [])) :=
 propext ⟨fun ⟨l',xs,e,_,h⟩=>by cases e; exact ⟨xs,h⟩,fun ⟨xs,h⟩=>⟨l,xs,rfl,rfl,h⟩⟩
theorem w_cat {l b:Addr}:rCat (.ref l) (.ref b) H Q = ∃ xs zs,H l=some (.lst xs) /\ H b=some (.lst zs) /\ xs.length+zs.length <= sizeLine /\ ∀ p,H p=none -> Q (.ref p) (upd H p (.lst (xs ++ zs))) :=
 propext ⟨fun ⟨l',b',xs,zs,e,e2,h⟩=>by cases e; cases e2; exact ⟨xs,zs,h⟩,fun ⟨xs,zs,h⟩=>⟨l,b,xs,zs,rfl,rfl,h⟩⟩
end
section
variable {X:Cx}
theorem call_isIK (K:PySem.W.Frag)(h:X.K=K:=by rfl):CallR X (.builtin "isinstance") (rIsI K):=by subst h; exact call_isI
end
section
variable {K:PySem.W.Frag}{σ:St}{H:Hp}{Q:VK}{cs:List Nat}{tt:TT}{te:TE}
end
def fr (ms:List Nat):Nat -> Nat
 | 0=>0
 | n+1=>(if n ∈ ms then 0 else 1)+fr ms n
theorem hts_isL {α:Type}{f:α -> List V}{K:PySem.W.Frag}{H:Hp}(hf:∀ a,(f a).all flatV=true):∀ {xs:List α} {vs:List V},HTs f H vs xs -> IsL K H vs (xs.map fun a=>.t ((f a).map Dt.f))
 | [],vs,h=>by
  have:vs=[]:=List.eq_nil_of_length_eq_zero h.len
  subst this
  rw [List.map_nil,IsL]
 | a :: r,vs,h=>by
  obtain ⟨p,h1,h2⟩:=h.at_ 0 a rfl
  cases vs with
  | nil=>cases h1
  | cons v vs =>
   cases h1
   rw [List.map_cons,IsL]
   refine ⟨_,_,rfl,is_tup (SqT.of h2) (hf a),hts_isL hf ⟨by have:=h.len; simpa using this,fun k x hx=>?_⟩⟩
   exact h.at_ (k+1) x hx
def webDt (ins:Nat)(ds:List Wd)(gs:List Go):Dt:=.t [.f (.int ins),.l (ds.map fun d=>.t ((wTup d).map Dt.f)),.l (gs.map fun g=>.t ((gTp g).map Dt.f))]
theorem depL_tups {α:Type}{f:α -> List V}:∀ (xs:List α),depL (xs.map fun a=>.t ((f a).map Dt.f)) <= 1
 | []=>by rw [List.map_nil,depL]; decide
 | a :: r=>by
  rw [List.map_cons,depL,dep_t]
  have:=depL_tups (f:=f) r
  omega
theorem dep_web (ins:Nat)(ds:List Wd)(gs:List Go):dep (webDt ins ds gs) <= 50:=by
 unfold webDt
 have h1:=depL_tups (f:=wTup) ds
 have h2:=depL_tups (f:=gTp) gs
 rw [dep,depL,depL,depL,depL,dep,dep,dep]
 omega
end L2
set_option Elab.async false
set_option linter.all false
set_option maxRecDepth 100000
set_option maxHeartbeats 1000000
namespace L2
open PySem PySem.Spec PyProof.Rows
abbrev ZX (h:Heap) (z TI TO a:Addr) (f:Bool):Prop:=h.get? z=some { cls:=.type "zip",dict:=none,data:=.fields #[rawInt a,.bool f,.bool false,.ref TI,.ref TO],slots:=#[] }
section
variable {prog:Program}{w:World}{A:Around}{E:Value -> Shared -> Prop}{s:Shared}
theorem zx_draw {z TI TO i1 i2 l1 l2:Addr}{k:Nat}{xs ys:Array Value}{x y:Value}{Q:Value -> Shared -> Prop}{f:Bool}{a:Addr}(D:ZipApart z TI TO i1 i2 l1 l2)
  (hz:ZX s.heap z TI TO a f) {oa:Obj} (hoa:s.heap.get? a=some oa) (haz:a ≠ z) (hTI:IsPair s.heap TI (.ref i1) (.ref i2))
  (h1:s.heap.IsListIter i1 l1 k) (h2:s.heap.IsListIter i2 l2 k) (hl1:s.heap.IsList l1 xs) (hl2:s.heap.IsList l2 ys) (hx:xs[k]? = some x) (hy:ys[k]? = some y)
  (hQ:∀ h',ZX h' z TI TO a true -> h'.IsListIter i1 l1 (k+1) -> h'.IsListIter i2 l2 (k+1) -> IsPair h' s.heap.objs.size x y -> h'.objs.size=s.heap.objs.size+1 ->
   (∀ c o,c ≠ z -> c ≠ i1 -> c ≠ i2 -> s.heap.get? c=some o -> h'.get? c=some o) -> Q (.ref s.heap.objs.size) { s with heap:=h' }) :
  wpAny (model prog w) A (Builtin.«zip.__next__» ⟨[.ref z],[]⟩) (fun fin s'=>∃ v,fin = .done (.ret v) /\ Q v s') E s:=by
 show wpAny _ A (do let two ← field (.ref z) 2; _) _ _ s
 refine wpAny_bind (wpAny_field hz rfl (x:=Value.bool false) rfl (wpAny_bind (wpAny_field hz rfl (x:=Value.ref TI) rfl (wpAny_bind (wpAny_seqItems hTI rfl ?_)))))
 have own:∀ (R:Bool -> Shared -> Prop),(∀ h₁,ZX h₁ z TI TO a true -> Heap.SameBut z s.heap h₁ -> R false { s with heap:=h₁ }) -> wpAny (model prog w) A (Builtin.SmallTypes.ownedTupleIsFree (.ref z)) R E s:=by
  intro R hR
  unfold Builtin.SmallTypes.ownedTupleIsFree
  refine wpAny_bind (wpAny_field hz rfl (x:=rawInt a) rfl ?_)
  show wpAny _ A (do let o ← loadIfAlive ((a:Int).toNat); _) _ _ s
  rw [Int.toNat_natCast]
  refine wpAny_bind (PySem.W.kdx_alive hoa ?_)
  simp only [Option.isNone_some,Bool.false_eq_true,if_false]
  refine wpAny_bind (wpAny_field hz rfl (x:=Value.bool f) rfl ?_)
  cases f with
  | true =>
   rw [if_neg (by decide)]
   exact wpAny_bind (wpAny_pure (wpAny_pure (hR s.heap hz (Heap.SameBut.refl _ _))))
  | false =>
   rw [if_pos (by decide)]
   exact wpAny_bind (wpAny_setField_rec hz (by simp) fun h₁ e₁ b₁=>wpAny_pure (hR h₁ e₁ b₁))
 show wpAny _ A (do let b ← Builtin.SmallTypes.ownedTupleIsFree (.ref z); _) _ _ s
 refine wpAny_bind (own _ fun h₁ hz₁ hs₁=>?_)
 simp only [Bool.false_eq_true,if_false,List.forIn_toArray,List.forIn_cons,List.forIn_nil]
 refine wpAny_bind (wpAny_bind (wpAny_bind (wpAny_holding ?_)))
 show wpAny _ A (do let got ← Builtin.SmallTypes.nextOf (.ref i1); _) _ _ _
 refine wpAny_bind (wpAny_nextOf_list_item (h1.extBut hs₁.extBut D.i1z) (hl1.extBut hs₁.extBut D.l1z) hx fun h₂ p₂ hs₂=>wpAny_pure (wpAny_pure ?_))
 refine wpAny_bind (wpAny_bind (wpAny_holding ?_))
 show wpAny _ A (do let got ← Builtin.SmallTypes.nextOf (.ref i2); _) _ _ _
 refine wpAny_bind (wpAny_nextOf_list_item ((h2.extBut hs₁.extBut D.i2z).extBut hs₂.extBut D.i12.symm) ((hl2.extBut hs₁.extBut D.l2z).extBut hs₂.extBut D.l2i1) hy fun h₃ p₃ hs₃=>wpAny_pure (wpAny_pure (wpAny_pure ?_)))
 refine wpAny_bind (wpAny_newTuple (hsz:=le_size (by show 2 <= 1000; decide)) (wpAny_pure ⟨_,rfl,?_⟩))
 have sz:h₃.objs.size=s.heap.objs.size:=by rw [hs₃.1,hs₂.1,hs₁.1]
 have hz₃:ZX h₃ z TI TO a true:=hs₃.extBut _ _ D.i2z.symm (hs₂.extBut _ _ D.i1z.symm hz₁)
 have p₂':h₃.IsListIter i1 l1 (k+1):=p₂.extBut hs₃.extBut D.i12
 show Q (.ref h₃.objs.size) _
 have up:∀ c o,c ≠ z -> c ≠ i1 -> c ≠ i2 -> s.heap.get? c=some o -> (h₃.push { cls:=.type "tuple",data:=.seq #[x,y] }).get? c=some o:=fun c o c1 c2 c3 e=>Heap.get?_push_of_some _ (hs₃.extBut _ _ c3 (hs₂.extBut _ _ c2 (hs₁.extBut _ _ c1 e)))
 have last:=hQ (h₃.push { cls:=.type "tuple",data:=.seq #[x,y] }) (Heap.get?_push_of_some _ hz₃) (p₂'.at fun o e=>Heap.get?_push_of_some _ e) (p₃.at fun o e=>Heap.get?_push_of_some _ e) (by rw [← sz]; exact Heap.get?_push_size _ rfl) (by rw [Heap.size_push,sz]) up
 rw [sz]
 exact last
theorem zx_stop {z TI TO i1 i2 l1 l2:Addr}{k:Nat}{xs:Array Value}{Q:Fin -> Shared -> Prop}{f:Bool}{a:Addr}(hh:A.handled=none)(D:ZipApart z TI TO i1 i2 l1 l2)
  (hz:ZX s.heap z TI TO a f) {oa:Obj} (hoa:s.heap.get? a=some oa) (haz:a ≠ z) (hTI:IsPair s.heap TI (.ref i1) (.ref i2))
  (h1:s.heap.IsListIter i1 l1 k) (hl1:s.heap.IsList l1 xs) (hx:xs[k]? = none)
  (hE:∀ h' e,(∀ c o,c ≠ z -> c ≠ i1 -> s.heap.get? c=some o -> h'.get? c=some o) -> (∃ o,h'.get? e=some o /\ o.cls = .type "StopIteration") -> E (.ref e) { s with heap:=h' }) :
  wpAny (model prog w) A (Builtin.«zip.__next__» ⟨[.ref z],[]⟩) Q E s:=by
 show wpAny _ A (do let two ← field (.ref z) 2; _) _ _ s
 refine wpAny_bind (wpAny_field hz rfl (x:=Value.bool false) rfl (wpAny_bind (wpAny_field hz rfl (x:=Value.ref TI) rfl (wpAny_bind (wpAny_seqItems hTI rfl ?_)))))
 have own:∀ (R:Bool -> Shared -> Prop),(∀ h₁,ZX h₁ z TI TO a true -> Heap.SameBut z s.heap h₁ -> R false { s with heap:=h₁ }) -> wpAny (model prog w) A (Builtin.SmallTypes.ownedTupleIsFree (.ref z)) R E s:=by
  intro R hR
  unfold Builtin.SmallTypes.ownedTupleIsFree
  refine wpAny_bind (wpAny_field hz rfl (x:=rawInt a) rfl ?_)
  show wpAny _ A (do let o ← loadIfAlive ((a:Int).toNat); _) _ _ s
  rw [Int.toNat_natCast]
  refine wpAny_bind (PySem.W.kdx_alive hoa ?_)
  simp only [Option.isNone_some,Bool.false_eq_true,if_false]
  refine wpAny_bind (wpAny_field hz rfl (x:=Value.bool f) rfl ?_)
  cases f with
  | true =>
   rw [if_neg (by decide)]
   exact wpAny_bind (wpAny_pure (wpAny_pure (hR s.heap hz (Heap.SameBut.refl _ _))))
  | false =>
   rw [if_pos (by decide)]
   exact wpAny_bind (wpAny_setField_rec hz (by simp) fun h₁ e₁ b₁=>wpAny_pure (hR h₁ e₁ b₁))
 show wpAny _ A (do let b ← Builtin.SmallTypes.ownedTupleIsFree (.ref z); _) _ _ s
 refine wpAny_bind (own _ fun h₁ hz₁ hs₁=>?_)
 simp only [Bool.false_eq_true,if_false,List.forIn_toArray,List.forIn_cons,List.forIn_nil]
 refine wpAny_bind (wpAny_bind (wpAny_bind (wpAny_holding ?_)))
 show wpAny _ A (do let got ← Builtin.SmallTypes.nextOf (.ref i1); _) _ _ _
 exact wpAny_bind (wpAny_nextOf_list_end hh (h1.extBut hs₁.extBut D.i1z) (hl1.extBut hs₁.extBut D.l1z) hx fun h₂ e hs₂ he=>hE h₂ e (fun c o c1 c2 q=>hs₂ _ _ c2 (hs₁.extBut _ _ c1 q)) he)
def ZSt (h:Heap)(z TI TO i1 i2 l1 l2 S:Addr)(k:Nat):Prop :=
 IsPair h TI (.ref i1) (.ref i2) /\ h.IsListIter i1 l1 k /\ h.IsListIter i2 l2 k /\ ((k=0 /\ IsZip h z TI TO .none /\ ∃ x y,IsPair h TO x y) \/ ∃ a f oa,ZX h z TI TO a f /\ h.get? a=some oa /\ a ≠ z /\ a ≠ S /\ a ≠ i1 /\ a ≠ i2)
theorem ZSt.keep {h h':Heap}{z TI TO i1 i2 l1 l2 S:Addr}{k:Nat}(st:ZSt h z TI TO i1 i2 l1 l2 S k)(hk:∀ b o,b ≠ S -> h.get? b=some o -> h'.get? b=some o)(n:z ≠ S /\ TI ≠ S /\ TO ≠ S /\ i1 ≠ S /\ i2 ≠ S):ZSt h' z TI TO i1 i2 l1 l2 S k:=by
 obtain ⟨a,b,c,d⟩:=st
 obtain ⟨n1,n2,n3,n4,n5⟩:=n
 refine ⟨hk _ _ n2 a,b.at fun o e=>hk _ o n4 e,c.at fun o e=>hk _ o n5 e,?_⟩
 rcases d with ⟨e,d1,x,y,d2⟩ | ⟨a,f,oa,d1,d2,d3,d4,d5⟩
 ·exact .inl ⟨e,hk _ _ n1 d1,x,y,hk _ _ n3 d2⟩
 ·exact .inr ⟨a,f,oa,hk _ _ n1 d1,hk _ _ d4 d2,d3,d4,d5⟩
theorem zst_item {z TI TO i1 i2 l1 l2 S:Addr}{k:Nat}{xs ys:Array Value}{x y:Value}{Q:Option Value -> Shared -> Prop}(D:ZipApart z TI TO i1 i2 l1 l2)(hS:S < s.heap.objs.size)(st:ZSt s.heap z TI TO i1 i2 l1 l2 S k)
  (hl1:s.heap.IsList l1 xs) (hl2:s.heap.IsList l2 ys) (hx:xs[k]? = some x) (hy:ys[k]? = some y)
  (hQ:∀ h',ZSt h' z TI TO i1 i2 l1 l2 S (k+1) -> IsPair h' s.heap.objs.size x y -> h'.objs.size=s.heap.objs.size+1 ->
   (∀ c o,c ≠ z -> c ≠ TO -> c ≠ i1 -> c ≠ i2 -> s.heap.get? c=some o -> h'.get? c=some o) -> Q (some (.ref s.heap.objs.size)) { s with heap:=h' }) :
  wpAny (model prog w) A (pyNext (.ref z)) Q E s:=by
 obtain ⟨tI,p1,p2,d⟩:=st
 have j1:i1 < s.heap.objs.size:=by obtain ⟨_,e,_⟩:=p1; exact Heap.lt_size e
 have j2:i2 < s.heap.objs.size:=by obtain ⟨_,e,_⟩:=p2; exact Heap.lt_size e
 rcases d with ⟨rfl,d1,u,v,d2⟩ | ⟨a,f,oa,d1,d2,d3,d4,d5,d6⟩
 ·refine wpAny_pyNext_zip_item D d1 tI d2 p1 p2 hl1 hl2 hx hy fun h' a1 a2 a3 a4 a5 a6 a7=>hQ h' ⟨a7 _ _ D.TIz D.TITO D.TIi1 D.TIi2 tI,a3,a4,.inr ⟨_,false,_,a1,a5,Nat.ne_of_gt (Heap.lt_size d1),Nat.ne_of_gt hS,Nat.ne_of_gt j1,Nat.ne_of_gt j2⟩⟩ a5 a6 a7
 ·have hT:s.TypeIs (.ref z) "zip":=⟨_,d1,rfl⟩
  unfold pyNext
  refine wpAny_bind (wpAny_attempt (wpAny_callSpecial?_slot (name:=Str.ofString "__next__") hT F.slot_zip_next (wpAny_call_entry F.slot_zip_next hT F.entry_zip_next (zx_draw D d1 d2 d3 tI p1 p2 hl1 hl2 hx hy fun h' a1 a2 a3 a4 a5 a6=>wpAny_pure ?_) (F.args_zip_next_1 _))))
  exact hQ h' ⟨a6 _ _ D.TIz D.TIi1 D.TIi2 tI,a2,a3,.inr ⟨a,true,oa,a1,a6 _ _ d3 d5 d6 d2,d3,d4,d5,d6⟩⟩ a4 a5 fun c o c1 _ c3 c4 e=>a6 c o c1 c3 c4 e
theorem zst_end {z TI TO i1 i2 l1 l2 S:Addr}{k:Nat}{xs ys:Array Value}{Q:Option Value -> Shared -> Prop}(hh:A.handled=none)(D:ZipApart z TI TO i1 i2 l1 l2)(st:ZSt s.heap z TI TO i1 i2 l1 l2 S k)
  (hl1:s.heap.IsList l1 xs) (hl2:s.heap.IsList l2 ys) (hx:xs[k]? = none)
  (hQ:∀ h',(∀ c o,c ≠ z -> c ≠ TO -> c ≠ i1 -> c ≠ i2 -> s.heap.get? c=some o -> h'.get? c=some o) -> Q none { s with heap:=h' }) :
  wpAny (model prog w) A (pyNext (.ref z)) Q E s:=by
 obtain ⟨tI,p1,p2,d⟩:=st
 rcases d with ⟨rfl,d1,u,v,d2⟩ | ⟨a,f,oa,d1,d2,d3,d4,d5,d6⟩
 ·exact wpAny_pyNext_zip_end hh D d1 tI d2 p1 p2 hl1 hl2 (.inl hx) hQ
 ·have hT:s.TypeIs (.ref z) "zip":=⟨_,d1,rfl⟩
  unfold pyNext
  refine wpAny_bind (wpAny_attempt (wpAny_callSpecial?_slot (name:=Str.ofString "__next__") hT F.slot_zip_next (wpAny_call_entry F.slot_zip_next hT F.entry_zip_next (zx_stop hh D d1 d2 d3 tI p1 hl1 hx fun h' e hk he=>?_) (F.args_zip_next_1 _))))
  obtain ⟨o,ho,hc⟩:=he
  exact wpAny_bind (wpAny_isInstance (T:="StopIteration") (b:=true) ⟨o,ho,hc⟩ isSubtype_stop (wpAny_pure (hQ _ fun c o c1 _ c3 _ e=>hk c o c1 c3 e)))
structure ZG (xs ys:Array Value) (lo:Addr) (h:Heap) (as:List Addr):Prop where
 above:∀ a ∈ as,lo < a
 nd:as.Pairwise (· < ·)
 pair:∀ (j:Nat) (a:Addr),as[j]? = some a -> ∃ x y,xs[j]? = some x /\ ys[j]? = some y /\ IsPair h a x y
theorem ZG.lt {xs ys:Array Value}{lo a:Addr}{h:Heap}{as:List Addr}(g:ZG xs ys lo h as)(ha:a ∈ as):a < h.objs.size:=by
 obtain ⟨j,hj⟩:=List.mem_iff_getElem?.mp ha
 obtain ⟨x,y,_,_,e⟩:=g.pair j a hj
 exact Heap.lt_size e
end
section
variable {prog:Program}{w:World}{A:Around}{s:Shared}{R:Result -> Shared -> Prop}{xs ys:Array Value}{z TI TO i1 i2 l1 l2 S lo:Addr}
theorem zl_loop (hh:A.handled=none)(D:ZipApart z TI TO i1 i2 l1 l2)(nS:z ≠ S /\ TI ≠ S /\ TO ≠ S /\ i1 ≠ S /\ i2 ≠ S)(ls:l1 ≠ S /\ l2 ≠ S)(hlo:S <= lo /\ z <= lo /\ TO <= lo /\ i1 <= lo /\ i2 <= lo)(hlen:ys.size=xs.size)(hz:xs.size <= sizeLine)(res:Value){g₀:Heap}
  (fin:∀ h' tk acc c as,(∀ b o,b ≠ S -> b ≠ z -> b ≠ TO -> b ≠ i1 -> b ≠ i2 -> g₀.get? b=some o -> h'.get? b=some o) -> h'.get? S=some { cls:=.type "list",dict:=none,data:=.seq acc c,slots:=#[] } -> as.length=xs.size -> ZG xs ys lo h' as -> acc.toList=as.map Value.ref -> R (.ok (.ret res)) { s with heap:=h',toks:=tk }) :
  ∀ (n k:Nat) (h:Heap) (tk c:Nat) (acc:Array Value) (as:List Addr),xs.size - k=n -> k <= xs.size -> ZSt h z TI TO i1 i2 l1 l2 S k -> h.IsList l1 xs -> h.IsList l2 ys -> (∀ b o,b ≠ S -> b ≠ z -> b ≠ TO -> b ≠ i1 -> b ≠ i2 -> g₀.get? b=some o -> h.get? b=some o) ->
   h.get? S=some { cls:=.type "list",dict:=none,data:=.seq acc c,slots:=#[] } -> acc.toList=as.map Value.ref -> as.length=k -> ZG xs ys lo h as -> lo < h.objs.size -> codeAny (model prog w) A (.builtin "list.extend.loop" ⟨[.ref S,.ref z,res],[]⟩) R { s with heap:=h,toks:=tk }:=by
 obtain ⟨zS,iS,oS,aS,bS⟩:=nS
 obtain ⟨lo0,lo1,lo2,lo3,lo4⟩:=hlo
 have five:∀ {a:Addr},lo < a -> a ≠ S /\ a ≠ z /\ a ≠ TO /\ a ≠ i1 /\ a ≠ i2:=fun {a} h =>
  ⟨Nat.ne_of_gt (Nat.lt_of_le_of_lt lo0 h),Nat.ne_of_gt (Nat.lt_of_le_of_lt lo1 h),Nat.ne_of_gt (Nat.lt_of_le_of_lt lo2 h),Nat.ne_of_gt (Nat.lt_of_le_of_lt lo3 h),Nat.ne_of_gt (Nat.lt_of_le_of_lt lo4 h)⟩
 intro n
 induction n with
 | zero =>
  intro k h tk c acc as e1 e2 st p1 p2 hk hS ha hl G hs
  refine codeAny_builtin PySem.F.entry_extend_loop (by
   rw [Around.under_plainId PySem.F.plain_extend_loop _]
   show wpAny _ A.in1 (do let r ← pyNext (.ref z); _) _ _ _
   refine wpAny_bind (zst_end (s:={ s with heap:=h,toks:=tk }) (A:=A.in1) hh D st p1 p2 (Array.getElem?_eq_none (by omega)) fun h' k'=>?_)
   refine wpAny_pure (fin h' tk acc c as (fun b o b1 b2 b3 b4 b5 e=>k' b o b2 b3 b4 b5 (hk b o b1 b2 b3 b4 b5 e)) (k' S _ zS.symm oS.symm aS.symm bS.symm hS) (by omega) ⟨G.above,G.nd,fun j a hj=>?_⟩ ha)
   obtain ⟨x,y,q1,q2,q3⟩:=G.pair j a hj
   obtain ⟨f1,f2,f3,f4,f5⟩:=five (G.above a (qE hj))
   exact ⟨x,y,q1,q2,k' a _ f2 f3 f4 f5 q3⟩)
 | succ n ih =>
  intro k h tk c acc as e1 e2 st p1 p2 hk hS ha hl G hs
  have hlt:k < xs.size:=by omega
  have asz:acc.size=k:=by rw [← Array.length_toList,ha,qC,hl]
  refine codeAny_builtin PySem.F.entry_extend_loop (by
   rw [Around.under_plainId PySem.F.plain_extend_loop _]
   show wpAny _ A.in1 (do let r ← pyNext (.ref z); _) _ _ _
   refine wpAny_bind (zst_item (s:={ s with heap:=h,toks:=tk }) (S:=S) D (Heap.lt_size hS) st p1 p2 (Array.getElem?_eq_getElem hlt) (Array.getElem?_eq_getElem (by omega)) fun h' st' pr sz k'=>?_)
   dsimp only at pr sz k' ⊢
   have hS':=k' S _ zS.symm oS.symm aS.symm bS.symm hS
   have up:∀ b o,b ≠ S -> h'.get? b=some o -> (h'.update S (Obj.mapSeq (·.push (Value.ref h.objs.size)))).get? b=some o:=fun b o nb e=>(Heap.get?_update_other _ _ nb.symm).trans e
   show wpAny _ A.in1 (do updateSeq S (·.push (Value.ref h.objs.size)); _) _ _ _
   have ne0:=five hs
   refine wpAny_bind (wpAny_updateSeq hS' rfl (wpAny_pure ⟨plainId_quiet PySem.F.plain_extend_loop _,ih (k+1) _ tk _ (acc.push (Value.ref h.objs.size)) (as ++ [h.objs.size]) (by omega) hlt (st'.keep up ⟨zS,iS,oS,aS,bS⟩)
    (p1.at fun o e=>up _ o ls.1 (k' _ o D.l1z D.l1TO D.l1i1 D.l1i2 e)) (p2.at fun o e=>up _ o ls.2 (k' _ o D.l2z D.l2TO D.l2i1 D.l2i2 e)) (fun b o b1 b2 b3 b4 b5 e=>up b o b1 (k' b o b2 b3 b4 b5 (hk b o b1 b2 b3 b4 b5 e)))
    (Heap.get?_update_self _ hS' rfl) (by rw [Array.toList_push,ha,List.map_append]; rfl) (by rw [qF,hl]; rfl) ⟨?_,?_,?_⟩ ?_⟩) (by rw [asz]; omega) (by show (acc.push (Value.ref h.objs.size)).size <= sizeLine+1; rw [Array.size_push,asz]; omega))
   ·intro a hm
    rcases List.mem_append.mp hm with q | q
    ·exact G.above a q
    ·rw [List.mem_singleton.mp q]; exact hs
   ·refine List.pairwise_append.mpr ⟨G.nd,List.pairwise_singleton _ _,fun a q b r=>?_⟩
    rw [List.mem_singleton.mp r]
    exact G.lt q
   ·intro j a hj
    rcases get_snoc hj with ⟨_,q⟩ | ⟨q,r⟩
    ·obtain ⟨x,y,q1,q2,q3⟩:=G.pair j a q
     obtain ⟨f1,f2,f3,f4,f5⟩:=five (G.above a (qE q))
     exact ⟨x,y,q1,q2,up a _ f1 (k' a _ f2 f3 f4 f5 q3)⟩
    ·subst r
     rw [q,hl]
     exact ⟨_,_,Array.getElem?_eq_getElem hlt,Array.getElem?_eq_getElem (by omega),up _ _ ne0.1 pr⟩
   ·exact Nat.lt_trans hs (Heap.lt_size (up _ _ ne0.1 pr)))
end
theorem zip_nolen:typeLookup (.type "zip") "__len__" = pure none:=by rw [typeLookup_type,builtinLookup_eq_fast]; kernel_rfl
theorem zip_nohint:typeLookup (.type "zip") "__length_hint__" = pure none:=by rw [typeLookup_type,builtinLookup_eq_fast]; kernel_rfl
section
variable {prog:Program}{w:World}{A:Around}{E:Value -> Shared -> Prop}{s:Shared}{xs ys:Array Value}{z TI TO i1 i2 l1 l2:Addr}
theorem zl_call {Q:Value -> Shared -> Prop}(hh:A.handled=none)(D:ZipApart z TI TO i1 i2 l1 l2)(hz0:IsZip s.heap z TI TO .none)(hTI:IsPair s.heap TI (.ref i1) (.ref i2))(hTO:∃ x y,IsPair s.heap TO x y)(h1:s.heap.IsListIter i1 l1 0)(h2:s.heap.IsListIter i2 l2 0)(hl1:s.heap.IsList l1 xs)(hl2:s.heap.IsList l2 ys)
  (hlen:ys.size=xs.size) (hz:xs.size <= sizeLine)
  (hQ:∀ h' tk acc c as,(∀ b o,b ≠ z -> b ≠ TO -> b ≠ i1 -> b ≠ i2 -> s.heap.get? b=some o -> h'.get? b=some o) -> h'.get? s.heap.objs.size=some { cls:=.type "list",dict:=none,data:=.seq acc c,slots:=#[] } -> as.length=xs.size -> ZG xs ys s.heap.objs.size h' as -> acc.toList=as.map Value.ref -> Q (.ref s.heap.objs.size) { s with heap:=h',toks:=tk }) :
  wpAny (model prog w) A (call (.type "list") [.ref z]) Q E s:=by
 have lz:z < s.heap.objs.size:=Heap.lt_size hz0
 have lT:TI < s.heap.objs.size:=Heap.lt_size hTI
 have lO:TO < s.heap.objs.size:=by obtain ⟨_,_,e⟩:=hTO; exact Heap.lt_size e
 have l1':i1 < s.heap.objs.size:=by obtain ⟨_,e,_⟩:=h1; exact Heap.lt_size e
 have l2':i2 < s.heap.objs.size:=by obtain ⟨_,e,_⟩:=h2; exact Heap.lt_size e
 have ll1:l1 < s.heap.objs.size:=by obtain ⟨_,e,_⟩:=hl1; exact Heap.lt_size e
 have ll2:l2 < s.heap.objs.size:=by obtain ⟨_,e,_⟩:=hl2; exact Heap.lt_size e
 refine callType_codes (Q₁:=fun obj s₁=>obj = .ref s.heap.objs.size /\ s₁ = { s with heap:=s.heap.push { cls:=.type "list",data:=.seq #[] } }) PySem.F.called_list (PySem.F.typeCall_list_1 _) PySem.F.entry_list_init (code_list_new _ ⟨rfl,rfl⟩) fun obj s₁ e=>?_
 obtain ⟨rfl,rfl⟩:=e
 have hS:(s.heap.push { cls:=.type "list",data:=.seq #[] }).get? s.heap.objs.size=some { cls:=.type "list",data:=.seq #[] }:=Heap.get?_push_size _ rfl
 generalize hSS:s.heap.objs.size=S at *
 have hk0:∀ b o,s.heap.get? b=some o -> (s.heap.push { cls:=.type "list",data:=.seq #[] }).get? b=some o:=fun b o e=>Heap.get?_push_of_some _ e
 have hsz0:(s.heap.push { cls:=.type "list",data:=.seq #[] }).objs.size=S+1:=by rw [Heap.size_push,hSS]
 generalize s.heap.push { cls:=.type "list",data:=.seq #[] } = g at hS hk0 hsz0
 have run:∀ (h:Heap) (c₁ tk:Nat),(∀ b o,b ≠ S -> g.get? b=some o -> h.get? b=some o) -> h.get? S=some { cls:=.type "list",data:=.seq #[] c₁ } ->
   codeAny (model prog w) A.in1 (.builtin "list.extend.loop" ⟨[.ref S,.ref z,.none],[]⟩) (wants (fun r s₂=>r=Value.none /\ Q (.ref S) s₂) E) { s with heap:=h,toks:=tk }:=by
  intro h c₁ tk k' hS₁
  have hv:∀ b o,s.heap.get? b=some o -> h.get? b=some o:=fun b o e=>k' b o (Nat.ne_of_lt (by rw [← hSS]; exact Heap.lt_size e)) (hk0 b o e)
  obtain ⟨u,v,hTO⟩:=hTO
  refine zl_loop (A:=A.in1) (s:=s) (g₀:=s.heap) (lo:=S) hh D ⟨Nat.ne_of_lt lz,Nat.ne_of_lt lT,Nat.ne_of_lt lO,Nat.ne_of_lt l1',Nat.ne_of_lt l2'⟩ ⟨Nat.ne_of_lt ll1,Nat.ne_of_lt ll2⟩ ⟨Nat.le_refl _,Nat.le_of_lt lz,Nat.le_of_lt lO,Nat.le_of_lt l1',Nat.le_of_lt l2'⟩ hlen hz .none
   (fun h' tk' acc c as k2 hS2 hl hG ha=>⟨rfl,hQ h' tk' acc c as (fun b o b1 b2 b3 b4 e=>k2 b o (Nat.ne_of_lt (by rw [← hSS]; exact Heap.lt_size e)) b1 b2 b3 b4 e) hS2 hl hG ha⟩)
   xs.size 0 h tk c₁ #[] [] (Nat.sub_zero _) (Nat.zero_le _) ⟨hv _ _ hTI,h1.at fun o e=>hv _ o e,h2.at fun o e=>hv _ o e,.inl ⟨rfl,hv _ _ hz0,u,v,hv _ _ hTO⟩⟩ (hl1.at fun o e=>hv _ o e) (hl2.at fun o e=>hv _ o e) (fun b o _ _ _ _ _ e=>hv b o e) hS₁ rfl rfl
   ⟨(fun _ q=>nomatch q),List.Pairwise.nil,(fun j a q=>by simp at q)⟩ (Heap.lt_size hS₁)
 refine ⟨⟨_,hS,rfl⟩,PySem.F.args_list_init_2 _ _,?_⟩
 show wpAny _ A.in1.in1 (do let was ← Builtin.List.listItems (.ref S); _) _ _ _
 refine wpAny_bind (by
  unfold Builtin.List.listItems
  refine wpAny_bind (wpAny_seqItems hS rfl (wpAny_pure ?_))
  show wpAny _ A.in1.in1 (do updateSeq S (fun _=>#[]); _) _ _ _
  refine wpAny_bind (wpAny_updateSeq hS rfl (wpAny_bind (wpAny_letGo ?_)))
  have hS₂:=Heap.get?_update_self (Obj.mapSeq fun _=>(#[]:Array Value)) hS rfl
  have k2:∀ b o,b ≠ S -> g.get? b=some o -> (g.update S (Obj.mapSeq fun _=>(#[]:Array Value))).get? b=some o:=fun b o nb e=>(Heap.get?_update_other _ _ nb.symm).trans e
  generalize g.update S (Obj.mapSeq fun _=>(#[]:Array Value))=g2 at hS₂ k2
  show wpAny _ A.in1.in1 (Builtin.List.listExtendWith (.ref S) (.ref z) .none) _ _ _
  have hz2:IsZip g2 z TI TO .none:=k2 _ _ (Nat.ne_of_lt lz) (hk0 _ _ hz0)
  have hT2:Shared.TypeIs { s with heap:=g2 } (.ref z) "zip":=⟨_,hz2,rfl⟩
  unfold Builtin.List.listExtendWith
  refine wpAny_bind (wpAny_typeOf (T:="zip") hT2 ?_)
  rw [show Builtin.List.listSameRef (.ref S) (.ref z)=false by simp [Builtin.List.listSameRef,Nat.ne_of_gt lz]]
  simp only [show (Value.type "zip" == Value.type "list")=false by decide,show (Value.type "zip" == Value.type "tuple")=false by decide,Bool.or_false,Bool.false_eq_true,if_false]
  refine wpAny_bind (wpAny_pyIter_zip hz2 (wpAny_bind (wpAny_holding ?_)))
  unfold Builtin.List.listLengthHint
  refine wpAny_bind (wpAny_specialOf hT2 zip_nolen ?_)
  show wpAny _ A.in1.in1 (do let x ← specialOf (Value.ref z) (Str.ofString "__length_hint__"); _) _ _ _
  refine wpAny_bind (wpAny_specialOf hT2 zip_nohint (wpAny_pure ?_))
  show wpAny _ A.in1.in1 (do rule "list.extend.makes-room"; _) _ _ _
  refine wpAny_bind (wpAny_rule (wpAny_bind ?_))
  show wpAny _ A.in1.in1 (do updateSeq S (·.push .none); _) _ _ _
  refine wpAny_bind (wpAny_updateSeq hS₂ rfl ?_)
  have hS₃:=Heap.get?_update_self (Obj.mapSeq (·.push Value.none)) hS₂ rfl
  refine wpAny_updateSeq (hz:=by seq_fits) hS₃ rfl (wpAny_pure ⟨plainId_quiet PySem.F.plain_extend_loop _,run _ _ s.toks (fun b o nb e=>?_) (Heap.get?_update_self (Obj.mapSeq (·.pop)) hS₃ rfl)⟩)
  exact (Heap.get?_update_other _ _ nb.symm).trans ((Heap.get?_update_other _ _ nb.symm).trans (k2 b o nb e)))
end
def lay (H New:Hp):Hp:=fun b=>match New b with
 | some o=>some o
 | none=>H b
theorem lay_some {H New:Hp}{b:Addr}{o:HO}(h:New b=some o):lay H New b=some o:=by unfold lay; rw [h]
theorem lay_none {H New:Hp}{b:Addr}(h:New b=none):lay H New b=H b:=by unfold lay; rw [h]
theorem lay_old {H New:Hp}{b:Addr}{o:HO}(hn:∀ c u,New c=some u -> H c=none)(h:H b=some o):lay H New b=some o:=by
 cases e:New b with
 | none=>rw [lay_none e]; exact h
 | some u=>rw [hn b u e] at h; cases h
theorem Inv.laidN {X:Cx}{pins:List (Addr × Obj)}{σ:St}{H New:Hp}{s:Shared}{h':Heap}{t':Nat}(I:Inv X pins σ H s)(k:∀ b u,s.heap.get? b=some u -> h'.get? b=some u)
  (hn:∀ b o,New b=some o -> s.heap.objs.size <= b /\ ObjOk X.prog X.w (lay H New) h' b o):Inv X pins σ (lay H New) { s with heap:=h',toks:=t' }:=by
 have old:∀ c u,New c=some u -> H c=none:=fun c u e=>I.hok.fresh (hn c u e).1
 have fresh:∀ b o,s.heap.get? b=some o -> New b=none:=fun b o e=>by
  cases q:New b with
  | none=>rfl
  | some u=>exact absurd (qJ (Heap.lt_size e) (hn b u q).1) (Nat.lt_irrefl _)
 refine I.un ⟨fun b o e _ _ _=>k b o e,fun b o e _ _ _=>⟨o.slots,k b o e⟩,fun b o e n _=>by rw [lay_none (fresh b o e)]; exact n,fun b o e _=>⟨o,k b o e⟩,fun b xs e=>lay_old old e,fun b o u e=>lay_old old e,fun b ps e=>⟨#[],by rw [Array.append_empty]; exact lay_old old e⟩⟩ (fun b o e=>?_)
 cases q:New b with
 | some u =>
  rw [lay_some q] at e
  have e':=Option.some.inj e
  subst e'
  exact (hn _ _ q).2
 | none =>
  rw [lay_none q] at e
  exact (I.hok b o e).stay (fun c v _ z=>k c v z) (fun c z=>lay_old old z) fun c xs z=>lay_old old z
def tupsAt:List Addr -> List (List V) -> Hp
 | a :: as,p :: ps=>fun b=>if b=a then some (.tup p) else tupsAt as ps b
 | _,_=>fun _=>none
theorem tupsAt_get:∀ {as:List Addr} {ps:List (List V)} {j:Nat} {a:Addr} {p:List V},as.Pairwise (· < ·) -> as[j]? = some a -> ps[j]? = some p -> tupsAt as ps a=some (.tup p)
 | c :: as,q :: ps,0,a,p,_,h1,h2=>by
  cases h1
  cases h2
  unfold tupsAt
  rw [if_pos rfl]
 | c :: as,q :: ps,j+1,a,p,nd,h1,h2=>by
  have h1':as[j]? = some a:=h1
  have lt:=(List.pairwise_cons.mp nd).1 a (qE h1')
  unfold tupsAt
  rw [if_neg (Nat.ne_of_gt lt)]
  exact tupsAt_get (List.pairwise_cons.mp nd).2 h1' h2
theorem tupsAt_of:∀ {as:List Addr} {ps:List (List V)} {b:Addr} {o:HO},tupsAt as ps b=some o -> ∃ (j:Nat) (p:List V),as[j]? = some b /\ ps[j]? = some p /\ o = .tup p
 | [],ps,b,o,h=>by cases h
 | c :: as,[],b,o,h=>by cases h
 | c :: as,q :: ps,b,o,h=>by
  unfold tupsAt at h
  by_cases e:b=c
  ·rw [if_pos e] at h
   cases h
   subst e
   exact ⟨0,q,rfl,rfl,rfl⟩
  ·rw [if_neg e] at h
   obtain ⟨j,p,h1,h2,h3⟩:=tupsAt_of h
   exact ⟨j+1,p,h1,h2,h3⟩
def tLZ (K:PySem.W.Frag)(ta:TA):TE:=fun σ H Q=>ta σ H fun vs H1=>∃ a b us ws,vs=[.ref a,.ref b] /\ SqL K H1 a us /\ SqL K H1 b ws /\ ws.length=us.length /\ us.length <= 1000 /\
 ∀ l zs H',H1 l=none -> Same H1 H' -> H' l=some (.lst zs) -> zs.length=us.length -> (∀ (k:Nat) (x y:V),us[k]? = some x -> ws[k]? = some y -> ∃ t:Addr,zs[k]? = some (.ref t) /\ H' t=some (.tup [x,y])) -> Q (.ref l) H'
theorem w_LZ {K:PySem.W.Frag}{ta:TA}{σ:St}{H:Hp}{Q:VK}:tLZ K ta σ H Q=(ta σ H fun vs H1=>∃ a b us ws,vs=[.ref a,.ref b] /\ SqL K H1 a us /\ SqL K H1 b ws /\ ws.length=us.length /\ us.length <= 1000 /\
 ∀ l zs H',H1 l=none -> Same H1 H' -> H' l=some (.lst zs) -> zs.length=us.length -> (∀ (k:Nat) (x y:V),us[k]? = some x -> ws[k]? = some y -> ∃ t:Addr,zs[k]? = some (.ref t) /\ H' t=some (.tup [x,y])) -> Q (.ref l) H'):=rfl
theorem vals_refs:∀ (as:List Addr),Vals (as.map V.ref) (as.map Value.ref)
 | []=>.nil
 | a :: r=>.cons rfl (vals_refs r)
theorem pe_listzip {X:Cx} (K:PySem.W.Frag) {a b:Expr} {ta:TA} {p q pos pos2:Pos} (hc:X.calm=true) (hg:Gl X "list") (hm:X.mg "list" = none) (hg2:Gl X "zip") (hm2:X.mg "zip" = none) (ha:PA X [a,b] ta) (hK:X.K=K:=by rfl)
  (hs:starEach [a,b] X.env=(false,eval a X.env) :: starEach [b] X.env:=by rfl) (hpl:(backTo pos2 (starEach [b] X.env)).any (·.1)=false:=by rfl)
  (he:starEach [.Call (.Name "zip" q) [a,b] [] pos2] X.env=(false,eval (.Call (.Name "zip" q) [a,b] [] pos2) X.env) :: starEach [] X.env:=by rfl) (hpl2:(backTo pos (starEach [] X.env)).any (·.1)=false:=by rfl) :
  PE X (.Call (.Name "list" p) [.Call (.Name "zip" q) [a,b] [] pos2] [] pos) (tLZ K ta):=by
 subst hK
 intro pins s σ H Q I h
 refine Call_ (ld_blt I hg hm bo_list (PyProof.Rows.callWith_type1 ?_ he hpl2))
 rw [he]
 show wpAny _ _ (spliced ((false,eval (.Call (.Name "zip" q) [a,b] [] pos2) X.env) :: backTo pos (starEach [] X.env))) _ _ s
 refine Calls.spliced_cons (Call_ (ld_blt I hg2 hm2 bo_zip (PyProof.Rows.callWith_type1 (thn (ha pos2 pins s σ H _ I h) fun us s1 ⟨vs,H1,I1,r1,q1⟩=>?_) hs hpl)))
 obtain ⟨a1,b1,us1,ws1,e,hq1,hq2,hlen,hz,fin⟩:=q1
 subst e
 obtain ⟨u1,u2,rfl,ru1,ru2⟩:=Vals.two r1
 cases ru1
 cases ru2
 obtain ⟨its1,rv1,pl1,hz1⟩:=I1.list hq1
 obtain ⟨its2,rv2,pl2,hz2⟩:=I1.list hq2
 have b1':a1 < s1.heap.objs.size:=by obtain ⟨_,e,_⟩:=pl1.isList; exact Heap.lt_size e
 have b2':b1 < s1.heap.objs.size:=by obtain ⟨_,e,_⟩:=pl2.isList; exact Heap.lt_size e
 refine call_zip_2 pl1.isList pl2.isList fun h' z1 z2 z3 z4 z5 zs zk=>?_
 show wpAny _ _ (spliced (backTo pos (starEach [] X.env))) _ _ _
 refine Calls.spliced_nil ?_
 have D:=zipApart_new b1' b2'
 refine zl_call (I.ok.hd hc) D z1 z2 ⟨_,_,z3⟩ z4 z5 (pl1.isList.at fun o e=>zk _ o e) (pl2.isList.at fun o e=>zk _ o e) ?_ ?_ fun h2 tk acc c as k2 hS hl G hacc=>?_
 ·rw [qM,qM,← rv1.length,← rv2.length]; exact hlen
 ·rw [qM,← rv1.length]; exact hz1
 have hS':h2.get? h'.objs.size=some { cls:=.type "list",data:=.seq acc c }:=hS
 have k2':∀ b o,s1.heap.get? b=some o -> h2.get? b=some o:=fun b o e=>by
  have lt:=Heap.lt_size e
  exact k2 b o (Nat.ne_of_lt (qJ lt (Nat.le_add_right _ 4))) (Nat.ne_of_lt (qJ lt (Nat.le_add_right _ 3))) (Nat.ne_of_lt lt) (Nat.ne_of_lt (qJ lt (Nat.le_add_right _ 1))) (zk b o e)
 have ael:as.length=us1.length:=by rw [hl,qM,← rv1.length]
 have above:∀ b ∈ as,h'.objs.size < b:=G.above
 have lo1:s1.heap.objs.size <= h'.objs.size:=by rw [zs]; exact Nat.le_add_right _ 5
 have eacc:acc=(as.map Value.ref).toArray:=by rw [← hacc,Array.toArray_toList]
 have nL:∀ b,b ∈ as -> b ≠ h'.objs.size:=fun b hb=>Nat.ne_of_gt (above b hb)
 have gt:∀ (k:Nat) (x y:V),us1[k]? = some x -> ws1[k]? = some y -> ∃ t:Addr,(as.map V.ref)[k]? = some (.ref t) /\ as[k]? = some t /\ tupsAt as (List.zipWith (fun x y=>[x,y]) us1 ws1) t=some (.tup [x,y]):=fun k x y e1 e2=>by
  have hk:k < as.length:=by rw [ael]; exact (qB.mp e1).1
  have hk':as[k]? = some as[k]:=qA hk
  refine ⟨as[k],by rw [qI,hk']; rfl,hk',tupsAt_get G.nd hk' ?_⟩
  rw [List.getElem?_zipWith,e1,e2]
 have IN:=I1.laidN (New:=fun b=>if b=h'.objs.size then some (.lst (as.map V.ref)) else tupsAt as (List.zipWith (fun x y=>[x,y]) us1 ws1) b) (t':=tk) k2' (fun b o e=>by
  by_cases eb:b=h'.objs.size
  ·subst eb
   have e':some (HO.lst (as.map V.ref))=some o:=by rw [← e]; exact (if_pos rfl).symm
   cases e'
   refine ⟨lo1,by rw [qC,ael]; exact hz1,as.map Value.ref,c,vals_refs as,?_⟩
   rw [hS',eacc]
  ·have e':tupsAt as (List.zipWith (fun x y=>[x,y]) us1 ws1) b=some o:=by rw [← e]; exact (if_neg eb).symm
   obtain ⟨j,p,h1,h2',rfl⟩:=tupsAt_of e'
   obtain ⟨x,y,q1,q2,q3⟩:=G.pair j b h1
   have hj:j < us1.length:=by rw [← ael]; exact (qB.mp h1).1
   have u1:us1[j]? = some us1[j]:=qA hj
   have u2:ws1[j]? = some (ws1[j]'(by omega)):=qA _
   obtain ⟨v1,g1,f1⟩:=rv1.get u1
   obtain ⟨v2,g2,f2⟩:=rv2.get u2
   rw [List.getElem?_toArray,g1] at q1
   rw [List.getElem?_toArray,g2] at q2
   cases q1
   cases q2
   rw [List.getElem?_zipWith,u1,u2] at h2'
   cases h2'
   exact ⟨Nat.le_trans lo1 (Nat.le_of_lt (above b (qE h1))),le_size (by show 2 <= 1000; decide),[_,_],.cons f1 (.cons f2 .nil),_,q3,rfl,_,rfl⟩)
 refine ⟨.ref h'.objs.size,_,IN,rfl,fin h'.objs.size (as.map V.ref) _ (I1.hok.fresh lo1) (fun b o e=>?_) ?_ (by rw [qC,ael]) fun k x y e1 e2=>?_⟩
 ·refine lay_old (fun b o e=>I1.hok.fresh ?_) e
  by_cases eb:b=h'.objs.size
  ·rw [eb]; exact lo1
  ·have e':tupsAt as (List.zipWith (fun x y=>[x,y]) us1 ws1) b=some o:=by rw [← e]; exact (if_neg eb).symm
   obtain ⟨j,p,h1,_⟩:=tupsAt_of e'
   exact Nat.le_trans lo1 (Nat.le_of_lt (above b (qE h1)))
 ·exact lay_some (if_pos rfl)
 ·obtain ⟨t,e3,e4,e5⟩:=gt k x y e1 e2
  exact ⟨t,e3,lay_some ((if_neg (nL t (qE e4))).trans e5)⟩
end L2
set_option Elab.async false
set_option linter.all false
set_option maxRecDepth 100000
set_option maxHeartbeats 1000000
namespace L2
open PySem PySem.Spec
def rowD (rs:List (List Int))(d:Wd):List Int:=List.zipWith (fun x y=>mvI d.s x+sgW d.w * mvI d.t y) (rs.getD d.a []) (rs.getD d.b [])
def rowsW (ins:Nat)(ds:List Wd):List (List Int):=ds.foldl (fun rs d=>rs ++ [rowD rs d]) ((List.range ins).map (unitRow ins))
theorem rowsW_snoc (ins:Nat)(ds:List Wd)(d:Wd):rowsW ins (ds ++ [d])=rowsW ins ds ++ [rowD (rowsW ins ds) d]:=by unfold rowsW; rw [List.foldl_append]; rfl
theorem rowsW_len (ins:Nat)(ds:List Wd):(rowsW ins ds).length=ins+ds.length:=by
 refine snoc_ind (p:=fun ds=>(rowsW ins ds).length=ins+ds.length) ?_ (fun xs x ih=>?_) ds
 ·unfold rowsW; simp
 ·rw [rowsW_snoc,qF,ih]; simp; omega
theorem rowsW_pre (ins:Nat)(ds new:List Wd){k:Nat}{r:List Int}(h:(rowsW ins ds)[k]? = some r):(rowsW ins (ds ++ new))[k]? = some r:=by
 refine snoc_ind (p:=fun new=>(rowsW ins (ds ++ new))[k]? = some r) (by rw [List.append_nil]; exact h) (fun xs x ih=>?_) new
 rw [← List.append_assoc,rowsW_snoc,qH (qB.mp ih).1]
 exact ih
theorem getD_of {α:Type}{xs:List α}{k:Nat}{x d:α}(h:xs[k]? = some x):xs.getD k d=x:=by rw [qD,h]; rfl
def Dv (s:Int)(r:List Int):Prop:=s < 0 -> ∀ x ∈ r,(2:Int) ^ (-s).toNat ∣ x
def Sh (s:Int)(r:List Int):Prop:=-40 <= s /\ s <= 40 /\ Dv s r
def ShOk (ins:Nat)(ds:List Wd):Prop:=∀ (k:Nat) (d:Wd),ds[k]? = some d -> d.a < ins+k /\ d.b < ins+k /\ Sh d.s ((rowsW ins ds).getD d.a []) /\ Sh d.t ((rowsW ins ds).getD d.b [])
theorem rows_stay (ins:Nat)(ds:List Wd)(d:Wd){j:Nat}(h:j < ins+ds.length):(rowsW ins (ds ++ [d])).getD j []=(rowsW ins ds).getD j []:=by
 have hj:j < (rowsW ins ds).length:=by rw [rowsW_len]; exact h
 have e:=qA hj
 rw [getD_of e,getD_of (rowsW_pre ins ds [d] e)]
theorem ShOk.snoc {ins:Nat}{ds:List Wd}{d:Wd}(h:ShOk ins ds)(h1:d.a < ins+ds.length)(h2:d.b < ins+ds.length)(h3:Sh d.s ((rowsW ins ds).getD d.a []))(h4:Sh d.t ((rowsW ins ds).getD d.b [])):ShOk ins (ds ++ [d]):=fun k e he=>by
 rcases get_snoc he with ⟨hk,z⟩ | ⟨hk,rfl⟩
 ·obtain ⟨a,b,c,f⟩:=h k e z
  rw [rows_stay ins ds d (by omega),rows_stay ins ds d (by omega)]
  exact ⟨a,b,c,f⟩
 ·rw [rows_stay ins ds _ h1,rows_stay ins ds _ h2,hk]
  exact ⟨h1,h2,h3,h4⟩
def GoOk (ins:Nat)(ds:List Wd)(gs:List Go):Prop:=∀ g ∈ gs,g=⟨0,0,0⟩ \/ ((g.sg=1 \/ g.sg = -1) /\ Sh g.sh ((rowsW ins ds).getD g.th []))
structure FWeb (ins:Nat) (ds:List Wd) (gs:List Go):Prop where
 ok:WebOk ins ds gs
 sh:ShOk ins ds
 go:GoOk ins ds gs
 rb:RB (41 * ds.length) (rowsW ins ds)
 wd:∀ r ∈ rowsW ins ds,r.length=ins
theorem WI.stepL {H:Hp}{p:Addr}{ins:Nat}{tb dl:Addr}{k:Nat}{vs us xs:List V}{rs:List (List Int)}{ds:List Wd}{H' H'':Hp}(h:WI H p ins tb dl k vs us rs ds H')(hp:H' p=some (.lst xs))(C:Chg p H' H''):WI H p ins tb dl k vs us rs ds H'' :=
 { h with tbl:=C _ _ h.tp h.tbl,hrs:=h.hrs.chg (by simp) C,dll:=C _ _ h.dp h.dll,hds:=h.hds.chgL hp C,chg:=h.chg.trans C }
structure FI (H:Hp) (p:Addr) (ins:Nat) (tb dl:Addr) (k:Nat) (vs us:List V) (ds:List Wd) (H':Hp):Prop where
 wi:WI H p ins tb dl k vs us (rowsW ins ds) ds H'
 sh:ShOk ins ds
theorem FI.step {H:Hp}{p:Addr}{c:Int}{ins:Nat}{tb dl:Addr}{k:Nat}{vs us:List V}{ds:List Wd}{H' H'':Hp}(h:FI H p ins tb dl k vs us ds H')(F:Feed H' p c)(C:Chg p H' H''):FI H p ins tb dl k vs us ds H'':=by
 obtain ⟨xs,hp⟩:=F.lst
 exact ⟨h.wi.stepL hp C,h.sh⟩
theorem row_of {H':Hp}{ex:List Addr}{vs:List V}{rs:List (List Int)}(h:HRs H' ex vs rs){j:Nat}(hj:j < rs.length):∃ (l:Addr) (r:List Int),rs[j]? = some r /\ atI vs (j:Int)=some (.ref l) /\ H' l=some (.lst (r.map V.int)) /\ r ∈ rs /\ ∀ e ∈ ex,l ≠ e:=by
 obtain ⟨l,e1,e2,e3⟩:=h.at_ j _ (qA hj)
 exact ⟨l,rs[j],qA hj,atI_nat e1,e2,List.getElem_mem hj,e3⟩
theorem FI.app {H:Hp}{p:Addr}{ins:Nat}{tb dl:Addr}{k:Nat}{vs us:List V}{ds:List Wd}{H' H1 H3:Hp}(h:FI H p ins tb dl k vs us ds H')(hi:ins <= 12){d:Wd}{x:Addr}(s1:Same H' H1)(hx:H1 x=some (.tup (wTup d)))
  (s3:Same (upd H1 dl (.lst (us ++ [.ref x]))) H3) {l:Addr} (hl:H3 l=some (.lst ((rowD (rowsW ins ds) d).map V.int))) (nl:(upd H1 dl (.lst (us ++ [.ref x]))) l=none) (lp:l ≠ p) (h1:d.a < ins+k) (h2:d.b < ins+k) (hw:d.w = "sum" \/ d.w = "less")
  (h3:Sh d.s ((rowsW ins ds).getD d.a [])) (h4:Sh d.t ((rowsW ins ds).getD d.b [])) (hr:(rowD (rowsW ins ds) d).length=ins) (hb:∀ x ∈ rowD (rowsW ins ds) d,x.natAbs <= 2 ^ (41 * (k+1))) :
  FI H p ins tb dl (k+1) (vs ++ [.ref l]) (us ++ [.ref x]) (ds ++ [d]) (upd H3 tb (.lst (vs ++ [.ref l]))):=by
 have wi:=h.wi
 have d1:=s1 _ _ wi.dll
 have t1:=s1 _ _ wi.tbl
 have t2:(upd H1 dl (.lst (us ++ [.ref x]))) tb=some (.lst vs):=by rw [upd_ne wi.td]; exact t1
 have t3:=s3 _ _ t2
 have d3:=s3 dl _ upd_same
 have ltb:l ≠ tb:=(ne_of_none t2 nl).symm
 have ldl:l ≠ dl:=by
  intro z
  rw [z,upd_same] at nl
  cases nl
 have r3:HRs H3 [dl,tb,p] vs (rowsW ins ds):=((wi.hrs.same s1).chg (l:=dl) (by simp) (Chg.upd _)).same s3
 have nx:x ≠ dl:=ne_of hx d1 (by intro z; cases z)
 have hd2:HTs wTup (upd H1 dl (.lst (us ++ [.ref x]))) (us ++ [.ref x]) (ds ++ [d]):=((wi.hds.same s1).chgL d1 (Chg.upd _)).snoc (by rw [upd_ne nx]; exact hx)
 have hd3:=(hd2.same s3).chgL t3 (Chg.upd (.lst (vs ++ [.ref l])))
 have dlen:(ds ++ [d]).length=k+1:=by simp [wi.dlen]
 refine ⟨⟨upd_same,?_,?_,?_,?_,?_,hd3,dlen,fun j e he=>?_,?_,wi.ntb,wi.ndl,wi.tp,wi.dp,wi.td⟩,h.sh.snoc (by rw [wi.dlen]; exact h1) (by rw [wi.dlen]; exact h2) h3 h4⟩
 ·rw [rowsW_snoc]
  refine (r3.chg (l:=tb) (by simp) (Chg.upd _)).snoc (by rw [upd_ne ltb]; exact hl) fun e he=>?_
  simp only [List.mem_cons,List.not_mem_nil,or_false] at he
  rcases he with z | z | z <;> subst z <;> assumption
 ·rw [rowsW_len,dlen]
 ·rw [rowsW_snoc]
  exact wi.rb.snoc (by omega) (by omega) hb
 ·intro q hq
  rw [rowsW_snoc] at hq
  rcases List.mem_append.mp hq with z | z
  ·exact wi.rw_ q z
  ·rw [List.mem_singleton.mp z]; exact hr
 ·rw [upd_ne wi.td.symm]; exact d3
 ·rcases get_snoc he with ⟨hj,z⟩ | ⟨hj,rfl⟩
  ·exact wi.dk j e z
  ·rw [hj,wi.dlen]; exact ⟨h1,h2,hw⟩
 ·exact Chg.updN (((wi.chg.trans s1.chg).updN wi.ndl).trans s3.chg) wi.ntb
theorem rowD_bound {rs:List (List Int)}{d:Wd}{k ins:Nat}(h:RB (41 * k) rs)(hw:∀ r ∈ rs,r.length=ins)(ha:d.a < rs.length)(hb:d.b < rs.length)(s0:-40 <= d.s)(s1:d.s <= 40)(t0:-40 <= d.t)(t1:d.t <= 40) :
  (rowD rs d).length=ins /\ ∀ x ∈ rowD rs d,x.natAbs <= 2 ^ (41 * (k+1)):=by
 have ea:=getD_of (d:=[]) (qA ha)
 have eb:=getD_of (d:=[]) (qA hb)
 have ma:=List.getElem_mem ha
 have mb:=List.getElem_mem hb
 unfold rowD
 rw [ea,eb]
 refine ⟨by rw [List.length_zipWith,hw _ ma,hw _ mb]; omega,fun x hx=>?_⟩
 obtain ⟨i,hi⟩:=List.getElem?_of_mem hx
 rw [List.getElem?_zipWith] at hi
 cases h1:rs[d.a][i]? with
 | none=>rw [h1] at hi; cases hi
 | some u =>
  cases h2:rs[d.b][i]? with
  | none=>rw [h1,h2] at hi; cases hi
  | some v =>
   rw [h1,h2] at hi
   cases hi
   have b1:=mvI_bound s0 s1 ((h _ ma).2 u (qE h1))
   have b2:=mvI_bound t0 t1 ((h _ mb).2 v (qE h2))
   have pw:2 ^ (41 * (k+1))=2 ^ (41 * k+40)+2 ^ (41 * k+40):=by
    rw [show 41 * (k+1)=41 * k+40+1 by omega,Nat.pow_succ]; omega
   rw [pw]
   have hg:sgW d.w=1 \/ sgW d.w = -1:=by
    unfold sgW
    split
    ·exact .inr rfl
    ·exact .inl rfl
   have:=abs_le_of (g:=1) (h:=sgW d.w) (.inl rfl) hg b1 b2
   rw [Int.one_mul] at this
   exact this
section
variable {K:PySem.W.Frag}{σ:St}{H:Hp}{Q:VK}{cs:List Nat}{te:TE}
theorem comp_pairs {l:Addr}{zs:List V}{xs ys:List Int}(hl:H l=some (.lst zs))(hlen:zs.length=xs.length)(hlen2:ys.length=xs.length)(hz:xs.length <= 1000)
  (ht:∀ (k:Nat) (x y:Int),xs[k]? = some x -> ys[k]? = some y -> ∃ t:Addr,zs[k]? = some (.ref t) /\ H t=some (.tup [.int x,.int y])) (f:Int -> Int -> Int)
  (hb:∀ x y H' (R:VK),Same H H' -> R (.int (f x y)) H' -> te ([some (.int x),some (.int y)] ++ capV cs σ) H' R)
  (hd:∀ acc H',H acc=none -> Same H H' -> H' acc=some (.lst ((List.zipWith f xs ys).map V.int)) -> Q (.ref acc) H') :
  CompIt (Itl K l) 2 cs (gTupM 2 (gCons (gName 0) (gCons (gName 1) gNil))) tYes te σ H Q:=by
 refine comp_any xs.length (fun acc i ws H'=>Same H H' /\ H' acc=some (.lst ws) /\ ws=((List.zipWith f xs ys).take i).map V.int) (le_size hz) ?_ ?_ ?_ ?_ ?_ ?_
 ·rintro acc i ws H' hi ⟨s,_,_⟩
  exact ⟨zs,zs[i]'(by omega),SqL.of (s _ _ hl),qA _⟩
 ·rintro acc ws H' ⟨s,_,_⟩
  exact ⟨zs,SqL.of (s _ _ hl),by omega⟩
 ·intro acc ha
  exact ⟨same_new ha _,upd_same,rfl⟩
 ·rintro acc i ws H' ⟨s,ha,rfl⟩
  exact ⟨ha,by rw [qC,qO]; omega⟩
 ·rintro acc i ws H' ts v H2 N hn hi ⟨s,ha,hws⟩ y hts hN
  obtain ⟨e,hx0⟩:=y
  have hx:=hx0 zs (SqL.of (s _ _ hl))
  clear hx0
  subst e
  have e1:xs[i]? = some xs[i]:=qA hi
  have e2:ys[i]? = some (ys[i]'(by omega)):=qA _
  obtain ⟨t,q1,q2⟩:=ht i _ _ e1 e2
  generalize xs[i]=x at e1 q2
  generalize (ys[i]'(by omega))=y at e2 q2
  rw [hx] at q1
  cases q1
  obtain ⟨t0,t1,rfl⟩:∃ t0 t1,ts=[t0,t1]:=by
   match ts,hts with
   | [a,b],_=>exact ⟨a,b,rfl⟩
  rw [w_gTupM]
  refine ⟨_,s _ _ q2,rfl,?_⟩
  rw [w_gCons,w_gName,w_gCons,w_gName,w_gNil,w_yes,if_pos rfl]
  refine hb x y _ _ s ⟨ha,hN _ [_,_] _ rfl ⟨same_upd hn s,upd_same,?_⟩⟩
  have ez:(List.zipWith f xs ys)[i]? = some (f x y):=by rw [List.getElem?_zipWith,e1,e2]
  rw [List.take_add_one,ez,List.map_append,← hws]
  rfl
 ·rintro acc ws H' hn ⟨s,ha,hws⟩
  rw [List.take_of_length_le (by rw [List.length_zipWith]; omega)] at hws
  subst hws
  exact hd acc H' hn s ha
end
def spFPick:Sp:=fun vs H Q _=>∃ (p:Addr) (m c:Int),vs=[.ref p,.int m] /\ Feed H p c /\ c <= 800000000 /\ 1 <= m /\ m <= 1000 /\ ∀ (r:Int) H',0 <= r -> r < m -> Feed H' p (c+2048) -> Chg p H H' -> Q (.int r) H'
def spFShift:Sp:=fun vs H Q _=>∃ (p l:Addr) (c:Int) (xs:List Int),vs=[.ref p,.ref l] /\ Feed H p c /\ c <= 800000000 /\ H l=some (.lst (xs.map V.int)) /\ xs.length <= 100 /\ l ≠ p /\
 ∀ (r:Int) H',Sh r xs -> Feed H' p (c+2048) -> Chg p H H' -> Q (.int r) H'
def spFWeb:Sp:=fun vs H Q _=>∃ (p:Addr) (c most:Int),vs=[.ref p,.int most] /\ Feed H p c /\ c <= 100000000 /\ 0 <= most /\ most <= 60 /\
 ∀ (t w dl gl tb:Addr) (ins:Nat) (us:List V) (ds:List Wd) (os:List V) (gs:List Go) (ts:List V) H',H t=none -> H w=none -> H dl=none -> H gl=none -> H tb=none -> dl ≠ gl -> tb ≠ dl -> tb ≠ gl -> H' t=some (.tup [.ref w,.ref tb]) -> Wb H' w dl gl ins us ds os gs -> FWeb ins ds gs ->
  H' tb=some (.lst ts) -> HRs H' [gl,dl,tb,p] ts (rowsW ins ds) -> (ds.length:Int) <= most -> Feed H' p (c+1000000) -> Chg p H H' -> Q (.ref t) H'
theorem mvI_up {s n:Int}(h:0 <= s):mvI s n=n * 2 ^ s.toNat:=by
 unfold mvI
 rw [if_neg (by omega)]
 by_cases z:0 > 0 - s
 ·rw [if_pos z]; simp
 ·rw [if_neg z,show s=0 by omega]; simp
theorem mvI_down {s n:Int}(h:s < 0):mvI s n=n / 2 ^ (-s).toNat:=by
 unfold mvI
 rw [if_pos (by omega),if_neg (by omega),show (0 - s) = -s by omega]
 simp
structure FG (H:Hp) (p:Addr) (ins:Nat) (tb dl gl:Addr) (k:Nat) (vs us os:List V) (ds:List Wd) (gs:List Go) (H':Hp):Prop where
 wg:WG H p ins tb dl gl k vs us os (rowsW ins ds) ds gs H'
 sh:ShOk ins ds
 go:GoOk ins ds gs
theorem FG.step {H:Hp}{p:Addr}{c:Int}{ins:Nat}{tb dl gl:Addr}{k:Nat}{vs us os:List V}{ds:List Wd}{gs:List Go}{H' H'':Hp}(h:FG H p ins tb dl gl k vs us os ds gs H')(F:Feed H' p c)(C:Chg p H' H''):FG H p ins tb dl gl k vs us os ds gs H'':=by
 obtain ⟨xs,hp⟩:=F.lst
 exact ⟨{ h.wg with wi:=h.wg.wi.stepL hp C,hrs:=h.wg.hrs.chg (by simp) C,gll:=C _ _ h.wg.gp h.wg.gll,hgs:=h.wg.hgs.chgL hp C },h.sh,h.go⟩
theorem FG.app {H:Hp}{p:Addr}{ins:Nat}{tb dl gl:Addr}{k:Nat}{vs us os:List V}{ds:List Wd}{gs:List Go}{H':Hp}(h:FG H p ins tb dl gl k vs us os ds gs H'){x:Addr}{g:Go}
  (hx:H' x=some (.tup (gTp g))) (hg:g.th < ins+k) (hs:g=⟨0,0,0⟩ \/ ((g.sg=1 \/ g.sg = -1) /\ Sh g.sh ((rowsW ins ds).getD g.th []))):FG H p ins tb dl gl k vs us (os ++ [.ref x]) ds (gs ++ [g]) (upd H' gl (.lst (os ++ [.ref x]))):=by
 refine ⟨h.wg.app hx hg,h.sh,fun e he=>?_⟩
 rcases List.mem_append.mp he with z | z
 ·exact h.go e z
 ·rw [List.mem_singleton.mp z]; exact hs
end L2
set_option Elab.async false
set_option linter.all false
set_option maxRecDepth 100000
set_option maxHeartbeats 1000000
namespace L2
open PySem PySem.Spec
section
variable {K:PySem.W.Frag}{σ:St}{H:Hp}{Q:VK}{cs:List Nat}{te:TE}
theorem comp_tups {J:It}{α:Type}{f:α -> List V}{xs:List V}(zs:List α)(hzl:zs.length=xs.length)(hz:xs.length <= 1000)
  (hJ:∀ H',Same H H' -> (∀ i,i < xs.length -> J.go i H') /\ (∀ i x H2,J.yld i H' x H2 -> H2=H' /\ (i < xs.length -> xs[i]? = some x)) /\ J.stop xs.length H')
  (hb:∀ (i:Nat) x z H' (R:VK),xs[i]? = some x -> zs[i]? = some z -> Same H H' -> (∀ r H5,H' r=none -> Same H' H5 -> H5 r=some (.tup (f z)) -> R (.ref r) H5) -> te (some x :: capV cs σ) H' R)
  (hd:∀ acc ys H',H acc=none -> Same H H' -> H' acc=some (.lst ys) -> HTs f H' ys zs -> Q (.ref acc) H') :
  CompIt J 1 cs (gName 0) tYes te σ H Q:=by
 refine comp_any xs.length (fun acc i ws H'=>Same H H' /\ H' acc=some (.lst ws) /\ HTs f H' ws (zs.take i)) (le_size hz) ?_ ?_ ?_ ?_ ?_ ?_
 ·rintro acc i ws H' hi ⟨s,_,_⟩
  exact (hJ _ s).1 i hi
 ·rintro acc ws H' ⟨s,_,_⟩
  exact (hJ _ s).2.2
 ·intro acc ha
  exact ⟨same_new ha _,upd_same,hts_nil⟩
 ·rintro acc i ws H' ⟨s,ha,ht⟩
  exact ⟨ha,by rw [ht.len,qO]; omega⟩
 ·rintro acc i ws H' ts v H2 N hn hi ⟨s,ha,ht⟩ y hts hN
  obtain ⟨e,hx⟩:=(hJ _ s).2.1 i v H2 y
  have hx:=hx hi
  subst e
  obtain ⟨t0,rfl⟩:∃ t0,ts=[t0]:=by
   match ts,hts with
   | [a],_=>exact ⟨a,rfl⟩
  have hz':zs[i]? = some (zs[i]'(by omega)):=qA _
  generalize (zs[i]'(by omega))=z at hz'
  rw [w_gName,w_yes,if_pos rfl]
  refine hb i v z _ _ hx hz' s fun r H5 hr s5 h5=>?_
  have ha5:=s5 _ _ ha
  refine ⟨ha5,hN _ [_] _ rfl ⟨same_upd hn (s.trans s5),upd_same,?_⟩⟩
  have tk:zs.take (i+1)=zs.take i ++ [z]:=by rw [List.take_add_one,hz']; rfl
  rw [tk]
  exact ((ht.same s5).chgL ha5 (Chg.upd _)).snoc (by rw [upd_ne (ne_of h5 ha5 (by intro z; cases z))]; exact h5)
 ·rintro acc ws H' hn ⟨s,ha,ht⟩
  rw [List.take_of_length_le (by omega)] at ht
  exact hd acc ws H' hn s ha ht
theorem it_R {n:Nat}{H':Hp}:(∀ i,i < (rngV 0 n).length -> (Itr 0 n).go i H') /\ (∀ i x H2,(Itr 0 n).yld i H' x H2 -> H2=H' /\ (i < (rngV 0 n).length -> (rngV 0 n)[i]? = some x)) /\ (Itr 0 n).stop (rngV 0 n).length H':=by
 rw [rngV_len]
 exact ⟨fun i hi=>hi,fun i x H2 y=>⟨y.1,fun hi=>by rw [rngV_get hi,y.2]⟩,Nat.le_refl _⟩
end
end L2
set_option Elab.async false
set_option linter.all false
set_option maxRecDepth 100000
set_option maxHeartbeats 1000000
namespace L2
open PySem PySem.Spec
theorem cut_take {xs:List V}{n:Nat}:cutV xs none (some (n:Int))=xs.take n:=by
 unfold cutV
 rw [HT.sIx_none,List.drop_zero,Nat.sub_zero,HT.sIx_nat]
 by_cases hk:n <= xs.length
 ·rw [Nat.min_eq_left hk]
 ·rw [Nat.min_eq_right (by omega),List.take_length,List.take_of_length_le (by omega)]
end L2
set_option Elab.async false
set_option linter.all false
set_option maxRecDepth 100000
set_option maxHeartbeats 1000000
namespace L2
open PySem PySem.Spec
def tupsDt {α:Type}(f:α -> List V)(xs:List α):Dt:=.l (xs.map fun a=>.t ((f a).map Dt.f))
section
variable {α:Type}{f:α -> List V}{K:PySem.W.Frag}{H:Hp}{l l':Addr}{ys ys':List V}{xs:List α}{Q:VK}
theorem tups_is (hf:∀ a,(f a).all flatV=true)(h:H l=some (.lst ys))(ht:HTs f H ys xs):Is K H (.ref l) (tupsDt f xs):=by
 unfold tupsDt
 rw [Is]
 exact ⟨l,ys,rfl,SqL.of h,hts_isL hf ht⟩
theorem dep_tups (xs:List α):dep (tupsDt f xs) <= 50:=by
 unfold tupsDt
 have:=depL_tups (f:=f) xs
 rw [dep]
 omega
theorem ne_tups (hf:∀ a,(f a).all flatV=true)(h:H l=some (.lst ys))(ht:HTs f H ys xs)(h':H l'=some (.lst ys'))(ht':HTs f H ys' xs)(q:Q (.bl false) H):rNeD K (.ref l) (.ref l') H Q :=
 ⟨l,_,_,rfl,tups_is hf h ht,tups_is hf h' ht',dep_tups _,by rw [deq_refl _ (tups_is (K:=K) hf h ht)]; exact q⟩
theorem eq_tups (hf:∀ a,(f a).all flatV=true)(h:H l=some (.lst ys))(ht:HTs f H ys xs)(h':H l'=some (.lst ys'))(ht':HTs f H ys' xs)(q:Q (.bl true) H):rEqD K (.ref l) (.ref l') H Q :=
 ⟨l,_,_,rfl,tups_is hf h ht,tups_is hf h' ht',dep_tups _,by rw [deq_refl _ (tups_is (K:=K) hf h ht)]; exact q⟩
end
theorem cut_drop {xs:List V}{n:Nat}(h:n <= xs.length):cutV xs (some (n:Int)) none=xs.drop n:=by
 unfold cutV
 rw [HT.sIx_none,HT.sIx_nat,Nat.min_eq_left h,List.take_of_length_le (by rw [List.length_drop]; omega)]
theorem HTs.app {α:Type}{f:α -> List V}{H:Hp}{vs us:List V}{xs ys:List α}(h:HTs f H vs xs)(h':HTs f H us ys):HTs f H (vs ++ us) (xs ++ ys):=by
 refine ⟨by rw [qF,qF,h.len,h'.len],fun k x hx=>?_⟩
 by_cases hk:k < xs.length
 ·rw [qH hk] at hx
  rw [qH (by rw [h.len]; exact hk)]
  exact h.at_ k x hx
 ·rw [qG (by omega)] at hx
  rw [qG (by rw [h.len]; omega),h.len]
  exact h'.at_ _ x hx
end L2
set_option Elab.async false
set_option linter.all false
set_option maxRecDepth 100000
set_option maxHeartbeats 1000000
namespace L2
open PySem PySem.Spec PyProof.Rows
def tLR (ta:TA):TE:=fun σ H Q=>ta σ H fun vs H1=>∃ j:Nat,vs=[.int (j:Int)] /\ j <= 1000 /\ ∀ l H',H1 l=none -> Same H1 H' -> H' l=some (.lst (rngV 0 j)) -> Q (.ref l) H'
theorem w_LR {ta:TA}{σ:St}{H:Hp}{Q:VK}:tLR ta σ H Q=(ta σ H fun vs H1=>∃ j:Nat,vs=[.int (j:Int)] /\ j <= 1000 /\ ∀ l H',H1 l=none -> Same H1 H' -> H' l=some (.lst (rngV 0 j)) -> Q (.ref l) H'):=rfl
def iRngD (ta:TA):TI:=fun σ H R=>ta σ H fun vs H1=>∃ i:Int,vs=[.int i,.int (-1),.int (-1)] /\ (-1 <= i /\ i < 2 ^ 31) /\ R (Itr3 i (-1) (i+1).toNat) H1
theorem w_forD {σ:St}{H:Hp}{D:Ends}{g:TG}{tb:TS}{ta:TA}:tFor (iRngD ta) g tb D σ H=(ta σ H fun vs H1=>∃ i:Int,vs=[.int i,.int (-1),.int (-1)] /\ (-1 <= i /\ i < 2 ^ 31) /\ ForR3 i (-1) (i+1).toNat g tb D σ H1):=rfl
section
variable {K:PySem.W.Frag}{σ:St}{H:Hp}{Q:VK}{cs:List Nat}{te:TE}
end
end L2
set_option Elab.async false
set_option linter.all false
set_option maxRecDepth 100000
set_option maxHeartbeats 1000000
namespace L2
open PySem PySem.Spec PyProof.Rows
section
variable {prog:Program}{w:World}{A:Around}{E:Value -> Shared -> Prop}{s:Shared}
end
section
variable {prog:Program}{w:World}{A:Around}{E:Value -> Shared -> Prop}{s:Shared}
end
def Itzt (K : PySem.W.Frag)(a b : Addr) : It :=
  ⟨fun i H => ∃ xs ys, SqT K H a xs ∧ SqT K H b ys ∧ i < xs.length ∧ i < ys.length,
   fun i H x H' => ∃ T u v, x = .ref T ∧ H T = none ∧ H' = upd H T (.tup [u, v]) ∧ (∀ xs, SqT K H a xs → xs[i]? = some u) ∧ (∀ ys, SqT K H b ys → ys[i]? = some v),
   fun i H => ∃ xs ys, SqT K H a xs ∧ SqT K H b ys ∧ (xs.length ≤ i ∨ ys.length ≤ i)⟩
def iZip2 (K:PySem.W.Frag)(ta:TA):TI:=fun σ H R=>ta σ H fun vs H1=>∃ a b xs ys,vs=[.ref a,.ref b] /\ ((SqL K H1 a xs /\ SqL K H1 b ys /\ R (Itz K a b) H1) \/ (SqT K H1 a xs /\ SqT K H1 b ys /\ R (Itzt K a b) H1))
theorem w_compZ2 {K:PySem.W.Frag}{σ:St}{H:Hp}{Q:VK}{ta:TA}{nt:Nat}{cs:List Nat}{g:TG}{tt:TT}{te:TE}:tComp (iZip2 K ta) nt cs g tt te σ H Q=(ta σ H fun vs H1=>∃ a b xs ys,vs=[.ref a,.ref b] /\ ((SqL K H1 a xs /\ SqL K H1 b ys /\ CompIt (Itz K a b) nt cs g tt te σ H1 Q) \/ (SqT K H1 a xs /\ SqT K H1 b ys /\ CompIt (Itzt K a b) nt cs g tt te σ H1 Q))):=rfl
end L2
set_option Elab.async false
set_option linter.all false
set_option maxRecDepth 100000
set_option maxHeartbeats 1000000
namespace L2
open PySem PySem.Spec PyProof.Rows
structure Gt (ins:Nat) (ds:List Wd) (gs:List Go) (i:Nat) (ms:List Nat):Prop where
 sd:∀ x ∈ ms,Rch ins ds gs x
 rt:∀ g ∈ gs,g.sg ≠ 0 -> g.th ∈ ms
 cl:∀ k d,ds[k]? = some d -> ds.length <= k+i -> ins+k ∈ ms -> d.a ∈ ms /\ d.b ∈ ms
 ln:ms.length <= gs.length+2 * i
def kp (bs:List Bool)(ins j:Nat):Prop:=j < ins \/ bs[j]? = some true
instance (bs:List Bool) (ins j:Nat):Decidable (kp bs ins j):=by unfold kp; infer_instance
section
variable {ins:Nat}{ds:List Wd}{gs:List Go}{bs:List Bool}
end
section
variable {K:PySem.W.Frag}{σ:St}{H:Hp}{Q:VK}{cs:List Nat}{te:TE}
end
end L2
set_option Elab.async false
set_option linter.all false
set_option maxRecDepth 100000
set_option maxHeartbeats 1000000
namespace L2
open PySem PySem.Spec PyProof.Rows
def TrX (h:Heap)(e:Addr)(C:Value)(d:Option Addr)(T:Addr):Prop :=
 ∃ oe vs oT ts,h.get? e=some oe /\ oe.cls=C /\ oe.dict=d /\ oe.data = .fields vs /\ vs[1]? = some (.ref T) /\ T ≠ e /\ h.get? T=some oT /\ oT.data = .fields ts /\ ts[3]? = some .none
def NwX (h:Heap)(e:Addr)(C:Value)(d:Option Addr):Prop:=∃ oe vs,h.get? e=some oe /\ oe.cls=C /\ oe.dict=d /\ oe.data = .fields vs /\ vs[1]? = some .none
structure Lv (fr:List Addr) (e:Addr) (C:Value) (d:Option Addr) (T:Option Addr) (h h':Heap):Prop where
 keep:∀ b o,b ∉ fr -> b ≠ e -> some b ≠ T -> h.get? b=some o -> h'.get? b=some o
 slot:∀ b o,b ∈ fr -> h.get? b=some o -> ∃ sl,h'.get? b=some { o with slots:=sl }
 exc:TrX h' e C d h.objs.size
section
variable {M:Model}{A:Around}{E:Value -> Shared -> Prop}{s:Shared}{base:Heap}{env:Env}{outer:List Env}{L e:Addr}{oe:Obj}{vs:Array Value}{Q:Unit -> Shared -> Prop}
theorem lv_entry {head:Value}{hadNext:Bool}(hfr:A.frames=some (env :: outer))(hl:s.heap.FunFrames base (env :: outer))(hf:env.frame=some L)
  (he:s.heap.get? e=some oe) (hd:oe.data = .fields vs) (hsz:1 < vs.size)
  (h:∀ h',Lv ((env :: outer).filterMap (·.frame)) e oe.cls oe.dict none s.heap h' -> Q () { s with heap:=h' }) :
  wpAny M A (do let a ← frameOf env; let pl ← entryPlaceOf L hadNext; let b ← EntryCells.newEntry head a .none (rawInt L) .none pl; setField (.ref e) 1 b) (fun _ s'=>wpAny M A (setFlight (.ref e) none) Q E s') E s:=by
 have hene:e ∉ (env :: outer).filterMap (·.frame):=fun hm=>by
  obtain ⟨_,o,ho,hnf⟩:=hl.mem hm
  rw [he] at ho; injection ho with ho; subst ho; exact hnf vs hd
 refine wpAny_bind (wpAny_frameOf_fun hfr hl hf fun h1 s1=>?_)
 refine wpAny_bind (wpAny_entryPlaceOf fun pl hpl=>?_)
 unfold EntryCells.newEntry newFields
 refine wpAny_bind (wpAny_newObj_type ?_ (hpl.sizeOk5 _ _ _ _ _))
 have e1:h1.get? e=some oe:=(s1.2.1 e hene).trans he
 generalize hob:({ cls:=.type "traceback",dict:=none,data:=.fields ([head,.ref L,.none,rawInt L,.none] ++ (if pl.isEmpty then qQ 6 Value.none else pl)).toArray }:Obj)=ob
 have e2:=Heap.get?_push_of_some (h:=h1) ob e1
 refine wpAny_setField e2 hd hsz ?_
 have hTe:h1.objs.size ≠ e:=Nat.ne_of_gt (Heap.lt_size e1)
 have d3:=Obj.data_mapFields hd (·.setIfInBounds 1 (Value.ref h1.objs.size))
 have e3:=Heap.get?_update_self (Obj.mapFields (·.setIfInBounds 1 (Value.ref h1.objs.size))) e2 (Obj.isFreed_of_fields d3)
 have hobd:ob.data = .fields ([head,.ref L,.none,rawInt L,.none] ++ (if pl.isEmpty then qQ 6 Value.none else pl)).toArray:=by rw [← hob]
 have T3:=(Heap.get?_update_other (h1.push ob) (Obj.mapFields (·.setIfInBounds 1 (Value.ref h1.objs.size))) (Ne.symm hTe)).trans (Heap.get?_push_size h1 (by rw [← hob]; rfl))
 unfold setFlight
 refine wpAny_bind (wpAny_field e3 d3 (x:=.ref h1.objs.size) (by simp [hsz]) ?_)
 rw [if_pos (show (Value.ref h1.objs.size != Value.none)=true from by simp)]
 refine wpAny_setField T3 hobd (by simp only [qM,qF,List.length_cons,List.length_nil] <;> omega) (h _ ?_)
 have keep:∀ b o,b ≠ e -> h1.get? b=some o -> (((h1.push ob).update e (Obj.mapFields (·.setIfInBounds 1 (Value.ref h1.objs.size)))).update h1.objs.size (Obj.mapFields (·.setIfInBounds 3 ((none:Option Addr).elim Value.none fun f=>rawInt f)))).get? b=some o:=fun b o hbe hb=>by
  have hbT:h1.objs.size ≠ b:=Nat.ne_of_gt (Heap.lt_size hb)
  rw [Heap.get?_update_other _ _ hbT,Heap.get?_update_other _ _ (Ne.symm hbe)]
  exact Heap.get?_push_of_some _ hb
 refine ⟨fun b o hb hbe _ hg=>keep b o hbe ((s1.2.1 b hb).trans hg),fun b o hb hg=>?_,?_⟩
 ·obtain ⟨sl,hs⟩:=s1.2.2 b o hg
  exact ⟨sl,keep b _ (fun z=>hene (z ▸ hb)) hs⟩
 ·rw [← s1.1]
  refine ⟨_,_,_,_,?_,Obj.cls_mapFields _ _,?_,d3,by simp [hsz],hTe,Heap.get?_update_self _ T3 (Obj.isFreed_of_fields (Obj.data_mapFields hobd _)),Obj.data_mapFields hobd _,by first | (simp; done) | (rcases hpl with rfl | ⟨_,_,_,_,_,_,_,rfl⟩ <;> simp)⟩
  ·rw [Heap.get?_update_other _ _ hTe]; exact e3
  ·obtain ⟨oc,od,dt,sl⟩:=oe
   cases hd
   rfl
theorem lv_first {C:Value}{d:Option Addr}(hfr:A.frames=some (env :: outer))(hl:s.heap.FunFrames base (env :: outer))(hf:env.frame=some L)(he:NwX s.heap e C d)
  (h:∀ h',Lv ((env :: outer).filterMap (·.frame)) e C d none s.heap h' -> Q () { s with heap:=h' }):wpAny M A (leaving env (.ref e)) Q E s:=by
 obtain ⟨oe,vs,he,rfl,rfl,hd,h1⟩:=he
 unfold leaving noteFrame
 simp only [hf]
 refine wpAny_bind (wpAny_bind (wpAny_field he hd h1 ?_))
 rw [if_neg (by decide)]
 exact lv_entry hfr hl hf he hd (Array.getElem?_eq_some_iff.mp h1).1 h
theorem lv_nextN {C:Value}{d:Option Addr}{T:Addr}(hfr:A.frames=some (env :: outer))(hl:s.heap.FunFrames base (env :: outer))(hf:env.frame=some L)(ht:TrX s.heap e C d T)
  (h:∀ h',Lv ((env :: outer).filterMap (·.frame)) e C d (some T) s.heap h' -> Q () { s with heap:=h' }):wpAny M A (noteFrame (.ref e) env) (fun _ s'=>wpAny M A (setFlight (.ref e) none) Q E s') E s:=by
 obtain ⟨oe,vs,oT,ts,he,rfl,rfl,hd,h1,hTe,hT,hdT,h3⟩:=ht
 unfold noteFrame
 simp only [hf]
 refine wpAny_bind (wpAny_field he hd h1 ?_)
 rw [if_pos (show (Value.ref T != Value.none)=true from by simp)]
 refine wpAny_bind (wpAny_field hT hdT h3 ?_)
 rw [if_neg (show ¬ ((Value.none == rawInt L)=true) from by simp [rawInt])]
 refine wpAny_bind (wpAny_setField hT hdT (Array.getElem?_eq_some_iff.mp h3).1 ?_)
 have other:∀ b,b ≠ T -> (s.heap.update T (Obj.mapFields (·.setIfInBounds 3 Value.none))).get? b=s.heap.get? b:=fun b hb=>Heap.get?_update_other _ _ (Ne.symm hb)
 have noT:∀ b o,s.heap.get? b=some o -> (∀ vs,o.data ≠ .fields vs) -> b ≠ T:=fun b o hb hnf q=>by
  rw [q,hT] at hb; injection hb with hb; subst hb; exact hnf ts hdT
 have frT:∀ b ∈ (env :: outer).filterMap (·.frame),b ≠ T:=fun b hb=>by
  obtain ⟨_,o,ho,hnf⟩:=hl.mem hb
  exact noT b o ho hnf
 refine lv_entry hfr (hl.of_keeps fun b o hb hnf=>⟨o,(other b (noT b o hb hnf)).trans hb,rfl⟩) hf ((other e (Ne.symm hTe)).trans he) hd (Array.getElem?_eq_some_iff.mp h1).1 fun h' z=>h h' ⟨fun b o hb hbe hbT hg=>?_,fun b o hb hg=>?_,?_⟩
 ·exact z.keep b o hb hbe (by simp) ((other b (fun q=>hbT (by rw [q]))).trans hg)
 ·exact z.slot b o hb ((other b (frT b hb)).trans hg)
 ·have:=z.exc
  rw [Heap.size_update] at this
  exact this
end
def CXe (P:Program)(w:World)(base:Heap):CXT:=fun outer H s E e s'=>∃ (x T:Addr) (C:Value) (d:Option Addr) (H':Hp),e = .ref x /\ s'.os=s.os /\ AllBare s'.gens /\ Un (frs outer) [] H H' s.heap s'.heap /\ HOk P w H' s'.heap /\
 TrX s'.heap x C d T /\ s.heap.get? x=none /\ s.heap.get? T=none /\ H' x=none /\ H' T=none /\ E C d H'
def Raises (X:Cx)(E:XK):Prop:=∀ (pins:List (Addr × Obj)) (σ:St) (H:Hp) (s:Shared) (e:Addr) (C:Value) (d:Option Addr),Inv X pins σ H s -> NwX s.heap e C d -> H e=none -> X.s₀.heap.get? e=none -> E C d H -> X.xe (.ref e) s
section
variable {P:Program}{w:World}{K:PySem.W.Frag}{mg:Str -> Option Value}{base:Heap}{N:List Str}{qual:Str}{scope:Scope}{f:Addr}{cd:Value}{A:Around}{outer:List Env}{s:Shared}{H:Hp}{E:XK}
theorem leave_ok {pins:List (Addr × Obj)}{σ:St}{H':Hp}{s':Shared}{h':Heap}{x:Addr}{C:Value}{d:Option Addr}{To:Option Addr}
  (I:Inv (cxOf (CXe P w base) P w K mg base N qual scope f cd A outer s H E) pins σ H' s') (l:Lv ((envOfC qual scope s.heap.objs.size f cd :: outer).filterMap (·.frame)) x C d To s'.heap h')
  (hx:s.heap.get? x=none) (hn:H' x=none) (hT:∀ T,To=some T -> s.heap.get? T=none /\ H' T=none) (he:E C d H'):CXe P w base outer H s E (.ref x) { s' with heap:=h' }:=by
 have st:(cxOf (CXe P w base) P w K mg base N qual scope f cd A outer s H E).stack=envOfC qual scope s.heap.objs.size f cd :: outer:=rfl
 have inS:∀ b,b ∈ (envOfC qual scope s.heap.objs.size f cd :: outer).filterMap (·.frame) -> b=s.heap.objs.size \/ b ∈ frs outer:=fun b hb=>by
  have:=I.stkSub b hb
  exact List.mem_cons.mp this
 have oldS:∀ b o,s.heap.get? b=some o -> b ∉ frs outer -> b ∉ (envOfC qual scope s.heap.objs.size f cd :: outer).filterMap (·.frame):=fun b o e hb z=>by
  rcases inS b z with q | q
  ·exact absurd (Heap.lt_size e) (by rw [q]; exact Nat.lt_irrefl _)
  ·exact hb q
 have ltx:∀ b o,s.heap.get? b=some o -> b ≠ x:=fun b o e z=>by rw [z,hx] at e; cases e
 have ltT:∀ b o,s.heap.get? b=some o -> some b ≠ To:=fun b o e z=>by rw [(hT b z.symm).1] at e; cases e
 have sub:∀ b,b ∈ frs outer -> b ∈ (envOfC qual scope s.heap.objs.size f cd :: outer).filterMap (·.frame):=fun b hb=>by
  rw [List.filterMap_cons]
  split
  ·exact hb
  ·exact List.mem_cons_of_mem _ hb
 refine ⟨x,s'.heap.objs.size,C,d,H',rfl,I.os,I.bare,⟨fun b o e n hb hx'=>?_,fun b o e n hb hx'=>?_,fun b o e n hx'=>I.base.free b o e n hx',fun b o e hx'=>?_,I.base.tups,I.base.frzs,I.base.tbls⟩,fun b u q=>?_,l.exc,hx,Heap.get?_none_of_le I.sz,hn,I.hok.fresh (Nat.le_refl _),he⟩
 ·exact l.keep b o (oldS b o e hb) (ltx b o e) (ltT b o e) (I.base.keep b o e n hb hx')
 ·obtain ⟨sl,e1⟩:=I.base.slot b o e n hb hx'
  obtain ⟨sl2,e2⟩:=l.slot b _ (sub b hb) e1
  exact ⟨sl2,e2⟩
 ·obtain ⟨o',e1⟩:=I.base.there b o e hx'
  by_cases hb:b ∈ (envOfC qual scope s.heap.objs.size f cd :: outer).filterMap (·.frame)
  ·obtain ⟨sl,e2⟩:=l.slot b o' hb e1
   exact ⟨_,e2⟩
  ·exact ⟨o',l.keep b o' hb (ltx b o e) (ltT b o e) e1⟩
 ·have trk:∀ c v,H' c=some v -> c ∉ (envOfC qual scope s.heap.objs.size f cd :: outer).filterMap (·.frame) /\ c ≠ x /\ some c ≠ To:=fun c v e=>by
   refine ⟨fun z=>?_,fun z=>?_,fun z=>?_⟩
   ·have:=I.stkFree c z
    rw [e] at this
    cases this
   ·rw [z,hn] at e
    cases e
   ·rw [(hT c z.symm).2] at e
    cases e
  refine (I.hok b u q).stay (fun c v hc e=>?_) (fun _ z=>z) fun _ _ z=>z
  have tc:∃ v,H' c=some v:=by
   rcases hc with z | z
   ·rw [z]; exact ⟨_,q⟩
   ·exact ⟨_,z⟩
  obtain ⟨v',hv⟩:=tc
  obtain ⟨n1,n2,n3⟩:=trk c v' hv
  exact l.keep c v n1 n2 n3 e
theorem raises_of:Raises (cxOf (CXe P w base) P w K mg base N qual scope f cd A outer s H E) E:=by
 intro pins σ H' s' e C d I hw hn hs he
 exact lv_first (base:=base) (L:=s.heap.objs.size) I.ok.frames I.stack rfl hw fun h' l=>leave_ok I l hs hn (fun T z=>by cases z) he
end
structure CalX (P:Program) (w:World) (K:PySem.W.Frag) (mg:Str -> Option Value) (base:Heap) (k:Nat) (x:Str) (ps:List Str) (sp:Sp):Prop where
 ex:∃ (f:Addr) (fd:FuncData),FnOk P w K mg base (CXe P w base) k f fd ps sp /\ mg x=some (.ref f) /\ PySem.W.keepIn K (.ref f)=true /\ Binds K fd ps []
section
variable {X:Cx}{k:Nat}{x:Str}{ps:List Str}{sp:Sp}{e:Expr}{es:List Expr}{t:TA}{p pos:Pos}{E:XK}
end
section
variable {P:Program}{w:World}{K:PySem.W.Frag}{mg:Str -> Option Value}{base:Heap}
theorem mkCalX {x qual:Str}{st:Stmt}{N ps:List Str}{k:Nat}{sp:Sp}(T:∃ (f:Addr) (fd:FuncData),Fun K x qual st f fd /\ mg x=some (.ref f) /\ Binds K fd ps [])(S:FnScope N ps (defScope st))(len:∀ vs H Q E,sp vs H Q E -> vs.length=ps.length)
  (hbody:∀ (f:Addr) (cdv:Value) (A:Around) (outer:List Env) (s:Shared) (H:Hp) (vs:List V) (Q:VK) (E:XK),Room k (A.deeper (envOfC qual (defScope st) s.heap.objs.size f cdv)) -> sp vs H Q E ->
   ∃ t,PSs (cxOf (CXe P w base) P w K mg base N qual (defScope st) f cdv A outer s H E) (defBody st) t /\ t { nx:=fun _ H'=>Q .non H',rt:=Q } (start N vs) H):CalX P w K mg base (k+1) x ps sp:=by
 obtain ⟨f,fd,F,m,b⟩:=T
 obtain ⟨oc,od,kV,doc,pm,an,cdv,ct,osl,rfl,lk,hcd⟩:=F.ex
 exact ⟨f,_,fn_of lk hcd S len fun A outer s H vs Q E hr hsp=>hbody f cdv A outer s H vs Q E hr hsp,m,F.kp,b⟩
end
end L2
set_option Elab.async false
set_option linter.all false
set_option maxRecDepth 100000
set_option maxHeartbeats 1000000
namespace L2
open PySem PySem.Spec PyProof.Rows
theorem exc_obj {K:PySem.W.Frag}{h:Heap}{C:Addr}{bmB:List Value}{newId:String}(X:K.In h)(q:PySem.W.excIn K C bmB newId=true) :
  ∃ bm N nm q bs hdct sn sub ab col dd k0 k1 k2 k3 k5 mN,h.get? C=some (excClassObj nm q C N bs bm hdct sn sub ab col dd k0 k1 k2 k3 k5 newId) /\ h.Ns N mN /\ mN "__init__" = none /\ OwnTail h bmB bm:=by
 unfold PySem.W.excIn at q
 split at q
 ·rename_i dd cd sl ho
  split at q
  ·rename_i C' bm k0 k1 k2 k3 n k5 hm hs
   simp only [Bool.and_eq_true,beq_iff_eq,Bool.not_eq_true'] at q
   obtain ⟨⟨⟨⟨⟨rfl,rfl⟩,hdel⟩,ht⟩,hok⟩,hni⟩:=q
   obtain ⟨nm,bs,mro,ns,qn,hd,sn,sub,ab,col,del⟩:=cd
   dsimp only at hm hdel hok hni
   subst hm hdel
   have hsl:sl = #[k0,k1,k2,k3,some (.builtin n),k5]:=by
    obtain ⟨l⟩:=sl
    simp only at hs
    rw [hs]
   subst hsl
   exact ⟨bm,ns,nm,qn,bs,hd,sn,sub,ab,col,dd,k0,k1,k2,k3,k5,_,X _ _ ho,.of_isNs (PySem.W.isNs_of_in X hok),PySem.W.nsMap_none_of_in X hok hni,PySem.W.tail_of_in X ht⟩
  ·cases q
 ·cases q
theorem ObjOk.there {P:Program}{w:World}{H:Hp}{h:Heap}{a:Addr}{o:HO}(x:ObjOk P w H h a o):∃ u,h.get? a=some u:=by
 cases o with
 | lst xs=>obtain ⟨_,_,_,_,e⟩:=x; exact ⟨_,e⟩
 | tup xs=>obtain ⟨_,_,_,o,e,_⟩:=x; exact ⟨_,e⟩
 | dK kvs=>obtain ⟨_,_,_,_,o,_,_,e,_⟩:=x; exact ⟨_,e⟩
 | dT kvs=>obtain ⟨_,_,_,_,o,_,_,e,_⟩:=x; exact ⟨_,e⟩
 | set S n=>obtain ⟨o,_,_,_,e,_⟩:=x; exact ⟨_,e⟩
 | ins C dx fs=>obtain ⟨_,_,_,e,_⟩:=x; exact ⟨_,e⟩
 | own y=>obtain ⟨_,e⟩:=x; exact ⟨_,e⟩
 | xd fs=>obtain ⟨_,⟨_,_,_,e,_⟩,_⟩:=x; exact ⟨_,e⟩
 | rng lo hi=>obtain ⟨_,_,_,e⟩:=x; exact ⟨_,e⟩
 | frz ob u=>obtain ⟨e,_⟩:=x; exact ⟨_,e⟩
 | tbl ps=>exact ⟨_,show h.get? a=some _ from x⟩
 | met f y=>exact ⟨_,show h.get? a=some _ from x⟩
 | ext φ=>obtain ⟨_,⟨_,e⟩,_⟩:=x; exact ⟨_,e⟩
theorem hok_none {P:Program}{w:World}{H:Hp}{h:Heap}{a:Addr}(k:HOk P w H h)(n:h.get? a=none):H a=none:=by
 cases q:H a with
 | none=>rfl
 | some o =>
  obtain ⟨u,e⟩:=ObjOk.there (k a o q)
  rw [n] at e
  cases e
def tRaise (E:XK)(C:Addr)(ta:TA):TS:=fun _ σ H=>ta σ H fun vs H1=>vs.length <= sizeLine /\ E (.ref C) none H1
theorem w_raise {E:XK}{C:Addr}{ta:TA}{D:Ends}{σ:St}{H:Hp}:tRaise E C ta D σ H=(ta σ H fun vs H1=>vs.length <= sizeLine /\ E (.ref C) none H1):=rfl
theorem ps_raise {X:Cx}{E:XK}{x:Str}{C:Addr}{bmB:List Value}{newId initId B:String}{np cpos pos:Pos}{e:Expr}{es:List Expr}{ta:TA}(hE:Raises X E)(hq:PySem.W.excIn X.K C bmB newId=true)(FB:ExcBaseFacts B newId initId bmB)
  (hc:X.calm=true) (hex:∀ b,b ∉ X.ex) (hg:Gl X x) (hm:X.mg x=some (.ref C)) (ha:PA X (e :: es) ta) (hd:(x == ("__debug__" : Str))=false:=by decide)
  (he:starEach (e :: es) X.env=(false,eval e X.env) :: starEach es X.env:=by rfl) (hpl:(backTo cpos (starEach es X.env)).any (·.1)=false:=by rfl) :
  PS X (.Raise (some (.Call (.Name x np) (e :: es) [] cpos)) none pos) (tRaise E C ta):=by
 intro pins s σ H D I h
 obtain ⟨bm,N,nm,q,bs,hdct,sn,sub,ab,col,dd,k0,k1,k2,k3,k5,mN,hC,hN,hni,T⟩:=exc_obj I.kIn hq
 obtain ⟨bm0,N0,nm0,q0,bs0,hdct0,sn0,sub0,ab0,col0,dd0,k00,k10,k20,k30,k50,mN0,hC0,hN0,hni0,T0⟩:=exc_obj I.ok.mod.kin hq
 have hb0:=hC0
 refine wpAny_Raise_call_subT (C:=C) (nm:=nm0) (q:=q0) (N:=N0) (bs:=bs0) (bm:=bm0) (hdct:=hdct0) (sn:=sn0) (sub:=sub0) (ab:=ab0) (col:=col0) (dd:=dd0) (k0:=k00) (k1:=k10) (k2:=k20) (k3:=k30) (k5:=k50)
  FB (mN:=mN0) (T0.hasType FB.hasBase) (I.ok.hd hc) (by rw [he]; show (false || (backTo cpos (starEach es X.env)).any (·.1))=false; rw [hpl]; rfl) hni0 (ld_glob I hg hm ⟨rfl,?_⟩ hd)
 have h2:=ha cpos pins s σ H _ I h
 rw [he] at h2 ⊢
 refine Calls.evalArgs_plain (wpAny_mono h2 (fun us s1 h1=>?_) fun _ _ y=>y)
 obtain ⟨vs,H1,I1,rv,hz,hE1⟩:=h1
 refine ⟨rfl,by rw [← rv.length]; exact hz,I1.bk _ _ hC0,hN0.keeps I1.bk,T0.keeps I1.bk,fun h' x' hm'=>?_⟩
 obtain ⟨t,ht,_,_⟩:=hm'.there
 have n0:X.s₀.heap.get? x'=none:=by
  cases q:X.s₀.heap.get? x' with
  | none=>rfl
  | some o =>
   obtain ⟨o',e'⟩:=I1.base.there x' o q (hex x')
   rw [hm'.new] at e'
   cases e'
 exact hE pins σ H1 _ x' (.ref C) none (I1.kept (t':=s1.toks) hm'.keeps) ⟨_,_,ht,rfl,rfl,rfl,rfl⟩ (hok_none I1.hok hm'.new) n0 hE1
section
variable {M:Model}{A:Around}{E:Value -> Shared -> Prop}
theorem exc_match {h:Heap}{g:Array GenState}{d:Drawn}{t:Nat}{os:OsState}{e:Addr}{oe:Obj}{Q:Bool -> Shared -> Prop}
  {nm q:Str} {C N:Addr} {bs bm:List Value} {hdct:Bool} {sn:List Str} {sub:List Value} {ab:Bool} {col:Option Bool} {dd:Option Addr} {k0 k1 k2 k3 k5:Option Value} {newId:String}
  {nm' q':Str} {B N':Addr} {bs' bm':List Value} {hdct':Bool} {sn':List Str} {sub':List Value} {ab':Bool} {col':Option Bool} {dd':Option Addr} {k0' k1' k2' k3' k5':Option Value} {newId':String}
  (hC:h.get? C=some (excClassObj nm q C N bs bm hdct sn sub ab col dd k0 k1 k2 k3 k5 newId)) (hB:h.get? B=some (excClassObj nm' q' B N' bs' bm' hdct' sn' sub' ab' col' dd' k0' k1' k2' k3' k5' newId'))
  (he:h.get? e=some oe) (hcls:oe.cls = .ref C) (hbase:bm'.contains (.type "BaseException")=true) (hq:Q ((Value.ref C :: bm).contains (.ref B)) ⟨h,g,d,t,os⟩):wpAny M A (excMatches (.ref e) (.ref B)) Q E ⟨h,g,d,t,os⟩:=by
 have hcB:(Value.ref B :: bm').contains (.type "BaseException")=true:=by rw [List.contains_cons,hbase,Bool.or_true]
 have f:=tc_notTuple
 unfold excMatches
 repeat (first | (with_reducible refine wpAny_loadPart_at he ?_; rw [hcls]) | with_reducible refine wpAny_loadPart_at hB ?_ | (with_reducible refine wpAny_isSubtype_exc hB ?_; rw [hcB]) | with_reducible refine wpAny_isSubtype_exc hC ?_ | wp_step)
 cases hb:(Value.ref C :: bm).contains (.ref B) <;> (rw [hb] at hq; first | exact hq | (wp_walk; exact hq))
end
end L2
set_option Elab.async false
set_option linter.all false
set_option maxRecDepth 100000
set_option maxHeartbeats 1000000
namespace L2
open PySem PySem.Spec PyProof.Rows
def XP (X:Cx)(pins:List (Addr × Obj))(σ:St)(E:XK)(e:Value)(s':Shared):Prop:=∃ (x T:Addr) (C:Value) (d:Option Addr) (H':Hp),e = .ref x /\ Inv X pins σ H' s' /\ TrX s'.heap x C d T /\
 (X.s₀.heap.get? x=none /\ X.s₀.heap.get? T=none) /\ (∀ p ∈ X.pn ++ pins,p.1 ≠ x /\ p.1 ≠ T) /\ H' x=none /\ H' T=none /\ E C d H'
abbrev TX:=St -> Hp -> VK -> XK -> Prop
def PEx (X:Cx)(e:Expr)(t:TX):Prop :=
 ∀ (pins:List (Addr × Obj)) (s:Shared) (σ:St) (H:Hp) (Q:VK) (E:XK),Inv X pins σ H s -> t σ H Q E -> wpAny (model X.prog X.w) X.A (eval e X.env) (EP X pins σ Q) (XP X pins σ E) s
def xCall (sp:Sp)(t:TA):TX:=fun σ H Q E=>t σ H fun vs H1=>sp vs H1 Q E
theorem pex_call {X:Cx} {k:Nat} {x:Str} {ps:List Str} {sp:Sp} {e:Expr} {es:List Expr} {t:TA} {p pos:Pos} (C:CalX X.prog X.w X.K X.mg X.base k x ps sp) (hr:Room k X.A) (hex:∀ b,b ∉ X.ex) (hg:Gl X x) (ha:PA X.nox (e :: es) t) (hd:(x == ("__debug__" : Str))=false:=by decide)
  (he:starEach (e :: es) X.env=(false,eval e X.env) :: starEach es X.env:=by rfl) (hpl:(backTo pos (starEach es X.env)).any (·.1)=false:=by rfl):PEx X (.Call (.Name x p) (e :: es) [] pos) (xCall sp t):=by
 obtain ⟨f,fd,F,hm,hk,hb⟩:=C.ex
 intro pins s σ H Q E I h
 refine wpAny_Call_Name_kw (ld_glob I hg hm ?_ hd)
 refine PySem.W.callWith_K (h₀:=X.base) I.ok.mod.kin hk (wpAny_mono (ha pos pins s σ H _ (I.wish _) h) (fun us s1 ⟨vs,H1,I1,r,q⟩=>⟨I1.kIn,?_⟩) fun _ _ z=>False.elim z) he hpl
 have I1:=I1.unwish
 have hl:us.length=ps.length:=by rw [← r.length]; exact F.len _ _ _ _ q
 have hbt:=hb s1 us I1.kIn (by rw [List.append_nil]; exact hl)
 rw [List.append_nil] at hbt
 refine wpAny_call (codeAny_mono (F.run X.A X.stack s1 H1 ⟨us,[]⟩ us vs Q E hr I1.env0 hbt r q) fun r s' hq=>?_)
 cases r with
 | error er =>
  obtain ⟨x',T,C',d,H',rfl,os,bare,un,hok,tr,hx,hT,nx,nT,hE⟩:=hq
  have old:∀ {y:Addr},s1.heap.get? y=none -> X.s₀.heap.get? y=none:=fun {y} hy=>by
   cases z:X.s₀.heap.get? y with
   | none=>rfl
   | some o =>
    obtain ⟨o',e'⟩:=I1.base.there y o z (hex y)
    rw [hy] at e'
    cases e'
  refine ⟨x',T,C',d,H',rfl,I1.call' os un hok bare (fun b z=>absurd z (by simp)),tr,⟨old hx,old hT⟩,fun p' hp=>⟨fun z=>?_,fun z=>?_⟩,nx,nT,hE⟩
  ·have:=(I1.pin p' hp).1
   rw [z,hx] at this
   cases this
  ·have:=(I1.pin p' hp).1
   rw [z,hT] at this
   cases this
 | ok fl =>
  cases fl with
  | ret u=>exact I1.after hq
  | next=>exact False.elim hq
  | brk=>exact False.elim hq
  | cont=>exact False.elim hq
structure LvK (fr:List Addr) (e:Addr) (T:Addr) (h h':Heap):Prop where
 keep:∀ b o,b ∉ fr -> b ≠ e -> some b ≠ some T -> h.get? b=some o -> h'.get? b=some o
 slot:∀ b o,b ∈ fr -> h.get? b=some o -> ∃ sl,h'.get? b=some { o with slots:=sl }
theorem Lv.k {fr:List Addr}{e T:Addr}{C:Value}{d:Option Addr}{h h':Heap}(l:Lv fr e C d (some T) h h'):LvK fr e T h h':=⟨l.keep,l.slot⟩
theorem inv_noted {X:Cx}{pins:List (Addr × Obj)}{σ:St}{H:Hp}{s:Shared}{h':Heap}{x T:Addr}{C:Value}{d:Option Addr}(I:Inv X pins σ H s)(tr:TrX s.heap x C d T)(l:LvK (frs X.stack) x T s.heap h')(ox:X.s₀.heap.get? x=none)(oT:X.s₀.heap.get? T=none)
  (np:∀ p ∈ X.pn ++ pins,p.1 ≠ x /\ p.1 ≠ T) (nx:H x=none) (nT:H T=none):Inv X pins σ H { s with heap:=h' }:=by
 obtain ⟨oe,vs,oT',ts,he,_,_,hd,_,_,hT,hdT,_⟩:=tr
 have inS:∀ b,b ∈ frs X.stack -> b=X.env.locals \/ b ∈ X.fs:=fun b hb=>List.mem_cons.mp (I.stkSub b hb)
 have nxl:∀ b o,X.s₀.heap.get? b=some o -> b ≠ x /\ some b ≠ some T:=fun b o e=>⟨fun z=>(by rw [z,ox] at e; cases e),fun z=>(by cases z; rw [oT] at e; cases e)⟩
 have neL:∀ b o,X.s₀.heap.get? b=some o -> b ≠ X.env.locals:=fun b o e=>Nat.ne_of_lt (qJ (Heap.lt_size e) I.ok.above)
 have any:∀ b o,(∀ vs,o.data ≠ .fields vs) -> s.heap.get? b=some o -> ∃ sl,h'.get? b=some { o with slots:=sl }:=fun b o hnf e=>by
  by_cases hb:b ∈ frs X.stack
  ·exact l.slot b o hb e
  ·refine ⟨o.slots,l.keep b o hb (fun z=>?_) (fun z=>?_) e⟩
   ·rw [z,he] at e; cases e; exact hnf _ hd
   ·cases z; rw [hT] at e; cases e; exact hnf _ hdT
 have cellK:∀ c v,s.heap.IsCell c v -> h'.IsCell c v:=fun c v ⟨o,ho,hdd⟩=>by
  obtain ⟨sl,e⟩:=any c o (fun vs z=>by rw [hdd] at z; cases z) ho
  exact ⟨_,e,hdd⟩
 refine ⟨I.ok,I.os,I.bare,⟨fun b o e n hb hx'=>?_,fun b o e n hb hx'=>?_,fun b o e n hx'=>I.base.free b o e n hx',fun b o e hx'=>?_,I.base.tups,I.base.frzs,I.base.tbls⟩,?_,fun y c e=>?_,I.free,I.freeC,fun p hp=>?_,fun b u q=>?_,I.len⟩
 ·exact l.keep b o (fun z=>(inS b z).elim (neL b o e) hb) (nxl b o e).1 (nxl b o e).2 (I.base.keep b o e n hb hx')
 ·obtain ⟨sl,e1⟩:=I.base.slot b o e n hb hx'
  by_cases z:b ∈ frs X.stack
  ·obtain ⟨sl2,e2⟩:=l.slot b _ z e1
   exact ⟨sl2,e2⟩
  ·exact ⟨sl,l.keep b _ z (nxl b o e).1 (nxl b o e).2 e1⟩
 ·obtain ⟨o',e1⟩:=I.base.there b o e hx'
  by_cases z:b ∈ frs X.stack
  ·obtain ⟨sl2,e2⟩:=l.slot b _ z e1
   exact ⟨_,e2⟩
  ·exact ⟨_,l.keep b _ z (nxl b o e).1 (nxl b o e).2 e1⟩
 ·obtain ⟨m,⟨o,es,ep,ho,hdd,r⟩,hv⟩:=I.loc
  obtain ⟨sl,e⟩:=any _ o (fun vs z=>by rw [hdd] at z; cases z) ho
  refine ⟨m,⟨_,es,ep,e,hdd,r⟩,fun i y v h1 h2 h3=>?_⟩
  obtain ⟨u,ru,lk⟩:=hv i y v h1 h2 h3
  refine ⟨u,ru,?_⟩
  rcases lk with z | ⟨z,c,e1,e2⟩
  ·exact .inl z
  ·exact .inr ⟨z,c,e1,cellK c _ e2⟩
 ·obtain ⟨v,hv⟩:=I.cell y c e
  exact ⟨v,cellK c v hv⟩
 ·obtain ⟨e,n,ne,nf,dd⟩:=I.pin p hp
  exact ⟨l.keep _ _ (fun z=>(inS _ z).elim ne nf) (np p hp).1 (fun z=>(np p hp).2 (Option.some.inj z)) e,n,ne,nf,dd⟩
 ·refine (I.hok b u q).stay (fun c v hc e=>?_) (fun _ z=>z) fun _ _ z=>z
  have tc:∃ v,H c=some v:=by
   rcases hc with z | z
   ·rw [z]; exact ⟨_,q⟩
   ·exact ⟨_,z⟩
  obtain ⟨v',hv⟩:=tc
  refine l.keep c v (fun z=>?_) (fun z=>?_) (fun z=>?_) e
  ·have:=I.stkFree c z
   rw [hv] at this
   cases this
  ·rw [z,nx] at hv
   cases hv
  ·cases z
   rw [nT] at hv
   cases hv
def ExcAt (x:Addr)(C:Value)(d:Option Addr)(h:Heap):Prop:=∃ o,h.get? x=some o /\ o.cls=C /\ o.dict=d /\ ∃ vs,o.data = .fields vs
def Exc (x:Addr)(C:Value)(d:Option Addr):HO:=.ext (ExcAt x C d)
theorem inv_track {X:Cx}{pins:List (Addr × Obj)}{σ:St}{H:Hp}{s:Shared}{x T:Addr}{C:Value}{d:Option Addr}(I:Inv X pins σ H s)(tr:TrX s.heap x C d T)(ox:X.s₀.heap.get? x=none)(np:∀ p ∈ X.pn ++ pins,p.1 ≠ x)(nx:H x=none) :
  Inv X pins σ (upd H x (Exc x C d)) s:=by
 obtain ⟨oe,vs,oT',ts,he,hc,hdi,hd,_,_,hT,hdT,_⟩:=tr
 have nof:∀ b o,s.heap.get? b=some o -> (∀ vs,o.data ≠ .fields vs) -> b ≠ x:=fun b o e hnf z=>by rw [z,he] at e; cases e; exact hnf _ hd
 refine ⟨I.ok,I.os,I.bare,⟨I.base.keep,I.base.slot,fun b o e n hx'=>?_,I.base.there,fun b xs q=>?_,fun b o u q=>?_,fun b ps q=>?_⟩,I.loc,I.cell,?_,fun y c e=>?_,fun p hp=>?_,fun b u q=>?_,I.len⟩
 ·rw [upd_ne (fun z=>by rw [z,ox] at e; cases e)]; exact I.base.free b o e n hx'
 ·have:=I.base.tups b xs q
  rw [upd_ne (fun z=>by rw [z,nx] at this; cases this)]; exact this
 ·have:=I.base.frzs b o u q
  rw [upd_ne (fun z=>by rw [z,nx] at this; cases this)]; exact this
 ·obtain ⟨more,this⟩:=I.base.tbls b ps q
  exact ⟨more,by rw [upd_ne (fun z=>by rw [z,nx] at this; cases this)]; exact this⟩
 ·obtain ⟨m,⟨o,es,ep,ho,hdd,r⟩,hv⟩:=I.loc
  rw [upd_ne (nof _ o ho fun vs z=>by rw [hdd] at z; cases z)]
  exact I.free
 ·obtain ⟨v,o,ho,hdd⟩:=I.cell y c e
  rw [upd_ne (nof _ o ho fun vs z=>by rw [hdd] at z; cases z)]
  exact I.freeC y c e
 ·obtain ⟨e,n,ne,nf,dd⟩:=I.pin p hp
  exact ⟨e,by rw [upd_ne (np p hp)]; exact n,ne,nf,dd⟩
 ·by_cases z:b=x
  ·subst z
   rw [upd_same] at q
   cases q
   exact ⟨⟨oe,he,hc,hdi,vs,hd⟩,⟨oe,he⟩,fun h1 h2 ⟨o,e1,e2⟩ k=>⟨o,k o e1,e2⟩⟩
  ·rw [upd_ne z] at q
   refine (I.hok b u q).stay (fun c v _ e=>e) (fun c q'=>?_) fun c xs q'=>?_
   ·rw [upd_ne (fun z=>by rw [z,nx] at q'; cases q')]; exact q'
   ·rw [upd_ne (fun z=>by rw [z,nx] at q'; cases q')]; exact q'
theorem flight_ok {M:Model}{A:Around}{E:Value -> Shared -> Prop}{s:Shared}{Q:Unit -> Shared -> Prop}{x T:Addr}{C:Value}{d:Option Addr}(tr:TrX s.heap x C d T)
  (h:∀ h',(∀ b,b ≠ T -> h'.get? b=s.heap.get? b) -> TrX h' x C d T -> Q () { s with heap:=h' }):wpAny M A (setFlight (.ref x) none) Q E s:=by
 obtain ⟨oe,vs,oT,ts,he,hc,hdi,hd,h1,hTe,hT,hdT,h3⟩:=tr
 unfold setFlight
 refine wpAny_bind (wpAny_field he hd h1 ?_)
 rw [if_pos (show (Value.ref T != Value.none)=true from by simp)]
 refine wpAny_setField hT hdT (Array.getElem?_eq_some_iff.mp h3).1 (h _ (fun b hb=>Heap.get?_update_other _ _ (Ne.symm hb)) ?_)
 refine ⟨oe,vs,_,_,(Heap.get?_update_other _ _ hTe).trans he,hc,hdi,hd,h1,hTe,Heap.get?_update_self _ hT (Obj.isFreed_of_fields (Obj.data_mapFields hdT _)),Obj.data_mapFields hdT _,?_⟩
 have:=(Array.getElem?_eq_some_iff.mp h3).1
 simp [this]
def susp (X:Cx)(e:Addr):Cx:={ X with A:=X.A.mark (some (.ref e)),calm:=false,xe:=fun _ _=>False }
theorem Inv.susp {X:Cx}{pins:List (Addr × Obj)}{σ:St}{H:Hp}{s:Shared}(I:Inv X pins σ H s)(e:Addr):Inv (susp X e) pins σ H s :=
 have ok:=I.ok
 ⟨⟨ok.mod,ok.kind,ok.glob,ok.blt,ok.above,ok.inj,ok.has,ok.cab,(fun z=>by cases z),ok.frames,ok.stk,ok.exf,ok.bs,ok.bsz,ok.noex,ok.exfs,ok.funs,ok.frf⟩,I.os,I.bare,I.base,I.loc,I.cell,I.free,I.freeC,I.pin,I.hok,I.len⟩
theorem Inv.unsusp {X:Cx}{pins:List (Addr × Obj)}{σ:St}{H:Hp}{s:Shared}{e:Addr}(ok:X.Ok)(I:Inv (L2.susp X e) pins σ H s):Inv X pins σ H s :=
 ⟨ok,I.os,I.bare,I.base,I.loc,I.cell,I.free,I.freeC,I.pin,I.hok,I.len⟩
theorem unbind_ok {X:Cx}{pins:List (Addr × Obj)}{σ:St}{H:Hp}{s:Shared}{M:Model}{A:Around}{E:Value -> Shared -> Prop}{i:Nat}{n:Str}{pos:Pos}{Q:Unit -> Shared -> Prop}(I:Inv X pins σ H s)(hN:X.N.Nodup)(hi:X.N[i]? = some n)(hl:X.env.kindOf n=some .local)
  (hloc:X.env.scope.names.lookup n=some .local) (h:∀ s',Inv X pins (σ.set i none) H s' -> Q () s'):wpAny M A (do bindName X.env n .none; unbindBehindTheSuite X.env n pos) Q E s:=by
 refine wpAny_bind (wpAny_bindName (store_ok I hN hi (.inl hloc) (v:=.non) (u:=.none) rfl (fun s1 I1=>?_) (.inr hloc)))
 obtain ⟨m,hn,hv⟩:=I1.loc
 have hil:i < σ.length:=by
  rw [I.len]
  exact (qB.mp hi).1
 obtain ⟨u,ru,lk⟩:=hv i n .non hi (by rw [List.getElem?_set_self hil]) (.inl hloc)
 have hm:∃ u,m n=some u:=by
  rcases lk with ⟨_,z⟩ | ⟨z,_⟩
  ·exact ⟨_,z⟩
  ·rw [hl] at z
   rcases z with z | z <;> cases z
 obtain ⟨u,hm⟩:=hm
 unfold unbindBehindTheSuite
 refine wpAny_onRaise ?_
 refine wpAny_unbindName_local hl hn hm (by rw [I.ok.kind]; rfl) fun h' u' hn' hs=>h _ ?_
 have hL:=hn
 obtain ⟨oL,esL,epL,hoL,hdL,_⟩:=hL
 obtain ⟨oL',esL',epL',hoL',hdL',_⟩:=id hn'
 have neL:∀ b o,X.s₀.heap.get? b=some o -> b ≠ X.env.locals:=fun b o e=>Nat.ne_of_lt (qJ (Heap.lt_size e) I.ok.above)
 have cellK:∀ c v,s1.heap.IsCell c v -> h'.IsCell c v:=fun c v ⟨o,ho,hdd⟩=>by
  refine ⟨o,(hs.2 c fun z=>?_).trans ho,hdd⟩
  rw [z,hoL] at ho
  cases ho
  rw [hdL] at hdd
  cases hdd
 refine ⟨I1.ok,I1.os,I1.bare,⟨fun b o e n hb hx'=>(hs.2 b (neL b o e)).trans (I1.base.keep b o e n hb hx'),fun b o e n hb hx'=>?_,fun b o e n hx'=>I1.base.free b o e n hx',fun b o e hx'=>?_,I1.base.tups,I1.base.frzs,I1.base.tbls⟩,⟨_,hn',fun j y v h1 h2 h3=>?_⟩,fun y c e=>?_,I1.free,I1.freeC,fun p hp=>?_,fun b u q=>?_,?_⟩
 ·obtain ⟨sl,e1⟩:=I1.base.slot b o e n hb hx'
  exact ⟨sl,(hs.2 b (neL b o e)).trans e1⟩
 ·obtain ⟨o',e1⟩:=I1.base.there b o e hx'
  exact ⟨o',(hs.2 b (neL b o e)).trans e1⟩
 ·have hji:j ≠ i:=fun z=>by
   subst z
   rw [List.getElem?_set_self hil] at h2
   cases h2
  have hyn:y ≠ n:=fun z=>by
   subst z
   obtain ⟨a1,a2⟩:=qB.mp h1
   obtain ⟨b1,b2⟩:=qB.mp hi
   exact hji ((List.getElem_inj hN).mp (a2.trans b2.symm))
  rw [List.getElem?_set_ne (Ne.symm hji)] at h2
  obtain ⟨u2,ru2,lk2⟩:=hv j y v h1 (by rw [List.getElem?_set_ne (Ne.symm hji)]; exact h2) h3
  refine ⟨u2,ru2,?_⟩
  rcases lk2 with ⟨z1,z2⟩ | ⟨z,c,e1,e2⟩
  ·exact .inl ⟨z1,by show (if y=n then u' else m y)=_; rw [if_neg hyn]; exact z2⟩
  ·exact .inr ⟨z,c,e1,cellK c _ e2⟩
 ·obtain ⟨v,hv⟩:=I1.cell y c e
  exact ⟨v,cellK c v hv⟩
 ·obtain ⟨e,n,ne,nf,dd⟩:=I1.pin p hp
  exact ⟨(hs.2 _ ne).trans e,n,ne,nf,dd⟩
 ·refine (I1.hok b u q).stay (fun c v hc e=>?_) (fun _ z=>z) fun _ _ z=>z
  have tc:∃ v,H c=some v:=by
   rcases hc with z | z
   ·rw [z]; exact ⟨_,q⟩
   ·exact ⟨_,z⟩
  obtain ⟨v',hv'⟩:=tc
  refine (hs.2 c fun z=>?_).trans e
  rw [z,I1.free] at hv'
  cases hv'
 ·rw [List.length_set]; exact I.len
end L2
set_option Elab.async false
set_option linter.all false
set_option maxRecDepth 100000
set_option maxHeartbeats 1000000
namespace L2
open PySem PySem.Spec PyProof.Rows
abbrev TSX:=Ends -> XK -> St -> Hp -> Prop
def PSx (X:Cx)(st:List Stmt)(t:TSX):Prop :=
 ∀ (pins:List (Addr × Obj)) (s:Shared) (σ:St) (H:Hp) (D:Ends) (E:XK),Inv X pins σ H s -> t D E σ H -> wpAny (model X.prog X.w) X.A (execs st X.env) (SP X pins D) (XP X pins σ E) s
def xDrop (te:TX):TSX:=fun D E σ H=>te σ H (fun _ H'=>D.nx σ H') E
theorem psx_expr {X:Cx}{e:Expr}{te:TX}{pos:Pos}(he:PEx X e te)(hs:swapsWith e none pos.line X.env=pure false:=by rfl):PSx X [.Expr e pos] (xDrop te):=by
 intro pins s σ H D E I h
 refine wpAny_execs_cons (wpAny_Expr_any (thn (he pins s σ H _ E I h) fun v s1 ⟨x,H1,I1,r1,q1⟩=>?_) I.quiet hs)
 exact wpAny_execs_nil ⟨σ,H1,I1,q1⟩
def subIn (K:PySem.W.Frag)(c B:Addr):Bool:=match K.lookup c with
 | some ⟨_,_,.cls cd,_⟩=>cd.mro.contains (.ref B)
 | _=>false
theorem sub_of {K:PySem.W.Frag}{h:Heap}{c B:Addr}{nm q:Str}{N:Addr}{bs bm:List Value}{hdct:Bool}{sn:List Str}{sub:List Value}{ab:Bool}{col:Option Bool}{dd:Option Addr}{k0 k1 k2 k3 k5:Option Value}{newId:String}
  (X:K.In h) (hC:h.get? c=some (excClassObj nm q c N bs bm hdct sn sub ab col dd k0 k1 k2 k3 k5 newId)) (e:subIn K c B=true):(Value.ref c :: bm).contains (.ref B)=true:=by
 unfold subIn at e
 split at e
 ·rename_i ho
  have:=X _ _ ho
  rw [hC] at this
  cases this
  exact e
 ·cases e
def hEnds (D:Ends)(i:Nat):Ends:={ nx:=fun σ H=>D.nx (σ.set i none) H,rt:=D.rt,bk:=fun σ H=>D.bk (σ.set i none) H,ct:=fun σ H=>D.ct (σ.set i none) H }
def tTryAs (K:PySem.W.Frag)(tb:TSX)(B:Addr)(i:Nat)(th:TS):TS:=fun D σ H =>
 tb D (fun C d H'=>∃ c bmB newId,C = .ref c /\ PySem.W.excIn K c bmB newId=true /\ subIn K c B=true /\ ∀ x,H' x=none -> th (hEnds D i) (σ.set i (some (.ref x))) (upd H' x (Exc x C d))) σ H
theorem ps_tryAs {X:Cx} {body:List Stmt} {tb:TSX} {xB n:Str} {B:Addr} {bmB:List Value} {newId:String} {i:Nat} {b₀:Stmt} {suite:List Stmt} {th:TS} {np hpos pos:Pos} (hb:PSx X body tb) (hB:PySem.W.excIn X.K B bmB newId=true) (hbB:bmB.contains (.type "BaseException")=true)
  (hg:Gl X xB) (hm:X.mg xB=some (.ref B)) (hN:X.N.Nodup) (hi:X.N[i]? = some n) (hl:X.env.kindOf n=some .local) (hloc:X.env.scope.names.lookup n=some .local) (hst:X.stack=X.env :: X.outer) {L:Addr} (hf:X.env.frame=some L)
  (hs:∀ e,PSs (susp X e) (b₀ :: suite) th) (hd:(xB == ("__debug__" : Str))=false:=by decide) :
  PS X (.Try body [.ExceptHandler (some (.Name xB np)) (some n) (b₀ :: suite) hpos] [] [] pos) (tTryAs X.K tb B i th):=by
 intro pins s σ H D I h
 refine wpAny_Try_except (wpAny_mono (hb pins s σ H D _ I h) (fun f s1 q=>?_) fun e s1 q=>?_)
 ·cases f with
  | next=>exact wpAny_execs_nil q
  | ret v=>exact q
  | brk=>exact q
  | cont=>exact q
 obtain ⟨x,T,C,d,H',rfl,I1,tr,⟨ox,oT⟩,np',nx,nT,c,bmC,newC,rfl,hC0,hsub,hE⟩:=q
 have hfr:X.A.frames=some (X.env :: X.outer):=by rw [I1.ok.frames,hst]
 have hfun:s1.heap.FunFrames X.base (X.env :: X.outer):=by rw [← hst]; exact I1.stack
 refine lv_nextN hfr hfun hf tr fun h' l=>?_
 have hfrs:(X.env :: X.outer).filterMap (·.frame)=frs X.stack:=by rw [hst]; rfl
 rw [hfrs] at l
 have I2:=inv_noted I1 tr l.k ox oT np' nx nT
 have tr2:=l.exc
 have oT2:X.s₀.heap.get? s1.heap.objs.size=none:=Heap.get?_none_of_le I1.sz
 have nT2:H' s1.heap.objs.size=none:=I1.hok.fresh (Nat.le_refl _)
 have np2:∀ p ∈ X.pn ++ pins,p.1 ≠ x /\ p.1 ≠ s1.heap.objs.size:=fun p hp=>⟨(np' p hp).1,Nat.ne_of_lt (Heap.lt_size (I1.pin p hp).1)⟩
 refine wpAny_handleBy_cons (codeAny_handlers_test (ld_glob (X:=susp X x) (I2.susp x) hg hm ?_ hd)) (by intro q; cases q)
 obtain ⟨bm,N,nm,q,bs,hdct,sn,sub,ab,col,dd,k0,k1,k2,k3,k5,mN,hC,_,_,_⟩:=exc_obj I2.kIn hC0
 obtain ⟨bm',N',nm',q',bs',hdct',sn',sub',ab',col',dd',k0',k1',k2',k3',k5',mN',hBo,_,_,TB⟩:=exc_obj I2.kIn hB
 obtain ⟨oe,vs,oT',ts,he,hcls,_,hdd,_,hTe,hTo,hdT,_⟩:=id tr2
 refine exc_match hC hBo he hcls (TB.hasType hbB) ?_
 rw [sub_of I2.kIn hC hsub]
 show codeAny _ _ _ _ _
 refine codeAny_handlers_suite_as (flight_ok tr2 fun h3 k3 tr3=>?_)
 have I3:Inv X pins σ H' { s1 with heap:=h3 }:=by
  refine inv_noted (s:={ s1 with heap:=h' }) (h':=h3) I2 tr2 ⟨fun b o _ _ hbT e=>(k3 b fun z=>hbT (by rw [z])).trans e,fun b o hbf e=>⟨o.slots,(k3 b fun z=>?_).trans e⟩⟩ ox oT2 np2 nx nT2
  subst z
  obtain ⟨_,o',ho',hnf⟩:=I2.stack.mem hbf
  rw [hTo] at ho'
  cases ho'
  exact hnf _ hdT
 have I4:=inv_track I3 tr3 ox (fun p hp=>(np' p hp).1) nx
 refine store_ok (X:=X) I4 hN hi (.inl hloc) (v:=.ref x) (u:=.ref x) rfl (fun s4 I5=>?_) (.inr hloc)
 refine wpAny_mono (hs x pins s4 _ _ (hEnds D i) (I5.susp x) (hE x nx)) (fun f s5 q=>?_) fun _ _ z=>False.elim z
 show wpAny _ _ _ _ _ _
 have ok:=I.ok
 cases f with
 | next =>
  obtain ⟨σ',H2,I6,q⟩:=q
  exact unbind_ok (I6.unsusp ok) hN hi hl hloc fun s7 I7=>⟨_,_,I7,q⟩
 | brk =>
  obtain ⟨σ',H2,I6,q⟩:=q
  exact unbind_ok (I6.unsusp ok) hN hi hl hloc fun s7 I7=>⟨_,_,I7,q⟩
 | cont =>
  obtain ⟨σ',H2,I6,q⟩:=q
  exact unbind_ok (I6.unsusp ok) hN hi hl hloc fun s7 I7=>⟨_,_,I7,q⟩
 | ret u =>
  obtain ⟨v,σ',H2,I6,r,q⟩:=q
  exact unbind_ok (I6.unsusp ok) hN hi hl hloc fun s7 I7=>⟨_,_,_,I7,r,q⟩
end L2
set_option Elab.async false
set_option linter.all false
set_option maxRecDepth 100000
set_option maxHeartbeats 1000000
namespace L2
open PySem PySem.Spec PyProof.Rows
section
variable {prog:Program}{w:World}{A:Around}{E:Value -> Shared -> Prop}{s:Shared}{K:PySem.W.Frag}{x D:Addr}{o:Obj}
theorem exc_class {Q:Option Value -> Shared -> Prop} (X:K.In s.heap) (I:PySem.W.InstAt s.heap x o D none) (hga:PySem.W.findIn K (.ref D) "__getattribute__" = some (some (.builtin "BaseException.__getattribute__"))) (hgt:PySem.W.findIn K (.ref D) "__getattr__" = some none)
  (hf:PySem.W.findIn K (.ref D) "__class__" = some (some (.builtin "object.__class__"))) (hm:PySem.W.mroIn K D (.type "object")=some true) (hB:PySem.W.subIn K (.ref D) (.type "BaseException")=some true) (h:Q (some (.ref D)) { s with toks:=s.toks+1 }):wpAny (model prog w) A (getAttr? (.ref x) "__class__") Q E s:=by
 obtain ⟨hh,g,d,t,os⟩:=s
 have L0:=I.type (M:=model prog w)
 have L1:=PySem.W.looks_findIn (M:=model prog w) X hga
 have L2:=PySem.W.looks_findIn (M:=model prog w) X hgt
 have L3:=PySem.W.looks_findIn (M:=model prog w) X hf
 unfold getAttr? getAttrBy? getAttrBy
 refine wpAny_bind (wpAny_mkText (wpAny_bind (wpAny_attempt (wpAny_holding (wpAny_bind (L0.at (wpAny_bind (L1.at ?_))))))))
 show wpAny _ _ (getAttrByItsOwn _ _ _ _ _ _) _ _ _
 unfold getAttrByItsOwn hookBefore
 have hx0:(false && onTheHeap (Value.builtin "BaseException.__getattribute__"))=false:=rfl
 have f3:=PySem.F.attr_ValueError.ga.bind (.ref x)
 repeat (any_goals (first | assumption | with_reducible refine L2.at ?_ | with_reducible refine L0.at ?_ | wp_step))
 have LB:=PySem.W.looks_subIn (M:=model prog w) X hB
 have hk:builtinKind "BaseException.__getattribute__" = some .slot:=by decide +kernel
 have hsplit:splitId "BaseException.__getattribute__" = some ("BaseException","__getattribute__"):=by decide +kernel
 have ha:=PySem.F.args_bexc_ga (.ref x) (Value.str (Str.ofString "__class__") t)
 refine codeAny_call_builtin PySem.F.attr_ValueError.ga.plain PySem.F.entry_bexc_ga ?_
 show wpAny _ _ (checkBuiltinCall "BaseException.__getattribute__" ⟨[.ref x,Value.str (Str.ofString "__class__") t],[]⟩) _ _ _
 simp only [checkBuiltinCall,hk,hsplit]
 refine wpAny_bind ?_
 unfold isInstance
 have f5:=PySem.F.typeOf_object_class
 have f6:=PySem.F.slot_gs_get.lookup
 have f7:=PySem.F.slot_gs_set.lookup
 repeat (any_goals (first | assumption | with_reducible refine L0.at ?_ | with_reducible refine LB.at ?_ | with_reducible refine L3.at ?_ | wp_step))
 refine PySem.W.class_get (s:=⟨hh,g,d,t+1,os⟩) (ox:=o) (od:=none) X I hm ?_
 refine wpAny_pure ?_
 refine PySem.W.handed_on rfl ?_
 exact wpAny_pure h
end
def excK (K:PySem.W.Frag)(D:Addr):Bool:=PySem.W.findIn K (.ref D) "__getattribute__" == some (some (.builtin "BaseException.__getattribute__")) && PySem.W.findIn K (.ref D) "__getattr__" == some none && (PySem.W.clsIn K D).isSome &&
 PySem.W.findIn K (.ref D) "__class__" == some (some (.builtin "object.__class__")) && PySem.W.mroIn K D (.type "object") == some true && PySem.W.subIn K (.ref D) (.type "BaseException") == some true
theorem kitx_exc {K:PySem.W.Frag}{x D:Addr}(hk:excK K D=true):PySem.W.KitX K (.ref x) (.ref D) (ExcAt x (.ref D) none):=by
 unfold excK at hk
 simp only [Bool.and_eq_true,beq_iff_eq] at hk
 obtain ⟨⟨⟨⟨⟨hga,hgt⟩,hc⟩,ha⟩,hm⟩,hB⟩:=hk
 have inst:∀ {h:Heap},ExcAt x (.ref D) none h -> ∃ o,PySem.W.InstAt h x o D none:=fun {h} ⟨o,e,c,dd,vs,hd⟩=>by
  refine ⟨o,e,c,?_,?_⟩
  ·unfold PySem.W.notCls; rw [hd]
  ·rw [dd]; trivial
 have cls:∃ c d cd sl,K.lookup D=some ⟨c,d,.cls cd,sl⟩:=by
  unfold PySem.W.clsIn at hc
  split at hc
  ·rename_i ho
   exact ⟨_,_,_,_,ho⟩
  ·cases hc
 obtain ⟨c',d',cd',sl',ho⟩:=cls
 refine ⟨fun M h X p=>?_,fun M h X p=>?_,fun h tp dd its n sl X htp=>?_,fun {prog w A E Q s} X p k=>?_⟩
 ·obtain ⟨o,I⟩:=inst p
  exact I.type
 ·intro A' Q' E' s' k q
  unfold isType loadHead
  exact wpAny_bind (wpAny_loadPart (k _ _ (X _ _ ho)) (wpAny_pure q))
 ·refine Bool.eq_false_iff.mpr fun q=>?_
  have e:D=tp:=Value.ref.inj (beq_iff_eq.mp q)
  subst e
  have z:=(X _ _ ho).symm.trans htp
  cases z
 ·obtain ⟨o,I⟩:=inst p
  exact exc_class X I hga hgt ha hm hB k
def rIsX (K:PySem.W.Frag):List V -> Hp -> VK -> Prop:=fun xs H Q=>∃ (x C:Addr) (c:V) (b:Bool),xs=[.ref x,c] /\ H x=some (Exc x (.ref C) none) /\ excK K C=true /\
 ((∃ B,c = .ref B /\ PySem.W.kitOne K (.ref C) (.ref B)=some b) \/ (∃ T,c = .ty T /\ PySem.W.kitOne K (.ref C) (.type T)=some b) \/ (∃ (tp:Addr) (cs:List Addr),c = .ref tp /\ H tp=some (.tup (cs.map V.ref)) /\ PySem.W.kitAny K (.ref C) (cs.map Value.ref)=some b)) /\ Q (.bl b) H
theorem vals_addrs:∀ {cs:List Addr} {its:List Value},Vals (cs.map V.ref) its -> its=cs.map Value.ref
 | [],its,r=>by cases r; rfl
 | c :: cs,its,r=>by
  cases r with
  | cons a b =>
   cases a
   rw [vals_addrs b]
   rfl
theorem call_isX {X:Cx}:CallR X (.builtin "isinstance") (rIsX X.K):=by
 intro pins s σ H xs us Q I r h
 obtain ⟨x,C,c,b,rfl,hx,hk,alt,q⟩:=h
 obtain ⟨u1,u2,rfl,r1,r2⟩:=Vals.two r
 cases (show u1=Value.ref x from r1)
 have p:ExcAt x (.ref C) none s.heap:=(I.hok x _ hx).1
 rcases alt with ⟨B,rfl,e⟩ | ⟨T,rfl,e⟩ | ⟨tp,cs,rfl,htp,e⟩
 ·cases (show u2=Value.ref B from r2)
  exact PySem.W.kia_one (kitx_exc hk) I.kIn p e (fun z=>nomatch z) fun tk=>⟨.bl b,H,I.tok _,rfl,q⟩
 ·cases (show u2=Value.type T from r2)
  exact PySem.W.kia_one (kitx_exc hk) I.kIn p e (fun z=>nomatch z) fun tk=>⟨.bl b,H,I.tok _,rfl,q⟩
 ·cases (show u2=Value.ref tp from r2)
  obtain ⟨_,its,rv,ob,hob,hcls,nn,hdat⟩:=(show ObjOk X.prog X.w H s.heap tp (.tup (cs.map V.ref)) from I.hok tp _ htp)
  rw [vals_addrs rv] at hdat
  obtain ⟨oc,od,dt,sl⟩:=ob
  cases hcls
  cases hdat
  exact PySem.W.kia_tup (kitx_exc hk) I.kIn p hob e (fun z=>nomatch z) fun tk=>⟨.bl b,H,I.tok _,rfl,q⟩
end L2
set_option Elab.async false
set_option linter.all false
set_option maxRecDepth 100000
set_option maxHeartbeats 1000000
namespace L2
open PySem PySem.Spec PyProof.Rows
theorem bo_ValueError:bootBuiltins "ValueError" = some (.type "ValueError"):=by decide +kernel
theorem PS.nox {X:Cx}{st:Stmt}{t:TS}(h:PS X.nox st t):PS X st t:=fun pins s σ H D I hw =>
 wpAny_mono (h pins s σ H D (I.wish _) hw) (fun _ _ q=>q.unwish) fun _ _ z=>False.elim z
end L2
set_option Elab.async false
set_option linter.all false
set_option maxRecDepth 100000
set_option maxHeartbeats 1000000
namespace L2
open PySem PySem.Spec
end L2
set_option Elab.async false
set_option linter.all false
set_option maxRecDepth 100000
set_option maxHeartbeats 1000000
namespace L2
open PySem PySem.Spec
end L2
set_option Elab.async false
set_option linter.all false
set_option maxRecDepth 100000
set_option maxHeartbeats 1000000
namespace L2
open PySem PySem.Spec
theorem set_mid {α:Type}{as bs:List α}{x y:α}{n:Nat}(h:as.length=n):(as ++ x :: bs).set n y=as ++ y :: bs:=by
 subst h
 induction as with
 | nil=>rfl
 | cons a r ih=>simp [ih]
theorem set_mapI {xs:List Int}{k:Nat}{x:Int}:(xs.map V.int).set k (.int x)=(xs.set k x).map V.int:=by rw [List.map_set]
end L2
set_option Elab.async false
set_option linter.all false
set_option maxRecDepth 100000
set_option maxHeartbeats 1000000
namespace L2
open PySem PySem.Spec
end L2
set_option Elab.async false
set_option linter.all false
set_option maxRecDepth 100000
set_option maxHeartbeats 1000000
namespace L2
open PySem PySem.Spec
end L2
set_option Elab.async false
set_option linter.all false
set_option maxRecDepth 100000
set_option maxHeartbeats 1000000
namespace L2
open PySem PySem.Spec PyProof PyProof.Rows
section
variable {P:Program}{w:World}{A:Around}{E:Value -> Shared -> Prop}{s:Shared}
end
section
variable {X:Cx}
end
theorem Feed.updO {H:Hp}{p q:Addr}{c:Int}{o:HO}(h:Feed H p c)(n:q ≠ p):Feed (upd H q o) p c:=by
 obtain ⟨g,m,st,e,r⟩:=h
 exact ⟨g,m,st,by rw [upd_ne n.symm]; exact e,r⟩
end L2
set_option Elab.async false
set_option linter.all false
set_option maxRecDepth 100000
set_option maxHeartbeats 1000000
namespace L2
open PySem PySem.Spec
section
variable {K:PySem.W.Frag}{σ:St}{H:Hp}{D:Ends}{g:TG}{tb:TS}{a b:Addr}
end
section
variable {K:PySem.W.Frag}{σ:St}{H:Hp}{Q:VK}{cs:List Nat}{te:TE}
end
end L2
set_option Elab.async false
set_option linter.all false
set_option maxRecDepth 100000
set_option maxHeartbeats 1000000
namespace L2
open PySem PySem.Spec
def vGD (g:Int -> Int -> Int -> Int -> Int)(z:Int)(vs:List Int)(d:Wd):Int:=g (g z d.s 1 (vs.getD d.a 0)) d.t (sgW d.w) (vs.getD d.b 0)
def vG (g:Int -> Int -> Int -> Int -> Int)(z:Int)(xs:List Int)(ds:List Wd):List Int:=ds.foldl (fun vs d=>vs ++ [vGD g z vs d]) xs
section
variable {g:Int -> Int -> Int -> Int -> Int}{z:Int}
theorem vG_snoc (xs:List Int)(ds:List Wd)(d:Wd):vG g z xs (ds ++ [d])=vG g z xs ds ++ [vGD g z (vG g z xs ds) d]:=by unfold vG; rw [List.foldl_append]; rfl
theorem vG_len (xs:List Int)(ds:List Wd):(vG g z xs ds).length=xs.length+ds.length:=by
 refine snoc_ind (p:=fun ds=>(vG g z xs ds).length=xs.length+ds.length) rfl (fun ys y ih=>?_) ds
 rw [vG_snoc,qF,ih]; simp; omega
theorem vG_pre (xs:List Int)(ds new:List Wd){k:Nat}{r:Int}(h:(vG g z xs ds)[k]? = some r):(vG g z xs (ds ++ new))[k]? = some r:=by
 refine snoc_ind (p:=fun new=>(vG g z xs (ds ++ new))[k]? = some r) (by rw [List.append_nil]; exact h) (fun ys y ih=>?_) new
 rw [← List.append_assoc,vG_snoc,qH (qB.mp ih).1]
 exact ih
theorem vG_take {xs:List Int}{ds:List Wd}{i:Nat}{d:Wd}(hd:ds[i]? = some d):vG g z xs (ds.take (i+1))=vG g z xs (ds.take i) ++ [vGD g z (vG g z xs (ds.take i)) d]:=by
 rw [List.take_add_one,hd]
 exact vG_snoc _ _ _
theorem vG_takeD {xs:List Int}{ds:List Wd}{i j:Nat}(hi:i <= ds.length)(hj:j < xs.length+i):(vG g z xs (ds.take i)).getD j 0=(vG g z xs ds).getD j 0:=by
 have hl:j < (vG g z xs (ds.take i)).length:=by rw [vG_len,qO]; omega
 have e:=qA hl
 have e2:=vG_pre xs (ds.take i) (ds.drop i) e
 rw [List.take_append_drop] at e2
 rw [getD_of e,getD_of e2]
end
def tG (g:Int -> Int -> Int -> Int -> Int)(z:Int)(xs:List Int)(ds:List Wd)(i:Nat):List Int :=
 if i % 2=0 then vG g z xs (ds.take (i / 2)) ++ qQ (ds.length - i / 2) z
 else match ds[i / 2]? with
  | some d=>vG g z xs (ds.take (i / 2)) ++ g z d.s 1 ((vG g z xs (ds.take (i / 2))).getD d.a 0) :: qQ (ds.length - i / 2 - 1) z
  | none=>[]
section
variable {g:Int -> Int -> Int -> Int -> Int}{z:Int}
theorem tG_end (xs:List Int)(ds:List Wd):tG g z xs ds (2 * ds.length)=vG g z xs ds:=by
 unfold tG
 rw [if_pos (by omega),show 2 * ds.length / 2=ds.length by omega,List.take_length,Nat.sub_self]
 simp
theorem tG_even {xs:List Int}{ds:List Wd}{i:Nat}{d:Wd}(h:i % 2=0)(hd:ds[i / 2]? = some d):tG g z xs ds i=vG g z xs (ds.take (i / 2)) ++ z :: qQ (ds.length - i / 2 - 1) z:=by
 have hi:=(qB.mp hd).1
 unfold tG
 rw [if_pos h,show ds.length - i / 2=(ds.length - i / 2 - 1)+1 by omega,List.replicate_succ]
 rfl
theorem tG_odd {xs:List Int}{ds:List Wd}{i:Nat}{d:Wd}(h:i % 2=1)(hd:ds[i / 2]? = some d):tG g z xs ds i=vG g z xs (ds.take (i / 2)) ++ g z d.s 1 ((vG g z xs (ds.take (i / 2))).getD d.a 0) :: qQ (ds.length - i / 2 - 1) z:=by
 unfold tG
 rw [if_neg (by omega),hd]
theorem tG_step {xs:List Int}{ds:List Wd}(dk:∀ (k:Nat) (d:Wd),ds[k]? = some d -> d.a < xs.length+k /\ d.b < xs.length+k){i:Nat}{a:Ar}(ha:(arrF xs.length 0 ds)[i]? = some a) :
  ∃ x y:Int,(tG g z xs ds i)[a.st]? = some x /\ (tG g z xs ds i)[a.go]? = some y /\ x ∈ vG g z xs ds /\ (∃ d,ds[i / 2]? = some d /\ (a.sh=d.s \/ a.sh=d.t)) /\ (a.sg=1 \/ a.sg = -1) /\ (tG g z xs ds i).set a.go (g y a.sh a.sg x)=tG g z xs ds (i+1):=by
 obtain ⟨d,hd,hg,hc⟩:=arr_at ha
 rw [Nat.add_zero] at hg hc
 have hi:=(qB.mp hd).1
 obtain ⟨da,db⟩:=dk _ _ hd
 have tl:(vG g z xs (ds.take (i / 2))).length=xs.length+i / 2:=by rw [vG_len,qO]; omega
 have hb:∀ j,j < xs.length+i / 2 -> ∃ x,(vG g z xs (ds.take (i / 2)))[j]? = some x /\ x=(vG g z xs (ds.take (i / 2))).getD j 0 /\ x ∈ vG g z xs ds:=fun j hj=>by
  have e:=qA (l:=vG g z xs (ds.take (i / 2))) (i:=j) (by omega)
  refine ⟨_,e,(getD_of e).symm,?_⟩
  have e2:=vG_pre xs (ds.take (i / 2)) (ds.drop (i / 2)) e
  rw [List.take_append_drop] at e2
  exact qE e2
 rcases hc with ⟨hm,rfl⟩ | ⟨hm,rfl⟩
 ·obtain ⟨x,e1,e2,e3⟩:=hb d.a da
  refine ⟨x,z,?_,?_,e3,⟨d,hd,.inl rfl⟩,.inl rfl,?_⟩
  ·rw [tG_even hm hd,qH (by show d.a < _; omega)]
   exact e1
  ·rw [tG_even hm hd,qG (by show _ <= xs.length+i / 2; omega),tl]
   show (z :: _)[xs.length+i / 2 - (xs.length+i / 2)]? = _
   rw [Nat.sub_self]
   rfl
  ·rw [tG_even hm hd,set_mid tl,tG_odd (i:=i+1) (d:=d) (by omega) (by rw [show (i+1) / 2=i / 2 by omega]; exact hd),show (i+1) / 2=i / 2 by omega,← e2]
 ·obtain ⟨x,e1,e2,e3⟩:=hb d.b db
  have hs:sgW d.w=1 \/ sgW d.w = -1:=by
   unfold sgW
   split
   ·exact .inr rfl
   ·exact .inl rfl
  refine ⟨x,g z d.s 1 ((vG g z xs (ds.take (i / 2))).getD d.a 0),?_,?_,e3,⟨d,hd,.inr rfl⟩,hs,?_⟩
  ·rw [tG_odd hm hd,qH (by show d.b < _; omega)]
   exact e1
  ·rw [tG_odd hm hd,qG (by show _ <= xs.length+i / 2; omega),tl]
   show (_ :: _)[xs.length+i / 2 - (xs.length+i / 2)]? = _
   rw [Nat.sub_self]
   rfl
  ·rw [tG_odd hm hd,set_mid tl]
   unfold tG
   rw [if_pos (by omega),show (i+1) / 2=i / 2+1 by omega,vG_take hd,List.append_assoc,Nat.sub_add_eq]
   show _=_ ++ (vGD _ _ _ _ :: _)
   unfold vGD
   rw [← e2]
   rfl
end
end L2
set_option Elab.async false
set_option linter.all false
set_option maxRecDepth 100000
set_option maxHeartbeats 1000000
namespace L2
open PySem PySem.Spec
end L2
set_option Elab.async false
set_option linter.all false
set_option maxRecDepth 100000
set_option maxHeartbeats 1000000
namespace L2
open PySem PySem.Spec
section
variable {K:PySem.W.Frag}{σ:St}{H:Hp}{Q:VK}{cs:List Nat}{te:TE}
end
end L2
set_option Elab.async false
set_option linter.all false
set_option maxRecDepth 100000
set_option maxHeartbeats 1000000
namespace L2
open PySem PySem.Spec PyProof.Rows
section
variable {prog:Program}{w:World}{A:Around}{E:Value -> Shared -> Prop}{s:Shared}
end
section
variable {prog:Program}{w:World}{A:Around}{E:Value -> Shared -> Prop}{s:Shared}
end
section
variable {K:PySem.W.Frag}{σ:St}{H:Hp}{D:Ends}{g:TG}{tb:TS}{a b c:Addr}
end
end L2
set_option Elab.async false
set_option linter.all false
set_option maxRecDepth 100000
set_option maxHeartbeats 1000000
namespace L2
open PySem PySem.Spec
end L2
set_option Elab.async false
set_option linter.all false
set_option maxRecDepth 100000
set_option maxHeartbeats 1000000
namespace L2
open PySem PySem.Spec PyProof PyProof.Rows
section
variable {prog:Program}{w:World}{A:Around}{E:Value -> Shared -> Prop}{s:Shared}
end
section
variable {prog:Program}{w:World}{A:Around}{E:Value -> Shared -> Prop}{s:Shared}
end
section
variable {K:PySem.W.Frag}{σ:St}{H:Hp}{Q:VK}{cs:List Nat}{te:TE}
end
section
variable {X:Cx}
end
end L2
set_option Elab.async false
set_option linter.all false
set_option maxRecDepth 100000
set_option maxHeartbeats 1000000
namespace L2
open PySem PySem.Spec
def Lies (w x:Int):Prop:=-(2 ^ (w - 1).toNat) <= x /\ x < 2 ^ (w - 1).toNat
instance (w x:Int):Decidable (Lies w x):=by unfold Lies; infer_instance
end L2
set_option Elab.async false
set_option linter.all false
set_option maxRecDepth 100000
set_option maxHeartbeats 1000000
namespace L2
open PySem PySem.Spec
end L2
set_option Elab.async false
set_option linter.all false
set_option maxRecDepth 100000
set_option maxHeartbeats 1000000
namespace L2
open PySem PySem.Spec
end L2
set_option Elab.async false
set_option linter.all false
set_option maxRecDepth 100000
set_option maxHeartbeats 1000000
namespace L2
open PySem PySem.Spec
theorem seq_in {t u:TS}{D:Ends}{σ:St}{H:Hp}(h:∀ R:TS,R=u -> tSeq t R D σ H):tSeq t u D σ H:=h u rfl
theorem seq_inG {g:TG}{x:V}{t u:TS}{D:Ends}{σ:St}{H:Hp}(h:∀ R:TS,R=u -> g x σ H fun σ2 H2=>tSeq t R D σ2 H2):g x σ H fun σ2 H2=>tSeq t u D σ2 H2:=h u rfl
theorem seq_out {R u:TS}{D:Ends}{σ:St}{H:Hp}(e:R=u)(h:u D σ H):R D σ H:=by rw [e]; exact h
end L2
set_option Elab.async false
set_option linter.all false
set_option maxRecDepth 100000
set_option maxHeartbeats 1000000
namespace L2
open PySem PySem.Spec
section
variable {K:PySem.W.Frag}{σ:St}{H:Hp}{Q:VK}{cs:List Nat}{te:TE}
end
end L2
set_option Elab.async false
set_option linter.all false
set_option maxRecDepth 100000
set_option maxHeartbeats 1000000
namespace L2
open PySem PySem.Spec
section
variable {K:PySem.W.Frag}{σ:St}{H:Hp}{Q:VK}{cs:List Nat}{te:TE}
end
end L2
set_option Elab.async false
set_option linter.all false
set_option maxRecDepth 100000
set_option maxHeartbeats 1000000
namespace L2
open PySem PySem.Spec PyProof.Rows
end L2
set_option Elab.async false
set_option linter.all false
set_option maxRecDepth 100000
set_option maxHeartbeats 1000000
namespace L2
open PySem PySem.Spec PyProof.Rows
section
variable {H H':Hp}{x dl gl:Addr}{ins:Nat}{us:List V}{ds:List Wd}{os:List V}{gs:List Go}
end
section
variable {α:Type}{f:α -> List V}{H0 H H':Hp}{p dl:Addr}{us:List V}{ds:List α}
end
section
variable {H:Hp}{w:Str}{a b d1 g1 d2 g2:Addr}{i1 i2:Nat}{u1 u2:List V}{s1 s2:List Wd}{o1 o2:List V}{t1 t2:List Go}{Q:VK}{E:XK}
end
end L2
set_option Elab.async false
set_option linter.all false
set_option maxRecDepth 100000
set_option maxHeartbeats 1000000
namespace L2
open PySem PySem.Spec PyProof.Rows
section
variable {I ins l m:Nat}{f:Nat -> Nat}{ds0 ds:List Wd}{gs0 gs:List Go}
end
end L2
set_option Elab.async false
set_option linter.all false
set_option maxRecDepth 100000
set_option maxHeartbeats 1000000
namespace L2
open PySem PySem.Spec PyProof.Rows
structure HKs {α:Type} (K:PySem.W.Frag) (f:α -> List V) (H:Hp) (vs:List V) (xs:List α):Prop where
 len:vs.length=xs.length
 at_:∀ (k:Nat) (x:α),xs[k]? = some x -> ∃ p:Addr,vs[k]? = some (.ref p) /\ SqT K H p (f x)
section
variable {α:Type}{K:PySem.W.Frag}{f:α -> List V}{H H':Hp}{vs us:List V}{xs:List α}{l:Addr}
theorem HTs.hk (h:HTs f H vs xs):HKs K f H vs xs:=⟨h.len,fun k x e=>by
 obtain ⟨p,e1,e2⟩:=h.at_ k x e
 exact ⟨p,e1,SqT.of e2⟩⟩
theorem HKs.same (h:HKs K f H vs xs)(s:Same H H'):HKs K f H' vs xs:=⟨h.len,fun k d e=>by
 obtain ⟨x,e1,e2⟩:=h.at_ k d e
 exact ⟨x,e1,s.seqT e2⟩⟩
end
structure WbK (K:PySem.W.Frag) (H:Hp) (w dl gl:Addr) (ins:Nat) (us:List V) (ds:List Wd) (os:List V) (gs:List Go):Prop where
 tup:H w=some (.tup [.int ins,.ref dl,.ref gl])
 dll:H dl=some (.lst us)
 hds:HTs wTup H us ds
 gll:H gl=some (.lst os)
 hgs:HKs K gTp H os gs
theorem Wb.wk {K:PySem.W.Frag}{H:Hp}{w dl gl:Addr}{ins:Nat}{us:List V}{ds:List Wd}{os:List V}{gs:List Go}(h:Wb H w dl gl ins us ds os gs):WbK K H w dl gl ins us ds os gs:=⟨h.tup,h.dll,h.hds,h.gll,h.hgs.hk⟩
theorem WbK.same {K:PySem.W.Frag}{H H':Hp}{w dl gl:Addr}{ins:Nat}{us:List V}{ds:List Wd}{os:List V}{gs:List Go}(h:WbK K H w dl gl ins us ds os gs)(s:Same H H'):WbK K H' w dl gl ins us ds os gs :=
 ⟨s _ _ h.tup,s _ _ h.dll,h.hds.same s,s _ _ h.gll,h.hgs.same s⟩
def sT (n:Nat):List V:=[.int n,.int 0,.int 1]
end L2
set_option Elab.async false
set_option linter.all false
set_option maxRecDepth 100000
set_option maxHeartbeats 1000000
namespace L2
open PySem PySem.Spec PyProof.Rows
section
variable {X:Cx}
end
section
variable {K:PySem.W.Frag}{σ:St}{H:Hp}{Q:VK}{cs:List Nat}{te:TE}
end
end L2
set_option Elab.async false
set_option linter.all false
set_option maxRecDepth 100000
set_option maxHeartbeats 1000000
namespace L2
open PySem PySem.Spec PyProof.Rows
theorem hks_isL {α:Type}{f:α -> List V}{K:PySem.W.Frag}{H:Hp}(hf:∀ a,(f a).all flatV=true):∀ {xs:List α} {vs:List V},HKs K f H vs xs -> IsL K H vs (xs.map fun a=>.t ((f a).map Dt.f))
 | [],vs,h=>by
  have:vs=[]:=List.eq_nil_of_length_eq_zero h.len
  subst this
  rw [List.map_nil,IsL]
 | a :: r,vs,h=>by
  obtain ⟨p,h1,h2⟩:=h.at_ 0 a rfl
  cases vs with
  | nil=>cases h1
  | cons v vs =>
   cases h1
   rw [List.map_cons,IsL]
   refine ⟨_,_,rfl,is_tup h2 (hf a),hks_isL hf ⟨by have:=h.len; simpa using this,fun k x hx=>?_⟩⟩
   exact h.at_ (k+1) x hx
theorem WbK.is {K:PySem.W.Frag}{H:Hp}{w dl gl:Addr}{ins:Nat}{us:List V}{ds:List Wd}{os:List V}{gs:List Go}(h:WbK K H w dl gl ins us ds os gs):Is K H (.ref w) (webDt ins ds gs):=by
 unfold webDt
 rw [Is]
 refine ⟨w,_,rfl,SqT.of h.tup,?_⟩
 rw [IsL]
 refine ⟨_,_,rfl,by rw [Is]; exact ⟨rfl,rfl⟩,?_⟩
 rw [IsL]
 refine ⟨_,_,rfl,?_,?_⟩
 ·rw [Is]
  exact ⟨dl,us,rfl,SqL.of h.dll,hts_isL (fun _=>rfl) h.hds⟩
 ·rw [IsL]
  refine ⟨_,_,rfl,?_,by rw [IsL]⟩
  rw [Is]
  exact ⟨gl,os,rfl,SqL.of h.gll,hks_isL (fun _=>rfl) h.hgs⟩
theorem ne_webK {K:PySem.W.Frag}{H:Hp}{w dl gl w' dl' gl':Addr}{ins:Nat}{us us':List V}{ds:List Wd}{os os':List V}{gs:List Go}{Q:VK}(h:WbK K H w dl gl ins us ds os gs)(h':WbK K H w' dl' gl' ins us' ds os' gs)(q:Q (.bl false) H):rNeD K (.ref w) (.ref w') H Q :=
 ⟨w,_,_,rfl,h.is,h'.is,dep_web _ _ _,by rw [deq_refl _ (h.is (K:=K))]; exact q⟩
section
variable {c:Bool}{i1 i2:Nat}{s1 s2:List Wd}{t1 t2:List Go}
end
section
variable {K:PySem.W.Frag}{σ:St}{H:Hp}{Q:VK}{cs:List Nat}{te:TE}
end
end L2
set_option Elab.async false
set_option linter.all false
set_option maxRecDepth 100000
set_option maxHeartbeats 1000000
namespace L2
open PySem PySem.Spec PyProof.Rows
end L2
set_option Elab.async false
set_option linter.all false
set_option maxRecDepth 100000
set_option maxHeartbeats 1000000
namespace L2
open PySem PySem.Spec PyProof.Rows
section
variable {prog:Program}{w:World}{A:Around}{E:Value -> Shared -> Prop}{s:Shared}
end
end L2
set_option Elab.async false
set_option linter.all false
set_option maxRecDepth 100000
set_option maxHeartbeats 1000000
namespace L2
open PySem PySem.Spec PyProof.Rows
section
variable {prog:Program}{w:World}{A:Around}{E:Value -> Shared -> Prop}{s:Shared}
end
section
variable {prog:Program}{w:World}{A:Around}{R:Result -> Shared -> Prop}{I:Addr}{fp wr:List Addr}{G:Array GenState -> Array GenState -> Prop}{P:Nat -> Value -> Prop}{St:Nat -> Shared -> Prop}
end
section
variable {prog:Program}{w:World}{A:Around}{E:Value -> Shared -> Prop}{s:Shared}
end
end L2
set_option Elab.async false
set_option linter.all false
set_option maxRecDepth 100000
set_option maxHeartbeats 1000000
namespace L2
open PySem PySem.Spec PyProof.Rows
section
variable {prog:Program}{w:World}{A:Around}{E:Value -> Shared -> Prop}{s:Shared}{it S:Addr}{f:Value}{i n ep:Nat}{es:Array (Int × Value)}{t:SetTable}
end
end L2
set_option Elab.async false
set_option linter.all false
set_option maxRecDepth 100000
set_option maxHeartbeats 1000000
namespace L2
open PySem PySem.Spec PyProof.Rows
section
variable {prog:Program}{w:World}{A:Around}{E:Value -> Shared -> Prop}{s:Shared}{S:Addr}{i ep:Nat}{es:Array (Int × Value)}{t:SetTable}{ks:List Int}
end
end L2
set_option Elab.async false
set_option linter.all false
set_option maxRecDepth 100000
set_option maxHeartbeats 1000000
namespace L2
open PySem PySem.Spec PyProof.Rows
section
variable {prog:Program}{w:World}{A:Around}{E:Value -> Shared -> Prop}{s:Shared}{S it:Addr}{ep:Nat}{es:Array (Int × Value)}{t:SetTable}{ks:List Int}
end
end L2
set_option Elab.async false
set_option linter.all false
set_option maxRecDepth 100000
set_option maxHeartbeats 1000000
namespace L2
open PySem PySem.Spec PyProof.Rows
section
variable {prog:Program}{w:World}{A:Around}{E:Value -> Shared -> Prop}{s:Shared}{T:String}{r:Addr}{C:Nat -> (Nat -> Value -> Prop) -> Prop}{OK:Heap -> Prop}
end
theorem ints_vals:∀ {ns:List Int} {vs:List Value},Vals (ns.map V.int) vs -> IntsAre vs ns
 | [],vs,h=>by cases h; exact .nil
 | n :: ns,vs,h=>by
  cases h with
  | cons r t =>
   obtain ⟨tk,rfl⟩:=r
   exact .cons n tk (ints_vals t)
section
variable {X:Cx}
end
end L2
set_option Elab.async false
set_option linter.all false
set_option maxRecDepth 100000
set_option maxHeartbeats 1000000
namespace L2
open PySem PySem.Spec PyProof.Rows
section
variable {X:Cx}
end
end L2
set_option Elab.async false
set_option linter.all false
set_option maxRecDepth 100000
set_option maxHeartbeats 1000000
namespace L2
open PySem PySem.Spec PyProof.Rows
section
variable {X:Cx}
end
end L2
set_option Elab.async false
set_option linter.all false
set_option maxRecDepth 100000
set_option maxHeartbeats 1000000
namespace L2
open PySem PySem.Spec PyProof.Rows
def Dko (ins:Nat)(ds:List Wd):Prop:=∀ (k:Nat) (d:Wd),ds[k]? = some d -> d.a < ins+k /\ d.b < ins+k
section
variable {ins:Nat}{ds:List Wd}
end
section
variable {ins:Nat}{ds:List Wd}{j lo:Nat}{far:List Int}
end
end L2
set_option Elab.async false
set_option linter.all false
set_option maxRecDepth 100000
set_option maxHeartbeats 1000000
namespace L2
open PySem PySem.Spec PyProof.Rows
structure LDp (H:Hp) (l:Addr) (ps:List Addr) (rows:List (List Int)):Prop where
 lst:H l=some (.lst (ps.map V.ref))
 len:ps.length=rows.length
 nd:ps.Nodup
 nl:l ∉ ps
 at_:∀ (k:Nat) (p:Addr) (r:List Int),ps[k]? = some p -> rows[k]? = some r -> H p=some (.lst (r.map V.int))
section
variable {K:PySem.W.Frag}{σ:St}{H:Hp}{Q:VK}{cs:List Nat}{te:TE}
theorem comp_rowsD {n:Nat}(hz:n <= 1000)(row:Nat -> List Int)
  (hb:∀ (i:Nat) H' (R:VK),i < n -> Same H H' -> (∀ r H5,H' r=none -> Same H' H5 -> H5 r=some (.lst ((row i).map V.int)) -> R (.ref r) H5) -> te (some (.int (0+(i:Int))) :: capV cs σ) H' R)
  (hd:∀ acc ps H',H acc=none -> (∀ p ∈ ps,H p=none) -> Same H H' -> LDp H' acc ps ((List.range n).map row) -> Q (.ref acc) H'):CompIt (Itr 0 n) 1 cs (gName 0) tYes te σ H Q:=by
 refine comp_any n (fun acc i ws H'=>∃ ps:List Addr,ws=ps.map V.ref /\ Same H H' /\ H acc=none /\ (∀ p ∈ ps,H p=none) /\ LDp H' acc ps ((List.range i).map row)) (le_size hz) ?_ ?_ ?_ ?_ ?_ ?_
 ·rintro acc i ws H' hi _
  exact hi
 ·rintro acc ws H' _
  exact Nat.le_refl _
 ·intro acc ha
  exact ⟨[],rfl,same_new ha _,ha,(fun p hp=>by cases hp),⟨upd_same,rfl,List.nodup_nil,by simp,fun k p r e=>by simp at e⟩⟩
 ·rintro acc i ws H' ⟨ps,rfl,s,_,_,h⟩
  exact ⟨h.lst,by rw [qC,h.len,qC,List.length_range]; exact Nat.le_refl _⟩
 ·rintro acc i ws H' ts x H2 N hn hi ⟨ps,rfl,s,hn',hp,h⟩ ⟨rfl,rfl⟩ hts hN
  obtain ⟨t0,rfl⟩:∃ t0,ts=[t0]:=by
   match ts,hts with
   | [a],_=>exact ⟨a,rfl⟩
  rw [w_gName,w_yes,if_pos rfl]
  refine hb i _ _ hi s fun r H5 nr s5 h5=>?_
  have ra:r ≠ acc:=(ne_of_none h.lst nr).symm
  have rps:∀ p ∈ ps,p ≠ r:=fun p hp=>by
   obtain ⟨k,hk⟩:=List.getElem?_of_mem hp
   have kl:=(qB.mp hk).1
   exact ne_of_none (h.at_ k p _ hk (qA (by rw [← h.len]; exact kl))) nr
  refine ⟨s5 _ _ h.lst,hN _ [_] _ rfl ⟨ps ++ [r],by simp,same_upd hn (s.trans s5),hn',fun p hp'=>?_,?_⟩⟩
  ·rcases List.mem_append.mp hp' with z | z
   ·exact hp p z
   ·rw [List.mem_singleton.mp z]; exact s.free nr
  ·refine ⟨by rw [upd_same]; simp,by simp [h.len],?_,?_,fun k p q e1 e2=>?_⟩
   ·rw [List.nodup_append]
    exact ⟨h.nd,by simp,fun a ha b hb=>by rw [List.mem_singleton.mp hb]; exact rps a ha⟩
   ·intro z
    rcases List.mem_append.mp z with z | z
    ·exact h.nl z
    ·exact ra (List.mem_singleton.mp z).symm
   ·rw [List.range_succ,List.map_append] at e2
    have il:ps.length=i:=by rw [h.len,qC,List.length_range]
    have ml:((List.range i).map row).length=i:=by rw [qC,List.length_range]
    by_cases z:k < i
    ·rw [qH (by omega)] at e1 e2
     have pa:p ≠ acc:=fun e=>h.nl (e ▸ qE e1)
     rw [upd_ne pa]
     exact s5 _ _ (h.at_ k p q e1 e2)
    ·have kl:=(qB.mp e1).1
     rw [qF,il] at kl
     have ek:k=i:=by simp at kl; omega
     subst ek
     rw [qG (by omega),il,Nat.sub_self] at e1
     rw [qG (by omega),ml,Nat.sub_self] at e2
     cases e1
     cases e2
     rw [upd_ne ra]
     exact h5
 ·rintro acc ws H' hn ⟨ps,rfl,s,_,hp,h⟩
  exact hd acc ps H' hn hp s h
end
end L2
set_option Elab.async false
set_option linter.all false
set_option maxRecDepth 100000
set_option maxHeartbeats 1000000
namespace L2
open PySem PySem.Spec PyProof.Rows
section
variable {K:PySem.W.Frag}{σ:St}{H:Hp}{Q:VK}{cs:List Nat}{tt:TT}{te:TE}
end
end L2
set_option Elab.async false
set_option linter.all false
set_option maxRecDepth 100000
set_option maxHeartbeats 1000000
namespace L2
open PySem PySem.Spec PyProof.Rows
section
variable {X:Cx}
end
end L2
set_option Elab.async false
set_option linter.all false
set_option maxRecDepth 100000
set_option maxHeartbeats 1000000
namespace L2
open PySem PySem.Spec PyProof.Rows
def pm (some_:List Int)(h:Int):List Int:=some_.flatMap fun r=>[h+r,h - r]
end L2
set_option Elab.async false
set_option linter.all false
set_option maxRecDepth 100000
set_option maxHeartbeats 1000000
namespace L2
open PySem PySem.Spec PyProof.Rows
section
variable {K:PySem.W.Frag}{σ:St}{H:Hp}{Q:VK}{cs:List Nat}{te:TE}
end
end L2
set_option Elab.async false
set_option linter.all false
set_option maxRecDepth 100000
set_option maxHeartbeats 1000000
namespace L2
open PySem PySem.Spec PyProof.Rows
section
variable {prog:Program}{w:World}{A:Around}{E:Value -> Shared -> Prop}{s:Shared}{K:PySem.W.Frag}{x C dx:Addr}{ox:Obj}{name:Str}{v:Value}
end
section
variable {prog:Program}{w:World}{A:Around}{E:Value -> Shared -> Prop}{h:Heap}{g:Array GenState}{d:Drawn}{t:Nat}{os:OsState}
variable {nm q:Str}{C N:Addr}{bs bm bmB:List Value}{hdct:Bool}{sn:List Str}{sub:List Value}{ab:Bool}{col:Option Bool}{dd:Option Addr}{k0 k1 k2 k3 k5:Option Value}{B newId initId:String}
end
end L2
set_option Elab.async false
set_option linter.all false
set_option maxRecDepth 100000
set_option maxHeartbeats 1000000
namespace L2
open PySem PySem.Spec PyProof.Rows
section
variable {X:Cx}{pins:List (Addr × Obj)}{σ:St}{H:Hp}{s:Shared}{x C t:Addr}{f:Str}
end
end L2
set_option Elab.async false
set_option linter.all false
set_option maxRecDepth 100000
set_option maxHeartbeats 1000000
namespace L2
open PySem PySem.Spec PyProof.Rows
section
variable {M:Model}{A:Around}{E:Value -> Shared -> Prop}{env:Env}
variable {nm q:Str}{C N:Addr}{bs bm:List Value}{hdct:Bool}{sn:List Str}{sub:List Value}{ab:Bool}{col:Option Bool}{dd:Option Addr}{k0 k1 k2 k3 k5:Option Value}{newId:String}
end
section
variable {X:Cx}{C:Addr}{f:Str}
end
end L2
set_option Elab.async false
set_option linter.all false
set_option maxRecDepth 100000
set_option maxHeartbeats 1000000
namespace L2
open PySem PySem.Spec PyProof.Rows
section
variable {prog:Program}{w:World}{A:Around}{E:Value -> Shared -> Prop}{s:Shared}{K:PySem.W.Frag}{x D:Addr}{o:Obj}{od:Option Obj}
end
end L2
set_option Elab.async false
set_option linter.all false
set_option maxRecDepth 100000
set_option maxHeartbeats 1000000
namespace L2
open PySem PySem.Spec PyProof.Rows
section
variable {α:Type}{p:α -> Bool}{l:List α}{i:Nat}{x:α}
end
section
variable {K:PySem.W.Frag}{σ:St}{H:Hp}{Q:VK}{cs:List Nat}{te:TE}
end
section
variable {K:PySem.W.Frag}{σ:St}{H:Hp}{Q:VK}{cs:List Nat}{te:TE}
end
end L2
set_option Elab.async false
set_option linter.all false
set_option maxRecDepth 100000
set_option maxHeartbeats 1000000
namespace L2
open PySem PySem.Spec PyProof.Rows
end L2
set_option Elab.async false
set_option linter.all false
set_option maxRecDepth 100000
set_option maxHeartbeats 1000000
namespace L2
open PySem PySem.Spec PyProof.Rows PySem.W
section
variable {key:Nat -> Int}{n:Nat}{p q:Array Nat}
end
end L2
set_option Elab.async false
set_option linter.all false
set_option maxRecDepth 100000
set_option maxHeartbeats 1000000
namespace L2
open PySem PySem.Spec PyProof.Rows PySem.W
section
variable {prog:Program}{w:World}{A:Around}{E:Value -> Shared -> Prop}{s:Shared}{vs:List Value}{ks:List Int}
end
end L2
set_option Elab.async false
set_option linter.all false
set_option maxRecDepth 100000
set_option maxHeartbeats 1000000
namespace L2
open PySem PySem.Spec PyProof.Rows PySem.W
section
variable {K:PySem.W.Frag}{σ:St}{H:Hp}{Q:VK}{cs:List Nat}{te:TE}
end
end L2
set_option Elab.async false
set_option linter.all false
set_option maxRecDepth 100000
set_option maxHeartbeats 1000000
namespace L2
open PySem PySem.Spec PyProof.Rows
end L2
set_option Elab.async false
set_option linter.all false
set_option maxRecDepth 100000
set_option maxHeartbeats 1000000
namespace L2
open PySem PySem.Spec PyProof.Rows
section
variable {X:Cx}{pos:Pos}
end
end L2
set_option Elab.async false
set_option linter.all false
set_option maxRecDepth 100000
set_option maxHeartbeats 1000000
namespace L2
open PySem PySem.Spec PyProof.Rows
end L2
set_option Elab.async false
set_option linter.all false
set_option maxRecDepth 100000
set_option maxHeartbeats 1000000
namespace L2
open PySem PySem.Spec PyProof.Rows
def g0:Go:=⟨0,0,0⟩
end L2
set_option Elab.async false
set_option linter.all false
set_option maxRecDepth 100000
set_option maxHeartbeats 1000000
namespace L2
open PySem PySem.Spec PyProof.Rows
def spDArrK (K:PySem.W.Frag):Sp:=fun vs H Q _=>∃ (w dl gl:Addr) (ins:Nat) (us:List V) (ds:List Wd) (os:List V) (gs:List Go),vs=[.ref w] /\ WbK K H w dl gl ins us ds os gs /\ ds.length <= 400 /\
 ∀ r ws H',H r=none -> Same H H' -> H' r=some (.lst ws) -> HTs aTup H' ws (arrF ins 0 ds) -> Q (.ref r) H'
section
variable {K:PySem.W.Frag}{σ:St}{H:Hp}{Q:VK}{cs:List Nat}{te:TE}{tt:TT}
end
end L2
set_option Elab.async false
set_option linter.all false
set_option maxRecDepth 100000
set_option maxHeartbeats 1000000
namespace L2
open PySem PySem.Spec PyProof.Rows
section
variable {ins m:Nat}{s1 s2:List Wd}{t1 t2:List Go}
end
end L2
set_option Elab.async false
set_option linter.all false
set_option maxRecDepth 100000
set_option maxHeartbeats 1000000
namespace L2
open PySem PySem.Spec PyProof.Rows
section
variable {K:PySem.W.Frag}{σ:St}{H:Hp}{Q:VK}{cs:List Nat}{te:TE}
end
section
variable {K:PySem.W.Frag}{σ:St}{H:Hp}{Q:VK}{cs:List Nat}{te:TE}
end
end L2
set_option Elab.async false
set_option linter.all false
set_option maxRecDepth 100000
set_option maxHeartbeats 1000000
namespace L2
open PySem PySem.Spec PyProof.Rows
end L2
set_option Elab.async false
set_option linter.all false
set_option maxRecDepth 100000
set_option maxHeartbeats 1000000
namespace L2
open PySem PySem.Spec PyProof.Rows
def cnt (bs:List Bool):Nat:=bs.count true
end L2
set_option Elab.async false
set_option linter.all false
set_option maxRecDepth 100000
set_option maxHeartbeats 1000000
namespace L2
open PySem PySem.Spec PyProof.Rows
section
variable {ins:Nat}{ds:List Wd}{gs:List Go}{μ:List Int}{B:Int}
end
def st0 (n m:Nat):List Go:=qQ n g0 ++ (List.range m).map fun p=>⟨p,0,1⟩
section
variable {ins:Nat}{ds:List Wd}{gs:List Go}{μ:List Int}{B:Int}
def bs0 (n m:Nat):List Bool:=qQ n false ++ qQ m true
end
end L2
set_option Elab.async false
set_option linter.all false
set_option maxRecDepth 100000
set_option maxHeartbeats 1000000
namespace L2
open PySem PySem.Spec PyProof.Rows
def spCntK (K:PySem.W.Frag):Sp:=fun vs H Q _=>∃ (w dl gl:Addr) (ins:Nat) (us:List V) (ds:List Wd) (os:List V) (gs:List Go),vs=[.ref w] /\ WbK K H w dl gl ins us ds os gs /\ Q (.int ((ins:Int)+(ds.length:Nat))) H
section
variable {α:Type}{K:PySem.W.Frag}{f:α -> List V}{H H':Hp}{vs us:List V}{xs:List α}{l:Addr}
end
section
variable {K:PySem.W.Frag}{σ:St}{H:Hp}{Q:VK}{cs:List Nat}{te:TE}
end
end L2
set_option Elab.async false
set_option linter.all false
set_option maxRecDepth 100000
set_option maxHeartbeats 1000000
namespace L2
open PySem PySem.Spec PyProof.Rows
section
variable {H:Hp}{p dl gl a:Addr}{ins k n j:Nat}{us os:List V}{ds:List Wd}{gs:List Go}{H' H'':Hp}{c:Int}
end
end L2
set_option Elab.async false
set_option linter.all false
set_option maxRecDepth 100000
set_option maxHeartbeats 1000000
namespace L2
open PySem PySem.Spec PyProof.Rows
section
variable {K:PySem.W.Frag}{σ:St}{H:Hp}{Q:VK}{cs:List Nat}{tt:TT}
end
end L2
set_option Elab.async false
set_option linter.all false
set_option maxRecDepth 100000
set_option maxHeartbeats 1000000
namespace L2
open PySem PySem.Spec PyProof.Rows
section
variable {K:PySem.W.Frag}{σ:St}{H:Hp}{Q:VK}{cs:List Nat}{te:TE}
end
end L2
set_option Elab.async false
set_option linter.all false
set_option maxRecDepth 100000
set_option maxHeartbeats 1000000
namespace L2
open PySem PySem.Spec PyProof.Rows
end L2
set_option Elab.async false
set_option linter.all false
set_option maxRecDepth 100000
set_option maxHeartbeats 1000000
namespace L2
open PySem PySem.Spec PyProof.Rows
end L2
set_option Elab.async false
set_option linter.all false
set_option maxRecDepth 100000
set_option maxHeartbeats 1000000
namespace L2
open PySem PySem.Spec PyProof.Rows
section
variable {prog:Program}{w:World}{A:Around}{E:Value -> Shared -> Prop}{s:Shared}
end
end L2
set_option Elab.async false
set_option linter.all false
set_option maxRecDepth 100000
set_option maxHeartbeats 1000000
namespace L2
open PySem PySem.Spec PyProof.Rows
end L2
set_option Elab.async false
set_option linter.all false
set_option maxRecDepth 100000
set_option maxHeartbeats 1000000
namespace L2
open PySem PySem.Spec PyProof.Rows
end L2
set_option Elab.async false
set_option linter.all false
set_option maxRecDepth 100000
set_option maxHeartbeats 1000000
namespace L2
open PySem PySem.Spec PyProof.Rows
section
variable {K:PySem.W.Frag}{H:Hp}
end
end L2
set_option Elab.async false
set_option linter.all false
set_option maxRecDepth 100000
set_option maxHeartbeats 1000000
namespace L2
open PySem PySem.Spec PyProof.Rows
end L2
set_option Elab.async false
set_option linter.all false
set_option maxRecDepth 100000
set_option maxHeartbeats 1000000
namespace L2
open PySem PySem.Spec PyProof.Rows
end L2
set_option Elab.async false
set_option linter.all false
set_option maxRecDepth 100000
set_option maxHeartbeats 1000000
namespace L2
open PySem PySem.Spec PyProof.Rows
end L2
set_option Elab.async false
set_option linter.all false
set_option maxRecDepth 100000
set_option maxHeartbeats 1000000
namespace L2
open PySem PySem.Spec PyProof.Rows
@[elab_as_elim] theorem abs_ {C:Hp -> Prop} {H:Hp} {p:Addr} {o:HO} (np:H p=none) (k:∀ H',Same H H' -> H' p=some o -> C H'):C (upd H p o):=k _ (same_new np _) upd_same
def NoT (H:Hp)(v:V):Prop:=flatV v=true \/ ∃ p,v = .ref p /\ ((∃ xs,H p=some (.lst xs)) \/ ∃ kvs,H p=some (.dK kvs))
section
variable {K:PySem.W.Frag}{H:Hp}
end
end L2
set_option Elab.async false
set_option linter.all false
set_option maxRecDepth 100000
set_option maxHeartbeats 1000000
namespace L2
open PySem PySem.Spec PyProof.Rows
section
variable {X:Cx}{o i:Expr}{pos:Pos}{td ty:TE}
end
section
variable {σ:St}{H:Hp}{Q:VK}{a:Addr}
end
section
variable {α:Type}
def lk (rows:List (Int × α))(c:Int):Option α:=(rows.find? fun r=>decide (r.1=c)).map (·.2)
variable {R:V -> α -> Prop}{kvs:List (Key × V)}{rows:List (Int × α)}
end
end L2
set_option Elab.async false
set_option linter.all false
set_option maxRecDepth 100000
set_option maxHeartbeats 1000000
namespace L2
open PySem PySem.Spec PyProof.Rows
section
variable {σ:St}{H:Hp}{D:Ends}{g:TG}{tb:TS}{d:Addr}{o:Obj}{kvs:List (Key × V)}
end
section
variable {L:Nat}{n:Int}
end
end L2
set_option Elab.async false
set_option linter.all false
set_option maxRecDepth 100000
set_option maxHeartbeats 1000000
namespace L2
open PySem PySem.Spec PyProof.Rows
section
variable {X:Cx}
end
end L2
set_option Elab.async false
set_option linter.all false
set_option maxRecDepth 100000
set_option maxHeartbeats 1000000
namespace L2
open PySem PySem.Spec PyProof.Rows PySem.W
section
variable {prog:Program}{w:World}{A:Around}{E:Value -> Shared -> Prop}{s:Shared}{vs:List Value}{xss:List (List Int)}{a:Addr}
end
end L2
set_option Elab.async false
set_option linter.all false
set_option maxRecDepth 100000
set_option maxHeartbeats 1000000
namespace L2
open PySem PySem.Spec PyProof.Rows
end L2
set_option Elab.async false
set_option linter.all false
set_option maxRecDepth 100000
set_option maxHeartbeats 1000000
namespace L2
open PySem PySem.Spec PyProof.Rows PySem.W
section
variable {prog:Program}{w:World}{A:Around}{E:Value -> Shared -> Prop}{κ:SortKind}{it:Array Keyed}{vs:List Value}{s:Shared}
variable {xss:List (List Int)}{a:Addr}
end
end L2
set_option Elab.async false
set_option linter.all false
set_option maxRecDepth 100000
set_option maxHeartbeats 1000000
namespace L2
open PySem PySem.Spec PyProof.Rows
end L2
set_option Elab.async false
set_option linter.all false
set_option maxRecDepth 100000
set_option maxHeartbeats 1000000
namespace L2
open PySem PySem.Spec PyProof.Rows
section
variable {prog:Program}{w:World}{A:Around}{E:Value -> Shared -> Prop}
end
end L2
set_option Elab.async false
set_option linter.all false
set_option maxRecDepth 100000
set_option maxHeartbeats 1000000
namespace L2
open PySem PySem.Spec PyProof.Rows
inductive Tg where
 | f (x:V)
 | l (xs:List Tg)
 | t (xs:List Tg)
 | d (xs:List Tg)
section
variable {X:Cx}{pins:List (Addr × Obj)}{σ:St}{H:Hp}{s:Shared}
end
abbrev FSt:=Int × Int × Int
def mx1 (d st:Int):Int:=(d+40692 * st * st+69621 * st) % 2147483647
def mx2 (m st:Int):Int:=(m * m+39373 * m+st) % 2147483579
def mx3 (m:Int):Int:=(m * m+16807 * m) % 2147483549
def tkS (m:Int)(s:FSt):Int × FSt:=if s.1 > 0 then (s.1 % m,(s.1 / m,s.2.1,s.2.2)) else (mx3 (mx2 (mx1 s.2.1 (s.2.2+1)) (s.2.2+1)) / 64 % m,(s.1,s.2.1,s.2.2+1))
def tk:Nat -> Int -> FSt -> Int × FSt
 | 0,_,s=>(0,s)
 | n+1,m,s=>if m > 10000000 then (((tk n (m / 1000000+1) s).1 * 1000000+(tk n 1000000 (tk n (m / 1000000+1) s).2).1) % m,(tk n 1000000 (tk n (m / 1000000+1) s).2).2) else tkS m s
def pk (xs:List Int)(i:Int):Int:=xs.getD i.toNat 0
def pkV (xs:List V)(i:Int):V:=xs.getD i.toNat .non
def txs:List V:=[.str (Str.ofString ""),.str (Str.ofString "0"),.str (Str.ofString "7"),.str (Str.ofString "-1"),.str (Str.ofString "True"),.str (Str.ofString "None")]
def flt (way:Int)(s:FSt):Tg × FSt :=
 if way < 3 then (.f (.int (tk 10 (pk [3,1000,10 ^ 60] way) s).1),(tk 10 (pk [3,1000,10 ^ 60] way) s).2)
 else if way < 5 then (.f (.int (-(tk 10 (pk [9,10 ^ 60] (way - 3)) s).1)),(tk 10 (pk [9,10 ^ 60] (way - 3)) s).2)
 else if way=5 then (.f (pkV [.bl true,.bl false,.non] (tk 10 3 s).1),(tk 10 3 s).2)
 else (.f (pkV txs (tk 10 6 s).1),(tk 10 6 s).2)
section
variable {σ:St}{H:Hp}{Q:VK}{cs:List Nat}{te:TE}
end
section
variable {σ:St}{H:Hp}{Q:VK}{cs:List Nat}{te:TE}
end
end L2
set_option Elab.async false
set_option linter.all false
set_option maxRecDepth 100000
set_option maxHeartbeats 1000000
namespace L2
open PySem PySem.Spec PyProof.Rows PySem.W
end L2
set_option Elab.async false
set_option linter.all false
set_option maxRecDepth 100000
set_option maxHeartbeats 1000000
namespace L2
open PySem PySem.Spec PyProof.Rows PySem.W
section
variable {σ:St}{H:Hp}{Q:VK}{cs:List Nat}{te:TE}{K:PySem.W.Frag}
end
end L2
set_option Elab.async false
set_option linter.all false
set_option maxRecDepth 100000
set_option maxHeartbeats 1000000
namespace L2
open PySem PySem.Spec PyProof.Rows PySem.W
end L2
set_option Elab.async false
set_option linter.all false
set_option maxRecDepth 100000
set_option maxHeartbeats 1000000
namespace L2
open PySem PySem.Spec PyProof.Rows PySem.W
section
variable {prog:Program}{w:World}{A:Around}{E:Value -> Shared -> Prop}{s:Shared}
end
section
variable {prog:Program}{w:World}{d:Addr}{es:Array DictEntry}{ep:Nat}
end
end L2
set_option Elab.async false
set_option linter.all false
set_option maxRecDepth 100000
set_option maxHeartbeats 1000000
namespace L2
open PySem PySem.Spec PyProof.Rows PySem.W
section
variable {prog:Program}{w:World}{A:Around}{E:Value -> Shared -> Prop}{s:Shared}
end
end L2
set_option Elab.async false
set_option linter.all false
set_option maxRecDepth 100000
set_option maxHeartbeats 1000000
namespace L2
open PySem PySem.Spec PyProof.Rows PySem.W
section
variable {σ:St}{H:Hp}{Q:VK}{cs:List Nat}{te:TE}{K:PySem.W.Frag}
end
end L2
set_option Elab.async false
set_option linter.all false
set_option maxRecDepth 100000
set_option maxHeartbeats 1000000
namespace L2
open PySem PySem.Spec PyProof.Rows
section
variable {X:Cx}{e:Expr}{es:List Expr}{te:TE}{tj:Str -> TE}{pos:Pos}
def figI (i:Int):Str:=Str.ofString (toString i)
end
section
variable {X:Cx}
end
section
variable {X:Cx}
end
end L2
set_option Elab.async false
set_option linter.all false
set_option maxRecDepth 100000
set_option maxHeartbeats 1000000
namespace L2
open PySem PySem.Spec PyProof.Rows
section
variable {K:PySem.W.Frag}{σ:St}{H:Hp}{Q:VK}{cs:List Nat}{te:TE}
end
def fig (n:Nat):Str:=figI n
section
variable {K:PySem.W.Frag}{H:Hp}{Q:VK}
end
@[elab_as_elim] theorem absU {C:Hp -> Prop} {H H2:Hp} {p:Addr} {o:HO} (np:H p=none) (s:Same H H2) (k:∀ H',Same H H' -> H' p=some o -> C H'):C (upd H2 p o):=k _ (same_upd np s) upd_same
def stS (n:Nat)(l:List Str):Str:=Builtin.Str.glued "\n" (("in " ++ fig n) :: l)
end L2
set_option Elab.async false
set_option linter.all false
set_option maxRecDepth 100000
set_option maxHeartbeats 1000000
namespace L2
open PySem PySem.Spec PyProof.Rows
end L2
set_option Elab.async false
set_option linter.all false
set_option maxRecDepth 100000
set_option maxHeartbeats 1000000
namespace L2
open PySem PySem.Spec PyProof.Rows PySem.W
section
variable {X:Cx}{o i e value:Expr}{pos pos' tpos:Pos}{td ty tv:TE}
end
section
variable {σ:St}{H:Hp}{Q:VK}{D:Ends}{a b:Addr}{v:V}{R:Hp -> Prop}
end
end L2
set_option Elab.async false
set_option linter.all false
set_option maxRecDepth 100000
set_option maxHeartbeats 1000000
namespace L2
open PySem PySem.Spec PyProof.Rows PySem.W
def rEqE (K:PySem.W.Frag):R2:=fun x y H Q=>∃ p q xs,x = .ref p /\ y = .ref q /\ SqL K H p xs /\ SqL K H q [] /\ Q (.bl (decide (xs.length=0))) H
theorem op_eqE {X:Cx}{k:Nat}(hr:Room k X.A):OpR X (compareOp .Eq) (rEqE X.K):=by
 intro pins s σ H x y v u Q I rx ry h
 obtain ⟨p,q,xs,rfl,rfl,hp,hq,qq⟩:=h
 cases rx
 cases ry
 have hu:X.A.units < cLine:=by have:=hr.units; omega
 cases xs with
 | nil =>
  have h1:=is_lst (xs:=[]) hp rfl
  have h2:=is_lst (xs:=[]) hq rfl
  have:=(rcAt_D 50 _ _ (A:=X.A) (by rw [dep_l]; decide) (by have:=hr.units; omega) I h1 h2 rfl rfl).2 p rfl
  exact this X.prog X.w X.xe _ ⟨.bl _,H,I,rfl,qq⟩
 | cons x r =>
  obtain ⟨its,rv,pl,_⟩:=I.list hp
  obtain ⟨its',rv',pl',_⟩:=I.list hq
  have e1:its.toArray.size=r.length+1:=by rw [qM,← rv.length]; rfl
  have e2:its'.toArray.size=0:=by rw [qM,← rv'.length]; rfl
  have:=SeqAt.RcAt.lists_lengths (A:=X.A) pl.isList pl'.isList (by rw [bne_iff_ne]; omega) hu
  exact this X.prog X.w X.xe _ ⟨.bl _,H,I,rfl,qq⟩
theorem w_eqE {K:PySem.W.Frag}{p q:Addr}{H:Hp}{Q:VK}:rEqE K (.ref p) (.ref q) H Q = ∃ xs,SqL K H p xs /\ SqL K H q [] /\ Q (.bl (decide (xs.length=0))) H :=
 propext ⟨fun ⟨p',q',xs,e1,e2,h⟩=>by cases e1; cases e2; exact ⟨xs,h⟩,fun ⟨xs,h⟩=>⟨p,q,xs,rfl,rfl,h⟩⟩
end L2
set_option Elab.async false
set_option linter.all false
set_option maxRecDepth 100000
set_option maxHeartbeats 1000000
namespace L2
open PySem PySem.Spec PyProof.Rows PySem.W
end L2
set_option Elab.async false
set_option linter.all false
set_option maxRecDepth 100000
set_option maxHeartbeats 1000000
namespace L2
open PySem PySem.Spec PyProof.Rows PySem.W
end L2
set_option Elab.async false
set_option linter.all false
set_option maxRecDepth 100000
set_option maxHeartbeats 1000000
namespace L2
open PySem PySem.Spec PyProof.Rows PySem.W
end L2
set_option Elab.async false
set_option linter.all false
set_option maxRecDepth 100000
set_option maxHeartbeats 1000000
namespace L2
open PySem PySem.Spec PyProof.Rows PySem.W
section
variable {K:PySem.W.Frag}{σ:St}{H:Hp}{Q:VK}{cs:List Nat}{te:TE}
end
end L2
set_option Elab.async false
set_option linter.all false
set_option maxRecDepth 100000
set_option maxHeartbeats 1000000
namespace L2
open PySem PySem.Spec PyProof.Rows PySem.W
def rNeE (K:PySem.W.Frag):R2:=fun x y H Q=>∃ p q xs,x = .ref p /\ y = .ref q /\ SqL K H p xs /\ SqL K H q [] /\ Q (.bl (decide (xs.length ≠ 0))) H
theorem op_neE {X:Cx}{k:Nat}(hr:Room k X.A):OpR X (compareOp .NotEq) (rNeE X.K):=by
 intro pins s σ H x y v u Q I rx ry h
 obtain ⟨p,q,xs,rfl,rfl,hp,hq,qq⟩:=h
 cases rx
 cases ry
 have hu:X.A.units < cLine:=by have:=hr.units; omega
 cases xs with
 | nil =>
  have h1:=is_lst (xs:=[]) hp rfl
  have h2:=is_lst (xs:=[]) hq rfl
  have:=neAt_D 50 _ _ (A:=X.A) (by rw [dep_l]; decide) (by have:=hr.units; omega) I h1 h2 rfl
  exact this X.prog X.w X.xe _ ⟨.bl _,H,I,rfl,qq⟩
 | cons x r =>
  obtain ⟨its,rv,pl,_⟩:=I.list hp
  obtain ⟨its',rv',pl',_⟩:=I.list hq
  have e1:its.toArray.size=r.length+1:=by rw [qM,← rv.length]; rfl
  have e2:its'.toArray.size=0:=by rw [qM,← rv'.length]; rfl
  have:=SeqAt.RcNeAt.lists_lengths (A:=X.A) pl.isList pl'.isList (by rw [bne_iff_ne]; omega) hu
  exact this X.prog X.w X.xe _ ⟨.bl _,H,I,rfl,qq⟩
theorem w_neE {K:PySem.W.Frag}{p q:Addr}{H:Hp}{Q:VK}:rNeE K (.ref p) (.ref q) H Q = ∃ xs,SqL K H p xs /\ SqL K H q [] /\ Q (.bl (decide (xs.length ≠ 0))) H :=
 propext ⟨fun ⟨p',q',xs,e1,e2,h⟩=>by cases e1; cases e2; exact ⟨xs,h⟩,fun ⟨xs,h⟩=>⟨p,q,xs,rfl,rfl,h⟩⟩
section
variable {K:PySem.W.Frag}{σ:St}{H:Hp}{Q:VK}{cs:List Nat}{tt:TT}
end
end L2
set_option Elab.async false
set_option linter.all false
set_option maxRecDepth 100000
set_option maxHeartbeats 1000000
namespace L2
open PySem PySem.Spec PyProof.Rows PySem.W
end L2
set_option Elab.async false
set_option linter.all false
set_option maxRecDepth 100000
set_option maxHeartbeats 1000000
namespace L2
open PySem PySem.Spec PyProof.Rows PySem.W
section
variable {K:PySem.W.Frag}{σ:St}{H:Hp}{Q:VK}{cs:List Nat}{te:TE}
end
end L2
set_option Elab.async false
set_option linter.all false
set_option maxRecDepth 100000
set_option maxHeartbeats 1000000
namespace L2
open PySem PySem.Spec PyProof.Rows PySem.W
section
variable {K:PySem.W.Frag}{σ:St}{H:Hp}{Q:VK}{cs:List Nat}{te:TE}{tt:TT}
end
end L2
set_option Elab.async false
set_option linter.all false
set_option maxRecDepth 100000
set_option maxHeartbeats 1000000
namespace L2
open PySem PySem.Spec PyProof.Rows PySem.W
end L2
set_option Elab.async false
set_option linter.all false
set_option maxRecDepth 100000
set_option maxHeartbeats 1000000
namespace L2
open PySem PySem.Spec PyProof.Rows PySem.W
end L2
set_option Elab.async false
set_option linter.all false
set_option maxRecDepth 100000
set_option maxHeartbeats 1000000
namespace L2
open PySem PySem.Spec PyProof.Rows
section
variable {X:Cx}{pins:List (Addr × Obj)}{σ:St}{H:Hp}{s:Shared}
end
end L2
set_option Elab.async false
set_option linter.all false
set_option maxRecDepth 100000
set_option maxHeartbeats 1000000
namespace L2
open PySem PySem.Spec PyProof.Rows PySem.W
section
variable {n:Nat}{ds:List Wd}{gs:List Go}{bs:List Bool}
end
section
variable {n:Nat}{ds:List Wd}{gs:List Go}{bs:List Bool}
end
section
variable {n i:Nat}{R:List (List Int)}{kvs:List (List Key × V)}{es:List Wd}
end
end L2
set_option Elab.async false
set_option linter.all false
set_option maxRecDepth 100000
set_option maxHeartbeats 1000000
namespace L2
open PySem PySem.Spec PyProof.Rows PySem.W
section
variable {K:PySem.W.Frag}{σ:St}{H:Hp}{Q:VK}{cs:List Nat}{te:TE}
end
end L2
set_option Elab.async false
set_option linter.all false
set_option maxRecDepth 100000
set_option maxHeartbeats 1000000
namespace L2
open PySem PySem.Spec PyProof.Rows PySem.W
section
variable {n i:Nat}{R:List (List Int)}{kvs:List (List Key × V)}{es:List Wd}
end
end L2
set_option Elab.async false
set_option linter.all false
set_option maxRecDepth 100000
set_option maxHeartbeats 1000000
namespace L2
open PySem PySem.Spec PyProof.Rows PySem.W
end L2
set_option Elab.async false
set_option linter.all false
set_option maxRecDepth 100000
set_option maxHeartbeats 1000000
namespace L2
open PySem PySem.Spec PyProof.Rows PySem.W
section
variable {n i:Nat}{ds:List Wd}{gs:List Go}{ms:List Nat}
end
end L2
set_option Elab.async false
set_option linter.all false
set_option maxRecDepth 100000
set_option maxHeartbeats 1000000
namespace L2
open PySem PySem.Spec PyProof.Rows PySem.W
end L2
set_option Elab.async false
set_option linter.all false
set_option maxRecDepth 100000
set_option maxHeartbeats 1000000
namespace L2
open PySem PySem.Spec PyProof.Rows PySem.W
section
variable {K:PySem.W.Frag}{σ:St}{H:Hp}{Q:VK}{cs:List Nat}{te:TE}
end
end L2
set_option Elab.async false
set_option linter.all false
set_option maxRecDepth 100000
set_option maxHeartbeats 1000000
namespace L2
open PySem PySem.Spec PyProof.Rows
section
variable {ins m:Nat}{s1 s2:List Wd}{t1 t2:List Go}
end
section
variable {ins:Nat}{ds:List Wd}{gs:List Go}{μ:List Int}{B:Int}
end
end L2
set_option Elab.async false
set_option linter.all false
set_option maxRecDepth 100000
set_option maxHeartbeats 1000000
namespace L2
open PySem PySem.Spec PyProof.Rows
def advM (m:Nat)(p:SetTable.Probe):SetTable.Probe :=
 if p.more > 0 then { p with j:=p.j+1,more:=p.more - 1 } else
 { p with j:=(p.i * 5+1+p.perturb / 32) % (m+1),more:=SetTable.runEnd m ((p.i * 5+1+p.perturb / 32) % (m+1)) - (p.i * 5+1+p.perturb / 32) % (m+1),i:=(p.i * 5+1+p.perturb / 32) % (m+1),perturb:=p.perturb / 32 }
def pn (m:Nat):Nat -> SetTable.Probe -> SetTable.Probe
 | 0,p=>p
 | n+1,p=>pn m n (advM m p)
def stP (m:Nat)(x:Int):SetTable.Probe:={ j:=SetTable.bits x % (m+1),more:=SetTable.runEnd m (SetTable.bits x % (m+1)) - SetTable.bits x % (m+1),i:=SetTable.bits x % (m+1),perturb:=SetTable.bits x,dummy:=none }
def sl (m:Nat)(x:Int)(n:Nat):Nat:=(pn m n (stP m x)).j
section
variable {led:Bool}{t:SetTable}{es:Array (Int × Value)}
end
end L2
set_option Elab.async false
set_option linter.all false
set_option maxRecDepth 100000
set_option maxHeartbeats 1000000
namespace L2
open PySem PySem.Spec PyProof.Rows
section
variable {prog:Program}{w:World}{ok:Addr -> Prop}{A:Around}{E:Value -> Shared -> Prop}{s:Shared}
end
section
variable {prog:Program}{w:World}{ok:Addr -> Prop}{A:Around}{R:Result -> Shared -> Prop}{I:Addr}{fp wr:List Addr}{G:Array GenState -> Array GenState -> Prop}{P:Nat -> Value -> Prop}{St:Nat -> Shared -> Prop}
end
end L2
set_option Elab.async false
set_option linter.all false
set_option maxRecDepth 100000
set_option maxHeartbeats 1000000
namespace L2
open PySem PySem.Spec PyProof.Rows
section
variable {prog:Program}{w:World}{A:Around}{E:Value -> Shared -> Prop}{s:Shared}
end
end L2
set_option Elab.async false
set_option linter.all false
set_option maxRecDepth 100000
set_option maxHeartbeats 1000000
namespace L2
open PySem PySem.Spec PyProof.Rows
end L2
set_option Elab.async false
set_option linter.all false
set_option maxRecDepth 100000
set_option maxHeartbeats 1000000
namespace L2
open PySem PySem.Spec PyProof.Rows
section
variable {K:PySem.W.Frag}{σ:St}{H:Hp}{Q:VK}{cs:List Nat}{te:TE}
end
end L2
set_option Elab.async false
set_option linter.all false
set_option maxRecDepth 100000
set_option maxHeartbeats 1000000
namespace L2
open PySem PySem.Spec PyProof.Rows
end L2
set_option Elab.async false
set_option linter.all false
set_option maxRecDepth 100000
set_option maxHeartbeats 1000000
namespace L2
open PySem PySem.Spec PyProof.Rows
section
variable {ins:Nat}{ds:List Wd}{gs:List Go}{bs:List Bool}
end
section
variable {ins:Nat}{ds:List Wd}{gs:List Go}{bs:List Bool}
end
section
variable {ins:Nat}{ds:List Wd}{gs:List Go}{bs:List Bool}
end
section
variable {ins:Nat}{ds:List Wd}{gs:List Go}{bs:List Bool}
end
section
variable {n:Nat}{ds:List Wd}{gs:List Go}{bs:List Bool}
end
section
variable {n:Nat}{ds:List Wd}{gs:List Go}{bs:List Bool}
end
section
variable {n:Nat}{ds:List Wd}{gs:List Go}{bs:List Bool}
end
section
variable {n:Nat}{ds:List Wd}{gs:List Go}{bs:List Bool}
end
section
variable {n:Nat}{ds:List Wd}{gs:List Go}{bs:List Bool}
end
section
variable {n i:Nat}{R:List (List Int)}{kvs:List (List Key × V)}{es:List Wd}
end
section
variable {n i:Nat}{R:List (List Int)}{kvs:List (List Key × V)}{es:List Wd}
end
end L2
set_option Elab.async false
set_option linter.all false
set_option maxRecDepth 100000
set_option maxHeartbeats 1000000
namespace L2
open PySem PySem.Spec PyProof.Rows
def nm (ds:List Wd):List Int:=(rowsW 1 ds).map fun r=>r.headD 0
end L2
set_option Elab.async false
set_option linter.all false
set_option maxRecDepth 100000
set_option maxHeartbeats 1000000
namespace L2
open PySem PySem.Spec PyProof.Rows
end L2
set_option Elab.async false
set_option linter.all false
set_option maxRecDepth 100000
set_option maxHeartbeats 1000000
namespace L2
open PySem PySem.Spec PyProof.Rows
section
variable {K:PySem.W.Frag}{σ:St}{H:Hp}{Q:VK}{cs:List Nat}{te:TE}
end
end L2
set_option Elab.async false
set_option linter.all false
set_option maxRecDepth 100000
set_option maxHeartbeats 1000000
namespace L2
open PySem PySem.Spec PyProof.Rows
section
variable {K:PySem.W.Frag}{σ:St}{H:Hp}{Q:VK}{cs:List Nat}{tt:TT}
end
end L2
set_option Elab.async false
set_option linter.all false
set_option maxRecDepth 100000
set_option maxHeartbeats 1000000
namespace L2
open PySem PySem.Spec PyProof.Rows
section
variable {X:Cx}
end
section
variable {X:Cx}{o e:Expr}{apos cpos:Pos}{td ty:TE}
end
section
variable {K:PySem.W.Frag}{σ:St}{H:Hp}{Q:VK}{cs:List Nat}{nt:Nat}{g:TG}{tt:TT}{te:TE}
end
end L2
set_option Elab.async false
set_option linter.all false
set_option maxRecDepth 100000
set_option maxHeartbeats 1000000
namespace L2
open PySem PySem.Spec PyProof.Rows PySem.NumText
def tl (x:Str):List Nat:=x.cps.toList
end L2
set_option Elab.async false
set_option linter.all false
set_option maxRecDepth 100000
set_option maxHeartbeats 1000000
namespace L2
open PySem PySem.Spec PyProof.Rows PySem.NumText
end L2
set_option Elab.async false
set_option linter.all false
set_option maxRecDepth 100000
set_option maxHeartbeats 1000000
namespace L2
open PySem PySem.Spec PyProof.Rows PySem.NumText
def oD (o:Option (List V)):List V:=o.getD []
end L2
set_option Elab.async false
set_option linter.all false
set_option maxRecDepth 100000
set_option maxHeartbeats 1000000
namespace L2
open PySem PySem.Spec PyProof.Rows PySem.NumText
end L2
set_option Elab.async false
set_option linter.all false
set_option maxRecDepth 100000
set_option maxHeartbeats 1000000
namespace L2
open PySem PySem.Spec PyProof.Rows PySem.NumText
end L2
set_option Elab.async false
set_option linter.all false
set_option maxRecDepth 100000
set_option maxHeartbeats 1000000
namespace L2
open PySem PySem.Spec PyProof.Rows PySem.NumText
section
open PySem.W HT
variable {prog:Program}{w:World}{A:Around}{E:Value -> Shared -> Prop}{s:Shared}
end
section
variable {K:PySem.W.Frag}{H H':Hp}{l:Addr}{o:HO}
end
end L2
set_option Elab.async false
set_option linter.all false
set_option maxRecDepth 100000
set_option maxHeartbeats 1000000
namespace L2
open PySem PySem.Spec PyProof.Rows PySem.NumText
def LOk (x:Str):Prop:=x.length <= 100 /\ 10 ∉ tl x
instance (x:Str):Decidable (LOk x):=by unfold LOk; infer_instance
end L2
set_option Elab.async false
set_option linter.all false
set_option maxRecDepth 100000
set_option maxHeartbeats 1000000
namespace L2
open PySem PySem.Spec PyProof.Rows PySem.NumText
end L2
set_option Elab.async false
set_option linter.all false
set_option maxRecDepth 100000
set_option maxHeartbeats 1000000
namespace L2
open PySem PySem.Spec PyProof.Rows PySem.NumText
section
variable {σ:St}{H:Hp}{Q:VK}{cs:List Nat}{te:TE}
end
end L2
set_option Elab.async false
set_option linter.all false
set_option maxRecDepth 100000
set_option maxHeartbeats 1000000
namespace L2
open PySem PySem.Spec PyProof.Rows PySem.NumText
section
variable {K:PySem.W.Frag}{H:Hp}
end
end L2
set_option Elab.async false
set_option linter.all false
set_option maxRecDepth 100000
set_option maxHeartbeats 1000000
namespace L2
open PySem PySem.Spec PyProof.Rows PySem.NumText
end L2
set_option Elab.async false
set_option linter.all false
set_option maxRecDepth 100000
set_option maxHeartbeats 1000000
namespace L2
open PySem PySem.Spec PyProof.Rows PySem.NumText
end L2
set_option Elab.async false
set_option linter.all false
set_option maxRecDepth 100000
set_option maxHeartbeats 1000000
namespace L2
open PySem PySem.Spec PyProof.Rows PySem.NumText
section
variable {X:Cx}
end
section
variable {H:Hp}{Q:VK}
end
end L2
set_option Elab.async false
set_option linter.all false
set_option maxRecDepth 100000
set_option maxHeartbeats 1000000
namespace L2
open PySem PySem.Spec PyProof.Rows PySem.NumText
end L2
set_option Elab.async false
set_option linter.all false
set_option maxRecDepth 100000
set_option maxHeartbeats 1000000
namespace L2
open PySem PySem.Spec PyProof.Rows PySem.NumText
end L2
set_option Elab.async false
set_option linter.all false
set_option maxRecDepth 100000
set_option maxHeartbeats 1000000
namespace L2
open PySem PySem.Spec PyProof.Rows PySem.NumText
end L2
set_option Elab.async false
set_option linter.all false
set_option maxRecDepth 100000
set_option maxHeartbeats 1000000
namespace L2
open PySem PySem.Spec PyProof.Rows PySem.NumText
end L2
set_option Elab.async false
set_option linter.all false
set_option maxRecDepth 100000
set_option maxHeartbeats 1000000
namespace L2
open PySem PySem.Spec PyProof.Rows PySem.NumText
section
variable {σ:St}{H:Hp}{D:Ends}{g:TG}{tb:TS}{x:Str}
end
end L2
set_option Elab.async false
set_option linter.all false
set_option maxRecDepth 100000
set_option maxHeartbeats 1000000
namespace L2
open PySem PySem.Spec PyProof.Rows
end L2
set_option Elab.async false
set_option linter.all false
set_option maxRecDepth 100000
set_option maxHeartbeats 1000000
namespace L2
open PySem PySem.Spec PyProof.Rows
section
variable {K:PySem.W.Frag}{σ:St}{H:Hp}{Q:VK}{cs:List Nat}{te:TE}
end
end L2
set_option Elab.async false
set_option linter.all false
set_option maxRecDepth 100000
set_option maxHeartbeats 1000000
namespace L2
open PySem PySem.Spec PyProof.Rows
end L2
set_option Elab.async false
set_option linter.all false
set_option maxRecDepth 100000
set_option maxHeartbeats 1000000
namespace L2
open PySem PySem.Spec PyProof.Rows
end L2
set_option Elab.async false
set_option linter.all false
set_option maxRecDepth 100000
set_option maxHeartbeats 1000000
namespace L2
open PySem PySem.Spec PyProof.Rows
end L2
set_option Elab.async false
set_option linter.all false
set_option maxRecDepth 100000
set_option maxHeartbeats 1000000
namespace L2
open PySem PySem.Spec PyProof.Rows
end L2
set_option Elab.async false
set_option linter.all false
set_option maxRecDepth 100000
set_option maxHeartbeats 1000000
namespace L2
open PySem PySem.Spec PyProof.Rows
end L2
set_option Elab.async false
set_option linter.all false
set_option maxRecDepth 100000
set_option maxHeartbeats 1000000
namespace L2
open PySem PySem.Spec PyProof.Rows
end L2
set_option Elab.async false
set_option linter.all false
set_option maxRecDepth 100000
set_option maxHeartbeats 1000000
namespace L2
open PySem PySem.Spec PyProof.Rows
end L2
set_option Elab.async false
set_option linter.all false
set_option maxRecDepth 100000
set_option maxHeartbeats 1000000
namespace L2
open PySem PySem.Spec PyProof.Rows PySem.W
def gallop':Bool -> Keyed -> Array Keyed -> Nat -> Nat -> Nat -> StateT SortSt Sem (Option Nat):=sortPriv% PySem.Builtin.gallop
def mergeLo':Array Keyed -> Array Keyed -> StateT SortSt Sem (Array Keyed):=sortPriv% PySem.Builtin.mergeLo
def mergeHi':Array Keyed -> Array Keyed -> StateT SortSt Sem (Array Keyed):=sortPriv% PySem.Builtin.mergeHi
def setG':Nat -> StateT SortSt Sem Unit:=sortPriv% PySem.Builtin.setMinGallop
section
variable {prog:Program}{w:World}{A:Around}{E:Value -> Shared -> Prop}{s:Shared}{κ:SortKind}{mem:Keyed -> Prop}{key:Keyed -> Int}{st:SortSt}
def SCmp (prog:Program)(w:World)(A:Around)(s:Shared)(κ:SortKind)(mem:Keyed -> Prop)(key:Keyed -> Int):Prop :=
 ∀ x y,mem x -> mem y -> wpAny (model prog w) A (keyLt' κ x.1 y.1) (fun b s'=>s'=s /\ b=decide (key x < key y)) (fun _ _=>False) s
theorem s_lt {x y:Keyed}{Q:Option Bool -> SortSt -> Prop}(hc:SCmp prog w A s κ mem key)(hk:kindOf st = κ)(hx:mem x)(hy:mem y)(h:Q (some (decide (key x < key y))) st) :
  wpS (model prog w) A E s (lt' x y) Q st:=by
 rw [lt'_eq]
 refine wpS_bind (wpS_get ?_)
 rw [hk]
 refine wpS_bind (wpS_lift (wpAny_attempt (wpAny_mono (hc x y hx hy) (fun b s' hb=>?_) fun _ _ hF=>hF.elim)))
 obtain ⟨rfl,rfl⟩:=hb
 exact ⟨rfl,wpS_pure h⟩
theorem s_elem {arr:Array Keyed}{i:Nat}{x:Keyed}{Q:Keyed -> SortSt -> Prop}(hx:arr[i]? = some x)(h:Q x st):wpS (model prog w) A E s (elem' arr i) Q st:=by
 rw [elem'_eq,hx]
 exact wpS_pure h
def beyB (key:Keyed -> Int)(left:Bool)(k x:Keyed):Bool:=if left=true then decide (key x < key k) else !decide (key k < key x)
theorem s_bey {left:Bool}{k x:Keyed}{arr:Array Keyed}{j:Nat}{Q:Option Bool -> SortSt -> Prop}(hc:SCmp prog w A s κ mem key)(hk:kindOf st = κ)(hm:mem k)(hx:arr[j]? = some x)(hmx:mem x)(h:Q (some (beyB key left k x)) st) :
  wpS (model prog w) A E s (elem' arr j >>= fun x=>if left=true then lt' x k else lt' k x >>= fun b=>pure (Option.map (fun c=>!c) b)) Q st:=by
 refine wpS_bind (s_elem hx ?_)
 unfold beyB at h
 by_cases z:left=true
 ·rw [if_pos z] at h ⊢
  exact s_lt hc hk hmx hm h
 ·rw [if_neg z] at h ⊢
  exact wpS_bind (s_lt hc hk hm hmx (wpS_pure h))
theorem gallop_ok {left:Bool}{k:Keyed}{arr:Array Keyed}{base n hint:Nat}{b:Nat -> Bool}{Q:Option Nat -> SortSt -> Prop}(hc:SCmp prog w A s κ mem key)(hk:kindOf st = κ)(hm:mem k)
  (hb:∀ i,i < n -> ∃ x,arr[base+i]? = some x /\ mem x /\ beyB key left k x=b i) (mono:∀ i j,i <= j -> j < n -> b j=true -> b i=true) (hh:hint < n)
  (h:∀ m,m <= n -> (∀ i,i < n -> (b i=true ↔ i < m)) -> Q (some m) st):wpS (model prog w) A E s (gallop' left k arr base n hint) Q st:=by
 have bey:∀ i,i < n -> ∀ {Q':Option Bool -> SortSt -> Prop},Q' (some (b i)) st -> wpS (model prog w) A E s (elem' arr (base+i) >>= fun x=>if left=true then lt' x k else lt' k x >>= fun b=>pure (Option.map (fun c=>!c) b)) Q' st:=fun i hi Q' hQ=>by
  obtain ⟨x,e1,e2,e3⟩:=hb i hi
  exact s_bey hc hk hm e1 e2 (by rw [e3]; exact hQ)
 have fin:∀ (lo hi:Nat) {β:Type} (F:Nat -> Option (Option Nat) × Nat × Nat -> StateT SortSt Sem (ForInStep (Option (Option Nat) × Nat × Nat))),
   (∀ i lo hi,hi <= n -> lo <= hi -> (lo=0 \/ b (lo - 1)=true) -> (hi=n \/ b hi=false) -> ∀ {Q':ForInStep (Option (Option Nat) × Nat × Nat) -> SortSt -> Prop},(if lo ≥ hi then Q' (.done (none,lo,hi)) st else if b (lo+(hi - lo) / 2)=true then Q' (.yield (none,lo+(hi - lo) / 2+1,hi)) st else Q' (.yield (none,lo,lo+(hi - lo) / 2)) st) -> wpS (model prog w) A E s (F i (none,lo,hi)) Q' st) ->
   hi <= n -> lo <= hi -> (lo=0 \/ b (lo - 1)=true) -> (hi=n \/ b hi=false) -> ∀ {Q':Option (Option Nat) × Nat × Nat -> SortSt -> Prop},(∀ lo m,m <= n -> (∀ i,i < n -> (b i=true ↔ i < m)) -> Q' (none,lo,m) st) -> wpS (model prog w) A E s (forIn [:n] (none,lo,hi) F) Q' st:=by
  intro lo hi _ F hF h1 h2 h3 h4 Q' hQ
  have ex:∀ lo hi,hi <= n -> lo <= hi -> hi <= lo -> (lo=0 \/ b (lo - 1)=true) -> (hi=n \/ b hi=false) -> (∀ i,i < n -> (b i=true ↔ i < hi)):=fun lo hi g1 g2 g3 g4 g5 i hi'=>by
   have e:lo=hi:=by omega
   subst e
   constructor
   ·intro hbi
    rcases g5 with z | z
    ·omega
    ·rcases Nat.lt_or_ge i lo with y | y
     ·exact y
     ·by_cases x:lo < n
      ·have:=mono lo i y hi' hbi
       rw [z] at this
       cases this
      ·omega
   ·intro hlt
    rcases g4 with z | z
    ·omega
    ·exact mono i (lo - 1) (by omega) (by omega) z
  refine wpS_forRange (I:=fun i c st'=>st'=st /\ ∃ lo hi,c=(none,lo,hi) /\ hi <= n /\ lo <= hi /\ hi - lo <= n - i /\ (lo=0 \/ b (lo - 1)=true) /\ (hi=n \/ b hi=false)) ?_ ?_ ⟨rfl,lo,hi,rfl,h1,h2,by omega,h3,h4⟩
  ·rintro i c st' _ hi' ⟨rfl,lo,hi,rfl,g1,g2,g3,g4,g5⟩
   refine hF i lo hi g1 g2 g4 g5 ?_
   by_cases z:lo ≥ hi
   ·rw [if_pos z]
    exact hQ lo hi g1 (ex lo hi g1 g2 z g4 g5)
   ·rw [if_neg z]
    by_cases y:b (lo+(hi - lo) / 2)=true
    ·rw [if_pos y]
     exact ⟨rfl,_,_,rfl,g1,by omega,by omega,.inr y,g5⟩
    ·rw [if_neg y]
     exact ⟨rfl,_,_,rfl,by omega,by omega,by omega,g4,.inr (by simpa using y)⟩
  ·rintro c st' ⟨rfl,lo,hi,rfl,g1,g2,g3,g4,g5⟩
   exact hQ lo hi g1 (ex lo hi g1 g2 (by have:=Nat.max_eq_right (Nat.zero_le n); omega) g4 g5)
 unfold gallop'
 refine wpS_bind (bey hint hh ?_)
 dsimp only
 have step:∀ lo hi,hi <= n -> lo <= hi -> (lo=0 \/ b (lo - 1)=true) -> (hi=n \/ b hi=false) -> True:=fun _ _ _ _ _ _=>trivial
 by_cases z:b hint=true
 ·rw [if_pos z]
  refine wpS_bind (wpS_mono (wpS_forRange (I:=fun i c st'=>st'=st /\ ∃ la of,c=(none,la,of) /\ la < of /\ i+1 <= of /\ hint+la < n /\ b (hint+la)=true)
   (Q:=fun c st'=>st'=st /\ ∃ la of,c=(none,la,of) /\ la < of /\ hint+la < n /\ b (hint+la)=true /\ (of ≥ n - hint \/ b (hint+of)=false)) ?_ ?_ ⟨rfl,0,1,rfl,by omega,by omega,by omega,z⟩) ?_)
  ·rintro i c st' _ hi' ⟨rfl,la,of,rfl,g1,g2,g3,g4⟩
   dsimp only
   by_cases y:of ≥ n - hint
   ·rw [if_pos y]
    exact wpS_pure ⟨rfl,_,_,rfl,g1,g3,g4,.inl y⟩
   ·rw [if_neg y]
    refine wpS_bind (bey (hint+of) (by omega) ?_)
    dsimp only
    by_cases x:b (hint+of)=true
    ·rw [x]
     rw [if_neg (by decide)]
     exact wpS_pure ⟨rfl,_,_,rfl,by omega,by omega,by omega,x⟩
    ·have x':b (hint+of)=false:=by simpa using x
     rw [x',if_pos (by decide)]
     exact wpS_pure ⟨rfl,_,_,rfl,g1,g3,g4,.inr x'⟩
  ·rintro c st' ⟨rfl,la,of,rfl,g1,g2,g3,g4⟩
   exact ⟨rfl,_,_,rfl,g1,g3,g4,.inl (by have:=Nat.max_eq_right (Nat.zero_le n); omega)⟩
  ·rintro c st' ⟨rfl,la,of,rfl,g1,g3,g4,g5⟩
   dsimp only
   refine wpS_bind (fin (hint+la+1) (hint+min of (n - hint)) (β:=Unit) _ ?_ (by omega) (by omega) (.inr g4) ?_ ?_)
   ·intro i lo hi q1 q2 q3 q4 Q' hQ
    dsimp only
    by_cases y:lo ≥ hi
    ·rw [if_pos y] at hQ ⊢
     exact wpS_pure hQ
    ·rw [if_neg y] at hQ ⊢
     refine wpS_bind (bey _ (by omega) ?_)
     dsimp only
     by_cases x:b (lo+(hi - lo) / 2)=true
     ·rw [if_pos x] at hQ ⊢
      exact wpS_pure hQ
     ·rw [if_neg x] at hQ ⊢
      exact wpS_pure hQ
   ·rcases g5 with g5 | g5
    ·left; omega
    ·by_cases y:of ≥ n - hint
     ·left; omega
     ·right; rw [show min of (n - hint)=of by omega]; exact g5
   ·intro lo m hm1 hm2
    exact wpS_pure (h m hm1 hm2)
 ·have z':b hint=false:=by simpa using z
  rw [if_neg z]
  refine wpS_bind (wpS_mono (wpS_forRange (I:=fun i c st'=>st'=st /\ ∃ la of,c=(none,la,of) /\ la < of /\ i+1 <= of /\ la <= hint /\ b (hint - la)=false)
   (Q:=fun c st'=>st'=st /\ ∃ la of,c=(none,la,of) /\ la < of /\ la <= hint /\ b (hint - la)=false /\ (of ≥ hint+1 \/ b (hint - of)=true)) ?_ ?_ ⟨rfl,0,1,rfl,by omega,by omega,by omega,z'⟩) ?_)
  ·rintro i c st' _ hi' ⟨rfl,la,of,rfl,g1,g2,g3,g4⟩
   dsimp only
   by_cases y:of ≥ hint+1
   ·rw [if_pos y]
    exact wpS_pure ⟨rfl,_,_,rfl,g1,g3,g4,.inl y⟩
   ·rw [if_neg y]
    refine wpS_bind (bey (hint - of) (by omega) ?_)
    dsimp only
    by_cases x:b (hint - of)=true
    ·rw [if_pos x]
     exact wpS_pure ⟨rfl,_,_,rfl,g1,g3,g4,.inr x⟩
    ·rw [if_neg x]
     exact wpS_pure ⟨rfl,_,_,rfl,by omega,by omega,by omega,by simpa using x⟩
  ·rintro c st' ⟨rfl,la,of,rfl,g1,g2,g3,g4⟩
   exact ⟨rfl,_,_,rfl,g1,g3,g4,.inl (by have:=Nat.max_eq_right (Nat.zero_le n); omega)⟩
  ·rintro c st' ⟨rfl,la,of,rfl,g1,g3,g4,g5⟩
   dsimp only
   refine wpS_bind (fin (hint+1 - min of (hint+1)) (hint - la) (β:=Unit) _ ?_ (by omega) (by omega) ?_ (.inr g4) ?_)
   ·intro i lo hi q1 q2 q3 q4 Q' hQ
    dsimp only
    by_cases y:lo ≥ hi
    ·rw [if_pos y] at hQ ⊢
     exact wpS_pure hQ
    ·rw [if_neg y] at hQ ⊢
     refine wpS_bind (bey _ (by omega) ?_)
     dsimp only
     by_cases x:b (lo+(hi - lo) / 2)=true
     ·rw [if_pos x] at hQ ⊢
      exact wpS_pure hQ
     ·rw [if_neg x] at hQ ⊢
      exact wpS_pure hQ
   ·rcases g5 with g5 | g5
    ·left; omega
    ·by_cases y:of ≥ hint+1
     ·left; omega
     ·right; rw [show hint+1 - min of (hint+1) - 1=hint - of by omega]; exact g5
   ·intro lo m hm1 hm2
    exact wpS_pure (h m hm1 hm2)
end
section
variable {key:Keyed -> Int}{a b out:List Keyed}{ia ib k:Nat}
def Srt (key:Keyed -> Int)(l:List Keyed):Prop:=l.Pairwise fun x y=>key x <= key y
def Ble (key:Keyed -> Int)(l m:List Keyed):Prop:=∀ x ∈ l,∀ y ∈ m,key x <= key y
structure MGL (key:Keyed -> Int) (a b out:List Keyed) (ia ib:Nat):Prop where
 la:ia <= a.length
 lb:ib <= b.length
 perm:out.Perm (a.take ia ++ b.take ib)
 srt:Srt key out
 lea:Ble key out (a.drop ia)
 leb:Ble key out (b.drop ib)
theorem MGL.symm (h:MGL key a b out ia ib):MGL key b a out ib ia:=⟨h.lb,h.la,h.perm.trans List.perm_append_comm,h.srt,h.leb,h.lea⟩
theorem MGL.zero:MGL key a b [] 0 0:=⟨Nat.zero_le _,Nat.zero_le _,by simp,.nil,(fun x hx=>by cases hx),(fun x hx=>by cases hx)⟩
theorem MGL.addA (h:MGL key a b out ia ib)(sa:Srt key a)(hk:ia+k <= a.length)(hb:Ble key ((a.drop ia).take k) (b.drop ib)):MGL key a b (out ++ (a.drop ia).take k) (ia+k) ib:=by
 have sd:Srt key (a.drop ia):=List.Pairwise.sublist (List.drop_sublist _ _) sa
 have e1:a.take (ia+k)=a.take ia ++ (a.drop ia).take k:=List.take_add ..
 have e2:a.drop (ia+k)=(a.drop ia).drop k:=by rw [List.drop_drop]
 have sp:Srt key ((a.drop ia).take k ++ (a.drop ia).drop k):=by rw [List.take_append_drop]; exact sd
 have sp2:=List.pairwise_append.mp sp
 refine ⟨hk,h.lb,?_,?_,?_,?_⟩
 ·rw [e1]
  refine (h.perm.append_right _).trans ?_
  rw [List.append_assoc,List.append_assoc]
  exact List.Perm.append_left _ List.perm_append_comm
 ·exact List.pairwise_append.mpr ⟨h.srt,sp2.1,fun x hx y hy=>h.lea x hx y (List.mem_of_mem_take hy)⟩
 ·intro x hx y hy
  rw [e2] at hy
  rcases List.mem_append.mp hx with z | z
  ·exact h.lea x z y (List.mem_of_mem_drop hy)
  ·exact sp2.2.2 x z y hy
 ·intro x hx y hy
  rcases List.mem_append.mp hx with z | z
  ·exact h.leb x z y hy
  ·exact hb x z y hy
theorem MGL.addB (h:MGL key a b out ia ib)(sb:Srt key b)(hk:ib+k <= b.length)(hb:Ble key ((b.drop ib).take k) (a.drop ia)):MGL key a b (out ++ (b.drop ib).take k) ia (ib+k) :=
 (h.symm.addA sb hk hb).symm
theorem take_one {l:List Keyed}{i:Nat}{x:Keyed}(h:l[i]? = some x):(l.drop i).take 1=[x]:=by
 obtain ⟨hi,e⟩:=qB.mp h
 rw [List.drop_eq_getElem_cons hi,e]
 rfl
theorem MGL.pushA {x:Keyed}(h:MGL key a b out ia ib)(sa:Srt key a)(hx:a[ia]? = some x)(hb:∀ y ∈ b.drop ib,key x <= key y):MGL key a b (out ++ [x]) (ia+1) ib:=by
 rw [← take_one hx]
 refine h.addA sa (qB.mp hx).1 ?_
 rw [take_one hx]
 intro z hz y hy
 rw [List.mem_singleton] at hz
 rw [hz]
 exact hb y hy
theorem MGL.pushB {x:Keyed}(h:MGL key a b out ia ib)(sb:Srt key b)(hx:b[ib]? = some x)(hb:∀ y ∈ a.drop ia,key x <= key y):MGL key a b (out ++ [x]) ia (ib+1) :=
 (h.symm.pushA sb hx hb).symm
def Mgd (key:Keyed -> Int)(a b r:List Keyed):Prop:=r.Perm (a ++ b) /\ Srt key r
theorem MGL.done (h:MGL key a b out ia ib)(sa:Srt key a)(sb:Srt key b)(hb:Ble key (a.drop ia) (b.drop ib)):Mgd key a b (out ++ a.drop ia ++ b.drop ib):=by
 have sd:Srt key (a.drop ia):=List.Pairwise.sublist (List.drop_sublist _ _) sa
 have se:Srt key (b.drop ib):=List.Pairwise.sublist (List.drop_sublist _ _) sb
 refine ⟨?_,?_⟩
 ·have e1:a ++ b=(a.take ia ++ a.drop ia) ++ (b.take ib ++ b.drop ib):=by rw [List.take_append_drop,List.take_append_drop]
  rw [e1]
  refine ((h.perm.append_right _).append_right _).trans ?_
  simp only [List.append_assoc]
  refine List.Perm.append_left _ ?_
  rw [← List.append_assoc,← List.append_assoc]
  exact List.Perm.append_right _ List.perm_append_comm
 ·refine List.pairwise_append.mpr ⟨List.pairwise_append.mpr ⟨h.srt,sd,h.lea⟩,se,fun x hx y hy=>?_⟩
  rcases List.mem_append.mp hx with z | z
  ·exact h.leb x z y hy
  ·exact hb x z y hy
theorem MGL.doneB (h:MGL key a b out ia ib)(sa:Srt key a)(sb:Srt key b)(hb:Ble key (b.drop ib) (a.drop ia)):Mgd key a b (out ++ b.drop ib ++ a.drop ia):=by
 have:=h.symm.done sb sa hb
 exact ⟨this.1.trans List.perm_append_comm,this.2⟩
theorem ble_nilR {l:List Keyed}{i:Nat}(h:b.length <= i):Ble key l (b.drop i):=fun x _ y hy=>by rw [List.drop_eq_nil_of_le h] at hy; cases hy
theorem ble_nilL {l:List Keyed}{i:Nat}(h:b.length <= i):Ble key (b.drop i) l:=fun x hx y _=>by rw [List.drop_eq_nil_of_le h] at hx; cases hx
theorem srt_drop {l:List Keyed}(h:Srt key l){i:Nat}{x y:Keyed}(hx:l[i]? = some x)(hy:y ∈ l.drop i):key x <= key y:=by
 obtain ⟨hi,e⟩:=qB.mp hx
 have sd:Srt key (l.drop i):=List.Pairwise.sublist (List.drop_sublist _ _) h
 rw [List.drop_eq_getElem_cons hi,e] at hy sd
 rcases List.mem_cons.mp hy with z | z
 ·rw [z]; exact Int.le_refl _
 ·exact (List.pairwise_cons.mp sd).1 y z
theorem srt_at {l:List Keyed}(h:Srt key l){i j:Nat}{x y:Keyed}(hij:i <= j)(hx:l[i]? = some x)(hy:l[j]? = some y):key x <= key y:=by
 refine srt_drop h hx ?_
 refine qE (i:=j - i) ?_
 rw [List.getElem?_drop,show i+(j - i)=j by omega]
 exact hy
theorem ext_to {a:Array Keyed}{i:Nat}:(a.extract i a.size).toList=a.toList.drop i:=by
 rw [Array.toList_extract,List.extract_eq_take_drop]
 refine List.take_of_length_le ?_
 rw [List.length_drop,Array.length_toList]
 exact Nat.le_refl _
theorem ext_k {a:Array Keyed}{i k:Nat}:(a.extract i (i+k)).toList=(a.toList.drop i).take k:=by
 rw [Array.toList_extract,List.extract_eq_take_drop,Nat.add_sub_cancel_left]
theorem mem_take_drop {l:List Keyed}{i k:Nat}{x:Keyed}(h:x ∈ (l.drop i).take k):∃ j,j < k /\ i+j < l.length /\ l[i+j]? = some x:=by
 obtain ⟨j,e⟩:=List.mem_iff_getElem?.mp h
 have hj:j < k:=by
  rcases Nat.lt_or_ge j k with z | z
  ·exact z
  ·rw [List.getElem?_eq_none (by rw [qO]; omega)] at e; cases e
 rw [List.getElem?_take_of_lt hj,List.getElem?_drop] at e
 exact ⟨j,hj,(qB.mp e).1,e⟩
theorem mem_drop {l:List Keyed}{i:Nat}{x:Keyed}(h:x ∈ l.drop i):∃ j,i+j < l.length /\ l[i+j]? = some x:=by
 obtain ⟨j,e⟩:=List.mem_iff_getElem?.mp h
 rw [List.getElem?_drop] at e
 exact ⟨j,(qB.mp e).1,e⟩
end
section
variable {prog:Program}{w:World}{A:Around}{E:Value -> Shared -> Prop}{s:Shared}{κ:SortKind}{mem:Keyed -> Prop}{key:Keyed -> Int}{st:SortSt}
structure SSame (st st':SortSt):Prop where
 kind:kindOf st'=kindOf st
 arr:arrOf st'=arrOf st
 pend:pendingOf st'=pendingOf st
 fail:failedOf st'=failedOf st
theorem SSame.refl (st:SortSt):SSame st st:=⟨rfl,rfl,rfl,rfl⟩
theorem wpS_ite {M:Model}{σ α:Type}{c:Prop}[Decidable c]{t e:StateT σ Sem α}{Q:α -> σ -> Prop}{st:σ}(h1:c -> wpS M A E s t Q st)(h2:¬ c -> wpS M A E s e Q st):wpS M A E s (if c then t else e) Q st:=by
 by_cases z:c
 ·rw [if_pos z]; exact h1 z
 ·rw [if_neg z]; exact h2 z
theorem s_setG {g:Nat}{st0:SortSt}{Q:Unit -> SortSt -> Prop}(hs:SSame st0 st)(h:∀ st',SSame st0 st' -> Q () st'):wpS (model prog w) A E s (setG' g) Q st:=by
 unfold setG'
 refine wpS_modify (h _ ⟨hs.kind,hs.arr,hs.pend,hs.fail⟩)
theorem s_at {a:Array Keyed}{i:Nat}(h:i < a.size):∃ x,a[i]? = some x /\ a.toList[i]? = some x:=⟨a[i],by simp [h],by simp [h]⟩
theorem gallopR {k:Keyed}{a:Array Keyed}{i n hint:Nat}{Q:Option Nat -> SortSt -> Prop}(hc:SCmp prog w A s κ mem key)(hk:kindOf st = κ)(hm:mem k)(ma:∀ x ∈ a.toList,mem x)(hin:i+n <= a.size)(sa:∀ p q x y,i <= p -> p <= q -> q < i+n -> a.toList[p]? = some x -> a.toList[q]? = some y -> key x <= key y)(hh:hint < n)
  (h:∀ m,m <= n -> (∀ j x,j < m -> a.toList[i+j]? = some x -> key x <= key k) -> (∀ j x,m <= j -> j < n -> a.toList[i+j]? = some x -> key k < key x) -> Q (some m) st):wpS (model prog w) A E s (gallop' false k a i n hint) Q st:=by
 have el:∀ j,j < n -> ∃ x,a[i+j]? = some x /\ a.toList[i+j]? = some x:=fun j hj=>s_at (by omega)
 refine gallop_ok (b:=fun j=>match a.toList[i+j]? with | some x=>!decide (key k < key x) | none=>false) hc hk hm (fun j hj=>?_) (fun p q hpq hq hbq=>?_) hh fun m hm1 hm2=>?_
 ·obtain ⟨x,e1,e2⟩:=el j hj
  exact ⟨x,e1,ma x (qE e2),by rw [e2]; rfl⟩
 ·obtain ⟨x,_,e2⟩:=el p (by omega)
  obtain ⟨y,_,f2⟩:=el q hq
  rw [f2] at hbq
  rw [e2]
  have:=sa (i+p) (i+q) x y (by omega) (by omega) (by omega) e2 f2
  simp only [Bool.not_eq_true',decide_eq_false_iff_not,Int.not_lt] at hbq ⊢
  omega
 ·refine h m hm1 (fun j x hj hx=>?_) fun j x h1 h2 hx=>?_
  ·have:=(hm2 j (by omega)).mpr hj
   rw [hx] at this
   simp only [Bool.not_eq_true',decide_eq_false_iff_not,Int.not_lt] at this
   exact this
  ·have:¬ _:=fun z=>Nat.not_lt.mpr h1 ((hm2 j h2).mp z)
   rw [hx] at this
   simp only [Bool.not_eq_true',decide_eq_false_iff_not,Int.not_lt] at this
   omega
theorem gallopL {k:Keyed}{a:Array Keyed}{i n hint:Nat}{Q:Option Nat -> SortSt -> Prop}(hc:SCmp prog w A s κ mem key)(hk:kindOf st = κ)(hm:mem k)(ma:∀ x ∈ a.toList,mem x)(hin:i+n <= a.size)(sa:∀ p q x y,i <= p -> p <= q -> q < i+n -> a.toList[p]? = some x -> a.toList[q]? = some y -> key x <= key y)(hh:hint < n)
  (h:∀ m,m <= n -> (∀ j x,j < m -> a.toList[i+j]? = some x -> key x < key k) -> (∀ j x,m <= j -> j < n -> a.toList[i+j]? = some x -> key k <= key x) -> Q (some m) st):wpS (model prog w) A E s (gallop' true k a i n hint) Q st:=by
 have el:∀ j,j < n -> ∃ x,a[i+j]? = some x /\ a.toList[i+j]? = some x:=fun j hj=>s_at (by omega)
 refine gallop_ok (b:=fun j=>match a.toList[i+j]? with | some x=>decide (key x < key k) | none=>false) hc hk hm (fun j hj=>?_) (fun p q hpq hq hbq=>?_) hh fun m hm1 hm2=>?_
 ·obtain ⟨x,e1,e2⟩:=el j hj
  exact ⟨x,e1,ma x (qE e2),by rw [e2]; rfl⟩
 ·obtain ⟨x,_,e2⟩:=el p (by omega)
  obtain ⟨y,_,f2⟩:=el q hq
  rw [f2] at hbq
  rw [e2]
  have:=sa (i+p) (i+q) x y (by omega) (by omega) (by omega) e2 f2
  simp only [decide_eq_true_eq] at hbq ⊢
  omega
 ·refine h m hm1 (fun j x hj hx=>?_) fun j x h1 h2 hx=>?_
  ·have:=(hm2 j (by omega)).mpr hj
   rw [hx] at this
   simp only [decide_eq_true_eq] at this
   exact this
  ·have:¬ _:=fun z=>Nat.not_lt.mpr h1 ((hm2 j h2).mp z)
   rw [hx] at this
   simp only [decide_eq_true_eq] at this
   omega
structure ML (key:Keyed -> Int) (a b out:Array Keyed) (ia ib:Nat):Prop where
 ha:ia+1 < a.size
 hb:ib < b.size
 g:MGL key a.toList b.toList out.toList ia ib
set_option hygiene false in
local macro_rules | `(tactic| walk_at "TAIL_B")=>`(tactic| (
 refine wpS_bind (s_elem ex ?_)
 (try dsimp only)
 have G4:MGL key a.toList b.toList (o3.push x).toList (p2+1) q3:=by
  rw [Array.toList_push]
  exact G3.pushA sa ex' hv3
 by_cases d5:(p2+1+1 == a.size)=true
 ·rw [if_pos d5]
  exact wpS_pure ⟨hs4,.inl ⟨_,rfl,lastA G4 (beq_iff_eq.mp d5)⟩⟩
 rw [if_neg d5]
 have hp5:p2+1+1 < a.size:=by
  have:¬ p2+1+1=a.size:=fun z=>d5 (beq_iff_eq.mpr z)
  omega
 split
 ·exact wpS_pure ⟨hs4,.inr ⟨_,_,_,_,_,_,rfl,⟨hp5,hq3,G4⟩,by omega⟩⟩
 ·exact wpS_pure ⟨hs4,_,_,_,_,_,_,rfl,⟨hp5,hq3,G4⟩,by omega⟩))
set_option hygiene false in
local macro_rules | `(tactic| walk_at "TAIL_A")=>`(tactic| (
 refine wpS_bind (s_elem ey ?_)
 (try dsimp only)
 have G2:MGL key a.toList b.toList (o2.push y).toList p2 (q1+1):=by
  rw [Array.toList_push]
  exact G.pushB sb ey' hv
 by_cases d3:(q1+1 == b.size)=true
 ·rw [if_pos d3]
  exact wpS_pure ⟨hs4,.inl ⟨_,rfl,doneB G2 (by have:=beq_iff_eq.mp d3; omega)⟩⟩
 rw [if_neg d3]
 have hq:q1+1 < b.size:=by
  have:¬ q1+1=b.size:=fun z=>d3 (beq_iff_eq.mpr z)
  omega
 obtain ⟨x,ex,ex'⟩:=s_at (a:=a) (i:=p2) (by omega)
 refine wpS_bind (s_elem ex ?_)
 refine wpS_bind (gallopL hc (hs4.kind.trans hk) (ma x (qE ex')) mb (by omega) (fun p q u v _ hpq _ hu hv=>srt_at sb hpq hu hv) (by omega) fun k2 hn1 hn2 hn3=>?_)
 (try dsimp only)
 by_cases ck2:k2 > 0
 ·rw [if_pos ck2]
  have G3:MGL key a.toList b.toList (o2.push y ++ b.extract (q1+1) (q1+1+k2)).toList p2 (q1+1+k2):=by
   rw [Array.toList_append,ext_k]
   refine G2.addB sb (by rw [Array.length_toList]; omega) fun u hu v hv=>?_
   obtain ⟨j,j1,j2,j3⟩:=mem_take_drop hu
   exact Int.le_trans (Int.le_of_lt (hn2 j u j1 j3)) (srt_drop sa ex' hv)
  by_cases d4:(q1+1+k2 == b.size)=true
  ·rw [if_pos d4]
   exact wpS_pure ⟨hs4,.inl ⟨_,rfl,doneB G3 (by have:=beq_iff_eq.mp d4; omega)⟩⟩
  rw [if_neg d4]
  have hq3:q1+1+k2 < b.size:=by
   have:¬ q1+1+k2=b.size:=fun z=>d4 (beq_iff_eq.mpr z)
   omega
  have hv3:∀ v ∈ b.toList.drop (q1+1+k2),key x <= key v:=fun v hv=>by
   obtain ⟨j,j1,j2⟩:=mem_drop hv
   rw [Array.length_toList] at j1
   exact hn3 (k2+j) v (by omega) (by omega) (by rw [← Nat.add_assoc]; exact j2)
  have hqe:q1+1 <= q1+1+k2:=Nat.le_add_right _ _
  generalize o2.push y ++ b.extract (q1+1) (q1+1+k2)=o3 at G3 ⊢
  generalize q1+1+k2=q3 at G3 hq3 hv3 hqe ⊢
  walk_at "TAIL_B"
 ·rw [if_neg ck2]
  have k0:k2=0:=by omega
  subst k0
  have G3:=G2
  have hv3:∀ v ∈ b.toList.drop (q1+1),key x <= key v:=fun v hv=>by
   obtain ⟨j,j1,j2⟩:=mem_drop hv
   rw [Array.length_toList] at j1
   exact hn3 j v (by omega) (by omega) j2
  have hq3:=hq
  obtain ⟨o3,eo3⟩:∃ o3,o2.push y=o3:=⟨_,rfl⟩
  obtain ⟨q3,eq3⟩:∃ q3,q1+1=q3:=⟨_,rfl⟩
  rw [eo3,eq3] at G3 ⊢
  rw [eq3] at hq3 hv3
  walk_at "TAIL_B"))
theorem mergeLo_ok {a b:Array Keyed}{Q:Array Keyed -> SortSt -> Prop}(hc:SCmp prog w A s κ mem key)(hk:kindOf st = κ)(ma:∀ x ∈ a.toList,mem x)(mb:∀ x ∈ b.toList,mem x)(sa:Srt key a.toList)(sb:Srt key b.toList)(na:1 <= a.size)(nb:1 <= b.size)
  (hlo:∀ x,b.toList[0]? = some x -> ∀ y ∈ a.toList,key x <= key y) (hhi:∀ x ∈ b.toList,∀ y,a.toList[a.size - 1]? = some y -> key x <= key y)
  (h:∀ r st',SSame st st' -> Mgd key a.toList b.toList r.toList -> Q r st'):wpS (model prog w) A E s (mergeLo' a b) Q st:=by
 have doneB:∀ {out:Array Keyed} {ia ib:Nat},MGL key a.toList b.toList out.toList ia ib -> b.size <= ib -> Mgd key a.toList b.toList (out ++ a.extract ia a.size ++ b.extract ib b.size).toList:=fun {out ia ib} g hz=>by
  rw [Array.toList_append,Array.toList_append,ext_to,ext_to]
  exact g.done sa sb (ble_nilR (by rw [Array.length_toList]; exact hz))
 have doneA:∀ {out:Array Keyed} {ia ib:Nat},MGL key a.toList b.toList out.toList ia ib -> a.size <= ia -> Mgd key a.toList b.toList (out ++ a.extract ia a.size ++ b.extract ib b.size).toList:=fun {out ia ib} g hz=>by
  rw [Array.toList_append,Array.toList_append,ext_to,ext_to]
  exact g.done sa sb (ble_nilL (by rw [Array.length_toList]; exact hz))
 have lastA:∀ {out:Array Keyed} {ia ib:Nat},MGL key a.toList b.toList out.toList ia ib -> ia+1=a.size -> Mgd key a.toList b.toList (out ++ b.extract ib b.size ++ a.extract ia a.size).toList:=fun {out ia ib} g hz=>by
  rw [Array.toList_append,Array.toList_append,ext_to,ext_to]
  refine g.doneB sa sb fun x hx y hy=>?_
  obtain ⟨j,h1,h2⟩:=mem_drop hy
  rw [Array.length_toList] at h1
  rw [show ia+j=a.size - 1 by omega] at h2
  exact hhi x (List.mem_of_mem_drop hx) y h2
 obtain ⟨b0,eb0,eb0'⟩:=s_at (a:=b) (i:=0) (by omega)
 unfold mergeLo'
 refine wpS_bind (wpS_lift (wpAny_rule ⟨rfl,?_⟩))
 refine wpS_bind (s_elem eb0 ?_)
 (try dsimp only)
 have g0:MGL key a.toList b.toList #[b0].toList 0 1:=MGL.zero.pushB sb eb0' fun y hy=>hlo b0 eb0' y hy
 by_cases z1:(1 == b.size)=true
 ·rw [if_pos z1]
  exact wpS_pure (h _ st (SSame.refl st) (doneB g0 (by have:=beq_iff_eq.mp z1; omega)))
 rw [if_neg z1]
 by_cases z2:(0+1 == a.size)=true
 ·rw [if_pos z2]
  exact wpS_pure (h _ st (SSame.refl st) (lastA g0 (by have:=beq_iff_eq.mp z2; omega)))
 rw [if_neg z2]
 have z1':1 < b.size:=by
  have:¬ 1=b.size:=fun z=>z1 (beq_iff_eq.mpr z)
  omega
 have z2':0+1 < a.size:=by
  have:¬ 0+1=a.size:=fun z=>z2 (beq_iff_eq.mpr z)
  omega
 refine wpS_bind (wpS_get ?_)
 refine wpS_bind (wpS_mono (wpS_forRange (I:=fun i c st'=>SSame st st' /\ ∃ out ia ib mg,c=(none,out,ia,ib,mg) /\ ML key a b out ia ib /\ i+1 <= ia+ib)
  (Q:=fun c st'=>SSame st st' /\ ∃ r,c.1=some r /\ Mgd key a.toList b.toList r.toList) ?_ ?_ ⟨SSame.refl st,_,_,_,_,rfl,⟨z2',z1',g0⟩,by omega⟩) ?_)
 ·rintro i c st1 _ hi ⟨hs1,out,ia,ib,mg,rfl,hM,hlen⟩
  (try dsimp only)
  refine wpS_bind (wpS_mono (wpS_forRange (I:=fun j c st'=>SSame st st' /\ ∃ o p q ac bc,c=(none,o,p,q,ac,bc) /\ ML key a b o p q /\ ia+ib+j <= p+q)
   (Q:=fun c st'=>SSame st st' /\ ((∃ r,c.1=some r /\ Mgd key a.toList b.toList r.toList) \/ (∃ o p q ac bc,c=(none,o,p,q,ac,bc) /\ ML key a b o p q /\ ia+ib+1 <= p+q))) ?_ ?_ ⟨hs1,_,_,_,_,_,rfl,hM,by omega⟩) ?_)
  ·rintro j c st2 _ hj ⟨hs2,o,p,q,ac,bc,rfl,hN,hl2⟩
   (try dsimp only)
   obtain ⟨y,ey,ey'⟩:=s_at hN.hb
   obtain ⟨x,ex,ex'⟩:=s_at (a:=a) (i:=p) (by have:=hN.ha; omega)
   refine wpS_bind (s_elem ey (wpS_bind (s_elem ex ?_)))
   refine wpS_bind (s_lt hc (hs2.kind.trans hk) (mb y (qE ey')) (ma x (qE ex')) ?_)
   (try dsimp only)
   by_cases lt:key y < key x
   ·rw [decide_eq_true lt,if_pos rfl]
    refine wpS_bind (s_elem ey ?_)
    (try dsimp only)
    have g1:MGL key a.toList b.toList (o.push y).toList p (q+1):=by
     rw [Array.toList_push]
     exact hN.g.pushB sb ey' fun v hv=>by have:=srt_drop sa ex' hv; omega
    by_cases c1:(q+1 == b.size)=true
    ·rw [if_pos c1]
     exact wpS_pure ⟨hs2,.inl ⟨_,rfl,doneB g1 (by have:=beq_iff_eq.mp c1; omega)⟩⟩
    ·rw [if_neg c1]
     have c1':q+1 < b.size:=by
      have:¬ q+1=b.size:=fun z=>c1 (beq_iff_eq.mpr z)
      have:=hN.hb
      omega
     by_cases c2:bc+1 ≥ mg
     ·rw [if_pos c2]
      exact wpS_pure ⟨hs2,.inr ⟨_,_,_,_,_,rfl,⟨hN.ha,c1',g1⟩,by omega⟩⟩
     ·rw [if_neg c2]
      exact wpS_pure ⟨hs2,_,_,_,_,_,rfl,⟨hN.ha,c1',g1⟩,by omega⟩
   ·rw [decide_eq_false lt,if_neg (by decide)]
    refine wpS_bind (s_elem ex ?_)
    (try dsimp only)
    have g1:MGL key a.toList b.toList (o.push x).toList (p+1) q:=by
     rw [Array.toList_push]
     exact hN.g.pushA sa ex' fun v hv=>by have:=srt_drop sb ey' hv; omega
    by_cases c1:(p+1+1 == a.size)=true
    ·rw [if_pos c1]
     exact wpS_pure ⟨hs2,.inl ⟨_,rfl,lastA g1 (beq_iff_eq.mp c1)⟩⟩
    ·rw [if_neg c1]
     have c1':p+1+1 < a.size:=by
      have:¬ p+1+1=a.size:=fun z=>c1 (beq_iff_eq.mpr z)
      have:=hN.ha
      omega
     by_cases c2:ac+1 ≥ mg
     ·rw [if_pos c2]
      exact wpS_pure ⟨hs2,.inr ⟨_,_,_,_,_,rfl,⟨c1',hN.hb,g1⟩,by omega⟩⟩
     ·rw [if_neg c2]
      exact wpS_pure ⟨hs2,_,_,_,_,_,rfl,⟨c1',hN.hb,g1⟩,by omega⟩
  ·rintro c st2 ⟨hs2,o,p,q,ac,bc,rfl,hN,hl2⟩
   exact ⟨hs2,.inr ⟨_,_,_,_,_,rfl,hN,by have:=Nat.max_eq_right (Nat.zero_le (a.size+b.size)); omega⟩⟩
  ·rintro c st2 ⟨hs2,⟨r,er,hr⟩ | ⟨o,p,q,ac,bc,rfl,hN,hl2⟩⟩
   ·rw [er]
    exact wpS_pure ⟨hs2,r,rfl,hr⟩
   (try dsimp only)
   refine wpS_bind (wpS_lift (wpAny_rule ⟨rfl,?_⟩))
   refine wpS_bind (wpS_mono (wpS_forRange (I:=fun j c st'=>SSame st st' /\ ∃ o1 p1 q1 mg1 ac bc,c=(none,o1,p1,q1,mg1,ac,bc) /\ ML key a b o1 p1 q1 /\ p+q <= p1+q1)
    (Q:=fun c st'=>SSame st st' /\ ((∃ r,c.1=some r /\ Mgd key a.toList b.toList r.toList) \/ (∃ o1 p1 q1 mg1 ac bc,c=(none,o1,p1,q1,mg1,ac,bc) /\ ML key a b o1 p1 q1 /\ p+q <= p1+q1))) ?_ ?_ ⟨hs2,_,_,_,_,_,_,rfl,hN,Nat.le_refl _⟩) ?_)
   ·rintro j c st3 _ hj ⟨hs3,o1,p1,q1,mg1,ac1,bc1,rfl,hR,hl3⟩
    (try dsimp only)
    obtain ⟨y,ey,ey'⟩:=s_at hR.hb
    have ha1:=hR.ha
    have hb1:=hR.hb
    refine wpS_ite (fun _=>?_) (fun _=>?_) <;>
    ·refine wpS_bind (s_setG hs3 fun st4 hs4=>?_)
     refine wpS_bind (s_elem ey ?_)
     refine wpS_bind (gallopR hc (hs4.kind.trans hk) (mb y (qE ey')) ma (by omega) (fun p q u v _ hpq _ hu hv=>srt_at sa hpq hu hv) (by omega) fun k hm1 hm2 hm3=>?_)
     (try dsimp only)
     by_cases ck:k > 0
     ·rw [if_pos ck]
      have G:MGL key a.toList b.toList (o1 ++ a.extract p1 (p1+k)).toList (p1+k) q1:=by
       rw [Array.toList_append,ext_k]
       refine hR.g.addA sa (by rw [Array.length_toList]; omega) fun u hu v hv=>?_
       obtain ⟨j,j1,j2,j3⟩:=mem_take_drop hu
       exact Int.le_trans (hm2 j u j1 j3) (srt_drop sb ey' hv)
      by_cases d1:(p1+k+1 == a.size)=true
      ·rw [if_pos d1]
       exact wpS_pure ⟨hs4,.inl ⟨_,rfl,lastA G (beq_iff_eq.mp d1)⟩⟩
      rw [if_neg d1]
      by_cases d2:(p1+k == a.size)=true
      ·rw [if_pos d2]
       exact wpS_pure ⟨hs4,.inl ⟨_,rfl,doneA G (by have:=beq_iff_eq.mp d2; omega)⟩⟩
      rw [if_neg d2]
      have hp:p1+k+1 < a.size:=by
       have:¬ p1+k+1=a.size:=fun z=>d1 (beq_iff_eq.mpr z)
       have:¬ p1+k=a.size:=fun z=>d2 (beq_iff_eq.mpr z)
       omega
      have hv:∀ v ∈ a.toList.drop (p1+k),key y <= key v:=fun v hv=>by
       obtain ⟨j,j1,j2⟩:=mem_drop hv
       rw [Array.length_toList] at j1
       have:=hm3 (k+j) v (by omega) (by omega) (by rw [← Nat.add_assoc]; exact j2)
       omega
      have hle:p1 <= p1+k:=Nat.le_add_right _ _
      generalize o1 ++ a.extract p1 (p1+k)=o2 at G ⊢
      generalize p1+k=p2 at G hp hv hle ⊢
      walk_at "TAIL_A"
     ·rw [if_neg ck]
      have k0:k=0:=by omega
      subst k0
      have G:=hR.g
      have hp:=hR.ha
      have hv:∀ v ∈ a.toList.drop p1,key y <= key v:=fun v hv=>by
       obtain ⟨j,j1,j2⟩:=mem_drop hv
       rw [Array.length_toList] at j1
       have:=hm3 j v (by omega) (by omega) j2
       omega
      have hle:p1 <= p1:=Nat.le_refl _
      obtain ⟨o2,eo2⟩:∃ o2,o1=o2:=⟨_,rfl⟩
      obtain ⟨p2,ep2⟩:∃ p2,p1=p2:=⟨_,rfl⟩
      rw [eo2,ep2] at G ⊢
      rw [ep2] at hp hv
      walk_at "TAIL_A"
   ·rintro c st3 ⟨hs3,o1,p1,q1,mg1,ac1,bc1,rfl,hR,hl3⟩
    exact ⟨hs3,.inr ⟨_,_,_,_,_,_,rfl,hR,hl3⟩⟩
   ·rintro c st3 ⟨hs3,⟨r,er,hr⟩ | ⟨o1,p1,q1,mg1,ac1,bc1,rfl,hR,hl3⟩⟩
    ·rw [er]
     exact wpS_pure ⟨hs3,r,rfl,hr⟩
    (try dsimp only)
    refine wpS_bind (s_setG hs3 fun st4 hs4=>?_)
    exact wpS_pure ⟨hs4,_,_,_,_,rfl,hR,by omega⟩
 ·rintro c st1 ⟨hs1,out,ia,ib,mg,rfl,hM,hlen⟩
  have:=Nat.max_eq_right (Nat.zero_le (a.size+b.size))
  have:=hM.ha
  have:=hM.hb
  omega
 ·rintro c st1 ⟨hs1,r,er,hr⟩
  (try dsimp only)
  rw [er]
  exact wpS_pure (h r st1 hs1 hr)
end
section
variable {key:Keyed -> Int}{a b out:List Keyed}{na nb k:Nat}
structure MH (key:Keyed -> Int) (a b out:List Keyed) (na nb:Nat):Prop where
 hna:na <= a.length
 hnb:nb <= b.length
 g:MGL (fun x=>-key x) a.reverse b.reverse out (a.length - na) (b.length - nb)
theorem srt_rev (h:Srt key a):Srt (fun x=>-key x) a.reverse:=by
 unfold Srt at h ⊢
 rw [List.pairwise_reverse]
 exact h.imp fun hx=>Int.neg_le_neg hx
theorem rev_dropN (h:na <= a.length):a.reverse.drop (a.length - na)=(a.take na).reverse:=by
 rw [List.drop_reverse,show a.length - (a.length - na)=na by omega]
theorem MH.symm (h:MH key a b out na nb):MH key b a out nb na:=⟨h.hnb,h.hna,h.g.symm⟩
theorem MH.addA {t:Nat}(h:MH key a b out na nb)(sa:Srt key a)(ht:t <= na)(hb:∀ x ∈ (a.drop t).take (na - t),∀ y ∈ b.take nb,key y <= key x):MH key a b (out ++ ((a.drop t).take (na - t)).reverse) t nb:=by
 have hna:=h.hna
 have eb:(a.reverse.drop (a.length - na)).take (na - t)=((a.drop t).take (na - t)).reverse:=by
  rw [rev_dropN hna,List.take_reverse,qO,Nat.min_eq_left hna,show na - (na - t)=t by omega,List.drop_take]
 have:=h.g.addA (k:=na - t) (srt_rev sa) (by rw [List.length_reverse]; omega) (by
  rw [eb,rev_dropN h.hnb]
  intro x hx y hy
  have:=hb x (List.mem_reverse.mp hx) y (List.mem_reverse.mp hy)
  show -key x <= -key y
  omega)
 rw [eb,show a.length - na+(na - t)=a.length - t by omega] at this
 exact ⟨by omega,h.hnb,this⟩
theorem MH.pushA {x:Keyed}{t:Nat}(h:MH key a b out na nb)(sa:Srt key a)(ht:t+1=na)(hx:a[t]? = some x)(hb:∀ y ∈ b.take nb,key y <= key x):MH key a b (out ++ [x]) t nb:=by
 have e:((a.drop t).take (na - t))=[x]:=by
  rw [show na - t=1 by omega]
  exact take_one hx
 have:=h.addA sa (t:=t) (by omega) (by
  rw [e]
  intro z hz y hy
  rw [List.mem_singleton] at hz
  rw [hz]
  exact hb y hy)
 rw [e] at this
 exact this
theorem MH.addB {t:Nat}(h:MH key a b out na nb)(sb:Srt key b)(ht:t <= nb)(hb:∀ x ∈ (b.drop t).take (nb - t),∀ y ∈ a.take na,key y <= key x):MH key a b (out ++ ((b.drop t).take (nb - t)).reverse) na t :=
 (h.symm.addA sb ht hb).symm
theorem MH.pushB {x:Keyed}{t:Nat}(h:MH key a b out na nb)(sb:Srt key b)(ht:t+1=nb)(hx:b[t]? = some x)(hb:∀ y ∈ a.take na,key y <= key x):MH key a b (out ++ [x]) na t :=
 (h.symm.pushA sb ht hx hb).symm
theorem mgd_rev {r:List Keyed}(h:Mgd (fun x=>-key x) a.reverse b.reverse r):Mgd key a b r.reverse:=by
 refine ⟨?_,?_⟩
 ·refine (List.reverse_perm r).trans (h.1.trans ?_)
  exact (List.reverse_perm a).append (List.reverse_perm b)
 ·have h2:=h.2
  unfold Srt at h2 ⊢
  rw [List.pairwise_reverse]
  exact h2.imp fun hx=>by dsimp only at hx; omega
theorem MH.done (h:MH key a b out na nb)(sa:Srt key a)(sb:Srt key b)(hb:Ble key (a.take na) (b.take nb)):Mgd key a b (a.take na ++ b.take nb ++ out.reverse):=by
 have:=mgd_rev (h.g.doneB (srt_rev sa) (srt_rev sb) (by
  rw [rev_dropN h.hna,rev_dropN h.hnb]
  intro x hx y hy
  have:=hb y (List.mem_reverse.mp hy) x (List.mem_reverse.mp hx)
  show -key x <= -key y
  omega))
 rw [rev_dropN h.hna,rev_dropN h.hnb,List.reverse_append,List.reverse_append,List.reverse_reverse,List.reverse_reverse,← List.append_assoc] at this
 exact this
theorem MH.doneB (h:MH key a b out na nb)(sa:Srt key a)(sb:Srt key b)(hb:Ble key (b.take nb) (a.take na)):Mgd key a b (b.take nb ++ a.take na ++ out.reverse):=by
 have:=h.symm.done sb sa hb
 exact ⟨this.1.trans List.perm_append_comm,this.2⟩
theorem MH.zero:MH key a b [] a.length b.length:=⟨Nat.le_refl _,Nat.le_refl _,by rw [Nat.sub_self,Nat.sub_self]; exact MGL.zero⟩
theorem ext_0 {a:Array Keyed}{i:Nat}:(a.extract 0 i).toList=a.toList.take i:=by
 rw [Array.toList_extract,List.extract_eq_take_drop]
 rfl
theorem ext_r {a:Array Keyed}{t i:Nat}:(a.extract t i).reverse.toList=((a.toList.drop t).take (i - t)).reverse:=by
 rw [Array.toList_reverse,Array.toList_extract,List.extract_eq_take_drop]
theorem mem_take {l:List Keyed}{n:Nat}{x:Keyed}(h:x ∈ l.take n):∃ j,j < n /\ l[j]? = some x:=by
 obtain ⟨j,e⟩:=List.mem_iff_getElem?.mp h
 have hj:j < n:=by
  rcases Nat.lt_or_ge j n with z | z
  ·exact z
  ·rw [List.getElem?_eq_none (by rw [qO]; omega)] at e; cases e
 rw [List.getElem?_take_of_lt hj] at e
 exact ⟨j,hj,e⟩
theorem srt_take {l:List Keyed}(h:Srt key l){i:Nat}{x y:Keyed}(hx:l[i]? = some x)(hy:y ∈ l.take (i+1)):key y <= key x:=by
 obtain ⟨j,h1,h2⟩:=mem_take hy
 exact srt_at h (by omega) h2 hx
end
section
variable {prog:Program}{w:World}{A:Around}{E:Value -> Shared -> Prop}{s:Shared}{κ:SortKind}{mem:Keyed -> Prop}{key:Keyed -> Int}{st:SortSt}
structure MHs (key:Keyed -> Int) (a b out:Array Keyed) (na nb:Nat):Prop where
 ha:0 < na
 hb:1 < nb
 la:na <= a.size
 lb:nb <= b.size
 g:MH key a.toList b.toList out.toList na nb
set_option hygiene false in
local macro_rules | `(tactic| walk_at "TAIL_D")=>`(tactic| (
 refine wpS_bind (s_elem ex ?_)
 (try dsimp only)
 have G4:MH key a.toList b.toList (o3.push x).toList (p2 - 1) q3:=by
  rw [Array.toList_push]
  exact G3.pushA sa (by omega) ex' hv3
 by_cases d5:(p2 - 1 == 0)=true
 ·rw [if_pos d5]
  exact wpS_pure ⟨hs4,.inl ⟨_,rfl,doneA G4 (by have:=beq_iff_eq.mp d5; omega)⟩⟩
 rw [if_neg d5]
 have hp5:0 < p2 - 1:=by
  have:¬ p2 - 1=0:=fun z=>d5 (beq_iff_eq.mpr z)
  omega
 split
 ·exact wpS_pure ⟨hs4,.inr ⟨_,_,_,_,_,_,rfl,⟨hp5,hq3,by omega,by omega,G4⟩,by omega⟩⟩
 ·exact wpS_pure ⟨hs4,_,_,_,_,_,_,rfl,⟨hp5,hq3,by omega,by omega,G4⟩,by omega⟩))
set_option hygiene false in
local macro_rules | `(tactic| walk_at "TAIL_C")=>`(tactic| (
 refine wpS_bind (s_elem ey ?_)
 (try dsimp only)
 have G2:MH key a.toList b.toList (o2.push y).toList p2 (q1 - 1):=by
  rw [Array.toList_push]
  exact G.pushB sb (by omega) ey' hv
 by_cases d3:(q1 - 1 == 1)=true
 ·rw [if_pos d3]
  exact wpS_pure ⟨hs4,.inl ⟨_,rfl,firstB G2 (beq_iff_eq.mp d3)⟩⟩
 rw [if_neg d3]
 have hq:1 < q1 - 1:=by
  have:¬ q1 - 1=1:=fun z=>d3 (beq_iff_eq.mpr z)
  omega
 obtain ⟨x,ex,ex'⟩:=s_at (a:=a) (i:=p2 - 1) (by omega)
 refine wpS_bind (s_elem ex ?_)
 refine wpS_bind (gallopL hc (hs4.kind.trans hk) (ma x (qE ex')) mb (by omega) (fun p q u v _ hpq _ hu hv=>srt_at sb hpq hu hv) (by omega) fun t2 hn1 hn2 hn3=>?_)
 (try dsimp only)
 have hv3:∀ v ∈ b.toList.take t2,key v <= key x:=fun v hv=>by
  obtain ⟨j,j1,j2⟩:=mem_take hv
  exact Int.le_of_lt (hn2 j v j1 (by rw [Nat.zero_add]; exact j2))
 by_cases ck2:q1 - 1 - t2 > 0
 ·rw [if_pos ck2]
  have G3:MH key a.toList b.toList (o2.push y ++ (b.extract t2 (q1 - 1)).reverse).toList p2 t2:=by
   rw [Array.toList_append,ext_r]
   refine G2.addB sb (by omega) fun u hu v hv=>?_
   obtain ⟨j,j1,j2,j3⟩:=mem_take_drop hu
   refine Int.le_trans (srt_take sa ex' (by rw [show p2 - 1+1=p2 by omega]; exact hv)) ?_
   exact hn3 (t2+j) u (by omega) (by omega) (by rw [Nat.zero_add]; exact j3)
  by_cases d4:(t2 == 1)=true
  ·rw [if_pos d4]
   exact wpS_pure ⟨hs4,.inl ⟨_,rfl,firstB G3 (beq_iff_eq.mp d4)⟩⟩
  rw [if_neg d4]
  by_cases d6:(t2 == 0)=true
  ·rw [if_pos d6]
   exact wpS_pure ⟨hs4,.inl ⟨_,rfl,doneZ G3 (beq_iff_eq.mp d6)⟩⟩
  rw [if_neg d6]
  have hq3:1 < t2:=by
   have:¬ t2=1:=fun z=>d4 (beq_iff_eq.mpr z)
   have:¬ t2=0:=fun z=>d6 (beq_iff_eq.mpr z)
   omega
  have hqe:t2 <= q1 - 1:=by omega
  generalize o2.push y ++ (b.extract t2 (q1 - 1)).reverse=o3 at G3 ⊢
  obtain ⟨q3,eq3⟩:∃ q3,t2=q3:=⟨_,rfl⟩
  rw [eq3] at G3 hq3 hv3 hqe ⊢
  walk_at "TAIL_D"
 ·rw [if_neg ck2]
  have k0:t2=q1 - 1:=by omega
  rw [k0] at hv3
  have G3:=G2
  have hq3:=hq
  have hqe:q1 - 1 <= q1 - 1:=Nat.le_refl _
  obtain ⟨o3,eo3⟩:∃ o3,o2.push y=o3:=⟨_,rfl⟩
  obtain ⟨q3,eq3⟩:∃ q3,q1 - 1=q3:=⟨_,rfl⟩
  rw [eo3,eq3] at G3 ⊢
  rw [eq3] at hq3 hv3 hqe
  walk_at "TAIL_D"))
theorem mergeHi_ok {a b:Array Keyed}{Q:Array Keyed -> SortSt -> Prop}(hc:SCmp prog w A s κ mem key)(hk:kindOf st = κ)(ma:∀ x ∈ a.toList,mem x)(mb:∀ x ∈ b.toList,mem x)(sa:Srt key a.toList)(sb:Srt key b.toList)(na:1 <= a.size)(nb:1 <= b.size)
  (hlo:∀ x,b.toList[0]? = some x -> ∀ y ∈ a.toList,key x <= key y) (hhi:∀ x ∈ b.toList,∀ y,a.toList[a.size - 1]? = some y -> key x <= key y)
  (h:∀ r st',SSame st st' -> Mgd key a.toList b.toList r.toList -> Q r st'):wpS (model prog w) A E s (mergeHi' a b) Q st:=by
 have doneA:∀ {out:Array Keyed} {p q:Nat},MH key a.toList b.toList out.toList p q -> p=0 -> Mgd key a.toList b.toList (a.extract 0 p ++ b.extract 0 q ++ out.reverse).toList:=fun {out p q} g hz=>by
  rw [Array.toList_append,Array.toList_append,ext_0,ext_0,Array.toList_reverse]
  exact g.done sa sb fun x hx=>by rw [hz,List.take_zero] at hx; cases hx
 have doneZ:∀ {out:Array Keyed} {p q:Nat},MH key a.toList b.toList out.toList p q -> q=0 -> Mgd key a.toList b.toList (a.extract 0 p ++ b.extract 0 q ++ out.reverse).toList:=fun {out p q} g hz=>by
  rw [Array.toList_append,Array.toList_append,ext_0,ext_0,Array.toList_reverse]
  exact g.done sa sb fun x _ y hy=>by rw [hz,List.take_zero] at hy; cases hy
 have firstB:∀ {out:Array Keyed} {p q:Nat},MH key a.toList b.toList out.toList p q -> q=1 -> Mgd key a.toList b.toList (b.extract 0 q ++ a.extract 0 p ++ out.reverse).toList:=fun {out p q} g hz=>by
  rw [Array.toList_append,Array.toList_append,ext_0,ext_0,Array.toList_reverse]
  refine g.doneB sa sb fun x hx y hy=>?_
  obtain ⟨j,h1,h2⟩:=mem_take hx
  rw [show j=0 by omega] at h2
  exact hlo x h2 y (List.mem_of_mem_take hy)
 obtain ⟨a0,ea0,ea0'⟩:=s_at (a:=a) (i:=a.size - 1) (by omega)
 unfold mergeHi'
 refine wpS_bind (wpS_lift (wpAny_rule ⟨rfl,?_⟩))
 refine wpS_bind (s_elem ea0 ?_)
 (try dsimp only)
 have g0:MH key a.toList b.toList #[a0].toList (a.size - 1) b.size:=by
  have:=(MH.zero (key:=key) (a:=a.toList) (b:=b.toList)).pushA sa (t:=a.size - 1) (by rw [Array.length_toList]; omega) ea0' fun y hy=>hhi y (List.mem_of_mem_take hy) a0 ea0'
  rw [Array.length_toList] at this
  exact this
 by_cases z1:(a.size - 1 == 0)=true
 ·rw [if_pos z1]
  exact wpS_pure (h _ st (SSame.refl st) (doneA g0 (beq_iff_eq.mp z1)))
 rw [if_neg z1]
 by_cases z2:(b.size == 1)=true
 ·rw [if_pos z2]
  exact wpS_pure (h _ st (SSame.refl st) (firstB g0 (beq_iff_eq.mp z2)))
 rw [if_neg z2]
 have z1':0 < a.size - 1:=by
  have:¬ a.size - 1=0:=fun z=>z1 (beq_iff_eq.mpr z)
  omega
 have z2':1 < b.size:=by
  have:¬ b.size=1:=fun z=>z2 (beq_iff_eq.mpr z)
  omega
 refine wpS_bind (wpS_get ?_)
 refine wpS_bind (wpS_mono (wpS_forRange (I:=fun i c st'=>SSame st st' /\ ∃ p q out mg,c=(none,p,q,out,mg) /\ MHs key a b out p q /\ i+1+p+q <= a.size+b.size)
  (Q:=fun c st'=>SSame st st' /\ ∃ r,c.1=some r /\ Mgd key a.toList b.toList r.toList) ?_ ?_ ⟨SSame.refl st,_,_,_,_,rfl,⟨z1',z2',by omega,by omega,g0⟩,by omega⟩) ?_)
 ·rintro i c st1 _ hi ⟨hs1,ia,ib,out,mg,rfl,hM,hlen⟩
  (try dsimp only)
  refine wpS_bind (wpS_mono (wpS_forRange (I:=fun j c st'=>SSame st st' /\ ∃ p q o ac bc,c=(none,p,q,o,ac,bc) /\ MHs key a b o p q /\ p+q+j <= ia+ib)
   (Q:=fun c st'=>SSame st st' /\ ((∃ r,c.1=some r /\ Mgd key a.toList b.toList r.toList) \/ (∃ p q o ac bc,c=(none,p,q,o,ac,bc) /\ MHs key a b o p q /\ p+q+1 <= ia+ib))) ?_ ?_ ⟨hs1,_,_,_,_,_,rfl,hM,by omega⟩) ?_)
  ·rintro j c st2 _ hj ⟨hs2,p,q,o,ac,bc,rfl,hN,hl2⟩
   (try dsimp only)
   have hN1:=hN.ha
   have hN2:=hN.hb
   have hN3:=hN.la
   have hN4:=hN.lb
   obtain ⟨y,ey,ey'⟩:=s_at (a:=b) (i:=q - 1) (by omega)
   obtain ⟨x,ex,ex'⟩:=s_at (a:=a) (i:=p - 1) (by omega)
   refine wpS_bind (s_elem ey (wpS_bind (s_elem ex ?_)))
   refine wpS_bind (s_lt hc (hs2.kind.trans hk) (mb y (qE ey')) (ma x (qE ex')) ?_)
   (try dsimp only)
   by_cases lt:key y < key x
   ·rw [decide_eq_true lt,if_pos rfl]
    refine wpS_bind (s_elem ex ?_)
    (try dsimp only)
    have g1:MH key a.toList b.toList (o.push x).toList (p - 1) q:=by
     rw [Array.toList_push]
     exact hN.g.pushA sa (by omega) ex' fun v hv=>by
      have:=srt_take sb ey' (y:=v) (by rw [show q - 1+1=q by omega]; exact hv)
      omega
    by_cases c1:(p - 1 == 0)=true
    ·rw [if_pos c1]
     exact wpS_pure ⟨hs2,.inl ⟨_,rfl,doneA g1 (beq_iff_eq.mp c1)⟩⟩
    ·rw [if_neg c1]
     have c1':0 < p - 1:=by
      have:¬ p - 1=0:=fun z=>c1 (beq_iff_eq.mpr z)
      omega
     by_cases c2:ac+1 ≥ mg
     ·rw [if_pos c2]
      exact wpS_pure ⟨hs2,.inr ⟨_,_,_,_,_,rfl,⟨c1',hN2,by omega,hN4,g1⟩,by omega⟩⟩
     ·rw [if_neg c2]
      exact wpS_pure ⟨hs2,_,_,_,_,_,rfl,⟨c1',hN2,by omega,hN4,g1⟩,by omega⟩
   ·rw [decide_eq_false lt,if_neg (by decide)]
    refine wpS_bind (s_elem ey ?_)
    (try dsimp only)
    have g1:MH key a.toList b.toList (o.push y).toList p (q - 1):=by
     rw [Array.toList_push]
     exact hN.g.pushB sb (by omega) ey' fun v hv=>by
      have:=srt_take sa ex' (y:=v) (by rw [show p - 1+1=p by omega]; exact hv)
      omega
    by_cases c1:(q - 1 == 1)=true
    ·rw [if_pos c1]
     exact wpS_pure ⟨hs2,.inl ⟨_,rfl,firstB g1 (beq_iff_eq.mp c1)⟩⟩
    ·rw [if_neg c1]
     have c1':1 < q - 1:=by
      have:¬ q - 1=1:=fun z=>c1 (beq_iff_eq.mpr z)
      omega
     by_cases c2:bc+1 ≥ mg
     ·rw [if_pos c2]
      exact wpS_pure ⟨hs2,.inr ⟨_,_,_,_,_,rfl,⟨hN1,c1',hN3,by omega,g1⟩,by omega⟩⟩
     ·rw [if_neg c2]
      exact wpS_pure ⟨hs2,_,_,_,_,_,rfl,⟨hN1,c1',hN3,by omega,g1⟩,by omega⟩
  ·rintro c st2 ⟨hs2,p,q,o,ac,bc,rfl,hN,hl2⟩
   exact ⟨hs2,.inr ⟨_,_,_,_,_,rfl,hN,by have:=Nat.max_eq_right (Nat.zero_le (a.size+b.size)); omega⟩⟩
  ·rintro c st2 ⟨hs2,⟨r,er,hr⟩ | ⟨p,q,o,ac,bc,rfl,hN,hl2⟩⟩
   ·rw [er]
    exact wpS_pure ⟨hs2,r,rfl,hr⟩
   (try dsimp only)
   refine wpS_bind (wpS_lift (wpAny_rule ⟨rfl,?_⟩))
   refine wpS_bind (wpS_mono (wpS_forRange (I:=fun j c st'=>SSame st st' /\ ∃ p1 q1 o1 mg1 ac bc,c=(none,p1,q1,o1,mg1,ac,bc) /\ MHs key a b o1 p1 q1 /\ p1+q1 <= p+q)
    (Q:=fun c st'=>SSame st st' /\ ((∃ r,c.1=some r /\ Mgd key a.toList b.toList r.toList) \/ (∃ p1 q1 o1 mg1 ac bc,c=(none,p1,q1,o1,mg1,ac,bc) /\ MHs key a b o1 p1 q1 /\ p1+q1 <= p+q))) ?_ ?_ ⟨hs2,_,_,_,_,_,_,rfl,hN,Nat.le_refl _⟩) ?_)
   ·rintro j c st3 _ hj ⟨hs3,p1,q1,o1,mg1,ac1,bc1,rfl,hR,hl3⟩
    (try dsimp only)
    have ha1:=hR.ha
    have hb1:=hR.hb
    have ha2:=hR.la
    have hb2:=hR.lb
    obtain ⟨y,ey,ey'⟩:=s_at (a:=b) (i:=q1 - 1) (by omega)
    refine wpS_ite (fun _=>?_) (fun _=>?_) <;>
    ·refine wpS_bind (s_setG hs3 fun st4 hs4=>?_)
     refine wpS_bind (s_elem ey ?_)
     refine wpS_bind (gallopR hc (hs4.kind.trans hk) (mb y (qE ey')) ma (by omega) (fun p q u v _ hpq _ hu hv=>srt_at sa hpq hu hv) (by omega) fun t hm1 hm2 hm3=>?_)
     (try dsimp only)
     have hv:∀ v ∈ a.toList.take t,key v <= key y:=fun v hv=>by
      obtain ⟨j,j1,j2⟩:=mem_take hv
      exact hm2 j v j1 (by rw [Nat.zero_add]; exact j2)
     by_cases ck:p1 - t > 0
     ·rw [if_pos ck]
      have G:MH key a.toList b.toList (o1 ++ (a.extract t p1).reverse).toList t q1:=by
       rw [Array.toList_append,ext_r]
       refine hR.g.addA sa (by omega) fun u hu v hv=>?_
       obtain ⟨j,j1,j2,j3⟩:=mem_take_drop hu
       refine Int.le_trans (srt_take sb ey' (by rw [show q1 - 1+1=q1 by omega]; exact hv)) ?_
       exact Int.le_of_lt (hm3 (t+j) u (by omega) (by omega) (by rw [Nat.zero_add]; exact j3))
      by_cases d1:(t == 0)=true
      ·rw [if_pos d1]
       exact wpS_pure ⟨hs4,.inl ⟨_,rfl,doneA G (beq_iff_eq.mp d1)⟩⟩
      rw [if_neg d1]
      have hp:0 < t:=by
       have:¬ t=0:=fun z=>d1 (beq_iff_eq.mpr z)
       omega
      have hle:t <= p1:=by omega
      generalize o1 ++ (a.extract t p1).reverse=o2 at G ⊢
      obtain ⟨p2,ep2⟩:∃ p2,t=p2:=⟨_,rfl⟩
      rw [ep2] at G hp hv hle ⊢
      walk_at "TAIL_C"
     ·rw [if_neg ck]
      have k0:t=p1:=by omega
      rw [k0] at hv
      have G:=hR.g
      have hp:=hR.ha
      have hle:p1 <= p1:=Nat.le_refl _
      obtain ⟨o2,eo2⟩:∃ o2,o1=o2:=⟨_,rfl⟩
      obtain ⟨p2,ep2⟩:∃ p2,p1=p2:=⟨_,rfl⟩
      rw [eo2,ep2] at G ⊢
      rw [ep2] at hp hv hle
      walk_at "TAIL_C"
   ·rintro c st3 ⟨hs3,o1,p1,q1,mg1,ac1,bc1,rfl,hR,hl3⟩
    exact ⟨hs3,.inr ⟨_,_,_,_,_,_,rfl,hR,hl3⟩⟩
   ·rintro c st3 ⟨hs3,⟨r,er,hr⟩ | ⟨p1,q1,o1,mg1,ac1,bc1,rfl,hR,hl3⟩⟩
    ·rw [er]
     exact wpS_pure ⟨hs3,r,rfl,hr⟩
    (try dsimp only)
    refine wpS_bind (s_setG hs3 fun st4 hs4=>?_)
    exact wpS_pure ⟨hs4,_,_,_,_,rfl,hR,by omega⟩
 ·rintro c st1 ⟨hs1,ia,ib,out,mg,rfl,hM,hlen⟩
  have:=Nat.max_eq_right (Nat.zero_le (a.size+b.size))
  have:=hM.ha
  have:=hM.hb
  omega
 ·rintro c st1 ⟨hs1,r,er,hr⟩
  (try dsimp only)
  rw [er]
  exact wpS_pure (h r st1 hs1 hr)
end
section
variable {prog:Program}{w:World}{A:Around}{E:Value -> Shared -> Prop}{s:Shared}{κ:SortKind}{mem:Keyed -> Prop}{key:Keyed -> Int}{st:SortSt}{a0 xs:Array Keyed}{pd:Array (Nat × Nat × Nat)}{lo nrem:Nat}
def Kx (key:Keyed -> Int)(xs:Array Keyed)(i:Nat):Int:=match xs[i]? with
 | some p=>key p
 | none=>0
theorem kx_eq {ys:Array Keyed}{i j:Nat}(h:xs[i]? = ys[j]?):Kx key xs i=Kx key ys j:=by unfold Kx; rw [h]
def SegS (key:Keyed -> Int)(xs:Array Keyed)(lo hi:Nat):Prop:=∀ i j,lo <= i -> i <= j -> j < hi -> Kx key xs i <= Kx key xs j
def SegD (key:Keyed -> Int)(xs:Array Keyed)(lo hi:Nat):Prop:=∀ i j,lo <= i -> i <= j -> j < hi -> Kx key xs j <= Kx key xs i
theorem kx_mirror {i j:Nat}(hj:j <= xs.size)(k:Nat):Kx key (mirror xs i j ((j - i) / 2)) k=if i <= k /\ k < j then Kx key xs (i+j - 1 - k) else Kx key xs k:=by
 have e:=getElem?_mirror_all (i:=i) hj k
 by_cases h1:i <= k /\ k < j
 ·rw [if_pos h1] at e ⊢; exact kx_eq e
 ·rw [if_neg h1] at e ⊢; exact kx_eq e
theorem kx_mirror_same {i j:Nat}(hj:j <= xs.size)(heq:∀ k,i <= k -> k < j -> Kx key xs k=Kx key xs (j - 1))(k:Nat):Kx key (mirror xs i j ((j - i) / 2)) k=Kx key xs k:=by
 rw [kx_mirror hj]
 split
 ·rw [heq _ (by omega) (by omega),heq k (by omega) (by omega)]
 ·rfl
theorem kx_bubble {src d:Nat}(hs:src < xs.size)(hd:d <= src)(k:Nat) :
  Kx key (bubble xs src d) k=if k=src - d then Kx key xs src else if src - d < k /\ k <= src then Kx key xs (k - 1) else Kx key xs k:=by
 have e:=getElem?_bubble hs d hd k
 by_cases h1:k=src - d
 ·rw [if_pos h1] at e ⊢; exact kx_eq e
 ·rw [if_neg h1] at e ⊢
  by_cases h2:src - d < k /\ k <= src
  ·rw [if_pos h2] at e ⊢; exact kx_eq e
  ·rw [if_neg h2] at e ⊢; exact kx_eq e
theorem SegS.ext {k:Nat}(h:SegS key xs lo k)(hk:lo+1 <= k)(hl:Kx key xs (k - 1) <= Kx key xs k):SegS key xs lo (k+1):=fun i j h1 hij hj=>by
 by_cases z:j=k
 ·by_cases y:i=j
  ·rw [y]; exact Int.le_refl _
  ·rw [z]; exact Int.le_trans (h i (k - 1) h1 (by omega) (by omega)) hl
 ·exact h i j h1 hij (by omega)
theorem SegD.ext {k:Nat}(h:SegD key xs lo k)(hk:lo+1 <= k)(hl:Kx key xs k <= Kx key xs (k - 1)):SegD key xs lo (k+1):=fun i j h1 hij hj=>by
 by_cases z:j=k
 ·by_cases y:i=j
  ·rw [y]; exact Int.le_refl _
  ·rw [z]; exact Int.le_trans hl (h i (k - 1) h1 (by omega) (by omega))
 ·exact h i j h1 hij (by omega)
structure SX (κ:SortKind) (a0:Array Keyed) (pd:Array (Nat × Nat × Nat)) (lo:Nat) (st:SortSt):Prop where
 kind:kindOf st = κ
 fail:failedOf st=none
 pend:pendingOf st=pd
 perm:(arrOf st).Perm a0
 pre:∀ i,i < lo -> (arrOf st)[i]? = a0[i]?
theorem SX.size (h:SX κ a0 pd lo st):(arrOf st).size=a0.size:=h.perm.size_eq
theorem SX.setA (h:SX κ a0 pd lo st)(hp:xs.Perm (arrOf st))(hx:∀ i,i < lo -> xs[i]? = (arrOf st)[i]?):SX κ a0 pd lo (setArr st xs) :=
 ⟨h.kind,h.fail,h.pend,hp.trans h.perm,fun i hi=>(hx i hi).trans (h.pre i hi)⟩
theorem SX.mir (h:SX κ a0 pd lo st){i j:Nat}(hi:lo <= i)(hj:j <= a0.size):SX κ a0 pd lo (setArr st (mirror (arrOf st) i j ((j - i) / 2))) :=
 h.setA (mirror_perm _ _ _ _) fun k hk=>by rw [getElem?_mirror_all (by rw [h.size]; exact hj),if_neg (by omega)]
theorem SX.bub (h:SX κ a0 pd lo st){src d:Nat}(hs:src < a0.size)(hd:lo+d <= src):SX κ a0 pd lo (setArr st (bubble (arrOf st) src d)) :=
 h.setA (bubble_perm _ _ _) fun k hk=>by rw [getElem?_bubble (by rw [h.size]; exact hs) d (by omega),if_neg (by omega),if_neg (by omega)]
theorem SX.get (h:SX κ a0 pd lo st)(hm:∀ x ∈ a0.toList,mem x){i:Nat}(hi:i < a0.size):∃ x,(arrOf st)[i]? = some x /\ mem x /\ Kx key (arrOf st) i=key x:=by
 obtain ⟨x,e1,e2⟩:=s_at (a:=arrOf st) (i:=i) (by rw [h.size]; exact hi)
 refine ⟨x,e1,hm x ((Array.perm_iff_toList_perm.mp h.perm).mem_iff.mp (qE e2)),?_⟩
 unfold Kx
 rw [e1]
theorem s_ltK {i j:Nat}{Q:Option Bool -> SortSt -> Prop}(hc:SCmp prog w A s κ mem key)(hm:∀ x ∈ a0.toList,mem x)(hB:SX κ a0 pd lo st)(hi:i < a0.size)(hj:j < a0.size)(h:Q (some (decide (Kx key (arrOf st) i < Kx key (arrOf st) j))) st):wpS (model prog w) A E s (ltAt' i j) Q st:=by
 obtain ⟨x,e1,e2,e3⟩:=hB.get (key:=key) hm hi
 obtain ⟨y,f1,f2,f3⟩:=hB.get (key:=key) hm hj
 rw [e3,f3] at h
 rw [ltAt'_eq]
 refine wpS_bind (wpS_get ?_)
 refine wpS_bind (s_elem e1 (wpS_bind (s_elem f1 ?_)))
 exact s_lt hc hB.kind e2 f2 h
theorem asc_gen {a:Nat}{F:Nat -> AscSt -> StateT SortSt Sem (ForInStep AscSt)}{Q:AscSt -> SortSt -> Prop}(ha:1 <= a)(han:a <= nrem)(hs:SegS key (arrOf st) lo (lo+a))
  (hF:∀ i n (Q':ForInStep AscSt -> SortSt -> Prop),1 <= n -> n < nrem -> (if Kx key (arrOf st) (lo+n) < Kx key (arrOf st) (lo+n - 1) then Q' (.done (none,n)) st else Q' (.yield (none,n+1)) st) -> wpS (model prog w) A E s (F i (none,n)) Q' st)
  (h:∀ n,a <= n -> n <= nrem -> SegS key (arrOf st) lo (lo+n) -> (n=nrem \/ Kx key (arrOf st) (lo+n) < Kx key (arrOf st) (lo+n - 1)) -> Q (none,n) st):wpS (model prog w) A E s (forIn [a:nrem] (none,a) F) Q st:=by
 refine wpS_forRange (I:=fun x c st'=>st'=st /\ c=(none,x) /\ SegS key (arrOf st) lo (lo+x)) ?_ ?_ ⟨rfl,rfl,hs⟩
 ·rintro x c st' hax hxn ⟨rfl,rfl,hs'⟩
  refine hF x x _ (by omega) hxn ?_
  by_cases z:Kx key (arrOf st') (lo+x) < Kx key (arrOf st') (lo+x - 1)
  ·rw [if_pos z]
   exact h x hax (by omega) hs' (.inr z)
  ·rw [if_neg z]
   exact ⟨rfl,rfl,hs'.ext (by omega) (by omega)⟩
 ·rintro c st' ⟨rfl,rfl,hs'⟩
  rw [show max a nrem=nrem by omega] at hs' ⊢
  exact h nrem han (Nat.le_refl _) hs' (.inl rfl)
theorem desc_gen {a:Nat}{F:Nat -> DescSt -> StateT SortSt Sem (ForInStep DescSt)}{Q:DescSt -> SortSt -> Prop}(hB:SX κ a0 pd lo st)(hn:lo+nrem <= a0.size)(ha:1 <= a)(han:a <= nrem)(hs:SegD key (arrOf st) lo (lo+a))
  (hF:∀ i n q st' (Q':ForInStep DescSt -> SortSt -> Prop),SX κ a0 pd lo st' -> 1 <= n -> n < nrem -> (if Kx key (arrOf st') (lo+n) < Kx key (arrOf st') (lo+n - 1) then (if q > 0 then Q' (.yield (none,n+1,0)) (setArr st' (mirror (arrOf st') (lo+n - (q+1)) (lo+n) ((lo+n - (lo+n - (q+1))) / 2))) else Q' (.yield (none,n+1,0)) st') else if Kx key (arrOf st') (lo+n - 1) < Kx key (arrOf st') (lo+n) then Q' (.done (none,n,q)) st' else Q' (.yield (none,n+1,q+1)) st') -> wpS (model prog w) A E s (F i (none,n,q)) Q' st')
  (h:∀ m q st',SX κ a0 pd lo st' -> a <= m -> m <= nrem -> SegD key (arrOf st') lo (lo+m) -> q+1 <= m -> (∀ i,lo+m - (q+1) <= i -> i < lo+m -> Kx key (arrOf st') i=Kx key (arrOf st') (lo+m - 1)) -> Q (none,m,q) st'):wpS (model prog w) A E s (forIn [a:nrem] (none,a,0) F) Q st:=by
 refine wpS_forRange (I:=fun x c st'=>∃ q,c=(none,x,q) /\ SX κ a0 pd lo st' /\ SegD key (arrOf st') lo (lo+x) /\ q+1 <= x /\ (∀ i,lo+x - (q+1) <= i -> i < lo+x -> Kx key (arrOf st') i=Kx key (arrOf st') (lo+x - 1))) ?_ ?_ ⟨0,rfl,hB,hs,by omega,fun i h1 h2=>by congr 1; omega⟩
 ·rintro x c st' hax hxn ⟨q,rfl,hB',hs',hq,he⟩
  refine hF x x q st' _ hB' (by omega) hxn ?_
  have hsz:lo+x <= (arrOf st').size:=by rw [hB'.size]; omega
  by_cases z:Kx key (arrOf st') (lo+x) < Kx key (arrOf st') (lo+x - 1)
  ·rw [if_pos z]
   have s1:SegD key (arrOf st') lo (lo+x+1):=hs'.ext (by omega) (by omega)
   by_cases y:q > 0
   ·rw [if_pos y]
    refine ⟨0,rfl,hB'.mir (by omega) (by omega),fun i j h1 h2 h3=>?_,by omega,fun i h1 h2=>by congr 1; omega⟩
    show Kx key (mirror (arrOf st') _ _ _) j <= Kx key (mirror (arrOf st') _ _ _) i
    rw [kx_mirror_same hsz he,kx_mirror_same hsz he]
    exact s1 i j h1 h2 (by omega)
   ·rw [if_neg y]
    exact ⟨0,rfl,hB',s1,by omega,fun i h1 h2=>by congr 1; omega⟩
  ·rw [if_neg z]
   by_cases y:Kx key (arrOf st') (lo+x - 1) < Kx key (arrOf st') (lo+x)
   ·rw [if_pos y]
    exact h x q st' hB' hax (by omega) hs' hq he
   ·rw [if_neg y]
    have heq:Kx key (arrOf st') (lo+x)=Kx key (arrOf st') (lo+x - 1):=by omega
    refine ⟨q+1,rfl,hB',hs'.ext (by omega) (by omega),by omega,fun i h1 h2=>?_⟩
    rw [show lo+(x+1) - 1=lo+x by omega]
    by_cases hix:i=lo+x
    ·rw [hix]
    ·rw [heq]; exact he i (by omega) (by omega)
 ·rintro c st' ⟨q,rfl,hB',hs',hq,he⟩
  rw [show max a nrem=nrem by omega] at hs' hq he ⊢
  exact h nrem q st' hB' han (Nat.le_refl _) hs' hq he
set_option hygiene false in
local macro_rules | `(tactic| walk_at "ASC_STEP")=>`(tactic| (
 intro i n Q' n1 n2 hQ
 (try dsimp only)
 refine wpS_bind (s_ltK hc hm hB' (by omega) (by omega) ?_)
 (try dsimp only)
 split at hQ
 ·rename_i z
  rw [decide_eq_true z,if_pos rfl]
  exact wpS_pure hQ
 ·rename_i z
  rw [decide_eq_false z,if_neg (by decide)]
  exact wpS_pure hQ))
set_option hygiene false in
local macro_rules | `(tactic| walk_at "TAIL_3")=>`(tactic| (
 refine wpS_bind (wpS_reverse ?_)
 have hB':=hB3.mir (i:=lo) (j:=lo+m) (Nat.le_refl _) (by omega)
 have hsz:lo+m <= (arrOf st3).size:=by rw [hB3.size]; omega
 refine wpS_bind (asc_gen (key:=key) (lo:=lo) (nrem:=nrem) (by omega) hm2 ?_ ?_ fun k k1 k2 k3 k4=>?_)
 ·intro i j h1 h2 h3
  show Kx key (mirror (arrOf st3) _ _ _) i <= Kx key (mirror (arrOf st3) _ _ _) j
  rw [kx_mirror hsz,kx_mirror hsz,if_pos (by omega),if_pos (by omega)]
  exact hs3 _ _ (by omega) (by omega) (by omega)
 ·walk_at "ASC_STEP"
 ·exact wpS_pure (h k _ hB' (by omega) k2 k3)))
set_option hygiene false in
local macro_rules | `(tactic| walk_at "DESC_PART")=>`(tactic| (
 refine wpS_bind (wpS_lift (wpAny_rule ⟨rfl,?_⟩))
 refine wpS_bind (desc_gen (key:=key) hB2 hn (by omega) (by omega) hs2 ?_ fun m q st3 hB3 hm1 hm2 hs3 hq he=>?_)
 ·intro i n q st' Q' hB' n1 n2 hQ
  (try dsimp only)
  refine wpS_bind (s_ltK hc hm hB' (by omega) (by omega) ?_)
  (try dsimp only)
  by_cases z:Kx key (arrOf st') (lo+n) < Kx key (arrOf st') (lo+n - 1)
  ·rw [if_pos z] at hQ
   rw [decide_eq_true z,if_pos rfl]
   by_cases y:q > 0
   ·rw [if_pos y] at hQ ⊢
    exact wpS_bind (wpS_reverse (wpS_pure hQ))
   ·rw [if_neg y] at hQ ⊢
    exact wpS_pure hQ
  ·rw [if_neg z] at hQ
   rw [decide_eq_false z,if_neg (by decide)]
   refine wpS_bind (s_ltK hc hm hB' (by omega) (by omega) ?_)
   (try dsimp only)
   by_cases y:Kx key (arrOf st') (lo+n - 1) < Kx key (arrOf st') (lo+n)
   ·rw [if_pos y] at hQ
    rw [decide_eq_true y,if_pos rfl]
    exact wpS_pure hQ
   ·rw [if_neg y] at hQ
    rw [decide_eq_false y,if_neg (by decide)]
    exact wpS_pure hQ
 ·(try dsimp only)
  by_cases y:q > 0
  ·rw [if_pos y]
   refine wpS_bind (wpS_reverse ?_)
   have hsz0:lo+m <= (arrOf st3).size:=by rw [hB3.size]; omega
   have hs3':SegD key (arrOf (setArr st3 (mirror (arrOf st3) (lo+m - (q+1)) (lo+m) ((lo+m - (lo+m - (q+1))) / 2)))) lo (lo+m):=fun i j h1 h2 h3=>by
    show Kx key (mirror (arrOf st3) _ _ _) j <= Kx key (mirror (arrOf st3) _ _ _) i
    rw [kx_mirror_same hsz0 he,kx_mirror_same hsz0 he]
    exact hs3 i j h1 h2 h3
   have hB3':=hB3.mir (i:=lo+m - (q+1)) (j:=lo+m) (by omega) (by omega)
   generalize setArr st3 (mirror (arrOf st3) (lo+m - (q+1)) (lo+m) ((lo+m - (lo+m - (q+1))) / 2))=st3 at hB3' hs3' ⊢
   have hB3:=hB3'
   have hs3:=hs3'
   walk_at "TAIL_3"
  ·rw [if_neg y]
   walk_at "TAIL_3"))
theorem countRun_ok {Q:Option Nat -> SortSt -> Prop}(hc:SCmp prog w A s κ mem key)(hm:∀ x ∈ a0.toList,mem x)(hB:SX κ a0 pd lo st)(h1:1 <= nrem)(hn:lo+nrem <= a0.size)
  (h:∀ m st',SX κ a0 pd lo st' -> 1 <= m -> m <= nrem -> SegS key (arrOf st') lo (lo+m) -> Q (some m) st'):wpS (model prog w) A E s (countRun' lo nrem) Q st:=by
 rw [countRun'_eq]
 have s1:SegS key (arrOf st) lo (lo+1):=fun i j a b c=>by
  have:i=j:=by omega
  rw [this]; exact Int.le_refl _
 have hB':=hB
 refine wpS_bind (asc_gen (key:=key) (lo:=lo) (nrem:=nrem) (Nat.le_refl _) h1 s1 ?_ fun n n1 n2 hs hor=>?_)
 ·walk_at "ASC_STEP"
 (try dsimp only)
 by_cases hnn:(n == nrem)=true
 ·rw [if_pos hnn]
  exact wpS_pure (h n st hB n1 n2 hs)
 rw [if_neg hnn]
 have hne:n ≠ nrem:=fun z=>hnn (beq_iff_eq.mpr z)
 have hlt:=hor.resolve_left hne
 by_cases hgt:n > 1
 ·rw [if_pos hgt]
  refine wpS_bind (s_ltK hc hm hB (by omega) (by omega) ?_)
  (try dsimp only)
  by_cases hr:Kx key (arrOf st) lo < Kx key (arrOf st) (lo+n - 1)
  ·rw [decide_eq_true hr,if_pos rfl]
   exact wpS_pure (h n st hB n1 n2 hs)
  ·rw [decide_eq_false hr,if_neg (by decide)]
   have hsz:lo+n <= (arrOf st).size:=by rw [hB.size]; omega
   have hall:∀ k,lo <= k -> k < lo+n -> Kx key (arrOf st) k=Kx key (arrOf st) (lo+n - 1):=fun k k1 k2=>by
    have a1:=hs lo k (Nat.le_refl _) k1 k2
    have a2:=hs k (lo+n - 1) k1 (by omega) (by omega)
    omega
   refine wpS_bind (wpS_reverse ?_)
   have hB2:=hB.mir (i:=lo) (j:=lo+n) (Nat.le_refl _) (by omega)
   have hs2:SegD key (arrOf (setArr st (mirror (arrOf st) lo (lo+n) ((lo+n - lo) / 2)))) lo (lo+(n+1)):=fun i j h1 h2 h3=>by
    show Kx key (mirror (arrOf st) _ _ _) j <= Kx key (mirror (arrOf st) _ _ _) i
    rw [kx_mirror_same hsz hall,kx_mirror_same hsz hall]
    by_cases y:i=j
    ·rw [y]; exact Int.le_refl _
    ·rw [hall i h1 (by omega)]
     by_cases x:j=lo+n
     ·rw [x]; omega
     ·rw [hall j (by omega) (by omega)]; exact Int.le_refl _
   walk_at "DESC_PART"
 ·rw [if_neg hgt]
  have hn1:n=1:=by omega
  subst hn1
  have hB2:=hB
  have hs2:SegD key (arrOf st) lo (lo+(1+1)):=fun i j h1 h2 h3=>by
   by_cases y:i=j
   ·rw [y]; exact Int.le_refl _
   ·have e1:i=lo+1 - 1:=by omega
    have e2:j=lo+1:=by omega
    rw [e1,e2]
    omega
  walk_at "DESC_PART"
theorem binarySort_ok {n ok:Nat}{Q:Bool -> SortSt -> Prop}(hc:SCmp prog w A s κ mem key)(hm:∀ x ∈ a0.toList,mem x)(hB:SX κ a0 pd lo st)(hn:lo+n <= a0.size)(hok:ok <= n)(hs:SegS key (arrOf st) lo (lo+ok))
  (h:∀ st',SX κ a0 pd lo st' -> SegS key (arrOf st') lo (lo+n) -> Q true st'):wpS (model prog w) A E s (binarySort' lo n ok) Q st:=by
 rw [binarySort'_eq]
 refine wpS_bind (wpS_mono (wpS_forRange (I:=fun k c st'=>c=(none,()) /\ SX κ a0 pd lo st' /\ SegS key (arrOf st') lo (lo+min k n))
  (Q:=fun c st'=>c=(none,()) /\ SX κ a0 pd lo st' /\ SegS key (arrOf st') lo (lo+n)) ?step ?fin ?init) ?post)
 case post =>
  rintro c st' ⟨rfl,hB',hs'⟩
  exact wpS_pure (h st' hB' hs')
 case init =>
  refine ⟨rfl,hB,fun i j hi hij hj=>?_⟩
  by_cases h1:ok=0
  ·have:i=j:=by omega
   subst this; exact Int.le_refl _
  ·exact hs i j hi hij (by omega)
 case fin =>
  rintro c st' ⟨hc,hB',hs'⟩
  refine ⟨hc,hB',?_⟩
  rwa [show min (max (max ok 1) n) n=n by omega] at hs'
 case step =>
  rintro k c st' hak hkn ⟨rfl,hB',hs'⟩
  rw [show min k n=k by omega] at hs'
  have hk:lo+k < a0.size:=by omega
  refine wpS_bind (wpS_mono (wpS_forRange (I:=fun x c st''=>st''=st' /\ ∃ l r,c=(none,l,r) /\ l <= r /\ r <= k /\ r - l <= k - x /\
    (∀ i,i < l -> Kx key (arrOf st') (lo+i) <= Kx key (arrOf st') (lo+k)) /\ (∀ i,r <= i -> i < k -> Kx key (arrOf st') (lo+k) < Kx key (arrOf st') (lo+i)))
   (Q:=fun c st''=>st''=st' /\ ∃ l r,c=(none,l,r) /\ l <= k /\
    (∀ i,i < l -> Kx key (arrOf st') (lo+i) <= Kx key (arrOf st') (lo+k)) /\ (∀ i,l <= i -> i < k -> Kx key (arrOf st') (lo+k) < Kx key (arrOf st') (lo+i))) ?istep ?ifin ?iinit) ?ipost)
  case iinit=>exact ⟨rfl,0,k,rfl,by omega,by omega,by omega,fun i hi=>by omega,fun i h1 h2=>by omega⟩
  case ifin =>
   rintro c st'' ⟨rfl,l,r,rfl,hlr,hrk,hm,hlo,hhi⟩
   have:l=r:=by omega
   subst this
   exact ⟨rfl,l,l,rfl,hrk,hlo,hhi⟩
  case istep =>
   rintro x c st'' _ hxk ⟨rfl,l,r,rfl,hlr,hrk,hm0,hlo,hhi⟩
   dsimp only
   by_cases hge:l ≥ r
   ·rw [if_pos hge]
    have:l=r:=by omega
    subst this
    exact wpS_pure ⟨rfl,l,l,rfl,hrk,hlo,hhi⟩
   ·rw [if_neg hge]
    refine wpS_bind (s_ltK hc hm hB' hk (by omega) ?_)
    by_cases hless:Kx key (arrOf st'') (lo+k) < Kx key (arrOf st'') (lo+(l+r) / 2)
    ·simp only [hless,decide_true,if_true]
     refine wpS_pure ⟨rfl,l,(l+r) / 2,rfl,by omega,by omega,by omega,hlo,fun i h1 h2=>?_⟩
     exact Int.lt_of_lt_of_le hless (hs' _ _ (by omega) (by omega) (by omega))
    ·simp only [hless,decide_false,Bool.false_eq_true,if_false]
     refine wpS_pure ⟨rfl,(l+r) / 2+1,r,rfl,by omega,by omega,by omega,fun i h1=>?_,hhi⟩
     exact Int.le_trans (hs' (lo+i) (lo+(l+r) / 2) (by omega) (by omega) (by omega)) (Int.not_lt.mp hless)
  case ipost =>
   rintro c st'' ⟨rfl,l,r,rfl,hlk,hlo,hhi⟩
   show wpS _ _ _ _ (do moveDown' (lo+k) (lo+l); pure (ForInStep.yield (none,()))) _ _
   rw [moveDown'_eq]
   refine wpS_bind (wpS_modify (wpS_pure ⟨rfl,hB'.bub hk (by omega),?_⟩))
   rw [show min (k+1) n=k+1 by omega]
   have hks:lo+k < (arrOf st'').size:=by rw [hB'.size]; exact hk
   intro i j hi hij hj
   show Kx key (bubble (arrOf st'') (lo+k) (lo+k - (lo+l))) i <= Kx key (bubble (arrOf st'') (lo+k) (lo+k - (lo+l))) j
   rw [kx_bubble hks (by omega),kx_bubble hks (by omega),show lo+k - (lo+k - (lo+l))=lo+l by omega]
   have lo':∀ i,lo <= i -> i < lo+l -> Kx key (arrOf st'') i <= Kx key (arrOf st'') (lo+k):=fun i a b=>by
    have:=hlo (i - lo) (by omega)
    rwa [show lo+(i - lo)=i by omega] at this
   have hi':∀ i,lo+l <= i -> i < lo+k -> Kx key (arrOf st'') (lo+k) < Kx key (arrOf st'') i:=fun i a b=>by
    have:=hhi (i - lo) (by omega) (by omega)
    rwa [show lo+(i - lo)=i by omega] at this
   repeat' split
   all_goals first
    | (exfalso; omega)
    | exact Int.le_refl _
    | exact lo' _ (by omega) (by omega)
    | exact Int.le_of_lt (hi' _ (by omega) (by omega))
    | exact hs' _ _ (by omega) (by omega) (by omega)
end
section
variable {key:Keyed -> Int}
inductive Rns (key:Keyed -> Int):Nat -> List Keyed -> List (Nat × Nat × Nat) -> Prop
 | nil {s:Nat}:Rns key s [] []
 | cons {s p:Nat} {c l:List Keyed} {rs:List (Nat × Nat × Nat)}:c ≠ [] -> Srt key c -> Rns key (s+c.length) l rs -> Rns key s (c ++ l) ((s,c.length,p) :: rs)
theorem Rns.len {s:Nat}{l:List Keyed}{rs:List (Nat × Nat × Nat)}(h:Rns key s l rs):rs.length <= l.length:=by
 induction h with
 | nil=>exact Nat.le_refl _
 | @cons s p c l rs h1 h2 h3 ih =>
  have:=List.length_pos_iff.mpr h1
  rw [qF,List.length_cons]
  omega
theorem Rns.app {l2:List Keyed}{r2:List (Nat × Nat × Nat)}:∀ {r1:List (Nat × Nat × Nat)} {s:Nat} {l1:List Keyed},Rns key s l1 r1 -> Rns key (s+l1.length) l2 r2 -> Rns key s (l1 ++ l2) (r1 ++ r2)
 | _,_,_,.nil,h2=>h2
 | _,s,_,.cons (c:=c) (l:=l) g1 g2 g3,h2=>by
  rw [List.append_assoc,List.cons_append]
  refine .cons g1 g2 (Rns.app g3 ?_)
  rw [qF] at h2
  rw [Nat.add_assoc]
  exact h2
theorem Rns.split:∀ {r1:List (Nat × Nat × Nat)} {r2:List (Nat × Nat × Nat)} {s:Nat} {l:List Keyed},Rns key s l (r1 ++ r2) -> ∃ l1 l2,l=l1 ++ l2 /\ Rns key s l1 r1 /\ Rns key (s+l1.length) l2 r2
 | [],r2,s,l,h=>⟨[],l,rfl,.nil,h⟩
 | r :: r1,r2,s,l,h=>by
  rw [List.cons_append] at h
  cases h with
  | @cons _ p c l rs h1 h2 h3 =>
   obtain ⟨l1,l2,rfl,e2,e3⟩:=Rns.split h3
   refine ⟨c ++ l1,l2,by rw [List.append_assoc],.cons h1 h2 e2,?_⟩
   rw [qF,← Nat.add_assoc]
   exact e3
theorem Rns.pw {pw:Nat}{f:Nat × Nat × Nat -> Nat × Nat × Nat}(hf:∀ a b c,f (a,b,c)=(a,b,pw)):∀ {rs:List (Nat × Nat × Nat)} {s:Nat} {l:List Keyed} (k:Nat),Rns key s l rs -> Rns key s l (rs.modify k f)
 | [],s,l,k,h=>by rw [List.modify_nil]; exact h
 | r :: rs,s,l,0,h=>by
  rw [List.modify_zero_cons]
  cases h with
  | @cons _ p c l rs h1 h2 h3=>rw [hf]; exact .cons h1 h2 h3
 | r :: rs,s,l,k+1,h=>by
  rw [List.modify_succ_cons]
  cases h with
  | @cons _ p c l rs h1 h2 h3=>exact .cons h1 h2 (Rns.pw hf k h3)
theorem Rns.one {s:Nat}{l:List Keyed}{rs:List (Nat × Nat × Nat)}(h:Rns key s l rs)(h1:rs.length <= 1):Srt key l:=by
 cases h with
 | nil=>exact .nil
 | @cons _ p c l rs g1 g2 g3 =>
  cases g3 with
  | nil=>rw [List.append_nil]; exact g2
  | cons _ _ _=>simp at h1
theorem srt_app {a b:List Keyed}(h1:Srt key a)(h2:Srt key b)(h3:Ble key a b):Srt key (a ++ b):=List.pairwise_append.mpr ⟨h1,h2,h3⟩
theorem get_mid {l1 a t:List Keyed}{j:Nat}(h:j < a.length):(l1 ++ (a ++ t))[l1.length+j]? = a[j]?:=by
 rw [qG (Nat.le_add_right _ _),Nat.add_sub_cancel_left,qH h]
theorem wr_list:∀ (m:List Keyed) (arr:Array Keyed) (k j:Nat),k+j+m.length <= arr.size -> ((m.zipIdx j).foldl (fun (a:Array Keyed) (x:Keyed × Nat)=>match x with | (p,j)=>a.setIfInBounds (k+j) p) arr).toList=arr.toList.take (k+j) ++ m ++ arr.toList.drop (k+j+m.length)
 | [],arr,k,j,h=>by
  show arr.toList=_
  rw [List.append_nil]
  exact (List.take_append_drop _ _).symm
 | p :: m,arr,k,j,h=>by
  rw [List.length_cons] at h
  show ((m.zipIdx (j+1)).foldl _ (arr.setIfInBounds (k+j) p)).toList=_
  rw [wr_list m (arr.setIfInBounds (k+j) p) k (j+1) (by rw [Array.size_setIfInBounds]; omega),Array.toList_setIfInBounds]
  have hk:k+j < arr.toList.length:=by rw [Array.length_toList]; omega
  have e1:(arr.toList.set (k+j) p).take (k+(j+1))=arr.toList.take (k+j) ++ [p]:=by
   rw [show k+(j+1)=k+j+1 by omega,List.take_add_one,List.getElem?_set_self hk,List.take_set_of_le (Nat.le_refl _)]
   rfl
  have e2:(arr.toList.set (k+j) p).drop (k+(j+1)+m.length)=arr.toList.drop (k+j+(p :: m).length):=by
   rw [List.drop_set_of_lt (by omega),List.length_cons]
   congr 1
   omega
  rw [e1,e2]
  simp
end
section
variable {prog:Program}{w:World}{A:Around}{E:Value -> Shared -> Prop}{s:Shared}{κ:SortKind}{mem:Keyed -> Prop}{key:Keyed -> Int}{st:SortSt}
theorem wpS_set {M:Model}{σ:Type}{st st':σ}{Q:PUnit -> σ -> Prop}(h:Q ⟨⟩ st'):wpS M A E s (set st':StateT σ Sem PUnit) Q st:=by
 unfold wpS
 rw [StateT.run_set]
 exact wpAny_pure ⟨rfl,h⟩
theorem mergeAt_ok {i p1 p2:Nat}{l1 C D T:List Keyed}{r1 r2:List (Nat × Nat × Nat)}{Q:Bool -> SortSt -> Prop}(hc:SCmp prog w A s κ mem key)(hk:kindOf st = κ)(hf:failedOf st=none)(hm:∀ x ∈ (arrOf st).toList,mem x)(ea:(arrOf st).toList=l1 ++ (C ++ (D ++ T)))
  (ep:(pendingOf st).toList=r1 ++ (l1.length,C.length,p1) :: (l1.length+C.length,D.length,p2) :: r2) (hi:r1.length=i) (sC:Srt key C) (sD:Srt key D) (nC:C ≠ []) (nD:D ≠ [])
  (h:∀ (M:List Keyed) (st':SortSt),M.Perm (C ++ D) -> Srt key M -> kindOf st' = κ -> failedOf st'=none -> (arrOf st').toList=l1 ++ (M ++ T) -> (pendingOf st').toList=r1 ++ (l1.length,C.length+D.length,p1) :: r2 -> Q true st'):wpS (model prog w) A E s (mergeAt' i) Q st:=by
 have lC:=List.length_pos_iff.mpr nC
 have lD:=List.length_pos_iff.mpr nD
 have hsz:(arrOf st).size=l1.length+(C.length+(D.length+T.length)):=by
  rw [← Array.length_toList,ea]
  simp only [qF]
 have g1:(pendingOf st)[i]? = some (l1.length,C.length,p1):=by
  rw [← Array.getElem?_toList,ep,qG (by omega),hi,Nat.sub_self]
  rfl
 have g2:(pendingOf st)[i+1]? = some (l1.length+C.length,D.length,p2):=by
  rw [← Array.getElem?_toList,ep,qG (by omega),show i+1 - r1.length=1 by omega]
  rfl
 have atC:∀ j,j < C.length -> (arrOf st).toList[l1.length+j]? = C[j]?:=fun j hj=>by rw [ea]; exact get_mid hj
 have ea2:(arrOf st).toList=(l1 ++ C) ++ (D ++ T):=by rw [ea,List.append_assoc]
 have atD:∀ j,j < D.length -> (arrOf st).toList[l1.length+C.length+j]? = D[j]?:=fun j hj=>by
  rw [ea2,← qF]
  exact get_mid hj
 have oC:∀ p q x y,l1.length <= p -> p <= q -> q < l1.length+C.length -> (arrOf st).toList[p]? = some x -> (arrOf st).toList[q]? = some y -> key x <= key y:=fun p q x y h1 h2 h3 h4 h5=>by
  have e1:=atC (p - l1.length) (by omega)
  have e2:=atC (q - l1.length) (by omega)
  rw [show l1.length+(p - l1.length)=p by omega,h4] at e1
  rw [show l1.length+(q - l1.length)=q by omega,h5] at e2
  exact srt_at sC (by omega) e1.symm e2.symm
 have oD:∀ p q x y,l1.length+C.length <= p -> p <= q -> q < l1.length+C.length+D.length -> (arrOf st).toList[p]? = some x -> (arrOf st).toList[q]? = some y -> key x <= key y:=fun p q x y h1 h2 h3 h4 h5=>by
  have e1:=atD (p - (l1.length+C.length)) (by omega)
  have e2:=atD (q - (l1.length+C.length)) (by omega)
  rw [show l1.length+C.length+(p - (l1.length+C.length))=p by omega,h4] at e1
  rw [show l1.length+C.length+(q - (l1.length+C.length))=q by omega,h5] at e2
  exact srt_at sD (by omega) e1.symm e2.symm
 have epd:(((pendingOf st).setIfInBounds i (l1.length,C.length+D.length,p1)).eraseIdxIfInBounds (i+1)).toList=r1 ++ (l1.length,C.length+D.length,p1) :: r2:=by
  rw [Array.toList_eraseIdxIfInBounds,Array.toList_setIfInBounds,ep,← hi,List.set_append_right _ _ (Nat.le_refl _),Nat.sub_self,List.set_cons_zero,List.eraseIdx_append_of_length_le (by omega),show r1.length+1 - r1.length=1 by omega]
  rfl
 obtain ⟨b0,eb0,eb0'⟩:=s_at (a:=arrOf st) (i:=l1.length+C.length) (by omega)
 have hb0:D[0]? = some b0:=by
  have:=atD 0 lD
  rw [Nat.add_zero,eb0'] at this
  exact this.symm
 unfold mergeAt'
 refine wpS_bind (wpS_get ?_)
 rw [g1,g2]
 refine wpS_bind (wpS_set ?_)
 refine wpS_bind (s_elem eb0 ?_)
 refine wpS_bind (gallopR (a:=arrOf st) hc hk (hm b0 (qE eb0')) hm (by omega) oC lC fun k hk1 hk2 hk3=>?_)
 (try dsimp only)
 have c1:∀ x ∈ C.take k,key x <= key b0:=fun x hx=>by
  obtain ⟨j,j1,j2⟩:=mem_take hx
  exact hk2 j x j1 (by rw [atC j (by omega)]; exact j2)
 have c2:∀ x ∈ C.drop k,key b0 < key x:=fun x hx=>by
  obtain ⟨j,j1,j2⟩:=mem_drop hx
  exact hk3 (k+j) x (by omega) j1 (by rw [atC _ j1]; exact j2)
 have d0:∀ y ∈ D,key b0 <= key y:=fun y hy=>srt_drop sD hb0 (by rw [List.drop_zero]; exact hy)
 by_cases z1:(C.length - k == 0)=true
 ·rw [if_pos z1]
  have ek:C.take k=C:=List.take_of_length_le (by have:=beq_iff_eq.mp z1; omega)
  rw [ek] at c1
  exact wpS_pure (h (C ++ D) _ (List.Perm.refl _) (srt_app sC sD fun x hx y hy=>Int.le_trans (c1 x hx) (d0 y hy)) hk hf (by rw [List.append_assoc]; exact ea) epd)
 rw [if_neg z1]
 have z1':k < C.length:=by
  have:¬ C.length - k=0:=fun z=>z1 (beq_iff_eq.mpr z)
  omega
 obtain ⟨al,eal,eal'⟩:=s_at (a:=arrOf st) (i:=l1.length+k+(C.length - k) - 1) (by omega)
 have hal:C[C.length - 1]? = some al:=by
  rw [← atC (C.length - 1) (by omega),show l1.length+(C.length - 1)=l1.length+k+(C.length - k) - 1 by omega]
  exact eal'
 refine wpS_bind (s_elem eal ?_)
 refine wpS_bind (gallopL (a:=arrOf st) hc hk (hm al (qE eal')) hm (by omega) oD (by omega) fun n hn1 hn2 hn3=>?_)
 (try dsimp only)
 have cl:∀ x ∈ C,key x <= key al:=fun x hx=>srt_take sC hal (by rw [show C.length - 1+1=C.length by omega,List.take_length]; exact hx)
 have d1:∀ y ∈ D.take n,key y <= key al:=fun y hy=>by
  obtain ⟨j,j1,j2⟩:=mem_take hy
  exact Int.le_of_lt (hn2 j y j1 (by rw [atD j (by omega)]; exact j2))
 have d2:∀ y ∈ D.drop n,key al <= key y:=fun y hy=>by
  obtain ⟨j,j1,j2⟩:=mem_drop hy
  exact hn3 (n+j) y (by omega) j1 (by rw [atD _ j1]; exact j2)
 by_cases z2:(n == 0)=true
 ·rw [if_pos z2]
  rw [beq_iff_eq.mp z2,List.drop_zero] at d2
  exact wpS_pure (h (C ++ D) _ (List.Perm.refl _) (srt_app sC sD fun x hx y hy=>Int.le_trans (cl x hx) (d2 y hy)) hk hf (by rw [List.append_assoc]; exact ea) epd)
 rw [if_neg z2]
 have z2':0 < n:=by
  have:¬ n=0:=fun z=>z2 (beq_iff_eq.mpr z)
  omega
 have ex:((arrOf st).extract (l1.length+k) (l1.length+C.length)).toList=C.drop k:=by
  rw [Array.toList_extract,List.extract_eq_take_drop,ea,List.drop_append,List.drop_eq_nil_of_le (by omega),List.nil_append,show l1.length+k - l1.length=k by omega,List.drop_append,show k - C.length=0 by omega,List.drop_zero]
  rw [show l1.length+C.length - (l1.length+k)=(C.drop k).length by rw [List.length_drop]; omega,List.take_left]
 have ey:((arrOf st).extract (l1.length+C.length) (l1.length+C.length+n)).toList=D.take n:=by
  rw [ext_k,ea2,← qF,List.drop_left,List.take_append_of_le_length hn1]
 have mx:∀ x ∈ ((arrOf st).extract (l1.length+k) (l1.length+C.length)).toList,mem x:=fun x hx=>by
  rw [ex] at hx
  exact hm x (by rw [ea]; exact qK _ (List.mem_append_left _ (List.mem_of_mem_drop hx)))
 have my:∀ x ∈ ((arrOf st).extract (l1.length+C.length) (l1.length+C.length+n)).toList,mem x:=fun x hx=>by
  rw [ey] at hx
  exact hm x (by rw [ea2]; exact qK _ (List.mem_append_left _ (List.mem_of_mem_take hx)))
 have sx:Srt key ((arrOf st).extract (l1.length+k) (l1.length+C.length)).toList:=by
  rw [ex]; exact List.Pairwise.sublist (List.drop_sublist _ _) sC
 have sy:Srt key ((arrOf st).extract (l1.length+C.length) (l1.length+C.length+n)).toList:=by
  rw [ey]; exact List.Pairwise.sublist (List.take_sublist _ _) sD
 have nx:((arrOf st).extract (l1.length+k) (l1.length+C.length)).size=C.length - k:=by
  rw [← Array.length_toList,ex,List.length_drop]
 have ny:((arrOf st).extract (l1.length+C.length) (l1.length+C.length+n)).size=n:=by
  rw [← Array.length_toList,ey,qO]; omega
 have hlo:∀ x,((arrOf st).extract (l1.length+C.length) (l1.length+C.length+n)).toList[0]? = some x -> ∀ y ∈ ((arrOf st).extract (l1.length+k) (l1.length+C.length)).toList,key x <= key y:=fun x hx y hy=>by
  rw [ey,List.getElem?_take_of_lt z2',hb0] at hx
  cases hx
  rw [ex] at hy
  exact Int.le_of_lt (c2 y hy)
 have hhi:∀ x ∈ ((arrOf st).extract (l1.length+C.length) (l1.length+C.length+n)).toList,∀ y,((arrOf st).extract (l1.length+k) (l1.length+C.length)).toList[((arrOf st).extract (l1.length+k) (l1.length+C.length)).size - 1]? = some y -> key x <= key y:=fun x hx y hy=>by
  rw [nx,ex,List.getElem?_drop,show k+(C.length - k - 1)=C.length - 1 by omega,hal] at hy
  cases hy
  rw [ey] at hx
  exact d1 x hx
 have fin:∀ (r:Array Keyed) (st':SortSt),kindOf st'=kindOf st -> arrOf st'=arrOf st -> (pendingOf st').toList=r1 ++ (l1.length,C.length+D.length,p1) :: r2 -> failedOf st'=failedOf st -> Mgd key (C.drop k) (D.take n) r.toList ->
   Q (failedOf st').isNone (SortSt.mk' (kindOf st') (List.foldl (fun (a:Array Keyed) (x:Keyed × Nat)=>match x with | (p,j)=>a.setIfInBounds (l1.length+k+j) p) (arrOf st') r.toList.zipIdx) (pendingOf st') (gallopOf st') (failedOf st')):=fun r st' e1 e2 e3 e4 hr=>by
  rw [e4,hf]
  have lr:r.toList.length=C.length - k+n:=by
   rw [hr.1.length_eq,qF,List.length_drop,qO]; omega
  refine h (C.take k ++ (r.toList ++ D.drop n)) _ ?_ ?_ (e1.trans hk) rfl ?_ e3
  ·have e5:C ++ D=C.take k ++ ((C.drop k ++ D.take n) ++ D.drop n):=by
    rw [List.append_assoc (C.drop k),List.take_append_drop,← List.append_assoc,List.take_append_drop]
   rw [e5]
   exact List.Perm.append_left _ (hr.1.append_right _)
  ·have sp:Srt key (C.take k ++ C.drop k):=by rw [List.take_append_drop]; exact sC
   have sq:Srt key (D.take n ++ D.drop n):=by rw [List.take_append_drop]; exact sD
   have sp2:=List.pairwise_append.mp sp
   have sq2:=List.pairwise_append.mp sq
   refine srt_app sp2.1 (srt_app hr.2 sq2.2.1 fun x hx y hy=>?_) fun x hx y hy=>?_
   ·rcases List.mem_append.mp (hr.1.mem_iff.mp hx) with z | z
    ·exact Int.le_trans (cl x (List.mem_of_mem_drop z)) (d2 y hy)
    ·exact sq2.2.2 x z y hy
   ·rcases List.mem_append.mp hy with z | z
    ·rcases List.mem_append.mp (hr.1.mem_iff.mp z) with v | v
     ·exact sp2.2.2 x hx y v
     ·exact Int.le_trans (c1 x hx) (d0 y (List.mem_of_mem_take v))
    ·exact Int.le_trans (c1 x hx) (d0 y (List.mem_of_mem_drop z))
  ·show (List.foldl _ (arrOf st') (r.toList.zipIdx 0)).toList=_
   rw [wr_list r.toList (arrOf st') (l1.length+k) 0 (by rw [e2,lr,hsz]; omega),e2,lr,Nat.add_zero]
   have t1:(arrOf st).toList.take (l1.length+k)=l1 ++ C.take k:=by
    rw [ea,List.take_append,List.take_of_length_le (by omega),show l1.length+k - l1.length=k by omega,List.take_append_of_le_length (by omega)]
   have t2:(arrOf st).toList.drop (l1.length+k+(C.length - k+n))=D.drop n ++ T:=by
    rw [ea2,List.drop_append,List.drop_eq_nil_of_le (by rw [qF]; omega),List.nil_append,qF,show l1.length+k+(C.length - k+n) - (l1.length+C.length)=n by omega,List.drop_append_of_le_length hn1]
   rw [t1,t2]
   simp only [List.append_assoc]
 by_cases z3:C.length - k <= n
 ·rw [if_pos z3]
  refine wpS_bind (mergeLo_ok hc hk mx my sx sy (by rw [nx]; omega) (by rw [ny]; omega) hlo hhi fun r st' hs hr=>?_)
  rw [ex,ey] at hr
  refine wpS_bind (wpS_modify (wpS_bind (wpS_get (wpS_pure ?_))))
  exact fin r st' hs.kind hs.arr (by rw [hs.pend]; exact epd) hs.fail hr
 ·rw [if_neg z3]
  refine wpS_bind (mergeHi_ok hc hk mx my sx sy (by rw [nx]; omega) (by rw [ny]; omega) hlo hhi fun r st' hs hr=>?_)
  rw [ex,ey] at hr
  refine wpS_bind (wpS_modify (wpS_bind (wpS_get (wpS_pure ?_))))
  exact fin r st' hs.kind hs.arr (by rw [hs.pend]; exact epd) hs.fail hr
end
section
variable {prog:Program}{w:World}{A:Around}{E:Value -> Shared -> Prop}{s:Shared}{κ:SortKind}{mem:Keyed -> Prop}{key:Keyed -> Int}{st:SortSt}{it:Array Keyed}{D T:List Keyed}
structure SR (key:Keyed -> Int) (κ:SortKind) (it:Array Keyed) (D T:List Keyed) (st:SortSt):Prop where
 kind:PyProof.Rows.kindOf st = κ
 fail:failedOf st=none
 perm:(arrOf st).Perm it
 ea:(arrOf st).toList=D ++ T
 rn:Rns key 0 D (pendingOf st).toList
theorem SR.mm (h:SR key κ it D T st)(hm:∀ x ∈ it.toList,mem x):∀ x ∈ (arrOf st).toList,mem x:=fun x hx=>hm x ((Array.perm_iff_toList_perm.mp h.perm).mem_iff.mp hx)
theorem cut_two {α:Type}{l:List α}{i:Nat}(h:i+1 < l.length):∃ r1 x y r2,l=r1 ++ x :: y :: r2 /\ r1.length=i:=by
 refine ⟨l.take i,l[i],l[i+1],l.drop (i+2),?_,by rw [qO]; omega⟩
 rw [← List.drop_eq_getElem_cons,← List.drop_eq_getElem_cons,List.take_append_drop]
theorem merge_step {i:Nat}{Q:Bool -> SortSt -> Prop}(hc:SCmp prog w A s κ mem key)(hm:∀ x ∈ it.toList,mem x)(hS:SR key κ it D T st)(hi:i+1 < (pendingOf st).size)
  (h:∀ D' st',SR key κ it D' T st' -> D'.length=D.length -> (pendingOf st').size+1=(pendingOf st).size -> Q true st'):wpS (model prog w) A E s (mergeAt' i) Q st:=by
 obtain ⟨r1,x,y,r2,er,hr1⟩:=cut_two (l:=(pendingOf st).toList) (i:=i) (by rw [Array.length_toList]; exact hi)
 have hrn:=hS.rn
 rw [er] at hrn
 obtain ⟨l1,l2,eD,n1,n2⟩:=hrn.split
 rw [Nat.zero_add] at n2
 cases n2 with
 | @cons _ p1 c l rs c1 c2 c3 =>
  cases c3 with
  | @cons _ p2 d l' rs' d1 d2 d3 =>
   refine mergeAt_ok (l1:=l1) (C:=c) (D:=d) (T:=l' ++ T) (r1:=r1) (r2:=r2) (p1:=p1) (p2:=p2) hc hS.kind hS.fail (hS.mm hm) ?_ er hr1 c2 d2 c1 d1 fun M st' m1 m2 m3 m4 m5 m6=>?_
   ·rw [hS.ea,eD]
    simp only [List.append_assoc]
   ·have lM:M.length=c.length+d.length:=by rw [m1.length_eq,qF]
    have nM:M ≠ []:=fun z=>by
     have:=List.length_pos_iff.mpr c1
     rw [z,List.length_nil] at lM
     omega
    refine h (l1 ++ (M ++ l')) st' ⟨m3,m4,?_,?_,?_⟩ ?_ ?_
    ·refine Array.Perm.trans ?_ hS.perm
     rw [Array.perm_iff_toList_perm,m5,hS.ea,eD]
     simp only [List.append_assoc]
     refine List.Perm.append_left _ ?_
     rw [← List.append_assoc c d]
     exact m1.append_right _
    ·rw [m5]
     simp only [List.append_assoc]
    ·rw [m6,← lM]
     refine n1.app ?_
     rw [Nat.zero_add]
     refine .cons nM m2 ?_
     rw [lM,← Nat.add_assoc]
     exact d3
    ·rw [eD]
     simp only [qF]
     omega
    ·rw [← Array.length_toList,m6,← Array.length_toList,er]
     simp only [qF,List.length_cons]
     omega
theorem toList_modify' {α:Type}(xs:Array α)(i:Nat)(f:α -> α):(xs.modify i f).toList=xs.toList.modify i f:=by
 apply List.ext_getElem?
 intro j
 rw [Array.getElem?_toList,Array.getElem?_modify,List.getElem?_modify,Array.getElem?_toList]
 by_cases z:i=j
 ·rw [if_pos z]; simp [z]
 ·rw [if_neg z]; simp [z]
set_option hygiene false in
local macro_rules | `(tactic| walk_at "RUN_REST")=>`(tactic| (
 obtain ⟨c,T',g1,g2,g3,g4⟩:=cont n st3 hX3 n1 n2 n3
 refine wpS_bind (wpS_get ?_)
 cases hb:(pendingOf st3).back? with
 | none =>
  (try dsimp only)
  refine wpS_bind (wpS_modify (wpS_pure ⟨lo+n,D ++ c,T',rfl,by omega,push n st3 D c T' g1 h3 g2 g3 g4,by rw [qF]; omega⟩))
 | some r =>
  obtain ⟨s1,n1',p1⟩:=r
  (try dsimp only)
  refine wpS_bind (wpS_mono (wpS_forRange (I:=fun x c' st''=>c'=(none,()) /\ ∃ D',SR key κ it D' (c ++ T') st'' /\ D'.length=lo) (Q:=fun c' st''=>c'=(none,()) /\ ∃ D',SR key κ it D' (c ++ T') st'' /\ D'.length=lo) ?_ (fun _ _ hh=>hh) ⟨rfl,D,g1,h3⟩) ?_)
  ·rintro x' c' st4 _ _ ⟨rfl,D',hS',hl'⟩
   refine wpS_bind (wpS_get ?_)
   (try dsimp only)
   by_cases y:(pendingOf st4).size > 1
   ·rw [if_pos y]
    obtain ⟨r,er,_⟩:∃ r,(pendingOf st4)[(pendingOf st4).size - 2]? = some r /\ True:=⟨(pendingOf st4)[(pendingOf st4).size - 2]'(by omega),by simp <;> omega,trivial⟩
    obtain ⟨r1,r2,r3⟩:=r
    rw [er]
    (try dsimp only)
    refine wpS_ite (fun _=>wpS_pure ⟨rfl,D',hS',hl'⟩) fun _=>?_
    refine wpS_bind (merge_step hc hm hS' (by omega) fun D2 st5 hS5 hl5 _=>?_)
    simp only [Bool.not_true,Bool.false_eq_true,if_false]
    exact wpS_pure ⟨rfl,D2,hS5,hl5.trans hl'⟩
   ·rw [if_neg y]
    exact wpS_pure ⟨rfl,D',hS',hl'⟩
  ·rintro c' st4 ⟨rfl,D',hS',hl'⟩
   (try dsimp only)
   refine wpS_bind (wpS_modify (wpS_bind (wpS_modify (wpS_pure ⟨lo+n,D' ++ c,T',rfl,by omega,push n _ D' c T' ⟨hS'.kind,hS'.fail,hS'.perm,hS'.ea,?_⟩ hl' g2 g3 g4,by rw [qF]; omega⟩))))
   show Rns key 0 D' ((pendingOf st4).modify _ _).toList
   rw [toList_modify']
   exact hS'.rn.pw (fun _ _ _=>rfl) _))
theorem sortRuns_ok {Q:Unit -> SortSt -> Prop}(hc:SCmp prog w A s κ mem key)(hm:∀ x ∈ it.toList,mem x)(hk:PyProof.Rows.kindOf st = κ)(hf:failedOf st=none)(hp:pendingOf st = #[])(ha:arrOf st=it)
  (h:∀ st',failedOf st'=none -> (arrOf st').Perm it -> Srt key (arrOf st').toList -> Q () st'):wpS (model prog w) A E s sortRuns' Q st:=by
 rw [sortRuns'_eq]
 refine wpS_bind (wpS_get ?_)
 dsimp only
 have hsz:(arrOf st).size=it.size:=by rw [ha]
 simp only [hsz]
 generalize minRun' it.size it.size 0=mr
 refine wpS_bind (wpS_mono (wpS_forRange (I:=fun x c st'=>∃ lo D T,c=(none,lo) /\ x <= lo /\ SR key κ it D T st' /\ D.length=lo)
  (Q:=fun c st'=>∃ lo D,c=(none,lo) /\ SR key κ it D [] st') ?step ?fin ⟨0,[],it.toList,rfl,Nat.le_refl _,⟨hk,hf,by rw [ha],by rw [ha]; rfl,by rw [hp]; exact .nil⟩,rfl⟩) ?post)
 case fin =>
  rintro c st' ⟨lo,D,T,rfl,h1,h2,h3⟩
  have e:=h2.perm.size_eq
  rw [← Array.length_toList,h2.ea,qF] at e
  have:=Nat.max_eq_right (Nat.zero_le it.size)
  have:T=[]:=List.eq_nil_of_length_eq_zero (by omega)
  subst this
  exact ⟨lo,D,rfl,h2⟩
 case step =>
  rintro x c st' _ hx ⟨lo,D,T,rfl,h1,h2,h3⟩
  have e:=h2.perm.size_eq
  have e':=e
  rw [← Array.length_toList,h2.ea,qF] at e
  dsimp only
  by_cases z:lo ≥ it.size
  ·rw [if_pos z]
   have:T=[]:=List.eq_nil_of_length_eq_zero (by omega)
   subst this
   exact wpS_pure ⟨lo,D,rfl,h2⟩
  rw [if_neg z]
  have hX:SX κ (arrOf st') (pendingOf st') lo st':=⟨h2.kind,h2.fail,rfl,Array.Perm.refl _,fun _ _=>rfl⟩
  refine wpS_bind (countRun_ok hc (h2.mm hm) hX (by omega) (by omega) fun m st2 hX2 m1 m2 m3=>?_)
  dsimp only
  have cont:∀ (n:Nat) (st3:SortSt),SX κ (arrOf st') (pendingOf st') lo st3 -> 1 <= n -> lo+n <= it.size -> SegS key (arrOf st3) lo (lo+n) -> ∃ c T',SR key κ it D (c ++ T') st3 /\ c.length=n /\ Srt key c /\ c ≠ []:=fun n st3 hX3 n1 n2 n3=>by
   have sz3:(arrOf st3).size=it.size:=hX3.size.trans e'
   have eD:(arrOf st3).toList.take lo=D:=by
    apply List.ext_getElem?
    intro j
    by_cases y:j < lo
    ·rw [List.getElem?_take_of_lt y,Array.getElem?_toList,hX3.pre j y,← Array.getElem?_toList,h2.ea,qH (by omega)]
    ·rw [List.getElem?_eq_none (by rw [qO]; omega),List.getElem?_eq_none (by omega)]
   have lc:(((arrOf st3).toList.drop lo).take n).length=n:=by
    rw [qO,List.length_drop,Array.length_toList]; omega
   refine ⟨((arrOf st3).toList.drop lo).take n,((arrOf st3).toList.drop lo).drop n,⟨hX3.kind,hX3.fail,hX3.perm.trans h2.perm,?_,by rw [hX3.pend]; exact h2.rn⟩,lc,?_,?_⟩
   ·rw [List.take_append_drop,← eD,List.take_append_drop]
   ·unfold Srt
    rw [List.pairwise_iff_getElem]
    intro i j hi hj hij
    have e1:∀ i (hi:i < (((arrOf st3).toList.drop lo).take n).length),Kx key (arrOf st3) (lo+i)=key ((((arrOf st3).toList.drop lo).take n)[i]):=fun i hi=>by
     unfold Kx
     have:(arrOf st3)[lo+i]? = some ((((arrOf st3).toList.drop lo).take n)[i]):=by
      rw [← Array.getElem?_toList,← List.getElem?_drop,← List.getElem?_take_of_lt (show i < n by omega)]
      exact qA hi
     rw [this]
    rw [← e1 i hi,← e1 j hj]
    exact n3 _ _ (by omega) (by omega) (by omega)
   ·intro z
    rw [z,List.length_nil] at lc
    omega
  have push:∀ (n:Nat) (st3:SortSt) (D3 c T':List Keyed),SR key κ it D3 (c ++ T') st3 -> D3.length=lo -> c.length=n -> Srt key c -> c ≠ [] -> SR key κ it (D3 ++ c) T' (setPending st3 ((pendingOf st3).push (lo,n,0))):=fun n st3 D3 c T' g1 g2 g3 g4 g5 =>
   ⟨g1.kind,g1.fail,g1.perm,by rw [List.append_assoc]; exact g1.ea,by
    show Rns key 0 (D3 ++ c) ((pendingOf st3).push (lo,n,0)).toList
    rw [Array.toList_push,← g3]
    refine g1.rn.app ?_
    rw [Nat.zero_add,g2]
    have:=Rns.cons (key:=key) (s:=lo) (p:=0) g5 g4 (Rns.nil (s:=lo+c.length))
    rw [List.append_nil] at this
    exact this⟩
  have rest:∀ (n:Nat) (st3:SortSt),SX κ (arrOf st') (pendingOf st') lo st3 -> 1 <= n -> lo+n <= it.size -> SegS key (arrOf st3) lo (lo+n) -> True:=fun _ _ _ _ _ _=>trivial
  by_cases z2:m < mr
  ·rw [if_pos z2]
   refine wpS_bind (wpS_lift (wpAny_rule ⟨rfl,?_⟩))
   refine wpS_bind (binarySort_ok hc (h2.mm hm) hX2 (n:=min (it.size - lo) mr) (ok:=m) (by omega) (by omega) m3 fun st3 hX3 n3=>?_)
   simp only [Bool.not_true,Bool.false_eq_true,if_false]
   obtain ⟨n,en⟩:∃ n,min (it.size - lo) mr=n:=⟨_,rfl⟩
   have n1:1 <= n:=by omega
   have n2:lo+n <= it.size:=by omega
   rw [en] at n3 ⊢
   walk_at "RUN_REST"
  ·rw [if_neg z2]
   obtain ⟨n,en⟩:∃ n,m=n:=⟨_,rfl⟩
   obtain ⟨st3,e3⟩:∃ st3,st2=st3:=⟨_,rfl⟩
   have n1:1 <= n:=by omega
   have n2:lo+n <= it.size:=by omega
   have hX3:=hX2
   have n3:=m3
   rw [e3] at n3 hX3 ⊢
   rw [en] at n3 ⊢
   walk_at "RUN_REST"
 case post =>
  rintro c st' ⟨lo,D,rfl,hS⟩
  dsimp only
  refine wpS_bind (wpS_mono (wpS_forRange (I:=fun x c st''=>c=(none,()) /\ ∃ D,SR key κ it D [] st'' /\ ((pendingOf st'').size <= 1 \/ (pendingOf st'').size+x <= it.size)) (Q:=fun c st''=>c=(none,()) /\ ∃ D,SR key κ it D [] st'' /\ (pendingOf st'').size <= 1) ?_ ?_ ⟨rfl,D,hS,.inr ?_⟩) ?_)
  ·rintro x c st'' _ _ ⟨rfl,D',hS',hl⟩
   refine wpS_bind (wpS_get ?_)
   by_cases y:(pendingOf st'').size <= 1
   ·rw [if_pos y]
    exact wpS_pure ⟨rfl,D',hS',y⟩
   rw [if_neg y]
   refine wpS_bind (merge_step hc hm hS' ?_ fun D2 st2 hS2 _ hl2=>?_)
   ·(repeat' split) <;> omega
   ·simp only [Bool.not_true,Bool.false_eq_true,if_false]
    exact wpS_pure ⟨rfl,D2,hS2,by omega⟩
  ·rintro c st'' ⟨rfl,D',hS',hl⟩
   refine ⟨rfl,D',hS',?_⟩
   have:=Nat.max_eq_right (Nat.zero_le it.size)
   omega
  ·have:=hS.rn.len
   have e:=hS.perm.size_eq
   rw [← Array.length_toList,hS.ea,List.append_nil] at e
   rw [Array.length_toList] at this
   omega
  ·rintro c st'' ⟨rfl,D',hS',hl⟩
   refine wpS_pure (h st'' hS'.fail hS'.perm ?_)
   rw [hS'.ea,List.append_nil]
   exact hS'.rn.one (by rw [Array.length_toList]; exact hl)
end
end L2
set_option Elab.async false
set_option linter.all false
set_option maxRecDepth 100000
set_option maxHeartbeats 1000000
namespace L2
open PySem PySem.Spec PyProof.Rows PySem.W
def lexI:List Int -> List Int -> Bool
 | [],[]=>false
 | [],_ :: _=>true
 | _ :: _,[]=>false
 | a :: x,b :: y=>if a=b then lexI x y else decide (a < b)
theorem lexI_irr:∀ x:List Int,lexI x x=false
 | []=>rfl
 | a :: x=>by
  show (if a=a then lexI x x else decide (a < a))=false
  rw [if_pos rfl]
  exact lexI_irr x
theorem lexI_trans:∀ {x y z:List Int},lexI x y=true -> lexI y z=true -> lexI x z=true
 | [],[],_,h,_=>by cases h
 | [],_ :: _,[],_,h=>by cases h
 | [],_ :: _,_ :: _,_,_=>rfl
 | _ :: _,[],_,h,_=>by cases h
 | _ :: _,_ :: _,[],_,h=>by cases h
 | a :: x,b :: y,c :: z,h1,h2=>by
  change (if a=b then lexI x y else decide (a < b))=true at h1
  change (if b=c then lexI y z else decide (b < c))=true at h2
  show (if a=c then lexI x z else decide (a < c))=true
  by_cases e1:a=b
  ·rw [if_pos e1] at h1
   by_cases e2:b=c
   ·rw [if_pos e2] at h2
    rw [if_pos (e1.trans e2)]
    exact lexI_trans h1 h2
   ·rw [if_neg e2] at h2
    rw [if_neg (by rw [e1]; exact e2),e1]
    exact h2
  ·rw [if_neg e1] at h1
   have:=of_decide_eq_true h1
   by_cases e2:b=c
   ·rw [← e2,if_neg e1]
    exact h1
   ·rw [if_neg e2] at h2
    have:=of_decide_eq_true h2
    rw [if_neg (by omega)]
    exact decide_eq_true (by omega)
theorem lexI_tot:∀ {x y:List Int},lexI x y=false -> lexI y x=true \/ x=y
 | [],[],_=>.inr rfl
 | [],_ :: _,h=>by cases h
 | _ :: _,[],_=>.inl rfl
 | a :: x,b :: y,h=>by
  change (if a=b then lexI x y else decide (a < b))=false at h
  by_cases e:a=b
  ·rw [if_pos e] at h
   rcases lexI_tot h with z | z
   ·left
    show (if b=a then lexI y x else decide (b < a))=true
    rw [if_pos e.symm]
    exact z
   ·right
    rw [e,z]
  ·rw [if_neg e] at h
   have:=of_decide_eq_false h
   left
   show (if b=a then lexI y x else decide (b < a))=true
   rw [if_neg fun z=>e z.symm]
   exact decide_eq_true (by omega)
def lexF (fin:Bool):List Int -> List Int -> Bool
 | a :: x,b :: y=>if a=b then lexF fin x y else decide (a < b)
 | _,_=>fin
theorem lexF_eq:∀ (x y:List Int),lexF (decide (x.length < y.length)) x y=lexI x y
 | [],[]=>rfl
 | [],_ :: _=>by simp [lexF,lexI]
 | _ :: _,[]=>by simp [lexF,lexI]
 | a :: x,b :: y=>by
  have:=lexF_eq x y
  show (if a=b then lexF (decide ((a :: x).length < (b :: y).length)) x y else decide (a < b))=(if a=b then lexI x y else decide (a < b))
  rw [List.length_cons,List.length_cons,show decide (x.length+1 < y.length+1)=decide (x.length < y.length) by simp,this]
def contI (h:Heap)(v:Value):List Int:=match v with
 | .ref a=>match h.get? a with
  | some o=>match o.data with
   | .seq xs _=>xs.toList.map numOf
   | _=>[]
  | none=>[]
 | _=>[]
def TpI (h:Heap)(v:Value)(xs:List Int):Prop:=∃ (a:Addr) (o:Obj) (us:Array Value) (c:Nat),v = .ref a /\ h.get? a=some o /\ o.cls = .type "tuple" /\ o.data = .seq us c /\ IntsAre us.toList xs
theorem ints_num:∀ {us:List Value} {xs:List Int},IntsAre us xs -> us.map numOf=xs
 | _,_,.nil=>rfl
 | _,_,.cons n t r=>by rw [List.map_cons,ints_num r]; rfl
theorem TpI.cont {h:Heap}{v:Value}{xs:List Int}(p:TpI h v xs):contI h v=xs:=by
 obtain ⟨a,o,us,c,rfl,h1,h2,h3,h4⟩:=p
 unfold contI
 simp only [h1,h3]
 exact ints_num h4
def rkI (h:Heap)(vs:List Value)(v:Value):Int:=((vs.countP fun u=>lexI (contI h u) (contI h v):Nat):Int)
theorem countP_lt {α:Type}{p q:α -> Bool}:∀ {l:List α},(∀ x,p x=true -> q x=true) -> (∃ x ∈ l,q x=true /\ p x=false) -> l.countP p < l.countP q
 | [],_,⟨x,hx,_⟩=>by cases hx
 | a :: l,hpq,⟨x,hx,h1,h2⟩=>by
  have le:l.countP p <= l.countP q:=List.countP_mono_left fun x _=>hpq x
  rw [List.countP_cons,List.countP_cons]
  rcases List.mem_cons.mp hx with z | z
  ·subst z
   rw [h1,h2]
   simp
   omega
  ·have:=countP_lt (l:=l) hpq ⟨x,z,h1,h2⟩
   by_cases y:p a=true
   ·rw [if_pos y,if_pos (hpq a y)]; omega
   ·rw [if_neg y]
    split <;> omega
theorem rk_lt {h:Heap}{vs:List Value}{x y:Value}(hx:x ∈ vs):decide (rkI h vs x < rkI h vs y)=lexI (contI h x) (contI h y):=by
 unfold rkI
 cases hl:lexI (contI h x) (contI h y) with
 | true =>
  have:=countP_lt (p:=fun u=>lexI (contI h u) (contI h x)) (q:=fun u=>lexI (contI h u) (contI h y)) (l:=vs) (fun u hu=>lexI_trans hu hl) ⟨x,hx,hl,lexI_irr _⟩
  exact decide_eq_true (by omega)
 | false =>
  have:vs.countP (fun u=>lexI (contI h u) (contI h y)) <= vs.countP (fun u=>lexI (contI h u) (contI h x)):=List.countP_mono_left fun u _ hu=>by
   rcases lexI_tot hl with z | z
   ·exact lexI_trans hu z
   ·rw [z]; exact hu
  exact decide_eq_false (by omega)
section
variable {prog:Program}{w:World}{A:Around}{E:Value -> Shared -> Prop}{s:Shared}{vs:List Value}
theorem lex_ask {fin:Bool}{Q:Bool -> Shared -> Prop}:∀ {us ws:List Value} {xs ys:List Int} (i:Nat),IntsAre us xs -> IntsAre ws ys -> Q (lexF fin xs ys) s -> KatLex prog w A true fin Q (us.zip ws) i s
 | _,_,_,_,i,.nil,_,h=>by
  simp only [List.zip_nil_left]
  exact kat_nil h
 | _,_,_,_,i,.cons n t r,.nil,h=>by
  simp only [List.zip_nil_right]
  exact kat_nil h
 | _,_,_,_,i,.cons n t r,.cons m u q,h=>by
  rw [List.zip_cons_cons]
  refine kat_cons (wpAny_eqBool_int ?_)
  change Q (if n=m then lexF fin _ _ else decide (n < m)) s at h
  by_cases e:n=m
  ·rw [if_pos e] at h
   rw [beq_iff_eq.mpr e]
   exact kat_yes (lex_ask (i+1) r q h)
  ·rw [if_neg e] at h
   rw [beq_eq_false_iff_ne.mpr e]
   refine kat_no ?_
   by_cases z:(i == 0)=true
   ·rw [z,Bool.and_true]
    exact oneLt_int h
   ·rw [show (true && i == 0)=false by simpa using z]
    exact kat_one _ _ (lt_int h)
theorem cmp_tups (p:∀ v ∈ vs,∃ xs,TpI s.heap v xs):SCmp prog w A s (tuples' true) (fun x=>x.1 ∈ vs) (fun x=>rkI s.heap vs x.1):=by
 intro x y hx hy
 obtain ⟨xs,px⟩:=p _ hx
 obtain ⟨ys,py⟩:=p _ hy
 have e:=rk_lt (h:=s.heap) (y:=y.1) hx
 rw [px.cont,py.cont] at e
 obtain ⟨a,o,us,c,ea,h1,h2,h3,h4⟩:=px
 obtain ⟨b,o',ws,c',eb,k1,k2,k3,k4⟩:=py
 rw [ea,eb]
 refine kat_lt h1 h3 k1 k3 ?_
 refine lex_ask 0 h4 k4 ⟨rfl,?_⟩
 have l1:us.size=xs.length:=by rw [← Array.length_toList,IntsAre.length h4]
 have l2:ws.size=ys.length:=by rw [← Array.length_toList,IntsAre.length k4]
 rw [l1,l2,lexF_eq]
 exact e.symm
theorem tups_firsts {h:Heap}:∀ {vs:List Value},(∀ v ∈ vs,∃ xs,xs ≠ [] /\ TpI h v xs) -> ∃ fs,KatTups h vs fs /\ fs.length=vs.length /\ ∀ v ∈ fs,∃ n t,v=Value.int n t
 | [],_=>⟨[],.nil,rfl,fun v hv=>by cases hv⟩
 | v :: vs,p=>by
  obtain ⟨fs,f1,f2,f3⟩:=tups_firsts fun v hv=>p v (List.mem_cons_of_mem _ hv)
  obtain ⟨xs,ne,a,o,us,c,rfl,h1,h2,h3,h4⟩:=p v List.mem_cons_self
  match hu:us.toList,h4 with
  | _,.nil=>exact absurd rfl ne
  | _,.cons n t r =>
   refine ⟨.int n t :: fs,.cons h1 h2 h3 (by rw [← Array.getElem?_toList,hu]; rfl) f1,by rw [List.length_cons,List.length_cons,f2],fun u hu=>?_⟩
   rcases List.mem_cons.mp hu with z | z
   ·exact ⟨n,t,z⟩
   ·exact f3 u z
theorem zip_self_mem {l:List Value}{x:Keyed}(h:x ∈ l.zip l):x.1 ∈ l /\ x.2=x.1:=by
 induction l with
 | nil=>cases h
 | cons a r ih =>
  rw [List.zip_cons_cons] at h
  rcases List.mem_cons.mp h with z | z
  ·subst z
   exact ⟨List.mem_cons_self,rfl⟩
  ·exact ⟨List.mem_cons_of_mem _ (ih z).1,(ih z).2⟩
theorem zip_self_snd (l:List Value):(l.zip l).map (fun x=>x.2)=l:=by
 induction l with
 | nil=>rfl
 | cons x r ih=>rw [List.zip_cons_cons,List.map_cons,ih]
theorem pw_few {α:Type}{R:α -> α -> Prop}:∀ {l:List α},l.length < 2 -> l.Pairwise R
 | [],_=>.nil
 | [_],_=>.cons (fun _ hx=>by cases hx) .nil
 | _ :: _ :: _,h=>by simp only [List.length_cons] at h; omega
theorem list_sort_tups {a:Addr} {n:Nat} {P:PySem.Fin -> Shared -> Prop} (ho:s.heap.get? a=some (seqObj "list" vs.toArray n)) (p:∀ v ∈ vs,∃ xs,xs ≠ [] /\ TpI s.heap v xs) (hz:vs.length <= 1000)
  (h:∀ (out:List Value),out.Perm vs -> out.Pairwise (fun u v=>lexI (contI s.heap v) (contI s.heap u)=false) -> P (.done (.ret .none)) { s with heap:=sortedHeap s.heap a vs out.toArray }) :
  wpAny (model prog w) A (Builtin.«list.sort» ⟨[.ref a],[]⟩) P E s:=by
 rw [list_sort_plain]
 have ha:a < s.heap.objs.size:=Heap.lt_size ho
 have hz':=le_size hz
 refine wpAny_bind (listItems_at ho rfl ?_)
 refine wpAny_bind (listUpdate_at ho rfl ?_ (by rw [qM]; exact hz') (Nat.zero_le _))
 obtain ⟨e1,ho1⟩:∃ e1,(s.heap.update a (Obj.mapSeq fun _=>(#[]:Array Value))).get? a=some (seqObj "list" #[] e1):=⟨_,get?_update_seq ho fun _=>#[]⟩
 refine wpAny_bind (seqEpoch_at ho1 rfl ?_)
 refine wpAny_bind (wpAny_newTuple ?_ hz')
 refine wpAny_bind (wpAny_newList ?_ (Nat.zero_le _))
 refine wpAny_holding ?_
 have ho6:(((s.heap.update a (Obj.mapSeq fun _=>(#[]:Array Value))).push (seqObj "tuple" vs.toArray 0)).push (seqObj "list" #[] 0)).get? a=some (seqObj "list" #[] e1):=by
  rw [Heap.get?_push_ne _ _ _ (by rw [size_push',Heap.size_update]; exact Nat.ne_of_lt (Nat.lt_succ_of_lt ha)),Heap.get?_push_ne _ _ _ (by rw [Heap.size_update]; exact Nat.ne_of_lt ha)]
  exact ho1
 have p6:∀ v ∈ vs,∀ xs,TpI s.heap v xs -> TpI (((s.heap.update a (Obj.mapSeq fun _=>(#[]:Array Value))).push (seqObj "tuple" vs.toArray 0)).push (seqObj "list" #[] 0)) v xs:=by
  rintro v hv xs ⟨b,o,us,c,rfl,h1,h2,h3,h4⟩
  have hb:a ≠ b:=fun z=>by rw [← z,ho] at h1; cases h1; exact absurd (show Value.type "list" = Value.type "tuple" from h2) (by decide)
  exact ⟨b,o,us,c,rfl,Heap.get?_push_of_some _ (Heap.get?_push_of_some _ ((Heap.get?_update_other _ _ hb).trans h1)),h2,h3,h4⟩
 show wpAny (model prog w) A _ P E { s with heap:=((s.heap.update a (Obj.mapSeq fun _=>(#[]:Array Value))).push (seqObj "tuple" vs.toArray 0)).push (seqObj "list" #[] 0) }
 dsimp only
 by_cases h2:vs.toArray.size < 2
 ·rw [if_pos h2,if_pos h2]
  refine wpAny_bind (wpAny_pure ?_)
  rw [StateT.run_pure]
  refine wpAny_bind (wpAny_pure ?_)
  dsimp only
  refine wpAny_bind (seqEpoch_at ho6 rfl ?_)
  have e1':(vs.toArray.zip vs.toArray).map (·.2)=vs.toArray:=by
   apply Array.toList_inj.mp
   simpa using zip_self_snd vs
  have hv2:vs.length < 2:=by simpa using h2
  refine wpAny_bind (listUpdate_at ho6 rfl ?_ (Nat.zero_le _) (by rw [e1',qM]; omega))
  simp only [bne_self_eq_false,Bool.false_eq_true,if_false]
  refine wpAny_pure ?_
  have:=h vs (List.Perm.refl _) (by
   exact pw_few hv2)
  rw [← e1'] at this
  exact this
 ·rw [if_neg h2,if_neg h2]
  have hv2:2 <= vs.length:=by
   have:¬ vs.length < 2:=by simpa using h2
   omega
  obtain ⟨fs,f1,f2,f3⟩:=tups_firsts (h:=((s.heap.update a (Obj.mapSeq fun _=>(#[]:Array Value))).push (seqObj "tuple" vs.toArray 0)).push (seqObj "list" #[] 0)) (vs:=vs) fun v hv=>by
   obtain ⟨xs,ne,t⟩:=p v hv
   exact ⟨xs,ne,p6 v hv xs t⟩
  refine wpAny_bind (kat_kind (T:=.type "int") f1 (by omega) (fun v hv=>?_) (by decide) ?_)
  ·obtain ⟨k,t,rfl⟩:=f3 v hv
   exact .now
  have cm:=cmp_tups (prog:=prog) (w:=w) (A:=A) (s:={ s with heap:=((s.heap.update a (Obj.mapSeq fun _=>(#[]:Array Value))).push (seqObj "tuple" vs.toArray 0)).push (seqObj "list" #[] 0) }) (vs:=vs) fun v hv=>by
   obtain ⟨xs,ne,t⟩:=p v hv
   exact ⟨xs,p6 v hv xs t⟩
  have zl:(vs.toArray.zip vs.toArray).toList=vs.zip vs:=by simp
  have run:=sortRuns_ok (E:=E) (Q:=fun _ st'=>failedOf st'=none /\ (arrOf st').Perm (vs.toArray.zip vs.toArray) /\ Srt (fun x=>rkI (((s.heap.update a (Obj.mapSeq fun _=>(#[]:Array Value))).push (seqObj "tuple" vs.toArray 0)).push (seqObj "list" #[] 0)) vs x.1) (arrOf st').toList) (st:=SortSt.mk' (tuples' true) (vs.toArray.zip vs.toArray) #[] 7 none) (it:=vs.toArray.zip vs.toArray) cm (fun x hx=>(zip_self_mem (by rw [← zl]; exact hx)).1) rfl rfl rfl rfl fun st' g1 g2 g3=>⟨g1,g2,g3⟩
  refine wpAny_bind (wpAny_mono run ?_ fun _ _ e=>e)
  rintro ⟨⟨⟩,st'⟩ s' ⟨rfl,hf,hp,hs⟩
  dsimp only at hf hp hs ⊢
  have hpl:(arrOf st').toList.Perm (vs.zip vs):=by
   have:=Array.perm_iff_toList_perm.mp hp
   rwa [zl] at this
  have hout:(arrOf st').map (·.2)=((arrOf st').toList.map (·.2)).toArray:=by
   apply Array.toList_inj.mp
   simp
  have hpo:((arrOf st').toList.map (·.2)).Perm vs:=by
   have:=hpl.map (fun x=>x.2)
   rwa [zip_self_snd] at this
  refine wpAny_bind (seqEpoch_at ho6 rfl ?_)
  have hsz:((arrOf st').map (·.2)).size <= sizeLine:=by
   rw [hout,qM,hpo.length_eq]
   exact hz'
  refine wpAny_bind (listUpdate_at ho6 rfl ?_ (Nat.zero_le _) (Nat.le_succ_of_le hsz))
  rw [hf]
  simp only [bne_self_eq_false,Bool.false_eq_true,if_false]
  refine wpAny_pure ?_
  have:=h ((arrOf st').toList.map (·.2)) hpo (by
   rw [List.pairwise_map]
   refine List.Pairwise.imp_of_mem ?_ hs
   intro x y hx hy hxy
   obtain ⟨x1,x2⟩:=zip_self_mem (hpl.mem_iff.mp hx)
   obtain ⟨y1,y2⟩:=zip_self_mem (hpl.mem_iff.mp hy)
   rw [x2,y2]
   have e:=rk_lt (h:=((s.heap.update a (Obj.mapSeq fun _=>(#[]:Array Value))).push (seqObj "tuple" vs.toArray 0)).push (seqObj "list" #[] 0)) (y:=x.1) y1
   obtain ⟨xs,_,tx⟩:=p _ x1
   obtain ⟨ys,_,ty⟩:=p _ y1
   rw [(p6 _ x1 _ tx).cont,(p6 _ y1 _ ty).cont] at e
   rw [tx.cont,ty.cont,← e]
   exact decide_eq_false (Int.not_lt.mpr hxy))
  rw [← hout] at this
  exact this
end
theorem perm_pm {α:Type}{d:α}{l m:List α}(h:l.Perm m):∃ pm:List Nat,pm.Perm (List.range m.length) /\ l=pm.map fun i=>m.getD i d:=by
 induction h with
 | nil=>exact ⟨[],List.Perm.refl _,rfl⟩
 | @cons x l m h ih =>
  obtain ⟨pm,p1,p2⟩:=ih
  refine ⟨0 :: pm.map (· + 1),?_,?_⟩
  ·rw [List.length_cons,List.range_succ_eq_map]
   exact (p1.map _).cons _
  ·rw [List.map_cons,List.map_map,p2]
   rfl
 | swap x y l =>
  refine ⟨1 :: 0 :: (List.range l.length).map (· + 2),?_,?_⟩
  ·rw [List.length_cons,List.length_cons,List.range_succ_eq_map,List.range_succ_eq_map,List.map_cons,List.map_map]
   exact List.Perm.swap _ _ _
  ·rw [List.map_cons,List.map_cons,List.map_map]
   have e:∀ f:Nat -> α,(∀ i,f i=l.getD i d) -> (List.range l.length).map f=l:=fun f hf=>by
    apply List.ext_getElem?
    intro i
    rw [qI]
    by_cases hi:i < l.length
    ·rw [List.getElem?_range hi,qA hi,Option.map_some,hf]
     simp [hi]
    ·rw [List.getElem?_eq_none (by rw [List.length_range]; omega),List.getElem?_eq_none (by omega)]
     rfl
   rw [e ((fun i=>(x :: y :: l).getD i d) ∘ fun x=>x+2) fun i=>rfl]
   rfl
 | @trans l m n h1 h2 ih1 ih2 =>
  obtain ⟨p,p1,p2⟩:=ih1
  obtain ⟨q,q1,q2⟩:=ih2
  have lm:m.length=n.length:=h2.length_eq
  have lq:q.length=n.length:=by rw [q1.length_eq,List.length_range]
  refine ⟨p.map fun i=>q.getD i 0,?_,?_⟩
  ·refine (p1.map _).trans ?_
   rw [lm,← lq]
   have:((List.range q.length).map fun i=>q.getD i 0)=q:=by
    apply List.ext_getElem?
    intro i
    rw [qI]
    by_cases hi:i < q.length
    ·rw [List.getElem?_range hi,qA hi]
     simp [hi]
    ·rw [List.getElem?_eq_none (by rw [List.length_range]; omega),List.getElem?_eq_none (by omega)]
     rfl
   rw [this,lq]
   exact q1
  ·rw [p2,List.map_map]
   refine List.map_congr_left fun i hi=>?_
   have hl:i < m.length:=List.mem_range.mp (p1.mem_iff.mp hi)
   show m.getD i d=n.getD (q.getD i 0) d
   have hiq:i < q.length:=by omega
   have e:m[i]? = some (n.getD (q[i]) d):=by
    rw [q2,qI,qA hiq]
    rfl
   rw [qD,e]
   simp [hiq]
def iTp (p:List Int):List V:=p.map V.int
def rSortI:List V -> Hp -> VK -> Prop:=fun xs H Q=>∃ (a:Addr) (us:List V) (ps:List (List Int)),xs=[.ref a] /\ H a=some (.lst us) /\ HTs iTp H us ps /\ (∀ p ∈ ps,p ≠ []) /\ us.length <= 1000 /\
 ∀ l ys qs,H l=none -> HTs iTp H ys qs -> qs.Perm ps -> qs.Pairwise (fun p q=>lexI q p=false) -> Q (.ref l) (upd H l (.lst ys))
theorem call_sortI {X:Cx}:CallR X (.builtin "sorted") rSortI:=by
 intro pins s σ H xs vs Q I r h
 obtain ⟨a,us,ps,rfl,ha,hx,hne,hsm,q⟩:=h
 obtain ⟨u,rfl,ru⟩:=vals1 r
 cases ru
 obtain ⟨hz,its,c,rv,hl,ho⟩:=I.lstM ha
 refine Calls.call_function_entry kind_sorted plain_sorted entry_sorted (args_sorted1 _) ?_
 unfold Builtin.«sorted»
 refine wpAny_bind (m:=checkCount "sorted" 1 1 _) (wpAny_pure ?_)
 refine wpAny_bind (collect_list (vs:=its) ⟨_,ho,rfl,c,rfl⟩ ?_ (le_size (by omega)))
 refine wpAny_bind (wpAny_newList ?_ (le_size (by omega)))
 have hsz:((s.heap.push (seqObj "list" #[] 0)).update s.heap.objs.size (Obj.mapSeq fun x=>x ++ its.toArray)).objs.size=s.heap.objs.size+1:=by rw [Heap.size_update,size_push']
 have old:∀ b o,s.heap.get? b=some o -> (((s.heap.push (seqObj "list" #[] 0)).update s.heap.objs.size (Obj.mapSeq fun x=>x ++ its.toArray)).push (seqObj "list" its.toArray 0)).get? b=some o:=fun b o e=>by
  have bl:=Heap.lt_size e
  refine Heap.get?_push_of_some _ ?_
  rw [Heap.get?_update_ne _ _ _ _ (Nat.ne_of_lt bl)]
  exact Heap.get?_push_of_some _ e
 have hoL:(((s.heap.push (seqObj "list" #[] 0)).update s.heap.objs.size (Obj.mapSeq fun x=>x ++ its.toArray)).push (seqObj "list" its.toArray 0)).get? (s.heap.objs.size+1)=some (seqObj "list" its.toArray 0):=hsz ▸ Heap.get?_push_size _ rfl
 have tp:∀ i v p,its[i]? = some v -> ps[i]? = some p -> TpI (((s.heap.push (seqObj "list" #[] 0)).update s.heap.objs.size (Obj.mapSeq fun x=>x ++ its.toArray)).push (seqObj "list" its.toArray 0)) v p:=fun i v p h1 h2=>by
  obtain ⟨b,e1,e2⟩:=hx.at_ i p h2
  obtain ⟨u,hu,ru⟩:=rv.get e1
  rw [h1] at hu
  cases hu
  cases ru
  obtain ⟨_,ts,rt,o',f1,f2,n',f3⟩:=(show ObjOk X.prog X.w H s.heap b (.tup (iTp p)) from I.hok b _ e2)
  exact ⟨b,o',ts.toArray,n',rfl,old b _ f1,f2,f3,ints_vals rt⟩
 have pl:ps.length=its.length:=by rw [← hx.len,hl]
 have tpm:∀ v ∈ its,∃ xs,xs ≠ [] /\ TpI (((s.heap.push (seqObj "list" #[] 0)).update s.heap.objs.size (Obj.mapSeq fun x=>x ++ its.toArray)).push (seqObj "list" its.toArray 0)) v xs:=fun v hv=>by
  obtain ⟨i,hi⟩:=List.getElem?_of_mem hv
  have il:=(qB.mp hi).1
  have e:ps[i]? = some (ps[i]'(by omega)):=qA _
  exact ⟨_,hne _ (List.getElem_mem _),tp i v _ hi e⟩
 rw [hsz]
 refine wpAny_bind (wpAny_holding (wpAny_call_entry slot_list_sort ⟨_,hoL,rfl⟩ entry_list_sort (list_sort_tups hoL tpm (by omega) fun out o1 o2=>⟨_,rfl,?_⟩) (args_list_sort _)))
 obtain ⟨pm,pm1,pm2⟩:=perm_pm (d:=Value.none) o1
 obtain ⟨e,he⟩:=sortedAll_at s.heap its out.toArray
 refine wpAny_pure ⟨_,rfl,?_⟩
 have pml:∀ i ∈ pm,i < its.length:=fun i hi=>List.mem_range.mp (pm1.mem_iff.mp hi)
 have rvo:Vals (pm.map fun i=>us.getD i .non) (pm.map fun i=>its.getD i Value.none):=by
  have gen:∀ qs:List Nat,(∀ i ∈ qs,i < its.length) -> Vals (qs.map fun i=>us.getD i .non) (qs.map fun i=>its.getD i Value.none):=fun qs=>by
   induction qs with
   | nil=>exact fun _=>.nil
   | cons i qs ih =>
    intro hq
    rw [List.map_cons,List.map_cons]
    refine .cons ?_ (ih fun j hj=>hq j (List.mem_cons_of_mem _ hj))
    have hi:=hq i List.mem_cons_self
    have eu:us[i]? = some (us[i]'(by omega)):=qA _
    obtain ⟨y,hy,ry⟩:=rv.get eu
    rw [qD,qD,eu,hy]
    exact ry
  exact gen pm pml
 rw [← pm2] at rvo
 have IN:=I.laid (h':=sortedAll s.heap its out.toArray) (t':=s.toks) (fun b o q=>sortedAll_old q) (Nat.le_succ s.heap.objs.size) (show ObjOk X.prog X.w _ _ (s.heap.objs.size+1) (.lst (pm.map fun i=>us.getD i .non)) from ⟨le_size (by rw [qC,pm1.length_eq,List.length_range]; omega),_,e,rvo,he⟩)
 refine ⟨.ref (s.heap.objs.size+1),_,IN,rfl,q _ _ (pm.map fun i=>ps.getD i []) (I.hok.fresh (Nat.le_succ _)) ⟨by rw [qC,qC],fun k x hk=>?_⟩ ?_ ?_⟩
 ·rw [qI] at hk
  obtain ⟨i,hi,ei⟩:=Option.map_eq_some_iff.mp hk
  have il:=pml i (qE hi)
  have ep:ps[i]? = some (ps[i]'(by omega)):=qA _
  rw [qD,ep] at ei
  obtain ⟨b,e1,e2⟩:=hx.at_ i _ ep
  refine ⟨b,?_,by rw [← ei]; exact e2⟩
  rw [qI,hi]
  show some (us.getD i .non)=_
  rw [qD,e1]
  rfl
 ·have:((List.range its.length).map fun i=>ps.getD i [])=ps:=by
   apply List.ext_getElem?
   intro i
   rw [qI]
   by_cases hi:i < its.length
   ·rw [List.getElem?_range hi,qA (by omega)]
    simp [show i < ps.length by omega]
   ·rw [List.getElem?_eq_none (by rw [List.length_range]; omega),List.getElem?_eq_none (by omega)]
    rfl
  have p2:=pm1.map fun i=>ps.getD i []
  rwa [this] at p2
 ·rw [pm2,List.pairwise_map] at o2
  rw [List.pairwise_map]
  refine List.Pairwise.imp_of_mem ?_ o2
  intro i j hi hj hij
  have il:=pml i hi
  have jl:=pml j hj
  have ci:=(tp i (its.getD i Value.none) (ps.getD i []) (by simp [il]) (by simp [show i < ps.length by omega])).cont
  have cj:=(tp j (its.getD j Value.none) (ps.getD j []) (by simp [jl]) (by simp [show j < ps.length by omega])).cont
  rw [ci,cj] at hij
  exact hij
end L2
set_option Elab.async false
set_option linter.all false
set_option maxRecDepth 100000
set_option maxHeartbeats 1000000
namespace L2
open PySem PySem.Spec PyProof.Rows
def gWy:Int -> Int -> Int -> Int -> Int:=fun y _ _ x=>y+x
def wyW (ins:Nat)(ds:List Wd):List Int:=vG gWy 0 (qQ ins 1) ds
section
variable {ins:Nat}{ds:List Wd}
theorem wyW_len:(wyW ins ds).length=ins+ds.length:=by unfold wyW; rw [vG_len,qL]
theorem wy_in {j:Nat}(h:j < ins):(wyW ins ds).getD j 0=1:=by
 have e:(vG gWy 0 (qQ ins 1) ([]:List Wd))[j]? = some 1:=by
  show (qQ ins (1:Int))[j]? = some 1
  rw [List.getElem?_replicate,if_pos h]
 have e2:=vG_pre (g:=gWy) (z:=0) (qQ ins 1) [] ds e
 rw [List.nil_append] at e2
 exact getD_of e2
theorem wy_at (D:Dko ins ds){k:Nat}{d:Wd}(hd:ds[k]? = some d):(wyW ins ds).getD (ins+k) 0=(wyW ins ds).getD d.a 0+(wyW ins ds).getD d.b 0:=by
 have kl:=(qB.mp hd).1
 obtain ⟨ha,hb⟩:=D k d hd
 have rl:(qQ ins (1:Int)).length=ins:=qL
 have e:=vG_take (g:=gWy) (z:=0) (xs:=qQ ins 1) hd
 have l1:(vG gWy 0 (qQ ins 1) (ds.take k)).length=ins+k:=by rw [vG_len,rl,qO]; omega
 have e1:(vG gWy 0 (qQ ins 1) (ds.take (k+1)))[ins+k]? = some (vGD gWy 0 (vG gWy 0 (qQ ins 1) (ds.take k)) d):=by
  rw [e,qG (by omega),l1,Nat.sub_self]
  rfl
 have e2:=vG_pre (g:=gWy) (z:=0) (qQ ins 1) (ds.take (k+1)) (ds.drop (k+1)) e1
 rw [List.take_append_drop] at e2
 unfold wyW
 rw [getD_of e2]
 unfold vGD
 rw [vG_takeD (by omega) (by rw [rl]; exact ha),vG_takeD (by omega) (by rw [rl]; exact hb)]
 unfold gWy
 omega
theorem wy_pos (D:Dko ins ds):∀ j,j < ins+ds.length -> 1 <= (wyW ins ds).getD j 0:=by
 intro j
 induction j using Nat.strongRecOn with
 | ind j ih =>
  intro hj
  by_cases q:j < ins
  ·rw [wy_in q]; exact Int.le_refl _
  ·obtain ⟨k,rfl⟩:∃ k,j=ins+k:=⟨j - ins,by omega⟩
   have hd:=qA (l:=ds) (i:=k) (by omega)
   obtain ⟨ha,hb⟩:=D k _ hd
   rw [wy_at D hd]
   have h1:=ih _ ha (by omega)
   have h2:=ih _ hb (by omega)
   omega
end
def mvE (a:Ar)(e:Int × Int):Int × Int:=(e.1+a.sh,e.2 * a.sg)
def stepE (E:List (List (Int × Int)))(a:Ar):List (List (Int × Int)):=E.set a.st (E.getD a.st [] ++ (E.getD a.go []).map (mvE a))
def eIn (n:Nat)(g:Go):List (List (Int × Int)):=(qQ n []).set g.th [(g.sh,g.sg)]
def endsW (ins:Nat)(ds:List Wd)(g:Go)(i:Nat):List (List (Int × Int)):=((arrF ins 0 ds).reverse.take i).foldl stepE (eIn (ins+ds.length) g)
theorem endsW_succ {ins:Nat}{ds:List Wd}{g:Go}{i:Nat}{a:Ar}(h:(arrF ins 0 ds).reverse[i]? = some a):endsW ins ds g (i+1)=stepE (endsW ins ds g i) a:=by
 unfold endsW
 rw [List.take_add_one,h,List.foldl_append]
 rfl
theorem stepE_len (E:List (List (Int × Int)))(a:Ar):(stepE E a).length=E.length:=by unfold stepE; rw [List.length_set]
theorem endsW_len {ins:Nat}{ds:List Wd}{g:Go}:∀ i,(endsW ins ds g i).length=ins+ds.length:=by
 have:∀ (l:List Ar) (E:List (List (Int × Int))),(l.foldl stepE E).length=E.length:=fun l=>by
  induction l with
  | nil=>intro E; rfl
  | cons a l ih=>intro E; rw [List.foldl_cons,ih,stepE_len]
 intro i
 unfold endsW
 rw [this]
 unfold eIn
 rw [List.length_set,qL]
theorem getD_setE {E:List (List (Int × Int))}{i j:Nat}{x:List (Int × Int)}:(E.set i x).getD j []=if i=j /\ i < E.length then x else E.getD j []:=by
 rw [qD,qD,List.getElem?_set]
 by_cases z:i=j
 ·subst z
  by_cases y:i < E.length
  ·rw [if_pos rfl,if_pos y,if_pos ⟨rfl,y⟩]
   rfl
  ·rw [if_pos rfl,if_neg y,if_neg (fun h=>y h.2),List.getElem?_eq_none (by omega)]
 ·rw [if_neg z,if_neg (fun h=>z h.1)]
def Sf (f:Int × Int -> Int)(W:Nat -> Int)(E:List (List (Int × Int))):Nat -> Int
 | 0=>0
 | k+1=>Sf f W E k+((E.getD k []).map f).sum * W k
section
variable {f:Int × Int -> Int}{W:Nat -> Int}{E:List (List (Int × Int))}
theorem Sf_hi {a:Ar}:∀ {k:Nat},k <= a.st -> Sf f W (stepE E a) k=Sf f W E k
 | 0,_=>rfl
 | k+1,h=>by
  show Sf f W (stepE E a) k+(((stepE E a).getD k []).map f).sum * W k=Sf f W E k+((E.getD k []).map f).sum * W k
  rw [Sf_hi (by omega)]
  unfold stepE
  rw [getD_setE,if_neg (by omega)]
theorem Sf_step {a:Ar}(hl:a.st < E.length):∀ {k:Nat},a.st < k -> Sf f W (stepE E a) k=Sf f W E k+((E.getD a.go []).map fun e=>f (mvE a e)).sum * W a.st
 | 0,h=>by omega
 | k+1,h=>by
  show Sf f W (stepE E a) k+(((stepE E a).getD k []).map f).sum * W k=Sf f W E k+((E.getD k []).map f).sum * W k+_
  by_cases z:a.st=k
  ·rw [Sf_hi (by omega)]
   unfold stepE
   rw [getD_setE,if_pos ⟨z,hl⟩,z,List.map_append,List.sum_append,List.map_map,Int.add_mul]
   show _+(_+((E.getD a.go []).map (fun e=>f (mvE a e))).sum * W k)=_
   omega
  ·rw [Sf_step hl (by omega)]
   unfold stepE
   rw [getD_setE,if_neg (fun h=>z h.1)]
   omega
theorem Sf_nn (hf:∀ e,0 <= f e):∀ {k:Nat},(∀ x,x < k -> 0 <= W x) -> 0 <= Sf f W E k
 | 0,_=>Int.le_refl _
 | k+1,h=>by
  have h1:=Sf_nn hf (k:=k) fun x hx=>h x (by omega)
  have h2:0 <= ((E.getD k []).map f).sum:=by
   generalize E.getD k []=l
   induction l with
   | nil=>exact Int.le_refl _
   | cons e l ih=>rw [List.map_cons,List.sum_cons]; have:=hf e; omega
  have:=Int.mul_nonneg h2 (h k (by omega))
  show 0 <= Sf f W E k+_
  omega
theorem Sf_one (hf:∀ e,0 <= f e):∀ {k x:Nat},(∀ x,x < k -> 0 <= W x) -> x < k -> ((E.getD x []).map f).sum * W x <= Sf f W E k
 | 0,x,_,h=>by omega
 | k+1,x,hW,h=>by
  have h2:0 <= ((E.getD k []).map f).sum:=by
   generalize E.getD k []=l
   induction l with
   | nil=>exact Int.le_refl _
   | cons e l ih=>rw [List.map_cons,List.sum_cons]; have:=hf e; omega
  have h3:=Int.mul_nonneg h2 (hW k (by omega))
  show _ <= Sf f W E k+((E.getD k []).map f).sum * W k
  by_cases z:x=k
  ·rw [z]
   have:=Sf_nn (E:=E) hf (k:=k) fun x hx=>hW x (by omega)
   omega
  ·have:=Sf_one hf (k:=k) (x:=x) (fun x hx=>hW x (by omega)) (by omega)
   omega
theorem Sf_eIn {n:Nat}{g:Go}(hg:g.th < n):∀ {k:Nat},Sf f W (eIn n g) k=if g.th < k then f (g.sh,g.sg) * W g.th else 0
 | 0=>rfl
 | k+1=>by
  show Sf f W (eIn n g) k+(((eIn n g).getD k []).map f).sum * W k=_
  rw [Sf_eIn hg]
  unfold eIn
  rw [getD_setE,qL]
  by_cases z:g.th=k
  ·rw [if_neg (show ¬ g.th < k by omega),if_pos (show g.th=k /\ g.th < n from ⟨z,hg⟩),if_pos (show g.th < k+1 by omega),z]
   simp
  ·rw [if_neg (show ¬ (g.th=k /\ g.th < n) from fun h=>z h.1)]
   have:(qQ n ([]:List (Int × Int))).getD k []=[]:=by
    rw [qD,List.getElem?_replicate]
    split <;> rfl
   rw [this]
   by_cases y:g.th < k
   ·rw [if_pos y,if_pos (show g.th < k+1 by omega)]
    simp
   ·rw [if_neg y,if_neg (show ¬ g.th < k+1 by omega)]
    simp
theorem sum_lin {P:Int × Int -> Prop}{u v t:Int × Int -> Int}{p q r:Int}(h:∀ e,P e -> u e * p+v e * q=t e * r):∀ {l:List (Int × Int)},(∀ e ∈ l,P e) -> (l.map u).sum * p+(l.map v).sum * q=(l.map t).sum * r
 | [],_=>by simp
 | e :: l,hP=>by
  rw [List.map_cons,List.map_cons,List.map_cons,List.sum_cons,List.sum_cons,List.sum_cons]
  have h1:=h e (hP e List.mem_cons_self)
  have h2:=sum_lin (l:=l) h fun x hx=>hP x (List.mem_cons_of_mem _ hx)
  rw [Int.add_mul,Int.add_mul,Int.add_mul]
  omega
end
theorem arrR_at {ins:Nat}{ds:List Wd}{i:Nat}{a:Ar}(h:(arrF ins 0 ds).reverse[i]? = some a):i < 2 * ds.length /\ ∃ d,ds[ds.length - 1 - i / 2]? = some d /\ (i % 2=0 -> a=⟨d.b,ins+(ds.length - 1 - i / 2),d.t,sgW d.w⟩) /\ (i % 2=1 -> a=⟨d.a,ins+(ds.length - 1 - i / 2),d.s,1⟩):=by
 have hl:=(qB.mp h).1
 rw [List.length_reverse,arrF_len] at hl
 rw [List.getElem?_reverse (by rw [arrF_len]; exact hl),arrF_len] at h
 obtain ⟨d,hd,_,hc⟩:=arr_at h
 have e:(2 * ds.length - 1 - i) / 2=ds.length - 1 - i / 2:=by omega
 rw [e] at hd hc
 refine ⟨hl,d,hd,fun z=>?_,fun z=>?_⟩
 ·rcases hc with ⟨y,_⟩ | ⟨_,x⟩
  ·omega
  ·rw [x,Nat.add_zero]
 ·rcases hc with ⟨_,x⟩ | ⟨y,_⟩
  ·rw [x,Nat.add_zero]
  ·omega
def EV (f:Int × Int -> Int)(W:Nat -> Int)(ins:Nat)(ds:List Wd)(C:Int)(i:Nat)(E:List (List (Int × Int))):Prop :=
 (i % 2=0 -> Sf f W E (ins+(ds.length - i / 2))=C) /\
 (i % 2=1 -> ∀ d,ds[ds.length - 1 - i / 2]? = some d -> Sf f W E (ins+(ds.length - 1 - i / 2))+((E.getD (ins+(ds.length - 1 - i / 2)) []).map fun e=>f (mvE ⟨d.a,ins+(ds.length - 1 - i / 2),d.s,1⟩ e)).sum * W d.a=C)
section
variable {f:Int × Int -> Int}{W:Nat -> Int}{ins:Nat}{ds:List Wd}{C:Int}{E:List (List (Int × Int))}{P:Int × Int -> Prop}{i:Nat}{a:Ar}
theorem EV.step (D:Dko ins ds)(lin:∀ (k:Nat) (d:Wd),ds[k]? = some d -> ∀ e,P e -> f (mvE ⟨d.a,ins+k,d.s,1⟩ e) * W d.a+f (mvE ⟨d.b,ins+k,d.t,sgW d.w⟩ e) * W d.b=f e * W (ins+k))
  (hl:E.length=ins+ds.length) (hP:∀ x,∀ e ∈ E.getD x [],P e) (h:EV f W ins ds C i E) (ha:(arrF ins 0 ds).reverse[i]? = some a):EV f W ins ds C (i+1) (stepE E a):=by
 obtain ⟨hi,d,hd,a0,a1⟩:=arrR_at ha
 obtain ⟨da,db⟩:=D _ d hd
 have hk:ds.length - 1 - i / 2 < ds.length:=(qB.mp hd).1
 by_cases z:i % 2=0
 ·have e:=a0 z
  refine ⟨fun y=>by omega,fun _ d' hd'=>?_⟩
  rw [show (i+1) / 2=i / 2 by omega] at hd' ⊢
  rw [hd] at hd'
  cases hd'
  have h1:=h.1 z
  rw [show ins+(ds.length - i / 2)=ins+(ds.length - 1 - i / 2)+1 by omega] at h1
  have h1':Sf f W E (ins+(ds.length - 1 - i / 2))+((E.getD (ins+(ds.length - 1 - i / 2)) []).map f).sum * W (ins+(ds.length - 1 - i / 2))=C:=h1
  have e1:=Sf_step (f:=f) (W:=W) (E:=E) (a:=a) (by rw [e,hl]; show d.b < _; omega) (k:=ins+(ds.length - 1 - i / 2)) (by rw [e]; exact db)
  have e2:(stepE E a).getD (ins+(ds.length - 1 - i / 2)) []=E.getD (ins+(ds.length - 1 - i / 2)) []:=by
   unfold stepE
   rw [getD_setE,if_neg]
   rintro ⟨y,_⟩
   rw [e] at y
   have y':d.b=ins+(ds.length - 1 - i / 2):=y
   omega
  rw [e1,e2]
  have hs:=sum_lin (lin _ d hd) (hP (ins+(ds.length - 1 - i / 2)))
  rw [e]
  show Sf f W E _+((E.getD (ins+(ds.length - 1 - i / 2)) []).map fun e=>f (mvE ⟨d.b,ins+(ds.length - 1 - i / 2),d.t,sgW d.w⟩ e)).sum * W d.b+_=C
  omega
 ·have z1:i % 2=1:=by omega
  have e:=a1 z1
  refine ⟨fun _=>?_,fun y=>by omega⟩
  have h1:=h.2 z1 d hd
  have e1:=Sf_step (f:=f) (W:=W) (E:=E) (a:=a) (by rw [e,hl]; show d.a < _; omega) (k:=ins+(ds.length - 1 - i / 2)) (by rw [e]; exact da)
  rw [show ds.length - (i+1) / 2=ds.length - 1 - i / 2 by omega,e1]
  rw [e]
  exact h1
end
structure ES (ins:Nat) (ds:List Wd) (g:Go) (B:Nat) (i:Nat) (E:List (List (Int × Int))):Prop where
 len:E.length=ins+ds.length
 cnt:EV (fun _=>1) (fun x=>(wyW ins ds).getD x 0) ins ds ((wyW ins ds).getD g.th 0) i E
 lens:∀ x,((E.getD x []).length:Int) <= (wyW ins ds).getD g.th 0
 sg:∀ x,∀ e ∈ E.getD x [],(e.2=1 \/ e.2 = -1) /\ -((B * (i+1):Nat):Int) <= e.1 /\ e.1 <= ((B * (i+1):Nat):Int)
theorem sum_ones (l:List (Int × Int)):(l.map fun _=>(1:Int)).sum=l.length:=by
 induction l with
 | nil=>rfl
 | cons e l ih=>rw [List.map_cons,List.sum_cons,ih,List.length_cons]; omega
section
variable {ins:Nat}{ds:List Wd}{g:Go}{B:Nat}{E:List (List (Int × Int))}{i:Nat}{a:Ar}
theorem ES.zero (D:Dko ins ds)(hg:g.th < ins+ds.length)(hs:g.sg=1 \/ g.sg = -1)(hb:-(B:Int) <= g.sh /\ g.sh <= B):ES ins ds g B 0 (eIn (ins+ds.length) g):=by
 have gd:∀ x,(eIn (ins+ds.length) g).getD x []=if g.th=x then [(g.sh,g.sg)] else []:=fun x=>by
  unfold eIn
  rw [getD_setE,qL]
  by_cases z:g.th=x
  ·rw [if_pos ⟨z,hg⟩,if_pos z]
  ·rw [if_neg (fun h=>z h.1),if_neg z,qD,List.getElem?_replicate]
   split <;> rfl
 refine ⟨by unfold eIn; rw [List.length_set,qL],⟨fun _=>?_,fun z=>by omega⟩,fun x=>?_,fun x e he=>?_⟩
 ·rw [Nat.zero_div,Nat.sub_zero,Sf_eIn hg,if_pos hg,Int.one_mul]
 ·rw [gd]
  have:=wy_pos D _ hg
  split
  ·show ((1:Nat):Int) <= _
   exact this
  ·show ((0:Nat):Int) <= _
   omega
 ·rw [gd] at he
  split at he
  ·rw [List.mem_singleton.mp he]
   exact ⟨hs,by simpa using hb⟩
  ·cases he
theorem ES.step (D:Dko ins ds)(hB:∀ (k:Nat) (d:Wd),ds[k]? = some d -> (-(B:Int) <= d.s /\ d.s <= B) /\ (-(B:Int) <= d.t /\ d.t <= B))(h:ES ins ds g B i E)(ha:(arrF ins 0 ds).reverse[i]? = some a):ES ins ds g B (i+1) (stepE E a):=by
 have nx:=EV.step (P:=fun _=>True) D (fun k d hd e _=>by
  show (1:Int) * (wyW ins ds).getD d.a 0+1 * (wyW ins ds).getD d.b 0=1 * (wyW ins ds).getD (ins+k) 0
  rw [wy_at D hd]
  omega) h.len (fun _ _ _=>trivial) h.cnt ha
 have hl:=stepE_len E a
 obtain ⟨hi,d,hd,a0,a1⟩:=arrR_at ha
 obtain ⟨da,db⟩:=D _ d hd
 have hk:ds.length - 1 - i / 2 < ds.length:=(qB.mp hd).1
 have wn:∀ k,k <= ins+ds.length -> ∀ x,x < k -> 0 <= (fun x=>(wyW ins ds).getD x 0) x:=fun k hk x hx=>by
  have:=wy_pos D x (by omega)
  show 0 <= (wyW ins ds).getD x 0
  omega
 have low:∀ x,x < ins+(ds.length - 1 - i / 2) -> (((stepE E a).getD x []).length:Int) <= (wyW ins ds).getD g.th 0:=fun x hx=>by
  have s1:=Sf_one (f:=fun _=>1) (W:=fun x=>(wyW ins ds).getD x 0) (E:=stepE E a) (fun _=>by decide) (wn (ins+(ds.length - 1 - i / 2)) (by omega)) hx
  rw [sum_ones] at s1
  have w1:=wy_pos D x (by omega)
  have s2:Sf (fun _=>1) (fun x=>(wyW ins ds).getD x 0) (stepE E a) (ins+(ds.length - 1 - i / 2)) <= (wyW ins ds).getD g.th 0:=by
   by_cases z:i % 2=0
   ·have:=nx.2 (by omega) d (by rw [show (i+1) / 2=i / 2 by omega]; exact hd)
    rw [show (i+1) / 2=i / 2 by omega,sum_ones] at this
    have w2:=wy_pos D d.a (by omega)
    have:=Int.mul_nonneg (Int.natCast_nonneg ((stepE E a).getD (ins+(ds.length - 1 - i / 2)) []).length) (show 0 <= (fun x=>(wyW ins ds).getD x 0) d.a from by show 0 <= (wyW ins ds).getD d.a 0; omega)
    omega
   ·have:=nx.1 (by omega)
    rw [show ds.length - (i+1) / 2=ds.length - 1 - i / 2 by omega] at this
    omega
  have s3:(((stepE E a).getD x []).length:Int) * 1 <= ((stepE E a).getD x []).length * (wyW ins ds).getD x 0:=Int.mul_le_mul_of_nonneg_left w1 (Int.natCast_nonneg _)
  have s1':(((stepE E a).getD x []).length:Int) * (wyW ins ds).getD x 0 <= Sf (fun _=>1) (fun x=>(wyW ins ds).getD x 0) (stepE E a) (ins+(ds.length - 1 - i / 2)):=s1
  omega
 have est:a.st < ins+(ds.length - 1 - i / 2) /\ (-(B:Int) <= a.sh /\ a.sh <= B) /\ (a.sg=1 \/ a.sg = -1):=by
  by_cases z:i % 2=0
  ·rw [a0 z]
   refine ⟨db,(hB _ d hd).2,?_⟩
   show sgW d.w=1 \/ sgW d.w = -1
   unfold sgW
   split
   ·exact .inr rfl
   ·exact .inl rfl
  ·rw [a1 (by omega)]
   exact ⟨da,(hB _ d hd).1,.inl rfl⟩
 refine ⟨hl.trans h.len,nx,fun x=>?_,fun x e he=>?_⟩
 ·by_cases z:x < ins+(ds.length - 1 - i / 2)
  ·exact low x z
  ·unfold stepE
   rw [getD_setE,if_neg (by omega)]
   exact h.lens x
 ·have eB:B * (i+1+1)=B * (i+1)+B:=by rw [Nat.mul_succ]
  have old:∀ x,∀ e ∈ E.getD x [],(e.2=1 \/ e.2 = -1) /\ -((B * (i+1):Nat):Int) <= e.1 /\ e.1 <= ((B * (i+1):Nat):Int):=h.sg
  rw [eB]
  unfold stepE at he
  rw [getD_setE] at he
  have wide:∀ x,∀ e ∈ E.getD x [],(e.2=1 \/ e.2 = -1) /\ -((B * (i+1)+B:Nat):Int) <= e.1 /\ e.1 <= ((B * (i+1)+B:Nat):Int):=fun x e he=>by
   obtain ⟨h1,h2,h3⟩:=old x e he
   exact ⟨h1,by omega,by omega⟩
  split at he
  ·rcases List.mem_append.mp he with z | z
   ·exact wide _ e z
   ·obtain ⟨e',he',rfl⟩:=qP.mp z
    obtain ⟨h1,h2,h3⟩:=old _ e' he'
    refine ⟨?_,?_,?_⟩
    ·show e'.2 * a.sg=1 \/ e'.2 * a.sg = -1
     rcases h1 with y | y <;> rcases est.2.2 with x | x <;> rw [y,x] <;> decide
    ·show _ <= e'.1+a.sh
     have:=est.2.1.1
     omega
    ·show e'.1+a.sh <= _
     have:=est.2.1.2
     omega
  ·exact wide _ e he
theorem ES.all (D:Dko ins ds)(hB:∀ (k:Nat) (d:Wd),ds[k]? = some d -> (-(B:Int) <= d.s /\ d.s <= B) /\ (-(B:Int) <= d.t /\ d.t <= B))(hg:g.th < ins+ds.length)(hs:g.sg=1 \/ g.sg = -1)(hb:-(B:Int) <= g.sh /\ g.sh <= B):∀ i,i <= 2 * ds.length -> ES ins ds g B i (endsW ins ds g i)
 | 0,_=>ES.zero D hg hs hb
 | i+1,h=>by
  have hl:i < (arrF ins 0 ds).reverse.length:=by rw [List.length_reverse,arrF_len]; omega
  have e:=qA hl
  rw [endsW_succ e]
  exact (ES.all D hB hg hs hb i (by omega)).step D hB e
end
section
variable {ins:Nat}{ds:List Wd}{g:Go}{B L:Nat}
theorem ends_cnt (D:Dko ins ds)(hB:∀ (k:Nat) (d:Wd),ds[k]? = some d -> (-(B:Int) <= d.s /\ d.s <= B) /\ (-(B:Int) <= d.t /\ d.t <= B))(hg:g.th < ins+ds.length)(hs:g.sg=1 \/ g.sg = -1)(hb:-(B:Int) <= g.sh /\ g.sh <= B) :
  ((((List.range ins).flatMap fun c=>(endsW ins ds g (2 * ds.length)).getD c []).length:Nat):Int)=(wyW ins ds).getD g.th 0:=by
 have S:=(ES.all D hB hg hs hb (2 * ds.length) (Nat.le_refl _)).cnt.1 (by omega)
 rw [show 2 * ds.length / 2=ds.length by omega,Nat.sub_self,Nat.add_zero] at S
 rw [← S]
 have un:∀ k,k <= ins -> ∀ E:List (List (Int × Int)),Sf (fun _=>1) (fun x=>(wyW ins ds).getD x 0) E k=((((List.range k).flatMap fun c=>E.getD c []).length:Nat):Int):=by
  intro k
  induction k with
  | zero=>intro _ E; rfl
  | succ k ih =>
   intro hk E
   show Sf _ _ E k+((E.getD k []).map fun _=>(1:Int)).sum * (wyW ins ds).getD k 0=_
   rw [ih (by omega),sum_ones,wy_in (by omega),List.range_succ,List.flatMap_append,qF]
   simp
 exact (un ins (Nat.le_refl _) _).symm
end
end L2
set_option Elab.async false
set_option linter.all false
set_option maxRecDepth 100000
set_option maxHeartbeats 1000000
namespace L2
open PySem PySem.Spec PyProof.Rows
section
variable {K:PySem.W.Frag}{σ:St}{H:Hp}{Q:VK}
theorem comp_TT {α β:Type}{f:α -> List V}{f':β -> List V}{a:Addr}{us:List V}{xs:List α}{nt:Nat}{cs:List Nat}{gg:TG}{te:TE}(h:H a=some (.lst us))(hx:HTs f H us xs)(hz:xs.length <= 1000)(F:α -> β)
  (hb:∀ (ts:St) (y:Addr) (x:α) H' (R:V -> St -> Hp -> Prop),ts.length=nt -> x ∈ xs -> Same H H' -> H' y=some (.tup (f x)) -> (∀ r (ts':St) H5,ts'.length=nt -> H' r=none -> Same H' H5 -> H5 r=some (.tup (f' (F x))) -> R (.ref r) (ts' ++ capV cs σ) H5) -> gg (.ref y) (ts ++ capV cs σ) H' fun σ3 H3=>te σ3 H3 fun v H5=>R v σ3 H5)
  (hd:∀ acc ws H',H acc=none -> Same H H' -> H' acc=some (.lst ws) -> HTs f' H' ws (xs.map F) -> Q (.ref acc) H'):CompIt (Itl K a) nt cs gg tYes te σ H Q:=by
 have hl:=hx.len
 refine comp_any xs.length (fun acc i ys H'=>Same H H' /\ H' acc=some (.lst ys) /\ HTs f' H' ys ((xs.take i).map F)) (le_size hz) ?_ ?_ ?_ ?_ ?_ ?_
 ·rintro acc i ys H' hi ⟨s',_,_⟩
  exact ⟨us,us[i],SqL.of (s' _ _ h),by simp [show i < us.length by omega]⟩
 ·rintro acc ys H' ⟨s',_,_⟩
  exact ⟨us,SqL.of (s' _ _ h),Nat.le_of_eq hl⟩
 ·intro acc ha
  exact ⟨same_new ha _,upd_same,hts_nil⟩
 ·rintro acc i ys H' ⟨s',ha,ht⟩
  refine ⟨ha,?_⟩
  rw [ht.len,qC,qO]
  omega
 ·rintro acc i ys H' ts v H2 N hn hi ⟨s',ha,ht⟩ ⟨rfl,hv⟩ hts hN
  have hv:=hv us (SqL.of (s' _ _ h))
  have hxi:xs[i]? = some xs[i]:=qA hi
  obtain ⟨y,hy1,hy2⟩:=hx.at_ i _ hxi
  generalize xs[i]=x at hy2 hxi
  rw [hv] at hy1
  cases hy1
  refine hb ts y x H2 (fun v σ3 H5=>H5 acc=some (.lst ys) /\ N (ys ++ [v]) σ3 (upd H5 acc (.lst (ys ++ [v])))) hts (qE hxi) s' (s' _ _ hy2) fun r ts' H5 l5 r5 s5 h5=>?_
  have ha5:=s5 _ _ ha
  refine ⟨ha5,hN _ ts' _ l5 ⟨same_upd hn (s'.trans s5),upd_same,?_⟩⟩
  have tk:(xs.take (i+1)).map F=(xs.take i).map F ++ [F x]:=by rw [List.take_add_one,hxi]; simp
  rw [tk]
  refine ((ht.same s5).chgL ha5 (Chg.upd _)).snoc ?_
  rw [upd_ne (ne_of h5 ha5 (by intro z; cases z))]
  exact h5
 ·rintro acc ys H' hn ⟨s',ha,ht⟩
  rw [List.take_length] at ht
  exact hd acc ys H' hn s' ha ht
end
def pE (e:Int × Int):List V:=[.int e.1,.int e.2]
structure LLT (H:Hp) (l:Addr) (vs:List V) (E:List (List (Int × Int))):Prop where
 lst:H l=some (.lst vs)
 len:vs.length=E.length
 at_:∀ (x:Nat) (es:List (Int × Int)),E[x]? = some es -> ∃ (r:Addr) (us:List V),vs[x]? = some (.ref r) /\ r ≠ l /\ H r=some (.lst us) /\ HTs pE H us es
section
variable {H H':Hp}{l:Addr}{vs:List V}{E:List (List (Int × Int))}
theorem LLT.same (h:LLT H l vs E)(s:Same H H'):LLT H' l vs E:=⟨s _ _ h.lst,h.len,fun x es e=>by
 obtain ⟨r,us,h1,h2,h3,h4⟩:=h.at_ x es e
 exact ⟨r,us,h1,h2,s _ _ h3,h4.same s⟩⟩
theorem LLT.get (h:LLT H l vs E){x:Nat}(hx:x < E.length):∃ (r:Addr) (us:List V),vs[x]? = some (.ref r) /\ r ≠ l /\ H r=some (.lst us) /\ HTs pE H us (E.getD x []):=by
 obtain ⟨r,us,h1,h2,h3,h4⟩:=h.at_ x _ (qA hx)
 rw [← getD_of (d:=[]) (qA hx)] at h4
 exact ⟨r,us,h1,h2,h3,h4⟩
theorem LLT.put (h:LLT H l vs E){x:Nat}{r:Addr}{us:List V}{es:List (Int × Int)}(hr:r ≠ l)(h1:H r=some (.lst us))(h2:HTs pE H us es):LLT (upd H l (.lst (vs.set x (.ref r)))) l (vs.set x (.ref r)) (E.set x es):=by
 have c:Chg l H (upd H l (.lst (vs.set x (.ref r)))):=Chg.upd _
 refine ⟨upd_same,by rw [List.length_set,List.length_set,h.len],fun y fs e=>?_⟩
 rw [List.getElem?_set] at e
 by_cases z:x=y
 ·subst z
  rw [if_pos rfl] at e
  split at e
  ·rename_i hl
   cases e
   exact ⟨r,us,by rw [List.getElem?_set,if_pos rfl,if_pos (by rw [h.len]; exact hl)],hr,by rw [upd_ne hr]; exact h1,h2.chgL h.lst c⟩
  ·cases e
 ·rw [if_neg z] at e
  obtain ⟨r',us',g1,g2,g3,g4⟩:=h.at_ y fs e
  exact ⟨r',us',by rw [List.getElem?_set,if_neg z]; exact g1,g2,by rw [upd_ne g2]; exact g3,g4.chgL h.lst c⟩
theorem LLT.cut (h:LLT H l vs E){p:Addr}{n:Nat}(hp:H p=none):LLT (upd H p (.lst (vs.take n))) p (vs.take n) (E.take n):=by
 have s:=same_new hp (.lst (vs.take n))
 refine ⟨upd_same,by rw [qO,qO,h.len],fun x es e=>?_⟩
 have hx:x < n:=by
  have:=(qB.mp e).1
  rw [qO] at this
  omega
 rw [List.getElem?_take_of_lt hx] at e
 obtain ⟨r,us,h1,h2,h3,h4⟩:=h.at_ x es e
 exact ⟨r,us,by rw [List.getElem?_take_of_lt hx]; exact h1,ne_of_none h3 hp,s _ _ h3,h4.same s⟩
theorem LDp.llt {ps:List Addr}{n:Nat}(h:LDp H l ps ((List.range n).map fun _=>[])):LLT H l (ps.map V.ref) (qQ n []):=by
 have hn:ps.length=n:=by rw [h.len,qC,List.length_range]
 refine ⟨h.lst,by rw [qC,qL,hn],fun x es e=>?_⟩
 rw [List.getElem?_replicate] at e
 split at e
 ·rename_i hx
  cases e
  have ep:=qA (l:=ps) (i:=x) (by omega)
  refine ⟨_,[],by rw [qI,ep]; rfl,fun z=>h.nl (by rw [← z]; exact List.getElem_mem _),h.at_ x _ [] ep (by rw [qI,List.getElem?_range hx]; rfl),hts_nil⟩
 ·cases e
end
def spWays (K:PySem.W.Frag):Sp:=fun vs H Q _=>∃ (x dl gl:Addr) (ins:Nat) (us:List V) (ds:List Wd) (os:List V) (gs:List Go),vs=[.ref x] /\ WbK K H x dl gl ins us ds os gs /\ Dko ins ds /\ ds.length <= 400 /\ ins <= 12 /\
 ∀ r H',H r=none -> Same H H' -> H' r=some (.lst ((wyW ins ds).map V.int)) -> Q (.ref r) H'
structure TOk (ins:Nat) (ds:List Wd) (g:Go) (B:Nat):Prop where
 dko:Dko ins ds
 dl:ds.length <= 400
 i12:ins <= 12
 hB:∀ (k:Nat) (d:Wd),ds[k]? = some d -> (-(B:Int) <= d.s /\ d.s <= B) /\ (-(B:Int) <= d.t /\ d.t <= B)
 th:g.th < ins+ds.length
 sg:g.sg=1 \/ g.sg = -1
 sh:-(B:Int) <= g.sh /\ g.sh <= B
 wy:(wyW ins ds).getD g.th 0 <= 500
def FrV (H:Hp)(v:V):Prop:=∀ r,v = .ref r -> H r=none
theorem frv_set {H:Hp}{vs:List V}{i:Nat}{r:Addr}(h:∀ v ∈ vs,FrV H v)(hr:H r=none):∀ v ∈ vs.set i (.ref r),FrV H v:=fun v hv=>by
 rcases List.mem_or_eq_of_mem_set hv with z | z
 ·exact h v z
 ·rw [z]
  intro r' e
  cases e
  exact hr
theorem LLT.chg {H H':Hp}{l p:Addr}{vs ws:List V}{E:List (List (Int × Int))}(h:LLT H l vs E)(hp:H p=some (.lst ws))(hl:l ≠ p)(hv:∀ r,V.ref r ∈ vs -> r ≠ p)(c:Chg p H H'):LLT H' l vs E:=⟨c _ _ hl h.lst,h.len,fun x es e=>by
 obtain ⟨r,us,h1,h2,h3,h4⟩:=h.at_ x es e
 exact ⟨r,us,h1,h2,c _ _ (hv r (qE h1)) h3,h4.chgL hp c⟩⟩
def spEndsI (K:PySem.W.Frag):Sp:=fun vs H Q _=>∃ (x o dl gl:Addr) (ins:Nat) (us:List V) (ds:List Wd) (os:List V) (gs:List Go) (g:Go) (B:Nat),vs=[.ref x,.ref o] /\ WbK K H x dl gl ins us ds os gs /\ SqT K H o (gTp g) /\ TOk ins ds g B /\
 ∀ r vs H',H r=none -> Same H H' -> (∀ v ∈ vs,FrV H v) -> LLT H' r vs ((endsW ins ds g (2 * ds.length)).take ins) -> Q (.ref r) H'
def tmS (ins:Nat)(ds:List Wd)(g:Go)(n:Nat):List (List Int):=(List.range n).flatMap fun c=>((endsW ins ds g (2 * ds.length)).getD c []).map fun e=>[(c:Int),e.1,e.2]
def tmO (ins:Nat)(ds:List Wd)(g:Go):List (List Int):=if g.sg=0 then [] else tmS ins ds g ins
def spTerms (K:PySem.W.Frag):Sp:=fun vs H Q _=>∃ (x dl gl:Addr) (ins:Nat) (us:List V) (ds:List Wd) (os:List V) (gs:List Go) (g:Go) (B k:Nat),vs=[.ref x,.int (k:Int)] /\ WbK K H x dl gl ins us ds os gs /\ gs[k]? = some g /\ (g.sg=0 \/ TOk ins ds g B) /\
 ∀ r ys qs H',H r=none -> Same H H' -> H' r=some (.lst ys) -> HTs iTp H' ys qs -> qs.Perm (tmO ins ds g) -> qs.Pairwise (fun p q=>lexI q p=false) -> Q (.ref r) H'
theorem tmS_succ {ins:Nat}{ds:List Wd}{g:Go}{n:Nat}:tmS ins ds g (n+1)=tmS ins ds g n ++ ((endsW ins ds g (2 * ds.length)).getD n []).map fun e=>[(n:Int),e.1,e.2]:=by
 unfold tmS
 rw [List.range_succ,List.flatMap_append]
 simp
theorem tmS_len {ins:Nat}{ds:List Wd}{g:Go}{n:Nat}:(tmS ins ds g n).length=((List.range n).flatMap fun c=>(endsW ins ds g (2 * ds.length)).getD c []).length:=by
 unfold tmS
 rw [List.length_flatMap,List.length_flatMap]
 simp
theorem tmS_le {ins:Nat}{ds:List Wd}{g:Go}{n:Nat}:∀ m,(tmS ins ds g n).length <= (tmS ins ds g (n+m)).length
 | 0=>Nat.le_refl _
 | m+1=>by
  refine Nat.le_trans (tmS_le m) ?_
  rw [← Nat.add_assoc,tmS_succ,qF]
  omega
theorem TOk.cnt {ins:Nat}{ds:List Wd}{g:Go}{B:Nat}(h:TOk ins ds g B):(((tmS ins ds g ins).length:Nat):Int)=(wyW ins ds).getD g.th 0:=by
 rw [tmS_len]
 exact ends_cnt h.dko h.hB h.th h.sg h.sh
end L2
set_option Elab.async false
set_option linter.all false
set_option maxRecDepth 100000
set_option maxHeartbeats 1000000
namespace L2
open PySem PySem.Spec PyProof PyProof.Rows
section
variable {prog:Program}{w:World}{A:Around}{E:Value -> Shared -> Prop}{s:Shared}
end
section
variable {prog:Program}{w:World}{A:Around}{E:Value -> Shared -> Prop}{s:Shared}
end
section
variable {K:PySem.W.Frag}{σ:St}{H:Hp}{D:Ends}{g:TG}{tb:TS}{b:Addr}{n:Nat}
end
end L2
set_option Elab.async false
set_option linter.all false
set_option maxRecDepth 100000
set_option maxHeartbeats 1000000
namespace L2
open PySem PySem.Spec PyProof.Rows
section
variable {K:PySem.W.Frag}{σ:St}{H:Hp}{Q:VK}
end
def Tm3 (M:Int)(qs:List (List Int)):Prop:=∀ q ∈ qs,∃ c e s:Int,q=[c,e,s] /\ (s=1 \/ s = -1) /\ -M <= e /\ e <= M
section
variable {ins:Nat}{ds:List Wd}{g:Go}{B:Nat}
theorem TOk.es (h:TOk ins ds g B):ES ins ds g B (2 * ds.length) (endsW ins ds g (2 * ds.length)):=ES.all h.dko h.hB h.th h.sg h.sh _ (Nat.le_refl _)
theorem TOk.tm3 (h:TOk ins ds g B):Tm3 ((B * (2 * ds.length+1):Nat):Int) (tmS ins ds g ins):=fun q hq=>by
 unfold tmS at hq
 obtain ⟨c,_,hc⟩:=List.mem_flatMap.mp hq
 obtain ⟨e,he,rfl⟩:=qP.mp hc
 obtain ⟨h1,h2,h3⟩:=h.es.sg c e he
 exact ⟨_,_,_,rfl,h1,h2,h3⟩
end
end L2
set_option Elab.async false
set_option linter.all false
set_option maxRecDepth 100000
set_option maxHeartbeats 1000000
namespace L2
open PySem PySem.Spec PyProof.Rows
def goN (ins:Nat)(ds:List Wd):Nat -> Nat -> Int -> Int -> List (List Int)
 | 0,_,_,_=>[]
 | n+1,th,sh,sg=>if th < ins then [[(th:Int),sh,sg]] else match ds[th - ins]? with
  | some d=>goN ins ds n d.a (sh+d.s) sg ++ goN ins ds n d.b (sh+d.t) (sg * sgW d.w)
  | none=>[]
def gw (ins:Nat)(ds:List Wd)(th:Nat)(sh sg:Int):List (List Int):=goN ins ds (th+1) th sh sg
section
variable {ins:Nat}{ds:List Wd}
theorem goN_more (D:Dko ins ds):∀ (n th m:Nat) (sh sg:Int),th < n -> th < m -> goN ins ds n th sh sg=goN ins ds m th sh sg
 | 0,th,m,sh,sg,h,_=>by omega
 | n+1,th,0,sh,sg,_,h=>by omega
 | n+1,th,m+1,sh,sg,h1,h2=>by
  show (if th < ins then _ else _)=(if th < ins then _ else _)
  by_cases z:th < ins
  ·rw [if_pos z,if_pos z]
  ·rw [if_neg z,if_neg z]
   cases e:ds[th - ins]? with
   | none=>rfl
   | some d =>
    obtain ⟨ha,hb⟩:=D _ d e
    show goN ins ds n d.a _ _ ++ goN ins ds n d.b _ _=goN ins ds m d.a _ _ ++ goN ins ds m d.b _ _
    rw [goN_more D n d.a m _ _ (by omega) (by omega),goN_more D n d.b m _ _ (by omega) (by omega)]
theorem gw_in {th:Nat}{sh sg:Int}(h:th < ins):gw ins ds th sh sg=[[(th:Int),sh,sg]]:=by
 show (if th < ins then _ else _)=_
 rw [if_pos h]
theorem gw_at (D:Dko ins ds){k:Nat}{d:Wd}{sh sg:Int}(hd:ds[k]? = some d):gw ins ds (ins+k) sh sg=gw ins ds d.a (sh+d.s) sg ++ gw ins ds d.b (sh+d.t) (sg * sgW d.w):=by
 obtain ⟨ha,hb⟩:=D _ d hd
 show (if ins+k < ins then _ else _)=_
 rw [if_neg (by omega),show ins+k - ins=k by omega,hd]
 show goN ins ds (ins+k) d.a _ _ ++ goN ins ds (ins+k) d.b _ _=_
 rw [goN_more D (ins+k) d.a (d.a+1) _ _ ha (by omega),goN_more D (ins+k) d.b (d.b+1) _ _ hb (by omega)]
 rfl
theorem gw_len (D:Dko ins ds):∀ (th:Nat) (sh sg:Int),th < ins+ds.length -> (((gw ins ds th sh sg).length:Nat):Int)=(wyW ins ds).getD th 0:=by
 intro th
 induction th using Nat.strongRecOn with
 | ind th ih =>
  intro sh sg h
  by_cases z:th < ins
  ·rw [gw_in z,wy_in z]
   rfl
  ·obtain ⟨k,rfl⟩:∃ k,th=ins+k:=⟨th - ins,by omega⟩
   have hd:=qA (l:=ds) (i:=k) (by omega)
   obtain ⟨ha,hb⟩:=D k _ hd
   rw [gw_at D hd,wy_at D hd,qF]
   have h1:=ih _ ha (sh+ds[k].s) sg (by omega)
   have h2:=ih _ hb (sh+ds[k].t) (sg * sgW ds[k].w) (by omega)
   omega
def Lp (ins:Nat)(ds:List Wd)(E:List (List (Int × Int)))(K:Nat):List (List Int):=(List.range K).flatMap fun x=>(E.getD x []).flatMap fun e=>gw ins ds x e.1 e.2
theorem Lp_succ {E:List (List (Int × Int))}{K:Nat}:Lp ins ds E (K+1)=Lp ins ds E K ++ (E.getD K []).flatMap fun e=>gw ins ds K e.1 e.2:=by
 unfold Lp
 rw [List.range_succ,List.flatMap_append]
 simp
theorem Lp_hi {E:List (List (Int × Int))}{a:Ar}:∀ {K:Nat},K <= a.st -> Lp ins ds (stepE E a) K=Lp ins ds E K
 | 0,_=>rfl
 | K+1,h=>by
  rw [Lp_succ,Lp_succ,Lp_hi (by omega)]
  unfold stepE
  rw [getD_setE,if_neg (by omega)]
theorem Lp_step {E:List (List (Int × Int))}{a:Ar}(hl:a.st < E.length):∀ {K:Nat},a.st < K -> (Lp ins ds (stepE E a) K).Perm (Lp ins ds E K ++ (E.getD a.go []).flatMap fun e=>gw ins ds a.st (mvE a e).1 (mvE a e).2)
 | 0,h=>by omega
 | K+1,h=>by
  rw [Lp_succ,Lp_succ]
  by_cases z:a.st=K
  ·rw [Lp_hi (by omega)]
   have e:(stepE E a).getD K []=E.getD K [] ++ (E.getD a.go []).map (mvE a):=by
    unfold stepE
    rw [getD_setE,if_pos ⟨z,hl⟩,z]
   rw [e,List.flatMap_append,List.flatMap_map,← List.append_assoc,z]
  ·have e:(stepE E a).getD K []=E.getD K []:=by
    unfold stepE
    rw [getD_setE,if_neg (fun h=>z h.1)]
   rw [e]
   refine ((Lp_step hl (show a.st < K by omega)).append_right _).trans ?_
   rw [List.append_assoc,List.append_assoc]
   exact List.Perm.append_left _ List.perm_append_comm
theorem flat_two {α β:Type}{f g:α -> List β}:∀ (l:List α),(l.flatMap fun x=>f x ++ g x).Perm (l.flatMap f ++ l.flatMap g)
 | []=>List.Perm.refl _
 | x :: l=>by
  rw [List.flatMap_cons,List.flatMap_cons,List.flatMap_cons]
  refine (List.Perm.append_left _ (flat_two l)).trans ?_
  rw [List.append_assoc,List.append_assoc]
  refine List.Perm.append_left _ ?_
  rw [← List.append_assoc,← List.append_assoc]
  exact List.Perm.append_right _ List.perm_append_comm
def PvE (ins:Nat)(ds:List Wd)(C:List (List Int))(i:Nat)(E:List (List (Int × Int))):Prop :=
 (i % 2=0 -> (Lp ins ds E (ins+(ds.length - i / 2))).Perm C) /\
 (i % 2=1 -> ∀ d,ds[ds.length - 1 - i / 2]? = some d -> (Lp ins ds E (ins+(ds.length - 1 - i / 2)) ++ (E.getD (ins+(ds.length - 1 - i / 2)) []).flatMap fun e=>gw ins ds d.a (e.1+d.s) e.2).Perm C)
theorem PvE.step {C:List (List Int)}{i:Nat}{E:List (List (Int × Int))}{a:Ar}(D:Dko ins ds)(hl:E.length=ins+ds.length)(h:PvE ins ds C i E)(ha:(arrF ins 0 ds).reverse[i]? = some a):PvE ins ds C (i+1) (stepE E a):=by
 obtain ⟨hi,d,hd,a0,a1⟩:=arrR_at ha
 obtain ⟨da,db⟩:=D _ d hd
 have hk:ds.length - 1 - i / 2 < ds.length:=(qB.mp hd).1
 by_cases z:i % 2=0
 ·have e:=a0 z
  refine ⟨fun y=>by omega,fun _ d' hd'=>?_⟩
  rw [show (i+1) / 2=i / 2 by omega] at hd' ⊢
  rw [hd] at hd'
  cases hd'
  have h1:=h.1 z
  rw [show ins+(ds.length - i / 2)=ins+(ds.length - 1 - i / 2)+1 by omega,Lp_succ] at h1
  have e1:=Lp_step (ins:=ins) (ds:=ds) (E:=E) (a:=a) (by rw [e,hl]; show d.b < _; omega) (K:=ins+(ds.length - 1 - i / 2)) (by rw [e]; exact db)
  have e2:(stepE E a).getD (ins+(ds.length - 1 - i / 2)) []=E.getD (ins+(ds.length - 1 - i / 2)) []:=by
   unfold stepE
   rw [getD_setE,if_neg]
   rintro ⟨y,_⟩
   rw [e] at y
   have y':d.b=ins+(ds.length - 1 - i / 2):=y
   omega
  rw [e2]
  refine (e1.append_right _).trans (List.Perm.trans ?_ h1)
  rw [List.append_assoc]
  refine List.Perm.append_left _ (List.perm_append_comm.trans ?_)
  rw [e]
  have eg:((E.getD (ins+(ds.length - 1 - i / 2)) []).flatMap fun e=>gw ins ds (ins+(ds.length - 1 - i / 2)) e.1 e.2)=(E.getD (ins+(ds.length - 1 - i / 2)) []).flatMap fun e=>gw ins ds d.a (e.1+d.s) e.2 ++ gw ins ds d.b (e.1+d.t) (e.2 * sgW d.w):=by
   congr 1
   funext e
   exact gw_at D hd
  rw [eg]
  exact (flat_two _).symm
 ·have z1:i % 2=1:=by omega
  have e:=a1 z1
  refine ⟨fun _=>?_,fun y=>by omega⟩
  have h1:=h.2 z1 d hd
  have e1:=Lp_step (ins:=ins) (ds:=ds) (E:=E) (a:=a) (by rw [e,hl]; show d.a < _; omega) (K:=ins+(ds.length - 1 - i / 2)) (by rw [e]; exact da)
  rw [show ds.length - (i+1) / 2=ds.length - 1 - i / 2 by omega]
  refine e1.trans (List.Perm.trans ?_ h1)
  rw [e]
  refine List.Perm.append_left _ (List.Perm.of_eq ?_)
  congr 1
  funext x
  show gw ins ds d.a (x.1+d.s) (x.2 * 1)=_
  rw [Int.mul_one]
theorem TOk.gone {g:Go}{B:Nat}(h:TOk ins ds g B):(tmS ins ds g ins).Perm (gw ins ds g.th g.sh g.sg):=by
 have D:=h.dko
 have key:∀ i,i <= 2 * ds.length -> PvE ins ds (gw ins ds g.th g.sh g.sg) i (endsW ins ds g i):=by
  intro i
  induction i with
  | zero =>
   intro _
   refine ⟨fun _=>?_,fun z=>by omega⟩
   have gd:∀ x,(eIn (ins+ds.length) g).getD x []=if g.th=x then [(g.sh,g.sg)] else []:=fun x=>by
    unfold eIn
    rw [getD_setE,qL]
    by_cases z:g.th=x
    ·rw [if_pos ⟨z,h.th⟩,if_pos z]
    ·rw [if_neg (fun h=>z h.1),if_neg z,qD,List.getElem?_replicate]
     split <;> rfl
   have un:∀ K,Lp ins ds (eIn (ins+ds.length) g) K=if g.th < K then gw ins ds g.th g.sh g.sg else []:=fun K=>by
    induction K with
    | zero=>rfl
    | succ K ih =>
     rw [Lp_succ,ih,gd]
     by_cases z:g.th=K
     ·rw [if_neg (show ¬ g.th < K by omega),if_pos z,if_pos (show g.th < K+1 by omega),z]
      simp
     ·rw [if_neg z]
      by_cases y:g.th < K
      ·rw [if_pos y,if_pos (show g.th < K+1 by omega)]
       simp
      ·rw [if_neg y,if_neg (show ¬ g.th < K+1 by omega)]
       simp
   show (Lp ins ds (eIn (ins+ds.length) g) _).Perm _
   rw [un,Nat.zero_div,Nat.sub_zero,if_pos h.th]
  | succ i ih =>
   intro hi
   have hl:i < (arrF ins 0 ds).reverse.length:=by rw [List.length_reverse,arrF_len]; omega
   have e:=qA hl
   rw [endsW_succ e]
   exact (ih (by omega)).step D (endsW_len i) e
 have last:=(key (2 * ds.length) (Nat.le_refl _)).1 (by omega)
 rw [show 2 * ds.length / 2=ds.length by omega,Nat.sub_self,Nat.add_zero] at last
 refine List.Perm.trans (List.Perm.of_eq ?_) last
 unfold tmS Lp
 have:∀ n,n <= ins -> ((List.range n).flatMap fun c=>((endsW ins ds g (2 * ds.length)).getD c []).map fun e=>[(c:Int),e.1,e.2])=(List.range n).flatMap fun x=>((endsW ins ds g (2 * ds.length)).getD x []).flatMap fun e=>gw ins ds x e.1 e.2:=fun n=>by
  induction n with
  | zero=>intro _; rfl
  | succ n ih =>
   intro hn
   rw [List.range_succ,List.flatMap_append,List.flatMap_append,ih (by omega)]
   congr 1
   rw [List.flatMap_singleton,List.flatMap_singleton]
   generalize (endsW ins ds g (2 * ds.length)).getD n []=l
   induction l with
   | nil=>rfl
   | cons e l ih2=>rw [List.map_cons,List.flatMap_cons,gw_in (by omega),ih2]; rfl
 exact this ins (Nat.le_refl _)
end
theorem lex_same:∀ {p q:List (List Int)},p.Perm q -> p.Pairwise (fun x y=>lexI y x=false) -> q.Pairwise (fun x y=>lexI y x=false) -> p=q
 | [],q,h,_,_=>(List.Perm.nil_eq h)
 | x :: p,[],h,_,_=>by have:=h.length_eq; simp at this
 | x :: p,y :: q,h,hp,hq=>by
  have hp':=List.pairwise_cons.mp hp
  have hq':=List.pairwise_cons.mp hq
  have exy:x=y:=by
   by_cases z:x=y
   ·exact z
   ·have hx:x ∈ q:=(List.mem_cons.mp (h.mem_iff.mp List.mem_cons_self)).resolve_left z
    have hy:y ∈ p:=(List.mem_cons.mp (h.mem_iff.mpr List.mem_cons_self)).resolve_left fun e=>z e.symm
    have h1:=hp'.1 y hy
    have h2:=hq'.1 x hx
    rcases lexI_tot h2 with w | w
    ·rw [h1] at w; cases w
    ·exact w
  subst exy
  rw [lex_same (List.Perm.cons_inv h) hp'.2 hq'.2]
section
variable {ds:List Wd}
theorem wy_D {vs:List Int}{d:Wd}:vGD gWy 0 vs d=vs.getD d.a 0+vs.getD d.b 0:=by
 unfold vGD gWy
 omega
theorem vG_add:∀ (ds:List Wd) (xs ys:List Int),xs.length=ys.length -> Dko xs.length ds -> vG gWy 0 (List.zipWith (· + ·) xs ys) ds=List.zipWith (· + ·) (vG gWy 0 xs ds) (vG gWy 0 ys ds):=by
 intro ds
 refine snoc_ind (p:=fun ds=>∀ (xs ys:List Int),xs.length=ys.length -> Dko xs.length ds -> vG gWy 0 (List.zipWith (· + ·) xs ys) ds=List.zipWith (· + ·) (vG gWy 0 xs ds) (vG gWy 0 ys ds)) (fun xs ys _ _=>rfl) (fun es d ih xs ys hl D=>?_) ds
 have D':Dko xs.length es:=fun k x h=>D k x (by rw [qH (qB.mp h).1]; exact h)
 obtain ⟨da,db⟩:=D es.length d (by rw [qG (Nat.le_refl _),Nat.sub_self]; rfl)
 rw [vG_snoc,vG_snoc,vG_snoc,ih xs ys hl D']
 have l1:(vG gWy 0 xs es).length=xs.length+es.length:=vG_len _ _
 have l2:(vG gWy 0 ys es).length=xs.length+es.length:=by rw [vG_len,hl]
 rw [List.zipWith_append (by rw [l1,l2])]
 congr 1
 have gz:∀ j,j < xs.length+es.length -> (List.zipWith (· + ·) (vG gWy 0 xs es) (vG gWy 0 ys es)).getD j 0=(vG gWy 0 xs es).getD j 0+(vG gWy 0 ys es).getD j 0:=fun j hj=>by
  have e1:=qA (l:=vG gWy 0 xs es) (i:=j) (by omega)
  have e2:=qA (l:=vG gWy 0 ys es) (i:=j) (by omega)
  rw [getD_of e1,getD_of e2]
  refine getD_of ?_
  rw [List.getElem?_zipWith,e1,e2]
 show [vGD gWy 0 _ d]=[vGD gWy 0 _ d+vGD gWy 0 _ d]
 rw [wy_D,wy_D,wy_D,gz _ da,gz _ db]
 congr 1
 omega
def onesT (ins t:Nat):List Int:=(List.range ins).map fun k=>if k < t then 1 else 0
theorem onesT_len (ins t:Nat):(onesT ins t).length=ins:=by unfold onesT; rw [qC,List.length_range]
theorem onesT_succ {ins t:Nat}:List.zipWith (· + ·) (onesT ins t) (unitRow ins t)=onesT ins (t+1):=by
 unfold onesT unitRow
 apply List.ext_getElem?
 intro k
 rw [List.getElem?_zipWith,qI,qI,qI]
 by_cases h:k < ins
 ·rw [List.getElem?_range h]
  show some ((if k < t then (1:Int) else 0)+(if k=t then 1 else 0))=some (if k < t+1 then 1 else 0)
  congr 1
  by_cases z:k < t
  ·rw [if_pos z,if_neg (by omega),if_pos (by omega)]; rfl
  ·by_cases y:k=t
   ·rw [if_neg z,if_pos y,if_pos (by omega)]; rfl
   ·rw [if_neg z,if_neg y,if_neg (by omega)]; rfl
 ·rw [List.getElem?_eq_none (by rw [List.length_range]; omega)]
  rfl
theorem onesT_all {ins:Nat}:onesT ins ins=qQ ins 1:=by
 unfold onesT
 apply List.ext_getElem?
 intro k
 rw [qI,List.getElem?_replicate]
 by_cases h:k < ins
 ·rw [List.getElem?_range h,if_pos h]
  show some (if k < ins then (1:Int) else 0)=_
  rw [if_pos h]
 ·rw [List.getElem?_eq_none (by rw [List.length_range]; omega),if_neg h]
  rfl
theorem vG_zero {n:Nat}:∀ (ds:List Wd),Dko n ds -> vG gWy 0 (qQ n 0) ds=qQ (n+ds.length) 0:=by
 intro ds
 refine snoc_ind (p:=fun ds=>Dko n ds -> vG gWy 0 (qQ n 0) ds=qQ (n+ds.length) 0) (fun _=>rfl) (fun es d ih D=>?_) ds
 rw [vG_snoc,ih fun k x h=>D k x (by rw [qH (qB.mp h).1]; exact h)]
 have z:∀ j,(qQ (n+es.length) (0:Int)).getD j 0=0:=fun j=>by
  rw [qD,List.getElem?_replicate]
  split <;> rfl
 rw [wy_D,z,z,qF,List.length_singleton,← Nat.add_assoc,List.replicate_succ']
 rfl
theorem onesT_zero {ins:Nat}:onesT ins 0=qQ ins 0:=by
 unfold onesT
 apply List.ext_getElem?
 intro k
 rw [qI,List.getElem?_replicate]
 by_cases h:k < ins
 ·rw [List.getElem?_range h,if_pos h]
  rfl
 ·rw [List.getElem?_eq_none (by rw [List.length_range]; omega),if_neg h]
  rfl
end
end L2
set_option Elab.async false
set_option linter.all false
set_option maxRecDepth 100000
set_option maxHeartbeats 1000000
namespace L2
open PySem PySem.Spec PyProof.Rows
structure W17 (ins:Nat) (ds:List Wd) (gs:List Go):Prop where
 i1:1 <= ins
 i12:ins <= 12
 dk:Dko ins ds
 dl:ds.length <= 60
 sh:∀ (k:Nat) (d:Wd),ds[k]? = some d -> (-((40:Nat):Int) <= d.s /\ d.s <= ((40:Nat):Int)) /\ (-((40:Nat):Int) <= d.t /\ d.t <= ((40:Nat):Int))
 go:∀ g ∈ gs,g.th < ins+ds.length /\ (g=⟨0,0,0⟩ \/ ((g.sg=1 \/ g.sg = -1) /\ -((40:Nat):Int) <= g.sh /\ g.sh <= ((40:Nat):Int)))
 gl:gs.length <= 12
theorem FWeb.w17 {ins:Nat}{ds:List Wd}{gs:List Go}(F:FWeb ins ds gs):W17 ins ds gs :=
 ⟨F.ok.i1,F.ok.i2,fun k d hd=>⟨(F.sh k d hd).1,(F.sh k d hd).2.1⟩,F.ok.dl,fun k d hd=>by
  obtain ⟨_,_,⟨a1,a2,_⟩,⟨b1,b2,_⟩⟩:=F.sh k d hd
  exact ⟨⟨a1,a2⟩,⟨b1,b2⟩⟩,fun g hg=>⟨F.ok.gk g hg,by
  rcases F.go g hg with z | ⟨z,s1,s2,_⟩
  ·exact .inl z
  ·exact .inr ⟨z,s1,s2⟩⟩,F.ok.gl⟩
theorem W17.tok {ins:Nat}{ds:List Wd}{gs:List Go}(F:W17 ins ds gs){g:Go}(hg:g ∈ gs)(h0:g.sg ≠ 0)(hw:(wyW ins ds).getD g.th 0 <= 500):TOk ins ds g 40:=by
 obtain ⟨h1,h2⟩:=F.go g hg
 rcases h2 with z | ⟨z,s1,s2⟩
 ·rw [z] at h0; exact absurd rfl h0
 ·exact ⟨F.dk,by have:=F.dl; omega,F.i12,F.sh,h1,z,⟨s1,s2⟩,hw⟩
def spCnts17:Sp:=fun vs H Q _=>∃ (x dl gl:Addr) (ins:Nat) (us:List V) (ds:List Wd) (os:List V) (gs:List Go),vs=[.ref x] /\ Wb H x dl gl ins us ds os gs /\ W17 ins ds gs /\
 ∀ r H',H r=none -> Same H H' -> H' r=some (.lst ((wyW ins ds).map V.int)) -> Q (.ref r) H'
def spGone17:Sp:=fun vs H Q _=>∃ (x o dl gl:Addr) (ins:Nat) (us:List V) (ds:List Wd) (os:List V) (gs:List Go) (g:Go),vs=[.ref x,.ref o] /\ Wb H x dl gl ins us ds os gs /\ H o=some (.tup (gTp g)) /\ TOk ins ds g 40 /\
 ∀ r ys qs H',H r=none -> Same H H' -> H' r=some (.lst ys) -> HTs iTp H' ys qs -> qs.Perm (gw ins ds g.th g.sh g.sg) -> qs.Pairwise (fun p q=>lexI q p=false) -> Q (.ref r) H'
def spAre17:Sp:=fun vs H Q _=>∃ (l:Addr) (ys:List V) (qs:List (List Int)),vs=[.ref l] /\ H l=some (.lst ys) /\ HTs iTp H ys qs /\ (∀ q ∈ qs,q.length=3) /\ qs.length <= 500 /\ ∀ H',Same H H' -> Q (.bl true) H'
def spRef17 (K:PySem.W.Frag):Sp:=fun vs H Q _=>∃ (x dl gl:Addr) (ins:Nat) (us:List V) (ds:List Wd) (os:List V) (gs:List Go) (g:Go) (k:Nat),vs=[.ref x,.int (k:Int)] /\ WbK K H x dl gl ins us ds os gs /\ gs[k]? = some g /\ g.sg ≠ 0 /\ g.th < ins+ds.length /\ Dko ins ds /\ ds.length <= 400 /\ ins <= 12 /\ 500 < (wyW ins ds).getD g.th 0 /\ ∀ H',Same H H' -> Q (.bl true) H'
def spNoTerms (K:PySem.W.Frag)(J:Addr):Sp:=fun vs H _ E=>∃ (x dl gl:Addr) (ins:Nat) (us:List V) (ds:List Wd) (os:List V) (gs:List Go) (g:Go) (k:Nat),vs=[.ref x,.int (k:Int)] /\ WbK K H x dl gl ins us ds os gs /\ gs[k]? = some g /\ g.sg ≠ 0 /\ g.th < ins+ds.length /\ Dko ins ds /\ ds.length <= 400 /\ ins <= 12 /\ 500 < (wyW ins ds).getD g.th 0 /\ ∀ H',Same H H' -> E (.ref J) none H'
def spORt17:Sp:=fun vs H Q _=>∃ (x dl gl c:Addr) (ins:Nat) (us:List V) (ds:List Wd) (os:List V) (gs:List Go) (g:Go) (k:Nat),vs=[.ref x,.int (k:Int),.ref c] /\ Wb H x dl gl ins us ds os gs /\ W17 ins ds gs /\ gs[k]? = some g /\ H c=some (.lst ((wyW ins ds).map V.int)) /\ ∀ H',Same H H' -> Q (.bl true) H'
def spLong17:Sp:=fun vs H Q _=>∃ (p w dl gl:Addr) (c:Int) (ins:Nat) (us:List V) (ds:List Wd) (os:List V) (gs:List Go),vs=[.ref p,.ref w] /\ Feed H p c /\ c <= 200000000 /\ Wb H w dl gl ins us ds os gs /\ W17 ins ds gs /\ ds.length <= 8 /\ dl ≠ p /\ gl ≠ p /\
 ∀ (r dl' gl':Addr) (us':List V) (ds':List Wd) (os':List V) (gs':List Go) H',Wb H' r dl' gl' ins us' ds' os' gs' -> W17 ins ds' gs' -> dl' ≠ p -> gl' ≠ p -> Feed H' p (c+100000) -> Chg p H H' -> Q (.ref r) H'
def wsz (ins:Nat)(ds:List Wd):List Go -> Nat
 | []=>0
 | g :: r=>2 * (gw ins ds g.th g.sh g.sg).length - 1+wsz ins ds r
theorem wsz_app {ins:Nat}{ds:List Wd}:∀ (a b:List Go),wsz ins ds (a ++ b)=wsz ins ds a+wsz ins ds b
 | [],b=>by rw [List.nil_append]; show _=0+_; omega
 | g :: a,b=>by
  show 2 * _ - 1+wsz ins ds (a ++ b)=2 * _ - 1+wsz ins ds a+wsz ins ds b
  rw [wsz_app a b]
  omega
theorem cut_m1 {xs:List V}{v:V}:cutV (xs ++ [v]) none (some (-1))=xs:=by
 unfold cutV
 rw [HT.sIx_none,List.drop_zero,Nat.sub_zero]
 have e:((-1:Int)+((xs ++ [v]).length:Int)).toNat=xs.length:=by rw [qF,List.length_singleton]; omega
 show List.take ((-1:Int)+((xs ++ [v]).length:Int)).toNat (xs ++ [v])=xs
 rw [e,List.take_left]
theorem cut_m12 {xs:List V}:cutV xs (some (-12)) none=xs.drop (xs.length - 12):=by
 unfold cutV
 have e:HT.sIx xs.length 0 (some (-12))=xs.length - 12:=by
  show ((-12:Int)+(xs.length:Int)).toNat=_
  omega
 rw [HT.sIx_none,e]
 exact List.take_of_length_le (by rw [List.length_drop]; omega)
theorem hts_drop {α:Type}{f:α -> List V}{H:Hp}{vs:List V}{xs:List α}(h:HTs f H vs xs)(n:Nat):HTs f H (vs.drop n) (xs.drop n):=by
 refine ⟨by rw [List.length_drop,List.length_drop,h.len],fun k x hk=>?_⟩
 rw [List.getElem?_drop] at hk ⊢
 exact h.at_ _ x hk
theorem HTs.unsnoc {α:Type}{f:α -> List V}{H:Hp}{vs:List V}{xs:List α}{x:α}(h:HTs f H vs (xs ++ [x])):∃ (us:List V) (p:Addr),vs=us ++ [.ref p] /\ HTs f H us xs /\ H p=some (.tup (f x)):=by
 have hl:=h.len
 rw [qF,List.length_singleton] at hl
 obtain ⟨p,h1,h2⟩:=h.at_ xs.length x (by rw [qG (Nat.le_refl _),Nat.sub_self]; rfl)
 refine ⟨vs.take xs.length,p,?_,⟨by rw [qO]; omega,fun k y hk=>?_⟩,h2⟩
 ·apply List.ext_getElem?
  intro k
  by_cases z:k < xs.length
  ·rw [qH (by rw [qO]; omega),List.getElem?_take_of_lt z]
  ·rw [qG (by rw [qO]; omega),qO,Nat.min_eq_left (by omega)]
   by_cases y:k=xs.length
   ·rw [y,h1,Nat.sub_self]
    rfl
   ·rw [List.getElem?_eq_none (by omega),List.getElem?_eq_none (by simp; omega)]
 ·have kl:=(qB.mp hk).1
  obtain ⟨q,q1,q2⟩:=h.at_ k y (by rw [qH kl]; exact hk)
  exact ⟨q,by rw [List.getElem?_take_of_lt kl]; exact q1,q2⟩
def gwG (ins:Nat)(ds:List Wd)(g:Go):List (List Int):=gw ins ds g.th g.sh g.sg
theorem gwG_len {ins:Nat}{ds:List Wd}(D:Dko ins ds):∀ (a:List Go),(∀ g ∈ a,g.th < ins+ds.length) -> a.length <= (a.flatMap (gwG ins ds)).length
 | [],_=>Nat.le_refl _
 | g :: a,h=>by
  have h1:=gwG_len D a fun x hx=>h x (List.mem_cons_of_mem _ hx)
  have h2:=gw_len D g.th g.sh g.sg (h g List.mem_cons_self)
  have h3:=wy_pos D g.th (h g List.mem_cons_self)
  rw [List.flatMap_cons,qF,List.length_cons]
  show a.length+1 <= (gw ins ds g.th g.sh g.sg).length+_
  omega
end L2
set_option Elab.async false
set_option linter.all false
set_option maxRecDepth 100000
set_option maxHeartbeats 1000000
namespace L2
open PySem PySem.Spec PyProof.Rows
def lnk (w:String)(n:Nat):List Wd:=(List.range n).map fun k=>⟨Str.ofString w,k,1,k,0⟩
theorem lnk_len (w:String)(n:Nat):(lnk w n).length=n:=by unfold lnk; rw [qC,List.length_range]
theorem lnk_at {w:String}{n k:Nat}{d:Wd}(h:(lnk w n)[k]? = some d):d=⟨Str.ofString w,k,1,k,0⟩ /\ k < n:=by
 unfold lnk at h
 rw [qI] at h
 obtain ⟨j,hj,rfl⟩:=Option.map_eq_some_iff.mp h
 have:=qB.mp hj
 obtain ⟨h1,h2⟩:=this
 rw [List.length_range] at h1
 rw [List.getElem_range] at h2
 subst h2
 exact ⟨rfl,h1⟩
def okD (ins:Nat)(ds:List Wd):Bool:=(List.range ds.length).all fun k=>match ds[k]? with
 | some d=>decide (d.a < ins+k) && decide (d.b < ins+k) && decide (-40 <= d.s) && decide (d.s <= 40) && decide (-40 <= d.t) && decide (d.t <= 40)
 | none=>true
theorem okD_at {ins:Nat}{ds:List Wd}(h:okD ins ds=true){k:Nat}{d:Wd}(hd:ds[k]? = some d):d.a < ins+k /\ d.b < ins+k /\ (-((40:Nat):Int) <= d.s /\ d.s <= ((40:Nat):Int)) /\ (-((40:Nat):Int) <= d.t /\ d.t <= ((40:Nat):Int)):=by
 unfold okD at h
 rw [List.all_eq_true] at h
 have:=h k (List.mem_range.mpr (qB.mp hd).1)
 rw [hd] at this
 simp only [Bool.and_eq_true,decide_eq_true_eq] at this
 omega
def dsC:List Wd:=lnk "less" 60
def gsC:List Go:=[⟨60,0,1⟩,⟨8,0,1⟩,⟨9,0,1⟩]
def dsA:List Wd:=[⟨Str.ofString "less",6,0,5,1⟩,⟨Str.ofString "sum",7,0,4,0⟩,⟨Str.ofString "sum",8,2,3,0⟩,⟨Str.ofString "less",9,0,2,0⟩,⟨Str.ofString "sum",10,0,0,3⟩]
def dsL:List Wd:=[⟨Str.ofString "sum",11,0,11,1⟩,⟨Str.ofString "less",12,3,12,0⟩,⟨Str.ofString "sum",13,0,0,0⟩]
def dsB:List Wd:=lnk "sum" 6 ++ dsA ++ dsL
def gsB:List Go:=[⟨13,1,-1⟩,⟨14,0,1⟩]
theorem okC:okD 1 dsC=true:=by decide +kernel
theorem okB:okD 1 dsB=true:=by decide +kernel
theorem wyC:wyW 1 dsC=(List.range 61).map fun k=>(2:Int) ^ k:=by decide +kernel
theorem wyB:(wyW 1 dsB).drop 12=[250,500,501]:=by decide +kernel
theorem wyB13:(wyW 1 dsB).getD 13 0=500:=by decide +kernel
theorem wyB14:(wyW 1 dsB).getD 14 0=501:=by decide +kernel
theorem wyC60:(wyW 1 dsC).getD 60 0=2 ^ 60:=by rw [wyC]; decide +kernel
theorem wyC8:(wyW 1 dsC).getD 8 0=256:=by rw [wyC]; decide +kernel
theorem wyC9:(wyW 1 dsC).getD 9 0=512:=by rw [wyC]; decide +kernel
theorem lenC:dsC.length=60:=lnk_len _ _
theorem dkC:Dko 1 dsC:=fun k d h=>⟨(okD_at okC h).1,(okD_at okC h).2.1⟩
theorem dkB:Dko 1 dsB:=fun k d h=>⟨(okD_at okB h).1,(okD_at okB h).2.1⟩
theorem tokC:TOk 1 dsC ⟨8,0,1⟩ 40:=⟨dkC,by rw [lenC]; decide,by decide,fun k d h=>(okD_at okC h).2.2,by rw [lenC]; decide,.inl rfl,⟨by decide,by decide⟩,by rw [wyC8]; decide⟩
theorem tokB:TOk 1 dsB ⟨13,1,-1⟩ 40:=⟨dkB,by decide,by decide,fun k d h=>(okD_at okB h).2.2,by decide,.inr rfl,⟨by decide,by decide⟩,by rw [wyB13]; decide⟩
end L2
end
section
set_option Elab.async false
set_option linter.all false
set_option maxRecDepth 100000
set_option maxHeartbeats 4000000
namespace Law
open PySem L2
open Option.some renaming injEq → qJs
open L2.HO.tup renaming injEq → qJt
open L2.HO.lst renaming injEq → qJl
open L2.HO.dK renaming injEq → qJd
def top (i:Nat):Stmt:=PySem.Challenge.pw_shiftsums_k17_ways_and_terms.main.body.getD i (.Pass ⟨0,0,0,0⟩)
abbrev s_second_sign:Stmt:=top 11
theorem sc_second_sign:FnScope ["deed"] ["deed"] (defScope s_second_sign):=⟨rfl,rfl,rfl,by decide +kernel,rfl,by decide +kernel,by decide +kernel⟩
abbrev s_deed_arrows:Stmt:=top 12
theorem sc_deed_arrows:FnScope ["web","told","place","deed","thing"] ["web"] (defScope s_deed_arrows):=⟨rfl,rfl,rfl,by decide +kernel,rfl,by decide +kernel,by decide +kernel⟩
abbrev s_thing_count:Stmt:=top 13
theorem sc_thing_count:FnScope ["web"] ["web"] (defScope s_thing_count):=⟨rfl,rfl,rfl,by decide +kernel,rfl,by decide +kernel,by decide +kernel⟩
abbrev s_ways:Stmt:=top 16
theorem sc_ways:FnScope ["web","told","start","goal","shift","sign"] ["web"] (defScope s_ways):=⟨rfl,rfl,rfl,by decide +kernel,rfl,by decide +kernel,by decide +kernel⟩
abbrev s_terms:Stmt:=top 17
theorem sc_terms:FnScope ["web","k","out","told","thing","ends"] ["web","k"] (defScope s_terms):=⟨rfl,rfl,rfl,by decide +kernel,rfl,by decide +kernel,by decide +kernel⟩
abbrev s_ends_at_inputs:Stmt:=top 18
theorem sc_ends_at_inputs:FnScope ["web","out","ends","start","goal","shift","sign","longer"] ["web","out"] (defScope s_ends_at_inputs):=⟨rfl,rfl,rfl,by decide +kernel,rfl,by decide +kernel,by decide +kernel⟩
abbrev s_l_feed:Stmt:=top 20
theorem sc_l_feed:FnScope ["_law_script","_law_k","_law_cell","_law_great"] ["_law_script","_law_k"] (defScope s_l_feed):=⟨rfl,rfl,rfl,by decide +kernel,rfl,by decide +kernel,by decide +kernel⟩
abbrev s_l_take:Stmt:=top 21
theorem sc_l_take:FnScope ["_law_feed_here","_law_many","_law_high","_law_digit","_law_step","_law_mixed"] ["_law_feed_here","_law_many"] (defScope s_l_take):=⟨rfl,rfl,rfl,by decide +kernel,rfl,by decide +kernel,by decide +kernel⟩
abbrev s_l_low:Stmt:=top 22
theorem sc_l_low:FnScope ["_law_row","_law_k"] ["_law_row"] (defScope s_l_low):=⟨rfl,rfl,rfl,by decide +kernel,rfl,by decide +kernel,by decide +kernel⟩
abbrev s_l_moved:Stmt:=top 23
theorem sc_l_moved:FnScope ["_law_row","_law_shift_here"] ["_law_row","_law_shift_here"] (defScope s_l_moved):=⟨rfl,rfl,rfl,by decide +kernel,rfl,by decide +kernel,by decide +kernel⟩
abbrev s_l_shift:Stmt:=top 24
theorem sc_l_shift:FnScope ["_law_feed_here","_law_row","_law_way"] ["_law_feed_here","_law_row"] (defScope s_l_shift):=⟨rfl,rfl,rfl,by decide +kernel,rfl,by decide +kernel,by decide +kernel⟩
abbrev s_l_picked:Stmt:=top 25
theorem sc_l_picked:FnScope ["_law_feed_here","_law_many"] ["_law_feed_here","_law_many"] (defScope s_l_picked):=⟨rfl,rfl,rfl,by decide +kernel,rfl,by decide +kernel,by decide +kernel⟩
abbrev s_l_web:Stmt:=top 26
theorem sc_l_web:FnScope ["_law_feed_here","_law_most","_law_ins","_law_rows","_law_deeds","_law_k","_law_a","_law_b","_law_s","_law_t","_law_sign","_law_pairs","_law_outs","_law_thing","_law_out"] ["_law_feed_here","_law_most"] (defScope s_l_web):=⟨rfl,rfl,rfl,by decide +kernel,rfl,by decide +kernel,by decide +kernel⟩
abbrev s_l_longer:Stmt:=top 27
theorem sc_l_longer:FnScope ["_law_feed_here","_law_web_here","_law_ins","_law_deeds","_law_outs","_law_more","_law_k","_law_last","_law_other"] ["_law_feed_here","_law_web_here"] (defScope s_l_longer):=⟨rfl,rfl,rfl,by decide +kernel,rfl,by decide +kernel,by decide +kernel⟩
abbrev s_l_counts:Stmt:=top 28
theorem sc_l_counts:FnScope ["_law_web_here","_law_ins","_law_deeds","_law_outs","_law_found","_law_i","_law_some","_law_word","_law_a","_law_s","_law_b","_law_t"] ["_law_web_here"] (defScope s_l_counts):=⟨rfl,rfl,rfl,by decide +kernel,rfl,by decide +kernel,by decide +kernel⟩
abbrev s_l_gone:Stmt:=top 29
theorem sc_l_gone:FnScope ["_law_web_here","_law_out","_law_ins","_law_deeds","_law_outs","_law_waiting","_law_found","_law_thing","_law_shift_here","_law_sign","_law_word","_law_a","_law_s","_law_b","_law_t"] ["_law_web_here","_law_out"] (defScope s_l_gone):=⟨rfl,rfl,rfl,by decide +kernel,rfl,by decide +kernel,by decide +kernel⟩
abbrev s_l_are_terms:Stmt:=top 30
theorem sc_l_are_terms:FnScope ["_law_found","_law_term"] ["_law_found"] (defScope s_l_are_terms):=⟨rfl,rfl,rfl,by decide +kernel,rfl,by decide +kernel,by decide +kernel⟩
abbrev s_l_refused:Stmt:=top 31
theorem sc_l_refused:FnScope ["_law_web_here","_law_k","_law_caught","e","_law_others"] ["_law_web_here","_law_k"] (defScope s_l_refused):=⟨rfl,rfl,rfl,by decide +kernel,rfl,by decide +kernel,by decide +kernel⟩
abbrev s_l_out_right:Stmt:=top 32
theorem sc_l_out_right:FnScope ["_law_web_here","_law_k","_law_counts_here","_law_thing","_law_shift_here","_law_sign","_law_found"] ["_law_web_here","_law_k","_law_counts_here"] (defScope s_l_out_right):=⟨rfl,rfl,rfl,by decide +kernel,rfl,by decide +kernel,by decide +kernel⟩
abbrev s_law:Stmt:=top 33
theorem sc_law:FnScope ["_law_script","_law_k","_law_feed_here","_law_web_here","_law_rows","_law_handed","_law_counts_here","_law_found","_law_place","_law_chain","_law_doubled","_law_added","_law_last","_law_bound"] ["_law_script"] (defScope s_law):=⟨rfl,rfl,rfl,by decide +kernel,rfl,by decide +kernel,by decide +kernel⟩
structure Bl (mg:Str -> Option Value):Prop where
 ValueError:mg "ValueError" = none
 abs:mg "abs" = none
 all:mg "all" = none
 any:mg "any" = none
 bool:mg "bool" = none
 enumerate:mg "enumerate" = none
 int:mg "int" = none
 isinstance:mg "isinstance" = none
 len:mg "len" = none
 list:mg "list" = none
 max:mg "max" = none
 min:mg "min" = none
 range:mg "range" = none
 reversed:mg "reversed" = none
 sorted:mg "sorted" = none
 tuple:mg "tuple" = none
 zip:mg "zip" = none
structure Txt (K:PySem.W.Frag) (mg:Str -> Option Value):Prop where
 bl:Bl mg
 t_second_sign:∃ (f:Addr) (fd:FuncData),Fun K "second_sign" "second_sign" s_second_sign f fd /\ mg "second_sign" = some (.ref f) /\ Binds K fd ["deed"] []
 t_deed_arrows:∃ (f:Addr) (fd:FuncData),Fun K "deed_arrows" "deed_arrows" s_deed_arrows f fd /\ mg "deed_arrows" = some (.ref f) /\ Binds K fd ["web"] []
 t_thing_count:∃ (f:Addr) (fd:FuncData),Fun K "thing_count" "thing_count" s_thing_count f fd /\ mg "thing_count" = some (.ref f) /\ Binds K fd ["web"] []
 t_ways:∃ (f:Addr) (fd:FuncData),Fun K "ways" "ways" s_ways f fd /\ mg "ways" = some (.ref f) /\ Binds K fd ["web"] []
 t_terms:∃ (f:Addr) (fd:FuncData),Fun K "terms" "terms" s_terms f fd /\ mg "terms" = some (.ref f) /\ Binds K fd ["web","k"] []
 t_ends_at_inputs:∃ (f:Addr) (fd:FuncData),Fun K "ends_at_inputs" "ends_at_inputs" s_ends_at_inputs f fd /\ mg "ends_at_inputs" = some (.ref f) /\ Binds K fd ["web","out"] []
 t_l_feed:∃ (f:Addr) (fd:FuncData),Fun K "_law_feed" "_law_feed" s_l_feed f fd /\ mg "_law_feed" = some (.ref f) /\ Binds K fd ["_law_script","_law_k"] []
 t_l_take:∃ (f:Addr) (fd:FuncData),Fun K "_law_take" "_law_take" s_l_take f fd /\ mg "_law_take" = some (.ref f) /\ Binds K fd ["_law_feed_here","_law_many"] []
 t_l_low:∃ (f:Addr) (fd:FuncData),Fun K "_law_low" "_law_low" s_l_low f fd /\ mg "_law_low" = some (.ref f) /\ Binds K fd ["_law_row"] []
 t_l_moved:∃ (f:Addr) (fd:FuncData),Fun K "_law_moved" "_law_moved" s_l_moved f fd /\ mg "_law_moved" = some (.ref f) /\ Binds K fd ["_law_row","_law_shift_here"] []
 t_l_shift:∃ (f:Addr) (fd:FuncData),Fun K "_law_shift" "_law_shift" s_l_shift f fd /\ mg "_law_shift" = some (.ref f) /\ Binds K fd ["_law_feed_here","_law_row"] []
 t_l_picked:∃ (f:Addr) (fd:FuncData),Fun K "_law_picked" "_law_picked" s_l_picked f fd /\ mg "_law_picked" = some (.ref f) /\ Binds K fd ["_law_feed_here","_law_many"] []
 t_l_web:∃ (f:Addr) (fd:FuncData),Fun K "_law_web" "_law_web" s_l_web f fd /\ mg "_law_web" = some (.ref f) /\ Binds K fd ["_law_feed_here","_law_most"] []
 t_l_longer:∃ (f:Addr) (fd:FuncData),Fun K "_law_longer" "_law_longer" s_l_longer f fd /\ mg "_law_longer" = some (.ref f) /\ Binds K fd ["_law_feed_here","_law_web_here"] []
 t_l_counts:∃ (f:Addr) (fd:FuncData),Fun K "_law_counts" "_law_counts" s_l_counts f fd /\ mg "_law_counts" = some (.ref f) /\ Binds K fd ["_law_web_here"] []
 t_l_gone:∃ (f:Addr) (fd:FuncData),Fun K "_law_gone" "_law_gone" s_l_gone f fd /\ mg "_law_gone" = some (.ref f) /\ Binds K fd ["_law_web_here","_law_out"] []
 t_l_are_terms:∃ (f:Addr) (fd:FuncData),Fun K "_law_are_terms" "_law_are_terms" s_l_are_terms f fd /\ mg "_law_are_terms" = some (.ref f) /\ Binds K fd ["_law_found"] []
 t_l_refused:∃ (f:Addr) (fd:FuncData),Fun K "_law_refused" "_law_refused" s_l_refused f fd /\ mg "_law_refused" = some (.ref f) /\ Binds K fd ["_law_web_here","_law_k"] []
 t_l_out_right:∃ (f:Addr) (fd:FuncData),Fun K "_law_out_right" "_law_out_right" s_l_out_right f fd /\ mg "_law_out_right" = some (.ref f) /\ Binds K fd ["_law_web_here","_law_k","_law_counts_here"] []
 t_law:∃ (f:Addr) (fd:FuncData),Fun K "law" "law" s_law f fd /\ mg "law" = some (.ref f) /\ Binds K fd ["_law_script"] []
 i_MOST_TOLD:∃ tk:Tok,mg "MOST_TOLD" = some (.int 500 tk)
 cls:∃ (cst_ShiftError cst_NoWeb cst_Down cst_NoText cst_NoJoin cst_TooMany cst_NoRow cst_NoName cst_NoWord:Addr),mg "ShiftError" = some (.ref cst_ShiftError) /\ mg "NoWeb" = some (.ref cst_NoWeb) /\ mg "Down" = some (.ref cst_Down) /\ mg "NoText" = some (.ref cst_NoText) /\ mg "NoJoin" = some (.ref cst_NoJoin) /\ mg "TooMany" = some (.ref cst_TooMany) /\ mg "NoRow" = some (.ref cst_NoRow) /\ mg "NoName" = some (.ref cst_NoName) /\ mg "NoWord" = some (.ref cst_NoWord) /\ PySem.W.excIn K cst_TooMany [.type "ValueError",.type "Exception",.type "BaseException",.type "object"] "ValueError.__new__" = true /\ PySem.W.excIn K cst_ShiftError [.type "ValueError",.type "Exception",.type "BaseException",.type "object"] "ValueError.__new__" = true /\ L2.subIn K cst_TooMany cst_ShiftError=true /\ L2.excK K cst_TooMany=true /\ PySem.W.kitOne K (.ref cst_TooMany) (.type "ValueError")=some true /\ PySem.W.kitAny K (.ref cst_TooMany) [.ref cst_Down,.ref cst_NoJoin,.ref cst_NoName,.ref cst_NoRow,.ref cst_NoText,.ref cst_NoWeb,.ref cst_NoWord]=some false
local macro_rules | `(tactic| walk_at "WP")=>`(tactic| (first | (dsimp only [w_gLst,w_forE,w_compE,w_compZ,w_for3,w_gTupK,w_ixT,w_eqS,w_aug,w_ipI,w_dnK,w_maxD,w_sl,w_noPart,w_part,w_slL,w_var,w_C,w_op,w_un,w_rI,w_rI0,w_rU,w_eqI,w_neI,w_eqB,w_neB,w_seq,w_next,w_break,w_cont,w_ifS,w_ret,w_retN,w_drop,w_asg,w_gName,w_gSub,w_test,w_B,w_and,w_or,w_not,w_andV,w_orV,w_notV,w_if,w_call,w_nil,w_cons,w_CB,w_lst,w_tup,w_isN,w_notN,w_chain,w_for1,w_for2b,w_On2,w_forL,w_forT,w_forV,w_compL,w_compT,w_comp1,w_comp2b,w_yes,w_bm,w_bm0,w_rBits,w_tyInt,w_gTupM,w_gCons,w_gNil,w_dgS,w_dgI,w_sDP,w_dpS,w_dpI,w_dII,w_disp,tPairs,pen_s,pen_a,pen_l,pen_len,pen_pa,pen_pl,qJd,w_append,List.getElem?_cons_zero,List.getElem?_cons_succ,List.set_cons_zero,List.set_cons_succ,qJs,V.int.injEq,V.bl.injEq,V.ref.injEq,V.str.injEq,exists_eq_left',exists_eq_left,List.append_nil,List.cons.injEq,and_true,true_and,exists_and_left,decide_eq_true_eq,Bool.not_eq_true',decide_eq_false_iff_not,Bool.not_true,Bool.not_false,w_ixM,w_ixU,w_ixL,w_setL,w_cxK,w_isI_ii,w_isI_ib,w_isI_bi,w_isI_bb,w_isI_ni,w_isI_nb,w_isI_si,w_isI_sb,sl_0,sl_1,sl_2,sl_3,sl_4,sl_5,sl_6,sl_7,sl_8,CPowB,w_shl1,at_0,at_1,at_2,at_3,ixN_0,ixN_1,ixN_2,upd_same,qJl,qJt,Int.reduceToNat,Int.reducePow,Int.reduceNeg,Int.reduceLT,Int.reduceLE,Int.reduceMod,Int.reduceMul,Int.reduceAdd,Int.reduceSub,Int.reduceDiv,Int.reduceEq,ite_true,ite_false,if_true,if_false,Bool.true_eq_false,Bool.false_eq_true,List.length_cons,List.length_nil,reduceCtorEq,false_and,and_false,not_false_eq_true,not_true_eq_false,exists_false,false_or,or_false,w_pop,w_extend,w_reverse,w_clear,w_cat,w_LZ,w_LR,w_forD,w_compZ2]; try simp only [w_gLst,w_forE,w_compE,w_compZ,w_for3,w_gTupK,w_ixT,w_eqS,w_aug,w_ipI,w_dnK,w_maxD,w_sl,w_noPart,w_part,w_slL,w_var,w_C,w_op,w_un,w_rI,w_rI0,w_rU,w_eqI,w_neI,w_eqB,w_neB,w_seq,w_next,w_break,w_cont,w_ifS,w_ret,w_retN,w_drop,w_asg,w_gName,w_gSub,w_test,w_B,w_and,w_or,w_not,w_andV,w_orV,w_notV,w_if,w_call,w_nil,w_cons,w_CB,w_lst,w_tup,w_isN,w_notN,w_chain,w_for1,w_for2b,w_On2,w_forL,w_forT,w_forV,w_compL,w_compT,w_comp1,w_comp2b,w_yes,w_bm,w_bm0,w_rBits,w_tyInt,w_gTupM,w_gCons,w_gNil,w_dgS,w_dgI,w_sDP,w_dpS,w_dpI,w_dII,w_disp,tPairs,pen_s,pen_a,pen_l,pen_len,pen_pa,pen_pl,qJd,w_append,List.getElem?_cons_zero,List.getElem?_cons_succ,List.set_cons_zero,List.set_cons_succ,qJs,V.int.injEq,V.bl.injEq,V.ref.injEq,V.str.injEq,exists_eq_left',exists_eq_left,List.append_nil,List.cons.injEq,and_true,true_and,exists_and_left,decide_eq_true_eq,Bool.not_eq_true',decide_eq_false_iff_not,Bool.not_true,Bool.not_false,w_ixM,w_ixU,w_ixL,w_setL,w_cxK,w_isI_ii,w_isI_ib,w_isI_bi,w_isI_bb,w_isI_ni,w_isI_nb,w_isI_si,w_isI_sb,sl_0,sl_1,sl_2,sl_3,sl_4,sl_5,sl_6,sl_7,sl_8,CPowB,w_shl1,at_0,at_1,at_2,at_3,ixN_0,ixN_1,ixN_2,upd_same,qJl,qJt,Int.reduceToNat,Int.reducePow,Int.reduceNeg,Int.reduceLT,Int.reduceLE,Int.reduceMod,Int.reduceMul,Int.reduceAdd,Int.reduceSub,Int.reduceDiv,Int.reduceEq,ite_true,ite_false,if_true,if_false,Bool.true_eq_false,Bool.false_eq_true,List.length_cons,List.length_nil,reduceCtorEq,false_and,and_false,not_false_eq_true,not_true_eq_false,exists_false,false_or,or_false,w_pop,w_extend,w_reverse,w_clear,w_cat,w_LZ,w_LR,w_forD,w_compZ2]) | simp only [w_gLst,w_forE,w_compE,w_compZ,w_for3,w_gTupK,w_ixT,w_eqS,w_aug,w_ipI,w_dnK,w_maxD,w_sl,w_noPart,w_part,w_slL,w_var,w_C,w_op,w_un,w_rI,w_rI0,w_rU,w_eqI,w_neI,w_eqB,w_neB,w_seq,w_next,w_break,w_cont,w_ifS,w_ret,w_retN,w_drop,w_asg,w_gName,w_gSub,w_test,w_B,w_and,w_or,w_not,w_andV,w_orV,w_notV,w_if,w_call,w_nil,w_cons,w_CB,w_lst,w_tup,w_isN,w_notN,w_chain,w_for1,w_for2b,w_On2,w_forL,w_forT,w_forV,w_compL,w_compT,w_comp1,w_comp2b,w_yes,w_bm,w_bm0,w_rBits,w_tyInt,w_gTupM,w_gCons,w_gNil,w_dgS,w_dgI,w_sDP,w_dpS,w_dpI,w_dII,w_disp,tPairs,pen_s,pen_a,pen_l,pen_len,pen_pa,pen_pl,qJd,w_append,List.getElem?_cons_zero,List.getElem?_cons_succ,List.set_cons_zero,List.set_cons_succ,qJs,V.int.injEq,V.bl.injEq,V.ref.injEq,V.str.injEq,exists_eq_left',exists_eq_left,List.append_nil,List.cons.injEq,and_true,true_and,exists_and_left,decide_eq_true_eq,Bool.not_eq_true',decide_eq_false_iff_not,Bool.not_true,Bool.not_false,w_ixM,w_ixU,w_ixL,w_setL,w_cxK,w_isI_ii,w_isI_ib,w_isI_bi,w_isI_bb,w_isI_ni,w_isI_nb,w_isI_si,w_isI_sb,sl_0,sl_1,sl_2,sl_3,sl_4,sl_5,sl_6,sl_7,sl_8,CPowB,w_shl1,at_0,at_1,at_2,at_3,ixN_0,ixN_1,ixN_2,upd_same,qJl,qJt,Int.reduceToNat,Int.reducePow,Int.reduceNeg,Int.reduceLT,Int.reduceLE,Int.reduceMod,Int.reduceMul,Int.reduceAdd,Int.reduceSub,Int.reduceDiv,Int.reduceEq,ite_true,ite_false,if_true,if_false,Bool.true_eq_false,Bool.false_eq_true,List.length_cons,List.length_nil,reduceCtorEq,false_and,and_false,not_false_eq_true,not_true_eq_false,exists_false,false_or,or_false,w_pop,w_extend,w_reverse,w_clear,w_cat,w_LZ,w_LR,w_forD,w_compZ2]))
local macro_rules | `(tactic| walk_at "o") => `(tactic| first | exact .inl rfl | exact .inr rfl | assumption)
section
variable {P:Program}{w:World}{K:PySem.W.Frag}{mg:Str -> Option Value}{base:Heap}
theorem ok_feed (T:Txt K mg):Cal P w K mg base 1 "_law_feed" ["_law_script","_law_k"] (spFeed K):=by
 have B:=T.bl
 refine mkCal T.t_l_feed sc_l_feed (fun vs H Q E h=>?_) (fun f cdv A outer s H vs Q E hr h=>?_)
 ·obtain ⟨a,ns,k,rfl,_⟩:=h
  rfl
 obtain ⟨a,ns,k,rfl,hS,h63,h0,h1,q⟩:=h
 refine ⟨_,((@pss_cons _ _ _ _ _ (@ps_set _ _ (2) _ _ _ _ sc_l_feed.nd rfl (by walk_at "o") pe_int (by rfl) (by walk_at "o")) (@pss_cons _ _ _ _ _ (@ps_if _ _ _ _ _ _ _ _ (@pt_cmpR _ _ _ _ _ _ _ _ op_lt (pv 1) (@pe_callB _ _ _ _ _ _ _ _ _ call_lenS rfl B.len bo_len (@pa_cons _ _ _ _ _ (pv 0) pa_nil (by rfl)) (by decide) (by decide) (by rfl) (by rfl)) (@nomark _ _ (by decide) (by decide))) (@pss_one _ _ _ (@ps_set _ _ (2) _ _ _ _ sc_l_feed.nd rfl (by walk_at "o") (@pe_ix _ _ _ _ _ _ _ ix_list (pv 0) (pv 1) (fun _ _=>rfl)) (by rfl) (by walk_at "o"))) pss_nil) (@pss_cons _ _ _ _ _ (@ps_set _ _ (3) _ _ _ _ sc_l_feed.nd rfl (by walk_at "o") (@pe_callB _ _ _ _ _ _ _ _ _ call_abs rfl B.abs bo_abs (@pa_cons _ _ _ _ _ (pv 2) pa_nil (by rfl)) (by decide) (by decide) (by rfl) (by rfl)) (by rfl) (by walk_at "o")) (@pss_cons _ _ _ _ _ (@ps_if _ _ _ _ _ _ _ _ (@pt_cmpR _ _ _ _ _ _ _ _ op_lt (pv 3) (@pe_op _ _ _ _ _ _ _ _ op_powB pe_int pe_int) (@nomark _ _ (by decide) (by decide))) (@pss_one _ _ _ (@ps_set _ _ (3) _ _ _ _ sc_l_feed.nd rfl (by walk_at "o") pe_int (by rfl) (by walk_at "o"))) pss_nil) (@pss_one _ _ _ (@ps_ret _ _ _ _ (@pe_lst _ _ _ _ (@pa_cons _ _ _ _ _ (pv 3) (@pa_cons _ _ _ _ _ (@pe_op _ _ _ _ _ _ _ _ op_mod (@pe_op _ _ _ _ _ _ _ _ op_add (@pe_op _ _ _ _ _ _ _ _ op_add (@pe_op _ _ _ _ _ _ _ _ op_mulB (@pe_op _ _ _ _ _ _ _ _ op_mod (pv 2) pe_int) pe_int) (@pe_op _ _ _ _ _ _ _ _ op_mulB pe_int (pv 1))) pe_int) pe_int) (@pa_cons _ _ _ _ _ pe_int pa_nil (by rfl)) (by rfl)) (by rfl)))))))))),?_⟩
 rw [show start ["_law_script","_law_k","_law_cell","_law_great"] [.ref a,.int k]=[some (.ref a),some (.int k),none,none] from rfl]
 try walk_at "WP"
 refine ⟨_,hS.sq,?_⟩
 split
 ·rename_i hk
  rw [qC] at hk
  obtain ⟨v,hv,_⟩:=atI_int h0 hk
  refine ⟨_,hS.sq,_,hv,?_⟩
  try walk_at "WP"
  refine ite2 (fun _=>?_) (fun _=>?_)
  ·refine ⟨mul_r (by decide) (by decide),mul_l (by decide) (by decide),fun p hp=>?_⟩
   exact q p _ hp (same_new hp _) (feed_of (by decide) (by omega) (by omega) (by decide) (by decide))
  ·refine ⟨mul_r (by decide) (by decide),mul_l (by decide) (by decide),fun p hp=>?_⟩
   exact q p _ hp (same_new hp _) (feed_of (by split <;> omega) (by omega) (by omega) (by decide) (by decide))
 ·refine ⟨mul_r (by decide) (by decide),mul_l (by decide) (by decide),fun p hp=>?_⟩
  exact q p _ hp (same_new hp _) (feed_of (by decide) (by omega) (by omega) (by decide) (by decide))
theorem ok_takeN (T:Txt K mg):∀ n,Cal P w K mg base n "_law_take" ["_law_feed_here","_law_many"] (spTakeN n)
 | 0=>by
  obtain ⟨f,fd,F,m,b⟩:=T.t_l_take
  have no:∀ vs H Q E,¬ spTakeN 0 vs H Q E:=fun vs H Q E h=>by
   obtain ⟨p,m,c,_,_,_,h0,_⟩:=h
   omega
  exact ⟨f,fd,⟨fun vs H Q E h=>absurd h (no vs H Q E),fun A outer s H args us vs Q E _ _ _ _ h=>absurd h (no vs H Q E)⟩,m,F.kp,b⟩
 | n+1=>by
  have C_l_take:=ok_takeN T n
  have B:=T.bl
  refine mkCal T.t_l_take sc_l_take (fun vs H Q E h=>?_) (fun f cdv A outer s H vs Q E hr h=>?_)
  ·obtain ⟨a,m,c,rfl,_⟩:=h
   rfl
  obtain ⟨p,m,c,rfl,hF,hc,_,hn,hm,hl,q⟩:=h
  refine ⟨_,((@pss_cons _ _ _ _ _ (@ps_if _ _ _ _ _ _ _ _ (@pt_cmpR _ _ _ _ _ _ _ _ op_gt (pv 1) (@pe_op _ _ _ _ _ _ _ _ op_powB pe_int pe_int) (@nomark _ _ (by decide) (by decide))) (@pss_cons _ _ _ _ _ (@ps_set _ _ (2) _ _ _ _ sc_l_take.nd rfl (by walk_at "o") (@pe_cal _ _ _ _ _ _ _ _ _ _ C_l_take hr rfl (@pa_cons _ _ _ _ _ (pv 0) (@pa_cons _ _ _ _ _ (@pe_op _ _ _ _ _ _ _ _ op_add (@pe_op _ _ _ _ _ _ _ _ op_fdivB (pv 1) (@pe_op _ _ _ _ _ _ _ _ op_powB pe_int pe_int)) pe_int) pa_nil (by rfl)) (by rfl)) (by decide) (by rfl) (by rfl)) (by rfl) (by walk_at "o")) (@pss_one _ _ _ (@ps_ret _ _ _ _ (@pe_op _ _ _ _ _ _ _ _ op_mod (@pe_op _ _ _ _ _ _ _ _ op_add (@pe_op _ _ _ _ _ _ _ _ op_mulB (pv 2) (@pe_op _ _ _ _ _ _ _ _ op_powB pe_int pe_int)) (@pe_cal _ _ _ _ _ _ _ _ _ _ C_l_take hr rfl (@pa_cons _ _ _ _ _ (pv 0) (@pa_cons _ _ _ _ _ (@pe_op _ _ _ _ _ _ _ _ op_powB pe_int pe_int) pa_nil (by rfl)) (by rfl)) (by decide) (by rfl) (by rfl))) (pv 1))))) pss_nil) (@pss_cons _ _ _ _ _ (@ps_if _ _ _ _ _ _ _ _ (@pt_cmpR _ _ _ _ _ _ _ _ op_gt (@pe_ix _ _ _ _ _ _ _ ix_M (pv 0) pe_int (fun _ _=>rfl)) pe_int (@nomark _ _ (by decide) (by decide))) (@pss_cons _ _ _ _ _ (@ps_set _ _ (3) _ _ _ _ sc_l_take.nd rfl (by walk_at "o") (@pe_op _ _ _ _ _ _ _ _ op_mod (@pe_ix _ _ _ _ _ _ _ ix_M (pv 0) pe_int (fun _ _=>rfl)) (pv 1)) (by rfl) (by walk_at "o")) (@pss_cons _ _ _ _ _ (@ps_asg _ _ _ _ _ _ (@pe_op _ _ _ _ _ _ _ _ op_fdivB (@pe_ix _ _ _ _ _ _ _ ix_M (pv 0) pe_int (fun _ _=>rfl)) (pv 1)) (@pg_sub _ _ _ _ _ _ _ (pv 0) pe_int set_list (by intro _ ; rfl)) (by rfl) (by rfl) (by rfl)) (@pss_one _ _ _ (@ps_ret _ _ _ _ (pv 3))))) pss_nil) (@pss_cons _ _ _ _ _ (@ps_set _ _ (4) _ _ _ _ sc_l_take.nd rfl (by walk_at "o") (@pe_op _ _ _ _ _ _ _ _ op_add (@pe_ix _ _ _ _ _ _ _ ix_M (pv 0) pe_int (fun _ _=>rfl)) pe_int) (by rfl) (by walk_at "o")) (@pss_cons _ _ _ _ _ (@ps_asg _ _ _ _ _ _ (pv 4) (@pg_sub _ _ _ _ _ _ _ (pv 0) pe_int set_list (by intro _ ; rfl)) (by rfl) (by rfl) (by rfl)) (@pss_cons _ _ _ _ _ (@ps_set _ _ (5) _ _ _ _ sc_l_take.nd rfl (by walk_at "o") (@pe_op _ _ _ _ _ _ _ _ op_mod (@pe_op _ _ _ _ _ _ _ _ op_add (@pe_op _ _ _ _ _ _ _ _ op_add (@pe_ix _ _ _ _ _ _ _ ix_M (pv 0) pe_int (fun _ _=>rfl)) (@pe_op _ _ _ _ _ _ _ _ op_mulB (@pe_op _ _ _ _ _ _ _ _ op_mulB pe_int (pv 4)) (pv 4))) (@pe_op _ _ _ _ _ _ _ _ op_mulB pe_int (pv 4))) pe_int) (by rfl) (by walk_at "o")) (@pss_cons _ _ _ _ _ (@ps_set _ _ (5) _ _ _ _ sc_l_take.nd rfl (by walk_at "o") (@pe_op _ _ _ _ _ _ _ _ op_mod (@pe_op _ _ _ _ _ _ _ _ op_add (@pe_op _ _ _ _ _ _ _ _ op_add (@pe_op _ _ _ _ _ _ _ _ op_mulB (pv 5) (pv 5)) (@pe_op _ _ _ _ _ _ _ _ op_mulB pe_int (pv 5))) (pv 4)) pe_int) (by rfl) (by walk_at "o")) (@pss_cons _ _ _ _ _ (@ps_set _ _ (5) _ _ _ _ sc_l_take.nd rfl (by walk_at "o") (@pe_op _ _ _ _ _ _ _ _ op_mod (@pe_op _ _ _ _ _ _ _ _ op_add (@pe_op _ _ _ _ _ _ _ _ op_mulB (pv 5) (pv 5)) (@pe_op _ _ _ _ _ _ _ _ op_mulB pe_int (pv 5))) pe_int) (by rfl) (by walk_at "o")) (@pss_one _ _ _ (@ps_ret _ _ _ _ (@pe_op _ _ _ _ _ _ _ _ op_mod (@pe_op _ _ _ _ _ _ _ _ op_fdivB (pv 5) pe_int) (pv 1)))))))))))),?_⟩
  obtain ⟨g,d,st,hH,hg,hd0,hd1,hs0,hs1⟩:=id hF
  rw [show start ["_law_feed_here","_law_many","_law_high","_law_digit","_law_step","_law_mixed"] [.ref p,.int m]=[some (.ref p),some (.int m),none,none,none,none] from rfl]
  (iterate 5 ((try (walk_at "WP")); (try (simp only [hH,qJs,qJt,qJl,qJd,exists_eq_left',exists_eq_left])))); (try (walk_at "WP"))
  have t2:=two_pow (n:=n)
  have l2:=lim_ge n
  split
  ·rename_i hbig
   have hl':m <= 1000000 * (lim n - 1):=hl
   have hn0:0 < n:=by
    rcases Nat.eq_zero_or_pos n with e | e
    ·subst e
     have:lim 0=11:=rfl
     omega
    ·exact e
   refine ⟨divB (by decide) (by decide),p,m / 1000000+1,c,rfl,hF,by omega,hn0,by omega,by omega,by omega,fun r H1 r0 r1 F1 C1=>?_⟩
   try walk_at "WP"
   refine ⟨mul_r (by decide) (by decide),p,1000000,c+2 ^ n,rfl,F1,by omega,hn0,by omega,by decide,by have:=l2.2 hn0; omega,fun r' H2 r0' r1' F2 C2=>?_⟩
   try walk_at "WP"
   exact ⟨by omega,q _ _ (modq (by omega)).1 (modq (by omega)).2 (F2.mono (by omega)) (C1.trans C2)⟩
  ·rename_i hsm
   split
   ·rename_i hgp
    exact ⟨by omega,divB (by omega) (by omega),q _ _ (modq (by omega)).1 (modq (by omega)).2 (feed_of (divq hg (by omega)) hd0 hd1 hs0 (by omega)) (Chg.upd _)⟩
   ·refine ⟨mul_l (by decide) (by decide),mul_r (by omega) (by omega),mul_l (by decide) (by decide),mul_l (by omega) (by omega),mul_l (by decide) (by decide),mul_l (by omega) (by omega),mul_l (by decide) (by decide),divB (by decide) (by decide),by omega,?_⟩
    exact q _ _ (modq (by omega)).1 (modq (by omega)).2 (feed_of hg hd0 hd1 (by omega) (by omega)) (Chg.upd _)
theorem ok_take (T:Txt K mg):Cal P w K mg base 10 "_law_take" ["_law_feed_here","_law_many"] spTake :=
 (ok_takeN T 10).imp fun vs H Q E h=>by
  obtain ⟨p,m,c,e,hF,hc,h1,h2,q⟩:=h
  refine ⟨p,m,c,e,hF,by omega,by decide,by decide,h1,Int.le_trans h2 (by decide +kernel),fun r H' a b F C=>q r H' a b (F.mono (by omega)) C⟩
end
section
variable {P:Program}{w:World}{K:PySem.W.Frag}{mg:Str -> Option Value}{base:Heap}
theorem ok_flow (T:Txt K mg):Cal P w K mg base 1 "_law_low" ["_law_row"] spLower:=by
 have B:=T.bl
 refine mkCal T.t_l_low sc_l_low (fun vs H Q E h=>?_) (fun f cdv A outer s H vs Q E hr h=>?_)
 ·obtain ⟨l,xs,rfl,_⟩:=h
  rfl
 obtain ⟨l,xs,rfl,hl,hlen,q⟩:=h
 refine ⟨_,((@pss_cons _ _ _ _ _ (@ps_for _ _ _ _ _ _ _ _ PassesOwn.never rfl (@pi_range1 _ _ _ _ _ _ rfl B.range (@pa_cons _ _ _ _ _ pe_int pa_nil (by rfl)) (by rfl)) (@pg_name _ _ (1) _ sc_l_low.nd rfl (by walk_at "o") (by walk_at "o")) (@pss_one _ _ _ (@ps_if _ _ _ _ _ _ _ _ (@pt_val _ _ _ (@pe_callB _ _ _ _ _ _ _ _ _ (@call_any _ rfl) rfl B.any bo_any (@pa_cons _ _ _ _ _ (@pe_comp0 _ _ _ _ _ _ _ _ (["_law_part","_law_k"]) (1) ([1]) _ _ _ rfl (@pi_list _ _ _ _ (pv 0)) (fun nd C s H fp=>⟨(@pg_name _ _ (0) _ nd rfl (by walk_at "o") (by walk_at "o")),pn_nil,(@pe_cmpR _ _ _ _ _ _ _ _ op_ne (@pe_op _ _ _ _ _ _ _ _ op_mod (pv 0) (@pe_op _ _ _ _ _ _ _ _ op_shlB pe_int (pv 1))) pe_int (@nomark _ _ (by decide) (by decide)))⟩) (by decide +kernel) (by first | rfl | decide +kernel) (by first | rfl | decide +kernel) rfl (fun _=>rfl)) pa_nil (by rfl)) (by decide) (by decide) (by rfl) (by rfl)) (by intro _ ; rfl)) (@pss_one _ _ _ (@ps_ret _ _ _ _ (pv 1))) pss_nil)) (by intro _ ; rfl)) (@pss_one _ _ _ (@ps_ret _ _ _ _ pe_int)))),?_⟩
 rw [show start ["_law_row","_law_k"] [.ref l]=[some (.ref l),none] from rfl]
 try walk_at "WP"
 refine forR (fun i σ H2=>∃ o1,σ = [some (.ref l),o1] /\ Same H H2 /\ ∀ x ∈ xs,(2:Int) ^ i ∣ x) ⟨none,rfl,Same.refl _,fun x _=>by rw [Int.pow_zero]; exact Int.one_dvd x⟩ ?_ ?_
 ·rintro i σ H2 N hi ⟨o1,rfl,s2,hd⟩ hN
  have hl2:=s2 _ _ hl
  try walk_at "WP"
  refine ⟨⟨_,SqL.of hl2⟩,?_⟩
  refine comp_L (f:=fun v=>match v with | .int n=>some (V.bl (!decide (n % (2 * 2 ^ i)=0))) | _=>none) (SqL.of hl2) (by rw [qC]; exact le_big (by omega)) (fun y H' R hy hS' hR=>?_) (fun acc hacc=>?_)
  ·obtain ⟨n,hn,rfl⟩:=qP.mp hy
   rw [show capV [1] [some (V.ref l),some (V.int (0+(i:Int)))]=[some (V.int (0+(i:Int)))] from rfl]
   try walk_at "WP"
   rw [Int.zero_add,Int.toNat_natCast]
   have pp:=pow_pos2 i
   refine ⟨⟨by omega,by omega,Nat.le_trans (bits_le (n:=2) (by decide)) (by decide)⟩,by omega,?_⟩
   exact hR
  have eb:(xs.map V.int).filterMap (fun v=>match v with | .int n=>some (V.bl (!decide (n % (2 * 2 ^ i)=0))) | _=>none)=(xs.map fun n=>!decide (n % (2 * 2 ^ i)=0)).map V.bl:=by
   rw [List.filterMap_map,List.map_map,← filterMap_some]
   rfl
  rw [eb]
  have sa:=same_new hacc (.lst ((xs.map fun n=>!decide (n % (2 * 2 ^ i)=0)).map V.bl))
  have ha:(upd H2 acc (.lst ((xs.map fun n=>!decide (n % (2 * 2 ^ i)=0)).map V.bl))) acc=some (.lst ((xs.map fun n=>!decide (n % (2 * 2 ^ i)=0)).map V.bl)):=upd_same
  generalize upd H2 acc (.lst ((xs.map fun n=>!decide (n % (2 * 2 ^ i)=0)).map V.bl))=H3 at sa ha ⊢
  try walk_at "WP"
  refine ⟨acc,_,rfl,ha,?_⟩
  try walk_at "WP"
  by_cases z:((xs.map fun n=>!decide (n % (2 * 2 ^ i)=0)).any id)=true
  ·rw [if_pos z]
   refine q _ _ (by omega) (by omega) ?_ (s2.trans sa)
   rw [Int.zero_add,Int.toNat_natCast]
   exact hd
  ·rw [if_neg z]
   refine hN _ _ ⟨_,rfl,s2.trans sa,fun x hx=>?_⟩
   have hz:¬ (!decide (x % (2 * 2 ^ i)=0))=true:=fun h=>z (List.any_eq_true.mpr ⟨_,qP.mpr ⟨x,hx,rfl⟩,h⟩)
   have hz2:x % (2 * 2 ^ i)=0:=by
    rw [Bool.not_eq_true',decide_eq_false_iff_not,Decidable.not_not] at hz
    exact hz
   rw [Int.pow_succ,Int.mul_comm]
   exact Int.dvd_of_emod_eq_zero hz2
 ·rintro σ H2 ⟨o1,rfl,s2,hd⟩
  try walk_at "WP"
  exact q 40 _ (by decide) (by decide) hd s2
theorem ok_fmoved (T:Txt K mg):Cal P w K mg base 1 "_law_moved" ["_law_row","_law_shift_here"] spLMoved:=by
 have B:=T.bl
 refine mkCal T.t_l_moved sc_l_moved (fun vs H Q E h=>?_) (fun f cdv A outer s H vs Q E hr h=>?_)
 ·obtain ⟨l,xs,sh,rfl,_⟩:=h
  rfl
 obtain ⟨l,xs,sh,rfl,hl,hlen,hb,s0,s1,q⟩:=h
 refine ⟨_,((@pss_cons _ _ _ _ _ (@ps_if _ _ _ _ _ _ _ _ (@pt_cmpR _ _ _ _ _ _ _ _ op_ge (pv 1) pe_int (@nomark _ _ (by decide) (by decide))) (@pss_one _ _ _ (@ps_ret _ _ _ _ (@pe_comp0 _ _ _ _ _ _ _ _ (["_law_part","_law_shift_here"]) (1) ([1]) _ _ _ rfl (@pi_list _ _ _ _ (pv 0)) (fun nd C s H fp=>⟨(@pg_name _ _ (0) _ nd rfl (by walk_at "o") (by walk_at "o")),pn_nil,(@pe_op _ _ _ _ _ _ _ _ op_shlB (pv 0) (pv 1))⟩) (by decide +kernel) (by first | rfl | decide +kernel) (by first | rfl | decide +kernel) rfl (fun _=>rfl)))) pss_nil) (@pss_one _ _ _ (@ps_ret _ _ _ _ (@pe_comp0 _ _ _ _ _ _ _ _ (["_law_part","_law_shift_here"]) (1) ([1]) _ _ _ rfl (@pi_list _ _ _ _ (pv 0)) (fun nd C s H fp=>⟨(@pg_name _ _ (0) _ nd rfl (by walk_at "o") (by walk_at "o")),pn_nil,(@pe_op _ _ _ _ _ _ _ _ op_shr (pv 0) (@pe_un _ _ _ _ _ _ un_neg (pv 1)))⟩) (by decide +kernel) (by first | rfl | decide +kernel) (by first | rfl | decide +kernel) rfl (fun _=>rfl)))))),?_⟩
 rw [show start ["_law_row","_law_shift_here"] [.ref l,.int sh]=[some (.ref l),some (.int sh)] from rfl]
 try walk_at "WP"
 have ecap:capV [1] [some (V.ref l),some (V.int sh)]=[some (V.int sh)]:=rfl
 refine ite2 (fun z=>?_) (fun z=>?_)
 ·refine ⟨⟨_,SqL.of hl⟩,?_⟩
  refine comp_L (f:=liI (mvI sh)) (SqL.of hl) (by rw [qC]; exact le_big (by omega)) (fun y H' R hy hS' hR=>?_) (fun acc hacc=>?_)
  ·obtain ⟨n,hn,rfl⟩:=qP.mp hy
   rw [ecap]
   try walk_at "WP"
   refine ⟨⟨by omega,by omega,Nat.le_trans (bits_le (hb n hn)) (by decide)⟩,?_⟩
   rw [← mvI_up z]
   exact hR
  rw [liI_map]
  exact q acc _ hacc (same_new hacc _) upd_same
 ·refine ⟨⟨_,SqL.of hl⟩,?_⟩
  refine comp_L (f:=liI (mvI sh)) (SqL.of hl) (by rw [qC]; exact le_big (by omega)) (fun y H' R hy hS' hR=>?_) (fun acc hacc=>?_)
  ·obtain ⟨n,hn,rfl⟩:=qP.mp hy
   rw [ecap]
   try walk_at "WP"
   refine ⟨by omega,?_⟩
   rw [← mvI_down (by omega)]
   exact hR
  rw [liI_map]
  exact q acc _ hacc (same_new hacc _) upd_same
theorem ok_fpick (T:Txt K mg):Cal P w K mg base 11 "_law_picked" ["_law_feed_here","_law_many"] spFPick:=by
 have B:=T.bl
 have C_l_take:=ok_take (P:=P) (w:=w) (base:=base) T
 refine mkCal T.t_l_picked sc_l_picked (fun vs H Q E h=>?_) (fun f cdv A outer s H vs Q E hr h=>?_)
 ·obtain ⟨p,m,c,rfl,_⟩:=h
  rfl
 obtain ⟨p,m,c,rfl,hF,hc,h1,h2,q⟩:=h
 refine ⟨_,((@pss_cons _ _ _ _ _ (@ps_if _ _ _ _ _ _ _ _ (@pt_cmpR _ _ _ _ _ _ _ _ op_eq (@pe_cal _ _ _ _ _ _ _ _ _ _ C_l_take hr rfl (@pa_cons _ _ _ _ _ (pv 0) (@pa_cons _ _ _ _ _ pe_int pa_nil (by rfl)) (by rfl)) (by decide) (by rfl) (by rfl)) pe_int (@nomark _ _ (by decide) (by decide))) (@pss_one _ _ _ (@ps_ret _ _ _ _ (@pe_op _ _ _ _ _ _ _ _ op_sub (@pe_op _ _ _ _ _ _ _ _ op_sub (pv 1) pe_int) (@pe_cal _ _ _ _ _ _ _ _ _ _ C_l_take hr rfl (@pa_cons _ _ _ _ _ (pv 0) (@pa_cons _ _ _ _ _ (@pe_callB _ _ _ _ _ _ _ _ _ (@call_min2 _ rfl) rfl B.min bo_min (@pa_cons _ _ _ _ _ (pv 1) (@pa_cons _ _ _ _ _ pe_int pa_nil (by rfl)) (by rfl)) (by decide) (by decide) (by rfl) (by rfl)) pa_nil (by rfl)) (by rfl)) (by decide) (by rfl) (by rfl))))) pss_nil) (@pss_one _ _ _ (@ps_ret _ _ _ _ (@pe_cal _ _ _ _ _ _ _ _ _ _ C_l_take hr rfl (@pa_cons _ _ _ _ _ (pv 0) (@pa_cons _ _ _ _ _ (pv 1) pa_nil (by rfl)) (by rfl)) (by decide) (by rfl) (by rfl)))))),?_⟩
 rw [show start ["_law_feed_here","_law_many"] [.ref p,.int m]=[some (.ref p),some (.int m)] from rfl]
 try walk_at "WP"
 refine take_ hF (by omega) (by decide) (by decide) fun r1 H1 r10 r11 F1 C1=>?_
 try walk_at "WP"
 refine ite2 (fun z=>?_) (fun z=>?_)
 ·refine ⟨m,3,⟨rfl,rfl⟩,?_⟩
  generalize hmn:(if 3 < m then (3:Int) else m)=mn
  have hmn2:1 <= mn /\ mn <= 3 /\ mn <= m:=by rw [← hmn]; split <;> omega
  refine take_ F1 (by omega) (by omega) (by omega) fun r2 H2 r20 r21 F2 C2=>?_
  try walk_at "WP"
  exact q _ _ (by omega) (by omega) (F2.mono (by omega)) (C1.trans C2)
 ·refine take_ F1 (by omega) (by omega) (by omega) fun r2 H2 r20 r21 F2 C2=>?_
  exact q _ _ r20 r21 (F2.mono (by omega)) (C1.trans C2)
theorem ok_fshift (T:Txt K mg):Cal P w K mg base 11 "_law_shift" ["_law_feed_here","_law_row"] spFShift:=by
 have B:=T.bl
 have C_l_take:=ok_take (P:=P) (w:=w) (base:=base) T
 have C_l_low:=(ok_flow (P:=P) (w:=w) (base:=base) T).mono (k:=10) (by decide)
 refine mkCal T.t_l_shift sc_l_shift (fun vs H Q E h=>?_) (fun f cdv A outer s H vs Q E hr h=>?_)
 ·obtain ⟨p,l,c,xs,rfl,_⟩:=h
  rfl
 obtain ⟨p,l,c,xs,rfl,hF,hc,hl,hlen,hlp,q⟩:=h
 refine ⟨_,((@pss_cons _ _ _ _ _ (@ps_set _ _ (2) _ _ _ _ sc_l_shift.nd rfl (by walk_at "o") (@pe_cal _ _ _ _ _ _ _ _ _ _ C_l_take hr rfl (@pa_cons _ _ _ _ _ (pv 0) (@pa_cons _ _ _ _ _ pe_int pa_nil (by rfl)) (by rfl)) (by decide) (by rfl) (by rfl)) (by rfl) (by walk_at "o")) (@pss_cons _ _ _ _ _ (@ps_if _ _ _ _ _ _ _ _ (@pt_cmpR _ _ _ _ _ _ _ _ op_lt (pv 2) pe_int (@nomark _ _ (by decide) (by decide))) (@pss_one _ _ _ (@ps_ret _ _ _ _ (@pe_cal _ _ _ _ _ _ _ _ _ _ C_l_take hr rfl (@pa_cons _ _ _ _ _ (pv 0) (@pa_cons _ _ _ _ _ pe_int pa_nil (by rfl)) (by rfl)) (by decide) (by rfl) (by rfl)))) pss_nil) (@pss_cons _ _ _ _ _ (@ps_if _ _ _ _ _ _ _ _ (@pt_cmpR _ _ _ _ _ _ _ _ op_eq (pv 2) pe_int (@nomark _ _ (by decide) (by decide))) (@pss_one _ _ _ (@ps_ret _ _ _ _ (@pe_cal _ _ _ _ _ _ _ _ _ _ C_l_take hr rfl (@pa_cons _ _ _ _ _ (pv 0) (@pa_cons _ _ _ _ _ pe_int pa_nil (by rfl)) (by rfl)) (by decide) (by rfl) (by rfl)))) pss_nil) (@pss_cons _ _ _ _ _ (@ps_if _ _ _ _ _ _ _ _ (@pt_cmpR _ _ _ _ _ _ _ _ op_lt (pv 2) pe_int (@nomark _ _ (by decide) (by decide))) (@pss_one _ _ _ (@ps_ret _ _ _ _ pe_int)) pss_nil) (@pss_one _ _ _ (@ps_ret _ _ _ _ (@pe_un _ _ _ _ _ _ un_neg (@pe_cal _ _ _ _ _ _ _ _ _ _ C_l_take hr rfl (@pa_cons _ _ _ _ _ (pv 0) (@pa_cons _ _ _ _ _ (@pe_op _ _ _ _ _ _ _ _ op_add (@pe_cal _ _ _ _ _ _ _ _ _ _ C_l_low hr rfl (@pa_cons _ _ _ _ _ (pv 1) pa_nil (by rfl)) (by decide) (by rfl) (by rfl)) pe_int) pa_nil (by rfl)) (by rfl)) (by decide) (by rfl) (by rfl)))))))))),?_⟩
 rw [show start ["_law_feed_here","_law_row","_law_way"] [.ref p,.ref l]=[some (.ref p),some (.ref l),none] from rfl]
 try walk_at "WP"
 refine take_ hF (by omega) (by decide) (by decide) fun r1 H1 r10 r11 F1 C1=>?_
 try walk_at "WP"
 have up:∀ (r:Int) H',0 <= r -> r <= 40 -> Feed H' p (c+2048) -> Chg p H H' -> Q (.int r) H':=fun r H' a b F C=>q r H' ⟨by omega,b,fun z=>by omega⟩ F C
 refine ite2 (fun z=>?_) (fun z=>?_)
 ·exact take_ F1 (by omega) (by decide) (by decide) fun r2 H2 r20 r21 F2 C2=>up _ _ r20 (by omega) (F2.mono (by omega)) (C1.trans C2)
 refine ite2 (fun z=>?_) (fun z=>?_)
 ·exact take_ F1 (by omega) (by decide) (by decide) fun r2 H2 r20 r21 F2 C2=>up _ _ r20 (by omega) (F2.mono (by omega)) (C1.trans C2)
 refine ite2 (fun z=>?_) (fun z=>?_)
 ·exact up _ _ (by omega) (by omega) (F1.mono (by omega)) C1
 have hl1:=C1 _ _ hlp hl
 refine ⟨l,xs,rfl,hl1,hlen,fun f0 H2 f1 f2 fd s2=>?_⟩
 try walk_at "WP"
 refine take_ (F1.same s2) (by omega) (by omega) (by omega) fun r2 H3 r20 r21 F3 C3=>?_
 try walk_at "WP"
 refine q _ _ ⟨by omega,by omega,fun _ x hx=>?_⟩ (F3.mono (by omega)) ((C1.trans s2.chg).trans C3)
 have:=fd x hx
 refine Int.dvd_trans ?_ this
 rw [show f0.toNat=(- -r2).toNat+(f0.toNat - (- -r2).toNat) by omega,Int.pow_add]
 exact Int.dvd_mul_right _ _
end
section
variable {P:Program}{w:World}{K:PySem.W.Frag}{mg:Str -> Option Value}{base:Heap}
theorem ok_fweb (T:Txt K mg):Cal P w K mg base 12 "_law_web" ["_law_feed_here","_law_most"] spFWeb:=by
 have B:=T.bl
 have C_l_take:=(ok_take (P:=P) (w:=w) (base:=base) T).mono (k:=11) (by decide)
 have C_l_picked:=ok_fpick (P:=P) (w:=w) (base:=base) T
 have C_l_shift:=ok_fshift (P:=P) (w:=w) (base:=base) T
 have C_l_moved:=(ok_fmoved (P:=P) (w:=w) (base:=base) T).mono (k:=11) (by decide)
 refine mkCal T.t_l_web sc_l_web (fun vs H Q E h=>?_) (fun f cdv A outer s H vs Q E hr h=>?_)
 ·obtain ⟨p,c,most,rfl,_⟩:=h
  rfl
 obtain ⟨p,c,most,rfl,hF,hc,hm0,hm1,q⟩:=h
 refine ⟨_,((@pss_cons _ _ _ _ _ (@ps_set _ _ (2) _ _ _ _ sc_l_web.nd rfl (by walk_at "o") (@pe_ix _ _ _ _ _ _ _ ix_M (@pe_lst _ _ _ _ (@pa_cons _ _ _ _ _ pe_int (@pa_cons _ _ _ _ _ pe_int (@pa_cons _ _ _ _ _ pe_int (@pa_cons _ _ _ _ _ pe_int (@pa_cons _ _ _ _ _ pe_int (@pa_cons _ _ _ _ _ pe_int pa_nil (by rfl)) (by rfl)) (by rfl)) (by rfl)) (by rfl)) (by rfl))) (@pe_cal _ _ _ _ _ _ _ _ _ _ C_l_take hr rfl (@pa_cons _ _ _ _ _ (pv 0) (@pa_cons _ _ _ _ _ pe_int pa_nil (by rfl)) (by rfl)) (by decide) (by rfl) (by rfl)) (fun _ _=>rfl)) (by rfl) (by walk_at "o")) (@pss_mid _ _ _ _ _ (@ps_setCompC _ _ _ _ (3) _ _ _ _ _ _ _ (["_law_i","_law_ins"]) (1) ([2]) _ _ _ rfl (@pi_range1 _ _ _ _ _ _ rfl B.range (@pa_cons _ _ _ _ _ (pv 2) pa_nil (by rfl)) (by rfl)) (fun nd C s H fp=>⟨(@pg_name _ _ (0) _ nd rfl (by walk_at "o") (by walk_at "o")),pn_nil,(@pe_comp0 _ _ _ _ _ _ _ _ (["_law_k","_law_i"]) (1) ([0]) _ _ _ rfl (@pi_range1 _ _ _ _ _ _ rfl B.range (@pa_cons _ _ _ _ _ (pv 1) pa_nil (by rfl)) (by rfl)) (fun nd C s H fp=>⟨(@pg_name _ _ (0) _ nd rfl (by walk_at "o") (by walk_at "o")),pn_nil,(@pe_callTy _ _ _ _ _ _ _ _ _ call_int1 rfl B.int bo_int (@pa_cons _ _ _ _ _ (@pe_cmpR _ _ _ _ _ _ _ _ op_eq (pv 0) (pv 1) (@nomark _ _ (by decide) (by decide))) pa_nil (by rfl)) (by decide) (by decide) (by rfl) (by rfl))⟩) (by decide +kernel) (by first | rfl | decide +kernel) (by first | rfl | decide +kernel) rfl (fun _=>rfl))⟩) (by decide +kernel) (by first | rfl | decide +kernel) (by first | rfl | decide +kernel) rfl (fun _=>rfl) sc_l_web.nd rfl (by walk_at "o") (by walk_at "o") rfl) (@pss_cons _ _ _ _ _ (@ps_set _ _ (4) _ _ _ _ sc_l_web.nd rfl (by walk_at "o") (@pe_lst _ _ _ _ pa_nil) (by rfl) (by walk_at "o")) (@pss_mid _ _ _ _ _ (@ps_for _ _ _ _ _ _ _ _ PassesOwn.never rfl (@pi_range1 _ _ _ _ _ _ rfl B.range (@pa_cons _ _ _ _ _ (@pe_cal _ _ _ _ _ _ _ _ _ _ C_l_take hr rfl (@pa_cons _ _ _ _ _ (pv 0) (@pa_cons _ _ _ _ _ (@pe_op _ _ _ _ _ _ _ _ op_add (pv 1) pe_int) pa_nil (by rfl)) (by rfl)) (by decide) (by rfl) (by rfl)) pa_nil (by rfl)) (by rfl)) (@pg_name _ _ (5) _ sc_l_web.nd rfl (by walk_at "o") (by walk_at "o")) (@pss_cons _ _ _ _ _ (@ps_set _ _ (6) _ _ _ _ sc_l_web.nd rfl (by walk_at "o") (@pe_cal _ _ _ _ _ _ _ _ _ _ C_l_picked hr rfl (@pa_cons _ _ _ _ _ (pv 0) (@pa_cons _ _ _ _ _ (@pe_callB _ _ _ _ _ _ _ _ _ call_lenM rfl B.len bo_len (@pa_cons _ _ _ _ _ (pv 3) pa_nil (by rfl)) (by decide) (by decide) (by rfl) (by rfl)) pa_nil (by rfl)) (by rfl)) (by decide) (by rfl) (by rfl)) (by rfl) (by walk_at "o")) (@pss_cons _ _ _ _ _ (@ps_set _ _ (7) _ _ _ _ sc_l_web.nd rfl (by walk_at "o") (@pe_cal _ _ _ _ _ _ _ _ _ _ C_l_picked hr rfl (@pa_cons _ _ _ _ _ (pv 0) (@pa_cons _ _ _ _ _ (@pe_callB _ _ _ _ _ _ _ _ _ call_lenM rfl B.len bo_len (@pa_cons _ _ _ _ _ (pv 3) pa_nil (by rfl)) (by decide) (by decide) (by rfl) (by rfl)) pa_nil (by rfl)) (by rfl)) (by decide) (by rfl) (by rfl)) (by rfl) (by walk_at "o")) (@pss_cons _ _ _ _ _ (@ps_set _ _ (8) _ _ _ _ sc_l_web.nd rfl (by walk_at "o") (@pe_cal _ _ _ _ _ _ _ _ _ _ C_l_shift hr rfl (@pa_cons _ _ _ _ _ (pv 0) (@pa_cons _ _ _ _ _ (@pe_ix _ _ _ _ _ _ _ ix_M (pv 3) (pv 6) (fun _ _=>rfl)) pa_nil (by rfl)) (by rfl)) (by decide) (by rfl) (by rfl)) (by rfl) (by walk_at "o")) (@pss_cons _ _ _ _ _ (@ps_set _ _ (9) _ _ _ _ sc_l_web.nd rfl (by walk_at "o") (@pe_cal _ _ _ _ _ _ _ _ _ _ C_l_shift hr rfl (@pa_cons _ _ _ _ _ (pv 0) (@pa_cons _ _ _ _ _ (@pe_ix _ _ _ _ _ _ _ ix_M (pv 3) (pv 7) (fun _ _=>rfl)) pa_nil (by rfl)) (by rfl)) (by decide) (by rfl) (by rfl)) (by rfl) (by walk_at "o")) (@pss_cons _ _ _ _ _ (@ps_set _ _ (10) _ _ _ _ sc_l_web.nd rfl (by walk_at "o") (@pe_op _ _ _ _ _ _ _ _ op_sub pe_int (@pe_op _ _ _ _ _ _ _ _ op_mulB pe_int (@pe_cal _ _ _ _ _ _ _ _ _ _ C_l_take hr rfl (@pa_cons _ _ _ _ _ (pv 0) (@pa_cons _ _ _ _ _ pe_int pa_nil (by rfl)) (by rfl)) (by decide) (by rfl) (by rfl)))) (by rfl) (by walk_at "o")) (@pss_cons _ _ _ _ _ (@ps_expr _ _ _ _ (@pe_bm _ _ _ _ _ _ _ _ _ _ _ _ PySem.F.plainAttrs_list PySem.F.slot_list_append PySem.F.type_list_append mt_append (pv 4) (@pa_cons _ _ _ _ _ (@pe_tup _ _ _ _ _ (@pa_cons _ _ _ _ _ (@pe_ix _ _ _ _ _ _ _ ix_M (@pe_lst _ _ _ _ (@pa_cons _ _ _ _ _ pe_str (@pa_cons _ _ _ _ _ pe_str pa_nil (by rfl)) (by rfl))) (@pe_callTy _ _ _ _ _ _ _ _ _ call_int1 rfl B.int bo_int (@pa_cons _ _ _ _ _ (@pe_cmpR _ _ _ _ _ _ _ _ op_eq (pv 10) pe_int (@nomark _ _ (by decide) (by decide))) pa_nil (by rfl)) (by decide) (by decide) (by rfl) (by rfl)) (fun _ _=>rfl)) (@pa_cons _ _ _ _ _ (pv 6) (@pa_cons _ _ _ _ _ (pv 8) (@pa_cons _ _ _ _ _ (pv 7) (@pa_cons _ _ _ _ _ (pv 9) pa_nil (by rfl)) (by rfl)) (by rfl)) (by rfl)) (by rfl))) pa_nil (by rfl)) (by rfl) (by rfl) (by rfl) (by rfl) (by rfl)) (by rfl)) (@pss_cons _ _ _ _ _ (@ps_set _ _ (11) _ _ _ _ sc_l_web.nd rfl (by walk_at "o") (@pe_listzip _ K _ _ _ _ _ _ _ rfl rfl B.list rfl B.zip (@pa_cons _ _ _ _ _ (@pe_cal _ _ _ _ _ _ _ _ _ _ C_l_moved hr rfl (@pa_cons _ _ _ _ _ (@pe_ix _ _ _ _ _ _ _ ix_M (pv 3) (pv 6) (fun _ _=>rfl)) (@pa_cons _ _ _ _ _ (pv 8) pa_nil (by rfl)) (by rfl)) (by decide) (by rfl) (by rfl)) (@pa_cons _ _ _ _ _ (@pe_cal _ _ _ _ _ _ _ _ _ _ C_l_moved hr rfl (@pa_cons _ _ _ _ _ (@pe_ix _ _ _ _ _ _ _ ix_M (pv 3) (pv 7) (fun _ _=>rfl)) (@pa_cons _ _ _ _ _ (pv 9) pa_nil (by rfl)) (by rfl)) (by decide) (by rfl) (by rfl)) pa_nil (by rfl)) (by rfl)) (by rfl) (by rfl) (by rfl) (by rfl) (by rfl)) (by rfl) (by walk_at "o")) (@pss_one _ _ _ (@ps_expr _ _ _ _ (@pe_bm _ _ _ _ _ _ _ _ _ _ _ _ PySem.F.plainAttrs_list PySem.F.slot_list_append PySem.F.type_list_append mt_append (pv 3) (@pa_cons _ _ _ _ _ (@pe_comp0 _ _ _ _ _ _ _ _ (["_law_one","_law_other","_law_sign"]) (2) ([10]) _ _ _ rfl (@pi_list _ _ _ _ (pv 11)) (fun nd C s H fp=>⟨(@pg_tupM _ _ _ _ _ 2 rfl (@pgs_cons _ _ _ _ _ (@pg_name _ _ (0) _ nd rfl (by walk_at "o") (by walk_at "o")) (@pgs_cons _ _ _ _ _ (@pg_name _ _ (1) _ nd rfl (by walk_at "o") (by walk_at "o")) pgs_nil (by rfl)) (by rfl)) (by rfl) (by rfl)),pn_nil,(@pe_op _ _ _ _ _ _ _ _ op_add (pv 0) (@pe_op _ _ _ _ _ _ _ _ op_mulB (pv 2) (pv 1)))⟩) (by decide +kernel) (by first | rfl | decide +kernel) (by first | rfl | decide +kernel) rfl (fun _=>rfl)) pa_nil (by rfl)) (by rfl) (by rfl) (by rfl) (by rfl) (by rfl)) (by rfl)))))))))) (by intro _ ; rfl)) (@pss_cons _ _ _ _ _ (@ps_set _ _ (12) _ _ _ _ sc_l_web.nd rfl (by walk_at "o") (@pe_lst _ _ _ _ pa_nil) (by rfl) (by walk_at "o")) (@pss_cons _ _ _ _ _ (@ps_for _ _ _ _ _ _ _ _ PassesOwn.never rfl (@pi_range1 _ _ _ _ _ _ rfl B.range (@pa_cons _ _ _ _ _ (@pe_ix _ _ _ _ _ _ _ ix_M (@pe_lst _ _ _ _ (@pa_cons _ _ _ _ _ pe_int (@pa_cons _ _ _ _ _ pe_int (@pa_cons _ _ _ _ _ pe_int (@pa_cons _ _ _ _ _ pe_int (@pa_cons _ _ _ _ _ pe_int (@pa_cons _ _ _ _ _ pe_int pa_nil (by rfl)) (by rfl)) (by rfl)) (by rfl)) (by rfl)) (by rfl))) (@pe_cal _ _ _ _ _ _ _ _ _ _ C_l_take hr rfl (@pa_cons _ _ _ _ _ (pv 0) (@pa_cons _ _ _ _ _ pe_int pa_nil (by rfl)) (by rfl)) (by decide) (by rfl) (by rfl)) (fun _ _=>rfl)) pa_nil (by rfl)) (by rfl)) (@pg_name _ _ (5) _ sc_l_web.nd rfl (by walk_at "o") (by walk_at "o")) (@pss_cons _ _ _ _ _ (@ps_set _ _ (13) _ _ _ _ sc_l_web.nd rfl (by walk_at "o") (@pe_cal _ _ _ _ _ _ _ _ _ _ C_l_picked hr rfl (@pa_cons _ _ _ _ _ (pv 0) (@pa_cons _ _ _ _ _ (@pe_callB _ _ _ _ _ _ _ _ _ call_lenM rfl B.len bo_len (@pa_cons _ _ _ _ _ (pv 3) pa_nil (by rfl)) (by decide) (by decide) (by rfl) (by rfl)) pa_nil (by rfl)) (by rfl)) (by decide) (by rfl) (by rfl)) (by rfl) (by walk_at "o")) (@pss_cons _ _ _ _ _ (@ps_set _ _ (14) _ _ _ _ sc_l_web.nd rfl (by walk_at "o") (@pe_tup _ _ _ _ _ (@pa_cons _ _ _ _ _ (pv 13) (@pa_cons _ _ _ _ _ (@pe_cal _ _ _ _ _ _ _ _ _ _ C_l_shift hr rfl (@pa_cons _ _ _ _ _ (pv 0) (@pa_cons _ _ _ _ _ (@pe_ix _ _ _ _ _ _ _ ix_M (pv 3) (pv 13) (fun _ _=>rfl)) pa_nil (by rfl)) (by rfl)) (by decide) (by rfl) (by rfl)) (@pa_cons _ _ _ _ _ (@pe_op _ _ _ _ _ _ _ _ op_sub pe_int (@pe_op _ _ _ _ _ _ _ _ op_mulB pe_int (@pe_cal _ _ _ _ _ _ _ _ _ _ C_l_take hr rfl (@pa_cons _ _ _ _ _ (pv 0) (@pa_cons _ _ _ _ _ pe_int pa_nil (by rfl)) (by rfl)) (by decide) (by rfl) (by rfl)))) pa_nil (by rfl)) (by rfl)) (by rfl))) (by rfl) (by walk_at "o")) (@pss_cons _ _ _ _ _ (@ps_if _ _ _ _ _ _ _ _ (@pt_cmpR _ _ _ _ _ _ _ _ op_eq (@pe_cal _ _ _ _ _ _ _ _ _ _ C_l_take hr rfl (@pa_cons _ _ _ _ _ (pv 0) (@pa_cons _ _ _ _ _ pe_int pa_nil (by rfl)) (by rfl)) (by decide) (by rfl) (by rfl)) pe_int (@nomark _ _ (by decide) (by decide))) (@pss_one _ _ _ (@ps_set _ _ (14) _ _ _ _ sc_l_web.nd rfl (by walk_at "o") (@pe_tup _ _ _ _ _ (@pa_cons _ _ _ _ _ pe_int (@pa_cons _ _ _ _ _ pe_int (@pa_cons _ _ _ _ _ pe_int pa_nil (by rfl)) (by rfl)) (by rfl))) (by rfl) (by walk_at "o"))) pss_nil) (@pss_one _ _ _ (@ps_expr _ _ _ _ (@pe_bm _ _ _ _ _ _ _ _ _ _ _ _ PySem.F.plainAttrs_list PySem.F.slot_list_append PySem.F.type_list_append mt_append (pv 12) (@pa_cons _ _ _ _ _ (pv 14) pa_nil (by rfl)) (by rfl) (by rfl) (by rfl) (by rfl) (by rfl)) (by rfl)))))) (by intro _ ; rfl)) (@pss_one _ _ _ (@ps_ret _ _ _ _ (@pe_tup _ _ _ _ _ (@pa_cons _ _ _ _ _ (@pe_tup _ _ _ _ _ (@pa_cons _ _ _ _ _ (pv 2) (@pa_cons _ _ _ _ _ (pv 4) (@pa_cons _ _ _ _ _ (pv 12) pa_nil (by rfl)) (by rfl)) (by rfl))) (@pa_cons _ _ _ _ _ (pv 3) pa_nil (by rfl)) (by rfl)))))))))))),?_⟩
 rw [show start ["_law_feed_here","_law_most","_law_ins","_law_rows","_law_deeds","_law_k","_law_a","_law_b","_law_s","_law_t","_law_sign","_law_pairs","_law_outs","_law_thing","_law_out"] [.ref p,.int most]=[some (.ref p),some (.int most),none,none,none,none,none,none,none,none,none,none,none,none,none] from rfl]
 try walk_at "WP"
 intro e he
 have se:=same_new he (.lst [V.int 1,V.int 1,V.int 2,V.int 3,V.int 6,V.int 12])
 refine take_ (hF.same se) (by omega) (by decide) (by decide) fun r2 H2 r20 r21 P2 C2=>?_
 have hH2:=C2 e _ (hF.ne he) upd_same
 (iterate 5 ((try (walk_at "WP")); (try (simp only [hH2,qJs,qJt,qJl,qJd,exists_eq_left',exists_eq_left])))); (try (walk_at "WP"))
 have hat:∃ u:Nat,atI [V.int 1,V.int 1,V.int 2,V.int 3,V.int 6,V.int 12] r2=some (.int u) /\ 1 <= u /\ u <= 12:=by
  have six:r2=0 \/ r2=1 \/ r2=2 \/ r2=3 \/ r2=4 \/ r2=5:=by omega
  rcases six with z | z | z | z | z | z <;> subst z
  ·exact ⟨1,rfl,by omega,by omega⟩
  ·exact ⟨1,rfl,by omega,by omega⟩
  ·exact ⟨2,rfl,by omega,by omega⟩
  ·exact ⟨3,rfl,by omega,by omega⟩
  ·exact ⟨6,rfl,by omega,by omega⟩
  ·exact ⟨12,rfl,by omega,by omega⟩
 obtain ⟨ins,hu,u0,u1⟩:=hat
 refine ⟨_,hu,?_⟩
 have CC2:Chg p H H2:=se.chg.trans C2
 try walk_at "WP"
 refine mid_of (fun σ H3=>∃ (tb:Addr) (vs:List V),σ = [some (.ref p),some (.int most),some (.int ins),some (.ref tb),none,none,none,none,none,none,none,none,none,none,none] /\ H tb=none /\ H3 tb=some (.lst vs) /\ HRs H3 [tb,p] vs ((List.range ins).map (unitRow ins)) /\ tb ≠ p /\ Feed H3 p (c+1024) /\ Chg p H H3) (fun N hN=>?_) ?_
 ·try walk_at "WP"
  refine ⟨by omega,by omega,?_⟩
  rw [Int.toNat_natCast]
  have hex:∀ e ∈ [p],H2 e ≠ none:=fun e he=>by
   rw [List.mem_singleton.mp he]
   obtain ⟨xs,hx⟩:=P2.lst
   rw [hx]
   intro z
   cases z
  refine comp_rows (by omega) (unitRow ins) [p] hex (fun i H' R hi s' hR=>?_) (fun tb vs H3 hn s3 h3 hr3=>?_)
  ·rw [show capV [2] [some (V.ref p),some (V.int most),some (V.int (ins:Int)),none,none,none,none,none,none,none,none,none,none,none,none]=[some (.int ins)] from rfl]
   try walk_at "WP"
   refine ⟨by omega,by omega,?_⟩
   rw [Int.toNat_natCast]
   refine comp_R (f:=unV i) (le_size (by omega)) (fun y H5 R5 hy s5 hR5=>?_) (fun acc hacc=>?_)
   ·obtain ⟨k,hk,rfl⟩:=qP.mp hy
    rw [show capV [0] [some (V.int (0+(i:Int))),some (V.int (ins:Int))]=[some (V.int (0+(i:Int)))] from rfl]
    try walk_at "WP"
    rw [show (0:Int)+(i:Int)=i by omega]
    exact hR5
   ·rw [unV_map]
    exact hR acc _ hacc (same_new hacc _) upd_same
  ·exact hN _ _ ⟨tb,vs,rfl,CC2.new (P2.ne hn) hn,h3,hr3,P2.ne hn,(P2.same s3).mono (by omega),CC2.trans s3.chg⟩
 ·rintro σ H3 ⟨tb,vs,rfl,ntb,htb,hrs,tbp,P3,C3⟩
  try walk_at "WP"
  intro dl hdl
  have sd:=same_new hdl (.lst [])
  have dlp:dl ≠ p:=P3.ne hdl
  have tbd:tb ≠ dl:=ne_of_none htb hdl
  have I0:FI H p ins tb dl 0 vs [] [] (upd H3 dl (.lst [])):=by
   refine ⟨⟨sd _ _ htb,(hrs.new hdl).same sd,by simp [rowsW],fun r hr=>?_,fun r hr=>?_,upd_same,hts_nil,rfl,fun j d h=>by simp at h,C3.trans sd.chg,ntb,C3.new dlp hdl,tbp,dlp,tbd⟩,fun k d h=>by simp at h⟩
   ·obtain ⟨i,_,rfl⟩:=qP.mp hr
    refine ⟨by rw [unitRow_len]; exact u1,fun n hn=>?_⟩
    rcases unitRow_bound hn with z | z <;> subst z <;> decide
   ·obtain ⟨i,_,rfl⟩:=qP.mp hr
    exact unitRow_len _ _
  have P4:=P3.same sd
  generalize upd H3 dl (.lst [])=H4 at I0 P4 ⊢
  refine mid_of (fun σ H5=>∃ (k:Nat) (vs us:List V) (ds:List Wd) (o5 o6 o7 o8 o9 o10 o11:Option V),σ = [some (.ref p),some (.int most),some (.int ins),some (.ref tb),some (.ref dl),o5,o6,o7,o8,o9,o10,o11,none,none,none] /\ (k:Int) <= most /\ FI H p ins tb dl k vs us ds H5 /\ Feed H5 p (c+3000+10000 * k)) (fun N hN=>?_) ?_
  ·try walk_at "WP"
   refine take_ P4 (by omega) (by omega) (by omega) fun m H6 m0 m1 P6 C6=>?_
   try walk_at "WP"
   refine ⟨by omega,by omega,?_⟩
   obtain ⟨n,rfl⟩:=Int.eq_ofNat_of_zero_le m0
   rw [Int.toNat_natCast]
   have I6:=I0.step P4 C6
   refine forR (fun k σ H7=>∃ (vs us:List V) (ds:List Wd) (o5 o6 o7 o8 o9 o10 o11:Option V),σ = [some (.ref p),some (.int most),some (.int ins),some (.ref tb),some (.ref dl),o5,o6,o7,o8,o9,o10,o11,none,none,none] /\ FI H p ins tb dl k vs us ds H7 /\ Feed H7 p (c+3000+10000 * k))
    ⟨vs,[],[],none,none,none,none,none,none,none,rfl,I6,P6.mono (by omega)⟩ ?_ ?_
   ·rintro k σ H7 N2 hk ⟨vs,us,ds,o5,o6,o7,o8,o9,o10,o11,rfl,I7,P7⟩ hN2
    have hT7:=I7.wi.tbl
    have hvl:vs.length=ins+k:=by rw [I7.wi.hrs.len,I7.wi.rl]
    refine seq_inG fun R_ hR_=>?_
    (iterate 5 ((try (walk_at "WP")); (try (simp only [hT7,qJs,qJt,qJl,qJd,exists_eq_left',exists_eq_left])))); (try (walk_at "WP"))
    refine ⟨p,_,_,rfl,P7,by omega,by omega,by omega,fun ra H8 ra0 ra1 P8 C8=>?_⟩
    have I8:=I7.step P7 C8
    have hT8:=I8.wi.tbl
    (try (walk_at "WP")); (try (refine seq_out hR_ ?_)); (try (refine seq_in fun R_ hR_=>?_)); (iterate 5 ((try (walk_at "WP")); (try (simp only [hT8,qJs,qJt,qJl,qJd,exists_eq_left',exists_eq_left])))); (try (walk_at "WP"))
    refine ⟨p,_,_,rfl,P8,by omega,by omega,by omega,fun rb H9 rb0 rb1 P9 C9=>?_⟩
    have I9:=I8.step P8 C9
    obtain ⟨ja,rfl⟩:=Int.eq_ofNat_of_zero_le ra0
    obtain ⟨jb,rfl⟩:=Int.eq_ofNat_of_zero_le rb0
    have hja:ja < ins+k:=by omega
    have hjb:jb < ins+k:=by omega
    have hT9:=I9.wi.tbl
    (try (walk_at "WP")); (try (refine seq_out hR_ ?_)); (try (refine seq_in fun R_ hR_=>?_)); (iterate 5 ((try (walk_at "WP")); (try (simp only [hT9,qJs,qJt,qJl,qJd,exists_eq_left',exists_eq_left])))); (try (walk_at "WP"))
    have hrl:(rowsW ins ds).length=ins+k:=I9.wi.rl
    obtain ⟨la,rowa,ea,ea1,ea2,ea3,ea4⟩:=row_of I9.wi.hrs (j:=ja) (by omega)
    have ea5:=I9.wi.rw_ _ ea3
    refine ⟨_,ea1,?_⟩
    refine ⟨p,la,_,rowa,rfl,P9,by omega,ea2,by omega,ea4 p (by simp),fun sa H10 hsa P10 C10=>?_⟩
    have I10:=I9.step P9 C10
    have hT10:=I10.wi.tbl
    (try (walk_at "WP")); (try (refine seq_out hR_ ?_)); (try (refine seq_in fun R_ hR_=>?_)); (iterate 5 ((try (walk_at "WP")); (try (simp only [hT10,qJs,qJt,qJl,qJd,exists_eq_left',exists_eq_left])))); (try (walk_at "WP"))
    obtain ⟨lb,rowb,eb,eb1,eb2,eb3,eb4⟩:=row_of I10.wi.hrs (j:=jb) (by omega)
    have eb5:=I10.wi.rw_ _ eb3
    refine ⟨_,eb1,?_⟩
    refine ⟨p,lb,_,rowb,rfl,P10,by omega,eb2,by omega,eb4 p (by simp),fun sb H11 hsb P11 C11=>?_⟩
    have I11:=I10.step P10 C11
    (try (walk_at "WP")); (try (refine seq_out hR_ ?_)); (try (refine seq_in fun R_ hR_=>?_)); (try (walk_at "WP"))
    refine take_ P11 (by omega) (by decide) (by decide) fun r5 H12 r50 r51 P12 C12=>?_
    have I12:=I11.step P11 C12
    try walk_at "WP"
    refine ⟨mul_l (by decide) (by decide),?_⟩
    (try (walk_at "WP")); (try (refine seq_out hR_ ?_)); (try (refine seq_in fun R_ hR_=>?_)); (try (walk_at "WP"))
    refine ⟨ty_list I12.wi.dll,fun e3 he3=>?_⟩
    have s3:=same_new he3 (.lst [V.str (Str.ofString "less"),V.str (Str.ofString "sum")])
    have hw:∃ wd:Str,atI [V.str (Str.ofString "less"),V.str (Str.ofString "sum")] (if 1 - 2 * r5=1 then 1 else 0)=some (.str wd) /\ (wd = "sum" \/ wd = "less") /\ sgW wd=1 - 2 * r5:=by
     have two:r5=0 \/ r5=1:=by omega
     rcases two with z | z <;> subst z
     ·exact ⟨_,rfl,.inl rfl,by decide⟩
     ·exact ⟨_,rfl,.inr rfl,by decide⟩
    obtain ⟨wd,hwd,hws,hsg⟩:=hw
    refine ⟨_,hwd,fun x hx=>?_⟩
    have sx:=same_new hx (.tup [V.str wd,V.int (ja:Int),V.int sa,V.int (jb:Int),V.int sb])
    have s13:=s3.trans sx
    have hx13:(upd (upd H12 e3 (.lst [V.str (Str.ofString "less"),V.str (Str.ofString "sum")])) x (.tup [V.str wd,V.int (ja:Int),V.int sa,V.int (jb:Int),V.int sb])) x=some (.tup (wTup ⟨wd,ja,sa,jb,sb⟩)):=upd_same
    generalize upd (upd H12 e3 (.lst [V.str (Str.ofString "less"),V.str (Str.ofString "sum")])) x (.tup [V.str wd,V.int (ja:Int),V.int sa,V.int (jb:Int),V.int sb])=H13 at s13 hx13 ⊢
    have hul:us.length=k:=by rw [I12.wi.hds.len,I12.wi.dlen]
    refine ⟨us,s13 _ _ I12.wi.dll,qJ (by omega:us.length < 1000) (le_size (by decide)),?_⟩
    have t14:(upd H13 dl (.lst (us ++ [.ref x]))) tb=some (.lst vs):=by rw [upd_ne I12.wi.td]; exact s13 _ _ I12.wi.tbl
    have r14:HRs (upd H13 dl (.lst (us ++ [.ref x]))) [dl,tb,p] vs (rowsW ins ds):=(I12.wi.hrs.same s13).chg (by simp) (Chg.upd _)
    have P14:Feed (upd H13 dl (.lst (us ++ [.ref x]))) p (c+3000+10000 * k+2048+2048+2048+2048+1024):=by
     obtain ⟨g,m,st,hp,z⟩:=P12
     exact ⟨g,m,st,by rw [upd_ne I12.wi.dp.symm]; exact s13 _ _ hp,z⟩
    generalize hH14:upd H13 dl (.lst (us ++ [.ref x]))=H14 at t14 r14 P14 ⊢
    obtain ⟨la2,rowa2,fa,fa1,fa2,fa3,fa4⟩:=row_of r14 (j:=ja) (by omega)
    have fa5:=I12.wi.rw_ _ fa3
    have fa6:=(I12.wi.rb _ fa3).2
    have e0:rowa=rowa2:=by rw [ea] at fa; exact Option.some.inj fa
    subst e0
    (try (walk_at "WP")); (try (refine seq_out hR_ ?_)); (try (refine seq_in fun R_ hR_=>?_)); (iterate 5 ((try (walk_at "WP")); (try (simp only [t14,qJs,qJt,qJl,qJd,exists_eq_left',exists_eq_left])))); (try (walk_at "WP"))
    refine ⟨_,fa1,?_⟩
    have big:∀ (x:Int),x.natAbs <= 2 ^ (41 * k) -> x.natAbs < 2 ^ 9000:=fun x hx=>Nat.lt_of_le_of_lt hx (Nat.pow_lt_pow_right (by decide) (by omega))
    refine ⟨_,rowa,sa,rfl,fa2,by omega,fun x hx=>big x (fa6 x hx),hsa.1,hsa.2.1,fun m1 H15 hm1 s15 h15=>?_⟩
    have t15:=s15 _ _ t14
    (iterate 5 ((try (walk_at "WP")); (try (simp only [t15,qJs,qJt,qJl,qJd,exists_eq_left',exists_eq_left])))); (try (walk_at "WP"))
    obtain ⟨lb2,rowb2,fb,fb1,fb2,fb3,fb4⟩:=row_of (r14.same s15) (j:=jb) (by omega)
    have fb5:=I12.wi.rw_ _ fb3
    have fb6:=(I12.wi.rb _ fb3).2
    have e1:rowb=rowb2:=by rw [eb] at fb; exact Option.some.inj fb
    subst e1
    refine ⟨_,fb1,?_⟩
    refine ⟨_,rowb,sb,rfl,fb2,by omega,fun x hx=>big x (fb6 x hx),hsb.1,hsb.2.1,fun m2 H16 hm2 s16 h16=>?_⟩
    try walk_at "WP"
    refine ⟨m1,m2,⟨rfl,rfl⟩,_,SqL.of (s16 _ _ h15),_,SqL.of h16,by simp only [qC]; omega,by simp only [qC]; omega,fun lz zs H17 nlz s17 hlz hzl hzt=>?_⟩
    have t17:=s17 _ _ (s16 _ _ t15)
    (try (walk_at "WP")); (try (refine seq_out hR_ ?_)); (try (refine seq_in fun R_ hR_=>?_)); (try (walk_at "WP"))
    refine ⟨ty_list t17,⟨_,SqL.of hlz⟩,?_⟩
    have ll:(rowb.map (mvI sb)).length=(rowa.map (mvI sa)).length:=by simp only [qC]; omega
    refine comp_pairs hlz (by rw [hzl,qC]) ll (by simp only [qC]; omega) (fun j x y hx hy=>hzt j _ _ (by rw [qI,hx]; rfl) (by rw [qI,hy]; rfl)) (fun x y=>x+(1 - 2 * r5) * y) (fun x y H' R s' hR=>?_) (fun acc H18 nacc s18 hacc=>?_)
    ·rw [show capV [10] [some (V.ref p),some (V.int most),some (V.int (ins:Int)),some (V.ref tb),some (V.ref dl),some (V.int (0+(k:Int))),some (V.int (ja:Int)),some (V.int (jb:Int)),some (V.int sa),some (V.int sb),some (V.int (1 - 2 * r5)),some (V.ref lz),none,none,none]=[some (V.int (1 - 2 * r5))] from rfl]
     rw [List.cons_append,List.cons_append,List.nil_append]
     try walk_at "WP"
     exact ⟨mul_l (by omega) (by omega),hR⟩
    have t18:=s18 _ _ t17
    have erow:List.zipWith (fun x y=>x+(1 - 2 * r5) * y) (rowa.map (mvI sa)) (rowb.map (mvI sb))=rowD (rowsW ins ds) ⟨wd,ja,sa,jb,sb⟩:=by
     unfold rowD
     rw [getD_of ea,getD_of eb,List.zipWith_map,hsg]
    rw [erow] at hacc
    refine ⟨vs,t18,qJ (by omega:vs.length < 1000) (le_size (by decide)),?_⟩
    obtain ⟨b1,b2⟩:=rowD_bound (d:=⟨wd,ja,sa,jb,sb⟩) I12.wi.rb I12.wi.rw_ (by show ja < _; omega) (by show jb < _; omega) hsa.1 hsa.2.1 hsb.1 hsb.2.1
    have s1418:=((s15.trans s16).trans s17).trans s18
    have n14:H14 acc=none:=((s15.trans s16).trans s17).free nacc
    have Ifin:=I12.app u1 s13 hx13 (by rw [hH14]; exact s1418) hacc (by rw [hH14]; exact n14) (P14.ne n14) hja hjb hws (by rw [getD_of ea]; exact hsa) (by rw [getD_of eb]; exact hsb) b1 b2
    refine hN2 _ _ ⟨_,_,_,_,_,_,_,_,_,_,rfl,Ifin,?_⟩
    obtain ⟨g,m,st,hp,z⟩:=P14.same s1418
    exact ⟨g,m,st,by rw [upd_ne I12.wi.tp.symm]; exact hp,z.1,z.2.1,z.2.2.1,z.2.2.2.1,by omega⟩
   ·rintro σ H7 ⟨vs,us,ds,o5,o6,o7,o8,o9,o10,o11,rfl,I7,P7⟩
    exact hN _ _ ⟨n,vs,us,ds,o5,o6,o7,o8,o9,o10,o11,rfl,by omega,I7,P7⟩
  ·rintro σ H5 ⟨kk,vs,us,ds,o5,o6,o7,o8,o9,o10,o11,rfl,hkk,I5,P5⟩
   try walk_at "WP"
   intro gl hgl
   have sg:=same_new hgl (.lst [])
   have P6:=P5.same sg
   have glp:gl ≠ p:=P5.ne hgl
   have G0:FG H p ins tb dl gl kk vs us [] ds [] (upd H5 gl (.lst [])):=⟨⟨(I5.step P5 sg.chg).wi,(I5.wi.hrs.new hgl).same sg,upd_same,hts_nil,(fun g h=>by cases h),I5.wi.chg.new glp hgl,glp,(ne_of_none I5.wi.dll hgl).symm,(ne_of_none I5.wi.tbl hgl).symm⟩,I5.sh,(fun g h=>by cases h)⟩
   generalize upd H5 gl (.lst [])=H6 at G0 P6 ⊢
   try walk_at "WP"
   intro e he
   have se:=same_new he (.lst [V.int 0,V.int 1,V.int 1,V.int 2,V.int 4,V.int 12])
   refine take_ (P6.same se) (by omega) (by decide) (by decide) fun r3 H7 r30 r31 P7 C7=>?_
   have hH7:=C7 e _ (P6.ne he) upd_same
   (iterate 5 ((try (walk_at "WP")); (try (simp only [hH7,qJs,qJt,qJl,qJd,exists_eq_left',exists_eq_left])))); (try (walk_at "WP"))
   have hat:∃ u:Nat,atI [V.int 0,V.int 1,V.int 1,V.int 2,V.int 4,V.int 12] r3=some (.int u) /\ u <= 12:=by
    have six:r3=0 \/ r3=1 \/ r3=2 \/ r3=3 \/ r3=4 \/ r3=5:=by omega
    rcases six with z | z | z | z | z | z <;> subst z
    ·exact ⟨0,rfl,by omega⟩
    ·exact ⟨1,rfl,by omega⟩
    ·exact ⟨1,rfl,by omega⟩
    ·exact ⟨2,rfl,by omega⟩
    ·exact ⟨4,rfl,by omega⟩
    ·exact ⟨12,rfl,by omega⟩
   obtain ⟨n,hu,hn12⟩:=hat
   refine ⟨_,hu,?_⟩
   try walk_at "WP"
   refine ⟨by omega,by omega,?_⟩
   rw [Int.toNat_natCast]
   have G7:=(G0.step P6 se.chg).step (P6.same se) C7
   refine forR (fun j σ H9=>∃ (os:List V) (gs:List Go) (o5 o13 o14:Option V),σ = [some (.ref p),some (.int most),some (.int ins),some (.ref tb),some (.ref dl),o5,o6,o7,o8,o9,o10,o11,some (.ref gl),o13,o14] /\ FG H p ins tb dl gl kk vs us os ds gs H9 /\ gs.length=j /\ Feed H9 p (c+700000+10000 * j))
    ⟨[],[],o5,none,none,rfl,G7,rfl,P7.mono (by omega)⟩ ?_ ?_
   ·rintro j σ H9 N2 hj ⟨os,gs,o5,o13,o14,rfl,G9,hgl9,P9⟩ hN2
    have hT9:=G9.wg.wi.tbl
    have hvl:vs.length=ins+kk:=by rw [G9.wg.wi.hrs.len,G9.wg.wi.rl]
    have hrl:(rowsW ins ds).length=ins+kk:=G9.wg.wi.rl
    (iterate 5 ((try (walk_at "WP")); (try (simp only [hT9,qJs,qJt,qJl,qJd,exists_eq_left',exists_eq_left])))); (try (walk_at "WP"))
    refine ⟨p,_,_,rfl,P9,by omega,by omega,by omega,fun ra H10 ra0 ra1 P10 C10=>?_⟩
    have G10:=G9.step P9 C10
    have hT10:=G10.wg.wi.tbl
    obtain ⟨th,rfl⟩:=Int.eq_ofNat_of_zero_le ra0
    have hth:th < ins+kk:=by omega
    (iterate 5 ((try (walk_at "WP")); (try (simp only [hT10,qJs,qJt,qJl,qJd,exists_eq_left',exists_eq_left])))); (try (walk_at "WP"))
    obtain ⟨la,rowa,ea,ea1,ea2,ea3,ea4⟩:=row_of G10.wg.wi.hrs (j:=th) (by omega)
    have ea5:=G10.wg.wi.rw_ _ ea3
    refine ⟨_,ea1,?_⟩
    refine ⟨p,la,_,rowa,rfl,P10,by omega,ea2,by omega,ea4 p (by simp),fun sa H11 hsa P11 C11=>?_⟩
    have G11:=G10.step P10 C11
    try walk_at "WP"
    refine take_ P11 (by omega) (by decide) (by decide) fun r5 H12 r50 r51 P12 C12=>?_
    have G12:=G11.step P11 C12
    try walk_at "WP"
    refine ⟨mul_l (by decide) (by decide),fun t1 ht1=>?_⟩
    have s4:=same_new ht1 (.tup [V.int (th:Int),V.int sa,V.int (1 - 2 * r5)])
    have h1t:(upd H12 t1 (.tup [V.int (th:Int),V.int sa,V.int (1 - 2 * r5)])) t1=some (.tup (gTp ⟨th,sa,1 - 2 * r5⟩)):=upd_same
    have G13:=G12.step P12 s4.chg
    have P13:=P12.same s4
    generalize upd H12 t1 (.tup [V.int (th:Int),V.int sa,V.int (1 - 2 * r5)])=H13 at G13 P13 h1t ⊢
    refine take_ P13 (by omega) (by decide) (by decide) fun r6 H14 r60 r61 P14 C14=>?_
    have G14:=G13.step P13 C14
    obtain ⟨pl,hpl⟩:=P13.lst
    have h1t:=C14 _ _ (ne_of h1t hpl (by intro z; cases z)) h1t
    have last:∀ (H15:Hp) (x:Addr) (g':Go),FG H p ins tb dl gl kk vs us os ds gs H15 -> H15 x=some (.tup (gTp g')) -> g'.th < ins+kk -> (g'=⟨0,0,0⟩ \/ ((g'.sg=1 \/ g'.sg = -1) /\ Sh g'.sh ((rowsW ins ds).getD g'.th []))) -> Feed H15 p (c+700000+10000 * ((j+1:Nat):Int)) ->
      N2 [some (.ref p),some (.int most),some (.int ins),some (.ref tb),some (.ref dl),some (.int (0+(j:Int))),o6,o7,o8,o9,o10,o11,some (.ref gl),some (.int (th:Int)),some (.ref x)] (upd H15 gl (.lst (os ++ [V.ref x]))):=fun H15 x g' G15 hx2 hx3 hx4 F15=>by
     refine hN2 _ _ ⟨_,_,_,_,_,rfl,G15.app hx2 hx3 hx4,by simp [hgl9],?_⟩
     obtain ⟨g,m,st,hp,z⟩:=F15
     exact ⟨g,m,st,by rw [upd_ne G15.wg.gp.symm]; exact hp,z⟩
    have hol:os.length=j:=by rw [G14.wg.hgs.len,hgl9]
    have osz:os.length < sizeLine:=qJ (by omega:os.length < 1000) (le_size (by decide))
    try walk_at "WP"
    refine ite2 (fun z=>?_) (fun z=>?_)
    ·intro t2 ht2
     have s5:=same_new ht2 (.tup [V.int 0,V.int 0,V.int 0])
     have G15:=G14.step P14 s5.chg
     refine ⟨ty_list G15.wg.gll,os,G15.wg.gll,osz,?_⟩
     exact last _ t2 ⟨0,0,0⟩ G15 upd_same (by show 0 < _; omega) (.inl rfl) ((P14.same s5).mono (by omega))
    ·refine ⟨ty_list G14.wg.gll,os,G14.wg.gll,osz,?_⟩
     refine last _ t1 ⟨th,sa,1 - 2 * r5⟩ G14 h1t hth (.inr ⟨?_,?_⟩) (P14.mono (by omega))
     ·show 1 - 2 * r5=1 \/ 1 - 2 * r5 = -1
      omega
     ·show Sh sa ((rowsW ins ds).getD th [])
      rw [getD_of ea]
      exact hsa
   ·rintro σ H9 ⟨os,gs,o5,o13,o14,rfl,G9,hgl9,P9⟩
    try walk_at "WP"
    intro w0 hw0 t0 ht0
    have sw:=same_new hw0 (.tup [V.int (ins:Int),V.ref dl,V.ref gl])
    have sw2:=same_new ht0 (.tup [V.ref w0,V.ref tb])
    have sw3:=sw.trans sw2
    have kd:=G9.wg.wi.dlen
    refine q t0 w0 dl gl tb ins us ds os gs vs _ (G9.wg.wi.chg.new (P9.ne (sw.free ht0)) (sw.free ht0)) (G9.wg.wi.chg.new (P9.ne hw0) hw0) G9.wg.wi.ndl G9.wg.ngl G9.wg.wi.ntb G9.wg.gd.symm G9.wg.wi.td G9.wg.gt.symm upd_same ⟨sw2 _ _ upd_same,sw3 _ _ G9.wg.wi.dll,G9.wg.wi.hds.same sw3,sw3 _ _ G9.wg.gll,G9.wg.hgs.same sw3⟩ ⟨⟨u0,u1,G9.wg.wi.dk,?_,?_,?_⟩,G9.sh,G9.go,?_,G9.wg.wi.rw_⟩ (sw3 _ _ G9.wg.wi.tbl) (G9.wg.hrs.same sw3) (by rw [kd]; exact hkk) ((P9.same sw3).mono (by omega)) (G9.wg.wi.chg.trans sw3.chg)
    ·intro g hg
     rw [kd]
     exact G9.wg.gk g hg
    ·rw [kd]; omega
    ·omega
    ·rw [kd]; exact G9.wg.wi.rb
end
section
variable {P:Program}{w:World}{K:PySem.W.Frag}{mg:Str -> Option Value}{base:Heap}
theorem ok_second (T:Txt K mg):Cal P w K mg base 1 "second_sign" ["deed"] spSnd:=by
 have B:=T.bl
 refine mkCal T.t_second_sign sc_second_sign (fun vs H Q E h=>?_) (fun f cdv A outer s H vs Q E hr h=>?_)
 ·obtain ⟨x,d,rfl,_⟩:=h
  rfl
 obtain ⟨x,d,rfl,hx,q⟩:=h
 refine ⟨_,((@pss_one _ _ _ (@ps_ret _ _ _ _ (@pe_ifExp _ _ _ _ _ _ _ _ (@pt_cmpR _ _ _ _ _ _ _ _ op_eq (@pe_ix _ _ _ _ _ _ _ ix_U (pv 0) pe_int (fun _ _=>rfl)) pe_str (@nomark _ _ (by decide) (by decide))) (@pe_un _ _ _ _ _ _ un_neg pe_int) pe_int)))),?_⟩
 rw [show start ["deed"] [.ref x]=[some (.ref x)] from rfl]
 unfold wTup at hx
 (iterate 5 ((try (walk_at "WP")); (try (simp only [hx,qJs,qJt,qJl,qJd,exists_eq_left',exists_eq_left])))); (try (walk_at "WP"))
 unfold sgW at q
 by_cases z:d.w=Str.ofString "less"
 ·rw [if_pos z] at q ⊢
  exact q
 ·rw [if_neg z] at q ⊢
  exact q
end
section
variable {P:Program}{w:World}{K:PySem.W.Frag}{mg:Str -> Option Value}{base:Heap}
theorem ok_darrK (T:Txt K mg):Cal P w K mg base 2 "deed_arrows" ["web"] (spDArrK K):=by
 have B:=T.bl
 have C_second_sign:=ok_second (P:=P) (w:=w) (base:=base) T
 refine mkCal T.t_deed_arrows sc_deed_arrows (fun vs H Q E h=>?_) (fun f cdv A outer s H vs Q E hr h=>?_)
 ·obtain ⟨x,_,_,_,_,_,_,_,rfl,_⟩:=h
  rfl
 obtain ⟨x,dl,gl,ins,us,ds,os,gs,rfl,W,hlen,q⟩:=h
 refine ⟨_,((@pss_cons _ _ _ _ _ (@ps_set _ _ (1) _ _ _ _ sc_deed_arrows.nd rfl (by walk_at "o") (@pe_lst _ _ _ _ pa_nil) (by rfl) (by walk_at "o")) (@pss_cons _ _ _ _ _ (@ps_for _ _ _ _ _ _ _ _ PassesOwn.never rfl (@pi_enum _ _ _ _ _ _ _ _ rfl B.enumerate (@pa_cons _ _ _ _ _ (@pe_ix _ _ _ _ _ _ _ ix_U (pv 0) pe_int (fun _ _=>rfl)) pa_nil (by rfl)) (by rfl)) (@pg_tupM _ _ _ _ _ 2 rfl (@pgs_cons _ _ _ _ _ (@pg_name _ _ (2) _ sc_deed_arrows.nd rfl (by walk_at "o") (by walk_at "o")) (@pgs_cons _ _ _ _ _ (@pg_name _ _ (3) _ sc_deed_arrows.nd rfl (by walk_at "o") (by walk_at "o")) pgs_nil (by rfl)) (by rfl)) (by rfl) (by rfl)) (@pss_cons _ _ _ _ _ (@ps_set _ _ (4) _ _ _ _ sc_deed_arrows.nd rfl (by walk_at "o") (@pe_op _ _ _ _ _ _ _ _ op_add (@pe_ix _ _ _ _ _ _ _ ix_U (pv 0) pe_int (fun _ _=>rfl)) (pv 2)) (by rfl) (by walk_at "o")) (@pss_cons _ _ _ _ _ (@ps_expr _ _ _ _ (@pe_bm _ _ _ _ _ _ _ _ _ _ _ _ PySem.F.plainAttrs_list PySem.F.slot_list_append PySem.F.type_list_append mt_append (pv 1) (@pa_cons _ _ _ _ _ (@pe_tup _ _ _ _ _ (@pa_cons _ _ _ _ _ (@pe_ix _ _ _ _ _ _ _ ix_U (pv 3) pe_int (fun _ _=>rfl)) (@pa_cons _ _ _ _ _ (pv 4) (@pa_cons _ _ _ _ _ (@pe_ix _ _ _ _ _ _ _ ix_U (pv 3) pe_int (fun _ _=>rfl)) (@pa_cons _ _ _ _ _ pe_int pa_nil (by rfl)) (by rfl)) (by rfl)) (by rfl))) pa_nil (by rfl)) (by rfl) (by rfl) (by rfl) (by rfl) (by rfl)) (by rfl)) (@pss_one _ _ _ (@ps_expr _ _ _ _ (@pe_bm _ _ _ _ _ _ _ _ _ _ _ _ PySem.F.plainAttrs_list PySem.F.slot_list_append PySem.F.type_list_append mt_append (pv 1) (@pa_cons _ _ _ _ _ (@pe_tup _ _ _ _ _ (@pa_cons _ _ _ _ _ (@pe_ix _ _ _ _ _ _ _ ix_U (pv 3) pe_int (fun _ _=>rfl)) (@pa_cons _ _ _ _ _ (pv 4) (@pa_cons _ _ _ _ _ (@pe_ix _ _ _ _ _ _ _ ix_U (pv 3) pe_int (fun _ _=>rfl)) (@pa_cons _ _ _ _ _ (@pe_cal _ _ _ _ _ _ _ _ _ _ C_second_sign hr rfl (@pa_cons _ _ _ _ _ (pv 3) pa_nil (by rfl)) (by decide) (by rfl) (by rfl)) pa_nil (by rfl)) (by rfl)) (by rfl)) (by rfl))) pa_nil (by rfl)) (by rfl) (by rfl) (by rfl) (by rfl) (by rfl)) (by rfl))))) (by intro _ ; rfl)) (@pss_one _ _ _ (@ps_ret _ _ _ _ (pv 1)))))),?_⟩
 rw [show start ["web","told","place","deed","thing"] [.ref x]=[some (.ref x),none,none,none,none] from rfl]
 try walk_at "WP"
 intro r hr0
 have sr:=same_new hr0 (.lst [])
 have W1:=W.same sr
 have h1:=W1.tup
 (iterate 5 ((try (walk_at "WP")); (try (simp only [h1,qJs,qJt,qJl,qJd,exists_eq_left',exists_eq_left])))); (try (walk_at "WP"))
 refine ⟨_,SqL.of W1.dll,?_⟩
 refine forE (xs:=us) (fun i σ H1=>∃ (o2 o3 o4:Option V) (ws:List V),σ = [some (.ref x),some (.ref r),o2,o3,o4] /\ Same H H1 /\ H1 r=some (.lst ws) /\ HTs aTup H1 ws (arrF ins 0 (ds.take i))) ⟨none,none,none,[],rfl,sr,upd_same,hts_nil⟩ ?_ ?_ ?_
 ·rintro i σ H1 _ ⟨_,_,_,_,_,s1,_⟩
  exact SqL.of (s1 _ _ W.dll)
 ·rintro i v t σ H1 N hv ht ⟨o2,o3,o4,ws,rfl,s1,hr1,ha⟩ hN
  have hi:i < ds.length:=by rw [← W.hds.len]; exact (qB.mp hv).1
  obtain ⟨y,hy1,hy2⟩:=W.hds.at_ i _ (qA hi)
  have hdi:ds[i]? = some ds[i]:=qA hi
  generalize ds[i]=d at hy2 hdi
  rw [hv] at hy1
  cases hy1
  have st:=same_new ht (.tup [V.int (i:Int),.ref y])
  have W2:=(W.same s1).same st
  have h2:=W2.tup
  have hy3:upd H1 t (.tup [V.int (i:Int),.ref y]) y=some (.tup (wTup d)):=st _ _ (s1 _ _ hy2)
  have hr2:=st _ _ hr1
  have ha2:=ha.same st
  have s2:=s1.trans st
  have h9:upd H1 t (.tup [V.int (i:Int),.ref y]) t=some (.tup [V.int (i:Int),.ref y]):=upd_same
  generalize upd H1 t (.tup [V.int (i:Int),.ref y])=H2 at *
  have hy3':=hy3
  unfold wTup at hy3'
  (iterate 5 ((try (walk_at "WP")); (try (simp only [h9,h2,hy3',qJs,qJt,qJl,qJd,exists_eq_left',exists_eq_left])))); (try (walk_at "WP"))
  have hwl:ws.length=2 * i:=by rw [ha2.len,arrF_len,qO]; omega
  refine ⟨ty_list hr2,fun p1 hp1=>?_⟩
  have s3:=same_new hp1 (.tup [V.int (d.a:Int),V.int ((ins:Int)+(i:Int)),V.int d.s,V.int 1])
  have n1:r ≠ p1:=ne_of_none hr2 hp1
  refine ⟨ws,by rw [upd_ne n1]; exact hr2,qJ (by omega:ws.length < 1000) (le_size (by decide)),ty_list upd_same,?_⟩
  have hr3:=s3 _ _ hr2
  have ha3:=(ha2.same s3).chgL hr3 (Chg.upd (.lst (ws ++ [.ref p1])))
  have hp1t:(upd (upd H2 p1 (.tup [V.int (d.a:Int),V.int ((ins:Int)+(i:Int)),V.int d.s,V.int 1])) r (.lst (ws ++ [.ref p1]))) p1=some (.tup (aTup ⟨d.a,ins+i,d.s,1⟩)):=by
   rw [upd_ne n1.symm,upd_same]
   unfold aTup
   rw [show ((ins+i:Nat):Int)=(ins:Int)+(i:Int) by omega]
  have ha4:=ha3.snoc (x:=(⟨d.a,ins+i,d.s,1⟩:Ar)) hp1t
  have hy4:(upd (upd H2 p1 (.tup [V.int (d.a:Int),V.int ((ins:Int)+(i:Int)),V.int d.s,V.int 1])) r (.lst (ws ++ [.ref p1]))) y=some (.tup (wTup d)):=by
   rw [upd_ne (ne_of hy3 hr2 (by intro z; cases z))]
   exact s3 _ _ hy3
  have s4:Same H (upd (upd H2 p1 (.tup [V.int (d.a:Int),V.int ((ins:Int)+(i:Int)),V.int d.s,V.int 1])) r (.lst (ws ++ [.ref p1]))):=same_upd hr0 (s2.trans s3)
  have hr4:(upd (upd H2 p1 (.tup [V.int (d.a:Int),V.int ((ins:Int)+(i:Int)),V.int d.s,V.int 1])) r (.lst (ws ++ [.ref p1]))) r=some (.lst (ws ++ [.ref p1])):=upd_same
  generalize upd (upd H2 p1 (.tup [V.int (d.a:Int),V.int ((ins:Int)+(i:Int)),V.int d.s,V.int 1])) r (.lst (ws ++ [.ref p1]))=H3 at s4 hr4 hy4 ha4 ⊢
  refine ⟨_,hy4,_,rfl,_,hy4,_,rfl,y,d,rfl,hy4,fun p2 hp2=>?_⟩
  have s5:=same_new hp2 (.tup [V.int (d.b:Int),V.int ((ins:Int)+(i:Int)),V.int d.t,V.int (sgW d.w)])
  have n2:r ≠ p2:=ne_of_none hr4 hp2
  refine ⟨_,by rw [upd_ne n2]; exact hr4,qJ (by simp; omega:(ws ++ [V.ref p1]).length < 1000) (le_size (by decide)),?_⟩
  have hr5:=s5 _ _ hr4
  have hp2t:(upd (upd H3 p2 (.tup [V.int (d.b:Int),V.int ((ins:Int)+(i:Int)),V.int d.t,V.int (sgW d.w)])) r (.lst (ws ++ [.ref p1] ++ [.ref p2]))) p2=some (.tup (aTup ⟨d.b,ins+i,d.t,sgW d.w⟩)):=by
   rw [upd_ne n2.symm,upd_same]
   unfold aTup
   rw [show ((ins+i:Nat):Int)=(ins:Int)+(i:Int) by omega]
  have ha5:=((ha4.same s5).chgL hr5 (Chg.upd (.lst (ws ++ [.ref p1] ++ [.ref p2])))).snoc (x:=(⟨d.b,ins+i,d.t,sgW d.w⟩:Ar)) hp2t
  refine hN _ _ ⟨_,_,_,_,rfl,same_upd hr0 (s4.trans s5),upd_same,?_⟩
  have tk:ds.take (i+1)=ds.take i ++ [d]:=by rw [List.take_add_one,hdi]; rfl
  rw [tk,arrF_app,qO,Nat.min_eq_left (by omega),Nat.zero_add,show arrF ins i [d]=[(⟨d.a,ins+i,d.s,1⟩:Ar)] ++ [(⟨d.b,ins+i,d.t,sgW d.w⟩:Ar)] from rfl,← List.append_assoc]
  exact ha5
 ·rintro σ H1 ⟨o2,o3,o4,ws,rfl,s1,hr1,ha⟩
  try walk_at "WP"
  rw [W.hds.len,List.take_length] at ha
  exact q r ws H1 hr0 s1 hr1 ha
end
section
variable {P:Program}{w:World}{K:PySem.W.Frag}{mg:Str -> Option Value}{base:Heap}
theorem ok_countK (T:Txt K mg):Cal P w K mg base 1 "thing_count" ["web"] (spCntK K):=by
 have B:=T.bl
 refine mkCal T.t_thing_count sc_thing_count (fun vs H Q E h=>?_) (fun f cdv A outer s H vs Q E hr h=>?_)
 ·obtain ⟨x,_,_,_,_,_,_,_,rfl,_⟩:=h
  rfl
 obtain ⟨x,dl,gl,ins,us,ds,os,gs,rfl,W,q⟩:=h
 refine ⟨_,((@pss_one _ _ _ (@ps_ret _ _ _ _ (@pe_op _ _ _ _ _ _ _ _ op_add (@pe_ix _ _ _ _ _ _ _ ix_U (pv 0) pe_int (fun _ _=>rfl)) (@pe_callB _ _ _ _ _ _ _ _ _ call_lenM rfl B.len bo_len (@pa_cons _ _ _ _ _ (@pe_ix _ _ _ _ _ _ _ ix_U (pv 0) pe_int (fun _ _=>rfl)) pa_nil (by rfl)) (by decide) (by decide) (by rfl) (by rfl)))))),?_⟩
 rw [show start ["web"] [.ref x]=[some (.ref x)] from rfl]
 have h1:=W.tup
 have h2:=W.dll
 (iterate 5 ((try (walk_at "WP")); (try (simp only [h1,h2,qJs,qJt,qJl,qJd,exists_eq_left',exists_eq_left])))); (try (walk_at "WP"))
 rw [W.hds.len]
 exact q
end
section
variable {P:Program}{w:World}{K:PySem.W.Frag}{mg:Str -> Option Value}{base:Heap}
theorem ok_ways (T:Txt K mg):Cal P w K mg base 3 "ways" ["web"] (spWays K):=by
 have B:=T.bl
 have C_deed_arrows:=ok_darrK (P:=P) (w:=w) (base:=base) T
 refine mkCal T.t_ways sc_ways (fun vs H Q E h=>?_) (fun f cdv A outer s H vs Q E hr h=>?_)
 ·obtain ⟨_,_,_,_,_,_,_,_,rfl,_⟩:=h
  rfl
 obtain ⟨x,dl,gl,ins,us,ds,os,gs,rfl,W,hD,d60,i12,q⟩:=h
 refine ⟨_,((@pss_cons _ _ _ _ _ (@ps_set _ _ (1) _ _ _ _ sc_ways.nd rfl (by walk_at "o") (@pe_op _ _ _ _ _ _ _ _ op_cat (@pe_comp0 _ _ _ _ _ _ _ _ (["thing"]) (1) ([]) _ _ _ rfl (@pi_range1 _ _ _ _ _ _ rfl B.range (@pa_cons _ _ _ _ _ (@pe_ix _ _ _ _ _ _ _ ix_U (pv 0) pe_int (fun _ _=>rfl)) pa_nil (by rfl)) (by rfl)) (fun nd C s H fp=>⟨(@pg_name _ _ (0) _ nd rfl (by walk_at "o") (by walk_at "o")),pn_nil,pe_int⟩) (by decide +kernel) (by first | rfl | decide +kernel) (by first | rfl | decide +kernel) rfl (fun _=>rfl)) (@pe_comp0 _ _ _ _ _ _ _ _ (["deed"]) (1) ([]) _ _ _ rfl (@pi_list _ _ _ _ (@pe_ix _ _ _ _ _ _ _ ix_U (pv 0) pe_int (fun _ _=>rfl))) (fun nd C s H fp=>⟨(@pg_name _ _ (0) _ nd rfl (by walk_at "o") (by walk_at "o")),pn_nil,pe_int⟩) (by decide +kernel) (by first | rfl | decide +kernel) (by first | rfl | decide +kernel) rfl (fun _=>rfl))) (by rfl) (by walk_at "o")) (@pss_cons _ _ _ _ _ (@ps_for _ _ _ _ _ _ _ _ PassesOwn.never rfl (@pi_list _ _ _ _ (@pe_cal _ _ _ _ _ _ _ _ _ _ C_deed_arrows hr rfl (@pa_cons _ _ _ _ _ (pv 0) pa_nil (by rfl)) (by decide) (by rfl) (by rfl))) (@pg_tupM _ _ _ _ _ 4 rfl (@pgs_cons _ _ _ _ _ (@pg_name _ _ (2) _ sc_ways.nd rfl (by walk_at "o") (by walk_at "o")) (@pgs_cons _ _ _ _ _ (@pg_name _ _ (3) _ sc_ways.nd rfl (by walk_at "o") (by walk_at "o")) (@pgs_cons _ _ _ _ _ (@pg_name _ _ (4) _ sc_ways.nd rfl (by walk_at "o") (by walk_at "o")) (@pgs_cons _ _ _ _ _ (@pg_name _ _ (5) _ sc_ways.nd rfl (by walk_at "o") (by walk_at "o")) pgs_nil (by rfl)) (by rfl)) (by rfl)) (by rfl)) (by rfl) (by rfl)) (@pss_one _ _ _ (@ps_asg _ _ _ _ _ _ (@pe_op _ _ _ _ _ _ _ _ op_add (@pe_ix _ _ _ _ _ _ _ ix_M (pv 1) (pv 3) (fun _ _=>rfl)) (@pe_ix _ _ _ _ _ _ _ ix_M (pv 1) (pv 2) (fun _ _=>rfl))) (@pg_sub _ _ _ _ _ _ _ (pv 1) (pv 3) set_list (by intro _ ; rfl)) (by rfl) (by rfl) (by rfl))) (by intro _ ; rfl)) (@pss_one _ _ _ (@ps_ret _ _ _ _ (pv 1)))))),?_⟩
 rw [show start ["web","told","start","goal","shift","sign"] [.ref x]=[some (.ref x),none,none,none,none,none] from rfl]
 have h1:=W.tup
 (iterate 5 ((try (walk_at "WP")); (try (simp only [h1,qJs,qJt,qJl,qJd,exists_eq_left',exists_eq_left])))); (try (walk_at "WP"))
 refine ⟨by omega,by omega,?_⟩
 rw [Int.toNat_natCast]
 have ezg:∀ (c:Int) (ys:List V),(ys.filterMap fun _=>some (V.int c))=(qQ ys.length c).map V.int:=fun c ys=>by
  rw [List.map_replicate]
  induction ys with
  | nil=>rfl
  | cons a r ih=>rw [List.filterMap_cons]; simp only [ih]; rfl
 refine comp_R (f:=fun _=>some (V.int 1)) (le_size (by omega)) (fun y H5 R5 hy s5 hR5=>?_) (fun l hl=>?_)
 ·try walk_at "WP"
  exact hR5
 rw [ezg,rngV_len]
 have sl:=same_new hl (.lst ((qQ ins (1:Int)).map V.int))
 have hll:upd H l (.lst ((qQ ins (1:Int)).map V.int)) l=some (.lst ((qQ ins (1:Int)).map V.int)):=upd_same
 have Wl:=W.same sl
 have h2:=Wl.tup
 generalize upd H l (.lst ((qQ ins (1:Int)).map V.int))=H1 at sl hll Wl h2 ⊢
 (iterate 5 ((try (walk_at "WP")); (try (simp only [h2,qJs,qJt,qJl,qJd,exists_eq_left',exists_eq_left])))); (try (walk_at "WP"))
 refine ⟨⟨_,SqL.of Wl.dll⟩,?_⟩
 refine comp_L (f:=fun _=>some (V.int 0)) (SqL.of Wl.dll) (by rw [Wl.hds.len]; exact le_big (by omega)) (fun y H' R hy hS' hR=>?_) (fun acc hacc=>?_)
 ·try walk_at "WP"
  exact hR
 rw [ezg,W.hds.len]
 have sa:=same_new hacc (.lst ((qQ ds.length (0:Int)).map V.int))
 have haa:upd H1 acc (.lst ((qQ ds.length (0:Int)).map V.int)) acc=some (.lst ((qQ ds.length (0:Int)).map V.int)):=upd_same
 have hl2:=sa _ _ hll
 have S2:=sl.trans sa
 generalize upd H1 acc (.lst ((qQ ds.length (0:Int)).map V.int))=H2 at sa haa hl2 S2 ⊢
 try walk_at "WP"
 refine ⟨_,hl2,_,haa,by simp only [qC,qL]; exact le_big (by omega),fun r hr0=>?_⟩
 rw [← List.map_append]
 have sr:=same_new hr0 (.lst ((qQ ins (1:Int) ++ qQ ds.length (0:Int)).map V.int))
 have hrr:upd H2 r (.lst ((qQ ins (1:Int) ++ qQ ds.length (0:Int)).map V.int)) r=some (.lst ((tG gWy 0 (qQ ins 1) ds 0).map V.int)):=upd_same
 have S3:=S2.trans sr
 have nr:H r=none:=S2.free hr0
 generalize upd H2 r (.lst ((qQ ins (1:Int) ++ qQ ds.length (0:Int)).map V.int))=H3 at hrr S3 ⊢
 try walk_at "WP"
 refine ⟨x,dl,gl,ins,us,ds,os,gs,rfl,W.same S3,by omega,fun al ws H4 na s4 ha4 hts=>?_⟩
 try walk_at "WP"
 refine ⟨⟨_,SqL.of ha4⟩,?_⟩
 have alr:al ≠ r:=(ne_of_none hrr na).symm
 have xl:(qQ ins (1:Int)).length=ins:=qL
 have dk2:∀ (k:Nat) (d:Wd),ds[k]? = some d -> d.a < (qQ ins (1:Int)).length+k /\ d.b < (qQ ins (1:Int)).length+k:=fun k d hd=>by
  rw [xl]
  exact hD k d hd
 refine forL (xs:=ws) (fun i σ H5=>∃ (o3 o4 o5 o6:Option V),σ = [some (.ref x),some (.ref r),o3,o4,o5,o6] /\ H5 r=some (.lst ((tG gWy 0 (qQ ins 1) ds i).map V.int)) /\ Chg r H4 H5) ⟨none,none,none,none,rfl,s4 _ _ hrr,fun _ _ _ z=>z⟩ ?_ ?_ ?_
 ·rintro i σ H5 _ ⟨_,_,_,_,_,_,c5⟩
  exact SqL.of (c5 _ _ alr ha4)
 ·rintro i y σ H5 N hy ⟨o3,o4,o5,o6,rfl,hr5,c5⟩ hN
  have hi:i < (arrF ins 0 ds).length:=by rw [← hts.len]; exact (qB.mp hy).1
  obtain ⟨p,hp1,hp2⟩:=hts.at_ i _ (qA hi)
  have hai:(arrF ins 0 ds)[i]? = some (arrF ins 0 ds)[i]:=qA hi
  generalize (arrF ins 0 ds)[i]=a at hp2 hai
  rw [hy] at hp1
  cases hp1
  have hp5:=c5 _ _ (ne_of hp2 (s4 _ _ hrr) (by intro z; cases z)) hp2
  unfold aTup at hp5
  obtain ⟨u,z,e1,e2,e3,⟨d,hd,e4⟩,e5,e6⟩:=tG_step (g:=gWy) (z:=0) dk2 (by rw [xl]; exact hai)
  have a1:atI ((tG gWy 0 (qQ ins 1) ds i).map V.int) (a.st:Int)=some (.int u):=atI_nat (by rw [qI,e1]; rfl)
  have a2:atI ((tG gWy 0 (qQ ins 1) ds i).map V.int) (a.go:Int)=some (.int z):=atI_nat (by rw [qI,e2]; rfl)
  (iterate 5 ((try (walk_at "WP")); (try (simp only [hp5,hr5,qJs,qJt,qJl,qJd,exists_eq_left',exists_eq_left])))); (try (walk_at "WP"))
  refine ⟨_,a2,_,a1,?_⟩
  have hgl:a.go < (tG gWy 0 (qQ ins 1) ds i).length:=(qB.mp e2).1
  (iterate 5 ((try (walk_at "WP")); (try (simp only [hr5,qJs,qJt,qJl,qJd,exists_eq_left',exists_eq_left])))); (try (walk_at "WP"))
  refine ⟨a.go,by rw [qC]; exact ixN_nat hgl,?_⟩
  rw [set_mapI,show z+u=gWy z a.sh a.sg u from rfl,e6]
  exact hN _ _ ⟨_,_,_,_,rfl,upd_same,c5.trans (Chg.upd _)⟩
 ·rintro σ H5 ⟨_,_,_,_,rfl,hr5,c5⟩
  try walk_at "WP"
  rw [hts.len,arrF_len,tG_end] at hr5
  exact q r H5 nr (fun b o hb=>c5 _ _ (ne_of_none hb nr) (s4 _ _ (S3 _ _ hb))) hr5
theorem ok_endsI (T:Txt K mg):Cal P w K mg base 4 "ends_at_inputs" ["web","out"] (spEndsI K):=by
 have B:=T.bl
 have C_thing_count:=(ok_countK (P:=P) (w:=w) (base:=base) T).mono (k:=3) (by decide)
 have C_deed_arrows:=(ok_darrK (P:=P) (w:=w) (base:=base) T).mono (k:=3) (by decide)
 refine mkCal T.t_ends_at_inputs sc_ends_at_inputs (fun vs H Q E h=>?_) (fun f cdv A outer s H vs Q E hr h=>?_)
 ·obtain ⟨_,_,_,_,_,_,_,_,_,_,_,rfl,_⟩:=h
  rfl
 obtain ⟨x,o,dl,gl,ins,us,ds,os,gs,g,Bd,rfl,W,ho,hT,q⟩:=h
 have i12:=hT.i12
 have d400:=hT.dl
 refine ⟨_,((@pss_cons _ _ _ _ _ (@ps_setComp0 _ _ _ _ (2) _ _ _ _ _ _ _ (["thing"]) (1) ([]) _ _ _ rfl (@pi_range1 _ _ _ _ _ _ rfl B.range (@pa_cons _ _ _ _ _ (@pe_cal _ _ _ _ _ _ _ _ _ _ C_thing_count hr rfl (@pa_cons _ _ _ _ _ (pv 0) pa_nil (by rfl)) (by decide) (by rfl) (by rfl)) pa_nil (by rfl)) (by rfl)) (fun nd C s H fp=>⟨(@pg_name _ _ (0) _ nd rfl (by walk_at "o") (by walk_at "o")),pn_nil,(@pe_lst _ _ _ _ pa_nil)⟩) (by decide +kernel) (by first | rfl | decide +kernel) (by first | rfl | decide +kernel) rfl (fun _=>rfl) sc_ends_at_inputs.nd rfl (by walk_at "o") (by walk_at "o") rfl) (@pss_cons _ _ _ _ _ (@ps_asg _ _ _ _ _ _ (@pe_lst _ _ _ _ (@pa_cons _ _ _ _ _ (@pe_tup _ _ _ _ _ (@pa_cons _ _ _ _ _ (@pe_ix _ _ _ _ _ _ _ ix_tup (pv 1) pe_int (fun _ _=>rfl)) (@pa_cons _ _ _ _ _ (@pe_ix _ _ _ _ _ _ _ ix_tup (pv 1) pe_int (fun _ _=>rfl)) pa_nil (by rfl)) (by rfl))) pa_nil (by rfl))) (@pg_sub _ _ _ _ _ _ _ (pv 2) (@pe_ix _ _ _ _ _ _ _ ix_tup (pv 1) pe_int (fun _ _=>rfl)) set_list (by intro _ ; rfl)) (by rfl) (by rfl) (by rfl)) (@pss_cons _ _ _ _ _ (@ps_for _ _ _ _ _ _ _ _ PassesOwn.never rfl (@pi_rev _ _ _ _ _ _ rfl B.reversed (@pa_cons _ _ _ _ _ (@pe_cal _ _ _ _ _ _ _ _ _ _ C_deed_arrows hr rfl (@pa_cons _ _ _ _ _ (pv 0) pa_nil (by rfl)) (by decide) (by rfl) (by rfl)) pa_nil (by rfl)) (by rfl)) (@pg_tupM _ _ _ _ _ 4 rfl (@pgs_cons _ _ _ _ _ (@pg_name _ _ (3) _ sc_ends_at_inputs.nd rfl (by walk_at "o") (by walk_at "o")) (@pgs_cons _ _ _ _ _ (@pg_name _ _ (4) _ sc_ends_at_inputs.nd rfl (by walk_at "o") (by walk_at "o")) (@pgs_cons _ _ _ _ _ (@pg_name _ _ (5) _ sc_ends_at_inputs.nd rfl (by walk_at "o") (by walk_at "o")) (@pgs_cons _ _ _ _ _ (@pg_name _ _ (6) _ sc_ends_at_inputs.nd rfl (by walk_at "o") (by walk_at "o")) pgs_nil (by rfl)) (by rfl)) (by rfl)) (by rfl)) (by rfl) (by rfl)) (@pss_cons _ _ _ _ _ (@ps_setComp0 _ _ _ _ (7) _ _ _ _ _ _ _ (["end","shift","sign"]) (1) ([5,6]) _ _ _ rfl (@pi_list _ _ _ _ (@pe_ix _ _ _ _ _ _ _ ix_M (pv 2) (pv 4) (fun _ _=>rfl))) (fun nd C s H fp=>⟨(@pg_name _ _ (0) _ nd rfl (by walk_at "o") (by walk_at "o")),pn_nil,(@pe_tup _ _ _ _ _ (@pa_cons _ _ _ _ _ (@pe_op _ _ _ _ _ _ _ _ op_add (@pe_ix _ _ _ _ _ _ _ ix_U (pv 0) pe_int (fun _ _=>rfl)) (pv 1)) (@pa_cons _ _ _ _ _ (@pe_op _ _ _ _ _ _ _ _ op_mulB (@pe_ix _ _ _ _ _ _ _ ix_U (pv 0) pe_int (fun _ _=>rfl)) (pv 2)) pa_nil (by rfl)) (by rfl)))⟩) (by decide +kernel) (by first | rfl | decide +kernel) (by first | rfl | decide +kernel) rfl (fun _=>rfl) sc_ends_at_inputs.nd rfl (by walk_at "o") (by walk_at "o") rfl) (@pss_one _ _ _ (@ps_asg _ _ _ _ _ _ (@pe_op _ _ _ _ _ _ _ _ op_cat (@pe_ix _ _ _ _ _ _ _ ix_M (pv 2) (pv 3) (fun _ _=>rfl)) (pv 7)) (@pg_sub _ _ _ _ _ _ _ (pv 2) (pv 3) set_list (by intro _ ; rfl)) (by rfl) (by rfl) (by rfl)))) (by intro _ ; rfl)) (@pss_one _ _ _ (@ps_ret _ _ _ _ (@pe_slice _ _ _ _ _ _ _ _ _ _ sl_list (pv 2) po_none (@po_some _ _ _ (@pe_ix _ _ _ _ _ _ _ ix_U (pv 0) pe_int (fun _ _=>rfl)))))))))),?_⟩
 rw [show start ["web","out","ends","start","goal","shift","sign","longer"] [.ref x,.ref o]=[some (.ref x),some (.ref o),none,none,none,none,none,none] from rfl]
 try walk_at "WP"
 refine ⟨x,dl,gl,ins,us,ds,os,gs,rfl,W,?_⟩
 try walk_at "WP"
 refine ⟨by omega,by omega,?_⟩
 rw [show ((ins:Int)+((ds.length:Nat):Int)).toNat=ins+ds.length by omega]
 refine comp_rowsD (by omega) (fun _=>[]) (fun i H' R hi s' hR=>?_) (fun t ps H2 nt np s2 L2=>?_)
 ·try walk_at "WP"
  exact fun l nl=>hR l _ nl (same_new nl _) upd_same
 have L2:=L2.llt
 have o2:=s2.seqT ho
 unfold gTp at o2
 have th:=hT.th
 try walk_at "WP"
 refine ⟨_,o2,_,rfl,_,o2,_,rfl,fun p hp p1 hp1=>?_⟩
 have sp:=same_new hp (.tup [V.int g.sh,V.int g.sg])
 have sp1:=same_new hp1 (.lst [V.ref p])
 have hpp:(upd (upd H2 p (.tup [V.int g.sh,V.int g.sg])) p1 (.lst [V.ref p])) p=some (.tup (pE (g.sh,g.sg))):=sp1 _ _ upd_same
 have hp11:(upd (upd H2 p (.tup [V.int g.sh,V.int g.sg])) p1 (.lst [V.ref p])) p1=some (.lst [V.ref p]):=upd_same
 have p1t:p1 ≠ t:=(ne_of_none (sp _ _ L2.lst) hp1).symm
 have S3:=sp.trans sp1
 generalize upd (upd H2 p (.tup [V.int g.sh,V.int g.sg])) p1 (.lst [V.ref p])=H3 at hpp hp11 S3 ⊢
 refine ⟨_,S3.seqT o2,_,rfl,?_⟩
 have L3:=L2.same S3
 have t3:=L3.lst
 (iterate 5 ((try (walk_at "WP")); (try (simp only [t3,qJs,qJt,qJl,qJd,exists_eq_left',exists_eq_left])))); (try (walk_at "WP"))
 refine ⟨g.th,by rw [L3.len,qL]; exact ixN_nat th,?_⟩
 have L4:=L3.put (x:=g.th) (es:=[(g.sh,g.sg)]) p1t hp11 (hts_nil.snoc (x:=(g.sh,g.sg)) hpp)
 have s4:Same H (upd H3 t (.lst ((ps.map V.ref).set g.th (.ref p1)))):=same_upd nt (s2.trans S3)
 have fr4:∀ v ∈ (ps.map V.ref).set g.th (.ref p1),FrV H v:=frv_set (fun v hv r e=>by
  obtain ⟨p',hp',rfl⟩:=qP.mp hv
  cases e
  exact np _ hp') (s2.free (sp.free hp1))
 generalize (ps.map V.ref).set g.th (.ref p1)=v4 at L4 s4 fr4 ⊢
 generalize upd H3 t (.lst v4)=H4 at L4 s4 ⊢
 try walk_at "WP"
 refine ⟨x,dl,gl,ins,us,ds,os,gs,rfl,W.same s4,by omega,fun al ws H5 na s5 ha5 hts=>?_⟩
 try walk_at "WP"
 refine ⟨_,SqL.of ha5,?_⟩
 have alt:al ≠ t:=(ne_of_none L4.lst na).symm
 have wl:ws.length=2 * ds.length:=by rw [hts.len,arrF_len]
 refine forV (xs:=ws) (fun i σ H6=>∃ (o3 o4 o5 o6 o7:Option V) (vs:List V),σ = [some (.ref x),some (.ref o),some (.ref t),o3,o4,o5,o6,o7] /\ Same H H6 /\ H6 al=some (.lst ws) /\ HTs aTup H6 ws (arrF ins 0 ds) /\ (∀ v ∈ vs,FrV H v) /\ LLT H6 t vs (endsW ins ds g i)) ⟨_,_,_,_,_,v4,rfl,s4.trans s5,ha5,hts,fr4,L4.same s5⟩ ?_ ?_ ?_
 ·rintro i σ H6 _ ⟨_,_,_,_,_,_,_,_,h6,_⟩
  exact SqL.of h6
 ·rintro i v σ H6 N hv ⟨o3,o4,o5,o6,o7,vs,rfl,s6,ha6,ht6,fr6,L6⟩ hN
  have hi:i < ws.length:=by
   have:=(qB.mp hv).1
   rwa [List.length_reverse] at this
  rw [List.getElem?_reverse hi] at hv
  have hj:ws.length - 1 - i < (arrF ins 0 ds).length:=by rw [arrF_len]; omega
  obtain ⟨y,hy1,hy2⟩:=ht6.at_ _ _ (qA hj)
  have haj:(arrF ins 0 ds)[ws.length - 1 - i]? = some (arrF ins 0 ds)[ws.length - 1 - i]:=qA hj
  generalize (arrF ins 0 ds)[ws.length - 1 - i]=a at hy2 haj
  rw [hv] at hy1
  cases hy1
  have hra:(arrF ins 0 ds).reverse[i]? = some a:=by
   rw [List.getElem?_reverse (by rw [arrF_len]; omega),← hts.len]
   exact haj
  have S:=ES.all hT.dko hT.hB hT.th hT.sg hT.sh i (by omega)
  obtain ⟨_,d,hd,ar0,ar1⟩:=arrR_at hra
  obtain ⟨da,db⟩:=hT.dko _ d hd
  have dk:=(qB.mp hd).1
  have hst:a.st < ins+ds.length /\ a.go < ins+ds.length /\ (a.sg=1 \/ a.sg = -1):=by
   by_cases z:i % 2=0
   ·rw [ar0 z]
    refine ⟨by show d.b < _; omega,by show ins+_ < _; omega,?_⟩
    show sgW d.w=1 \/ sgW d.w = -1
    unfold sgW
    split
    ·exact .inr rfl
    ·exact .inl rfl
   ·rw [ar1 (by omega)]
    exact ⟨by show d.a < _; omega,by show ins+_ < _; omega,.inl rfl⟩
  have el:(endsW ins ds g i).length=ins+ds.length:=endsW_len i
  obtain ⟨rg,ug,g1,g2,g3,g4⟩:=L6.get (x:=a.go) (by omega)
  have hy3:=hy2
  unfold aTup at hy3
  have t6:=L6.lst
  have lg:=S.lens a.go
  have wy:=hT.wy
  (iterate 5 ((try (walk_at "WP")); (try (simp only [hy3,t6,qJs,qJt,qJl,qJd,exists_eq_left',exists_eq_left])))); (try (walk_at "WP"))
  refine ⟨_,atI_nat g1,rg,rfl,⟨_,SqL.of g3⟩,?_⟩
  refine comp_TT (f':=pE) g3 g4 (by omega) (mvE a) (fun ts y e H7 R hts7 he s7 hy7 hR=>?_) (fun ln wn H7 nn s7 h7 ht7=>?_)
  ·obtain ⟨t0,rfl⟩:∃ t0,ts=[t0]:=by
    match ts,hts7 with
    | [a],_=>exact ⟨a,rfl⟩
   unfold pE at hy7
   have se:=(S.sg _ e he).1
   rw [show capV [5,6] [some (V.ref x),some (V.ref o),some (V.ref t),some (V.int (a.st:Int)),some (V.int (a.go:Int)),some (V.int a.sh),some (V.int a.sg),o7]=[some (V.int a.sh),some (V.int a.sg)] from rfl]
   rw [List.cons_append,List.nil_append]
   (iterate 5 ((try (walk_at "WP")); (try (simp only [hy7,qJs,qJt,qJl,qJd,exists_eq_left',exists_eq_left])))); (try (walk_at "WP"))
   refine ⟨by rcases se with z | z <;> rw [z] <;> exact mul_l (by decide) (by decide),fun r hr0=>?_⟩
   exact hR r [some (.ref y)] _ rfl hr0 (same_new hr0 _) upd_same
  have L7:=L6.same s7
  obtain ⟨rs,uu,f1,f2,f3,f4⟩:=L7.get (x:=a.st) (by omega)
  have t7:=L7.lst
  have ls:=S.lens a.st
  have l1:=f4.len
  have l2:=ht7.len
  rw [qC] at l2
  (iterate 5 ((try (walk_at "WP")); (try (simp only [t7,qJs,qJt,qJl,qJd,exists_eq_left',exists_eq_left])))); (try (walk_at "WP"))
  refine ⟨_,atI_nat f1,?_⟩
  (iterate 5 ((try (walk_at "WP")); (try (simp only [f3,h7,qJs,qJt,qJl,qJd,exists_eq_left',exists_eq_left])))); (try (walk_at "WP"))
  refine ⟨le_size (by omega),fun r hr0=>?_⟩
  have sr:=same_new hr0 (.lst (uu ++ wn))
  have hrr:upd H7 r (.lst (uu ++ wn)) r=some (.lst (uu ++ wn)):=upd_same
  have rt:r ≠ t:=(ne_of_none t7 hr0).symm
  generalize upd H7 r (.lst (uu ++ wn))=H8 at sr hrr ⊢
  have L8:=L7.same sr
  have t8:=L8.lst
  (iterate 5 ((try (walk_at "WP")); (try (simp only [t8,qJs,qJt,qJl,qJd,exists_eq_left',exists_eq_left])))); (try (walk_at "WP"))
  refine ⟨a.st,by rw [L8.len]; exact ixN_nat (by omega),?_⟩
  have L9:=L8.put (x:=a.st) (es:=(endsW ins ds g i).getD a.st [] ++ ((endsW ins ds g i).getD a.go []).map (mvE a)) rt hrr ((f4.same sr).app (ht7.same sr))
  have s8:=s7.trans sr
  refine hN _ _ ⟨_,_,_,_,_,vs.set a.st (.ref r),rfl,same_upd nt (s6.trans s8),?_,(ht6.same s8).chgL t8 (Chg.upd _),frv_set fr6 (s6.free (s7.free hr0)),?_⟩
  ·rw [upd_ne alt]
   exact s8 _ _ ha6
  ·rw [endsW_succ hra]
   exact L9
 ·rintro σ H6 ⟨_,_,_,_,_,vs,rfl,s6,ha6,ht6,fr6,L6⟩
  rw [wl] at L6
  have h1:=s6 _ _ W.tup
  (iterate 5 ((try (walk_at "WP")); (try (simp only [h1,qJs,qJt,qJl,qJd,exists_eq_left',exists_eq_left])))); (try (walk_at "WP"))
  refine ⟨_,SqL.of L6.lst,fun r hr0=>?_⟩
  rw [cut_take]
  exact q r _ _ (s6.free hr0) (s6.trans (same_new hr0 _)) (fun v hv=>fr6 v (List.mem_of_mem_take hv)) (L6.cut hr0)
theorem ok_terms (T:Txt K mg):Cal P w K mg base 5 "terms" ["web","k"] (spTerms K):=by
 have B:=T.bl
 obtain ⟨_,mg_MOST_TOLD⟩:=T.i_MOST_TOLD
 have C_ways:=(ok_ways (P:=P) (w:=w) (base:=base) T).mono (k:=4) (by decide)
 have C_ends_at_inputs:=ok_endsI (P:=P) (w:=w) (base:=base) T
 refine mkCal T.t_terms sc_terms (fun vs H Q E h=>?_) (fun f cdv A outer s H vs Q E hr h=>?_)
 ·obtain ⟨_,_,_,_,_,_,_,_,_,_,_,rfl,_⟩:=h
  rfl
 obtain ⟨x,dl,gl,ins,us,ds,os,gs,g,Bd,k,rfl,W,hg,hT,q⟩:=h
 refine ⟨_,((@pss_cons _ _ _ _ _ (@ps_set _ _ (2) _ _ _ _ sc_terms.nd rfl (by walk_at "o") (@pe_ix _ _ _ _ _ _ _ ix_M (@pe_ix _ _ _ _ _ _ _ ix_U (pv 0) pe_int (fun _ _=>rfl)) (pv 1) (fun _ _=>rfl)) (by rfl) (by walk_at "o")) (@pss_cons _ _ _ _ _ (@ps_if _ _ _ _ _ _ _ _ (@pt_cmpR _ _ _ _ _ _ _ _ op_eq (@pe_ix _ _ _ _ _ _ _ ix_tup (pv 2) pe_int (fun _ _=>rfl)) pe_int (@nomark _ _ (by decide) (by decide))) (@pss_one _ _ _ (@ps_ret _ _ _ _ (@pe_lst _ _ _ _ pa_nil))) pss_nil) (@pss_cons _ _ _ _ _ (@ps_if _ _ _ _ _ _ _ _ (@pt_cmpR _ _ _ _ _ _ _ _ op_gt (@pe_ix _ _ _ _ _ _ _ ix_M (@pe_cal _ _ _ _ _ _ _ _ _ _ C_ways hr rfl (@pa_cons _ _ _ _ _ (pv 0) pa_nil (by rfl)) (by decide) (by rfl) (by rfl)) (@pe_ix _ _ _ _ _ _ _ ix_tup (pv 2) pe_int (fun _ _=>rfl)) (fun _ _=>rfl)) (@pe_glob _ _ (.int 500) _ _ rfl mg_MOST_TOLD ⟨_,rfl⟩ (by decide)) (@nomark _ _ (by decide) (by decide))) (@pss_one _ _ _ ps_never) pss_nil) (@pss_cons _ _ _ _ _ (@ps_set _ _ (3) _ _ _ _ sc_terms.nd rfl (by walk_at "o") (@pe_lst _ _ _ _ pa_nil) (by rfl) (by walk_at "o")) (@pss_cons _ _ _ _ _ (@ps_for _ _ _ _ _ _ _ _ PassesOwn.never rfl (@pi_enum _ _ _ _ _ _ _ _ rfl B.enumerate (@pa_cons _ _ _ _ _ (@pe_cal _ _ _ _ _ _ _ _ _ _ C_ends_at_inputs hr rfl (@pa_cons _ _ _ _ _ (pv 0) (@pa_cons _ _ _ _ _ (pv 2) pa_nil (by rfl)) (by rfl)) (by decide) (by rfl) (by rfl)) pa_nil (by rfl)) (by rfl)) (@pg_tupM _ _ _ _ _ 2 rfl (@pgs_cons _ _ _ _ _ (@pg_name _ _ (4) _ sc_terms.nd rfl (by walk_at "o") (by walk_at "o")) (@pgs_cons _ _ _ _ _ (@pg_name _ _ (5) _ sc_terms.nd rfl (by walk_at "o") (by walk_at "o")) pgs_nil (by rfl)) (by rfl)) (by rfl) (by rfl)) (@pss_one _ _ _ (@ps_expr _ _ _ _ (@pe_bm _ _ _ _ _ _ _ _ _ _ _ _ PySem.F.plainAttrs_list PySem.F.slot_list_extend PySem.F.type_list_extend mt_extend (pv 3) (@pa_cons _ _ _ _ _ (@pe_comp0 _ _ _ _ _ _ _ _ (["shift","sign","thing"]) (2) ([4]) _ _ _ rfl (@pi_list _ _ _ _ (pv 5)) (fun nd C s H fp=>⟨(@pg_tupM _ _ _ _ _ 2 rfl (@pgs_cons _ _ _ _ _ (@pg_name _ _ (0) _ nd rfl (by walk_at "o") (by walk_at "o")) (@pgs_cons _ _ _ _ _ (@pg_name _ _ (1) _ nd rfl (by walk_at "o") (by walk_at "o")) pgs_nil (by rfl)) (by rfl)) (by rfl) (by rfl)),pn_nil,(@pe_tup _ _ _ _ _ (@pa_cons _ _ _ _ _ (pv 2) (@pa_cons _ _ _ _ _ (pv 0) (@pa_cons _ _ _ _ _ (pv 1) pa_nil (by rfl)) (by rfl)) (by rfl)))⟩) (by decide +kernel) (by first | rfl | decide +kernel) (by first | rfl | decide +kernel) rfl (fun _=>rfl)) pa_nil (by rfl)) (by rfl) (by rfl) (by rfl) (by rfl) (by rfl)) (by rfl))) (by intro _ ; rfl)) (@pss_one _ _ _ (@ps_ret _ _ _ _ (@pe_callB _ _ _ _ _ _ _ _ _ call_sortI rfl B.sorted bo_sorted (@pa_cons _ _ _ _ _ (pv 3) pa_nil (by rfl)) (by decide) (by decide) (by rfl) (by rfl)))))))))),?_⟩
 rw [show start ["web","k","out","told","thing","ends"] [.ref x,.int (k:Int)]=[some (.ref x),some (.int (k:Int)),none,none,none,none] from rfl]
 have h1:=W.tup
 obtain ⟨o,ho1,ho2⟩:=W.hgs.at_ k g hg
 unfold gTp at ho2
 have g1:=W.gll
 (iterate 5 ((try (walk_at "WP")); (try (simp only [h1,g1,qJs,qJt,qJl,qJd,exists_eq_left',exists_eq_left])))); (try (walk_at "WP"))
 refine ⟨_,atI_nat ho1,?_⟩
 try walk_at "WP"
 refine ⟨_,ho2,_,rfl,?_⟩
 try walk_at "WP"
 refine ite2 (fun z=>?_) (fun z=>?_)
 ·intro p hp
  refine q p [] [] _ hp (same_new hp _) upd_same hts_nil ?_ .nil
  unfold tmO
  rw [if_pos z]
 have hT:=hT.resolve_left z
 refine ⟨x,dl,gl,ins,us,ds,os,gs,rfl,W,hT.dko,hT.dl,hT.i12,fun r H1 nr s1 hr1=>?_⟩
 try walk_at "WP"
 refine ⟨_,s1.seqT ho2,_,rfl,?_⟩
 have ew:=qA (l:=wyW ins ds) (i:=g.th) (by rw [wyW_len]; exact hT.th)
 (iterate 5 ((try (walk_at "WP")); (try (simp only [hr1,qJs,qJt,qJl,qJd,exists_eq_left',exists_eq_left])))); (try (walk_at "WP"))
 refine ⟨_,atI_nat (by rw [qI,ew]; rfl),?_⟩
 rw [← getD_of (d:=0) ew]
 have wy:=hT.wy
 try walk_at "WP"
 rw [if_neg (by omega)]
 intro p hp
 have sp:=same_new hp (.lst [])
 have hpp:upd H1 p (.lst []) p=some (.lst []):=upd_same
 have s2:=s1.trans sp
 generalize upd H1 p (.lst [])=H2 at sp hpp s2 ⊢
 refine ⟨x,o,dl,gl,ins,us,ds,os,gs,g,Bd,rfl,W.same s2,s2.seqT ho2,hT,fun el vs H3 ne s3 fr L3=>?_⟩
 try walk_at "WP"
 refine ⟨_,SqL.of L3.lst,?_⟩
 have elp:el ≠ p:=(ne_of_none hpp ne).symm
 have vsp:∀ r,V.ref r ∈ vs -> r ≠ p:=fun r hr e=>by
  have:=fr _ hr r rfl
  rw [e,hpp] at this
  cases this
 have npH:H p=none:=s1.free hp
 have cnt:=hT.cnt
 have vl:vs.length=ins:=by rw [L3.len,qO,endsW_len]; omega
 refine forE (xs:=vs) (fun i σ H4=>∃ (o4 o5:Option V) (ws:List V),σ = [some (.ref x),some (.int (k:Int)),some (.ref o),some (.ref p),o4,o5] /\ Chg p H3 H4 /\ H4 p=some (.lst ws) /\ HTs iTp H4 ws (tmS ins ds g i)) ⟨none,none,[],rfl,fun _ _ _ z=>z,s3 _ _ hpp,hts_nil⟩ ?_ ?_ ?_
 ·rintro i σ H4 _ ⟨_,_,_,_,c4,_⟩
  exact SqL.of (c4 _ _ elp L3.lst)
 ·rintro i v tp σ H4 N hv htp ⟨o4,o5,ws,rfl,c4,h4,ht4⟩ hN
  have hi:i < ins:=by rw [← vl]; exact (qB.mp hv).1
  obtain ⟨rg,ug,g1,g2,g3,g4⟩:=(L3.chg (s3 _ _ hpp) elp vsp c4).get (x:=i) (by rw [qO,endsW_len]; omega)
  rw [hv] at g1
  cases g1
  have ee:((endsW ins ds g (2 * ds.length)).take ins).getD i []=(endsW ins ds g (2 * ds.length)).getD i []:=by
   rw [qD,qD,List.getElem?_take_of_lt hi]
  rw [ee] at g4
  have st:=same_new htp (.tup [V.int (i:Int),.ref rg])
  have h9:upd H4 tp (.tup [V.int (i:Int),.ref rg]) tp=some (.tup [V.int (i:Int),.ref rg]):=upd_same
  have c5:Chg p H3 (upd H4 tp (.tup [V.int (i:Int),.ref rg])):=c4.trans st.chg
  have h5:=st _ _ h4
  have ht5:=ht4.same st
  have g5:=st _ _ g3
  have g6:=g4.same st
  generalize upd H4 tp (.tup [V.int (i:Int),.ref rg])=H5 at h9 c5 h5 ht5 g5 g6 ⊢
  have S:=ES.all hT.dko hT.hB hT.th hT.sg hT.sh (2 * ds.length) (Nat.le_refl _)
  have lg:=S.lens i
  (iterate 5 ((try (walk_at "WP")); (try (simp only [h9,qJs,qJt,qJl,qJd,exists_eq_left',exists_eq_left])))); (try (walk_at "WP"))
  refine ⟨ty_list h5,⟨_,SqL.of g5⟩,?_⟩
  refine comp_TT (f':=iTp) g5 g6 (by omega) (fun e=>[(i:Int),e.1,e.2]) (fun ts y e H7 R hts7 he s7 hy7 hR=>?_) (fun ln wn H7 nn s7 h7 ht7=>?_)
  ·obtain ⟨t0,t1,rfl⟩:∃ t0 t1,ts=[t0,t1]:=by
    match ts,hts7 with
    | [a,b],_=>exact ⟨a,b,rfl⟩
   unfold pE at hy7
   rw [show capV [4] [some (V.ref x),some (V.int (k:Int)),some (V.ref o),some (V.ref p),some (V.int (i:Int)),some (V.ref rg)]=[some (V.int (i:Int))] from rfl]
   rw [List.cons_append,List.cons_append,List.nil_append]
   (iterate 5 ((try (walk_at "WP")); (try (simp only [hy7,qJs,qJt,qJl,qJd,exists_eq_left',exists_eq_left])))); (try (walk_at "WP"))
   exact fun r hr0=>hR r [some (.int e.1),some (.int e.2)] _ rfl hr0 (same_new hr0 _) upd_same
  have h8:=s7 _ _ h5
  try walk_at "WP"
  have l1:=ht5.len
  have l2:=ht7.len
  have l3:(tmS ins ds g (i+1)).length <= (tmS ins ds g (i+1+(ins - (i+1)))).length:=tmS_le _
  rw [show i+1+(ins - (i+1))=ins by omega,tmS_succ,qF,qC] at l3
  rw [qC] at l2
  refine ⟨ws,h8,wn,h7,le_size (by omega),?_⟩
  refine hN _ _ ⟨_,_,ws ++ wn,rfl,(c5.trans s7.chg).trans (Chg.upd _),upd_same,?_⟩
  rw [tmS_succ]
  exact ((ht5.same s7).app ht7).chgL h8 (Chg.upd _)
 ·rintro σ H4 ⟨_,_,ws,rfl,c4,h4,ht4⟩
  try walk_at "WP"
  rw [vl] at ht4
  have S4:Same H H4:=fun b o hb=>c4 b o (ne_of_none hb npH) (s3 b o (s2 b o hb))
  refine ⟨p,ws,_,rfl,h4,ht4,fun u hu=>?_,by rw [ht4.len]; omega,fun l ys qs nl hq pq sq=>?_⟩
  ·unfold tmS at hu
   obtain ⟨c,_,hc⟩:=List.mem_flatMap.mp hu
   obtain ⟨e,_,rfl⟩:=qP.mp hc
   exact List.cons_ne_nil _ _
  ·refine q l ys qs _ (S4.free nl) (S4.trans (same_new nl _)) upd_same (hq.same (same_new nl _)) ?_ sq
   unfold tmO
   rw [if_neg z]
   exact pq
end
section
variable {P:Program}{w:World}{K:PySem.W.Frag}{mg:Str -> Option Value}{base:Heap}
theorem ok_cnts17 (T:Txt K mg):Cal P w K mg base 1 "_law_counts" ["_law_web_here"] spCnts17:=by
 have B:=T.bl
 refine mkCal T.t_l_counts sc_l_counts (fun vs H Q E h=>?_) (fun f cdv A outer s H vs Q E hr h=>?_)
 ·obtain ⟨_,_,_,_,_,_,_,_,rfl,_⟩:=h
  rfl
 obtain ⟨x,dl,gl,ins,us,ds,os,gs,rfl,W,hW,q⟩:=h
 refine ⟨_,((@pss_cons _ _ _ _ _ (@ps_asg _ _ _ _ _ _ (pv 0) (@pg_tupM _ _ _ _ _ 3 rfl (@pgs_cons _ _ _ _ _ (@pg_name _ _ (1) _ sc_l_counts.nd rfl (by walk_at "o") (by walk_at "o")) (@pgs_cons _ _ _ _ _ (@pg_name _ _ (2) _ sc_l_counts.nd rfl (by walk_at "o") (by walk_at "o")) (@pgs_cons _ _ _ _ _ (@pg_name _ _ (3) _ sc_l_counts.nd rfl (by walk_at "o") (by walk_at "o")) pgs_nil (by rfl)) (by rfl)) (by rfl)) (by rfl) (by rfl)) (by rfl) (by rfl) (by rfl)) (@pss_cons _ _ _ _ _ (@ps_setComp0 _ _ _ _ (4) _ _ _ _ _ _ _ (["_law_k"]) (1) ([]) _ _ _ rfl (@pi_range1 _ _ _ _ _ _ rfl B.range (@pa_cons _ _ _ _ _ (@pe_op _ _ _ _ _ _ _ _ op_add (pv 1) (@pe_callB _ _ _ _ _ _ _ _ _ call_lenM rfl B.len bo_len (@pa_cons _ _ _ _ _ (pv 2) pa_nil (by rfl)) (by decide) (by decide) (by rfl) (by rfl))) pa_nil (by rfl)) (by rfl)) (fun nd C s H fp=>⟨(@pg_name _ _ (0) _ nd rfl (by walk_at "o") (by walk_at "o")),pn_nil,pe_int⟩) (by decide +kernel) (by first | rfl | decide +kernel) (by first | rfl | decide +kernel) rfl (fun _=>rfl) sc_l_counts.nd rfl (by walk_at "o") (by walk_at "o") rfl) (@pss_cons _ _ _ _ _ (@ps_for _ _ _ _ _ _ _ _ PassesOwn.never rfl (@pi_range1 _ _ _ _ _ _ rfl B.range (@pa_cons _ _ _ _ _ (pv 1) pa_nil (by rfl)) (by rfl)) (@pg_name _ _ (5) _ sc_l_counts.nd rfl (by walk_at "o") (by walk_at "o")) (@pss_cons _ _ _ _ _ (@ps_setComp0 _ _ _ _ (6) _ _ _ _ _ _ _ (["_law_k","_law_i"]) (1) ([5]) _ _ _ rfl (@pi_range1 _ _ _ _ _ _ rfl B.range (@pa_cons _ _ _ _ _ (pv 1) pa_nil (by rfl)) (by rfl)) (fun nd C s H fp=>⟨(@pg_name _ _ (0) _ nd rfl (by walk_at "o") (by walk_at "o")),pn_nil,(@pe_callTy _ _ _ _ _ _ _ _ _ call_int1 rfl B.int bo_int (@pa_cons _ _ _ _ _ (@pe_cmpR _ _ _ _ _ _ _ _ op_eq (pv 0) (pv 1) (@nomark _ _ (by decide) (by decide))) pa_nil (by rfl)) (by decide) (by decide) (by rfl) (by rfl))⟩) (by decide +kernel) (by first | rfl | decide +kernel) (by first | rfl | decide +kernel) rfl (fun _=>rfl) sc_l_counts.nd rfl (by walk_at "o") (by walk_at "o") rfl) (@pss_cons _ _ _ _ _ (@ps_for _ _ _ _ _ _ _ _ PassesOwn.never rfl (@pi_list _ _ _ _ (pv 2)) (@pg_tupM _ _ _ _ _ 5 rfl (@pgs_cons _ _ _ _ _ (@pg_name _ _ (7) _ sc_l_counts.nd rfl (by walk_at "o") (by walk_at "o")) (@pgs_cons _ _ _ _ _ (@pg_name _ _ (8) _ sc_l_counts.nd rfl (by walk_at "o") (by walk_at "o")) (@pgs_cons _ _ _ _ _ (@pg_name _ _ (9) _ sc_l_counts.nd rfl (by walk_at "o") (by walk_at "o")) (@pgs_cons _ _ _ _ _ (@pg_name _ _ (10) _ sc_l_counts.nd rfl (by walk_at "o") (by walk_at "o")) (@pgs_cons _ _ _ _ _ (@pg_name _ _ (11) _ sc_l_counts.nd rfl (by walk_at "o") (by walk_at "o")) pgs_nil (by rfl)) (by rfl)) (by rfl)) (by rfl)) (by rfl)) (by rfl) (by rfl)) (@pss_one _ _ _ (@ps_expr _ _ _ _ (@pe_bm _ _ _ _ _ _ _ _ _ _ _ _ PySem.F.plainAttrs_list PySem.F.slot_list_append PySem.F.type_list_append mt_append (pv 6) (@pa_cons _ _ _ _ _ (@pe_op _ _ _ _ _ _ _ _ op_add (@pe_ix _ _ _ _ _ _ _ ix_M (pv 6) (pv 8) (fun _ _=>rfl)) (@pe_ix _ _ _ _ _ _ _ ix_M (pv 6) (pv 10) (fun _ _=>rfl))) pa_nil (by rfl)) (by rfl) (by rfl) (by rfl) (by rfl) (by rfl)) (by rfl))) (by intro _ ; rfl)) (@pss_one _ _ _ (@ps_setComp0 _ _ _ _ (4) _ _ _ _ _ _ _ (["_law_one","_law_other"]) (2) ([]) _ _ _ rfl (@pi_zip _ _ _ _ _ _ _ _ _ rfl B.zip (@pa_cons _ _ _ _ _ (pv 4) (@pa_cons _ _ _ _ _ (pv 6) pa_nil (by rfl)) (by rfl)) (by rfl) (by rfl)) (fun nd C s H fp=>⟨(@pg_tupM _ _ _ _ _ 2 rfl (@pgs_cons _ _ _ _ _ (@pg_name _ _ (0) _ nd rfl (by walk_at "o") (by walk_at "o")) (@pgs_cons _ _ _ _ _ (@pg_name _ _ (1) _ nd rfl (by walk_at "o") (by walk_at "o")) pgs_nil (by rfl)) (by rfl)) (by rfl) (by rfl)),pn_nil,(@pe_op _ _ _ _ _ _ _ _ op_add (pv 0) (pv 1))⟩) (by decide +kernel) (by first | rfl | decide +kernel) (by first | rfl | decide +kernel) rfl (fun _=>rfl) sc_l_counts.nd rfl (by walk_at "o") (by walk_at "o") rfl)))) (by intro _ ; rfl)) (@pss_one _ _ _ (@ps_ret _ _ _ _ (pv 4))))))),?_⟩
 rw [show start ["_law_web_here","_law_ins","_law_deeds","_law_outs","_law_found","_law_i","_law_some","_law_word","_law_a","_law_s","_law_b","_law_t"] [.ref x]=[some (.ref x),none,none,none,none,none,none,none,none,none,none,none] from rfl]
 have u1:=W.tup
 have u2:=W.dll
 (iterate 5 ((try (walk_at "WP")); (try (simp only [u1,u2,qJs,qJt,qJl,qJd,exists_eq_left',exists_eq_left])))); (try (walk_at "WP"))
 have d60:=hW.dl
 have i12:=hW.i12
 have D:=hW.dk
 have ul:=W.hds.len
 refine ⟨by omega,by omega,?_⟩
 rw [show ((ins:Int)+(us.length:Int)).toNat=ins+ds.length by omega]
 have ezg:∀ (ys:List V),(ys.filterMap fun _=>some (V.int 0))=(qQ ys.length (0:Int)).map V.int:=fun ys=>by
  rw [List.map_replicate]
  induction ys with
  | nil=>rfl
  | cons a r ih=>rw [List.filterMap_cons]; simp only [ih]; rfl
 refine comp_R (f:=fun _=>some (V.int 0)) (le_size (by omega)) (fun y H5 R5 hy s5 hR5=>?_) (fun r hr0=>?_)
 ·try walk_at "WP"
  exact hR5
 rw [ezg,rngV_len,← vG_zero ds D,← onesT_zero]
 have sr:=same_new hr0 (.lst ((vG gWy 0 (onesT ins 0) ds).map V.int))
 have hrr:upd H r (.lst ((vG gWy 0 (onesT ins 0) ds).map V.int)) r=some (.lst ((vG gWy 0 (onesT ins 0) ds).map V.int)):=upd_same
 generalize upd H r (.lst ((vG gWy 0 (onesT ins 0) ds).map V.int))=H1 at sr hrr ⊢
 refine ⟨by omega,by omega,?_⟩
 rw [Int.toNat_natCast]
 refine forR (fun i σ H2=>∃ (fo:Addr) (o5 o6 o7 o8 o9 o10 o11:Option V),σ = [some (V.ref x),some (V.int (ins:Int)),some (V.ref dl),some (V.ref gl),some (V.ref fo),o5,o6,o7,o8,o9,o10,o11] /\ Same H H2 /\ H fo=none /\ H2 fo=some (.lst ((vG gWy 0 (onesT ins i) ds).map V.int))) ⟨r,_,_,_,_,_,_,_,rfl,sr,hr0,hrr⟩ ?_ ?_
 ·rintro i σ H2 N hi ⟨fo,o5,o6,o7,o8,o9,o10,o11,rfl,s2,nf,hf⟩ hN
  try walk_at "WP"
  refine ⟨by omega,by omega,?_⟩
  rw [Int.toNat_natCast]
  refine comp_R (f:=unV i) (le_size (by omega)) (fun y H5 R5 hy s5 hR5=>?_) (fun so hso=>?_)
  ·obtain ⟨k,hk,rfl⟩:=qP.mp hy
   rw [show ∀ a b c d e f g h i j k l:Option V,capV [5] [a,b,c,d,e,f,g,h,i,j,k,l]=[f] from fun _ _ _ _ _ _ _ _ _ _ _ _=>rfl]
   try walk_at "WP"
   rw [show (0:Int)+(i:Int)=i by omega]
   exact hR5
  rw [unV_map]
  have s3:=same_new hso (.lst ((unitRow ins i).map V.int))
  have h3:upd H2 so (.lst ((unitRow ins i).map V.int)) so=some (.lst ((unitRow ins i).map V.int)):=upd_same
  have f3:=s3 _ _ hf
  have S3:=s2.trans s3
  have nso:H so=none:=s2.free hso
  generalize upd H2 so (.lst ((unitRow ins i).map V.int))=H3 at h3 f3 S3 ⊢
  try walk_at "WP"
  refine ⟨⟨_,SqL.of (S3 _ _ u2)⟩,?_⟩
  have dlso:dl ≠ so:=ne_of_none u2 nso
  have foso:fo ≠ so:=ne_of_none hf hso
  refine forL (xs:=us) (fun j σ H4=>∃ (o7 o8 o9 o10 o11:Option V),σ = [some (V.ref x),some (V.int (ins:Int)),some (V.ref dl),some (V.ref gl),some (V.ref fo),some (V.int (0+(i:Int))),some (V.ref so),o7,o8,o9,o10,o11] /\ Chg so H3 H4 /\ H4 so=some (.lst ((vG gWy 0 (unitRow ins i) (ds.take j)).map V.int))) ⟨_,_,_,_,_,rfl,fun _ _ _ z=>z,h3⟩ ?_ ?_ ?_
  ·rintro j σ H4 _ ⟨_,_,_,_,_,_,c4,_⟩
   exact SqL.of (c4 _ _ dlso (S3 _ _ u2))
  ·rintro j y σ H4 N2 hy ⟨o7',o8',o9',o10',o11',rfl,c4,h4⟩ hN2
   have hj:j < ds.length:=by rw [← ul]; exact (qB.mp hy).1
   have hdj:ds[j]? = some ds[j]:=qA hj
   obtain ⟨p,hp1,hp2⟩:=W.hds.at_ j _ hdj
   generalize ds[j]=d at hp2 hdj
   rw [hy] at hp1
   cases hp1
   have hp4:=c4 _ _ (ne_of_none hp2 nso) (S3 _ _ hp2)
   unfold wTup at hp4
   obtain ⟨da,db⟩:=D j d hdj
   have vl:(vG gWy 0 (unitRow ins i) (ds.take j)).length=ins+j:=by rw [vG_len,unitRow_len,qO]; omega
   have ea:=qA (l:=vG gWy 0 (unitRow ins i) (ds.take j)) (i:=d.a) (by omega)
   have eb:=qA (l:=vG gWy 0 (unitRow ins i) (ds.take j)) (i:=d.b) (by omega)
   (iterate 5 ((try (walk_at "WP")); (try (simp only [hp4,h4,qJs,qJt,qJl,qJd,exists_eq_left',exists_eq_left])))); (try (walk_at "WP"))
   refine ⟨ty_list h4,_,atI_nat (by rw [qI,ea]; rfl),_,atI_nat (by rw [qI,eb]; rfl),?_⟩
   rw [← getD_of (d:=0) ea,← getD_of (d:=0) eb]
   (iterate 5 ((try (walk_at "WP")); (try (simp only [h4,qJs,qJt,qJl,qJd,exists_eq_left',exists_eq_left])))); (try (walk_at "WP"))
   refine ⟨lt_big (by rw [qC]; omega),?_⟩
   refine hN2 _ _ ⟨_,_,_,_,_,rfl,c4.trans (Chg.upd _),?_⟩
   have tk:ds.take (j+1)=ds.take j ++ [d]:=by rw [List.take_add_one,hdj]; rfl
   rw [upd_same,tk,vG_snoc,wy_D,List.map_append]
   rfl
  ·rintro σ H4 ⟨o7',o8',o9',o10',o11',rfl,c4,h4⟩
   rw [ul,List.take_length] at h4
   have f4:=c4 _ _ foso f3
   have l1:(vG gWy 0 (onesT ins i) ds).length=ins+ds.length:=by rw [vG_len,onesT_len]
   have l2:(vG gWy 0 (unitRow ins i) ds).length=ins+ds.length:=by rw [vG_len,unitRow_len]
   try walk_at "WP"
   refine ⟨fo,so,⟨rfl,rfl⟩,_,SqL.of f4,_,SqL.of h4,?_⟩
   refine comp_zip (SqL.of f4) (SqL.of h4) (by simp only [qC]; omega) (by simp only [qC]; omega) ((List.zipWith (· + ·) (vG gWy 0 (onesT ins i) ds) (vG gWy 0 (unitRow ins i) ds)).map V.int) (by simp only [qC,List.length_zipWith]; omega) (fun k u v z H' R hu hv hz s' hR=>?_) (fun acc H5 n5 s5 h5=>?_)
   ·obtain ⟨a,ha,rfl⟩:=map_at hu
    obtain ⟨b,hb,rfl⟩:=map_at hv
    obtain ⟨c,hc,rfl⟩:=map_at hz
    rw [List.getElem?_zipWith,ha,hb] at hc
    cases hc
    rw [show ∀ τ:St,capV [] τ = [] from fun _=>rfl]
    try walk_at "WP"
    exact hR
   try walk_at "WP"
   have S4:Same H H4:=fun b o hb=>c4 b o (ne_of_none hb nso) (S3 b o hb)
   refine hN _ _ ⟨acc,_,_,_,_,_,_,_,rfl,S4.trans s5,S4.free n5,?_⟩
   rw [h5,← onesT_succ,vG_add ds _ _ (by rw [onesT_len,unitRow_len]) (by rw [onesT_len]; exact D)]
 ·rintro σ H2 ⟨fo,o5,o6,o7,o8,o9,o10,o11,rfl,s2,nf,hf⟩
  try walk_at "WP"
  rw [onesT_all] at hf
  exact q fo H2 nf s2 hf
theorem ok_gone17 (T:Txt K mg):Cal P w K mg base 1 "_law_gone" ["_law_web_here","_law_out"] spGone17:=by
 have B:=T.bl
 refine mkCal T.t_l_gone sc_l_gone (fun vs H Q E h=>?_) (fun f cdv A outer s H vs Q E hr h=>?_)
 ·obtain ⟨_,_,_,_,_,_,_,_,_,_,rfl,_⟩:=h
  rfl
 obtain ⟨x,o,dl,gl_,ins,us,ds,os,gs,g,rfl,W,ho,hT,q⟩:=h
 refine ⟨_,((@pss_cons _ _ _ _ _ (@ps_asg _ _ _ _ _ _ (pv 0) (@pg_tupM _ _ _ _ _ 3 rfl (@pgs_cons _ _ _ _ _ (@pg_name _ _ (2) _ sc_l_gone.nd rfl (by walk_at "o") (by walk_at "o")) (@pgs_cons _ _ _ _ _ (@pg_name _ _ (3) _ sc_l_gone.nd rfl (by walk_at "o") (by walk_at "o")) (@pgs_cons _ _ _ _ _ (@pg_name _ _ (4) _ sc_l_gone.nd rfl (by walk_at "o") (by walk_at "o")) pgs_nil (by rfl)) (by rfl)) (by rfl)) (by rfl) (by rfl)) (by rfl) (by rfl) (by rfl)) (@pss_cons _ _ _ _ _ (@ps_set _ _ (5) _ _ _ _ sc_l_gone.nd rfl (by walk_at "o") (@pe_lst _ _ _ _ (@pa_cons _ _ _ _ _ (pv 1) pa_nil (by rfl))) (by rfl) (by walk_at "o")) (@pss_cons _ _ _ _ _ (@ps_set _ _ (6) _ _ _ _ sc_l_gone.nd rfl (by walk_at "o") (@pe_lst _ _ _ _ pa_nil) (by rfl) (by walk_at "o")) (@pss_cons _ _ _ _ _ (@ps_whl _ _ _ _ _ _ PassesOwn.never (@pt_cmpR _ _ _ _ _ _ _ _ (@op_neE _ _ hr) (pv 5) (@pe_lst _ _ _ _ pa_nil) (@nomark _ _ (by decide) (by decide))) (@pss_cons _ _ _ _ _ (@ps_asg _ _ _ _ _ _ (@pe_bm0 _ _ _ _ _ _ _ _ _ PySem.F.plainAttrs_list PySem.F.slot_list_pop PySem.F.type_list_pop mt_pop (pv 5) (by rfl) (by rfl)) (@pg_tupM _ _ _ _ _ 3 rfl (@pgs_cons _ _ _ _ _ (@pg_name _ _ (7) _ sc_l_gone.nd rfl (by walk_at "o") (by walk_at "o")) (@pgs_cons _ _ _ _ _ (@pg_name _ _ (8) _ sc_l_gone.nd rfl (by walk_at "o") (by walk_at "o")) (@pgs_cons _ _ _ _ _ (@pg_name _ _ (9) _ sc_l_gone.nd rfl (by walk_at "o") (by walk_at "o")) pgs_nil (by rfl)) (by rfl)) (by rfl)) (by rfl) (by rfl)) (by rfl) (by rfl) (by rfl)) (@pss_one _ _ _ (@ps_if _ _ _ _ _ _ _ _ (@pt_cmpR _ _ _ _ _ _ _ _ op_lt (pv 7) (pv 2) (@nomark _ _ (by decide) (by decide))) (@pss_one _ _ _ (@ps_expr _ _ _ _ (@pe_bm _ _ _ _ _ _ _ _ _ _ _ _ PySem.F.plainAttrs_list PySem.F.slot_list_append PySem.F.type_list_append mt_append (pv 6) (@pa_cons _ _ _ _ _ (@pe_tup _ _ _ _ _ (@pa_cons _ _ _ _ _ (pv 7) (@pa_cons _ _ _ _ _ (pv 8) (@pa_cons _ _ _ _ _ (pv 9) pa_nil (by rfl)) (by rfl)) (by rfl))) pa_nil (by rfl)) (by rfl) (by rfl) (by rfl) (by rfl) (by rfl)) (by rfl))) (@pss_cons _ _ _ _ _ (@ps_asg _ _ _ _ _ _ (@pe_ix _ _ _ _ _ _ _ ix_M (pv 3) (@pe_op _ _ _ _ _ _ _ _ op_sub (pv 7) (pv 2)) (fun _ _=>rfl)) (@pg_tupM _ _ _ _ _ 5 rfl (@pgs_cons _ _ _ _ _ (@pg_name _ _ (10) _ sc_l_gone.nd rfl (by walk_at "o") (by walk_at "o")) (@pgs_cons _ _ _ _ _ (@pg_name _ _ (11) _ sc_l_gone.nd rfl (by walk_at "o") (by walk_at "o")) (@pgs_cons _ _ _ _ _ (@pg_name _ _ (12) _ sc_l_gone.nd rfl (by walk_at "o") (by walk_at "o")) (@pgs_cons _ _ _ _ _ (@pg_name _ _ (13) _ sc_l_gone.nd rfl (by walk_at "o") (by walk_at "o")) (@pgs_cons _ _ _ _ _ (@pg_name _ _ (14) _ sc_l_gone.nd rfl (by walk_at "o") (by walk_at "o")) pgs_nil (by rfl)) (by rfl)) (by rfl)) (by rfl)) (by rfl)) (by rfl) (by rfl)) (by rfl) (by rfl) (by rfl)) (@pss_cons _ _ _ _ _ (@ps_expr _ _ _ _ (@pe_bm _ _ _ _ _ _ _ _ _ _ _ _ PySem.F.plainAttrs_list PySem.F.slot_list_append PySem.F.type_list_append mt_append (pv 5) (@pa_cons _ _ _ _ _ (@pe_tup _ _ _ _ _ (@pa_cons _ _ _ _ _ (pv 11) (@pa_cons _ _ _ _ _ (@pe_op _ _ _ _ _ _ _ _ op_add (pv 8) (pv 12)) (@pa_cons _ _ _ _ _ (pv 9) pa_nil (by rfl)) (by rfl)) (by rfl))) pa_nil (by rfl)) (by rfl) (by rfl) (by rfl) (by rfl) (by rfl)) (by rfl)) (@pss_one _ _ _ (@ps_expr _ _ _ _ (@pe_bm _ _ _ _ _ _ _ _ _ _ _ _ PySem.F.plainAttrs_list PySem.F.slot_list_append PySem.F.type_list_append mt_append (pv 5) (@pa_cons _ _ _ _ _ (@pe_tup _ _ _ _ _ (@pa_cons _ _ _ _ _ (pv 13) (@pa_cons _ _ _ _ _ (@pe_op _ _ _ _ _ _ _ _ op_add (pv 8) (pv 14)) (@pa_cons _ _ _ _ _ (@pe_ix _ _ _ _ _ _ _ ix_M (@pe_lst _ _ _ _ (@pa_cons _ _ _ _ _ (pv 9) (@pa_cons _ _ _ _ _ (@pe_un _ _ _ _ _ _ un_neg (pv 9)) pa_nil (by rfl)) (by rfl))) (@pe_callTy _ _ _ _ _ _ _ _ _ call_int1 rfl B.int bo_int (@pa_cons _ _ _ _ _ (@pe_cmpR _ _ _ _ _ _ _ _ op_eq (pv 10) pe_str (@nomark _ _ (by decide) (by decide))) pa_nil (by rfl)) (by decide) (by decide) (by rfl) (by rfl)) (fun _ _=>rfl)) pa_nil (by rfl)) (by rfl)) (by rfl))) pa_nil (by rfl)) (by rfl) (by rfl) (by rfl) (by rfl) (by rfl)) (by rfl))))))))) (@pss_one _ _ _ (@ps_ret _ _ _ _ (@pe_callB _ _ _ _ _ _ _ _ _ call_sortI rfl B.sorted bo_sorted (@pa_cons _ _ _ _ _ (pv 6) pa_nil (by rfl)) (by decide) (by decide) (by rfl) (by rfl))))))))),?_⟩
 rw [show start ["_law_web_here","_law_out","_law_ins","_law_deeds","_law_outs","_law_waiting","_law_found","_law_thing","_law_shift_here","_law_sign","_law_word","_law_a","_law_s","_law_b","_law_t"] [.ref x,.ref o]=[some (.ref x),some (.ref o),none,none,none,none,none,none,none,none,none,none,none,none,none] from rfl]
 have u1:=W.tup
 (iterate 5 ((try (walk_at "WP")); (try (simp only [u1,qJs,qJt,qJl,qJd,exists_eq_left',exists_eq_left])))); (try (walk_at "WP"))
 intro wa hwa fo hfo
 have D:=hT.dko
 have d400:=hT.dl
 have i12:=hT.i12
 have wy:=hT.wy
 have gl:=gw_len D g.th g.sh g.sg hT.th
 have s1:=same_new hwa (.lst [V.ref o])
 have s2:=same_new hfo (.lst [])
 have w2:(upd (upd H wa (.lst [V.ref o])) fo (.lst [])) wa=some (.lst [V.ref o]):=s2 _ _ upd_same
 have f2:(upd (upd H wa (.lst [V.ref o])) fo (.lst [])) fo=some (.lst []):=upd_same
 have S2:=s1.trans s2
 have nfo:H fo=none:=s1.free hfo
 have wafo:wa ≠ fo:=ne_of_none upd_same hfo
 generalize upd (upd H wa (.lst [V.ref o])) fo (.lst [])=H2 at w2 f2 S2 ⊢
 have oG:HTs gTp H2 [V.ref o] [g]:=hts_nil.snoc (S2 _ _ ho)
 refine whl (fun m σ H3=>∃ (o7 o8 o9 o10 o11 o12 o13 o14:Option V) (ws fs:List V) (Gs:List Go) (F:List (List Int)),σ = [some (V.ref x),some (V.ref o),some (V.int (ins:Int)),some (V.ref dl),some (V.ref gl_),some (V.ref wa),some (V.ref fo),o7,o8,o9,o10,o11,o12,o13,o14] /\ Same H H3 /\ H3 wa=some (.lst ws) /\ HTs gTp H3 ws Gs /\ H3 fo=some (.lst fs) /\ HTs iTp H3 fs F /\ (F ++ Gs.flatMap (gwG ins ds)).Perm (gw ins ds g.th g.sh g.sg) /\ (∀ y ∈ Gs,y.th < ins+ds.length) /\ (∀ u ∈ F,u ≠ []) /\ m=wsz ins ds Gs) _ ⟨_,_,_,_,_,_,_,_,_,_,[g],[],rfl,S2,w2,oG,f2,hts_nil,by rw [List.nil_append,List.flatMap_singleton]; exact List.Perm.refl _,(fun y hy=>by rw [List.mem_singleton.mp hy]; exact hT.th),(fun u hu=>by cases hu),rfl⟩ ?_
 rintro m σ H3 N ⟨o7,o8,o9,o10,o11,o12,o13,o14,ws,fs,Gs,F,rfl,s3,w3,hG,f3,hF,pm,hth,hne,rfl⟩ hN
 have pl:=pm.length_eq
 rw [qF] at pl
 have gll:=gwG_len D Gs hth
 try walk_at "WP"
 intro e he
 rw [w_neE]
 have se:=same_new he (.lst [])
 refine ⟨_,SqL.of (se _ _ w3),SqL.of upd_same,?_⟩
 have s4:=s3.trans se
 have w4:=se _ _ w3
 have hG4:=hG.same se
 have f4:=se _ _ f3
 have hF4:=hF.same se
 generalize upd H3 e (.lst [])=H4 at s4 w4 hG4 f4 hF4 ⊢
 rcases List.eq_nil_or_concat Gs with z | ⟨Gs',g1,z⟩
 ·subst z
  have wl:ws=[]:=List.eq_nil_of_length_eq_zero hG.len
  subst wl
  try walk_at "WP"
  rw [if_neg (fun h=>h rfl)]
  rw [List.flatMap_nil,List.append_nil] at pm
  refine ⟨fo,fs,F,rfl,f4,hF4,hne,by rw [hF4.len,pm.length_eq]; omega,fun l ys qs nl hq pq sq=>?_⟩
  exact q l ys qs _ (s4.free nl) (s4.trans (same_new nl _)) upd_same (hq.same (same_new nl _)) (pq.trans pm) sq
 ·rw [List.concat_eq_append] at z
  subst z
  obtain ⟨ws',y,rfl,hG5,hy⟩:=hG4.unsnoc
  try walk_at "WP"
  rw [if_pos (by simp)]
  refine ⟨ty_list w4,_,w4,.ref y,by simp,?_⟩
  rw [List.dropLast_concat]
  have c5:Chg wa H4 (upd H4 wa (.lst ws')):=Chg.upd _
  have w5:(upd H4 wa (.lst ws')) wa=some (.lst ws'):=upd_same
  have s5:Same H (upd H4 wa (.lst ws')):=same_upd hwa s4
  have hy5:=c5 _ _ (ne_of hy w4 (by intro z; cases z)) hy
  have hG5:=hG5.chgL w4 c5
  have f5:=c5 _ _ wafo.symm f4
  have hF5:=hF4.chgL w4 c5
  generalize upd H4 wa (.lst ws')=H5 at w5 s5 hy5 hG5 f5 hF5 ⊢
  unfold gTp at hy5
  have g1t:=hth g1 (qK _ (List.mem_singleton.mpr rfl))
  have hth':∀ u ∈ Gs',u.th < ins+ds.length:=fun u hu=>hth u (List.mem_append_left _ hu)
  have wlen:ws'.length <= 500:=by
   rw [hG5.len]
   rw [qF,List.length_singleton] at gll
   omega
  have flen:fs.length <= 500:=by rw [hF5.len]; omega
  rw [List.flatMap_append,List.flatMap_singleton] at pm pl
  (iterate 5 ((try (walk_at "WP")); (try (simp only [hy5,qJs,qJt,qJl,qJd,exists_eq_left',exists_eq_left])))); (try (walk_at "WP"))
  refine ite2 (fun z=>?_) (fun z=>?_)
  ·have z':g1.th < ins:=by omega
   refine ⟨ty_list f5,fun t ht=>?_⟩
   have st:=same_new ht (.tup [V.int (g1.th:Int),V.int g1.sh,V.int g1.sg])
   have e6:upd H5 t (.tup [V.int (g1.th:Int),V.int g1.sh,V.int g1.sg]) t=some (.tup (iTp [(g1.th:Int),g1.sh,g1.sg])):=upd_same
   have f6:=st _ _ f5
   have w6:=st _ _ w5
   refine ⟨fs,f6,lt_big (by omega),?_⟩
   have tfo:t ≠ fo:=(ne_of_none f5 ht).symm
   refine hN (wsz ins ds Gs') _ _ ?_ ⟨_,_,_,_,_,_,_,_,ws',fs ++ [V.ref t],Gs',F ++ [[(g1.th:Int),g1.sh,g1.sg]],rfl,same_upd nfo (s5.trans st),?_,(hG5.same st).chgL f6 (Chg.upd _),upd_same,((hF5.same st).chgL f6 (Chg.upd _)).snoc ?_,?_,hth',?_,rfl⟩
   ·rw [wsz_app]
    show _ < _+(2 * (gw ins ds g1.th g1.sh g1.sg).length - 1+0)
    rw [gw_in z']
    show _ < _+(2 * 1 - 1+0)
    omega
   ·rw [upd_ne wafo]; exact w6
   ·rw [upd_ne tfo]; exact e6
   ·refine List.Perm.trans ?_ pm
    have eg:gwG ins ds g1=[[(g1.th:Int),g1.sh,g1.sg]]:=gw_in z'
    rw [eg,List.append_assoc]
    exact List.Perm.append_left _ List.perm_append_comm
   ·intro u hu
    rcases List.mem_append.mp hu with v | v
    ·exact hne u v
    ·rw [List.mem_singleton.mp v]; exact List.cons_ne_nil _ _
  ·obtain ⟨k,ek⟩:∃ k,g1.th=ins+k:=⟨g1.th - ins,by omega⟩
   have hk:k < ds.length:=by omega
   have hdk:ds[k]? = some ds[k]:=qA hk
   obtain ⟨yd,hd1,hd2⟩:=W.hds.at_ k _ hdk
   generalize ds[k]=d at hd2 hdk
   obtain ⟨da,db⟩:=D k d hdk
   have dl5:=s5 _ _ W.dll
   have yd5:=s5 _ _ hd2
   unfold wTup at yd5
   rw [show ((g1.th:Nat):Int) - (ins:Int)=(k:Int) by omega]
   (iterate 5 ((try (walk_at "WP")); (try (simp only [dl5,qJs,qJt,qJl,qJd,exists_eq_left',exists_eq_left])))); (try (walk_at "WP"))
   refine ⟨_,atI_nat hd1,?_⟩
   (iterate 5 ((try (walk_at "WP")); (try (simp only [yd5,qJs,qJt,qJl,qJd,exists_eq_left',exists_eq_left])))); (try (walk_at "WP"))
   refine ⟨ty_list w5,fun p hp=>?_⟩
   have sp:=same_new hp (.tup [V.int (d.a:Int),V.int (g1.sh+d.s),V.int g1.sg])
   have ep:upd H5 p (.tup [V.int (d.a:Int),V.int (g1.sh+d.s),V.int g1.sg]) p=some (.tup (gTp ⟨d.a,g1.sh+d.s,g1.sg⟩)):=upd_same
   have w6:=sp _ _ w5
   have pwa:p ≠ wa:=(ne_of_none w5 hp).symm
   refine ⟨ws',w6,lt_big (by omega),ty_list upd_same,fun p1 hp1=>?_⟩
   have c7:Chg wa (upd H5 p (.tup [V.int (d.a:Int),V.int (g1.sh+d.s),V.int g1.sg])) (upd (upd H5 p (.tup [V.int (d.a:Int),V.int (g1.sh+d.s),V.int g1.sg])) wa (.lst (ws' ++ [V.ref p]))):=Chg.upd _
   have w7:(upd (upd H5 p (.tup [V.int (d.a:Int),V.int (g1.sh+d.s),V.int g1.sg])) wa (.lst (ws' ++ [V.ref p]))) wa=some (.lst (ws' ++ [V.ref p])):=upd_same
   have hG7:=((hG5.same sp).chgL w6 c7).snoc (c7 _ _ pwa ep)
   have hF7:=(hF5.same sp).chgL w6 c7
   have f7:=c7 _ _ wafo.symm (sp _ _ f5)
   have s7:Same H (upd (upd H5 p (.tup [V.int (d.a:Int),V.int (g1.sh+d.s),V.int g1.sg])) wa (.lst (ws' ++ [V.ref p]))):=same_upd hwa (s5.trans sp)
   generalize upd (upd H5 p (.tup [V.int (d.a:Int),V.int (g1.sh+d.s),V.int g1.sg])) wa (.lst (ws' ++ [V.ref p]))=H7 at w7 hG7 hF7 f7 s7 hp1 ⊢
   have ev:atI [V.int g1.sg,V.int (-g1.sg)] (if d.w=Str.ofString "less" then 1 else 0)=some (.int (g1.sg * sgW d.w)):=by
    unfold sgW
    by_cases y:d.w=Str.ofString "less"
    ·rw [if_pos y,if_pos y,show g1.sg * -1 = -g1.sg by omega]
     rfl
    ·rw [if_neg y,if_neg y,Int.mul_one]
     rfl
   refine ⟨_,ev,fun p2 hp2=>?_⟩
   have s8:=same_new hp1 (.lst [V.int g1.sg,V.int (-g1.sg)])
   have s9:=same_new hp2 (.tup [V.int (d.b:Int),V.int (g1.sh+d.t),V.int (g1.sg * sgW d.w)])
   have e9:(upd (upd H7 p1 (.lst [V.int g1.sg,V.int (-g1.sg)])) p2 (.tup [V.int (d.b:Int),V.int (g1.sh+d.t),V.int (g1.sg * sgW d.w)])) p2=some (.tup (gTp ⟨d.b,g1.sh+d.t,g1.sg * sgW d.w⟩)):=upd_same
   have S9:=s8.trans s9
   have w9:=S9 _ _ w7
   have p2wa:p2 ≠ wa:=(ne_of_none (s8 _ _ w7) hp2).symm
   generalize upd (upd H7 p1 (.lst [V.int g1.sg,V.int (-g1.sg)])) p2 (.tup [V.int (d.b:Int),V.int (g1.sh+d.t),V.int (g1.sg * sgW d.w)])=H9 at e9 S9 w9 ⊢
   refine ⟨_,w9,lt_big (by rw [qF,List.length_singleton]; omega),?_⟩
   have c10:Chg wa H9 (upd H9 wa (.lst (ws' ++ [V.ref p] ++ [V.ref p2]))):=Chg.upd _
   have eg:gwG ins ds g1=gwG ins ds ⟨d.a,g1.sh+d.s,g1.sg⟩ ++ gwG ins ds ⟨d.b,g1.sh+d.t,g1.sg * sgW d.w⟩:=by
    show gw ins ds g1.th g1.sh g1.sg=_
    rw [ek]
    exact gw_at D hdk
   refine hN (wsz ins ds (Gs' ++ [⟨d.a,g1.sh+d.s,g1.sg⟩] ++ [⟨d.b,g1.sh+d.t,g1.sg * sgW d.w⟩])) _ _ ?_ ⟨_,_,_,_,_,_,_,_,_,fs,Gs' ++ [⟨d.a,g1.sh+d.s,g1.sg⟩] ++ [⟨d.b,g1.sh+d.t,g1.sg * sgW d.w⟩],F,rfl,same_upd hwa (s7.trans S9),upd_same,((hG7.same S9).chgL w9 c10).snoc (c10 _ _ p2wa e9),c10 _ _ wafo.symm (S9 _ _ f7),(hF7.same S9).chgL w9 c10,?_,?_,hne,rfl⟩
   ·have l1:=gw_len D d.a (g1.sh+d.s) g1.sg (by omega)
    have l2:=gw_len D d.b (g1.sh+d.t) (g1.sg * sgW d.w) (by omega)
    have p1:=wy_pos D d.a (by omega)
    have p2:=wy_pos D d.b (by omega)
    have le:=congrArg List.length eg
    rw [qF] at le
    have le':(gw ins ds g1.th g1.sh g1.sg).length=(gw ins ds d.a (g1.sh+d.s) g1.sg).length+(gw ins ds d.b (g1.sh+d.t) (g1.sg * sgW d.w)).length:=le
    rw [wsz_app,wsz_app,wsz_app]
    show wsz ins ds Gs'+(2 * (gw ins ds d.a (g1.sh+d.s) g1.sg).length - 1+0)+(2 * (gw ins ds d.b (g1.sh+d.t) (g1.sg * sgW d.w)).length - 1+0) < wsz ins ds Gs'+(2 * (gw ins ds g1.th g1.sh g1.sg).length - 1+0)
    omega
   ·refine List.Perm.trans ?_ pm
    rw [eg,List.flatMap_append,List.flatMap_append,List.flatMap_singleton,List.flatMap_singleton,List.append_assoc (Gs'.flatMap _)]
   ·intro u hu
    rcases List.mem_append.mp hu with v | v
    ·rcases List.mem_append.mp v with v | v
     ·exact hth' u v
     ·rw [List.mem_singleton.mp v]; show d.a < _; omega
    ·rw [List.mem_singleton.mp v]; show d.b < _; omega
end
section
variable {P:Program}{w:World}{K:PySem.W.Frag}{mg:Str -> Option Value}{base:Heap}
theorem ok_are17 (T:Txt K mg):Cal P w K mg base 1 "_law_are_terms" ["_law_found"] spAre17:=by
 have B:=T.bl
 refine mkCal T.t_l_are_terms sc_l_are_terms (fun vs H Q E h=>?_) (fun f cdv A outer s H vs Q E hr h=>?_)
 ·obtain ⟨l,ws,as,rfl,_⟩:=h
  rfl
 obtain ⟨l,ws,as,rfl,hl,ht,h3,h5,q⟩:=h
 refine ⟨_,((@pss_cons _ _ _ _ _ (@ps_if _ _ _ _ _ _ _ _ (@pt_not _ _ _ _ (@pt_val _ _ _ (@pe_callB _ _ _ _ _ _ _ _ _ call_isI rfl B.isinstance bo_isinstance (@pa_cons _ _ _ _ _ (pv 0) (@pa_cons _ _ _ _ _ (@pe_bltn _ _ (.ty "list") _ _ rfl B.list bo_list rfl (by decide) (by decide)) pa_nil (by rfl)) (by rfl)) (by decide) (by decide) (by rfl) (by rfl)) (by intro _ ; rfl))) (@pss_one _ _ _ (@ps_ret _ _ _ _ pe_bl)) pss_nil) (@pss_cons _ _ _ _ _ (@ps_for _ _ _ _ _ _ _ _ PassesOwn.never rfl (@pi_list _ _ _ _ (pv 0)) (@pg_name _ _ (1) _ sc_l_are_terms.nd rfl (by walk_at "o") (by walk_at "o")) (@pss_cons _ _ _ _ _ (@ps_if _ _ _ _ _ _ _ _ (@PW.pt _ _ _ (@pw_or _ _ _ _ _ _ _ (@pt_not _ _ _ _ (@pt_val _ _ _ (@pe_callB _ _ _ _ _ _ _ _ _ call_isI rfl B.isinstance bo_isinstance (@pa_cons _ _ _ _ _ (pv 1) (@pa_cons _ _ _ _ _ (@pe_bltn _ _ (.ty "tuple") _ _ rfl B.tuple bo_tuple rfl (by decide) (by decide)) pa_nil (by rfl)) (by rfl)) (by decide) (by decide) (by rfl) (by rfl)) (by intro _ ; rfl))) (@pw_or1 _ _ _ _ (@pt_cmpR _ _ _ _ _ _ _ _ op_ne (@pe_callB _ _ _ _ _ _ _ _ _ call_lenU rfl B.len bo_len (@pa_cons _ _ _ _ _ (pv 1) pa_nil (by rfl)) (by decide) (by decide) (by rfl) (by rfl)) pe_int (@nomark _ _ (by decide) (by decide)))))) (@pss_one _ _ _ (@ps_ret _ _ _ _ pe_bl)) pss_nil) (@pss_one _ _ _ (@ps_if _ _ _ _ _ _ _ _ (@pt_not _ _ _ _ (@pt_val _ _ _ (@pe_callB _ _ _ _ _ _ _ _ _ (@call_all _ rfl) rfl B.all bo_all (@pa_cons _ _ _ _ _ (@pe_comp0 _ _ _ _ _ _ _ _ (["_law_part"]) (1) ([]) _ _ _ rfl (@pi_tup _ _ _ _ (pv 1)) (fun nd C s H fp=>⟨(@pg_name _ _ (0) _ nd rfl (by walk_at "o") (by walk_at "o")),pn_nil,(@pe_and _ _ _ _ _ _ _ (@pe_callB _ _ _ _ _ _ _ _ _ (@call_isIK _ K (by rfl)) rfl B.isinstance bo_isinstance (@pa_cons _ _ _ _ _ (pv 0) (@pa_cons _ _ _ _ _ (@pe_bltn _ _ (.ty "int") _ _ rfl B.int bo_int rfl (by decide) (by decide)) pa_nil (by rfl)) (by rfl)) (by decide) (by decide) (by rfl) (by rfl)) (@pe_one _ _ _ _ _ (@pe_not _ _ _ _ (@pe_callB _ _ _ _ _ _ _ _ _ (@call_isIK _ K (by rfl)) rfl B.isinstance bo_isinstance (@pa_cons _ _ _ _ _ (pv 0) (@pa_cons _ _ _ _ _ (@pe_bltn _ _ (.ty "bool") _ _ rfl B.bool bo_bool rfl (by decide) (by decide)) pa_nil (by rfl)) (by rfl)) (by decide) (by decide) (by rfl) (by rfl)))))⟩) (by decide +kernel) (by first | rfl | decide +kernel) (by first | rfl | decide +kernel) rfl (fun _=>rfl)) pa_nil (by rfl)) (by decide) (by decide) (by rfl) (by rfl)) (by intro _ ; rfl))) (@pss_one _ _ _ (@ps_ret _ _ _ _ pe_bl)) pss_nil))) (by intro _ ; rfl)) (@pss_one _ _ _ (@ps_ret _ _ _ _ pe_bl))))),?_⟩
 rw [show start ["_law_found","_law_term"] [.ref l]=[some (.ref l),none] from rfl]
 (iterate 5 ((try (walk_at "WP")); (try (simp only [isI_ll,hl,qJs,qJt,qJl,qJd,exists_eq_left',exists_eq_left])))); (try (walk_at "WP"))
 refine ⟨⟨_,SqL.of hl⟩,?_⟩
 refine forL (xs:=ws) (fun i σ H2=>∃ o1,σ = [some (.ref l),o1] /\ Same H H2) ⟨none,rfl,Same.refl _⟩ ?_ ?_ ?_
 ·rintro i σ H2 _ ⟨_,_,s2⟩
  exact SqL.of (s2 _ _ hl)
 ·rintro i v σ H2 N hv ⟨o1,rfl,s2⟩ hN
  have hi:i < as.length:=by rw [← ht.len]; exact (qB.mp hv).1
  obtain ⟨y,hy1,hy2⟩:=ht.at_ i _ (qA hi)
  have al:=h3 as[i] (List.getElem_mem _)
  generalize as[i]=ar at hy2 al
  rw [hv] at hy1
  cases hy1
  have y2:=s2 _ _ hy2
  unfold iTp at y2
  obtain ⟨a,b,c,rfl⟩:∃ a b c,ar=[a,b,c]:=by
   match ar,al with
   | [a,b,c],_=>exact ⟨a,b,c,rfl⟩
  rw [List.map_cons,List.map_cons,List.map_cons,List.map_nil] at y2
  (iterate 5 ((try (walk_at "WP")); (try (simp only [isI_tt,y2,qJs,qJt,qJl,qJd,exists_eq_left',exists_eq_left])))); (try (walk_at "WP"))
  refine ⟨⟨_,SqT.of y2⟩,?_⟩
  refine comp_T (f:=fun _=>some (V.bl true)) (SqT.of y2) (le_size (by show 3 <= 1000; decide)) (fun u H' R hu hS' hR=>?_) (fun acc hacc=>?_)
  ·have iu:∃ n:Int,u = .int n:=by
    simp only [List.mem_cons,List.not_mem_nil,or_false] at hu
    rcases hu with z | z | z <;> exact ⟨_,z⟩
   obtain ⟨n,rfl⟩:=iu
   try walk_at "WP"
   exact hR
  rw [filterMap_some,List.map_const']
  refine ⟨acc,qQ 3 true,rfl,by rw [upd_same]; rfl,?_⟩
  try walk_at "WP"
  exact hN _ _ ⟨_,rfl,s2.trans (same_new hacc _)⟩
 ·rintro σ H2 ⟨o1,rfl,s2⟩
  try walk_at "WP"
  exact q H2 s2
theorem no_terms (T:Txt K mg) {cst_TooMany:Addr} (mg_TooMany:mg "TooMany" = some (.ref cst_TooMany)) (xi_TooMany:PySem.W.excIn K cst_TooMany [.type "ValueError",.type "Exception",.type "BaseException",.type "object"] "ValueError.__new__" = true):CalX P w K mg base 5 "terms" ["web","k"] (spNoTerms K cst_TooMany):=by
 have B:=T.bl
 obtain ⟨_,mg_MOST_TOLD⟩:=T.i_MOST_TOLD
 have C_ways:=(ok_ways (P:=P) (w:=w) (base:=base) T).mono (k:=4) (by decide)
 have C_ends_at_inputs:=ok_endsI (P:=P) (w:=w) (base:=base) T
 refine mkCalX T.t_terms sc_terms (fun vs H Q E h=>?_) (fun f cdv A outer s H vs Q E hr h=>?_)
 ·obtain ⟨_,_,_,_,_,_,_,_,_,_,rfl,_⟩:=h
  rfl
 obtain ⟨x,dl,gl,ins,us,ds,os,gs,g,k,rfl,W,hg,z,hth,D,d400,i12,hw,hE⟩:=h
 refine ⟨_,((@pss_cons _ _ _ _ _ (@PS.nox _ _ _ (@ps_set _ _ (2) _ _ _ _ sc_terms.nd rfl (by walk_at "o") (@pe_ix _ _ _ _ _ _ _ ix_M (@pe_ix _ _ _ _ _ _ _ ix_U (pv 0) pe_int (fun _ _=>rfl)) (pv 1) (fun _ _=>rfl)) (by rfl) (by walk_at "o"))) (@pss_cons _ _ _ _ _ (@PS.nox _ _ _ (@ps_if _ _ _ _ _ _ _ _ (@pt_cmpR _ _ _ _ _ _ _ _ op_eq (@pe_ix _ _ _ _ _ _ _ ix_tup (pv 2) pe_int (fun _ _=>rfl)) pe_int (@nomark _ _ (by decide) (by decide))) (@pss_one _ _ _ (@ps_ret _ _ _ _ (@pe_lst _ _ _ _ pa_nil))) pss_nil)) (@pss_cons _ _ _ _ _ (@ps_if _ _ _ _ _ _ _ _ (@pt_cmpR _ _ _ _ _ _ _ _ op_gt (@pe_ix _ _ _ _ _ _ _ ix_M (@pe_cal _ _ _ _ _ _ _ _ _ _ C_ways hr rfl (@pa_cons _ _ _ _ _ (pv 0) pa_nil (by rfl)) (by decide) (by rfl) (by rfl)) (@pe_ix _ _ _ _ _ _ _ ix_tup (pv 2) pe_int (fun _ _=>rfl)) (fun _ _=>rfl)) (@pe_glob _ _ (.int 500) _ _ rfl mg_MOST_TOLD ⟨_,rfl⟩ (by decide)) (@nomark _ _ (by decide) (by decide))) (@pss_one _ _ _ (@ps_raise _ _ _ (cst_TooMany) _ _ _ _ _ _ _ _ _ _ raises_of xi_TooMany PySem.F.excBase_ValueError rfl (fun _ z=>nomatch z) rfl mg_TooMany (@pa_cons _ _ _ _ _ pe_str pa_nil (by rfl)) (by decide) (by rfl) (by rfl))) pss_nil) (@pss_cons _ _ _ _ _ (@PS.nox _ _ _ (@ps_set _ _ (3) _ _ _ _ sc_terms.nd rfl (by walk_at "o") (@pe_lst _ _ _ _ pa_nil) (by rfl) (by walk_at "o"))) (@pss_cons _ _ _ _ _ (@PS.nox _ _ _ (@ps_for _ _ _ _ _ _ _ _ PassesOwn.never rfl (@pi_enum _ _ _ _ _ _ _ _ rfl B.enumerate (@pa_cons _ _ _ _ _ (@pe_cal _ _ _ _ _ _ _ _ _ _ C_ends_at_inputs hr rfl (@pa_cons _ _ _ _ _ (pv 0) (@pa_cons _ _ _ _ _ (pv 2) pa_nil (by rfl)) (by rfl)) (by decide) (by rfl) (by rfl)) pa_nil (by rfl)) (by rfl)) (@pg_tupM _ _ _ _ _ 2 rfl (@pgs_cons _ _ _ _ _ (@pg_name _ _ (4) _ sc_terms.nd rfl (by walk_at "o") (by walk_at "o")) (@pgs_cons _ _ _ _ _ (@pg_name _ _ (5) _ sc_terms.nd rfl (by walk_at "o") (by walk_at "o")) pgs_nil (by rfl)) (by rfl)) (by rfl) (by rfl)) (@pss_one _ _ _ (@ps_expr _ _ _ _ (@pe_bm _ _ _ _ _ _ _ _ _ _ _ _ PySem.F.plainAttrs_list PySem.F.slot_list_extend PySem.F.type_list_extend mt_extend (pv 3) (@pa_cons _ _ _ _ _ (@pe_comp0 _ _ _ _ _ _ _ _ (["shift","sign","thing"]) (2) ([4]) _ _ _ rfl (@pi_list _ _ _ _ (pv 5)) (fun nd C s H fp=>⟨(@pg_tupM _ _ _ _ _ 2 rfl (@pgs_cons _ _ _ _ _ (@pg_name _ _ (0) _ nd rfl (by walk_at "o") (by walk_at "o")) (@pgs_cons _ _ _ _ _ (@pg_name _ _ (1) _ nd rfl (by walk_at "o") (by walk_at "o")) pgs_nil (by rfl)) (by rfl)) (by rfl) (by rfl)),pn_nil,(@pe_tup _ _ _ _ _ (@pa_cons _ _ _ _ _ (pv 2) (@pa_cons _ _ _ _ _ (pv 0) (@pa_cons _ _ _ _ _ (pv 1) pa_nil (by rfl)) (by rfl)) (by rfl)))⟩) (by decide +kernel) (by first | rfl | decide +kernel) (by first | rfl | decide +kernel) rfl (fun _=>rfl)) pa_nil (by rfl)) (by rfl) (by rfl) (by rfl) (by rfl) (by rfl)) (by rfl))) (by intro _ ; rfl))) (@pss_one _ _ _ (@PS.nox _ _ _ (@ps_ret _ _ _ _ (@pe_callB _ _ _ _ _ _ _ _ _ call_sortI rfl B.sorted bo_sorted (@pa_cons _ _ _ _ _ (pv 3) pa_nil (by rfl)) (by decide) (by decide) (by rfl) (by rfl))))))))))),?_⟩
 rw [show start ["web","k","out","told","thing","ends"] [.ref x,.int (k:Int)]=[some (.ref x),some (.int (k:Int)),none,none,none,none] from rfl]
 have h1:=W.tup
 obtain ⟨o,ho1,ho2⟩:=W.hgs.at_ k g hg
 unfold gTp at ho2
 have g1:=W.gll
 (iterate 5 ((try (walk_at "WP")); (try (simp only [h1,g1,qJs,qJt,qJl,qJd,exists_eq_left',exists_eq_left])))); (try (walk_at "WP"))
 refine ⟨_,atI_nat ho1,?_⟩
 try walk_at "WP"
 refine ⟨_,ho2,_,rfl,?_⟩
 try walk_at "WP"
 rw [if_neg z]
 refine ⟨x,dl,gl,ins,us,ds,os,gs,rfl,W,D,d400,i12,fun r H1 nr s1 hr1=>?_⟩
 try walk_at "WP"
 refine ⟨_,s1.seqT ho2,_,rfl,?_⟩
 have ew:=qA (l:=wyW ins ds) (i:=g.th) (by rw [wyW_len]; exact hth)
 (iterate 5 ((try (walk_at "WP")); (try (simp only [hr1,qJs,qJt,qJl,qJd,exists_eq_left',exists_eq_left])))); (try (walk_at "WP"))
 refine ⟨_,atI_nat (by rw [qI,ew]; rfl),?_⟩
 rw [← getD_of (d:=0) ew]
 try walk_at "WP"
 rw [if_pos hw,w_raise]
 try walk_at "WP"
 exact hE H1 s1
theorem ok_refused17 (T:Txt K mg) {cst_NoJoin cst_ShiftError cst_Down cst_NoName cst_NoRow cst_NoText cst_NoWeb cst_NoWord cst_TooMany:Addr} (mg_NoJoin:mg "NoJoin" = some (.ref cst_NoJoin)) (mg_ShiftError:mg "ShiftError" = some (.ref cst_ShiftError)) (mg_Down:mg "Down" = some (.ref cst_Down)) (mg_NoName:mg "NoName" = some (.ref cst_NoName)) (mg_NoRow:mg "NoRow" = some (.ref cst_NoRow)) (mg_NoText:mg "NoText" = some (.ref cst_NoText)) (mg_NoWeb:mg "NoWeb" = some (.ref cst_NoWeb)) (mg_NoWord:mg "NoWord" = some (.ref cst_NoWord)) (mg_TooMany:mg "TooMany" = some (.ref cst_TooMany))
  (xi_TooMany:PySem.W.excIn K cst_TooMany [.type "ValueError",.type "Exception",.type "BaseException",.type "object"] "ValueError.__new__" = true) (xi_ShiftError:PySem.W.excIn K cst_ShiftError [.type "ValueError",.type "Exception",.type "BaseException",.type "object"] "ValueError.__new__" = true)
  (hsub:L2.subIn K cst_TooMany cst_ShiftError=true) (hek:L2.excK K cst_TooMany=true) (hve:PySem.W.kitOne K (.ref cst_TooMany) (.type "ValueError")=some true)
  (hot:PySem.W.kitAny K (.ref cst_TooMany) [.ref cst_Down,.ref cst_NoJoin,.ref cst_NoName,.ref cst_NoRow,.ref cst_NoText,.ref cst_NoWeb,.ref cst_NoWord]=some false):Cal P w K mg base 6 "_law_refused" ["_law_web_here","_law_k"] (spRef17 K):=by
 have B:=T.bl
 have X_terms:=no_terms (P:=P) (w:=w) (base:=base) T mg_TooMany xi_TooMany
 refine mkCal T.t_l_refused sc_l_refused (fun vs H Q E h=>?_) (fun f cdv A outer s H vs Q E hr h=>?_)
 ·obtain ⟨_,_,_,_,_,_,_,_,_,_,rfl,_⟩:=h
  rfl
 obtain ⟨x,dl,gl,ins,us,ds,os,gs,g,k,rfl,W,hg,z,hth,D,d400,i12,hw,q⟩:=h
 refine ⟨_,((@pss_cons _ _ _ _ _ (@ps_set _ _ (2) _ _ _ _ sc_l_refused.nd rfl (by walk_at "o") pe_non (by rfl) (by walk_at "o")) (@pss_cons _ _ _ _ _ (@ps_tryAs _ _ _ _ _ (cst_ShiftError) _ _ (3) _ _ _ _ _ _ (@psx_expr _ _ _ _ (@pex_call _ _ _ _ _ _ _ _ _ _ X_terms hr (fun _ z=>nomatch z) rfl (@pa_cons _ _ _ _ _ (pv 0) (@pa_cons _ _ _ _ _ (pv 1) pa_nil (by rfl)) (by rfl)) (by decide) (by rfl) (by rfl)) (by rfl)) xi_ShiftError (by decide +kernel) rfl mg_ShiftError sc_l_refused.nd rfl rfl rfl rfl _ rfl (fun _=>(@pss_one _ _ _ (@ps_set _ _ (2) _ _ _ _ sc_l_refused.nd rfl (by walk_at "o") (pv 3) (by rfl) (by walk_at "o")))) (by decide)) (@pss_cons _ _ _ _ _ (@ps_set _ _ (4) _ _ _ _ sc_l_refused.nd rfl (by walk_at "o") (@pe_callB _ _ _ _ _ _ _ _ _ call_isX rfl B.isinstance bo_isinstance (@pa_cons _ _ _ _ _ (pv 2) (@pa_cons _ _ _ _ _ (@pe_tup _ _ _ _ _ (@pa_cons _ _ _ _ _ (@pe_glob _ _ (.ref cst_Down) _ _ rfl mg_Down rfl (by decide)) (@pa_cons _ _ _ _ _ (@pe_glob _ _ (.ref cst_NoJoin) _ _ rfl mg_NoJoin rfl (by decide)) (@pa_cons _ _ _ _ _ (@pe_glob _ _ (.ref cst_NoName) _ _ rfl mg_NoName rfl (by decide)) (@pa_cons _ _ _ _ _ (@pe_glob _ _ (.ref cst_NoRow) _ _ rfl mg_NoRow rfl (by decide)) (@pa_cons _ _ _ _ _ (@pe_glob _ _ (.ref cst_NoText) _ _ rfl mg_NoText rfl (by decide)) (@pa_cons _ _ _ _ _ (@pe_glob _ _ (.ref cst_NoWeb) _ _ rfl mg_NoWeb rfl (by decide)) (@pa_cons _ _ _ _ _ (@pe_glob _ _ (.ref cst_NoWord) _ _ rfl mg_NoWord rfl (by decide)) pa_nil (by rfl)) (by rfl)) (by rfl)) (by rfl)) (by rfl)) (by rfl)) (by rfl))) pa_nil (by rfl)) (by rfl)) (by decide) (by decide) (by rfl) (by rfl)) (by rfl) (by walk_at "o")) (@pss_one _ _ _ (@ps_ret _ _ _ _ (@pe_and _ _ _ _ _ _ _ (@pe_callB _ _ _ _ _ _ _ _ _ call_isX rfl B.isinstance bo_isinstance (@pa_cons _ _ _ _ _ (pv 2) (@pa_cons _ _ _ _ _ (@pe_glob _ _ (.ref cst_TooMany) _ _ rfl mg_TooMany rfl (by decide)) pa_nil (by rfl)) (by rfl)) (by decide) (by decide) (by rfl) (by rfl)) (@pe_and _ _ _ _ _ _ _ (@pe_callB _ _ _ _ _ _ _ _ _ call_isX rfl B.isinstance bo_isinstance (@pa_cons _ _ _ _ _ (pv 2) (@pa_cons _ _ _ _ _ (@pe_bltn _ _ (.ty "ValueError") _ _ rfl B.ValueError bo_ValueError rfl (by decide) (by decide)) pa_nil (by rfl)) (by rfl)) (by decide) (by decide) (by rfl) (by rfl)) (@pe_one _ _ _ _ _ (@pe_not _ _ _ _ (pv 4))))))))))),?_⟩
 rw [show start ["_law_web_here","_law_k","_law_caught","e","_law_others"] [.ref x,.int (k:Int)]=[some (.ref x),some (.int (k:Int)),none,none,none] from rfl]
 try walk_at "WP"
 unfold tTryAs xDrop xCall
 try walk_at "WP"
 refine ⟨x,dl,gl,ins,us,ds,os,gs,g,k,rfl,W,hg,z,hth,D,d400,i12,hw,fun H0 s0=>?_⟩
 refine ⟨_,rfl,_,_,xi_TooMany,hsub,fun e he=>?_⟩
 have s1:=same_new he (Exc e (.ref cst_TooMany) none)
 have he1:(upd H0 e (Exc e (.ref cst_TooMany) none)) e=some (Exc e (.ref cst_TooMany) none):=upd_same
 generalize upd H0 e (Exc e (.ref cst_TooMany) none)=H1 at s1 he1 ⊢
 unfold hEnds
 try walk_at "WP"
 intro tp htp
 have s2:=same_new htp (.tup [V.ref cst_Down,V.ref cst_NoJoin,V.ref cst_NoName,V.ref cst_NoRow,V.ref cst_NoText,V.ref cst_NoWeb,V.ref cst_NoWord])
 refine ⟨e,cst_TooMany,_,false,rfl,s2 _ _ he1,hek,.inr (.inr ⟨tp,[cst_Down,cst_NoJoin,cst_NoName,cst_NoRow,cst_NoText,cst_NoWeb,cst_NoWord],rfl,upd_same,hot⟩),?_⟩
 try walk_at "WP"
 refine ⟨e,cst_TooMany,_,true,rfl,s2 _ _ he1,hek,.inl ⟨_,rfl,by unfold PySem.W.kitOne; rw [if_pos (by simp)]⟩,?_⟩
 try walk_at "WP"
 refine ⟨e,cst_TooMany,_,true,rfl,s2 _ _ he1,hek,.inr (.inl ⟨_,rfl,hve⟩),?_⟩
 try walk_at "WP"
 exact q _ (s0.trans (s1.trans s2))
end
section
variable {P:Program}{w:World}{K:PySem.W.Frag}{mg:Str -> Option Value}{base:Heap}
theorem ok_oright17 (T:Txt K mg) (C_l_refused:Cal P w K mg base 6 "_law_refused" ["_law_web_here","_law_k"] (spRef17 K)):Cal P w K mg base 7 "_law_out_right" ["_law_web_here","_law_k","_law_counts_here"] spORt17:=by
 have B:=T.bl
 have C_terms:=(ok_terms (P:=P) (w:=w) (base:=base) T).mono (k:=6) (by decide)
 have C_l_gone:=(ok_gone17 (P:=P) (w:=w) (base:=base) T).mono (k:=6) (by decide)
 have C_l_are_terms:=(ok_are17 (P:=P) (w:=w) (base:=base) T).mono (k:=6) (by decide)
 refine mkCal T.t_l_out_right sc_l_out_right (fun vs H Q E h=>?_) (fun f cdv A outer s H vs Q E hr h=>?_)
 ·obtain ⟨_,_,_,_,_,_,_,_,_,_,_,rfl,_⟩:=h
  rfl
 obtain ⟨x,dl,gl,c,ins,us,ds,os,gs,g,k,rfl,W,hW,hg,hc,q⟩:=h
 have gm:g ∈ gs:=qE hg
 obtain ⟨o,ho1,ho2⟩:=W.hgs.at_ k g hg
 have ho2':=ho2
 unfold gTp at ho2'
 have w1:=W.tup
 have g1:=W.gll
 have ew:=qA (l:=wyW ins ds) (i:=g.th) (by rw [wyW_len]; exact (hW.go g gm).1)
 refine ⟨_,((@pss_cons _ _ _ _ _ (@ps_asg _ _ _ _ _ _ (@pe_ix _ _ _ _ _ _ _ ix_M (@pe_ix _ _ _ _ _ _ _ ix_U (pv 0) pe_int (fun _ _=>rfl)) (pv 1) (fun _ _=>rfl)) (@pg_tupM _ _ _ _ _ 3 rfl (@pgs_cons _ _ _ _ _ (@pg_name _ _ (3) _ sc_l_out_right.nd rfl (by walk_at "o") (by walk_at "o")) (@pgs_cons _ _ _ _ _ (@pg_name _ _ (4) _ sc_l_out_right.nd rfl (by walk_at "o") (by walk_at "o")) (@pgs_cons _ _ _ _ _ (@pg_name _ _ (5) _ sc_l_out_right.nd rfl (by walk_at "o") (by walk_at "o")) pgs_nil (by rfl)) (by rfl)) (by rfl)) (by rfl) (by rfl)) (by rfl) (by rfl) (by rfl)) (@pss_cons _ _ _ _ _ (@ps_if _ _ _ _ _ _ _ _ (@pt_cmpR _ _ _ _ _ _ _ _ op_eq (pv 5) pe_int (@nomark _ _ (by decide) (by decide))) (@pss_one _ _ _ (@ps_ret _ _ _ _ (@pe_cmpR _ _ _ _ _ _ _ _ (@op_eqE _ _ hr) (@pe_cal _ _ _ _ _ _ _ _ _ _ C_terms hr rfl (@pa_cons _ _ _ _ _ (pv 0) (@pa_cons _ _ _ _ _ (pv 1) pa_nil (by rfl)) (by rfl)) (by decide) (by rfl) (by rfl)) (@pe_lst _ _ _ _ pa_nil) (@nomark _ _ (by decide) (by decide))))) pss_nil) (@pss_cons _ _ _ _ _ (@ps_if _ _ _ _ _ _ _ _ (@pt_cmpR _ _ _ _ _ _ _ _ op_gt (@pe_ix _ _ _ _ _ _ _ ix_M (pv 2) (pv 3) (fun _ _=>rfl)) pe_int (@nomark _ _ (by decide) (by decide))) (@pss_one _ _ _ (@ps_ret _ _ _ _ (@pe_cal _ _ _ _ _ _ _ _ _ _ C_l_refused hr rfl (@pa_cons _ _ _ _ _ (pv 0) (@pa_cons _ _ _ _ _ (pv 1) pa_nil (by rfl)) (by rfl)) (by decide) (by rfl) (by rfl)))) pss_nil) (@pss_cons _ _ _ _ _ (@ps_set _ _ (6) _ _ _ _ sc_l_out_right.nd rfl (by walk_at "o") (@pe_cal _ _ _ _ _ _ _ _ _ _ C_terms hr rfl (@pa_cons _ _ _ _ _ (pv 0) (@pa_cons _ _ _ _ _ (pv 1) pa_nil (by rfl)) (by rfl)) (by decide) (by rfl) (by rfl)) (by rfl) (by walk_at "o")) (@pss_cons _ _ _ _ _ (@ps_if _ _ _ _ _ _ _ _ (@PW.pt _ _ _ (@pw_or _ _ _ _ _ _ _ (@pt_not _ _ _ _ (@pt_val _ _ _ (@pe_cal _ _ _ _ _ _ _ _ _ _ C_l_are_terms hr rfl (@pa_cons _ _ _ _ _ (pv 6) pa_nil (by rfl)) (by decide) (by rfl) (by rfl)) (by intro _ ; rfl))) (@pw_or _ _ _ _ _ _ _ (@pt_cmpR _ _ _ _ _ _ _ _ (@op_neD _ _ hr) (pv 6) (@pe_cal _ _ _ _ _ _ _ _ _ _ C_l_gone hr rfl (@pa_cons _ _ _ _ _ (pv 0) (@pa_cons _ _ _ _ _ (@pe_ix _ _ _ _ _ _ _ ix_M (@pe_ix _ _ _ _ _ _ _ ix_U (pv 0) pe_int (fun _ _=>rfl)) (pv 1) (fun _ _=>rfl)) pa_nil (by rfl)) (by rfl)) (by decide) (by rfl) (by rfl)) (@nomark _ _ (by decide) (by decide))) (@pw_or1 _ _ _ _ (@pt_cmpR _ _ _ _ _ _ _ _ op_ne (@pe_callB _ _ _ _ _ _ _ _ _ call_lenM rfl B.len bo_len (@pa_cons _ _ _ _ _ (pv 6) pa_nil (by rfl)) (by decide) (by decide) (by rfl) (by rfl)) (@pe_ix _ _ _ _ _ _ _ ix_M (pv 2) (pv 3) (fun _ _=>rfl)) (@nomark _ _ (by decide) (by decide))))))) (@pss_one _ _ _ (@ps_ret _ _ _ _ pe_bl)) pss_nil) (@pss_cons _ _ _ _ _ (@ps_expr _ _ _ _ (@pe_bm _ _ _ _ _ _ _ _ _ _ _ _ PySem.F.plainAttrs_list PySem.F.slot_list_append PySem.F.type_list_append mt_append (pv 6) (@pa_cons _ _ _ _ _ (@pe_tup _ _ _ _ _ pa_nil) pa_nil (by rfl)) (by rfl) (by rfl) (by rfl) (by rfl) (by rfl)) (by rfl)) (@pss_one _ _ _ (@ps_ret _ _ _ _ (@pe_cmpR _ _ _ _ _ _ _ _ (@op_eqD _ _ hr) (@pe_cal _ _ _ _ _ _ _ _ _ _ C_terms hr rfl (@pa_cons _ _ _ _ _ (pv 0) (@pa_cons _ _ _ _ _ (pv 1) pa_nil (by rfl)) (by rfl)) (by decide) (by rfl) (by rfl)) (@pe_slice _ _ _ _ _ _ _ _ _ _ sl_list (pv 6) po_none (@po_some _ _ _ (@pe_un _ _ _ _ _ _ un_neg pe_int))) (@nomark _ _ (by decide) (by decide)))))))))))),?_⟩
 rw [show start ["_law_web_here","_law_k","_law_counts_here","_law_thing","_law_shift_here","_law_sign","_law_found"] [.ref x,.int (k:Int),.ref c]=[some (.ref x),some (.int (k:Int)),some (.ref c),none,none,none,none] from rfl]
 (iterate 5 ((try (walk_at "WP")); (try (simp only [w1,g1,qJs,qJt,qJl,qJd,exists_eq_left',exists_eq_left])))); (try (walk_at "WP"))
 refine ⟨_,atI_nat ho1,?_⟩
 (iterate 5 ((try (walk_at "WP")); (try (simp only [ho2',qJs,qJt,qJl,qJd,exists_eq_left',exists_eq_left])))); (try (walk_at "WP"))
 refine ite2 (fun z=>?_) (fun z=>?_)
 ·refine ⟨x,dl,gl,ins,us,ds,os,gs,g,40,k,rfl,W.wk,hg,.inl z,fun pl ys qs H1 np s1 h1 ht pq sq=>?_⟩
  dsimp only
  intro p hp
  unfold tmO at pq
  rw [if_pos z] at pq
  have e:qs=[]:=List.eq_nil_of_length_eq_zero pq.length_eq
  subst e
  have e:ys=[]:=List.eq_nil_of_length_eq_zero ht.len
  subst e
  have sp:=same_new hp (.lst [])
  rw [w_eqE]
  exact ⟨_,SqL.of (sp _ _ h1),SqL.of upd_same,q _ (s1.trans sp)⟩
 (iterate 5 ((try (walk_at "WP")); (try (simp only [hc,qJs,qJt,qJl,qJd,exists_eq_left',exists_eq_left])))); (try (walk_at "WP"))
 refine ⟨_,atI_nat (by rw [qI,ew]; rfl),?_⟩
 rw [← getD_of (d:=0) ew]
 try walk_at "WP"
 refine ite2 (fun y=>?_) (fun y=>?_)
 ·refine ⟨x,dl,gl,ins,us,ds,os,gs,g,k,rfl,W.wk,hg,z,(hW.go g gm).1,hW.dk,by have:=hW.dl; omega,hW.i12,y,fun H1 s1=>q H1 s1⟩
 have hT:=hW.tok gm z (by omega)
 refine ⟨x,dl,gl,ins,us,ds,os,gs,g,40,k,rfl,W.wk,hg,.inr hT,fun pl ys qs H1 np s1 h1 ht pq sq=>?_⟩
 have eO:tmO ins ds g=tmS ins ds g ins:=by unfold tmO; rw [if_neg z]
 rw [eO] at pq
 have cnt:=hT.cnt
 have ql:=pq.length_eq
 have wy:=hT.wy
 try walk_at "WP"
 refine ⟨pl,ys,qs,rfl,h1,ht,fun u hu=>?_,by omega,fun H2 s2'=>?_⟩
 ·obtain ⟨a,b,c,e,_⟩:=hT.tm3 u (pq.mem_iff.mp hu)
  rw [e]
  rfl
 have s2:=s1.trans s2'
 have w2:=s2 _ _ w1
 have g2:=s2 _ _ g1
 (iterate 5 ((try (walk_at "WP")); (try (simp only [w2,g2,qJs,qJt,qJl,qJd,exists_eq_left',exists_eq_left])))); (try (walk_at "WP"))
 refine ⟨_,atI_nat ho1,?_⟩
 try walk_at "WP"
 refine ⟨x,o,dl,gl,ins,us,ds,os,gs,g,rfl,W.same s2,s2 _ _ ho2,hT,fun r3 ys3 qs3 H3 n3 s3' h3 ht3 pq3 sq3=>?_⟩
 have e3:qs3=qs:=(lex_same (pq.trans (hT.gone.trans pq3.symm)) sq sq3).symm
 subst e3
 have s3:=s2.trans s3'
 have pl3:=s3' _ _ (s2' _ _ h1)
 have ht3':=(ht.same s2').same s3'
 have c3:=s3 _ _ hc
 refine ne_tups (fun a=>flat_ints a) pl3 ht3' h3 ht3 ?_
 (iterate 5 ((try (walk_at "WP")); (try (simp only [pl3,c3,qJs,qJt,qJl,qJd,exists_eq_left',exists_eq_left])))); (try (walk_at "WP"))
 refine ⟨_,atI_nat (by rw [qI,ew]; rfl),?_⟩
 rw [← getD_of (d:=0) ew]
 try walk_at "WP"
 rw [if_neg (by rw [ht.len]; omega)]
 refine ⟨ty_list pl3,fun p hp=>?_⟩
 have s4:=same_new hp (.tup [])
 have pl4:=s4 _ _ pl3
 have S4:=s3.trans s4
 have yl:=ht.len
 refine ⟨ys,pl4,lt_big (by omega),?_⟩
 have c5:Chg pl (upd H3 p (.tup [])) (upd (upd H3 p (.tup [])) pl (.lst (ys ++ [V.ref p]))):=Chg.upd _
 have W5:=(W.same S4).chg pl4 (ne_of_none W.dll np) (ne_of_none W.gll np) c5
 have ht5:=(ht3'.same s4).chgL pl4 c5
 have pl5:(upd (upd H3 p (.tup [])) pl (.lst (ys ++ [V.ref p]))) pl=some (.lst (ys ++ [V.ref p])):=upd_same
 have S5:Same H (upd (upd H3 p (.tup [])) pl (.lst (ys ++ [V.ref p]))):=same_upd np S4
 generalize upd (upd H3 p (.tup [])) pl (.lst (ys ++ [V.ref p]))=H5 at W5 ht5 pl5 S5 ⊢
 refine ⟨x,dl,gl,ins,us,ds,os,gs,g,40,k,rfl,W5.wk,hg,.inr hT,fun r6 ys6 qs6 H6 n6 s6 h6 ht6 pq6 sq6=>?_⟩
 rw [eO] at pq6
 have e6:qs6=qs3:=(lex_same (pq.trans pq6.symm) sq sq6).symm
 subst e6
 refine ⟨_,SqL.of (s6 _ _ pl5),fun p7 hp7=>?_⟩
 rw [cut_m1]
 have s7:=same_new hp7 (.lst ys)
 exact eq_tups (fun a=>flat_ints a) (s7 _ _ h6) (ht6.same s7) upd_same ((ht5.same s6).same s7) (q _ (S5.trans (s6.trans s7)))
theorem ok_long17 (T:Txt K mg):Cal P w K mg base 11 "_law_longer" ["_law_feed_here","_law_web_here"] spLong17:=by
 have B:=T.bl
 have C_l_take:=ok_take (P:=P) (w:=w) (base:=base) T
 refine mkCal T.t_l_longer sc_l_longer (fun vs H Q E h=>?_) (fun f cdv A outer s H vs Q E hr h=>?_)
 ·obtain ⟨_,_,_,_,_,_,_,_,_,_,rfl,_⟩:=h
  rfl
 obtain ⟨p,w,dl,gl,c,ins,us,ds,os,gs,rfl,hF,hc,W,hW,d8,dlp,glp,q⟩:=h
 have i12:=hW.i12
 have i1:=hW.i1
 refine ⟨_,((@pss_cons _ _ _ _ _ (@ps_asg _ _ _ _ _ _ (pv 1) (@pg_tupM _ _ _ _ _ 3 rfl (@pgs_cons _ _ _ _ _ (@pg_name _ _ (2) _ sc_l_longer.nd rfl (by walk_at "o") (by walk_at "o")) (@pgs_cons _ _ _ _ _ (@pg_name _ _ (3) _ sc_l_longer.nd rfl (by walk_at "o") (by walk_at "o")) (@pgs_cons _ _ _ _ _ (@pg_name _ _ (4) _ sc_l_longer.nd rfl (by walk_at "o") (by walk_at "o")) pgs_nil (by rfl)) (by rfl)) (by rfl)) (by rfl) (by rfl)) (by rfl) (by rfl) (by rfl)) (@pss_cons _ _ _ _ _ (@ps_set _ _ (5) _ _ _ _ sc_l_longer.nd rfl (by walk_at "o") (@pe_callTy _ _ _ _ _ _ _ _ _ call_list_of rfl B.list bo_list (@pa_cons _ _ _ _ _ (pv 3) pa_nil (by rfl)) (by decide) (by decide) (by rfl) (by rfl)) (by rfl) (by walk_at "o")) (@pss_cons _ _ _ _ _ (@ps_for _ _ _ _ _ _ _ _ PassesOwn.never rfl (@pi_range1 _ _ _ _ _ _ rfl B.range (@pa_cons _ _ _ _ _ (@pe_cal _ _ _ _ _ _ _ _ _ _ C_l_take hr rfl (@pa_cons _ _ _ _ _ (pv 0) (@pa_cons _ _ _ _ _ pe_int pa_nil (by rfl)) (by rfl)) (by decide) (by rfl) (by rfl)) pa_nil (by rfl)) (by rfl)) (@pg_name _ _ (6) _ sc_l_longer.nd rfl (by walk_at "o") (by walk_at "o")) (@pss_cons _ _ _ _ _ (@ps_set _ _ (7) _ _ _ _ sc_l_longer.nd rfl (by walk_at "o") (@pe_op _ _ _ _ _ _ _ _ op_sub (@pe_op _ _ _ _ _ _ _ _ op_add (pv 2) (@pe_callB _ _ _ _ _ _ _ _ _ call_lenM rfl B.len bo_len (@pa_cons _ _ _ _ _ (pv 5) pa_nil (by rfl)) (by decide) (by decide) (by rfl) (by rfl))) pe_int) (by rfl) (by walk_at "o")) (@pss_cons _ _ _ _ _ (@ps_set _ _ (8) _ _ _ _ sc_l_longer.nd rfl (by walk_at "o") (@pe_callB _ _ _ _ _ _ _ _ _ (@call_max2 _ rfl) rfl B.max bo_max (@pa_cons _ _ _ _ _ pe_int (@pa_cons _ _ _ _ _ (@pe_op _ _ _ _ _ _ _ _ op_sub (pv 7) (@pe_cal _ _ _ _ _ _ _ _ _ _ C_l_take hr rfl (@pa_cons _ _ _ _ _ (pv 0) (@pa_cons _ _ _ _ _ pe_int pa_nil (by rfl)) (by rfl)) (by decide) (by rfl) (by rfl))) pa_nil (by rfl)) (by rfl)) (by decide) (by decide) (by rfl) (by rfl)) (by rfl) (by walk_at "o")) (@pss_one _ _ _ (@ps_expr _ _ _ _ (@pe_bm _ _ _ _ _ _ _ _ _ _ _ _ PySem.F.plainAttrs_list PySem.F.slot_list_append PySem.F.type_list_append mt_append (pv 5) (@pa_cons _ _ _ _ _ (@pe_tup _ _ _ _ _ (@pa_cons _ _ _ _ _ (@pe_ix _ _ _ _ _ _ _ ix_M (@pe_lst _ _ _ _ (@pa_cons _ _ _ _ _ pe_str (@pa_cons _ _ _ _ _ pe_str pa_nil (by rfl)) (by rfl))) (@pe_cal _ _ _ _ _ _ _ _ _ _ C_l_take hr rfl (@pa_cons _ _ _ _ _ (pv 0) (@pa_cons _ _ _ _ _ pe_int pa_nil (by rfl)) (by rfl)) (by decide) (by rfl) (by rfl)) (fun _ _=>rfl)) (@pa_cons _ _ _ _ _ (pv 7) (@pa_cons _ _ _ _ _ (@pe_cal _ _ _ _ _ _ _ _ _ _ C_l_take hr rfl (@pa_cons _ _ _ _ _ (pv 0) (@pa_cons _ _ _ _ _ pe_int pa_nil (by rfl)) (by rfl)) (by decide) (by rfl) (by rfl)) (@pa_cons _ _ _ _ _ (pv 8) (@pa_cons _ _ _ _ _ (@pe_cal _ _ _ _ _ _ _ _ _ _ C_l_take hr rfl (@pa_cons _ _ _ _ _ (pv 0) (@pa_cons _ _ _ _ _ pe_int pa_nil (by rfl)) (by rfl)) (by decide) (by rfl) (by rfl)) pa_nil (by rfl)) (by rfl)) (by rfl)) (by rfl)) (by rfl))) pa_nil (by rfl)) (by rfl) (by rfl) (by rfl) (by rfl) (by rfl)) (by rfl))))) (by intro _ ; rfl)) (@pss_one _ _ _ (@ps_ret _ _ _ _ (@pe_tup _ _ _ _ _ (@pa_cons _ _ _ _ _ (pv 2) (@pa_cons _ _ _ _ _ (pv 5) (@pa_cons _ _ _ _ _ (@pe_slice _ _ _ _ _ _ _ _ _ _ sl_list (@pe_op _ _ _ _ _ _ _ _ op_cat (pv 4) (@pe_lst _ _ _ _ (@pa_cons _ _ _ _ _ (@pe_tup _ _ _ _ _ (@pa_cons _ _ _ _ _ (@pe_op _ _ _ _ _ _ _ _ op_sub (@pe_op _ _ _ _ _ _ _ _ op_add (pv 2) (@pe_callB _ _ _ _ _ _ _ _ _ call_lenM rfl B.len bo_len (@pa_cons _ _ _ _ _ (pv 5) pa_nil (by rfl)) (by decide) (by decide) (by rfl) (by rfl))) pe_int) (@pa_cons _ _ _ _ _ pe_int (@pa_cons _ _ _ _ _ (@pe_un _ _ _ _ _ _ un_neg pe_int) pa_nil (by rfl)) (by rfl)) (by rfl))) pa_nil (by rfl)))) (@po_some _ _ _ (@pe_un _ _ _ _ _ _ un_neg pe_int)) po_none) pa_nil (by rfl)) (by rfl)) (by rfl))))))))),?_⟩
 rw [show start ["_law_feed_here","_law_web_here","_law_ins","_law_deeds","_law_outs","_law_more","_law_k","_law_last","_law_other"] [.ref p,.ref w]=[some (.ref p),some (.ref w),none,none,none,none,none,none,none] from rfl]
 have w1:=W.tup
 (iterate 5 ((try (walk_at "WP")); (try (simp only [w1,qJs,qJt,qJl,qJd,exists_eq_left',exists_eq_left])))); (try (walk_at "WP"))
 refine ⟨us,.inl (SqL.of W.dll),fun mo hmo=>?_⟩
 have s1:=same_new hmo (.lst us)
 have m1:upd H mo (.lst us) mo=some (.lst us):=upd_same
 have F1:=hF.same s1
 have mop:mo ≠ p:=hF.ne hmo
 have W1:=W.same s1
 generalize upd H mo (.lst us)=H1 at s1 m1 F1 W1 ⊢
 refine take_ F1 (by omega) (by decide) (by decide) fun n H2 n0 n1 F2 C2=>?_
 have m2:=C2 _ _ mop m1
 obtain ⟨fl,hfl⟩:=F1.lst
 have W2:=W1.chg hfl dlp glp C2
 have hC2:Chg p H H2:=s1.chg.trans C2
 try walk_at "WP"
 refine ⟨by omega,by omega,?_⟩
 have ul:=W.hds.len
 refine forR (fun i σ H3=>∃ (o6 o7 o8:Option V) (us':List V) (ds':List Wd),σ = [some (V.ref p),some (V.ref w),some (V.int (ins:Int)),some (V.ref dl),some (V.ref gl),some (V.ref mo),o6,o7,o8] /\ H3 mo=some (.lst us') /\ HTs wTup H3 us' ds' /\ Dko ins ds' /\ (∀ (k:Nat) (d:Wd),ds'[k]? = some d -> (-((40:Nat):Int) <= d.s /\ d.s <= ((40:Nat):Int)) /\ (-((40:Nat):Int) <= d.t /\ d.t <= ((40:Nat):Int))) /\ ds'.length=ds.length+i /\ Feed H3 p (c+1024+4096 * i) /\ Chg p H H3) ⟨_,_,_,us,ds,rfl,m2,W2.hds,hW.dk,hW.sh,rfl,F2.mono (by omega),hC2⟩ ?_ ?_
 ·rintro i σ H3 N hi ⟨o6,o7,o8,us',ds',rfl,m3,ht3,D3,B3,l3,F3,C3⟩ hN
  have ul3:=ht3.len
  have hin:(i:Int) < 10:=by omega
  (iterate 5 ((try (walk_at "WP")); (try (simp only [m3,qJs,qJt,qJl,qJd,exists_eq_left',exists_eq_left])))); (try (walk_at "WP"))
  refine take_ F3 (by omega) (by decide) (by decide) fun r H4 r0 r1 F4 C4=>?_
  obtain ⟨f3,hf3⟩:=F3.lst
  have m4:=C4 _ _ mop m3
  have ht4:=ht3.chgL hf3 C4
  (iterate 5 ((try (walk_at "WP")); (try (simp only [m4,qJs,qJt,qJl,qJd,exists_eq_left',exists_eq_left])))); (try (walk_at "WP"))
  have last:(ins:Int)+((us'.length:Nat):Int) - 1=((ins+ds'.length - 1:Nat):Int):=by omega
  rw [last]
  refine ⟨_,_,⟨rfl,rfl⟩,?_⟩
  obtain ⟨ot,eot,hot⟩:∃ ot:Nat,(if ((ins+ds'.length - 1:Nat):Int) - r > 0 then ((ins+ds'.length - 1:Nat):Int) - r else 0)=(ot:Int) /\ ot < ins+ds'.length:=⟨(if ((ins+ds'.length - 1:Nat):Int) - r > 0 then ((ins+ds'.length - 1:Nat):Int) - r else 0).toNat,by split <;> omega,by split <;> omega⟩
  rw [eot]
  refine ⟨ty_list m4,fun e he=>?_⟩
  have s5:=same_new he (.lst [V.str (Str.ofString "sum"),V.str (Str.ofString "less")])
  have e5:upd H4 e (.lst [V.str (Str.ofString "sum"),V.str (Str.ofString "less")]) e=some (.lst [V.str (Str.ofString "sum"),V.str (Str.ofString "less")]):=upd_same
  have F5:=F4.same s5
  have ep:e ≠ p:=F4.ne he
  have m5:=s5 _ _ m4
  have ht5:=ht4.same s5
  have C5:Chg p H (upd H4 e (.lst [V.str (Str.ofString "sum"),V.str (Str.ofString "less")])):=(C3.trans C4).trans s5.chg
  generalize upd H4 e (.lst [V.str (Str.ofString "sum"),V.str (Str.ofString "less")])=H5 at s5 e5 F5 m5 ht5 C5 ⊢
  refine take_ F5 (by omega) (by decide) (by decide) fun a6 H6 a60 a61 F6 C6=>?_
  obtain ⟨f5,hf5⟩:=F5.lst
  have m6:=C6 _ _ mop m5
  have e6:=C6 _ _ ep e5
  have ht6:=ht5.chgL hf5 C6
  (iterate 5 ((try (walk_at "WP")); (try (simp only [e6,qJs,qJt,qJl,qJd,exists_eq_left',exists_eq_left])))); (try (walk_at "WP"))
  obtain ⟨wd,ewd⟩:∃ wd:Str,atI [V.str (Str.ofString "sum"),V.str (Str.ofString "less")] a6=some (.str wd):=by
   have two:a6=0 \/ a6=1:=by omega
   rcases two with z | z <;> subst z <;> exact ⟨_,rfl⟩
  refine ⟨_,ewd,?_⟩
  refine take_ F6 (by omega) (by decide) (by decide) fun a7 H7 a70 a71 F7 C7=>?_
  obtain ⟨f6,hf6⟩:=F6.lst
  have m7:=C7 _ _ mop m6
  have ht7:=ht6.chgL hf6 C7
  refine take_ F7 (by omega) (by decide) (by decide) fun a8 H8 a80 a81 F8 C8=>?_
  obtain ⟨f7,hf7⟩:=F7.lst
  have m8:=C8 _ _ mop m7
  have ht8:=ht7.chgL hf7 C8
  have C8':Chg p H H8:=((C5.trans C6).trans C7).trans C8
  intro t ht
  have s9:=same_new ht (.tup [V.str wd,V.int ((ins+ds'.length - 1:Nat):Int),V.int a7,V.int (ot:Int),V.int a8])
  have e9:upd H8 t (.tup [V.str wd,V.int ((ins+ds'.length - 1:Nat):Int),V.int a7,V.int (ot:Int),V.int a8]) t=some (.tup (wTup ⟨wd,ins+ds'.length - 1,a7,ot,a8⟩)):=upd_same
  have m9:=s9 _ _ m8
  have tmo:t ≠ mo:=(ne_of_none m8 ht).symm
  refine ⟨us',m9,lt_big (by omega),?_⟩
  have F9:=(F8.same s9).updO mop (o:=.lst (us' ++ [V.ref t]))
  refine hN _ _ ⟨_,_,_,us' ++ [V.ref t],ds' ++ [⟨wd,ins+ds'.length - 1,a7,ot,a8⟩],rfl,upd_same,((ht8.same s9).chgL m9 (Chg.upd _)).snoc (by rw [upd_ne tmo]; exact e9),fun k d hd=>?_,fun k d hd=>?_,by rw [qF,List.length_singleton]; omega,F9.mono (by omega),Chg.updN (C8'.trans s9.chg) hmo⟩
  ·rcases get_snoc hd with ⟨_,z⟩ | ⟨z1,z2⟩
   ·exact D3 k d z
   ·rw [z2,z1]
    exact ⟨by show ins+ds'.length - 1 < _; omega,by show ot < _; omega⟩
  ·rcases get_snoc hd with ⟨_,z⟩ | ⟨z1,z2⟩
   ·exact B3 k d z
   ·rw [z2]
    exact ⟨⟨by show _ <= a7; omega,by show a7 <= _; omega⟩,⟨by show _ <= a8; omega,by show a8 <= _; omega⟩⟩
 ·rintro σ H3 ⟨o6,o7,o8,us',ds',rfl,m3,ht3,D3,B3,l3,F3,C3⟩
  have g3:H3 gl=some (.lst os):=C3 _ _ glp W.gll
  (iterate 5 ((try (walk_at "WP")); (try (simp only [m3,g3,qJs,qJt,qJl,qJd,exists_eq_left',exists_eq_left])))); (try (walk_at "WP"))
  have ul3:=ht3.len
  have last:(ins:Int)+((us'.length:Nat):Int) - 1=((ins+ds'.length - 1:Nat):Int):=by omega
  rw [last]
  intro t ht l1 hl1
  have s4:=same_new ht (.tup [V.int ((ins+ds'.length - 1:Nat):Int),V.int 2,V.int (-1)])
  have e4:upd H3 t (.tup [V.int ((ins+ds'.length - 1:Nat):Int),V.int 2,V.int (-1)]) t=some (.tup (gTp ⟨ins+ds'.length - 1,2,-1⟩)):=upd_same
  have s5:=same_new hl1 (.lst [V.ref t])
  have S5:=s4.trans s5
  have e5:=s5 _ _ e4
  have F5:=(F3.same s4).same s5
  generalize upd (upd H3 t (.tup [V.int ((ins+ds'.length - 1:Nat):Int),V.int 2,V.int (-1)])) l1 (.lst [V.ref t])=H5 at S5 e5 F5 ⊢
  have ol:=W.hgs.len
  have g12:=hW.gl
  refine ⟨os,S5 _ _ g3,le_size (by omega),fun l2 hl2=>⟨_,SqL.of upd_same,fun l3 hl3 l4 hl4=>?_⟩⟩
  rw [cut_m12] at hl4 ⊢
  have s6:=same_new hl2 (.lst (os ++ [V.ref t]))
  have s7:=same_new hl3 (.lst ((os ++ [V.ref t]).drop ((os ++ [V.ref t]).length - 12)))
  have s8:=same_new hl4 (.tup [V.int (ins:Int),V.ref mo,V.ref l3])
  have l3p:l3 ≠ p:=(F5.same s6).ne hl3
  have S8:=S5.trans (s6.trans (s7.trans s8))
  have hgA:HTs gTp (upd (upd (upd H5 l2 (.lst (os ++ [V.ref t]))) l3 (.lst ((os ++ [V.ref t]).drop ((os ++ [V.ref t]).length - 12)))) l4 (.tup [V.int (ins:Int),V.ref mo,V.ref l3])) (os ++ [V.ref t]) (gs ++ [⟨ins+ds'.length - 1,2,-1⟩]):=by
   obtain ⟨fl3,hfl3⟩:=hF.lst
   have h0:=W.hgs.chgL hfl3 C3
   exact ((h0.same S5).snoc e5).same (s6.trans (s7.trans s8))
  have hgd:=hts_drop hgA ((os ++ [V.ref t]).length - 12)
  have lg:(gs ++ [(⟨ins+ds'.length - 1,2,-1⟩:Go)]).length=(os ++ [V.ref t]).length:=hgA.len.symm
  refine q l4 mo l3 us' ds' _ _ _ ⟨upd_same,S8 _ _ m3,ht3.same S8,s8 _ _ upd_same,hgd⟩ ⟨i1,i12,D3,by omega,B3,fun g hg=>?_,?_⟩ mop l3p ((F5.same (s6.trans (s7.trans s8))).mono (by omega)) (C3.trans S8.chg)
  ·rcases List.mem_append.mp (List.mem_of_mem_drop hg) with z | z
   ·have:=hW.go g z
    exact ⟨by omega,this.2⟩
   ·rw [List.mem_singleton.mp z]
    exact ⟨by show ins+ds'.length - 1 < _; omega,.inr ⟨.inr rfl,by show _ <= (2:Int); omega,by show (2:Int) <= _; omega⟩⟩
  ·rw [List.length_drop,lg]
   omega
end
section
variable {P:Program}{w:World}{K:PySem.W.Frag}{mg:Str -> Option Value}{base:Heap}
theorem ok_law (T:Txt K mg) {f:Addr} {fd:FuncData} (F:Fun K "law" "law" s_law f fd):FnOk P w K mg base CX0 20 f fd ["_law_script"] (spLaw K):=by
 have B:=T.bl
 obtain ⟨cst_ShiftError,cst_NoWeb,cst_Down,cst_NoText,cst_NoJoin,cst_TooMany,cst_NoRow,cst_NoName,cst_NoWord,mg_ShiftError,mg_NoWeb,mg_Down,mg_NoText,mg_NoJoin,mg_TooMany,mg_NoRow,mg_NoName,mg_NoWord,xi_TooMany,xi_ShiftError,hsub,hek,hve,hot⟩:=T.cls
 have C_l_feed:=(ok_feed (P:=P) (w:=w) (base:=base) T).mono (k:=19) (by decide)
 have C_l_web:=(ok_fweb (P:=P) (w:=w) (base:=base) T).mono (k:=19) (by decide)
 have C_l_take:=(ok_take (P:=P) (w:=w) (base:=base) T).mono (k:=19) (by decide)
 have C_l_longer:=(ok_long17 (P:=P) (w:=w) (base:=base) T).mono (k:=19) (by decide)
 have C_l_counts:=(ok_cnts17 (P:=P) (w:=w) (base:=base) T).mono (k:=19) (by decide)
 have C_l_gone:=(ok_gone17 (P:=P) (w:=w) (base:=base) T).mono (k:=19) (by decide)
 have C_ways:=(ok_ways (P:=P) (w:=w) (base:=base) T).mono (k:=19) (by decide)
 have C_terms:=(ok_terms (P:=P) (w:=w) (base:=base) T).mono (k:=19) (by decide)
 have C6:=ok_refused17 (P:=P) (w:=w) (base:=base) T mg_NoJoin mg_ShiftError mg_Down mg_NoName mg_NoRow mg_NoText mg_NoWeb mg_NoWord mg_TooMany xi_TooMany xi_ShiftError hsub hek hve hot
 have C_l_refused:=C6.mono (k:=19) (by decide)
 have C_l_out_right:=(ok_oright17 (P:=P) (w:=w) (base:=base) T C6).mono (k:=19) (by decide)
 refine F.ok sc_law (fun vs H Q E h=>?_) (fun cdv A outer s H vs Q E hr h=>?_)
 ·obtain ⟨a,ns,rfl,_⟩:=h
  rfl
 obtain ⟨a,ns,rfl,hS,h63,q⟩:=h
 refine ⟨_,((@pss_mid _ _ _ _ _ (@ps_for _ _ _ _ _ _ _ _ PassesOwn.never rfl (@pi_range1 _ _ _ _ _ _ rfl B.range (@pa_cons _ _ _ _ _ (@pe_callB _ _ _ _ _ _ _ _ _ (@call_max2 _ rfl) rfl B.max bo_max (@pa_cons _ _ _ _ _ pe_int (@pa_cons _ _ _ _ _ (@pe_callB _ _ _ _ _ _ _ _ _ (@call_min2 _ rfl) rfl B.min bo_min (@pa_cons _ _ _ _ _ pe_int (@pa_cons _ _ _ _ _ (@pe_callB _ _ _ _ _ _ _ _ _ call_lenS rfl B.len bo_len (@pa_cons _ _ _ _ _ (pv 0) pa_nil (by rfl)) (by decide) (by decide) (by rfl) (by rfl)) pa_nil (by rfl)) (by rfl)) (by decide) (by decide) (by rfl) (by rfl)) pa_nil (by rfl)) (by rfl)) (by decide) (by decide) (by rfl) (by rfl)) pa_nil (by rfl)) (by rfl)) (@pg_name _ _ (1) _ sc_law.nd rfl (by walk_at "o") (by walk_at "o")) (@pss_cons _ _ _ _ _ (@ps_set _ _ (2) _ _ _ _ sc_law.nd rfl (by walk_at "o") (@pe_cal _ _ _ _ _ _ _ _ _ _ C_l_feed hr rfl (@pa_cons _ _ _ _ _ (pv 0) (@pa_cons _ _ _ _ _ (pv 1) pa_nil (by rfl)) (by rfl)) (by decide) (by rfl) (by rfl)) (by rfl) (by walk_at "o")) (@pss_cons _ _ _ _ _ (@ps_asg _ _ _ _ _ _ (@pe_cal _ _ _ _ _ _ _ _ _ _ C_l_web hr rfl (@pa_cons _ _ _ _ _ (pv 2) (@pa_cons _ _ _ _ _ pe_int pa_nil (by rfl)) (by rfl)) (by decide) (by rfl) (by rfl)) (@pg_tupM _ _ _ _ _ 2 rfl (@pgs_cons _ _ _ _ _ (@pg_name _ _ (3) _ sc_law.nd rfl (by walk_at "o") (by walk_at "o")) (@pgs_cons _ _ _ _ _ (@pg_name _ _ (4) _ sc_law.nd rfl (by walk_at "o") (by walk_at "o")) pgs_nil (by rfl)) (by rfl)) (by rfl) (by rfl)) (by rfl) (by rfl) (by rfl)) (@pss_mid _ _ _ _ _ (@ps_if _ _ _ _ _ _ _ _ (@pt_cmpR _ _ _ _ _ _ _ _ op_eq (@pe_cal _ _ _ _ _ _ _ _ _ _ C_l_take hr rfl (@pa_cons _ _ _ _ _ (pv 2) (@pa_cons _ _ _ _ _ pe_int pa_nil (by rfl)) (by rfl)) (by decide) (by rfl) (by rfl)) pe_int (@nomark _ _ (by decide) (by decide))) (@pss_one _ _ _ (@ps_set _ _ (3) _ _ _ _ sc_law.nd rfl (by walk_at "o") (@pe_cal _ _ _ _ _ _ _ _ _ _ C_l_longer hr rfl (@pa_cons _ _ _ _ _ (pv 2) (@pa_cons _ _ _ _ _ (pv 3) pa_nil (by rfl)) (by rfl)) (by decide) (by rfl) (by rfl)) (by rfl) (by walk_at "o"))) pss_nil) (@pss_cons _ _ _ _ _ (@ps_set _ _ (5) _ _ _ _ sc_law.nd rfl (by walk_at "o") (@pe_tup _ _ _ _ _ (@pa_cons _ _ _ _ _ (@pe_ix _ _ _ _ _ _ _ ix_U (pv 3) pe_int (fun _ _=>rfl)) (@pa_cons _ _ _ _ _ (@pe_callTy _ _ _ _ _ _ _ _ _ call_list_of rfl B.list bo_list (@pa_cons _ _ _ _ _ (@pe_ix _ _ _ _ _ _ _ ix_U (pv 3) pe_int (fun _ _=>rfl)) pa_nil (by rfl)) (by decide) (by decide) (by rfl) (by rfl)) (@pa_cons _ _ _ _ _ (@pe_callTy _ _ _ _ _ _ _ _ _ call_list_of rfl B.list bo_list (@pa_cons _ _ _ _ _ (@pe_ix _ _ _ _ _ _ _ ix_U (pv 3) pe_int (fun _ _=>rfl)) pa_nil (by rfl)) (by decide) (by decide) (by rfl) (by rfl)) pa_nil (by rfl)) (by rfl)) (by rfl))) (by rfl) (by walk_at "o")) (@pss_cons _ _ _ _ _ (@ps_set _ _ (6) _ _ _ _ sc_law.nd rfl (by walk_at "o") (@pe_cal _ _ _ _ _ _ _ _ _ _ C_l_counts hr rfl (@pa_cons _ _ _ _ _ (pv 3) pa_nil (by rfl)) (by decide) (by rfl) (by rfl)) (by rfl) (by walk_at "o")) (@pss_cons _ _ _ _ _ (@ps_set _ _ (7) _ _ _ _ sc_law.nd rfl (by walk_at "o") (@pe_cal _ _ _ _ _ _ _ _ _ _ C_ways hr rfl (@pa_cons _ _ _ _ _ (pv 5) pa_nil (by rfl)) (by decide) (by rfl) (by rfl)) (by rfl) (by walk_at "o")) (@pss_cons _ _ _ _ _ (@ps_if _ _ _ _ _ _ _ _ (@PW.pt _ _ _ (@pw_or _ _ _ _ _ _ _ (@pt_not _ _ _ _ (@pt_val _ _ _ (@pe_callB _ _ _ _ _ _ _ _ _ call_isI rfl B.isinstance bo_isinstance (@pa_cons _ _ _ _ _ (pv 7) (@pa_cons _ _ _ _ _ (@pe_bltn _ _ (.ty "list") _ _ rfl B.list bo_list rfl (by decide) (by decide)) pa_nil (by rfl)) (by rfl)) (by decide) (by decide) (by rfl) (by rfl)) (by intro _ ; rfl))) (@pw_or1 _ _ _ _ (@pt_cmpR _ _ _ _ _ _ _ _ (@op_neD _ _ hr) (pv 7) (pv 6) (@nomark _ _ (by decide) (by decide)))))) (@pss_one _ _ _ (@ps_ret _ _ _ _ pe_bl)) pss_nil) (@pss_cons _ _ _ _ _ (@ps_if _ _ _ _ _ _ _ _ (@pt_not _ _ _ _ (@pt_val _ _ _ (@pe_callB _ _ _ _ _ _ _ _ _ (@call_all _ rfl) rfl B.all bo_all (@pa_cons _ _ _ _ _ (@pe_comp0 _ _ _ _ _ _ _ _ (["_law_part"]) (1) ([]) _ _ _ rfl (@pi_list _ _ _ _ (pv 7)) (fun nd C s H fp=>⟨(@pg_name _ _ (0) _ nd rfl (by walk_at "o") (by walk_at "o")),pn_nil,(@pe_and _ _ _ _ _ _ _ (@pe_callB _ _ _ _ _ _ _ _ _ (@call_isIK _ K (by rfl)) rfl B.isinstance bo_isinstance (@pa_cons _ _ _ _ _ (pv 0) (@pa_cons _ _ _ _ _ (@pe_bltn _ _ (.ty "int") _ _ rfl B.int bo_int rfl (by decide) (by decide)) pa_nil (by rfl)) (by rfl)) (by decide) (by decide) (by rfl) (by rfl)) (@pe_one _ _ _ _ _ (@pe_not _ _ _ _ (@pe_callB _ _ _ _ _ _ _ _ _ (@call_isIK _ K (by rfl)) rfl B.isinstance bo_isinstance (@pa_cons _ _ _ _ _ (pv 0) (@pa_cons _ _ _ _ _ (@pe_bltn _ _ (.ty "bool") _ _ rfl B.bool bo_bool rfl (by decide) (by decide)) pa_nil (by rfl)) (by rfl)) (by decide) (by decide) (by rfl) (by rfl)))))⟩) (by decide +kernel) (by first | rfl | decide +kernel) (by first | rfl | decide +kernel) rfl (fun _=>rfl)) pa_nil (by rfl)) (by decide) (by decide) (by rfl) (by rfl)) (by intro _ ; rfl))) (@pss_one _ _ _ (@ps_ret _ _ _ _ pe_bl)) pss_nil) (@pss_mid _ _ _ _ _ (@ps_for _ _ _ _ _ _ _ _ PassesOwn.never rfl (@pi_range1 _ _ _ _ _ _ rfl B.range (@pa_cons _ _ _ _ _ (@pe_callB _ _ _ _ _ _ _ _ _ call_lenM rfl B.len bo_len (@pa_cons _ _ _ _ _ (@pe_ix _ _ _ _ _ _ _ ix_U (pv 3) pe_int (fun _ _=>rfl)) pa_nil (by rfl)) (by decide) (by decide) (by rfl) (by rfl)) pa_nil (by rfl)) (by rfl)) (@pg_name _ _ (8) _ sc_law.nd rfl (by walk_at "o") (by walk_at "o")) (@pss_one _ _ _ (@ps_if _ _ _ _ _ _ _ _ (@pt_not _ _ _ _ (@pt_val _ _ _ (@pe_cal _ _ _ _ _ _ _ _ _ _ C_l_out_right hr rfl (@pa_cons _ _ _ _ _ (pv 5) (@pa_cons _ _ _ _ _ (pv 8) (@pa_cons _ _ _ _ _ (pv 6) pa_nil (by rfl)) (by rfl)) (by rfl)) (by decide) (by rfl) (by rfl)) (by intro _ ; rfl))) (@pss_one _ _ _ (@ps_ret _ _ _ _ pe_bl)) pss_nil)) (by intro _ ; rfl)) (@pss_one _ _ _ (@ps_if _ _ _ _ _ _ _ _ (@PW.pt _ _ _ (@pw_or _ _ _ _ _ _ _ (@pt_cmpR _ _ _ _ _ _ _ _ (@op_neD _ _ hr) (pv 5) (pv 3) (@nomark _ _ (by decide) (by decide))) (@pw_or1 _ _ _ _ (@pt_cmpR _ _ _ _ _ _ _ _ (@op_neD _ _ hr) (@pe_cal _ _ _ _ _ _ _ _ _ _ C_ways hr rfl (@pa_cons _ _ _ _ _ (pv 5) pa_nil (by rfl)) (by decide) (by rfl) (by rfl)) (pv 6) (@nomark _ _ (by decide) (by decide)))))) (@pss_one _ _ _ (@ps_ret _ _ _ _ pe_bl)) pss_nil))))))))))) (by intro _ ; rfl)) (@pss_cons _ _ _ _ _ (@ps_set _ _ (9) _ _ _ _ sc_law.nd rfl (by walk_at "o") (@pe_tup _ _ _ _ _ (@pa_cons _ _ _ _ _ pe_int (@pa_cons _ _ _ _ _ (@pe_comp0 _ _ _ _ _ _ _ _ (["_law_k"]) (1) ([]) _ _ _ rfl (@pi_range1 _ _ _ _ _ _ rfl B.range (@pa_cons _ _ _ _ _ pe_int pa_nil (by rfl)) (by rfl)) (fun nd C s H fp=>⟨(@pg_name _ _ (0) _ nd rfl (by walk_at "o") (by walk_at "o")),pn_nil,(@pe_tup _ _ _ _ _ (@pa_cons _ _ _ _ _ pe_str (@pa_cons _ _ _ _ _ (pv 0) (@pa_cons _ _ _ _ _ pe_int (@pa_cons _ _ _ _ _ (pv 0) (@pa_cons _ _ _ _ _ pe_int pa_nil (by rfl)) (by rfl)) (by rfl)) (by rfl)) (by rfl)))⟩) (by decide +kernel) (by first | rfl | decide +kernel) (by first | rfl | decide +kernel) rfl (fun _=>rfl)) (@pa_cons _ _ _ _ _ (@pe_lst _ _ _ _ (@pa_cons _ _ _ _ _ (@pe_tup _ _ _ _ _ (@pa_cons _ _ _ _ _ pe_int (@pa_cons _ _ _ _ _ pe_int (@pa_cons _ _ _ _ _ pe_int pa_nil (by rfl)) (by rfl)) (by rfl))) (@pa_cons _ _ _ _ _ (@pe_tup _ _ _ _ _ (@pa_cons _ _ _ _ _ pe_int (@pa_cons _ _ _ _ _ pe_int (@pa_cons _ _ _ _ _ pe_int pa_nil (by rfl)) (by rfl)) (by rfl))) (@pa_cons _ _ _ _ _ (@pe_tup _ _ _ _ _ (@pa_cons _ _ _ _ _ pe_int (@pa_cons _ _ _ _ _ pe_int (@pa_cons _ _ _ _ _ pe_int pa_nil (by rfl)) (by rfl)) (by rfl))) pa_nil (by rfl)) (by rfl)) (by rfl))) pa_nil (by rfl)) (by rfl)) (by rfl))) (by rfl) (by walk_at "o")) (@pss_cons _ _ _ _ _ (@ps_if _ _ _ _ _ _ _ _ (@PW.pt _ _ _ (@pw_or _ _ _ _ _ _ _ (@pt_cmpR _ _ _ _ _ _ _ _ (@op_neD _ _ hr) (@pe_cal _ _ _ _ _ _ _ _ _ _ C_ways hr rfl (@pa_cons _ _ _ _ _ (pv 9) pa_nil (by rfl)) (by decide) (by rfl) (by rfl)) (@pe_comp0 _ _ _ _ _ _ _ _ (["_law_k"]) (1) ([]) _ _ _ rfl (@pi_range1 _ _ _ _ _ _ rfl B.range (@pa_cons _ _ _ _ _ pe_int pa_nil (by rfl)) (by rfl)) (fun nd C s H fp=>⟨(@pg_name _ _ (0) _ nd rfl (by walk_at "o") (by walk_at "o")),pn_nil,(@pe_op _ _ _ _ _ _ _ _ op_shlB pe_int (pv 0))⟩) (by decide +kernel) (by first | rfl | decide +kernel) (by first | rfl | decide +kernel) rfl (fun _=>rfl)) (@nomark _ _ (by decide) (by decide))) (@pw_or1 _ _ _ _ (@pt_cmpR _ _ _ _ _ _ _ _ op_ne (@pe_callB _ _ _ _ _ _ _ _ _ call_lenM rfl B.len bo_len (@pa_cons _ _ _ _ _ (@pe_cal _ _ _ _ _ _ _ _ _ _ C_terms hr rfl (@pa_cons _ _ _ _ _ (pv 9) (@pa_cons _ _ _ _ _ pe_int pa_nil (by rfl)) (by rfl)) (by decide) (by rfl) (by rfl)) pa_nil (by rfl)) (by decide) (by decide) (by rfl) (by rfl)) pe_int (@nomark _ _ (by decide) (by decide)))))) (@pss_one _ _ _ (@ps_ret _ _ _ _ pe_bl)) pss_nil) (@pss_cons _ _ _ _ _ (@ps_setComp0 _ _ _ _ (10) _ _ _ _ _ _ _ (["_law_k"]) (1) ([]) _ _ _ rfl (@pi_range1 _ _ _ _ _ _ rfl B.range (@pa_cons _ _ _ _ _ pe_int pa_nil (by rfl)) (by rfl)) (fun nd C s H fp=>⟨(@pg_name _ _ (0) _ nd rfl (by walk_at "o") (by walk_at "o")),pn_nil,(@pe_tup _ _ _ _ _ (@pa_cons _ _ _ _ _ pe_str (@pa_cons _ _ _ _ _ (pv 0) (@pa_cons _ _ _ _ _ pe_int (@pa_cons _ _ _ _ _ (pv 0) (@pa_cons _ _ _ _ _ pe_int pa_nil (by rfl)) (by rfl)) (by rfl)) (by rfl)) (by rfl)))⟩) (by decide +kernel) (by first | rfl | decide +kernel) (by first | rfl | decide +kernel) rfl (fun _=>rfl) sc_law.nd rfl (by walk_at "o") (by walk_at "o") rfl) (@pss_cons _ _ _ _ _ (@ps_set _ _ (11) _ _ _ _ sc_law.nd rfl (by walk_at "o") (@pe_lst _ _ _ _ (@pa_cons _ _ _ _ _ (@pe_tup _ _ _ _ _ (@pa_cons _ _ _ _ _ pe_str (@pa_cons _ _ _ _ _ pe_int (@pa_cons _ _ _ _ _ pe_int (@pa_cons _ _ _ _ _ pe_int (@pa_cons _ _ _ _ _ pe_int pa_nil (by rfl)) (by rfl)) (by rfl)) (by rfl)) (by rfl))) (@pa_cons _ _ _ _ _ (@pe_tup _ _ _ _ _ (@pa_cons _ _ _ _ _ pe_str (@pa_cons _ _ _ _ _ pe_int (@pa_cons _ _ _ _ _ pe_int (@pa_cons _ _ _ _ _ pe_int (@pa_cons _ _ _ _ _ pe_int pa_nil (by rfl)) (by rfl)) (by rfl)) (by rfl)) (by rfl))) (@pa_cons _ _ _ _ _ (@pe_tup _ _ _ _ _ (@pa_cons _ _ _ _ _ pe_str (@pa_cons _ _ _ _ _ pe_int (@pa_cons _ _ _ _ _ pe_int (@pa_cons _ _ _ _ _ pe_int (@pa_cons _ _ _ _ _ pe_int pa_nil (by rfl)) (by rfl)) (by rfl)) (by rfl)) (by rfl))) (@pa_cons _ _ _ _ _ (@pe_tup _ _ _ _ _ (@pa_cons _ _ _ _ _ pe_str (@pa_cons _ _ _ _ _ pe_int (@pa_cons _ _ _ _ _ pe_int (@pa_cons _ _ _ _ _ pe_int (@pa_cons _ _ _ _ _ pe_int pa_nil (by rfl)) (by rfl)) (by rfl)) (by rfl)) (by rfl))) (@pa_cons _ _ _ _ _ (@pe_tup _ _ _ _ _ (@pa_cons _ _ _ _ _ pe_str (@pa_cons _ _ _ _ _ pe_int (@pa_cons _ _ _ _ _ pe_int (@pa_cons _ _ _ _ _ pe_int (@pa_cons _ _ _ _ _ pe_int pa_nil (by rfl)) (by rfl)) (by rfl)) (by rfl)) (by rfl))) pa_nil (by rfl)) (by rfl)) (by rfl)) (by rfl)) (by rfl))) (by rfl) (by walk_at "o")) (@pss_cons _ _ _ _ _ (@ps_set _ _ (12) _ _ _ _ sc_law.nd rfl (by walk_at "o") (@pe_lst _ _ _ _ (@pa_cons _ _ _ _ _ (@pe_tup _ _ _ _ _ (@pa_cons _ _ _ _ _ pe_str (@pa_cons _ _ _ _ _ pe_int (@pa_cons _ _ _ _ _ pe_int (@pa_cons _ _ _ _ _ pe_int (@pa_cons _ _ _ _ _ pe_int pa_nil (by rfl)) (by rfl)) (by rfl)) (by rfl)) (by rfl))) (@pa_cons _ _ _ _ _ (@pe_tup _ _ _ _ _ (@pa_cons _ _ _ _ _ pe_str (@pa_cons _ _ _ _ _ pe_int (@pa_cons _ _ _ _ _ pe_int (@pa_cons _ _ _ _ _ pe_int (@pa_cons _ _ _ _ _ pe_int pa_nil (by rfl)) (by rfl)) (by rfl)) (by rfl)) (by rfl))) (@pa_cons _ _ _ _ _ (@pe_tup _ _ _ _ _ (@pa_cons _ _ _ _ _ pe_str (@pa_cons _ _ _ _ _ pe_int (@pa_cons _ _ _ _ _ pe_int (@pa_cons _ _ _ _ _ pe_int (@pa_cons _ _ _ _ _ pe_int pa_nil (by rfl)) (by rfl)) (by rfl)) (by rfl)) (by rfl))) pa_nil (by rfl)) (by rfl)) (by rfl))) (by rfl) (by walk_at "o")) (@pss_cons _ _ _ _ _ (@ps_set _ _ (13) _ _ _ _ sc_law.nd rfl (by walk_at "o") (@pe_tup _ _ _ _ _ (@pa_cons _ _ _ _ _ pe_int (@pa_cons _ _ _ _ _ (@pe_op _ _ _ _ _ _ _ _ op_cat (@pe_op _ _ _ _ _ _ _ _ op_cat (pv 10) (pv 11)) (pv 12)) (@pa_cons _ _ _ _ _ (@pe_lst _ _ _ _ (@pa_cons _ _ _ _ _ (@pe_tup _ _ _ _ _ (@pa_cons _ _ _ _ _ pe_int (@pa_cons _ _ _ _ _ pe_int (@pa_cons _ _ _ _ _ (@pe_un _ _ _ _ _ _ un_neg pe_int) pa_nil (by rfl)) (by rfl)) (by rfl))) (@pa_cons _ _ _ _ _ (@pe_tup _ _ _ _ _ (@pa_cons _ _ _ _ _ pe_int (@pa_cons _ _ _ _ _ pe_int (@pa_cons _ _ _ _ _ pe_int pa_nil (by rfl)) (by rfl)) (by rfl))) pa_nil (by rfl)) (by rfl))) pa_nil (by rfl)) (by rfl)) (by rfl))) (by rfl) (by walk_at "o")) (@pss_cons _ _ _ _ _ (@ps_if _ _ _ _ _ _ _ _ (@PW.pt _ _ _ (@pw_or _ _ _ _ _ _ _ (@pt_cmpR _ _ _ _ _ _ _ _ (@op_neD _ _ hr) (@pe_slice _ _ _ _ _ _ _ _ _ _ sl_list (@pe_cal _ _ _ _ _ _ _ _ _ _ C_ways hr rfl (@pa_cons _ _ _ _ _ (pv 13) pa_nil (by rfl)) (by decide) (by rfl) (by rfl)) (@po_some _ _ _ pe_int) po_none) (@pe_lst _ _ _ _ (@pa_cons _ _ _ _ _ pe_int (@pa_cons _ _ _ _ _ pe_int (@pa_cons _ _ _ _ _ pe_int pa_nil (by rfl)) (by rfl)) (by rfl))) (@nomark _ _ (by decide) (by decide))) (@pw_or1 _ _ _ _ (@pt_cmpR _ _ _ _ _ _ _ _ (@op_neD _ _ hr) (@pe_cal _ _ _ _ _ _ _ _ _ _ C_terms hr rfl (@pa_cons _ _ _ _ _ (pv 13) (@pa_cons _ _ _ _ _ pe_int pa_nil (by rfl)) (by rfl)) (by decide) (by rfl) (by rfl)) (@pe_cal _ _ _ _ _ _ _ _ _ _ C_l_gone hr rfl (@pa_cons _ _ _ _ _ (pv 13) (@pa_cons _ _ _ _ _ (@pe_tup _ _ _ _ _ (@pa_cons _ _ _ _ _ pe_int (@pa_cons _ _ _ _ _ pe_int (@pa_cons _ _ _ _ _ (@pe_un _ _ _ _ _ _ un_neg pe_int) pa_nil (by rfl)) (by rfl)) (by rfl))) pa_nil (by rfl)) (by rfl)) (by decide) (by rfl) (by rfl)) (@nomark _ _ (by decide) (by decide)))))) (@pss_one _ _ _ (@ps_ret _ _ _ _ pe_bl)) pss_nil) (@pss_one _ _ _ (@ps_ret _ _ _ _ (@pe_and _ _ _ _ _ _ _ (@pe_cal _ _ _ _ _ _ _ _ _ _ C_l_refused hr rfl (@pa_cons _ _ _ _ _ (pv 9) (@pa_cons _ _ _ _ _ pe_int pa_nil (by rfl)) (by rfl)) (by decide) (by rfl) (by rfl)) (@pe_and _ _ _ _ _ _ _ (@pe_cal _ _ _ _ _ _ _ _ _ _ C_l_refused hr rfl (@pa_cons _ _ _ _ _ (pv 9) (@pa_cons _ _ _ _ _ pe_int pa_nil (by rfl)) (by rfl)) (by decide) (by rfl) (by rfl)) (@pe_one _ _ _ _ _ (@pe_cal _ _ _ _ _ _ _ _ _ _ C_l_refused hr rfl (@pa_cons _ _ _ _ _ (pv 13) (@pa_cons _ _ _ _ _ pe_int pa_nil (by rfl)) (by rfl)) (by decide) (by rfl) (by rfl)))))))))))))))),?_⟩
 rw [show start ["_law_script","_law_k","_law_feed_here","_law_web_here","_law_rows","_law_handed","_law_counts_here","_law_found","_law_place","_law_chain","_law_doubled","_law_added","_law_last","_law_bound"] [.ref a]=[some (.ref a),none,none,none,none,none,none,none,none,none,none,none,none,none] from rfl]
 refine mid_of (fun σ H1=>∃ (o1 o2 o3 o4 o5 o6 o7 o8:Option V),σ = [some (V.ref a),o1,o2,o3,o4,o5,o6,o7,o8,none,none,none,none,none] /\ Same H H1) (fun N hN=>?_) ?_
 ·try walk_at "WP"
  refine ⟨_,hS.sq,_,_,⟨rfl,rfl⟩,_,_,⟨rfl,rfl⟩,?_⟩
  generalize hm:(if (if ((((ns.map V.int).length:Nat):Int)) < 10 then (((ns.map V.int).length:Nat):Int) else 10) > 1 then (if ((((ns.map V.int).length:Nat):Int)) < 10 then (((ns.map V.int).length:Nat):Int) else 10) else 1)=m
  have hm2:1 <= m /\ m <= 10:=by rw [← hm]; split <;> split <;> omega
  refine ⟨by omega,by omega,?_⟩
  refine forR (fun i σ H1=>∃ (o1 o2 o3 o4 o5 o6 o7 o8:Option V),σ = [some (V.ref a),o1,o2,o3,o4,o5,o6,o7,o8,none,none,none,none,none] /\ Same H H1) ⟨_,_,_,_,_,_,_,_,rfl,Same.refl _⟩ ?_ ?_
  ·rintro i σ H0 N2 hi ⟨o1,o2,o3,o4,o5,o6,o7,o8,rfl,s0⟩ hN2
   refine seq_inG fun R_ hR_=>?_
   try walk_at "WP"
   refine ⟨a,ns,0+(i:Int),rfl,hS.same s0,h63,by omega,by omega,fun p H1 np s1 F1=>?_⟩
   (try (walk_at "WP")); (try (refine seq_out hR_ ?_)); (try (refine seq_in fun R_ hR_=>?_)); (try (walk_at "WP"))
   refine ⟨p,0,8,rfl,F1,by decide,by decide,by decide,fun t w dl gl tb ins us ds os gs ts H2 nt nw nd ng ntb dg td tg ht W F htb hrs hk F2 C2=>?_⟩
   have s02:Same H0 H2:=fun b o e=>C2 b o (ne_of_none e np) (s1 b o e)
   have u1:=W.tup
   (iterate 5 ((try (walk_at "WP")); (try (simp only [ht,u1,qJs,qJt,qJl,qJd,exists_eq_left',exists_eq_left])))); (try (walk_at "WP"))
   (try (walk_at "WP")); (try (refine seq_out hR_ ?_)); (try (refine seq_in fun R_ hR_=>?_)); (try (walk_at "WP"))
   refine mid_of (fun σ H3=>∃ (w dl gl:Addr) (ins:Nat) (us:List V) (ds:List Wd) (os:List V) (gs:List Go),σ = [some (V.ref a),some (V.int (0+(i:Int))),some (V.ref p),some (V.ref w),some (V.ref tb),o5,o6,o7,o8,none,none,none,none,none] /\ Same H0 H3 /\ Wb H3 w dl gl ins us ds os gs /\ W17 ins ds gs) (fun N3 hN3=>?_) ?_
   ·try walk_at "WP"
    refine take_ F2 (by omega) (by decide) (by decide) fun r H3 r0 r1 F3 C3=>?_
    obtain ⟨fl,hfl⟩:=F2.lst
    have dlp:dl ≠ p:=F1.ne nd
    have glp:gl ≠ p:=F1.ne ng
    have W3:=W.chg hfl dlp glp C3
    have s03:Same H0 H3:=fun b o e=>C3 b o (ne_of_none e np) (s02 b o e)
    try walk_at "WP"
    refine ite2 (fun z=>?_) (fun z=>?_)
    ·refine ⟨p,w,dl,gl,_,ins,us,ds,os,gs,rfl,F3,by omega,W3,F.w17,by omega,dlp,glp,fun r4 dl4 gl4 us4 ds4 os4 gs4 H4 W4 hW4 _ _ F4 C4=>?_⟩
     try walk_at "WP"
     exact hN3 _ _ ⟨r4,dl4,gl4,ins,us4,ds4,os4,gs4,rfl,fun b o e=>C4 b o (ne_of_none e np) (s03 b o e),W4,hW4⟩
    ·exact hN3 _ _ ⟨w,dl,gl,ins,us,ds,os,gs,rfl,s03,W3,F.w17⟩
   clear ht W F htb hrs hk F2 C2 s02 u1
   rintro σ H3 ⟨w,dl,gl,ins,us,ds,os,gs,rfl,s03,W,hW⟩
   have i12:=hW.i12
   have d60:=hW.dl
   have g12:=hW.gl
   have u1:=W.tup
   (try (walk_at "WP")); (try (refine seq_out hR_ ?_)); (try (refine seq_in fun R_ hR_=>?_)); (iterate 5 ((try (walk_at "WP")); (try (simp only [u1,qJs,qJt,qJl,qJd,exists_eq_left',exists_eq_left])))); (try (walk_at "WP"))
   refine ⟨us,.inl (SqL.of W.dll),fun l1 hl1=>?_⟩
   have s4:=same_new hl1 (.lst us)
   have e1:(upd H3 l1 (.lst us)) l1=some (.lst us):=upd_same
   have u4:=s4 _ _ u1
   generalize upd H3 l1 (.lst us)=H4 at s4 e1 u4 ⊢
   (iterate 5 ((try (walk_at "WP")); (try (simp only [u4,qJs,qJt,qJl,qJd,exists_eq_left',exists_eq_left])))); (try (walk_at "WP"))
   refine ⟨os,.inl (SqL.of (s4 _ _ W.gll)),fun l2 hl2 ha hha=>?_⟩
   have s5:=same_new hl2 (.lst os)
   have s6':=same_new hha (.tup [V.int (ins:Int),V.ref l1,V.ref l2])
   have e1:=s6' _ _ (s5 _ _ e1)
   have e2:(upd (upd H4 l2 (.lst os)) ha (.tup [V.int (ins:Int),V.ref l1,V.ref l2])) l2=some (.lst os):=s6' _ _ upd_same
   have e3:(upd (upd H4 l2 (.lst os)) ha (.tup [V.int (ins:Int),V.ref l1,V.ref l2])) ha=some (.tup [V.int (ins:Int),V.ref l1,V.ref l2]):=upd_same
   have s6:=s4.trans (s5.trans s6')
   generalize upd (upd H4 l2 (.lst os)) ha (.tup [V.int (ins:Int),V.ref l1,V.ref l2])=H6 at s6 e1 e2 e3 ⊢
   have WH:Wb H6 ha l1 l2 ins us ds os gs:=⟨e3,e1,W.hds.same s6,e2,W.hgs.same s6⟩
   refine ⟨w,dl,gl,ins,us,ds,os,gs,rfl,W.same s6,hW,fun cn H7 nc s7 hc7=>?_⟩
   try walk_at "WP"
   refine ⟨ha,l1,l2,ins,us,ds,os,gs,rfl,(WH.same s7).wk,hW.dk,by omega,i12,fun fo H8 nf s8' hf8=>?_⟩
   have s8:=s7.trans s8'
   have c8:=s8' _ _ hc7
   (iterate 5 ((try (walk_at "WP")); (try (simp only [isI_ll,hf8,qJs,qJt,qJl,qJd,exists_eq_left',exists_eq_left])))); (try (walk_at "WP"))
   refine neLI (ns:=wyW ins ds) (ms:=wyW ins ds) (SqL.of hf8) (SqL.of c8) ?_
   try walk_at "WP"
   refine ⟨⟨_,SqL.of hf8⟩,?_⟩
   refine comp_L (f:=fun _=>some (V.bl true)) (SqL.of hf8) (by rw [qC,wyW_len]; exact le_big (by omega)) (fun y H' R hy hS' hR=>?_) (fun ac hac=>?_)
   ·obtain ⟨n,hn,rfl⟩:=qP.mp hy
    try walk_at "WP"
    exact hR
   rw [filterMap_some,List.map_const',qC]
   have s9':=same_new hac (.lst (qQ (wyW ins ds).length (V.bl true)))
   have a9:upd H8 ac (.lst (qQ (wyW ins ds).length (V.bl true))) ac=some (.lst ((qQ (wyW ins ds).length true).map V.bl)):=by rw [upd_same,List.map_replicate]
   have s9:=s8.trans s9'
   have c9:=s9' _ _ c8
   generalize upd H8 ac (.lst (qQ (wyW ins ds).length (V.bl true)))=H9 at a9 s9 c9 ⊢
   refine ⟨ac,_,rfl,a9,?_⟩
   rw [show ((qQ (wyW ins ds).length true).all id)=true by simp]
   try walk_at "WP"
   refine mid_of (fun σ H10=>∃ (o8:Option V),σ = [some (V.ref a),some (V.int (0+(i:Int))),some (V.ref p),some (V.ref w),some (V.ref tb),some (V.ref ha),some (V.ref cn),some (V.ref fo),o8,none,none,none,none,none] /\ Same H9 H10) (fun N3 hN3=>?_) ?_
   ·have u9:=s9 _ _ (s6 _ _ u1)
    have g9:=s9 _ _ (s6 _ _ W.gll)
    have ol:=W.hgs.len
    (iterate 5 ((try (walk_at "WP")); (try (simp only [u9,g9,qJs,qJt,qJl,qJd,exists_eq_left',exists_eq_left])))); (try (walk_at "WP"))
    refine ⟨by omega,by omega,?_⟩
    rw [Int.toNat_natCast]
    refine forR (fun k σ H10=>∃ (o8:Option V),σ = [some (V.ref a),some (V.int (0+(i:Int))),some (V.ref p),some (V.ref w),some (V.ref tb),some (V.ref ha),some (V.ref cn),some (V.ref fo),o8,none,none,none,none,none] /\ Same H9 H10) ⟨_,rfl,Same.refl _⟩ ?_ ?_
    ·rintro k σ H10 N4 hk ⟨o8',rfl,s10⟩ hN4
     rw [Int.zero_add]
     have hgk:gs[k]? = some gs[k]:=qA (by omega)
     try walk_at "WP"
     refine ⟨ha,l1,l2,cn,ins,us,ds,os,gs,gs[k],k,rfl,WH.same (s9.trans s10),hW,hgk,s10 _ _ c9,fun H11 s11=>?_⟩
     try walk_at "WP"
     exact hN4 _ _ ⟨_,rfl,s10.trans s11⟩
    ·rintro σ H10 ⟨o8',rfl,s10⟩
     exact hN3 _ _ ⟨o8',rfl,s10⟩
   rintro σ H10 ⟨o8',rfl,s10⟩
   have S10:=s9.trans s10
   try walk_at "WP"
   refine ne_webK (K:=K) (WH.same S10).wk ((W.same s6).same S10).wk ?_
   try walk_at "WP"
   refine ⟨ha,l1,l2,ins,us,ds,os,gs,rfl,(WH.same S10).wk,hW.dk,by omega,i12,fun fo2 H11 nf2 s11 hf11=>?_⟩
   dsimp only
   refine neLI (ns:=wyW ins ds) (ms:=wyW ins ds) (SqL.of hf11) (SqL.of (s11 _ _ (s10 _ _ c9))) ?_
   try walk_at "WP"
   exact hN2 _ _ ⟨_,_,_,_,_,_,_,_,rfl,s0.trans (s03.trans (s6.trans (S10.trans s11)))⟩
  ·rintro σ H1 ⟨o1,o2,o3,o4,o5,o6,o7,o8,rfl,s1⟩
   exact hN _ _ ⟨_,_,_,_,_,_,_,_,rfl,s1⟩
 ·rintro σ H1 ⟨o1,o2,o3,o4,o5,o6,o7,o8,rfl,s1⟩
  try walk_at "WP"
  refine comp_tups (f:=wTup) (xs:=rngV 0 60) dsC (by rw [rngV_len]; exact lenC) (by rw [rngV_len]; decide) (fun H' _=>it_R) (fun i x z H' R hx hz s' hR=>?_) (fun ch us H2 nc s2 hc htc=>?_)
  ·obtain ⟨rfl,hi⟩:=lnk_at hz
   rw [rngV_get hi] at hx
   cases hx
   try walk_at "WP"
   intro r hr0
   refine hR r _ hr0 (same_new hr0 _) ?_
   rw [upd_same]
   unfold wTup
   rw [Int.zero_add]
  intro t1 ht1 t2 ht2 t3 ht3 l1 hl1 w1 hw1
  have a1:=same_new ht1 (.tup [V.int 60,V.int 0,V.int 1])
  have a2:=same_new ht2 (.tup [V.int 8,V.int 0,V.int 1])
  have a3:=same_new ht3 (.tup [V.int 9,V.int 0,V.int 1])
  have a4:=same_new hl1 (.lst [V.ref t1,V.ref t2,V.ref t3])
  have a5:=same_new hw1 (.tup [V.int 1,V.ref ch,V.ref l1])
  have b1:=(a2.trans (a3.trans (a4.trans a5))) _ _ (show upd H2 t1 (.tup [V.int 60,V.int 0,V.int 1]) t1=some (.tup (gTp ⟨60,0,1⟩)) from upd_same)
  have b2:=(a3.trans (a4.trans a5)) _ _ (show (upd (upd H2 t1 (.tup [V.int 60,V.int 0,V.int 1])) t2 (.tup [V.int 8,V.int 0,V.int 1])) t2=some (.tup (gTp ⟨8,0,1⟩)) from upd_same)
  have b3:=(a4.trans a5) _ _ (show (upd (upd (upd H2 t1 (.tup [V.int 60,V.int 0,V.int 1])) t2 (.tup [V.int 8,V.int 0,V.int 1])) t3 (.tup [V.int 9,V.int 0,V.int 1])) t3=some (.tup (gTp ⟨9,0,1⟩)) from upd_same)
  have b4:=a5 _ _ (show (upd (upd (upd (upd H2 t1 (.tup [V.int 60,V.int 0,V.int 1])) t2 (.tup [V.int 8,V.int 0,V.int 1])) t3 (.tup [V.int 9,V.int 0,V.int 1])) l1 (.lst [V.ref t1,V.ref t2,V.ref t3])) l1=some (.lst [V.ref t1,V.ref t2,V.ref t3]) from upd_same)
  have b5:(upd (upd (upd (upd (upd H2 t1 (.tup [V.int 60,V.int 0,V.int 1])) t2 (.tup [V.int 8,V.int 0,V.int 1])) t3 (.tup [V.int 9,V.int 0,V.int 1])) l1 (.lst [V.ref t1,V.ref t2,V.ref t3])) w1 (.tup [V.int 1,V.ref ch,V.ref l1])) w1=some (.tup [V.int 1,V.ref ch,V.ref l1]):=upd_same
  have S3:=a1.trans (a2.trans (a3.trans (a4.trans a5)))
  generalize upd (upd (upd (upd (upd H2 t1 (.tup [V.int 60,V.int 0,V.int 1])) t2 (.tup [V.int 8,V.int 0,V.int 1])) t3 (.tup [V.int 9,V.int 0,V.int 1])) l1 (.lst [V.ref t1,V.ref t2,V.ref t3])) w1 (.tup [V.int 1,V.ref ch,V.ref l1])=H3 at b1 b2 b3 b4 b5 S3 ⊢
  have WC:Wb H3 w1 ch l1 1 us dsC [V.ref t1,V.ref t2,V.ref t3] gsC:=⟨b5,S3 _ _ hc,htc.same S3,b4,((hts_nil.snoc (x:=(⟨60,0,1⟩:Go)) b1).snoc (x:=(⟨8,0,1⟩:Go)) b2).snoc (x:=(⟨9,0,1⟩:Go)) b3⟩
  clear b1 b2 b3 b4 b5 a1 a2 a3 a4 a5 hc htc
  refine ⟨w1,ch,l1,1,us,dsC,_,gsC,rfl,WC.wk,dkC,by rw [lenC]; decide,by decide,fun r1 H4 n4 s4 h4=>?_⟩
  dsimp only
  refine comp_R (f:=liI fun n=>1 * 2 ^ n.toNat) (le_size (by omega)) (fun y H5 R5 hy s5 hR5=>?_) (fun acc hacc=>?_)
  ·obtain ⟨k,hk,rfl⟩:=qP.mp hy
   have hk2:k < 61:=List.mem_range.mp hk
   rw [show ∀ τ:St,capV [] τ = [] from fun _=>rfl]
   try walk_at "WP"
   exact ⟨⟨by omega,by omega⟩,hR5⟩
  have er:(rngV 0 61).filterMap (liI fun n=>1 * 2 ^ n.toNat)=(wyW 1 dsC).map V.int:=by
   rw [wyC,show rngV 0 61=((List.range 61).map fun (k:Nat)=>(0:Int)+(k:Int)).map V.int by unfold rngV; rw [List.map_map]; rfl,liI_map]
   refine congrArg (List.map V.int) ?_
   rw [List.map_map]
   refine List.map_congr_left fun k _=>?_
   show 1 * (2:Int) ^ (0+(k:Int)).toNat=_
   rw [Int.zero_add,Int.toNat_natCast,Int.one_mul]
  rw [er]
  have sa:=same_new hacc (.lst ((wyW 1 dsC).map V.int))
  refine neLI (ns:=wyW 1 dsC) (ms:=wyW 1 dsC) (SqL.of (sa _ _ h4)) (SqL.of upd_same) ?_
  have s5:=s4.trans sa
  generalize upd H4 acc (.lst ((wyW 1 dsC).map V.int))=H5 at s5 ⊢
  try walk_at "WP"
  refine ⟨w1,ch,l1,1,us,dsC,_,gsC,⟨8,0,1⟩,40,1,rfl,(WC.same s5).wk,rfl,.inr tokC,fun r2 ys2 qs2 H6 n6 s6' h6 ht6 pq6 sq6=>?_⟩
  have s6:=s5.trans s6'
  have l6:((ys2.length:Nat):Int)=256:=by
   have c:=tokC.cnt
   rw [ht6.len,pq6.length_eq]
   unfold tmO
   rw [if_neg (by decide),c]
   exact wyC8
  (iterate 5 ((try (walk_at "WP")); (try (simp only [h6,qJs,qJt,qJl,qJd,exists_eq_left',exists_eq_left])))); (try (walk_at "WP"))
  rw [if_neg (fun h=>h l6)]
  refine comp_tups (f:=wTup) (xs:=rngV 0 6) (lnk "sum" 6) (by rw [rngV_len,lnk_len]) (by rw [rngV_len]; decide) (fun H' _=>it_R) (fun i x z H' R hx hz s' hR=>?_) (fun db du H7 nd7 s7' hd7 htd7=>?_)
  ·obtain ⟨rfl,hi⟩:=lnk_at hz
   rw [rngV_get hi] at hx
   cases hx
   try walk_at "WP"
   intro r hr0
   refine hR r _ hr0 (same_new hr0 _) ?_
   rw [upd_same]
   unfold wTup
   rw [Int.zero_add]
  have S0:=s6.trans s7'
  intro a0 hna0
  have sa8:=same_new hna0 (.tup [V.str (Str.ofString "less"),V.int 6,V.int 0,V.int 5,V.int 1])
  have ba0:upd H7 a0 (.tup [V.str (Str.ofString "less"),V.int 6,V.int 0,V.int 5,V.int 1]) a0=some (.tup (wTup ⟨Str.ofString "less",6,0,5,1⟩)):=upd_same
  generalize upd H7 a0 (.tup [V.str (Str.ofString "less"),V.int 6,V.int 0,V.int 5,V.int 1])=H8 at sa8 ba0 ⊢
  intro a1 hna1
  have sa9:=same_new hna1 (.tup [V.str (Str.ofString "sum"),V.int 7,V.int 0,V.int 4,V.int 0])
  have ba1:upd H8 a1 (.tup [V.str (Str.ofString "sum"),V.int 7,V.int 0,V.int 4,V.int 0]) a1=some (.tup (wTup ⟨Str.ofString "sum",7,0,4,0⟩)):=upd_same
  generalize upd H8 a1 (.tup [V.str (Str.ofString "sum"),V.int 7,V.int 0,V.int 4,V.int 0])=H9 at sa9 ba1 ⊢
  intro a2 hna2
  have sa10:=same_new hna2 (.tup [V.str (Str.ofString "sum"),V.int 8,V.int 2,V.int 3,V.int 0])
  have ba2:upd H9 a2 (.tup [V.str (Str.ofString "sum"),V.int 8,V.int 2,V.int 3,V.int 0]) a2=some (.tup (wTup ⟨Str.ofString "sum",8,2,3,0⟩)):=upd_same
  generalize upd H9 a2 (.tup [V.str (Str.ofString "sum"),V.int 8,V.int 2,V.int 3,V.int 0])=H10 at sa10 ba2 ⊢
  intro a3 hna3
  have sa11:=same_new hna3 (.tup [V.str (Str.ofString "less"),V.int 9,V.int 0,V.int 2,V.int 0])
  have ba3:upd H10 a3 (.tup [V.str (Str.ofString "less"),V.int 9,V.int 0,V.int 2,V.int 0]) a3=some (.tup (wTup ⟨Str.ofString "less",9,0,2,0⟩)):=upd_same
  generalize upd H10 a3 (.tup [V.str (Str.ofString "less"),V.int 9,V.int 0,V.int 2,V.int 0])=H11 at sa11 ba3 ⊢
  intro a4 hna4
  have sa12:=same_new hna4 (.tup [V.str (Str.ofString "sum"),V.int 10,V.int 0,V.int 0,V.int 3])
  have ba4:upd H11 a4 (.tup [V.str (Str.ofString "sum"),V.int 10,V.int 0,V.int 0,V.int 3]) a4=some (.tup (wTup ⟨Str.ofString "sum",10,0,0,3⟩)):=upd_same
  generalize upd H11 a4 (.tup [V.str (Str.ofString "sum"),V.int 10,V.int 0,V.int 0,V.int 3])=H12 at sa12 ba4 ⊢
  intro al hnal
  have sa13:=same_new hnal (.lst [V.ref a0,V.ref a1,V.ref a2,V.ref a3,V.ref a4])
  have bal:upd H12 al (.lst [V.ref a0,V.ref a1,V.ref a2,V.ref a3,V.ref a4]) al=some (.lst [V.ref a0,V.ref a1,V.ref a2,V.ref a3,V.ref a4]):=upd_same
  generalize upd H12 al (.lst [V.ref a0,V.ref a1,V.ref a2,V.ref a3,V.ref a4])=H13 at sa13 bal ⊢
  intro c0 hnc0
  have sa14:=same_new hnc0 (.tup [V.str (Str.ofString "sum"),V.int 11,V.int 0,V.int 11,V.int 1])
  have bc0:upd H13 c0 (.tup [V.str (Str.ofString "sum"),V.int 11,V.int 0,V.int 11,V.int 1]) c0=some (.tup (wTup ⟨Str.ofString "sum",11,0,11,1⟩)):=upd_same
  generalize upd H13 c0 (.tup [V.str (Str.ofString "sum"),V.int 11,V.int 0,V.int 11,V.int 1])=H14 at sa14 bc0 ⊢
  intro c1 hnc1
  have sa15:=same_new hnc1 (.tup [V.str (Str.ofString "less"),V.int 12,V.int 3,V.int 12,V.int 0])
  have bc1:upd H14 c1 (.tup [V.str (Str.ofString "less"),V.int 12,V.int 3,V.int 12,V.int 0]) c1=some (.tup (wTup ⟨Str.ofString "less",12,3,12,0⟩)):=upd_same
  generalize upd H14 c1 (.tup [V.str (Str.ofString "less"),V.int 12,V.int 3,V.int 12,V.int 0])=H15 at sa15 bc1 ⊢
  intro c2 hnc2
  have sa16:=same_new hnc2 (.tup [V.str (Str.ofString "sum"),V.int 13,V.int 0,V.int 0,V.int 0])
  have bc2:upd H15 c2 (.tup [V.str (Str.ofString "sum"),V.int 13,V.int 0,V.int 0,V.int 0]) c2=some (.tup (wTup ⟨Str.ofString "sum",13,0,0,0⟩)):=upd_same
  generalize upd H15 c2 (.tup [V.str (Str.ofString "sum"),V.int 13,V.int 0,V.int 0,V.int 0])=H16 at sa16 bc2 ⊢
  intro cl hncl
  have sa17:=same_new hncl (.lst [V.ref c0,V.ref c1,V.ref c2])
  have bcl:upd H16 cl (.lst [V.ref c0,V.ref c1,V.ref c2]) cl=some (.lst [V.ref c0,V.ref c1,V.ref c2]):=upd_same
  generalize upd H16 cl (.lst [V.ref c0,V.ref c1,V.ref c2])=H17 at sa17 bcl ⊢
  have ba0:=(sa9.trans (sa10.trans (sa11.trans (sa12.trans (sa13.trans (sa14.trans (sa15.trans (sa16.trans (sa17))))))))) _ _ ba0
  have ba1:=(sa10.trans (sa11.trans (sa12.trans (sa13.trans (sa14.trans (sa15.trans (sa16.trans (sa17)))))))) _ _ ba1
  have ba2:=(sa11.trans (sa12.trans (sa13.trans (sa14.trans (sa15.trans (sa16.trans (sa17))))))) _ _ ba2
  have ba3:=(sa12.trans (sa13.trans (sa14.trans (sa15.trans (sa16.trans (sa17)))))) _ _ ba3
  have ba4:=(sa13.trans (sa14.trans (sa15.trans (sa16.trans (sa17))))) _ _ ba4
  have bal:=(sa14.trans (sa15.trans (sa16.trans (sa17)))) _ _ bal
  have bc0:=(sa15.trans (sa16.trans (sa17))) _ _ bc0
  have bc1:=(sa16.trans (sa17)) _ _ bc1
  have bc2:=(sa17) _ _ bc2
  have SX:=(sa8.trans (sa9.trans (sa10.trans (sa11.trans (sa12.trans (sa13.trans (sa14.trans (sa15.trans (sa16.trans (sa17))))))))))
  have hd8:=SX _ _ hd7
  have htd8:=htd7.same SX
  have htA:HTs wTup H17 [V.ref a0,V.ref a1,V.ref a2,V.ref a3,V.ref a4] dsA:=((((hts_nil.snoc ba0).snoc ba1).snoc ba2).snoc ba3).snoc ba4
  have htL:HTs wTup H17 [V.ref c0,V.ref c1,V.ref c2] dsL:=((hts_nil.snoc bc0).snoc bc1).snoc bc2
  have dul:=htd8.len
  rw [lnk_len] at dul
  (iterate 5 ((try (walk_at "WP")); (try (simp only [hd8,bal,bcl,qJs,qJt,qJl,qJd,exists_eq_left',exists_eq_left])))); (try (walk_at "WP"))
  refine ⟨le_size (by omega),fun j1 hj1=>?_⟩
  have sb1:=same_new hj1 (.lst (du ++ [V.ref a0,V.ref a1,V.ref a2,V.ref a3,V.ref a4]))
  have bcl:=sb1 _ _ bcl
  generalize upd H17 j1 (.lst (du ++ [V.ref a0,V.ref a1,V.ref a2,V.ref a3,V.ref a4]))=H18 at sb1 bcl ⊢
  refine ⟨_,bcl,by rw [qF]; show _+5+3 <= _; exact le_size (by omega),fun j2 hj2=>?_⟩
  have sb2:=same_new hj2 (.lst (du ++ [V.ref a0,V.ref a1,V.ref a2,V.ref a3,V.ref a4] ++ [V.ref c0,V.ref c1,V.ref c2]))
  have bj2:upd H18 j2 (.lst (du ++ [V.ref a0,V.ref a1,V.ref a2,V.ref a3,V.ref a4] ++ [V.ref c0,V.ref c1,V.ref c2])) j2=some (.lst (du ++ [V.ref a0,V.ref a1,V.ref a2,V.ref a3,V.ref a4] ++ [V.ref c0,V.ref c1,V.ref c2])):=upd_same
  generalize upd H18 j2 (.lst (du ++ [V.ref a0,V.ref a1,V.ref a2,V.ref a3,V.ref a4] ++ [V.ref c0,V.ref c1,V.ref c2]))=H19 at sb2 bj2 ⊢
  intro g1 hg1
  have sb3:=same_new hg1 (.tup [V.int 13,V.int 1,V.int (-1)])
  have bg1:upd H19 g1 (.tup [V.int 13,V.int 1,V.int (-1)]) g1=some (.tup (gTp ⟨13,1,-1⟩)):=upd_same
  generalize upd H19 g1 (.tup [V.int 13,V.int 1,V.int (-1)])=H20 at sb3 bg1 ⊢
  intro g2 hg2
  have sb4:=same_new hg2 (.tup [V.int 14,V.int 0,V.int 1])
  have bg2:upd H20 g2 (.tup [V.int 14,V.int 0,V.int 1]) g2=some (.tup (gTp ⟨14,0,1⟩)):=upd_same
  generalize upd H20 g2 (.tup [V.int 14,V.int 0,V.int 1])=H21 at sb4 bg2 ⊢
  intro gl hgl
  have sb5:=same_new hgl (.lst [V.ref g1,V.ref g2])
  have bgl:upd H21 gl (.lst [V.ref g1,V.ref g2]) gl=some (.lst [V.ref g1,V.ref g2]):=upd_same
  generalize upd H21 gl (.lst [V.ref g1,V.ref g2])=H22 at sb5 bgl ⊢
  intro w2 hw2
  have sb6:=same_new hw2 (.tup [V.int 1,V.ref j2,V.ref gl])
  have bw2:upd H22 w2 (.tup [V.int 1,V.ref j2,V.ref gl]) w2=some (.tup [V.int 1,V.ref j2,V.ref gl]):=upd_same
  generalize upd H22 w2 (.tup [V.int 1,V.ref j2,V.ref gl])=H23 at sb6 bw2 ⊢
  have SY:=sb1.trans (sb2.trans (sb3.trans (sb4.trans (sb5.trans sb6))))
  have WB:Wb H23 w2 j2 gl 1 (du ++ [V.ref a0,V.ref a1,V.ref a2,V.ref a3,V.ref a4] ++ [V.ref c0,V.ref c1,V.ref c2]) dsB [V.ref g1,V.ref g2] gsB:=⟨bw2,(sb3.trans (sb4.trans (sb5.trans sb6))) _ _ bj2,((htd8.app htA).app htL).same SY,sb6 _ _ bgl,(hts_nil.snoc (x:=(⟨13,1,-1⟩:Go)) ((sb4.trans (sb5.trans sb6)) _ _ bg1)).snoc (x:=(⟨14,0,1⟩:Go)) ((sb5.trans sb6) _ _ bg2)⟩
  have S23:=S0.trans (SX.trans SY)
  refine ⟨w2,j2,gl,1,_,dsB,_,gsB,rfl,WB.wk,dkB,by decide,by decide,fun r3 H24 n24 s24 h24=>?_⟩
  dsimp only
  rw [w_slL]
  refine ⟨_,SqL.of h24,fun p6 hp6 p7 hp7=>?_⟩
  have ec:cutV ((wyW 1 dsB).map V.int) (some 12) none=[250,500,501].map V.int:=by
   rw [← wyB,List.map_drop]
   exact cut_drop (n:=12) (by rw [qC,wyW_len]; decide)
  rw [ec] at hp7 ⊢
  have s25:=same_new hp6 (.lst ([250,500,501].map V.int))
  have s26:=same_new hp7 (.lst [V.int 250,V.int 500,V.int 501])
  refine neLI (ns:=[250,500,501]) (ms:=[250,500,501]) (SqL.of (s26 _ _ upd_same)) (SqL.of upd_same) ?_
  have S26:=s24.trans (s25.trans s26)
  generalize upd (upd H24 p6 (.lst ([250,500,501].map V.int))) p7 (.lst [V.int 250,V.int 500,V.int 501])=H26 at S26 ⊢
  try walk_at "WP"
  refine ⟨w2,j2,gl,1,_,dsB,_,gsB,⟨13,1,-1⟩,40,0,rfl,(WB.same S26).wk,rfl,.inr tokB,fun r4 ys4 qs4 H27 n27 s27 h27 ht27 pq27 sq27=>?_⟩
  dsimp only
  intro p8 hp8
  have s28:=same_new hp8 (.tup [V.int 13,V.int 1,V.int (-1)])
  have b28:upd H27 p8 (.tup [V.int 13,V.int 1,V.int (-1)]) p8=some (.tup (gTp ⟨13,1,-1⟩)):=upd_same
  have h28:=s28 _ _ h27
  have ht28:=ht27.same s28
  have S28:=S26.trans (s27.trans s28)
  generalize upd H27 p8 (.tup [V.int 13,V.int 1,V.int (-1)])=H28 at b28 h28 ht28 S28 ⊢
  refine ⟨w2,p8,j2,gl,1,_,dsB,_,gsB,⟨13,1,-1⟩,rfl,WB.same S28,b28,tokB,fun r5 ys5 qs5 H29 n29 s29 h29 ht29 pq29 sq29=>?_⟩
  have e29:qs5=qs4:=by
   unfold tmO at pq27
   rw [if_neg (by decide)] at pq27
   exact (lex_same (pq27.trans (tokB.gone.trans pq29.symm)) sq27 sq29).symm
  subst e29
  dsimp only
  refine ne_tups (fun a=>flat_ints a) (s29 _ _ h28) (ht28.same s29) h29 ht29 ?_
  have S29:=S28.trans s29
  have SC:=S23.trans S29
  try walk_at "WP"
  refine ⟨w1,ch,l1,1,us,dsC,_,gsC,⟨60,0,1⟩,0,rfl,(WC.same SC).wk,rfl,by decide,by rw [lenC]; decide,dkC,by rw [lenC]; decide,by decide,by rw [wyC60]; decide,fun H30 s30=>?_⟩
  try walk_at "WP"
  refine ⟨w1,ch,l1,1,us,dsC,_,gsC,⟨9,0,1⟩,2,rfl,((WC.same SC).same s30).wk,rfl,by decide,by rw [lenC]; decide,dkC,by rw [lenC]; decide,by decide,by rw [wyC9]; decide,fun H31 s31=>?_⟩
  try walk_at "WP"
  refine ⟨w2,j2,gl,1,_,dsB,_,gsB,⟨14,0,1⟩,1,rfl,(((WB.same S29).same s30).same s31).wk,rfl,by decide,by decide,dkB,by decide,by decide,by rw [wyB14]; decide,fun H32 s32=>?_⟩
  exact q _
end
theorem ln1 {α:Type}{us:List α}(h:us.length=1):∃ a0,us=[a0]:=match us,h with | [a0],_=>⟨a0,rfl⟩
theorem ln2 {α:Type}{us:List α}(h:us.length=2):∃ a0 a1,us=[a0,a1]:=match us,h with | [a0,a1],_=>⟨a0,a1,rfl⟩
theorem ln3 {α:Type}{us:List α}(h:us.length=3):∃ a0 a1 a2,us=[a0,a1,a2]:=match us,h with | [a0,a1,a2],_=>⟨a0,a1,a2,rfl⟩
theorem all_mk {l:PySem.W.OpenLaw} {w:World} {K:PySem.W.Frag} {h:Heap} {mg:Str -> Option Value} {fa:Addr} (X:K.In h) (G:h.Ns mainGlobals mg) (hfa:mg "law" = some (.ref fa))
  {f1:Addr} {od1 an1:Option Addr} {sl1:Array (Option Value)} {oc1 kV1 dc1 pm1 cd1 ct1:Value} {f2:Addr} {od2 an2:Option Addr} {sl2:Array (Option Value)} {oc2 kV2 dc2 pm2 cd2 ct2:Value} {f3:Addr} {od3 an3:Option Addr} {sl3:Array (Option Value)} {oc3 kV3 dc3 pm3 cd3 ct3:Value} {f4:Addr} {od4 an4:Option Addr} {sl4:Array (Option Value)} {oc4 kV4 dc4 pm4 cd4 ct4:Value} {f5:Addr} {od5 an5:Option Addr} {sl5:Array (Option Value)} {oc5 kV5 dc5 pm5 cd5 ct5:Value} {f6:Addr} {od6 an6:Option Addr} {sl6:Array (Option Value)} {oc6 kV6 dc6 pm6 cd6 ct6:Value} {f7:Addr} {od7 an7:Option Addr} {sl7:Array (Option Value)} {oc7 kV7 dc7 pm7 cd7 ct7:Value} {f8:Addr} {od8 an8:Option Addr} {sl8:Array (Option Value)} {oc8 kV8 dc8 pm8 cd8 ct8:Value} {f9:Addr} {od9 an9:Option Addr} {sl9:Array (Option Value)} {oc9 kV9 dc9 pm9 cd9 ct9:Value} {f10:Addr} {od10 an10:Option Addr} {sl10:Array (Option Value)} {oc10 kV10 dc10 pm10 cd10 ct10:Value} {f11:Addr} {od11 an11:Option Addr} {sl11:Array (Option Value)} {oc11 kV11 dc11 pm11 cd11 ct11:Value} {f12:Addr} {od12 an12:Option Addr} {sl12:Array (Option Value)} {oc12 kV12 dc12 pm12 cd12 ct12:Value} {f13:Addr} {od13 an13:Option Addr} {sl13:Array (Option Value)} {oc13 kV13 dc13 pm13 cd13 ct13:Value} {f14:Addr} {od14 an14:Option Addr} {sl14:Array (Option Value)} {oc14 kV14 dc14 pm14 cd14 ct14:Value} {f15:Addr} {od15 an15:Option Addr} {sl15:Array (Option Value)} {oc15 kV15 dc15 pm15 cd15 ct15:Value} {f16:Addr} {od16 an16:Option Addr} {sl16:Array (Option Value)} {oc16 kV16 dc16 pm16 cd16 ct16:Value} {f17:Addr} {od17 an17:Option Addr} {sl17:Array (Option Value)} {oc17 kV17 dc17 pm17 cd17 ct17:Value} {f18:Addr} {od18 an18:Option Addr} {sl18:Array (Option Value)} {oc18 kV18 dc18 pm18 cd18 ct18:Value} {f19:Addr} {od19 an19:Option Addr} {sl19:Array (Option Value)} {oc19 kV19 dc19 pm19 cd19 ct19:Value} {f20:Addr} {od20 an20:Option Addr} {sl20:Array (Option Value)} {oc20 kV20 dc20 pm20 cd20 ct20:Value} {ti1:Tok} {cst_ShiftError cst_NoWeb cst_Down cst_NoText cst_NoJoin cst_TooMany cst_NoRow cst_NoName cst_NoWord:Addr}
  (a1:PySem.W.nsIn K mainGlobals "second_sign" = some (some (.ref f1))) (l1:K.lookup f1=some ⟨oc1,od1,.func (PySem.W.fnOf "second_sign" "second_sign" (defArgs s_second_sign) (defBody s_second_sign) (defScope s_second_sign) .none kV1 dc1 pm1 an1 cd1 ct1),sl1⟩) (c1:PySem.W.codeIn K cd1 "second_sign" = true) (k1:PySem.W.keepIn K (.ref f1)=true)
  (a2:PySem.W.nsIn K mainGlobals "deed_arrows" = some (some (.ref f2))) (l2:K.lookup f2=some ⟨oc2,od2,.func (PySem.W.fnOf "deed_arrows" "deed_arrows" (defArgs s_deed_arrows) (defBody s_deed_arrows) (defScope s_deed_arrows) .none kV2 dc2 pm2 an2 cd2 ct2),sl2⟩) (c2:PySem.W.codeIn K cd2 "deed_arrows" = true) (k2:PySem.W.keepIn K (.ref f2)=true)
  (a3:PySem.W.nsIn K mainGlobals "thing_count" = some (some (.ref f3))) (l3:K.lookup f3=some ⟨oc3,od3,.func (PySem.W.fnOf "thing_count" "thing_count" (defArgs s_thing_count) (defBody s_thing_count) (defScope s_thing_count) .none kV3 dc3 pm3 an3 cd3 ct3),sl3⟩) (c3:PySem.W.codeIn K cd3 "thing_count" = true) (k3:PySem.W.keepIn K (.ref f3)=true)
  (a4:PySem.W.nsIn K mainGlobals "ways" = some (some (.ref f4))) (l4:K.lookup f4=some ⟨oc4,od4,.func (PySem.W.fnOf "ways" "ways" (defArgs s_ways) (defBody s_ways) (defScope s_ways) .none kV4 dc4 pm4 an4 cd4 ct4),sl4⟩) (c4:PySem.W.codeIn K cd4 "ways" = true) (k4:PySem.W.keepIn K (.ref f4)=true)
  (a5:PySem.W.nsIn K mainGlobals "terms" = some (some (.ref f5))) (l5:K.lookup f5=some ⟨oc5,od5,.func (PySem.W.fnOf "terms" "terms" (defArgs s_terms) (defBody s_terms) (defScope s_terms) .none kV5 dc5 pm5 an5 cd5 ct5),sl5⟩) (c5:PySem.W.codeIn K cd5 "terms" = true) (k5:PySem.W.keepIn K (.ref f5)=true)
  (a6:PySem.W.nsIn K mainGlobals "ends_at_inputs" = some (some (.ref f6))) (l6:K.lookup f6=some ⟨oc6,od6,.func (PySem.W.fnOf "ends_at_inputs" "ends_at_inputs" (defArgs s_ends_at_inputs) (defBody s_ends_at_inputs) (defScope s_ends_at_inputs) .none kV6 dc6 pm6 an6 cd6 ct6),sl6⟩) (c6:PySem.W.codeIn K cd6 "ends_at_inputs" = true) (k6:PySem.W.keepIn K (.ref f6)=true)
  (a7:PySem.W.nsIn K mainGlobals "_law_feed" = some (some (.ref f7))) (l7:K.lookup f7=some ⟨oc7,od7,.func (PySem.W.fnOf "_law_feed" "_law_feed" (defArgs s_l_feed) (defBody s_l_feed) (defScope s_l_feed) .none kV7 dc7 pm7 an7 cd7 ct7),sl7⟩) (c7:PySem.W.codeIn K cd7 "_law_feed" = true) (k7:PySem.W.keepIn K (.ref f7)=true)
  (a8:PySem.W.nsIn K mainGlobals "_law_take" = some (some (.ref f8))) (l8:K.lookup f8=some ⟨oc8,od8,.func (PySem.W.fnOf "_law_take" "_law_take" (defArgs s_l_take) (defBody s_l_take) (defScope s_l_take) .none kV8 dc8 pm8 an8 cd8 ct8),sl8⟩) (c8:PySem.W.codeIn K cd8 "_law_take" = true) (k8:PySem.W.keepIn K (.ref f8)=true)
  (a9:PySem.W.nsIn K mainGlobals "_law_low" = some (some (.ref f9))) (l9:K.lookup f9=some ⟨oc9,od9,.func (PySem.W.fnOf "_law_low" "_law_low" (defArgs s_l_low) (defBody s_l_low) (defScope s_l_low) .none kV9 dc9 pm9 an9 cd9 ct9),sl9⟩) (c9:PySem.W.codeIn K cd9 "_law_low" = true) (k9:PySem.W.keepIn K (.ref f9)=true)
  (a10:PySem.W.nsIn K mainGlobals "_law_moved" = some (some (.ref f10))) (l10:K.lookup f10=some ⟨oc10,od10,.func (PySem.W.fnOf "_law_moved" "_law_moved" (defArgs s_l_moved) (defBody s_l_moved) (defScope s_l_moved) .none kV10 dc10 pm10 an10 cd10 ct10),sl10⟩) (c10:PySem.W.codeIn K cd10 "_law_moved" = true) (k10:PySem.W.keepIn K (.ref f10)=true)
  (a11:PySem.W.nsIn K mainGlobals "_law_shift" = some (some (.ref f11))) (l11:K.lookup f11=some ⟨oc11,od11,.func (PySem.W.fnOf "_law_shift" "_law_shift" (defArgs s_l_shift) (defBody s_l_shift) (defScope s_l_shift) .none kV11 dc11 pm11 an11 cd11 ct11),sl11⟩) (c11:PySem.W.codeIn K cd11 "_law_shift" = true) (k11:PySem.W.keepIn K (.ref f11)=true)
  (a12:PySem.W.nsIn K mainGlobals "_law_picked" = some (some (.ref f12))) (l12:K.lookup f12=some ⟨oc12,od12,.func (PySem.W.fnOf "_law_picked" "_law_picked" (defArgs s_l_picked) (defBody s_l_picked) (defScope s_l_picked) .none kV12 dc12 pm12 an12 cd12 ct12),sl12⟩) (c12:PySem.W.codeIn K cd12 "_law_picked" = true) (k12:PySem.W.keepIn K (.ref f12)=true)
  (a13:PySem.W.nsIn K mainGlobals "_law_web" = some (some (.ref f13))) (l13:K.lookup f13=some ⟨oc13,od13,.func (PySem.W.fnOf "_law_web" "_law_web" (defArgs s_l_web) (defBody s_l_web) (defScope s_l_web) .none kV13 dc13 pm13 an13 cd13 ct13),sl13⟩) (c13:PySem.W.codeIn K cd13 "_law_web" = true) (k13:PySem.W.keepIn K (.ref f13)=true)
  (a14:PySem.W.nsIn K mainGlobals "_law_longer" = some (some (.ref f14))) (l14:K.lookup f14=some ⟨oc14,od14,.func (PySem.W.fnOf "_law_longer" "_law_longer" (defArgs s_l_longer) (defBody s_l_longer) (defScope s_l_longer) .none kV14 dc14 pm14 an14 cd14 ct14),sl14⟩) (c14:PySem.W.codeIn K cd14 "_law_longer" = true) (k14:PySem.W.keepIn K (.ref f14)=true)
  (a15:PySem.W.nsIn K mainGlobals "_law_counts" = some (some (.ref f15))) (l15:K.lookup f15=some ⟨oc15,od15,.func (PySem.W.fnOf "_law_counts" "_law_counts" (defArgs s_l_counts) (defBody s_l_counts) (defScope s_l_counts) .none kV15 dc15 pm15 an15 cd15 ct15),sl15⟩) (c15:PySem.W.codeIn K cd15 "_law_counts" = true) (k15:PySem.W.keepIn K (.ref f15)=true)
  (a16:PySem.W.nsIn K mainGlobals "_law_gone" = some (some (.ref f16))) (l16:K.lookup f16=some ⟨oc16,od16,.func (PySem.W.fnOf "_law_gone" "_law_gone" (defArgs s_l_gone) (defBody s_l_gone) (defScope s_l_gone) .none kV16 dc16 pm16 an16 cd16 ct16),sl16⟩) (c16:PySem.W.codeIn K cd16 "_law_gone" = true) (k16:PySem.W.keepIn K (.ref f16)=true)
  (a17:PySem.W.nsIn K mainGlobals "_law_are_terms" = some (some (.ref f17))) (l17:K.lookup f17=some ⟨oc17,od17,.func (PySem.W.fnOf "_law_are_terms" "_law_are_terms" (defArgs s_l_are_terms) (defBody s_l_are_terms) (defScope s_l_are_terms) .none kV17 dc17 pm17 an17 cd17 ct17),sl17⟩) (c17:PySem.W.codeIn K cd17 "_law_are_terms" = true) (k17:PySem.W.keepIn K (.ref f17)=true)
  (a18:PySem.W.nsIn K mainGlobals "_law_refused" = some (some (.ref f18))) (l18:K.lookup f18=some ⟨oc18,od18,.func (PySem.W.fnOf "_law_refused" "_law_refused" (defArgs s_l_refused) (defBody s_l_refused) (defScope s_l_refused) .none kV18 dc18 pm18 an18 cd18 ct18),sl18⟩) (c18:PySem.W.codeIn K cd18 "_law_refused" = true) (k18:PySem.W.keepIn K (.ref f18)=true)
  (a19:PySem.W.nsIn K mainGlobals "_law_out_right" = some (some (.ref f19))) (l19:K.lookup f19=some ⟨oc19,od19,.func (PySem.W.fnOf "_law_out_right" "_law_out_right" (defArgs s_l_out_right) (defBody s_l_out_right) (defScope s_l_out_right) .none kV19 dc19 pm19 an19 cd19 ct19),sl19⟩) (c19:PySem.W.codeIn K cd19 "_law_out_right" = true) (k19:PySem.W.keepIn K (.ref f19)=true)
  (a20:PySem.W.nsIn K mainGlobals "law" = some (some (.ref f20))) (l20:K.lookup f20=some ⟨oc20,od20,.func (PySem.W.fnOf "law" "law" (defArgs s_law) (defBody s_law) (defScope s_law) .none kV20 dc20 pm20 an20 cd20 ct20),sl20⟩) (c20:PySem.W.codeIn K cd20 "law" = true) (k20:PySem.W.keepIn K (.ref f20)=true)
  (ai1:PySem.W.nsIn K mainGlobals "MOST_TOLD" = some (some (.int 500 ti1)))
  (ak1:PySem.W.nsIn K mainGlobals "ShiftError" = some (some (.ref cst_ShiftError)))
  (ak2:PySem.W.nsIn K mainGlobals "NoWeb" = some (some (.ref cst_NoWeb)))
  (ak3:PySem.W.nsIn K mainGlobals "Down" = some (some (.ref cst_Down)))
  (ak4:PySem.W.nsIn K mainGlobals "NoText" = some (some (.ref cst_NoText)))
  (ak5:PySem.W.nsIn K mainGlobals "NoJoin" = some (some (.ref cst_NoJoin)))
  (ak6:PySem.W.nsIn K mainGlobals "TooMany" = some (some (.ref cst_TooMany)))
  (ak7:PySem.W.nsIn K mainGlobals "NoRow" = some (some (.ref cst_NoRow)))
  (ak8:PySem.W.nsIn K mainGlobals "NoName" = some (some (.ref cst_NoName)))
  (ak9:PySem.W.nsIn K mainGlobals "NoWord" = some (some (.ref cst_NoWord)))
  (fk1:PySem.W.excIn K cst_TooMany [.type "ValueError",.type "Exception",.type "BaseException",.type "object"] "ValueError.__new__" = true)
  (fk2:PySem.W.excIn K cst_ShiftError [.type "ValueError",.type "Exception",.type "BaseException",.type "object"] "ValueError.__new__" = true)
  (fk3:L2.subIn K cst_TooMany cst_ShiftError=true)
  (fk4:L2.excK K cst_TooMany=true)
  (fk5:PySem.W.kitOne K (.ref cst_TooMany) (.type "ValueError")=some true)
  (fk6:PySem.W.kitAny K (.ref cst_TooMany) [.ref cst_Down,.ref cst_NoJoin,.ref cst_NoName,.ref cst_NoRow,.ref cst_NoText,.ref cst_NoWeb,.ref cst_NoWord]=some false)
  (z1:PySem.W.nsIn K mainGlobals "ValueError" = some none)
  (z2:PySem.W.nsIn K mainGlobals "abs" = some none)
  (z3:PySem.W.nsIn K mainGlobals "all" = some none)
  (z4:PySem.W.nsIn K mainGlobals "any" = some none)
  (z5:PySem.W.nsIn K mainGlobals "bool" = some none)
  (z6:PySem.W.nsIn K mainGlobals "enumerate" = some none)
  (z7:PySem.W.nsIn K mainGlobals "int" = some none)
  (z8:PySem.W.nsIn K mainGlobals "isinstance" = some none)
  (z9:PySem.W.nsIn K mainGlobals "len" = some none)
  (z10:PySem.W.nsIn K mainGlobals "list" = some none)
  (z11:PySem.W.nsIn K mainGlobals "max" = some none)
  (z12:PySem.W.nsIn K mainGlobals "min" = some none)
  (z13:PySem.W.nsIn K mainGlobals "range" = some none)
  (z14:PySem.W.nsIn K mainGlobals "reversed" = some none)
  (z15:PySem.W.nsIn K mainGlobals "sorted" = some none)
  (z16:PySem.W.nsIn K mainGlobals "tuple" = some none)
  (z17:PySem.W.nsIn K mainGlobals "zip" = some none)
  : ∃ fd:FuncData,(∀ (s:Shared) (v:Value),BindsTo s fd ⟨[v],[]⟩ [("_law_script",v)]) /\ ∀ base:Heap,K.In base -> base.Ns mainGlobals mg -> FnOk l.prog w K mg base CX0 20 fa fd ["_law_script"] (spLaw K):=by
 have e:=hfa.symm.trans (PySem.W.mg_of X G a20)
 cases e
 have F1:=fun_mk (st:=s_second_sign) l1 c1 k1
 have b1:=F1.binds (ps:=["deed"]) fun _ _ _ _ _ _ us hl=>by obtain ⟨a0_,rfl⟩:=ln1 (us:=us) hl; rfl
 have F2:=fun_mk (st:=s_deed_arrows) l2 c2 k2
 have b2:=F2.binds (ps:=["web"]) fun _ _ _ _ _ _ us hl=>by obtain ⟨a0_,rfl⟩:=ln1 (us:=us) hl; rfl
 have F3:=fun_mk (st:=s_thing_count) l3 c3 k3
 have b3:=F3.binds (ps:=["web"]) fun _ _ _ _ _ _ us hl=>by obtain ⟨a0_,rfl⟩:=ln1 (us:=us) hl; rfl
 have F4:=fun_mk (st:=s_ways) l4 c4 k4
 have b4:=F4.binds (ps:=["web"]) fun _ _ _ _ _ _ us hl=>by obtain ⟨a0_,rfl⟩:=ln1 (us:=us) hl; rfl
 have F5:=fun_mk (st:=s_terms) l5 c5 k5
 have b5:=F5.binds (ps:=["web","k"]) fun _ _ _ _ _ _ us hl=>by obtain ⟨a0_,a1_,rfl⟩:=ln2 (us:=us) hl; rfl
 have F6:=fun_mk (st:=s_ends_at_inputs) l6 c6 k6
 have b6:=F6.binds (ps:=["web","out"]) fun _ _ _ _ _ _ us hl=>by obtain ⟨a0_,a1_,rfl⟩:=ln2 (us:=us) hl; rfl
 have F7:=fun_mk (st:=s_l_feed) l7 c7 k7
 have b7:=F7.binds (ps:=["_law_script","_law_k"]) fun _ _ _ _ _ _ us hl=>by obtain ⟨a0_,a1_,rfl⟩:=ln2 (us:=us) hl; rfl
 have F8:=fun_mk (st:=s_l_take) l8 c8 k8
 have b8:=F8.binds (ps:=["_law_feed_here","_law_many"]) fun _ _ _ _ _ _ us hl=>by obtain ⟨a0_,a1_,rfl⟩:=ln2 (us:=us) hl; rfl
 have F9:=fun_mk (st:=s_l_low) l9 c9 k9
 have b9:=F9.binds (ps:=["_law_row"]) fun _ _ _ _ _ _ us hl=>by obtain ⟨a0_,rfl⟩:=ln1 (us:=us) hl; rfl
 have F10:=fun_mk (st:=s_l_moved) l10 c10 k10
 have b10:=F10.binds (ps:=["_law_row","_law_shift_here"]) fun _ _ _ _ _ _ us hl=>by obtain ⟨a0_,a1_,rfl⟩:=ln2 (us:=us) hl; rfl
 have F11:=fun_mk (st:=s_l_shift) l11 c11 k11
 have b11:=F11.binds (ps:=["_law_feed_here","_law_row"]) fun _ _ _ _ _ _ us hl=>by obtain ⟨a0_,a1_,rfl⟩:=ln2 (us:=us) hl; rfl
 have F12:=fun_mk (st:=s_l_picked) l12 c12 k12
 have b12:=F12.binds (ps:=["_law_feed_here","_law_many"]) fun _ _ _ _ _ _ us hl=>by obtain ⟨a0_,a1_,rfl⟩:=ln2 (us:=us) hl; rfl
 have F13:=fun_mk (st:=s_l_web) l13 c13 k13
 have b13:=F13.binds (ps:=["_law_feed_here","_law_most"]) fun _ _ _ _ _ _ us hl=>by obtain ⟨a0_,a1_,rfl⟩:=ln2 (us:=us) hl; rfl
 have F14:=fun_mk (st:=s_l_longer) l14 c14 k14
 have b14:=F14.binds (ps:=["_law_feed_here","_law_web_here"]) fun _ _ _ _ _ _ us hl=>by obtain ⟨a0_,a1_,rfl⟩:=ln2 (us:=us) hl; rfl
 have F15:=fun_mk (st:=s_l_counts) l15 c15 k15
 have b15:=F15.binds (ps:=["_law_web_here"]) fun _ _ _ _ _ _ us hl=>by obtain ⟨a0_,rfl⟩:=ln1 (us:=us) hl; rfl
 have F16:=fun_mk (st:=s_l_gone) l16 c16 k16
 have b16:=F16.binds (ps:=["_law_web_here","_law_out"]) fun _ _ _ _ _ _ us hl=>by obtain ⟨a0_,a1_,rfl⟩:=ln2 (us:=us) hl; rfl
 have F17:=fun_mk (st:=s_l_are_terms) l17 c17 k17
 have b17:=F17.binds (ps:=["_law_found"]) fun _ _ _ _ _ _ us hl=>by obtain ⟨a0_,rfl⟩:=ln1 (us:=us) hl; rfl
 have F18:=fun_mk (st:=s_l_refused) l18 c18 k18
 have b18:=F18.binds (ps:=["_law_web_here","_law_k"]) fun _ _ _ _ _ _ us hl=>by obtain ⟨a0_,a1_,rfl⟩:=ln2 (us:=us) hl; rfl
 have F19:=fun_mk (st:=s_l_out_right) l19 c19 k19
 have b19:=F19.binds (ps:=["_law_web_here","_law_k","_law_counts_here"]) fun _ _ _ _ _ _ us hl=>by obtain ⟨a0_,a1_,a2_,rfl⟩:=ln3 (us:=us) hl; rfl
 have F20:=fun_mk (st:=s_law) l20 c20 k20
 have b20:=F20.binds (ps:=["_law_script"]) fun _ _ _ _ _ _ us hl=>by obtain ⟨a0_,rfl⟩:=ln1 (us:=us) hl; rfl
 have T:Txt K mg:=⟨⟨PySem.W.mg_none_of X G z1,PySem.W.mg_none_of X G z2,PySem.W.mg_none_of X G z3,PySem.W.mg_none_of X G z4,PySem.W.mg_none_of X G z5,PySem.W.mg_none_of X G z6,PySem.W.mg_none_of X G z7,PySem.W.mg_none_of X G z8,PySem.W.mg_none_of X G z9,PySem.W.mg_none_of X G z10,PySem.W.mg_none_of X G z11,PySem.W.mg_none_of X G z12,PySem.W.mg_none_of X G z13,PySem.W.mg_none_of X G z14,PySem.W.mg_none_of X G z15,PySem.W.mg_none_of X G z16,PySem.W.mg_none_of X G z17⟩,⟨_,_,F1,PySem.W.mg_of X G a1,b1⟩,⟨_,_,F2,PySem.W.mg_of X G a2,b2⟩,⟨_,_,F3,PySem.W.mg_of X G a3,b3⟩,⟨_,_,F4,PySem.W.mg_of X G a4,b4⟩,⟨_,_,F5,PySem.W.mg_of X G a5,b5⟩,⟨_,_,F6,PySem.W.mg_of X G a6,b6⟩,⟨_,_,F7,PySem.W.mg_of X G a7,b7⟩,⟨_,_,F8,PySem.W.mg_of X G a8,b8⟩,⟨_,_,F9,PySem.W.mg_of X G a9,b9⟩,⟨_,_,F10,PySem.W.mg_of X G a10,b10⟩,⟨_,_,F11,PySem.W.mg_of X G a11,b11⟩,⟨_,_,F12,PySem.W.mg_of X G a12,b12⟩,⟨_,_,F13,PySem.W.mg_of X G a13,b13⟩,⟨_,_,F14,PySem.W.mg_of X G a14,b14⟩,⟨_,_,F15,PySem.W.mg_of X G a15,b15⟩,⟨_,_,F16,PySem.W.mg_of X G a16,b16⟩,⟨_,_,F17,PySem.W.mg_of X G a17,b17⟩,⟨_,_,F18,PySem.W.mg_of X G a18,b18⟩,⟨_,_,F19,PySem.W.mg_of X G a19,b19⟩,⟨_,_,F20,PySem.W.mg_of X G a20,b20⟩,⟨ti1,PySem.W.mg_of X G ai1⟩,⟨cst_ShiftError,cst_NoWeb,cst_Down,cst_NoText,cst_NoJoin,cst_TooMany,cst_NoRow,cst_NoName,cst_NoWord,PySem.W.mg_of X G ak1,PySem.W.mg_of X G ak2,PySem.W.mg_of X G ak3,PySem.W.mg_of X G ak4,PySem.W.mg_of X G ak5,PySem.W.mg_of X G ak6,PySem.W.mg_of X G ak7,PySem.W.mg_of X G ak8,PySem.W.mg_of X G ak9,fk1,fk2,fk3,fk4,fk5,fk6⟩⟩
 refine ⟨PySem.W.fnOf "law" "law" (defArgs s_law) (defBody s_law) (defScope s_law) .none kV20 dc20 pm20 an20 cd20 ct20,fun s v=>.of_eq rfl,fun base _ _=>?_⟩
 exact ok_law T F20
theorem walk {l:PySem.W.OpenLaw}{q:Program}{loose:List Str}{XP:(Str -> Option Value) -> Heap -> Prop}{YP:World -> Heap -> Prop}{d:DefRec}{K:Params -> PySem.W.Frag}(hn:l.most=some 63)(hdf:d.params.defaults=[])
  (hY:∀ (w:World) (h:Heap),YP w h -> (K w.params).In h)
  (F:∀ (w:World) (mg:Str -> Option Value) (fa:Addr) (h:Heap),(K w.params).In h -> h.Ns mainGlobals mg -> mg d.name=some (.ref fa) ->
   ∃ fd:FuncData,(∀ (s:Shared) (u:Value),BindsTo s fd ⟨[u],[]⟩ [("_law_script",u)]) /\ ∀ base:Heap,(K w.params).In base -> base.Ns mainGlobals mg -> FnOk l.prog w (K w.params) mg base CX0 20 fa fd ["_law_script"] (spLaw (K w.params))) :
  PySem.W.WalkO q loose XP YP l.row.toRowW d [] (fun f vs=>PySem.call f vs) :=
 L2.walk_of (n:=63) (k:=20) (x:="_law_script") (CX:=fun _=>CX0) (sp:=fun w=>spLaw (K w.params)) hn (by decide) hdf ⟨rfl,by decide,by decide⟩ hY F (fun _ _ a ns hl hO hS=>⟨a,ns,rfl,scr_of hO hS,hl,fun _=>rfl⟩) fun _ _ _ _ _ z=>z
end Law
def PySem.W.Fast.tw8875476513951307736:Unit:=()
def PySem.W.Fast.tw18330901884990621231:Unit:=()
def PySem.W.Fast.tw14564048872424910230:Unit:=()
def PySem.W.Fast.tw1249193323500746743:Unit:=()
def PySem.W.Fast.tw2881271470052823589:Unit:=()
def PySem.W.Fast.tw14419694918106152595:Unit:=()
def PySem.W.Fast.tw969336722857728558:Unit:=()
def PySem.W.Fast.tw8744456871254722477:Unit:=()
def PySem.W.Fast.tw9707374813443592559:Unit:=()
def PySem.W.Fast.tw13886244324927314660:Unit:=()
def PySem.W.Fast.tw9869164728096091268:Unit:=()
def PySem.W.Fast.tw7503988066445370769:Unit:=()
def PySem.W.Fast.tw7555008761728150688:Unit:=()
def PySem.W.Fast.tw10160791575031509044:Unit:=()
def PySem.W.Fast.tw3175953714982240750:Unit:=()
def PySem.W.Fast.tw7485300024260780566:Unit:=()
def PySem.W.Fast.tw11357182921639835028:Unit:=()
def PySem.W.Fast.tw3523023991911613927:Unit:=()
def PySem.W.Fast.tw13232473508928712056:Unit:=()
def PySem.W.Fast.tw14770367424368128793:Unit:=()
def PySem.W.Fast.tw7130968296138632619:Unit:=()
def PySem.W.Fast.tw7552399061788214537:Unit:=()
def PySem.W.Fast.tw12161200663623630333:Unit:=()
def PySem.W.Fast.tw8798587946640490144:Unit:=()
def PySem.W.Fast.tw13974150396572582309:Unit:=()
def PySem.W.Fast.tw12338586116833718718:Unit:=()
def PySem.W.Fast.tw16681880575801728134:Unit:=()
def PySem.W.Fast.tw6510620711296447743:Unit:=()
def PySem.W.Fast.tw9337263868974343009:Unit:=()
def PySem.W.Fast.tw2639732388449990506:Unit:=()
def PySem.W.Fast.tw13453768566290150325:Unit:=()
open PySem PySem.W PyProof.Rows
set_option maxRecDepth 100000 in
set_option maxHeartbeats 0 in
theorem PySem.Challenge.cw_shiftsums_k17_ways_and_terms_holds : PySem.Challenge.rw_shiftsums_k17_ways_and_terms.Holds := by
 w_on; o_law; k_head; (case hw=>w_witness2)
 k_fill
 refine Law.walk (l:=PySem.Challenge.rw_shiftsums_k17_ways_and_terms) rfl rfl (fun w h Y=>PySem.W.kIn_of Y) ?F
 case F =>
  intro w mg fa h KX G hmg
  refine' Law.all_mk KX G hmg ?a1 ?l1 ?c1 ?k1 ?a2 ?l2 ?c2 ?k2 ?a3 ?l3 ?c3 ?k3 ?a4 ?l4 ?c4 ?k4 ?a5 ?l5 ?c5 ?k5 ?a6 ?l6 ?c6 ?k6 ?a7 ?l7 ?c7 ?k7 ?a8 ?l8 ?c8 ?k8 ?a9 ?l9 ?c9 ?k9 ?a10 ?l10 ?c10 ?k10 ?a11 ?l11 ?c11 ?k11 ?a12 ?l12 ?c12 ?k12 ?a13 ?l13 ?c13 ?k13 ?a14 ?l14 ?c14 ?k14 ?a15 ?l15 ?c15 ?k15 ?a16 ?l16 ?c16 ?k16 ?a17 ?l17 ?c17 ?k17 ?a18 ?l18 ?c18 ?k18 ?a19 ?l19 ?c19 ?k19 ?a20 ?l20 ?c20 ?k20 ?ai1 ?ak1 ?ak2 ?ak3 ?ak4 ?ak5 ?ak6 ?ak7 ?ak8 ?ak9 ?fk1 ?fk2 ?fk3 ?fk4 ?fk5 ?fk6 ?z1 ?z2 ?z3 ?z4 ?z5 ?z6 ?z7 ?z8 ?z9 ?z10 ?z11 ?z12 ?z13 ?z14 ?z15 ?z16 ?z17
  (case a1=>k_is); (case l1=>k_is); (case c1=>k_is); (case k1=>k_is)
  (case a2=>k_is); (case l2=>k_is); (case c2=>k_is); (case k2=>k_is)
  (case a3=>k_is); (case l3=>k_is); (case c3=>k_is); (case k3=>k_is)
  (case a4=>k_is); (case l4=>k_is); (case c4=>k_is); (case k4=>k_is)
  (case a5=>k_is); (case l5=>k_is); (case c5=>k_is); (case k5=>k_is)
  (case a6=>k_is); (case l6=>k_is); (case c6=>k_is); (case k6=>k_is)
  (case a7=>k_is); (case l7=>k_is); (case c7=>k_is); (case k7=>k_is)
  (case a8=>k_is); (case l8=>k_is); (case c8=>k_is); (case k8=>k_is)
  (case a9=>k_is); (case l9=>k_is); (case c9=>k_is); (case k9=>k_is)
  (case a10=>k_is); (case l10=>k_is); (case c10=>k_is); (case k10=>k_is)
  (case a11=>k_is); (case l11=>k_is); (case c11=>k_is); (case k11=>k_is)
  (case a12=>k_is); (case l12=>k_is); (case c12=>k_is); (case k12=>k_is)
  (case a13=>k_is); (case l13=>k_is); (case c13=>k_is); (case k13=>k_is)
  (case a14=>k_is); (case l14=>k_is); (case c14=>k_is); (case k14=>k_is)
  (case a15=>k_is); (case l15=>k_is); (case c15=>k_is); (case k15=>k_is)
  (case a16=>k_is); (case l16=>k_is); (case c16=>k_is); (case k16=>k_is)
  (case a17=>k_is); (case l17=>k_is); (case c17=>k_is); (case k17=>k_is)
  (case a18=>k_is); (case l18=>k_is); (case c18=>k_is); (case k18=>k_is)
  (case a19=>k_is); (case l19=>k_is); (case c19=>k_is); (case k19=>k_is)
  (case a20=>k_is); (case l20=>k_is); (case c20=>k_is); (case k20=>k_is)
  (case ai1=>k_is); (case ak1=>k_is); (case ak2=>k_is); (case ak3=>k_is)
  (case ak4=>k_is); (case ak5=>k_is); (case ak6=>k_is); (case ak7=>k_is)
  (case ak8=>k_is); (case ak9=>k_is); (case fk1=>first | kernel_rfl | k_exc); (case fk2=>first | kernel_rfl | k_exc)
  (case fk3=>first | kernel_rfl | k_exc); (case fk4=>first | kernel_rfl | k_exc); (case fk5=>first | kernel_rfl | k_exc); (case fk6=>first | kernel_rfl | k_exc)
  (case z1=>k_is); (case z2=>k_is); (case z3=>k_is); (case z4=>k_is)
  (case z5=>k_is); (case z6=>k_is); (case z7=>k_is); (case z8=>k_is)
  (case z9=>k_is); (case z10=>k_is); (case z11=>k_is); (case z12=>k_is)
  (case z13=>k_is); (case z14=>k_is); (case z15=>k_is); (case z16=>k_is)
  (case z17=>k_is)
end
