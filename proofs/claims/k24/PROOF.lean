import PyProof.Rows.All
import Wide.All
import OpenK.AllK
import Wide.FinOn
import Lean
import PyProof.EqAt
import PyProof.EqKinds
import PyProof.TupleCall
import PyProof.NeKinds
import KE.KMinBuiltin
import PyProof.Rows.CallKwBuiltin
import KE.KDictList
import PyProof.ZipIter
import PyProof.EnumFor
import PyProof.EnumMake
import PyProof.EnumStmt
import PyProof.Rows.Range3
import KE.KItemsList
import PyProof.ListRange
import KE.KIsAll
import PyProof.TupleIter
import PyProof.StationsW
import OpenK.KOwn
import PyProof.RulesDel
import PyProof.ExcArgsOwn
import PyProof.ExcAttrAll.ValueError
import KE.IntBitsLaws
import PyProof.IsRules
import PyProof.SetKind
import PyProof.Rows.SetFrom
import PyProof.CollectWalk
import PyProof.ListNew
import PyProof.Seq
import KE.KSortedM
import PyProof.InstStoreFacts
import PyProof.ExcInit
import KE.KSortTup
import PyProof.AttrMissSeq
import KE.KEqDict
import PyProof.Rows.FStr
import PyProof.Rows.StrJoin2
import OpenK.KTop
import PyProof.StrLaws
import PyProof.TupleKey
import PyProof.SetRoads
import PySem.Challenge.RW_shiftsums_k24_shared_rows
open List renaming getElem?_eq_getElem → qA
open List renaming getElem?_eq_some_iff → qB
open List renaming length_map → qC
open List renaming getD_eq_getElem?_getD → qD
open List renaming mem_of_getElem? → qE
open List renaming length_append → qF
open List renaming getElem?_append_right → qG
open List renaming getElem?_append_left → qH
open List renaming getElem?_map → qI
open Nat renaming lt_of_lt_of_le → qJ
open List renaming mem_append_right → qK
open List renaming length_replicate → qL
open List renaming size_toArray → qM
open Nat renaming pow_le_pow_right → qN
open List renaming length_take → qO
open List renaming mem_map → qP
open List renaming replicate → qQ
section
set_option Elab.async false
set_option linter.all false
set_option maxRecDepth 100000
namespace L2
open PySem PySem.Spec PyProof.Rows
abbrev Key:=Sum Int Str
def keyIs:Key -> Value -> Bool
 | .inl k,v=>Value.isInt k v
 | .inr x,v=>Value.isStrOf x v
def keyH (w:World):Key -> Int
 | .inl k=>hashInt k
 | .inr x=>hashStr w x
theorem keyIs_shape:∀ {k:Key} {v:Value},keyIs k v=true -> (∃ i t,k=Sum.inl i /\ v=Value.int i t) \/ (∃ x t,k=Sum.inr x /\ v=Value.str x t)
 | .inl i,v,h=>by
  obtain ⟨t,e⟩:=Value.isInt_shape (k:=i) (v:=v) h
  exact .inl ⟨i,t,rfl,e⟩
 | .inr x,v,h=>by
  obtain ⟨t,e⟩:=Value.isStrOf_shape (x:=x) (v:=v) h
  exact .inr ⟨x,t,rfl,e⟩
theorem keyIs_int (i:Int)(t:Tok):keyIs (.inl i) (.int i t)=true:=by simp [keyIs,Value.isInt]
theorem keyIs_str (x:Str)(t:Tok):keyIs (.inr x) (.str x t)=true:=by simp [keyIs,Value.isStrOf]
theorem key_ll (a b:Int):decide ((Sum.inl a:Key)=Sum.inl b)=(a == b):=by
 by_cases e:a=b
 ·subst e; simp
 ·have h:¬ (Sum.inl a:Key)=Sum.inl b:=fun q=>e (Sum.inl.inj q)
  rw [decide_eq_false h]
  exact (beq_eq_false_iff_ne.mpr e).symm
theorem key_rr (a b:Str):decide ((Sum.inr a:Key)=Sum.inr b)=decide (a=b):=by
 by_cases e:a=b
 ·subst e; simp
 ·have h:¬ (Sum.inr a:Key)=Sum.inr b:=fun q=>e (Sum.inr.inj q)
  rw [decide_eq_false h,decide_eq_false e]
theorem key_lr (a:Int)(b:Str):decide ((Sum.inl a:Key)=Sum.inr b)=false:=decide_eq_false (fun q=>nomatch q)
theorem key_rl (a:Str)(b:Int):decide ((Sum.inr a:Key)=Sum.inl b)=false:=decide_eq_false (fun q=>nomatch q)
def mixKind (prog:Program)(w:World):PySem.KeyKind prog w Key where
 is:=keyIs
 hash:=keyH w
 inj:=fun v a b ha hb=>by
  rcases keyIs_shape ha with ⟨i,t,rfl,rfl⟩ | ⟨x,t,rfl,rfl⟩
  ·rcases keyIs_shape hb with ⟨j,u,rfl,e⟩ | ⟨y,u,rfl,e⟩
   ·injection e with e1 _; rw [e1]
   ·exact nomatch e
  ·rcases keyIs_shape hb with ⟨j,u,rfl,e⟩ | ⟨y,u,rfl,e⟩
   ·exact nomatch e
   ·injection e with e1 _; rw [e1]
 byValue:=fun k v h=>by
  rcases keyIs_shape h with ⟨i,t,rfl,rfl⟩ | ⟨x,t,rfl,rfl⟩ <;> rfl
 pyHash:=fun hv h=>by
  rcases keyIs_shape hv with ⟨i,t,rfl,rfl⟩ | ⟨x,t,rfl,rfl⟩
  ·exact wpAny_pyHash_int h
  ·exact wpAny_pyHash_str h
 eqBool:=fun hu hv h=>by
  rcases keyIs_shape hu with ⟨i,t,rfl,rfl⟩ | ⟨x,t,rfl,rfl⟩
  ·rcases keyIs_shape hv with ⟨j,u,rfl,rfl⟩ | ⟨y,u,rfl,rfl⟩
   ·rw [key_ll] at h; exact wpAny_eqBool_int h
   ·rw [key_lr] at h; exact SeqAt.EqAt.int_str i t y u _ _ _ _ h
  ·rcases keyIs_shape hv with ⟨j,u,rfl,rfl⟩ | ⟨y,u,rfl,rfl⟩
   ·rw [key_rl] at h; exact SeqAt.EqAt.str_int x t j u _ _ _ _ h
   ·rw [key_rr] at h; exact wpAny_eqBool_str h
 «strs»:=fun k x t v h=>by
  rcases keyIs_shape h with ⟨i,u,rfl,e⟩ | ⟨y,u,rfl,e⟩
  ·exact nomatch e
  ·injection e with e1 _
   subst e1
   cases v <;> rfl
theorem mixKind_int (prog:Program)(w:World)(i:Int)(t:Tok):(mixKind prog w).is (.inl i) (.int i t)=true:=keyIs_int i t
theorem mixKind_str (prog:Program)(w:World)(x:Str)(t:Tok):(mixKind prog w).is (.inr x) (.str x t)=true:=keyIs_str x t
end L2
namespace L2
open PySem PySem.Spec PyProof.Rows
inductive V where
 | non | bl (b:Bool) | int (i:Int) | str (x:Str) | byt (b:Array UInt8) | flt (b:UInt64) | ref (a:Addr) | ty (n:String)
 deriving DecidableEq
def RelV:V -> Value -> Prop
 | .non,u=>u=Value.none
 | .bl b,u=>u=Value.bool b
 | .int i,u=>∃ t,u=Value.int i t
 | .str x,u=>∃ t,u=Value.str x t
 | .byt b,u=>∃ t,u=Value.bytes b t
 | .flt b,u=>∃ t,u=Value.float b t
 | .ref a,u=>u=Value.ref a
 | .ty n,u=>u=Value.type n
abbrev Vals:List V -> List Value -> Prop:=Paired RelV
theorem Vals.length {xs:List V}{us:List Value}(r:Vals xs us):xs.length=us.length:=Paired.length r
theorem Vals.get:∀ {xs:List V} {us:List Value} {i:Nat} {x:V},Vals xs us -> xs[i]? = some x -> ∃ u,us[i]? = some u /\ RelV x u
 | _,_,_,_,.nil,e=>by simp at e
 | _,_,0,_,.cons r _,e=>by simp at e; subst e; exact ⟨_,rfl,r⟩
 | _,_,i+1,x,.cons _ t,e=>by
  obtain ⟨u,h1,h2⟩:=Vals.get (i:=i) (x:=x) t (by simpa using e)
  exact ⟨u,by simpa using h1,h2⟩
theorem Vals.set {x:V}{u:Value}(r:RelV x u):∀ {xs:List V} {us:List Value} (i:Nat),Vals xs us -> Vals (xs.set i x) (us.set i u)
 | _,_,_,.nil=>.nil
 | _,_,0,.cons _ t=>.cons r t
 | _,_,i+1,.cons q t=>.cons q (Vals.set r i t)
theorem Vals.append:∀ {xs ys:List V} {us ws:List Value},Vals xs us -> Vals ys ws -> Vals (xs ++ ys) (us ++ ws)
 | _,_,_,_,.nil,s=>s
 | _,_,_,_,.cons r t,s=>.cons r (Vals.append t s)
theorem Vals.take:∀ {xs:List V} {us:List Value} (n:Nat),Vals xs us -> Vals (xs.take n) (us.take n)
 | _,_,0,_=>.nil
 | _,_,_+1,.nil=>.nil
 | _,_,n+1,.cons r t=>.cons r (Vals.take n t)
theorem Vals.drop:∀ {xs:List V} {us:List Value} (n:Nat),Vals xs us -> Vals (xs.drop n) (us.drop n)
 | _,_,0,r=>r
 | _,_,_+1,.nil=>.nil
 | _,_,n+1,.cons _ t=>Vals.drop n t
def RelO:Option V -> Option Value -> Prop
 | some v,some u=>RelV v u
 | none,none=>True
 | _,_=>False
def KV {κ:Type}:List (κ × V) -> List (κ × Value) -> Prop:=Paired fun (p:κ × V) (q:κ × Value)=>p.1=q.1 /\ RelV p.2 q.2
def kV:Key -> V
 | .inl i=>.int i
 | .inr x=>.str x
inductive HO where
 | lst (xs:List V)
 | tup (xs:List V)
 | dK (kvs:List (Key × V)) | dT (kvs:List (List Key × V))
 | set (S:Int -> Bool) (n:Nat)
 | ins (C dx:Addr) (fs:List (Str × V))
 | own (x:Addr)
 | xd (fs:List (Str × V))
 | met (f x:Addr)
 | rng (lo hi:Int)
 | frz (o:Obj) (u:HO)
 | tbl (ps:Array Value)
 | ext (φ:Heap -> Prop)
abbrev Hp:=Addr -> Option HO
def upd (H:Hp)(a:Addr)(o:HO):Hp:=fun b=>if b=a then some o else H b
theorem upd_same {H:Hp}{a:Addr}{o:HO}:upd H a o a=some o:=by unfold upd; rw [if_pos rfl]
theorem upd_ne {H:Hp}{a b:Addr}{o:HO}(h:b ≠ a):upd H a o b=H b:=by unfold upd; rw [if_neg h]
theorem upd_upd {H:Hp}{a:Addr}{o u:HO}:upd (upd H a o) a u=upd H a u:=by
 funext b; unfold upd; split <;> rfl
theorem ne_of {H:Hp}{a b:Addr}{o u:HO}(h:H a=some o)(h':H b=some u)(d:o ≠ u):a ≠ b:=by
 intro e; subst e; rw [h] at h'; exact d (Option.some.inj h')
theorem ne_of_none {H:Hp}{a b:Addr}{o:HO}(h:H a=some o)(h':H b=none):a ≠ b:=by
 intro e; subst e; rw [h] at h'; cases h'
section
variable (P:Program)(w:World)
def ObjOk (H:Hp)(h:Heap)(a:Addr):HO -> Prop
 | .lst xs=>xs.length <= sizeLine /\ ∃ (its:List Value) (n:Nat),Vals xs its /\ h.get? a=some { cls:=.type "list",data:=.seq its.toArray n }
 | .tup xs=>xs.length <= sizeLine /\ ∃ its:List Value,Vals xs its /\ IsTup h a its.toArray
 | .dK kvs=>kvs.length <= sizeLine /\ (a == sysModules)=false /\ ∃ vs,KV kvs vs /\ h.DictOf (mixKind P w) a vs
 | .dT kvs=>kvs.length <= sizeLine /\ (a == sysModules)=false /\ ∃ xs:List (List Key × Addr × Value),
   Paired (fun (p:List Key × V) (q:List Key × Addr × Value)=>p.1=q.1 /\ H q.2.1=some (.tup (p.1.map kV)) /\ RelV p.2 q.2.2) kvs xs /\
   ∃ o es ep,h.get? a=some o /\ o.ExactDict /\ o.data = .dict es ep /\ es.toList=xs.map (entryOfKey (tupleKind (mixKind P w))) /\ (xs.map (·.1)).Nodup
 | .set S n=>h.SetOf (intKind P w) a S n
 | .ins C dx fs=>H dx=some (.own a) /\ fs.length <= 1000 /\ dx ≠ a /\ h.get? a=some (PySem.W.instObj C dx) /\
   ∃ mA,h.Ns1 dx mA /\ (∀ f,RelO (fs.lookup f) (mA f)) /\ PySem.Within mA (fs.map (·.1))
 | .own _=>∃ o,h.get? a=some o
 | .xd fs=>∃ mA,h.Ns1 a mA /\ ∀ f,RelO (fs.lookup f) (mA f)
 | .rng lo hi=>∃ t u v,h.get? a=some { cls:=.type "range",data:=.fields #[.int lo t,.int hi u,.int 1 v] }
 | .frz o u=>h.get? a=some o /\ ObjOk H h a u
 | .tbl ps=>h.get? a=some { cls:=.none,data:=.fields ps }
 | .met f x=>h.get? a=some (PySem.W.methodObj (.ref f) (.ref x))
 | .ext φ=>φ h /\ (∃ o,h.get? a=some o) /\ ∀ h1 h2:Heap,φ h1 -> (∀ o,h1.get? a=some o -> h2.get? a=some o) -> φ h2
def HOk (H:Hp)(h:Heap):Prop:=∀ a o,H a=some o -> ObjOk P w H h a o
end
section
variable {P:Program}{w:World}{H H':Hp}{h h':Heap}{a:Addr}{o:HO}
theorem ObjOk.lt (x:ObjOk P w H h a o):a < h.objs.size:=by
 cases o with
 | lst xs=>obtain ⟨_,_,_,_,e⟩:=x; exact Heap.lt_size e
 | tup xs=>obtain ⟨_,_,_,p⟩:=x; exact p.lt
 | dK kvs=>obtain ⟨_,_,_,_,o,_,_,e,_⟩:=x; exact Heap.lt_size e
 | dT kvs=>obtain ⟨_,_,_,_,o,_,_,e,_⟩:=x; exact Heap.lt_size e
 | set S n=>obtain ⟨o,_,_,_,e,_⟩:=x; exact Heap.lt_size e
 | ins C dx fs=>obtain ⟨_,_,_,e,_⟩:=x; exact Heap.lt_size e
 | own y=>obtain ⟨_,e⟩:=x; exact Heap.lt_size e
 | xd fs=>obtain ⟨_,⟨_,_,_,e,_⟩,_⟩:=x; exact Heap.lt_size e
 | rng lo hi=>obtain ⟨_,_,_,e⟩:=x; exact Heap.lt_size e
 | frz ob u=>obtain ⟨e,_⟩:=x; exact Heap.lt_size e
 | tbl ps=>exact Heap.lt_size (show h.get? a=some _ from x)
 | met f y=>exact Heap.lt_size (show h.get? a=some _ from x)
 | ext φ=>obtain ⟨_,⟨_,e⟩,_⟩:=x; exact Heap.lt_size e
theorem Paired.mapP {α β:Type}{F G:α -> β -> Prop}:∀ {l₁:List α} {l₂:List β},Paired F l₁ l₂ -> (∀ a b,F a b -> G a b) -> Paired G l₁ l₂
 | _,_,.nil,_=>.nil
 | _,_,.cons r t,f=>.cons (f _ _ r) (Paired.mapP t f)
theorem ObjOk.stay (x:ObjOk P w H h a o)(k:∀ b u,(b=a \/ H b=some (.own a)) -> h.get? b=some u -> h'.get? b=some u)
  (ho:∀ b,H b=some (.own a) -> H' b=some (.own a)) (ht:∀ b xs,H b=some (.tup xs) -> H' b=some (.tup xs)):ObjOk P w H' h' a o:=by
 induction o with
 | lst xs=>obtain ⟨z,its,n,r,e⟩:=x; exact ⟨z,its,n,r,k _ _ (.inl rfl) e⟩
 | tup xs=>obtain ⟨z,its,r,ob,e,c⟩:=x; exact ⟨z,its,r,ob,k _ _ (.inl rfl) e,c⟩
 | dK kvs=>obtain ⟨z,y,vs,r,ob,es,ep,e,c⟩:=x; exact ⟨z,y,vs,r,ob,es,ep,k _ _ (.inl rfl) e,c⟩
 | dT kvs =>
  obtain ⟨z,y,xs,r,ob,es,ep,e,c⟩:=x
  exact ⟨z,y,xs,Paired.mapP r fun p q z=>⟨z.1,ht _ _ z.2.1,z.2.2⟩,ob,es,ep,k _ _ (.inl rfl) e,c⟩
 | set S n=>obtain ⟨ob,es,ep,t,e,c⟩:=x; exact ⟨ob,es,ep,t,k _ _ (.inl rfl) e,c⟩
 | ins C dx fs =>
  obtain ⟨d,z,ne,e,mA,⟨od,es,ep,e2,c⟩,r⟩:=x
  exact ⟨ho _ d,z,ne,k _ _ (.inl rfl) e,mA,⟨od,es,ep,k _ _ (.inr d) e2,c⟩,r⟩
 | own y=>obtain ⟨ob,e⟩:=x; exact ⟨ob,k _ _ (.inl rfl) e⟩
 | xd fs=>obtain ⟨mA,⟨od,es,ep,e,c⟩,r⟩:=x; exact ⟨mA,⟨od,es,ep,k _ _ (.inl rfl) e,c⟩,r⟩
 | rng lo hi=>obtain ⟨t,u,v,e⟩:=x; exact ⟨t,u,v,k _ _ (.inl rfl) e⟩
 | frz ob u ih=>obtain ⟨e,q⟩:=x; exact ⟨k _ _ (.inl rfl) e,ih q⟩
 | tbl ps =>
  have e:h.get? a=some { cls:=.none,data:=.fields ps }:=x
  show h'.get? a=some { cls:=.none,data:=.fields ps }
  exact k a _ (.inl rfl) e
 | met f y =>
  have e:h.get? a=some (PySem.W.methodObj (.ref f) (.ref y)):=x
  show h'.get? a=some (PySem.W.methodObj (.ref f) (.ref y))
  exact k a _ (.inl rfl) e
 | ext φ=>obtain ⟨p,⟨o,e⟩,st⟩:=x; exact ⟨st _ _ p fun o q=>k _ _ (.inl rfl) q,⟨o,k _ _ (.inl rfl) e⟩,st⟩
theorem HOk.lt (x:HOk P w H h)(e:H a=some o):a < h.objs.size:=(x a o e).lt
theorem HOk.fresh (x:HOk P w H h)(e:h.objs.size <= a):H a=none:=by
 cases q:H a with
 | none=>rfl
 | some u=>exact absurd (qJ (x.lt q) e) (Nat.lt_irrefl _)
theorem HOk.kept (x:HOk P w H h)(k:∀ b u,h.get? b=some u -> h'.get? b=some u):HOk P w H h':=fun a o e =>
 (x a o e).stay (fun b u _ q=>k b u q) (fun _ q=>q) fun _ _ q=>q
theorem HOk.laid (x:HOk P w H h)(k:∀ b u,h.get? b=some u -> h'.get? b=some u)(hp:h.objs.size <= a)(new:ObjOk P w (upd H a o) h' a o):HOk P w (upd H a o) h':=fun b u e=>by
 have hn:=x.fresh hp
 by_cases hb:b=a
 ·subst hb; rw [upd_same] at e; cases e; exact new
 ·rw [upd_ne hb] at e
  exact (x b u e).stay (fun c v _ q=>k c v q) (fun c q=>by rw [upd_ne (ne_of_none q hn)]; exact q) fun c xs q=>by rw [upd_ne (ne_of_none q hn)]; exact q
end
def Rd (H:Hp)(a:Addr)(u:HO):Prop:=H a=some u \/ ∃ o,H a=some (.frz o u)
theorem Rd.ok {P:Program}{w:World}{H:Hp}{h:Heap}{a:Addr}{u:HO}(r:Rd H a u)(x:HOk P w H h):ObjOk P w H h a u:=by
 rcases r with r | ⟨o,r⟩
 ·exact x a u r
 ·obtain ⟨_,q⟩:=x a _ r
  exact q
def Mut:Option HO -> Prop
 | some (.lst _)=>True
 | some (.dK _)=>True
 | some (.dT _)=>True
 | some (.set _ _)=>True
 | some (.ins _ _ _)=>True
 | some (.ext _)=>True
 | _=>False
section
variable {P:Program}{w:World}{H:Hp}{h h':Heap}{x e:Addr}{o':HO}
theorem HOk.write (ok:HOk P w H h)(mu:Mut (H x))(he:e=x \/ H e=some (.own x))(k:∀ b u,b ≠ e -> h.get? b=some u -> h'.get? b=some u)(heo:∃ u,h'.get? e=some u)
  (new:ObjOk P w (upd H x o') h' x o'):HOk P w (upd H x o') h':=fun b u q=>by
 have nown:∀ c y,H c=some (.own y) -> c ≠ x:=fun c y r z=>by subst z; rw [r] at mu; exact mu
 have ntup:∀ c xs,H c=some (.tup xs) -> c ≠ x:=fun c xs r z=>by subst z; rw [r] at mu; exact mu
 by_cases hb:b=x
 ·subst hb; rw [upd_same] at q; cases q; exact new
 ·rw [upd_ne hb] at q
  by_cases hbe:b=e
  ·have q':H b=some (.own x):=by
    rcases he with z | z
    ·exact absurd (hbe.trans z) hb
    ·rw [hbe]; exact z
   rw [q] at q'; cases q'
   obtain ⟨v,hv⟩:=heo
   exact ⟨v,by rw [hbe]; exact hv⟩
  ·refine (ok b u q).stay (fun c v hc r=>k c v ?_ r) (fun c r=>by rw [upd_ne (nown c b r)]; exact r) fun c xs r=>by rw [upd_ne (ntup c xs r)]; exact r
   rcases hc with rfl | hc
   ·exact hbe
   ·rintro rfl
    rcases he with z | z
    ·exact nown c b hc z
    ·rw [hc] at z; cases z; exact hb rfl
end
structure Un (fs ex:List Addr) (H H':Hp) (h h':Heap):Prop where
 keep:∀ b o,h.get? b=some o -> H b=none -> b ∉ fs -> b ∉ ex -> h'.get? b=some o
 slot:∀ b o,h.get? b=some o -> H b=none -> b ∈ fs -> b ∉ ex -> ∃ sl,h'.get? b=some { o with slots:=sl }
 free:∀ b o,h.get? b=some o -> H b=none -> b ∉ ex -> H' b=none
 there:∀ b o,h.get? b=some o -> b ∉ ex -> ∃ o',h'.get? b=some o'
 tups:∀ b xs,H b=some (.tup xs) -> H' b=some (.tup xs)
 frzs:∀ b o u,H b=some (.frz o u) -> H' b=some (.frz o u)
 tbls:∀ b ps,H b=some (.tbl ps) -> ∃ more,H' b=some (.tbl (ps ++ more))
section
variable {fs fs' ex ex':List Addr}{H H1 H2:Hp}{h h1 h2 h':Heap}{a x e:Addr}{o:HO}
theorem Un.any (u:Un fs ex H H1 h h1){b:Addr}{ob:Obj}(q:h.get? b=some ob)(n:H b=none)(hx:b ∉ ex):∃ sl,h1.get? b=some { ob with slots:=sl }:=by
 by_cases hb:b ∈ fs
 ·exact u.slot b ob q n hb hx
 ·exact ⟨ob.slots,u.keep b ob q n hb hx⟩
theorem Un.kept (k:∀ b u,h.get? b=some u -> h'.get? b=some u):Un fs ex H H h h' :=
 ⟨fun b ob q _ _ _=>k b ob q,fun b ob q _ _ _=>⟨ob.slots,k b ob q⟩,fun _ _ _ n _=>n,fun b ob q _=>⟨ob,k b ob q⟩,fun _ _ q=>q,fun _ _ _ q=>q,fun _ ps q=>⟨#[],by rw [q]; simp⟩⟩
theorem Un.refl:Un fs ex H H h h:=Un.kept fun _ _ q=>q
theorem Un.laid (k:∀ b u,h.get? b=some u -> h'.get? b=some u)(hp:h.objs.size <= a)(hn:H a=none):Un fs ex H (upd H a o) h h' where
 keep:=fun b u q _ _ _=>k b u q
 slot:=fun b u q _ _ _=>⟨u.slots,k b u q⟩
 free:=fun b u q n _=>by rw [upd_ne (Nat.ne_of_lt (qJ (Heap.lt_size q) hp))]; exact n
 there:=fun b u q _=>⟨u,k b u q⟩
 tups:=fun b xs q=>by rw [upd_ne (ne_of_none q hn)]; exact q
 frzs:=fun b u xs q=>by rw [upd_ne (ne_of_none q hn)]; exact q
 tbls:=fun b ps q=>⟨#[],by rw [upd_ne (ne_of_none q hn),q]; simp⟩
theorem Un.write (mu:Mut (H x))(he:e=x \/ H e=some (.own x))(k:∀ b u,b ≠ e -> h.get? b=some u -> h'.get? b=some u)(heo:∃ u,h'.get? e=some u):Un fs ex H (upd H x o) h h':=by
 have hx:∀ b,H b=none -> b ≠ x:=fun b n z=>by subst z; rw [n] at mu; exact mu
 have hb:∀ b,H b=none -> b ≠ e:=fun b n z=>by
  subst z
  rcases he with r | r
  ·exact hx b n r
  ·rw [n] at r; cases r
 have hm:∀ b u,H b=some u -> ¬ Mut (some u) -> b ≠ x:=fun b u q nm z=>by subst z; rw [q] at mu; exact nm mu
 refine ⟨fun b u q n _ _=>k b u (hb b n) q,fun b u q n _ _=>⟨u.slots,k b u (hb b n) q⟩,fun b u q n _=>by rw [upd_ne (hx b n)]; exact n,fun b u q _=>?_,
  fun b xs q=>by rw [upd_ne (hm b _ q fun z=>z)]; exact q,fun b u xs q=>by rw [upd_ne (hm b _ q fun z=>z)]; exact q,fun b ps q=>⟨#[],by rw [upd_ne (hm b _ q fun z=>z),q]; simp⟩⟩
 by_cases hbe:b=e
 ·subst hbe; exact heo
 ·exact ⟨u,k b u hbe q⟩
end
def trk (h:Heap)(H:Hp):List Addr:=(List.range h.objs.size).filter fun a=>(H a).isSome
def hidT (h:Heap)(H:Hp):Heap:=PySem.W.hideAll h (trk h H)
theorem hidT_size (h:Heap)(H:Hp):(hidT h H).objs.size=h.objs.size:=PySem.W.hideAll_size _ _
theorem hidT_get {h:Heap}{H:Hp}{b:Addr}{o:Obj}(e:h.get? b=some o)(n:H b=none):(hidT h H).get? b=some o :=
 PySem.W.hideAll_get _ e fun hm=>by
  have q:(H b).isSome=true:=(List.mem_filter.mp hm).2
  rw [n] at q; simp at q
theorem of_hidT {h:Heap}{H:Hp}{b:Addr}{o:Obj}(e:(hidT h H).get? b=some o):h.get? b=some o /\ H b=none:=by
 have e':h.get? b=some o:=PySem.W.of_hideAll (trk h H) e
 refine ⟨e',?_⟩
 cases q:H b with
 | none=>rfl
 | some x =>
  have hm:b ∈ trk h H:=List.mem_filter.mpr ⟨List.mem_range.mpr (Heap.lt_size e'),by simp [q]⟩
  have z:(hidT h H).get? b=none:=PySem.W.hideAll_none (trk h H) hm
  rw [z] at e; cases e
def allNews (g h:Heap)(L:Addr):List (Addr × Obj):=(List.range h.objs.size).filterMap fun a=>if a=L \/ (g.get? a).isSome=true then none else (h.get? a).map fun o=>(a,o)
def rest (g h:Heap)(L d:Addr):List (Addr × Obj):=(allNews g h L).filter fun p=>decide (p.1 ≠ d)
end L2
namespace L2
open PySem PySem.Spec PyProof.Rows
structure Mod (K:PySem.W.Frag) (mg:Str -> Option Value) (base:Heap):Prop where
 kin:K.In base
 glob:base.Ns mainGlobals mg
 blt:∃ mb,base.Ns builtinsNs mb /\ ∀ x:Str,x ≠ "__name__" -> mb x=bootBuiltins x
 nolimit:base.NoLimit
structure Cx where
 prog:Program
 w:World
 K:PySem.W.Frag
 mg:Str -> Option Value
 base:Heap
 A:Around
 N:List Str
 s₀:Shared
 H₀:Hp
 env:Env
 outer:List Env
 stack:List Env
 ex:List Addr
 fn:Str -> Bool
 calm:Bool
 pn:List (Addr × Obj)
 xe:Value -> Shared -> Prop
def frs (l:List Env):List Addr:=l.filterMap (·.frame)
abbrev Cx.fs (X:Cx):List Addr:=frs X.outer
def Vis (sc:Scope)(x:Str):Prop:=sc.names.lookup x=some .local \/ sc.names.lookup x=some .cell \/ sc.names.lookup x=some .free
def Loc (sc:Scope)(x:Str):Prop:=sc.names.lookup x=some .local \/ sc.names.lookup x=some .cell
def Look (env:Env)(h:Heap)(m:Str -> Option Value)(x:Str)(u:Value):Prop :=
 (env.kindOf x=some .local /\ m x=some u) \/ ((env.kindOf x=some .cell \/ env.kindOf x=some .free) /\ ∃ c,env.cells.lookup x=some c /\ h.IsCell c (some u))
structure Cx.Ok (X:Cx):Prop where
 mod:Mod X.K X.mg X.base
 kind:X.env.scope.kind = .function
 glob:X.env.globals=mainGlobals
 blt:X.env.builtins=builtinsNs
 above:X.s₀.heap.objs.size <= X.env.locals
 inj:∀ x y c,X.env.cells.lookup x=some c -> X.env.cells.lookup y=some c -> x=y
 has:∀ x,(X.env.kindOf x=some .cell \/ X.env.kindOf x=some .free) -> ∃ c,X.env.cells.lookup x=some c
 cab:∀ x c,X.fn x=true -> X.env.cells.lookup x=some c -> X.s₀.heap.objs.size <= c
 hd:X.calm=true -> X.A.handled=none
 frames:X.A.frames=some X.stack
 stk:X.stack=X.outer \/ (X.stack=X.env :: X.outer /\ X.env.frame=some X.env.locals)
 exf:∀ b ∈ X.ex,b ≠ X.env.locals /\ ∀ x c,X.env.cells.lookup x=some c -> c ≠ b
 bs:∀ b o,X.base.get? b=some o -> X.s₀.heap.get? b=some o /\ X.H₀ b=none
 bsz:X.base.objs.size <= X.s₀.heap.objs.size
 noex:∀ b o,X.base.get? b=some o -> b ∉ X.ex
 exfs:∀ b ∈ X.ex,b ∉ X.fs
 funs:X.s₀.heap.FunFrames X.base X.outer
 frf:∀ b ∈ X.fs,X.H₀ b=none
structure Inv (X:Cx) (pins:List (Addr × Obj)) (σ:List (Option V)) (H:Hp) (s:Shared):Prop where
 ok:X.Ok
 os:s.os=X.s₀.os
 bare:AllBare s.gens
 base:Un X.fs X.ex X.H₀ H X.s₀.heap s.heap
 loc:∃ m,s.heap.Ns X.env.locals m /\ ∀ (i:Nat) (x:Str) (v:V),X.N[i]? = some x -> σ[i]? = some (some v) -> Vis X.env.scope x -> ∃ u,RelV v u /\ Look X.env s.heap m x u
 cell:∀ x c,X.env.cells.lookup x=some c -> ∃ v,s.heap.IsCell c v
 free:H X.env.locals=none
 freeC:∀ x c,X.env.cells.lookup x=some c -> H c=none
 pin:∀ p ∈ X.pn ++ pins,s.heap.get? p.1=some p.2 /\ H p.1=none /\ p.1 ≠ X.env.locals /\ p.1 ∉ X.fs /\ ∀ v,p.2.data ≠ .cell v
 hok:HOk X.prog X.w H s.heap
 len:σ.length=X.N.length
section
variable {X:Cx}{pins:List (Addr × Obj)}{σ:List (Option V)}{H H':Hp}{s:Shared}{h':Heap}
theorem Cx.Ok.nofr (ok:X.Ok){b:Addr}{o:Obj}(e:X.base.get? b=some o):b ∉ X.fs:=fun hb=>by
 have:=(ok.funs.mem hb).1
 rw [e] at this; cases this
theorem Inv.bs (I:Inv X pins σ H s):∀ b o,X.base.get? b=some o -> s.heap.get? b=some o /\ H b=none:=fun b o e =>
 ⟨I.base.keep b o (I.ok.bs b o e).1 (I.ok.bs b o e).2 (I.ok.nofr e) (I.ok.noex b o e),I.base.free b o (I.ok.bs b o e).1 (I.ok.bs b o e).2 (I.ok.noex b o e)⟩
theorem Inv.bk (I:Inv X pins σ H s):∀ b o,X.base.get? b=some o -> s.heap.get? b=some o:=fun b o e=>(I.bs b o e).1
theorem Inv.mod (I:Inv X pins σ H s):Mod X.K X.mg X.base:=I.ok.mod
theorem Inv.kIn (I:Inv X pins σ H s):X.K.In s.heap:=I.ok.mod.kin.keeps I.bk
theorem Inv.lt (I:Inv X pins σ H s):X.env.locals < s.heap.objs.size:=let ⟨_,hn,_⟩:=I.loc; hn.lt
theorem Inv.sz (I:Inv X pins σ H s):X.s₀.heap.objs.size <= s.heap.objs.size:=Nat.le_trans I.ok.above (Nat.le_of_lt I.lt)
theorem Inv.nofs (I:Inv X pins σ H s){a:Addr}(h:s.heap.objs.size <= a):a ∉ X.fs:=fun hb=>by
 obtain ⟨_,o,ho,_⟩:=I.ok.funs.mem hb
 exact absurd (qJ (Heap.lt_size ho) (Nat.le_trans I.sz h)) (Nat.lt_irrefl _)
theorem Inv.cne (I:Inv X pins σ H s):∀ x c,X.env.cells.lookup x=some c -> c ≠ X.env.locals:=fun x c e z=>by
 obtain ⟨v,o,ho,hd⟩:=I.cell x c e
 obtain ⟨m,⟨o',es,ep,ho',hd',_⟩,_⟩:=I.loc
 rw [z,ho'] at ho; cases ho; rw [hd'] at hd; cases hd
theorem Inv.funs (I:Inv X pins σ H s):s.heap.FunFrames X.base X.outer:=by
 have all:∀ (l:List Env),(∀ b ∈ frs l,b ∈ X.fs) -> X.s₀.heap.FunFrames X.base l -> s.heap.FunFrames X.base l:=by
  intro l
  induction l with
  | nil=>intro _ _; trivial
  | cons env r ih =>
   intro hs hl
   obtain ⟨hk,⟨L,o,hf,hn,ho,hd⟩,hr⟩:=hl
   have hL:L ∈ X.fs:=hs L (by unfold frs; rw [List.filterMap_cons,hf]; exact List.mem_cons_self)
   obtain ⟨sl,e⟩:=I.base.slot L o ho (I.ok.frf L hL) hL fun z=>I.ok.exfs L z hL
   exact ⟨hk,⟨L,_,hf,hn,e,hd⟩,ih (fun b hb=>hs b (by unfold frs; rw [List.filterMap_cons,hf]; exact List.mem_cons_of_mem _ hb)) hr⟩
 exact all X.outer (fun _ hb=>hb) I.ok.funs
theorem Inv.stack (I:Inv X pins σ H s):s.heap.FunFrames X.base X.stack:=by
 rcases I.ok.stk with e | ⟨e,hf⟩
 ·rw [e]; exact I.funs
 ·rw [e]
  obtain ⟨m,hn,_⟩:=I.loc
  refine .cons (by rw [I.ok.kind]; decide) hf hn ?_ I.funs
  exact Heap.get?_none_of_le (Nat.le_trans I.ok.bsz I.ok.above)
theorem Inv.stkSub (I:Inv X pins σ H s):∀ b ∈ frs X.stack,b ∈ X.env.locals :: X.fs:=fun b hb=>by
 rcases I.ok.stk with e | ⟨e,hf⟩
 ·rw [e] at hb; exact List.mem_cons_of_mem _ hb
 ·rw [e] at hb
  unfold frs at hb
  rw [List.filterMap_cons,hf] at hb
  exact hb
theorem Inv.stkFree (I:Inv X pins σ H s):∀ b ∈ frs X.stack,H b=none:=fun b hb=>by
 rcases List.mem_cons.mp (I.stkSub b hb) with e | hb
 ·rw [e]; exact I.free
 ·obtain ⟨_,o,ho,_⟩:=I.ok.funs.mem hb
  exact I.base.free b o ho (I.ok.frf b hb) fun z=>I.ok.exfs b z hb
theorem Inv.step {g':Array GenState}{t':Nat}{d':Drawn}{ch:List Addr}(I:Inv X pins σ H s)
  (hch:∀ b ∈ ch,(b ∈ X.ex \/ X.s₀.heap.objs.size <= b) /\ b ≠ X.env.locals /\ (∀ x c,X.env.cells.lookup x=some c -> c ≠ b) /\ ∀ p ∈ X.pn ++ pins,p.1 ≠ b)
  (keep:∀ b o,b ≠ X.env.locals -> b ∉ X.fs -> b ∉ ch -> s.heap.get? b=some o -> H b=none -> h'.get? b=some o)
  (slot:∀ b o,b ≠ X.env.locals -> b ∈ X.fs -> b ∉ ch -> s.heap.get? b=some o -> H b=none -> ∃ sl,h'.get? b=some { o with slots:=sl }) (free:∀ b o,b ∉ ch -> s.heap.get? b=some o -> H b=none -> H' b=none)
  (there:∀ b o,b ∉ ch -> s.heap.get? b=some o -> ∃ o',h'.get? b=some o')
  (tups:∀ b xs,H b=some (.tup xs) -> H' b=some (.tup xs)) (frzs:∀ b o u,H b=some (.frz o u) -> H' b=some (.frz o u)) (tbls:∀ b ps,H b=some (.tbl ps) -> ∃ more,H' b=some (.tbl (ps ++ more)))
  (ns:∀ m,s.heap.Ns X.env.locals m -> h'.Ns X.env.locals m) (hok:HOk X.prog X.w H' h') (hg:AllBare g') :
  Inv X pins σ H' { s with heap:=h',gens:=g',drawn:=d',toks:=t' }:=by
 have neL:∀ b o,X.s₀.heap.get? b=some o -> b ≠ X.env.locals:=fun b o e=>Nat.ne_of_lt (qJ (Heap.lt_size e) I.ok.above)
 have neC:∀ b o,X.s₀.heap.get? b=some o -> b ∉ X.ex -> b ∉ ch:=fun b o e hx hb=>by
  rcases (hch b hb).1 with z | z
  ·exact hx z
  ·exact absurd (qJ (Heap.lt_size e) z) (Nat.lt_irrefl _)
 have cellK:∀ x c,X.env.cells.lookup x=some c -> ∀ v,s.heap.IsCell c v -> h'.IsCell c v:=fun x c e v ⟨o,ho,hd⟩=>by
  have nch:c ∉ ch:=fun z=>(hch c z).2.2.1 x c e rfl
  by_cases hc:c ∈ X.fs
  ·obtain ⟨sl,q⟩:=slot c o (I.cne x c e) hc nch ho (I.freeC x c e)
   exact ⟨_,q,hd⟩
  ·exact ⟨o,keep c o (I.cne x c e) hc nch ho (I.freeC x c e),hd⟩
 refine ⟨I.ok,I.os,hg,⟨fun b o e n hb hx=>?_,fun b o e n hb hx=>?_,fun b o e n hx=>?_,fun b o e hx=>?_,fun b xs e=>tups b xs (I.base.tups b xs e),fun b o xs e=>frzs b o xs (I.base.frzs b o xs e),fun b ps e=>?_⟩,?_,fun x c e=>?_,?_,fun x c e=>?_,fun p hp=>?_,hok,I.len⟩
 ·exact keep b o (neL b o e) hb (neC b o e hx) (I.base.keep b o e n hb hx) (I.base.free b o e n hx)
 ·obtain ⟨sl,e1⟩:=I.base.slot b o e n hb hx
  obtain ⟨sl',e2⟩:=slot b _ (neL b o e) hb (neC b o e hx) e1 (I.base.free b o e n hx)
  exact ⟨sl',e2⟩
 ·obtain ⟨o',e1⟩:=I.base.there b o e hx
  exact free b o' (neC b o e hx) e1 (I.base.free b o e n hx)
 ·obtain ⟨o',e1⟩:=I.base.there b o e hx
  exact there b o' (neC b o e hx) e1
 ·obtain ⟨m1,e1⟩:=I.base.tbls b ps e
  obtain ⟨m2,e2⟩:=tbls b _ e1
  exact ⟨m1 ++ m2,by rw [e2,Array.append_assoc]⟩
 ·obtain ⟨m,hn,hl⟩:=I.loc
  refine ⟨m,ns m hn,fun i x v e1 e2 e3=>?_⟩
  obtain ⟨u,r,l⟩:=hl i x v e1 e2 e3
  refine ⟨u,r,?_⟩
  rcases l with l | ⟨k,c,e,z⟩
  ·exact .inl l
  ·exact .inr ⟨k,c,e,cellK x c e _ z⟩
 ·obtain ⟨v,z⟩:=I.cell x c e
  exact ⟨v,cellK x c e v z⟩
 ·obtain ⟨m,⟨o,_,_,ho,_⟩,_⟩:=I.loc
  exact free _ o (fun z=>(hch _ z).2.1 rfl) ho I.free
 ·obtain ⟨v,o,ho,hd⟩:=I.cell x c e
  exact free c o (fun z=>(hch c z).2.2.1 x c e rfl) ho (I.freeC x c e)
 ·obtain ⟨e,n,ne,nf,d⟩:=I.pin p hp
  have nch:p.1 ∉ ch:=fun z=>(hch p.1 z).2.2.2 p hp rfl
  exact ⟨keep p.1 p.2 ne nf nch e n,free p.1 p.2 nch e n,ne,nf,d⟩
theorem Inv.un {t':Nat}(I:Inv X pins σ H s)(u:Un X.fs [] H H' s.heap h')(hok:HOk X.prog X.w H' h'):Inv X pins σ H' { s with heap:=h',toks:=t' }:=by
 obtain ⟨m,⟨o,es,ep,ho,r⟩,_⟩:=id I.loc
 obtain ⟨sl,hL⟩:=u.any ho I.free (by simp)
 exact I.step (g':=s.gens) (d':=s.drawn) (ch:=[]) (fun _ z=>nomatch z) (fun b o _ hb _ e n=>u.keep b o e n hb (by simp)) (fun b o _ hb _ e n=>u.slot b o e n hb (by simp)) (fun b o _ e n=>u.free b o e n (by simp)) (fun b o _ e=>u.there b o e (by simp)) u.tups u.frzs u.tbls (fun m' hm=>by
  obtain ⟨o',es',ep',ho',r'⟩:=hm
  rw [ho] at ho'; cases ho'
  exact ⟨_,es',ep',hL,r'⟩) hok I.bare
theorem Inv.call {g':Array GenState}{t':Nat}{d':Drawn}{ch:List Addr}(I:Inv X pins σ H s)(u:Un (frs X.stack) ch H H' s.heap h')(hok:HOk X.prog X.w H' h')(hg:AllBare g')
  (hch:∀ b ∈ ch,(b ∈ X.ex \/ X.s₀.heap.objs.size <= b) /\ b ≠ X.env.locals /\ (∀ x c,X.env.cells.lookup x=some c -> c ≠ b) /\ ∀ p ∈ X.pn ++ pins,p.1 ≠ b) :
  Inv X pins σ H' { s with heap:=h',gens:=g',drawn:=d',toks:=t' }:=by
 obtain ⟨m,⟨o,es,ep,ho,r⟩,_⟩:=id I.loc
 obtain ⟨sl,hL⟩:=u.any ho I.free fun z=>(hch _ z).2.1 rfl
 exact I.step (ch:=ch) hch (fun b o hL hb hc e n=>u.keep b o e n (fun z=>(List.mem_cons.mp (I.stkSub b z)).elim hL hb) hc) (fun b o _ _ hc e n=>u.any e n hc) (fun b o hc e n=>u.free b o e n hc) (fun b o hc e=>u.there b o e hc) u.tups u.frzs u.tbls (fun m' hm=>by
  obtain ⟨o',es',ep',ho',r'⟩:=hm
  rw [ho] at ho'; cases ho'
  exact ⟨_,es',ep',hL,r'⟩) hok hg
theorem Inv.turned {t':Nat}{it:Addr}(I:Inv X pins σ H s)(k:∀ b o,b ≠ it -> s.heap.get? b=some o -> h'.get? b=some o)(hn:H it=none)(hL:it ≠ X.env.locals)
  (h1:it ∈ X.ex \/ X.s₀.heap.objs.size <= it) (h2:∀ x c,X.env.cells.lookup x=some c -> c ≠ it) (h3:∀ p ∈ X.pn ++ pins,p.1 ≠ it):Inv X pins σ H { s with heap:=h',toks:=t' }:=by
 have nit:∀ b u,H b=some u -> b ≠ it:=fun b u e z=>by rw [z,hn] at e; cases e
 refine I.step (g':=s.gens) (d':=s.drawn) (ch:=[it]) (fun b hb=>?_) (fun b o _ _ hc e _=>k b o (fun z=>hc (by simp [z])) e) (fun b o _ _ hc e _=>⟨o.slots,k b o (fun z=>hc (by simp [z])) e⟩) (fun _ _ _ _ n=>n)
  (fun b o hc e=>⟨o,k b o (fun z=>hc (by simp [z])) e⟩) (fun _ _ e=>e) (fun _ _ _ e=>e) (fun b ps e=>⟨#[],by rw [e]; simp⟩) (fun m hm=>?_) (fun b u e=>?_) I.bare
 ·have e:b=it:=by simpa using hb
  subst e
  exact ⟨h1,hL,h2,h3⟩
 ·obtain ⟨o,es,ep,ho,r⟩:=hm
  exact ⟨o,es,ep,k _ o (Ne.symm hL) ho,r⟩
 ·refine (I.hok b u e).stay (fun c v hc q=>k c v ?_ q) (fun _ q=>q) fun _ _ q=>q
  rcases hc with z | z
  ·rw [z]; exact nit b u e
  ·exact nit c _ z
theorem Inv.tok (I:Inv X pins σ H s)(t:Nat):Inv X pins σ H { s with toks:=t }:=I.un (h':=s.heap) (t':=t) Un.refl I.hok
theorem Inv.kept {t':Nat}(I:Inv X pins σ H s)(k:∀ b u,s.heap.get? b=some u -> h'.get? b=some u):Inv X pins σ H { s with heap:=h',toks:=t' }:=I.un (Un.kept k) (I.hok.kept k)
theorem Inv.laid {a:Addr}{o:HO}{t':Nat}(I:Inv X pins σ H s)(k:∀ b u,s.heap.get? b=some u -> h'.get? b=some u)(hp:s.heap.objs.size <= a)(new:ObjOk X.prog X.w (upd H a o) h' a o) :
  Inv X pins σ (upd H a o) { s with heap:=h',toks:=t' }:=I.un (Un.laid k hp (I.hok.fresh hp)) (I.hok.laid k hp new)
theorem Inv.write {x e:Addr}{o:HO}{t':Nat}(I:Inv X pins σ H s)(mu:Mut (H x))(he:e=x \/ H e=some (.own x))(k:∀ b u,b ≠ e -> s.heap.get? b=some u -> h'.get? b=some u)(heo:∃ u,h'.get? e=some u)
  (new:ObjOk X.prog X.w (upd H x o) h' x o):Inv X pins σ (upd H x o) { s with heap:=h',toks:=t' }:=I.un (Un.write mu he k heo) (I.hok.write mu he k heo new)
theorem Inv.pins_of {pins':List (Addr × Obj)}(I:Inv X pins σ H s)(h:∀ p ∈ pins',s.heap.get? p.1=some p.2 /\ H p.1=none /\ p.1 ≠ X.env.locals /\ p.1 ∉ X.fs /\ ∀ v,p.2.data ≠ .cell v):Inv X pins' σ H s :=
 ⟨I.ok,I.os,I.bare,I.base,I.loc,I.cell,I.free,I.freeC,fun p hp=>(List.mem_append.mp hp).elim (fun z=>I.pin p (List.mem_append_left _ z)) (h p),I.hok,I.len⟩
theorem nodup_ix {N:List Str}(hN:N.Nodup){i j:Nat}{x:Str}(a:N[i]? = some x)(b:N[j]? = some x):i=j:=by
 obtain ⟨h1,e1⟩:=qB.mp a
 obtain ⟨h2,e2⟩:=qB.mp b
 exact (List.getElem_inj hN).mp (e1.trans e2.symm)
theorem store_ok2 {M:Model}{A:Around}{E:Value -> Shared -> Prop}{i:Nat}{x:Str}{v:V}{u:Value}{Q:Unit -> Shared -> Prop}(I:Inv X pins σ H s)(hN:X.N.Nodup)(hi:X.N[i]? = some x)(hx:Loc X.env.scope x)(r:RelV v u)
  (h:∀ s',Inv X pins (σ.set i (some v)) H s' -> (∃ a,Heap.SameBut a s.heap s'.heap /\ (a=X.env.locals \/ X.env.cells.lookup x=some a)) -> Q () s') (hf:X.fn x=true \/ X.env.scope.names.lookup x=some .local:=by first | exact .inl rfl | exact .inr rfl | assumption):wpAny M A (storeName X.env x u) Q E s:=by
 obtain ⟨m,hn,hl⟩:=id I.loc
 have hcls:(X.env.scope.kind == .class || (X.env.scope.kind == .module && X.env.locals != X.env.globals))=false:=by rw [I.ok.kind]; rfl
 have hiσ:i < σ.length:=by rw [I.len]; exact (qB.mp hi).1
 have cne:=I.cne
 have tracked:∀ {a:Addr} {h':Heap},(∃ o,s.heap.get? a=some o /\ H a=none) -> Heap.SameBut a s.heap h' -> HOk X.prog X.w H h':=fun {a h'} ha hs b ob e=>by
  obtain ⟨_,_,hfree⟩:=ha
  refine (I.hok b ob e).stay (fun c w' hc q=>(hs.2 c ?_).trans q) (fun _ q=>q) fun _ _ q=>q
  rintro rfl
  rcases hc with rfl | hc
  ·rw [hfree] at e; cases e
  ·rw [hfree] at hc; cases hc
 rcases hx with hk | hk
 ·refine wpAny_storeName_local hk hn (fun h' hn' hs=>?_) hcls
  obtain ⟨oL,_,_,hoL,_⟩:=id hn
  refine h _ ⟨I.ok,I.os,I.bare,⟨fun b o e n hb hx=>?_,fun b o e n hb hx=>?_,I.base.free,fun b o e hx=>?_,I.base.tups,I.base.frzs,I.base.tbls⟩,⟨_,hn',fun j y v' e1 e2 e3=>?_⟩,fun y c e=>?_,I.free,I.freeC,fun p hp=>?_,tracked ⟨oL,hoL,I.free⟩ hs,by simpa using I.len⟩ ⟨_,hs,.inl rfl⟩
  ·exact (hs.2 b (Nat.ne_of_lt (qJ (Heap.lt_size e) I.ok.above))).trans (I.base.keep b o e n hb hx)
  ·obtain ⟨sl,e1⟩:=I.base.slot b o e n hb hx
   exact ⟨sl,(hs.2 b (Nat.ne_of_lt (qJ (Heap.lt_size e) I.ok.above))).trans e1⟩
  ·obtain ⟨o',e1⟩:=I.base.there b o e hx
   exact ⟨o',(hs.2 b (Nat.ne_of_lt (qJ (Heap.lt_size e) I.ok.above))).trans e1⟩
  ·by_cases hj:j=i
   ·subst hj
    rw [hi] at e1; cases e1
    rw [List.getElem?_set_self hiσ] at e2
    cases e2
    exact ⟨u,r,.inl ⟨hk,by simp⟩⟩
   ·rw [List.getElem?_set_ne (Ne.symm hj)] at e2
    obtain ⟨u',r',q⟩:=hl j y v' e1 e2 e3
    refine ⟨u',r',?_⟩
    rcases q with ⟨k,e⟩ | ⟨k,c,e,z⟩
    ·refine .inl ⟨k,?_⟩
     have:y ≠ x:=fun e=>hj (nodup_ix hN e1 (e ▸ hi))
     simp [this,e]
    ·exact .inr ⟨k,c,e,z.sameBut hs (cne y c e)⟩
  ·obtain ⟨w',z⟩:=I.cell y c e
   exact ⟨w',z.sameBut hs (cne y c e)⟩
  ·obtain ⟨e,n,ne,nf,d⟩:=I.pin p hp
   exact ⟨(hs.2 p.1 ne).trans e,n,ne,nf,d⟩
 ·have hfn:X.fn x=true:=by
   rcases hf with z | z
   ·exact z
   ·rw [z] at hk; cases hk
  obtain ⟨c,hc⟩:=I.ok.has x (.inl hk)
  obtain ⟨w',z⟩:=I.cell x c hc
  refine wpAny_storeName_cell I.ok.kind hk hc z (fun h' hc' hs=>?_)
  obtain ⟨oc,hoc,hocd⟩:=id z
  refine h { s with heap:=h' } ⟨I.ok,I.os,I.bare,⟨fun b o e n hb hx=>?_,fun b o e n hb hx=>?_,I.base.free,fun b o e hx=>?_,I.base.tups,I.base.frzs,I.base.tbls⟩,⟨m,hn.sameBut hs (Ne.symm (cne x c hc)),fun j y v' e1 e2 e3=>?_⟩,fun y c' e=>?_,I.free,I.freeC,fun p hp=>?_,tracked ⟨oc,hoc,I.freeC x c hc⟩ hs,by simpa using I.len⟩ ⟨c,hs,.inr hc⟩
  ·exact (hs.2 b (Nat.ne_of_lt (qJ (Heap.lt_size e) (I.ok.cab x c hfn hc)))).trans (I.base.keep b o e n hb hx)
  ·obtain ⟨sl,e1⟩:=I.base.slot b o e n hb hx
   exact ⟨sl,(hs.2 b (Nat.ne_of_lt (qJ (Heap.lt_size e) (I.ok.cab x c hfn hc)))).trans e1⟩
  ·obtain ⟨o',e1⟩:=I.base.there b o e hx
   exact ⟨o',(hs.2 b (Nat.ne_of_lt (qJ (Heap.lt_size e) (I.ok.cab x c hfn hc)))).trans e1⟩
  ·by_cases hj:j=i
   ·subst hj
    rw [hi] at e1; cases e1
    rw [List.getElem?_set_self hiσ] at e2
    cases e2
    exact ⟨u,r,.inr ⟨.inl hk,c,hc,hc'⟩⟩
   ·rw [List.getElem?_set_ne (Ne.symm hj)] at e2
    obtain ⟨u',r',q⟩:=hl j y v' e1 e2 e3
    refine ⟨u',r',?_⟩
    rcases q with q | ⟨k,c',e,z'⟩
    ·exact .inl q
    ·refine .inr ⟨k,c',e,z'.sameBut hs ?_⟩
     rintro rfl
     exact hj (nodup_ix hN e1 (I.ok.inj _ _ _ e hc ▸ hi))
  ·by_cases hcc:c'=c
   ·subst hcc; exact ⟨_,hc'⟩
   ·obtain ⟨w2,z2⟩:=I.cell y c' e
    exact ⟨w2,z2.sameBut hs hcc⟩
  ·obtain ⟨e,n,ne,nf,d⟩:=I.pin p hp
   refine ⟨(hs.2 p.1 ?_).trans e,n,ne,nf,d⟩
   intro q
   rw [q,hoc] at e
   have q':oc=p.2:=Option.some.inj e
   exact d w' (by rw [← q']; exact hocd)
theorem store_ok {M:Model}{A:Around}{E:Value -> Shared -> Prop}{i:Nat}{x:Str}{v:V}{u:Value}{Q:Unit -> Shared -> Prop}(I:Inv X pins σ H s)(hN:X.N.Nodup)(hi:X.N[i]? = some x)(hx:Loc X.env.scope x)(r:RelV v u)
  (h:∀ s',Inv X pins (σ.set i (some v)) H s' -> Q () s') (hf:X.fn x=true \/ X.env.scope.names.lookup x=some .local:=by first | exact .inl rfl | exact .inr rfl | assumption):wpAny M A (storeName X.env x u) Q E s :=
 store_ok2 I hN hi hx r (fun s' I' _=>h s' I') hf
theorem Inv.call' {s':Shared}{ch:List Addr}(I:Inv X pins σ H s)(ho:s'.os=s.os)(u:Un (frs X.stack) ch H H' s.heap s'.heap)(hok:HOk X.prog X.w H' s'.heap)(hg:AllBare s'.gens)
  (hch:∀ b ∈ ch,(b ∈ X.ex \/ X.s₀.heap.objs.size <= b) /\ b ≠ X.env.locals /\ (∀ x c,X.env.cells.lookup x=some c -> c ≠ b) /\ ∀ p ∈ X.pn ++ pins,p.1 ≠ b):Inv X pins σ H' s':=by
 obtain ⟨h',g',d',t',o'⟩:=s'
 have e:o'=s.os:=ho
 subst e
 exact I.call (g':=g') (t':=t') (d':=d') u hok hg hch
end
abbrev XK:=Value -> Option Addr -> Hp -> Prop
abbrev St:=List (Option V)
abbrev VK:=V -> Hp -> Prop
abbrev TE:=St -> Hp -> VK -> Prop
abbrev TT:=St -> Hp -> (Bool -> Hp -> Prop) -> Prop
abbrev TA:=St -> Hp -> (List V -> Hp -> Prop) -> Prop
structure Ends where
 nx:St -> Hp -> Prop
 rt:VK
 bk:St -> Hp -> Prop:=fun _ _=>False
 ct:St -> Hp -> Prop:=fun _ _=>False
abbrev TS:=Ends -> St -> Hp -> Prop
def EP (X:Cx)(pins:List (Addr × Obj))(σ:St)(Q:VK)(u:Value)(s':Shared):Prop:=∃ v H',Inv X pins σ H' s' /\ RelV v u /\ Q v H'
def TP (X:Cx)(pins:List (Addr × Obj))(σ:St)(Q:Bool -> Hp -> Prop)(b:Bool)(s':Shared):Prop:=∃ H',Inv X pins σ H' s' /\ Q b H'
def AP (X:Cx)(pins:List (Addr × Obj))(σ:St)(Q:List V -> Hp -> Prop)(us:List Value)(s':Shared):Prop:=∃ vs H',Inv X pins σ H' s' /\ Vals vs us /\ Q vs H'
def SP (X:Cx)(pins:List (Addr × Obj))(D:Ends)(f:Flow)(s':Shared):Prop :=
 match f with
 | .next=>∃ σ' H',Inv X pins σ' H' s' /\ D.nx σ' H'
 | .brk=>∃ σ' H',Inv X pins σ' H' s' /\ D.bk σ' H'
 | .cont=>∃ σ' H',Inv X pins σ' H' s' /\ D.ct σ' H'
 | .ret u=>∃ v σ' H',Inv X pins σ' H' s' /\ RelV v u /\ D.rt v H'
def PE (X:Cx)(e:Expr)(t:TE):Prop :=
 ∀ (pins:List (Addr × Obj)) (s:Shared) (σ:St) (H:Hp) (Q:VK),Inv X pins σ H s -> t σ H Q -> wpAny (model X.prog X.w) X.A (eval e X.env) (EP X pins σ Q) X.xe s
def PT (X:Cx)(e:Expr)(t:TT):Prop :=
 ∀ (pins:List (Addr × Obj)) (s:Shared) (σ:St) (H:Hp) (Q:Bool -> Hp -> Prop),Inv X pins σ H s -> t σ H Q -> wpAny (model X.prog X.w) X.A (isTrue e X.env (eval e X.env)) (TP X pins σ Q) X.xe s
def PW (X:Cx)(e:Expr)(t:TT):Prop :=
 ∀ (whole:Sem Value) (pins:List (Addr × Obj)) (s:Shared) (σ:St) (H:Hp) (Q:Bool -> Hp -> Prop),Inv X pins σ H s -> t σ H Q -> wpAny (model X.prog X.w) X.A (isTrue e X.env whole) (TP X pins σ Q) X.xe s
theorem PW.pt {X:Cx}{e:Expr}{t:TT}(h:PW X e t):PT X e t:=h _
def PA (X:Cx)(es:List Expr)(t:TA):Prop :=
 ∀ (pos:Pos) (pins:List (Addr × Obj)) (s:Shared) (σ:St) (H:Hp) (Q:List V -> Hp -> Prop),Inv X pins σ H s -> t σ H Q -> wpAny (model X.prog X.w) X.A (spliced (backTo pos (starEach es X.env))) (AP X pins σ Q) X.xe s
def PS (X:Cx)(st:Stmt)(t:TS):Prop :=
 ∀ (pins:List (Addr × Obj)) (s:Shared) (σ:St) (H:Hp) (D:Ends),Inv X pins σ H s -> t D σ H -> wpAny (model X.prog X.w) X.A (exec st X.env) (SP X pins D) X.xe s
def PSs (X:Cx)(st:List Stmt)(t:TS):Prop :=
 ∀ (pins:List (Addr × Obj)) (s:Shared) (σ:St) (H:Hp) (D:Ends),Inv X pins σ H s -> t D σ H -> wpAny (model X.prog X.w) X.A (execs st X.env) (SP X pins D) X.xe s
theorem thn {α:Type}{t:Sem α}{Q Q':α -> Shared -> Prop}{M:Model}{A:Around}{E:Value -> Shared -> Prop}{s:Shared}(h:wpAny M A t Q E s)(hQ:∀ a s,Q a s -> Q' a s):wpAny M A t Q' E s:=wpAny_mono h hQ fun _ _ x=>x
end L2
namespace L2
open PySem PySem.Spec PyProof.Rows
section
variable {X:Cx}
def tVar (i:Nat):TE:=fun σ H Q=>∃ v,σ[i]? = some (some v) /\ Q v H
def tC (v:V):TE:=fun _ H Q=>Q v H
theorem pe_var {i:Nat} {x:Str} {pos:Pos} (hN:X.N[i]? = some x) (hv:Vis X.env.scope x) (hd:(x == ("__debug__" : Str))=false:=by decide) (hcd:(x == ("__classdict__" : Str))=false:=by decide):PE X (.Name x pos) (tVar i):=by
 intro pins s σ H Q I h
 obtain ⟨v,e,h⟩:=h
 obtain ⟨m,hn,hl⟩:=I.loc
 obtain ⟨u,r,l⟩:=hl i x v hN e hv
 have fin:EP X pins σ Q u s:=⟨v,H,I,r,h⟩
 rcases l with ⟨hk,hm⟩ | ⟨hk,c,hc,hcell⟩
 ·exact wpAny_Name (wpAny_loadName_local I.ok.kind hk hn hm fin) hd
 ·rcases hk with hk | hk
  ·exact wpAny_Name (wpAny_loadName_cell I.ok.kind hk hc hcell fin) hd
  ·exact wpAny_Name (wpAny_loadName_free I.ok.kind hk hc hcell fin hcd) hd
theorem pe_int {i j pos}:PE X (.Constant (.int i) j pos) (tC (.int i)):=fun _ _ _ H _ I h=>wpAny_Constant_int ⟨.int i,H,I.tok _,⟨_,rfl⟩,h⟩
theorem pe_bl {b j pos}:PE X (.Constant (.bool b) j pos) (tC (.bl b)):=fun _ _ _ H _ I h=>Constant_bool ⟨.bl b,H,I,rfl,h⟩
theorem pe_non {j pos}:PE X (.Constant .none j pos) (tC .non):=fun _ _ _ H _ I h=>Constant_none ⟨.non,H,I,rfl,h⟩
theorem pe_str {x j pos}:PE X (.Constant (.str x) j pos) (tC (.str x)):=fun _ _ _ H _ I h=>Calls.Constant_str ⟨.str x,H,I.tok _,⟨_,rfl⟩,h⟩
def Gl (X:Cx)(x:Str):Prop:=X.env.kindOf x=some .globalImplicit
theorem ld_glob {E:Value -> Shared -> Prop}{pins:List (Addr × Obj)}{s:Shared}{σ:St}{H:Hp}{x:Str}{u:Value}{pos:Pos}{Q:Value -> Shared -> Prop}(I:Inv X pins σ H s)(hg:Gl X x)(hm:X.mg x=some u)(h:Q u s)
  (hd:(x == ("__debug__" : Str))=false:=by decide):wpAny (model X.prog X.w) X.A (eval (.Name x pos) X.env) Q E s :=
 Calls.Name_function_global I.ok.kind hg (Calls.loadGlobal_global (by rw [I.ok.glob]; exact I.mod.glob.keeps I.bk) hm h) hd
theorem ld_blt {E:Value -> Shared -> Prop}{pins:List (Addr × Obj)}{s:Shared}{σ:St}{H:Hp}{x:Str}{u:Value}{pos:Pos}{Q:Value -> Shared -> Prop}(I:Inv X pins σ H s)(hg:Gl X x)(hm:X.mg x=none)(hv:bootBuiltins x=some u)(h:Q u s)
  (hn:x ≠ "__name__":=by decide) (hd:(x == ("__debug__" : Str))=false:=by decide):wpAny (model X.prog X.w) X.A (eval (.Name x pos) X.env) Q E s:=by
 obtain ⟨mb,h1,h2⟩:=I.mod.blt
 exact Calls.Name_function_global I.ok.kind hg (Calls.loadGlobal_builtin (by rw [I.ok.glob]; exact I.mod.glob.keeps I.bk) hm (by rw [I.ok.blt]; exact h1.keeps I.bk) ((h2 x hn).trans hv) h) hd
theorem pe_glob {x:Str} {v:V} {u:Value} {pos:Pos} (hg:Gl X x) (hm:X.mg x=some u) (r:RelV v u) (hd:(x == ("__debug__" : Str))=false:=by decide):PE X (.Name x pos) (tC v) :=
 fun _ _ _ H _ I h=>ld_glob I hg hm ⟨v,H,I,r,h⟩ hd
theorem pe_bltn {x:Str} {v:V} {u:Value} {pos:Pos} (hg:Gl X x) (hm:X.mg x=none) (hv:bootBuiltins x=some u) (r:RelV v u) (hn:x ≠ "__name__":=by decide) (hd:(x == ("__debug__" : Str))=false:=by decide):PE X (.Name x pos) (tC v) :=
 fun _ _ _ H _ I h=>ld_blt I hg hm hv ⟨v,H,I,r,h⟩ hn hd
variable {a b:Expr}{ta tb:TE}{pos:Pos}
def PC (X:Cx)(op:CmpOp)(a b:Expr)(t:TE):Prop :=
 ∀ (pins:List (Addr × Obj)) (s:Shared) (σ:St) (H:Hp) (Q:VK),Inv X pins σ H s -> t σ H Q ->
  wpAny (model X.prog X.w) X.A (eval a X.env) (fun v s₁=>wpAny (model X.prog X.w) X.A (eval b X.env) (fun u s₂=>wpAny (model X.prog X.w) X.A (compareOp op v u) (EP X pins σ Q) X.xe s₂) X.xe s₁) X.xe s
theorem nobehind (b:Expr){op:CmpOp}(h:op ≠ .In)(h2:op ≠ .NotIn):behindInMarks op b=false:=by
 have e1:(op == CmpOp.In)=false:=by cases op <;> first | rfl | exact absurd rfl h
 have e2:(op == CmpOp.NotIn)=false:=by cases op <;> first | rfl | exact absurd rfl h2
 cases b <;> simp [behindInMarks,e1,e2]
def tIsN (ta:TE):TE:=fun σ H Q=>ta σ H fun x H1=>Q (.bl (decide (x = .non))) H1
def tNotN (ta:TE):TE:=fun σ H Q=>ta σ H fun x H1=>Q (.bl (!decide (x = .non))) H1
theorem RelV.none_iff {x:V}{v:Value}(r:RelV x v):(v == Value.none)=decide (x = .non):=by
 cases x with
 | non=>cases r; rfl
 | bl _=>cases r; rfl
 | int _=>obtain ⟨t,rfl⟩:=r; rfl
 | str _=>obtain ⟨t,rfl⟩:=r; rfl
 | byt _=>obtain ⟨t,rfl⟩:=r; rfl
 | flt _=>obtain ⟨t,rfl⟩:=r; rfl
 | ref _=>cases r; rfl
 | ty _=>cases r; rfl
theorem pc_isN {j pos'}(ha:PE X a ta):PC X .Is a (.Constant .none j pos') (tIsN ta):=by
 intro pins s σ H Q I h
 refine thn (ha pins s σ H _ I h) fun v s1 ⟨x,H1,I1,r1,q1⟩=>?_
 exact Constant_none (is_none_gen ⟨.bl _,H1,I1,by rw [r1.none_iff]; rfl,q1⟩)
def tB (t:TE):TT:=fun σ H Q=>t σ H fun x H1=>∃ c,x = .bl c /\ Q c H1
theorem pt_cmp {op:CmpOp}{t:TE}(h:PC X op a b t)(h1:behindInMarks op b=false:=by first | exact nobehind _ (by decide) (by decide) | rfl):PT X (.Compare a [op] [b] pos) (tB t):=by
 intro pins s σ H Q I hw
 refine wpAny_isTrue_Compare1 (thn (h pins s σ H _ I hw) fun v s1 h1=>thn h1 fun u s2 h2=>thn h2 fun c s3 ⟨x,H1,I1,r1,q1⟩=>?_) h1
 obtain ⟨d,rfl,q⟩:=q1
 cases r1
 exact wpAny_truthy_bool ⟨H1,I1,q⟩
theorem pt_val {e:Expr}{t:TE}(h:PE X e t)(he:∀ whole,isTrue e X.env whole=(do let v ← whole; standAt e.pos; holding [v] (truthy v)):=by intro _; rfl):PT X e (tB t):=by
 intro pins s σ H Q I hw
 refine isTrue_plain (thn (h pins s σ H _ I hw) fun v s1 ⟨x,H1,I1,r1,q1⟩=>?_) (he _)
 obtain ⟨d,rfl,q⟩:=q1
 cases r1
 exact wpAny_truthy_bool ⟨H1,I1,q⟩
variable {tA tB':TT}{rest:List Expr}
def tAnd (t u:TT):TT:=fun σ H Q=>t σ H fun c H1=>if c=true then u σ H1 Q else Q false H1
def tOr (t u:TT):TT:=fun σ H Q=>t σ H fun c H1=>if c=true then Q true H1 else u σ H1 Q
def tNot (t:TT):TT:=fun σ H Q=>t σ H fun c H1=>Q (!c) H1
theorem pw_and1 (ha:PT X a tA):PW X (.BoolOp .And [a] pos) tA:=by
 intro wh pins s σ H Q I h
 refine isTrue_and (thn (ha pins s σ H Q I h) fun c s1 e=>?_)
 cases c with
 | true=>exact isTrue_and_nil e
 | false=>exact e
theorem pw_or1 (ha:PT X a tA):PW X (.BoolOp .Or [a] pos) tA:=by
 intro wh pins s σ H Q I h
 refine isTrue_or (thn (ha pins s σ H Q I h) fun c s1 e=>?_)
 cases c with
 | false=>exact isTrue_or_nil e
 | true=>exact e
theorem pw_and (ha:PT X a tA)(hb:PW X (.BoolOp .And (b :: rest) pos) tB'):PW X (.BoolOp .And (a :: b :: rest) pos) (tAnd tA tB'):=by
 intro wh pins s σ H Q I h
 refine isTrue_and (thn (ha pins s σ H _ I h) fun c s1 ⟨H1,I1,q1⟩=>?_)
 cases c with
 | true=>exact hb wh pins s1 σ H1 Q I1 q1
 | false=>exact ⟨H1,I1,q1⟩
theorem pw_or (ha:PT X a tA)(hb:PW X (.BoolOp .Or (b :: rest) pos) tB'):PW X (.BoolOp .Or (a :: b :: rest) pos) (tOr tA tB'):=by
 intro wh pins s σ H Q I h
 refine isTrue_or (thn (ha pins s σ H _ I h) fun c s1 ⟨H1,I1,q1⟩=>?_)
 cases c with
 | true=>exact ⟨H1,I1,q1⟩
 | false=>exact hb wh pins s1 σ H1 Q I1 q1
theorem pt_not (ha:PT X a tA):PT X (.UnaryOp .Not a pos) (tNot tA):=by
 intro pins s σ H Q I h
 exact isTrue_not (ha pins s σ H (fun c H1=>Q (!c) H1) I h)
def tAndV (ta tb:TE):TE:=fun σ H Q=>ta σ H fun x H1=>∃ c,x = .bl c /\ if c=true then tb σ H1 Q else Q (.bl false) H1
def tOrV (ta tb:TE):TE:=fun σ H Q=>ta σ H fun x H1=>∃ c,x = .bl c /\ if c=true then Q (.bl true) H1 else tb σ H1 Q
def tNotV (ta:TE):TE:=fun σ H Q=>ta σ H fun x H1=>∃ c,x = .bl c /\ Q (.bl (!c)) H1
theorem pe_one {op}{t:TE}(h:PE X a t):PE X (.BoolOp op [a] pos) t:=fun pins s σ H Q I hw=>BoolOp_one (h pins s σ H Q I hw)
theorem pe_and (ha:PE X a ta)(hb:PE X (.BoolOp .And (b :: rest) pos) tb):PE X (.BoolOp .And (a :: b :: rest) pos) (tAndV ta tb):=by
 intro pins s σ H Q I h
 refine BoolOp_and (thn (ha pins s σ H _ I h) fun v s1 ⟨x,H1,I1,r1,q1⟩=>?_)
 obtain ⟨c,rfl,q1⟩:=q1
 cases r1
 refine wpAny_truthy_bool ?_
 cases c with
 | true=>exact hb pins s1 σ H1 Q I1 q1
 | false=>exact ⟨.bl false,H1,I1,rfl,q1⟩
theorem pe_not (ha:PE X a ta):PE X (.UnaryOp .Not a pos) (tNotV ta):=by
 intro pins s σ H Q I h
 refine UnaryOp_ (thn (ha pins s σ H _ I h) fun v s1 ⟨x,H1,I1,r1,q1⟩=>?_)
 obtain ⟨c,rfl,q1⟩:=q1
 cases r1
 exact not_of (wpAny_truthy_bool ⟨.bl (!c),H1,I1,rfl,q1⟩)
def tIf (t:TT)(ta tb:TE):TE:=fun σ H Q=>t σ H fun c H1=>if c=true then ta σ H1 Q else tb σ H1 Q
theorem pe_ifExp {c:Expr}(hc:PT X c tA)(ha:PE X a ta)(hb:PE X b tb):PE X (.IfExp c a b pos) (tIf tA ta tb):=by
 intro pins s σ H Q I h
 refine wpAny_IfExp (thn (hc pins s σ H _ I h) fun d s1 ⟨H1,I1,q1⟩=>?_)
 cases d with
 | true=>exact ha pins s1 σ H1 Q I1 q1
 | false=>exact hb pins s1 σ H1 Q I1 q1
end
end L2
namespace L2
open PySem PySem.Spec PyProof.Rows
def SqL (K:PySem.W.Frag)(H:Hp)(a:Addr)(xs:List V):Prop :=
 Rd H a (.lst xs) \/
  ∃ (o:Obj) (its:Array Value) (n:Nat),K.lookup a=some o /\ o.cls = .type "list" /\ o.dict=none /\ o.data = .seq its n /\ its.size <= sizeLine /\ Vals xs its.toList
def SqT (K:PySem.W.Frag)(H:Hp)(a:Addr)(xs:List V):Prop :=
 Rd H a (.tup xs) \/
  ∃ (o:Obj) (its:Array Value) (n:Nat),K.lookup a=some o /\ o.cls = .type "tuple" /\ o.data = .seq its n /\ its.size <= sizeLine /\ Vals xs its.toList
def absV:Value -> Option V
 | .none=>some .non
 | .bool b=>some (.bl b)
 | .int i _=>some (.int i)
 | .str x _=>some (.str x)
 | .bytes b _=>some (.byt b)
 | .float b _=>some (.flt b)
 | .ref a=>some (.ref a)
 | .type n=>some (.ty n)
 | _=>none
theorem RelV.abs {x:V}{u:Value}(r:RelV x u):absV u=some x:=by
 cases x with
 | non=>cases r; rfl
 | bl _=>cases r; rfl
 | int _=>obtain ⟨t,rfl⟩:=r; rfl
 | str _=>obtain ⟨t,rfl⟩:=r; rfl
 | byt _=>obtain ⟨t,rfl⟩:=r; rfl
 | flt _=>obtain ⟨t,rfl⟩:=r; rfl
 | ref _=>cases r; rfl
 | ty _=>cases r; rfl
theorem RelV.inj {x y:V}{u:Value}(r:RelV x u)(q:RelV y u):x=y:=Option.some.inj (r.abs.symm.trans q.abs)
theorem Vals.inj:∀ {xs ys:List V} {us:List Value},Vals xs us -> Vals ys us -> xs=ys
 | _,_,_,.nil,.nil=>rfl
 | _,_,_,.cons r t,.cons r' t'=>by rw [r.inj r',Vals.inj t t']
section
variable {X:Cx}{pins:List (Addr × Obj)}{σ:St}{H:Hp}{s:Shared}{a:Addr}{xs ys:List V}
theorem SqL.of {K:PySem.W.Frag}(h:H a=some (.lst xs)):SqL K H a xs:=.inl (.inl h)
theorem SqT.of {K:PySem.W.Frag}(h:H a=some (.tup xs)):SqT K H a xs:=.inl (.inl h)
theorem Inv.list (I:Inv X pins σ H s)(h:SqL X.K H a xs):∃ its:List Value,Vals xs its /\ PlainL s.heap a its.toArray /\ xs.length <= sizeLine:=by
 rcases h with h | ⟨o,its,n,hk,hc,hd,hs,hz,r⟩
 ·obtain ⟨z,its,n,r,e⟩:=h.ok I.hok
  exact ⟨its,r,⟨_,n,e,rfl,rfl,rfl⟩,z⟩
 ·refine ⟨its.toList,r,⟨o,n,I.kIn a o hk,hc,hd,by simpa using hs⟩,?_⟩
  have e:=r.length
  simp only [Array.length_toList] at e
  omega
theorem Inv.tuple (I:Inv X pins σ H s)(h:SqT X.K H a xs):∃ its:List Value,Vals xs its /\ IsTup s.heap a its.toArray /\ xs.length <= sizeLine:=by
 rcases h with h | ⟨o,its,n,hk,hc,hs,hz,r⟩
 ·obtain ⟨z,its,r,p⟩:=h.ok I.hok
  exact ⟨its,r,p,z⟩
 ·refine ⟨its.toList,r,⟨o,I.kIn a o hk,hc,n,by simpa using hs⟩,?_⟩
  have e:=r.length
  simp only [Array.length_toList] at e
  omega
theorem Inv.list_inj (I:Inv X pins σ H s)(h:SqL X.K H a xs)(h':SqL X.K H a ys):xs=ys:=by
 obtain ⟨its,r,⟨o,n,e,_,_,d⟩,_⟩:=I.list h
 obtain ⟨its',r',⟨o',n',e',_,_,d'⟩,_⟩:=I.list h'
 rw [e] at e'; cases e'
 rw [d] at d'
 injection d' with d1 _
 have:its=its':=by simpa using congrArg Array.toList d1
 subst this
 exact r.inj r'
theorem Inv.tuple_inj (I:Inv X pins σ H s)(h:SqT X.K H a xs)(h':SqT X.K H a ys):xs=ys:=by
 obtain ⟨its,r,⟨o,e,_,n,d⟩,_⟩:=I.tuple h
 obtain ⟨its',r',⟨o',e',_,n',d'⟩,_⟩:=I.tuple h'
 rw [e] at e'; cases e'
 rw [d] at d'
 injection d' with d1 _
 have:its=its':=by simpa using congrArg Array.toList d1
 subst this
 exact r.inj r'
end
abbrev Cx.wish (X:Cx) (E:Value -> Shared -> Prop):Cx:={ X with xe:=E }
abbrev Cx.nox (X:Cx):Cx:=X.wish fun _ _=>False
theorem Cx.Ok.wish {X:Cx}(ok:X.Ok)(E:Value -> Shared -> Prop):(X.wish E).Ok :=
 ⟨ok.mod,ok.kind,ok.glob,ok.blt,ok.above,ok.inj,ok.has,ok.cab,ok.hd,ok.frames,ok.stk,ok.exf,ok.bs,ok.bsz,ok.noex,ok.exfs,ok.funs,ok.frf⟩
theorem Cx.Ok.unwish {X:Cx}{E:Value -> Shared -> Prop}(ok:(X.wish E).Ok):X.Ok :=
 ⟨ok.mod,ok.kind,ok.glob,ok.blt,ok.above,ok.inj,ok.has,ok.cab,ok.hd,ok.frames,ok.stk,ok.exf,ok.bs,ok.bsz,ok.noex,ok.exfs,ok.funs,ok.frf⟩
section
variable {X:Cx}{pins:List (Addr × Obj)}{σ:St}{H:Hp}{s:Shared}{E:Value -> Shared -> Prop}
theorem Inv.wish (I:Inv X pins σ H s)(E:Value -> Shared -> Prop):Inv (X.wish E) pins σ H s:=⟨I.ok.wish E,I.os,I.bare,I.base,I.loc,I.cell,I.free,I.freeC,I.pin,I.hok,I.len⟩
theorem Inv.unwish (I:Inv (X.wish E) pins σ H s):Inv X pins σ H s:=⟨I.ok.unwish,I.os,I.bare,I.base,I.loc,I.cell,I.free,I.freeC,I.pin,I.hok,I.len⟩
theorem SP.unwish {D:Ends}{f:Flow}{s':Shared}(h:SP (X.wish E) pins D f s'):SP X pins D f s':=by
 cases f with
 | next=>obtain ⟨σ',H',I,q⟩:=h; exact ⟨σ',H',I.unwish,q⟩
 | brk=>obtain ⟨σ',H',I,q⟩:=h; exact ⟨σ',H',I.unwish,q⟩
 | cont=>obtain ⟨σ',H',I,q⟩:=h; exact ⟨σ',H',I.unwish,q⟩
 | ret u=>obtain ⟨v,σ',H',I,r,q⟩:=h; exact ⟨v,σ',H',I.unwish,r,q⟩
theorem PSs.nox {st:List Stmt}{t:TS}(h:PSs X.nox st t):PSs X st t:=fun pins s σ H D I hw =>
 wpAny_mono (h pins s σ H D (I.wish _) hw) (fun _ _ q=>q.unwish) fun _ _ z=>False.elim z
end
section
variable {X:Cx}{st:Stmt}{rest:List Stmt}{t u:TS}{e:Expr}{te:TE}{pos:Pos}
def tNext:TS:=fun D σ H=>D.nx σ H
def tSeq (t u:TS):TS:=fun D σ H=>t { D with nx:=u D } σ H
theorem pss_nil:PSs X [] tNext:=fun _ _ σ H _ I h=>wpAny_execs_nil ⟨σ,H,I,h⟩
theorem pss_cons (h1:PS X st t)(h2:PSs X rest u):PSs X (st :: rest) (tSeq t u):=by
 intro pins s σ H D I h
 refine wpAny_execs_cons (thn (h1 pins s σ H { D with nx:=u D } I h) fun f s1 q=>?_)
 cases f with
 | next =>
  obtain ⟨σ',H',I',q⟩:=q
  exact h2 pins s1 σ' H' D I' q
 | ret v=>exact q
 | brk=>exact q
 | cont=>exact q
theorem pss_one (h1:PS X st t):PSs X [st] t:=by
 intro pins s σ H D I h
 refine wpAny_execs_cons (thn (h1 pins s σ H D I h) fun f s1 q=>?_)
 cases f with
 | next=>exact wpAny_execs_nil q
 | ret v=>exact q
 | brk=>exact q
 | cont=>exact q
def tBreak:TS:=fun D σ H=>D.bk σ H
def tCont:TS:=fun D σ H=>D.ct σ H
theorem ps_continue:PS X (.Continue pos) tCont:=fun _ _ σ H _ I h=>wpAny_Continue ⟨σ,H,I,h⟩
theorem Inv.quiet {pins:List (Addr × Obj)}{σ:St}{H:Hp}{s:Shared}(I:Inv X pins σ H s):interactive X.env=false:=by simp [interactive,I.ok.kind]
def tDrop (te:TE):TS:=fun D σ H=>te σ H fun _ H1=>D.nx σ H1
theorem ps_expr (he:PE X e te)(hs:swapsWith e none pos.line X.env=pure false:=by rfl):PS X (.Expr e pos) (tDrop te):=by
 intro pins s σ H D I h
 exact wpAny_Expr_any (thn (he pins s σ H _ I h) fun v s1 ⟨x,H1,I1,r1,q1⟩=>⟨σ,H1,I1,q1⟩) I.quiet hs
def tRet (te:TE):TS:=fun D σ H=>te σ H D.rt
theorem ps_ret (he:PE X e te):PS X (.Return (some e) pos) (tRet te):=by
 intro pins s σ H D I h
 exact wpAny_Return_some (thn (he pins s σ H _ I h) fun v s1 ⟨x,H1,I1,r1,q1⟩=>⟨x,σ,H1,I1,r1,q1⟩)
def tRetN:TS:=fun D _ H=>D.rt .non H
def tIfS (c:TT)(t u:TS):TS:=fun D σ H=>c σ H fun b H1=>if b=true then t D σ H1 else u D σ H1
theorem ps_if {c:Expr}{a b:List Stmt}{tc:TT}(hc:PT X c tc)(ha:PSs X a t)(hb:PSs X b u):PS X (.If c a b pos) (tIfS tc t u):=by
 intro pins s σ H D I h
 refine wpAny_If (thn (hc pins s σ H _ I h) fun d s1 ⟨H1,I1,q1⟩=>?_)
 cases d with
 | true=>exact ha pins s1 σ H1 D I1 q1
 | false=>exact hb pins s1 σ H1 D I1 q1
end
abbrev TG:=V -> St -> Hp -> (St -> Hp -> Prop) -> Prop
abbrev TGs:=List V -> St -> Hp -> (St -> Hp -> Prop) -> Prop
def PG (X:Cx)(target:Expr)(t:TG):Prop :=
 ∀ (pins:List (Addr × Obj)) (s:Shared) (σ:St) (H:Hp) (v:V) (u:Value) (Q:St -> Hp -> Prop),Inv X pins σ H s -> RelV v u -> t v σ H Q ->
  wpAny (model X.prog X.w) X.A (assign target X.env u) (fun _ s'=>∃ σ' H',Inv X pins σ' H' s' /\ Q σ' H') X.xe s
def PGs (X:Cx)(ts:List Expr)(t:TGs):Prop :=
 ∀ (pins:List (Addr × Obj)) (s:Shared) (σ:St) (H:Hp) (vs:List V) (us:List Value) (Q:St -> Hp -> Prop),Inv X pins σ H s -> Vals vs us -> t vs σ H Q ->
  wpAny (model X.prog X.w) X.A (assignInOrder ((assignEach ts X.env).map (·.2)) us) (fun _ s'=>∃ σ' H',Inv X pins σ' H' s' /\ Q σ' H') X.xe s
abbrev TSet:=V -> V -> V -> Hp -> (Hp -> Prop) -> Prop
def PSet (X:Cx)(t:TSet):Prop :=
 ∀ (pins:List (Addr × Obj)) (s:Shared) (σ:St) (H:Hp) (o i v:V) (ov iv u:Value) (Q:Hp -> Prop),Inv X pins σ H s -> RelV o ov -> RelV i iv -> RelV v u -> t o i v H Q ->
  wpAny (model X.prog X.w) X.A (setItem ov iv u) (fun _ s'=>∃ H',Inv X pins σ H' s' /\ Q H') X.xe s
abbrev TIp:=V -> V -> Hp -> VK -> Prop
def PIp (X:Cx)(op:Operator)(t:TIp):Prop :=
 ∀ (pins:List (Addr × Obj)) (s:Shared) (σ:St) (H:Hp) (x y:V) (v u:Value) (Q:VK),Inv X pins σ H s -> RelV x v -> RelV y u -> t x y H Q ->
  wpAny (model X.prog X.w) X.A (inplaceOp op v u) (EP X pins σ Q) X.xe s
section
variable {X:Cx}{pos:Pos}
def gName (i:Nat):TG:=fun v σ H Q=>Q (σ.set i (some v)) H
theorem pg_name {i:Nat}{x:Str}(hN:X.N.Nodup)(hi:X.N[i]? = some x)(hx:Loc X.env.scope x)(hf:X.fn x=true \/ X.env.scope.names.lookup x=some .local:=by first | exact .inl rfl | exact .inr rfl | assumption):PG X (.Name x pos) (gName i):=by
 intro pins s σ H v u Q I r h
 exact wpAny_assign_Name (store_ok I hN hi hx r (fun s' I'=>⟨_,H,I',h⟩) hf)
def gNil:TGs:=fun vs σ H Q=>vs=[] /\ Q σ H
def gCons (t:TG)(u:TGs):TGs:=fun vs σ H Q=>∃ v r,vs=v :: r /\ t v σ H fun σ' H'=>u r σ' H' Q
theorem pgs_nil:PGs X [] gNil:=by
 intro pins s σ H vs us Q I r h
 obtain ⟨e,h⟩:=h
 subst e
 cases r
 exact assignInOrder_nil ⟨σ,H,I,h⟩
theorem pgs_cons {e:Expr}{es:List Expr}{t:TG}{u:TGs}(h1:PG X e t)(h2:PGs X es u)
  (hs:(assignEach (e :: es) X.env).map (·.2)=assign e X.env :: (assignEach es X.env).map (·.2):=by rfl):PGs X (e :: es) (gCons t u):=by
 intro pins s σ H vs us Q I r h
 obtain ⟨v,vr,e1,h⟩:=h
 subst e1
 cases r with
 | cons r rr =>
  rw [hs]
  refine assignInOrder_cons (thn (h1 pins s σ H _ _ _ I r h) fun _ s1 ⟨σ1,H1,I1,q1⟩=>?_)
  exact h2 pins s1 σ1 H1 _ _ Q I1 rr q1
def gTup (K:PySem.W.Frag)(n:Nat)(t:TGs):TG:=fun v σ H Q=>∃ a xs,v = .ref a /\ SqT K H a xs /\ xs.length=n /\ t xs σ H Q
theorem pg_tup {es:List Expr}{k:Nat}{t:TGs}{n:Nat}(hc:X.calm=true)(h:PGs X es t)
  (hn:(assignEach es X.env).length=n:=by rfl) (hst:(assignEach es X.env).findIdx? (·.1)=none:=by rfl):PG X (.Tuple es k pos) (gTup X.K n t):=by
 intro pins s σ H v u Q I r hw
 obtain ⟨a,xs,e1,hq,hl,hw⟩:=hw
 subst e1
 cases r
 obtain ⟨its,rv,ht,hz⟩:=I.tuple hq
 refine assign_Tuple_tuple (I.ok.hd hc) ht (by simp [hn,← hl,rv.length]) hst fun h' hx=>?_
 have I1:Inv X pins σ H { s with heap:=h' }:=I.kept (t':=s.toks) fun b o e=>hx b o (Nat.ne_of_lt (Heap.lt_size e)) e
 exact h pins _ σ H xs _ Q I1 (by simpa using rv) hw
def gSub (to ti:TE)(t:TSet):TG:=fun v σ H Q=>to σ H fun o H1=>ti σ H1 fun i H2=>t o i v H2 fun H3=>Q σ H3
theorem pg_sub {o i:Expr}{to ti:TE}{t:TSet}(ho:PE X o to)(hi:PE X i ti)(hs:PSet X t)
  (ha:∀ v,assign (.Subscript o i pos) X.env v=(do
   let ov ← holding [v] (eval o X.env)
   let iv ← holding [v,ov] (eval i X.env)
   standAt pos
   holding [v,ov,iv] (setItem ov iv v)
   release [v,ov,iv] []):=by intro _; rfl):PG X (.Subscript o i pos) (gSub to ti t):=by
 intro pins s σ H v u Q I r h
 rw [ha]
 refine wpAny_bind (wpAny_holding (thn (ho pins s σ H _ I h) fun ov s1 ⟨x,H1,I1,r1,q1⟩=>?_))
 refine wpAny_bind (wpAny_holding (thn (hi pins s1 σ H1 _ I1 q1) fun iv s2 ⟨y,H2,I2,r2,q2⟩=>?_))
 refine wpAny_bind (wpAny_standAt (wpAny_bind (wpAny_holding (thn (hs pins s2 σ H2 x y v ov iv u _ I2 r1 r2 r q2) fun _ s3 ⟨H3,I3,q3⟩=>?_))))
 exact wpAny_release ⟨σ,H3,I3,q3⟩
def tAsg (te:TE)(g:TG):TS:=fun D σ H=>te σ H fun x H1=>g x σ H1 D.nx
theorem ps_asg {tg e:Expr}{te:TE}{g:TG}(he:PE X e te)(hg:PG X tg g)(hs:swapsWithSole [tg] e pos.line X.env=pure false:=by rfl)(hw:swappedStores [tg] e X.env=pure none:=by rfl)
  (h1:(assignEach [tg] X.env).map (·.2)=[assign tg X.env]:=by rfl):PS X (.Assign [tg] e pos) (tAsg te g):=by
 intro pins s σ H D I h
 refine wpAny_Assign_stores (thn (he pins s σ H _ I h) fun v s1 ⟨x,H1,I1,r1,q1⟩=>?_) hs hw
 rw [h1]
 exact thn (hg pins s1 σ H1 x v _ I1 r1 q1) fun _ s2 q=>q
theorem ps_set {i:Nat}{x:Str}{e:Expr}{te:TE}{pos':Pos}(hN:X.N.Nodup)(hi:X.N[i]? = some x)(hx:Loc X.env.scope x)(he:PE X e te)(hs:swapsWith e (some (.Name x pos')) pos.line X.env=pure false:=by rfl)(hf:X.fn x=true \/ X.env.scope.names.lookup x=some .local:=by first | exact .inl rfl | exact .inr rfl | assumption) :
  PS X (.Assign [.Name x pos'] e pos) (tAsg te (gName i)):=by
 intro pins s σ H D I h
 refine wpAny_Assign_Name (thn (he pins s σ H _ I h) fun v s1 ⟨y,H1,I1,r1,q1⟩=>?_) hs
 exact store_ok I1 hN hi hx r1 (fun s2 I2=>⟨_,H1,I2,q1⟩) hf
def tAug (i:Nat)(te:TE)(ti:TIp):TS:=fun D σ H=>∃ x,σ[i]? = some (some x) /\ te σ H fun y H1=>ti x y H1 fun z H2=>D.nx (σ.set i (some z)) H2
theorem ps_aug {i:Nat}{x:Str}{e:Expr}{te:TE}{op:Operator}{ti:TIp}{pos':Pos}(hN:X.N.Nodup)(hi:X.N[i]? = some x)(hx:Loc X.env.scope x)(he:PE X e te)(ho:PIp X op ti)(hf:X.fn x=true \/ X.env.scope.names.lookup x=some .local:=by first | exact .inl rfl | exact .inr rfl | assumption) :
  PS X (.AugAssign (.Name x pos') op e pos) (tAug i te ti):=by
 intro pins s σ H D I h
 obtain ⟨v,e1,h⟩:=h
 obtain ⟨m,hn,hl⟩:=I.loc
 have vis:Vis X.env.scope x:=by rcases hx with k | k; exact .inl k; exact .inr (.inl k)
 obtain ⟨u,r,l⟩:=hl i x v hi e1 vis
 refine wpAny_AugAssign_Name ?_
 have go:wpAny (model X.prog X.w) X.A (eval e X.env) (fun w s₂=>wpAny (model X.prog X.w) X.A (inplaceOp op u w) (fun r s₃=>wpAny (model X.prog X.w) X.A (storeName X.env x r) (fun _=>SP X pins D .next) X.xe s₃) X.xe s₂) X.xe s:=by
  refine thn (he pins s σ H _ I h) fun w s1 ⟨y,H1,I1,r1,q1⟩=>?_
  refine thn (ho pins s1 σ H1 v y u w _ I1 r r1 q1) fun z s2 ⟨zv,H2,I2,r2,q2⟩=>?_
  exact store_ok I2 hN hi hx r2 (fun s3 I3=>⟨_,H2,I3,q2⟩) hf
 rcases l with ⟨hk,hm⟩ | ⟨hk,c,hc,hcell⟩
 ·exact wpAny_loadName_local I.ok.kind hk hn hm go
 ·rcases hk with hk | hk
  ·exact wpAny_loadName_cell I.ok.kind hk hc hcell go
  ·rcases hx with k | k
   ·have:X.env.scope.names.lookup x=some .free:=hk
    rw [k] at this; cases this
   ·have:X.env.scope.names.lookup x=some .free:=hk
    rw [k] at this; cases this
def ipI (f:Int -> Int -> Int):TIp:=fun x y H Q=>∃ i j,x = .int i /\ y = .int j /\ Q (.int (f i j)) H
theorem ip_add:PIp X .Add (ipI fun i j=>i+j):=by
 intro pins s σ H x y v u Q I r1 r2 h
 obtain ⟨i,j,e1,e2,q⟩:=h
 subst e1; subst e2
 obtain ⟨t,rfl⟩:=r1
 obtain ⟨t',rfl⟩:=r2
 exact iadd_int ⟨.int _,H,I.tok _,⟨_,rfl⟩,q⟩
end
section
variable {X:Cx}{pos:Pos}
end
structure It where
 go:Nat -> Hp -> Prop
 yld:Nat -> Hp -> V -> Hp -> Prop
 stop:Nat -> Hp -> Prop
def FpOk (X:Cx)(pins:List (Addr × Obj))(H:Hp)(b:Addr):Prop :=
 H b=none /\ b ≠ X.env.locals /\ b ∉ X.fs /\ (b ∈ X.ex \/ X.s₀.heap.objs.size <= b) /\ (∀ x c,X.env.cells.lookup x=some c -> c ≠ b) /\ ∀ p ∈ X.pn ++ pins,p.1 ≠ b
theorem Inv.fpOk {X:Cx}{pins:List (Addr × Obj)}{σ:St}{H H':Hp}{s:Shared}{b:Addr}(I:Inv X pins σ H s)(hb:s.heap.objs.size <= b)(hn:H' b=none):FpOk X pins H' b:=by
 refine ⟨hn,Nat.ne_of_gt (qJ I.lt hb),I.nofs hb,.inr (Nat.le_trans I.sz hb),fun x c e z=>?_,fun p hp z=>?_⟩
 ·obtain ⟨v,q⟩:=I.cell x c e
  exact absurd (qJ q.lt (by rw [z]; exact hb)) (Nat.lt_irrefl _)
 ·exact absurd (qJ (Heap.lt_size (I.pin p hp).1) (by rw [z]; exact hb)) (Nat.lt_irrefl _)
structure Turn (P:Program) (w:World) (K:PySem.W.Frag) (tg:Expr) (J:It) (fp:List Addr) (it:Addr) (tn:Nat -> Heap -> Prop):Prop where
 mem:it ∈ fp
 obj:∀ i h,tn i h -> ∀ b ∈ fp,∃ o,h.get? b=some o /\ ∀ v,o.data ≠ .cell v
 keep:∀ i h h',tn i h -> (∀ b ∈ fp,∀ o,h.get? b=some o -> h'.get? b=some o) -> tn i h'
 item:∀ (X:Cx),X.prog=P -> X.w=w -> X.K=K -> X.calm=true -> ∀ (i:Nat) (pins:List (Addr × Obj)) (s:Shared) (σ:St) (H:Hp) (E:Value -> Shared -> Prop),Inv X pins σ H s -> (∀ b ∈ fp,FpOk X pins H b) -> tn i s.heap -> J.go i H ->
  wpAny (model P w) X.A (pyNext (.ref it)) (fun r s1=>∃ u,r=some u /\
   wpAny (model P w) X.A (letOwnedTupleGo tg (.ref it) u) (fun _ s2=>∃ x H',Inv X pins σ H' s2 /\ RelV x u /\ J.yld i H x H' /\ tn (i+1) s2.heap /\ ∀ b ∈ fp,H' b=none) E s1) E s
 done:∀ (X:Cx),X.prog=P -> X.w=w -> X.K=K -> X.calm=true -> ∀ (i:Nat) (pins:List (Addr × Obj)) (s:Shared) (σ:St) (H:Hp) (E:Value -> Shared -> Prop),Inv X pins σ H s -> (∀ b ∈ fp,FpOk X pins H b) -> tn i s.heap -> J.stop i H ->
  wpAny (model P w) X.A (pyNext (.ref it)) (fun r s1=>r=none /\ Inv X pins σ H s1) E s
 self:∀ (A:Around) (i:Nat) (s:Shared) (Q:Value -> Shared -> Prop) (E:Value -> Shared -> Prop),tn i s.heap -> Q (.ref it) s -> wpAny (model P w) A (pyIter (.ref it)) Q E s
abbrev TI:=St -> Hp -> (It -> Hp -> Prop) -> Prop
def PIE (X:Cx)(pins:List (Addr × Obj))(σ:St)(tg:Expr)(R:It -> Hp -> Prop)(itv:Value)(s2:Shared):Prop :=
 ∃ (it:Addr) (fp:List Addr) (tn:Nat -> Heap -> Prop) (J:It) (H':Hp),itv = .ref it /\ Inv X pins σ H' s2 /\ Turn X.prog X.w X.K tg J fp it tn /\ tn 0 s2.heap /\ (∀ b ∈ fp,FpOk X pins H' b) /\ R J H'
def PI (X:Cx)(tg iter:Expr)(wi:TI):Prop :=
 ∀ (pins:List (Addr × Obj)) (s:Shared) (σ:St) (H:Hp) (R:It -> Hp -> Prop),Inv X pins σ H s -> wi σ H R ->
  wpAny (model X.prog X.w) X.A (eval iter X.env) (fun v s1=>wpAny (model X.prog X.w) X.A (pyIter v) (PIE X pins σ tg R) X.xe s1) X.xe s
theorem go_of {M : Model}{A : Around}{E : Value → Shared → Prop}{s : Shared}{tg : Expr}{it : Addr}{u : Value}{o : Obj}{n : String}{vs : Array Value}{Q : Unit → Shared → Prop}(ho : s.heap.get? it = some o)(hc : o.cls = .type n)(hd : o.data = .fields vs)
    (hn : ["enumerate", "zip", "dict_itemiterator", "dict_reverseitemiterator", "odict_iterator", "itertools.zip_longest", "itertools.pairwise"].contains n = false) (hQ : Q () s) : wpAny M A (letOwnedTupleGo tg (.ref it) u) Q E s := by
  unfold letOwnedTupleGo
  cases tg <;> first
    | exact wpAny_pure hQ
    | (cases u <;> first
        | exact wpAny_pure hQ
        | (refine wpAny_bind (wpAny_load ho ?_)
           rw [hc, hd]
           show wpAny M A (if (["enumerate", "zip", "dict_itemiterator", "dict_reverseitemiterator", "odict_iterator", "itertools.zip_longest", "itertools.pairwise"].contains n && vs[0]? == some (rawInt _)) = true then _ else _) Q E s
           rw [if_neg (by intro h; rw [hn, Bool.false_and] at h; cases h)]
           exact wpAny_pure hQ))
def Itl (K:PySem.W.Frag)(a:Addr):It :=
 ⟨fun i H=>∃ xs x,SqL K H a xs /\ xs[i]? = some x,fun i H x H'=>H'=H /\ ∀ xs,SqL K H a xs -> xs[i]? = some x,fun i H=>∃ xs,SqL K H a xs /\ xs.length <= i⟩
def Itt (K:PySem.W.Frag)(a:Addr):It :=
 ⟨fun i H=>∃ xs x,SqT K H a xs /\ xs[i]? = some x,fun i H x H'=>H'=H /\ ∀ xs,SqT K H a xs -> xs[i]? = some x,fun i H=>∃ xs,SqT K H a xs /\ xs.length <= i⟩
def Itr (lo:Int)(n:Nat):It:=⟨fun i _=>i < n,fun i H x H'=>H'=H /\ x = .int (lo+i),fun i _=>n <= i⟩
theorem turn_list {P:Program}{w:World}{K:PySem.W.Frag}{tg:Expr}(a it:Addr):Turn P w K tg (Itl K a) [it] it (fun i h=>h.IsListIter it a i) where
 mem:=by simp
 obj:=fun i h st b hb=>by
  have e:b=it:=by simpa using hb
  subst e
  obtain ⟨o,e,c,d⟩:=st
  exact ⟨o,e,fun v z=>by rw [d] at z; cases z⟩
 keep:=fun i h h' st k=>st.at fun o e=>k it (by simp) o e
 item:=by
  intro X hP hw hK hc i pins s σ H E I hf st hg
  subst hP hw hK
  obtain ⟨xs,x,hq,hx⟩:=hg
  obtain ⟨its,rv,p,hz⟩:=I.list hq
  obtain ⟨u,hu,ru⟩:=rv.get hx
  obtain ⟨f0,f1,f2,f3,f4,f5⟩:=hf it (by simp)
  refine wpAny_pyNext_list_item st p.isList (x:=u) (by simpa using hu) fun h' st' sb=>?_
  have I1:Inv X pins σ H { s with heap:=h' }:=I.turned (t':=s.toks) (fun b o hb e=>(sb.2 b hb).trans e) f0 f1 f3 f4 f5
  obtain ⟨o,e,c,d⟩:=id st'
  exact ⟨u,rfl,go_of (s:={ s with heap:=h' }) e c d (by decide) ⟨x,H,I1,ru,⟨rfl,fun ys hy=>by rw [I.list_inj hy hq]; exact hx⟩,st',fun b hb=>(hf b hb).1⟩⟩
 done:=by
  intro X hP hw hK hc i pins s σ H E I hf st hg
  subst hP hw hK
  obtain ⟨xs,hq,hx⟩:=hg
  obtain ⟨its,rv,p,hz⟩:=I.list hq
  obtain ⟨f0,f1,f2,f3,f4,f5⟩:=hf it (by simp)
  have hl:=rv.length
  exact wpAny_pyNext_list_end (I.ok.hd hc) st p.isList (by simp; omega) fun h' eb=>⟨rfl,I.turned (t':=s.toks) (fun b o hb e=>eb b o hb e) f0 f1 f3 f4 f5⟩
 self:=fun _ _ _ _ _ st h=>wpAny_pyIter_listiter st h
theorem turn_tuple {P:Program}{w:World}{K:PySem.W.Frag}{tg:Expr}(a it:Addr):Turn P w K tg (Itt K a) [it] it (fun i h=>h.IsTupleIter it a i) where
 mem:=by simp
 obj:=fun i h st b hb=>by
  have e:b=it:=by simpa using hb
  subst e
  obtain ⟨o,e,c,d⟩:=st
  exact ⟨o,e,fun v z=>by rw [d] at z; cases z⟩
 keep:=fun i h h' st k=>st.at fun o e=>k it (by simp) o e
 item:=by
  intro X hP hw hK hc i pins s σ H E I hf st hg
  subst hP hw hK
  obtain ⟨xs,x,hq,hx⟩:=hg
  obtain ⟨its,rv,p,hz⟩:=I.tuple hq
  obtain ⟨u,hu,ru⟩:=rv.get hx
  obtain ⟨f0,f1,f2,f3,f4,f5⟩:=hf it (by simp)
  refine wpAny_pyNext_tuple_item st (show s.heap.IsTuple a its.toArray from p) (x:=u) (by simpa using hu) fun h' st' sb=>?_
  have I1:Inv X pins σ H { s with heap:=h' }:=I.turned (t':=s.toks) (fun b o hb e=>(sb.2 b hb).trans e) f0 f1 f3 f4 f5
  obtain ⟨o,e,c,d⟩:=id st'
  exact ⟨u,rfl,go_of (s:={ s with heap:=h' }) e c d (by decide) ⟨x,H,I1,ru,⟨rfl,fun ys hy=>by rw [I.tuple_inj hy hq]; exact hx⟩,st',fun b hb=>(hf b hb).1⟩⟩
 done:=by
  intro X hP hw hK hc i pins s σ H E I hf st hg
  subst hP hw hK
  obtain ⟨xs,hq,hx⟩:=hg
  obtain ⟨its,rv,p,hz⟩:=I.tuple hq
  obtain ⟨f0,f1,f2,f3,f4,f5⟩:=hf it (by simp)
  have hl:=rv.length
  exact wpAny_pyNext_tuple_end (I.ok.hd hc) st (show s.heap.IsTuple a its.toArray from p) (by simp; omega) fun h' eb=>⟨rfl,I.turned (t':=s.toks) (fun b o hb e=>eb b o hb e) f0 f1 f3 f4 f5⟩
 self:=fun _ _ _ _ _ st h=>wpAny_pyIter_tupleiter st h
theorem turn_range {P:Program}{w:World}{K:PySem.W.Frag}{tg:Expr}(it:Addr)(lo:Int)(n:Nat):Turn P w K tg (Itr lo n) [it] it (fun i h=>IsRangeIter h it (lo+(i:Nat) * 1) ((n:Int) - (i:Nat)) 1) where
 mem:=by simp
 obj:=fun i h st b hb=>by
  have e:b=it:=by simpa using hb
  subst e
  exact ⟨_,st,fun v z=>by
   have z':Data.fields _=Data.cell v:=z
   cases z'⟩
 keep:=fun i h h' st k=>k it (by simp) _ st
 item:=by
  intro X hP hw hK hc i pins s σ H E I hf st hg
  subst hP hw hK
  obtain ⟨f0,f1,f2,f3,f4,f5⟩:=hf it (by simp)
  have W:=Walks.range (prog:=X.prog) (w:=X.w) (I.ok.hd hc) it lo 1 n
  refine W.item i s _ _ hg st fun v h' tk hv st' kk=>?_
  obtain ⟨t,rfl⟩:=hv
  have I1:Inv X pins σ H { s with heap:=h',toks:=tk }:=I.turned (fun b o hb e=>kk b o (by simpa using hb) e) f0 f1 f3 f4 f5
  refine ⟨_,rfl,go_of (s:={ s with heap:=h',toks:=tk }) (n:="range_iterator") st' rfl rfl (by decide) ⟨.int (lo+i),H,I1,⟨t,?_⟩,⟨rfl,rfl⟩,st',fun b hb=>(hf b hb).1⟩⟩
  rw [Int.mul_one]
 done:=by
  intro X hP hw hK hc i pins s σ H E I hf st hg
  subst hP hw hK
  obtain ⟨f0,f1,f2,f3,f4,f5⟩:=hf it (by simp)
  exact wpAny_pyNext_range_end (I.ok.hd hc) st (by have:n <= i:=hg; omega) fun h' eb=>⟨rfl,I.turned (t':=s.toks) (fun b o hb e=>eb b o hb e) f0 f1 f3 f4 f5⟩
 self:=fun _ _ _ _ _ st h=>wpAny_pyIter_rangeiter st h
end L2
namespace L2
open PySem PySem.Spec PyProof.Rows
section
variable {X:Cx}{tg:Expr}
def iList (K:PySem.W.Frag)(tl:TE):TI:=fun σ H R=>tl σ H fun x H1=>∃ a,x = .ref a /\ (∃ xs,SqL K H1 a xs) /\ R (Itl K a) H1
def iTup (K:PySem.W.Frag)(tl:TE):TI:=fun σ H R=>tl σ H fun x H1=>∃ a,x = .ref a /\ (∃ xs,SqT K H1 a xs) /\ R (Itt K a) H1
theorem pi_list {l:Expr}{tl:TE}(hl:PE X l tl):PI X tg l (iList X.K tl):=by
 intro pins s σ H R I h
 refine thn (hl pins s σ H _ I h) fun v s1 ⟨x,H1,I1,r1,q1⟩=>?_
 obtain ⟨a,e,⟨xs,hq⟩,q⟩:=q1
 subst e
 cases r1
 obtain ⟨its,rv,p,hz⟩:=I1.list hq
 refine wpAny_pyIter_list p.isList ?_
 refine ⟨s1.heap.objs.size,[s1.heap.objs.size],_,_,H1,rfl,I1.kept (t':=s1.toks) fun b o e=>Heap.get?_push_of_some _ e,turn_list a _,⟨_,Heap.get?_push_size _ rfl,rfl,rfl⟩,fun b hb=>?_,q⟩
 have e:b=s1.heap.objs.size:=by simpa using hb
 subst e
 exact I1.fpOk (Nat.le_refl _) (I1.hok.fresh (Nat.le_refl _))
theorem pi_tup {l:Expr}{tl:TE}(hl:PE X l tl):PI X tg l (iTup X.K tl):=by
 intro pins s σ H R I h
 refine thn (hl pins s σ H _ I h) fun v s1 ⟨x,H1,I1,r1,q1⟩=>?_
 obtain ⟨a,e,⟨xs,hq⟩,q⟩:=q1
 subst e
 cases r1
 obtain ⟨its,rv,p,hz⟩:=I1.tuple hq
 refine wpAny_pyIter_tuple (show s1.heap.IsTuple a its.toArray from p) ?_
 refine ⟨s1.heap.objs.size,[s1.heap.objs.size],_,_,H1,rfl,I1.kept (t':=s1.toks) fun b o e=>Heap.get?_push_of_some _ e,turn_tuple a _,⟨_,Heap.get?_push_size _ rfl,rfl,rfl⟩,fun b hb=>?_,q⟩
 have e:b=s1.heap.objs.size:=by simpa using hb
 subst e
 exact I1.fpOk (Nat.le_refl _) (I1.hok.fresh (Nat.le_refl _))
theorem range_it {pins:List (Addr × Obj)}{σ:St}{H:Hp}{s:Shared}{R:It -> Hp -> Prop}{E:Value -> Shared -> Prop}{lo hi:Int}{t u v:Tok}{tk:Nat}(I:Inv X pins σ H s)(h1:-(2 ^ 62) <= lo)(h2:lo < 2 ^ 62)(h3:-(2 ^ 62) <= hi)(h4:hi < 2 ^ 62)
  (q:R (Itr lo (hi - lo).toNat) H):wpAny (model X.prog X.w) X.A (pyIter (.ref s.heap.objs.size)) (PIE X pins σ tg R) E { s with heap:=s.heap.push { cls:=.type "range",data:=.fields #[.int lo t,.int hi u,.int 1 v] },toks:=tk }:=by
 refine wpAny_pyIter_range (IsRange.new ..) (small_one h1 h2 h3 h4) ?_
 have I1:Inv X pins σ H { s with heap:=s.heap.push { cls:=.type "range",data:=.fields #[.int lo t,.int hi u,.int 1 v] },toks:=tk }:=I.kept fun b o e=>Heap.get?_push_of_some _ e
 refine ⟨(s.heap.push { cls:=.type "range",data:=.fields #[.int lo t,.int hi u,.int 1 v] }).objs.size,[(s.heap.push { cls:=.type "range",data:=.fields #[.int lo t,.int hi u,.int 1 v] }).objs.size],_,_,H,rfl,
  I1.kept (t':=tk) fun b o e=>Heap.get?_push_of_some _ e,turn_range _ lo (hi - lo).toNat,?_,fun b hb=>?_,q⟩
 ·have e1:lo+((0:Nat):Int) * 1=lo:=by simp
  have e2:(((hi - lo).toNat:Nat):Int) - ((0:Nat):Int)=Builtin.Range.rangeSize lo hi 1:=by rw [rangeSize_one]; split <;> omega
  show IsRangeIter _ _ (lo+((0:Nat):Int) * 1) ((((hi - lo).toNat:Nat):Int) - ((0:Nat):Int)) 1
  rw [e1,e2]
  exact Heap.get?_push_size _ rfl
 ·have e:b=(s.heap.push { cls:=.type "range",data:=.fields #[.int lo t,.int hi u,.int 1 v] }).objs.size:=by simpa using hb
  subst e
  exact I1.fpOk (Nat.le_refl _) (I1.hok.fresh (Nat.le_refl _))
def iRng1 (ta:TA):TI:=fun σ H R=>ta σ H fun vs H1=>∃ j:Int,vs=[.int j] /\ -(2 ^ 62) <= j /\ j < 2 ^ 62 /\ R (Itr 0 j.toNat) H1
def iRng2 (ta:TA):TI:=fun σ H R=>ta σ H fun vs H1=>∃ i j:Int,vs=[.int i,.int j] /\ (-(2 ^ 62) <= i /\ i < 2 ^ 62 /\ -(2 ^ 62) <= j /\ j < 2 ^ 62) /\ R (Itr i (j - i).toNat) H1
theorem pi_range1 {a:Expr} {ta:TA} {p pos:Pos} (hg:Gl X "range") (hm:X.mg "range" = none) (ha:PA X [a] ta) (hs:starEach [a] X.env=[(false,eval a X.env)]:=by rfl):PI X tg (.Call (.Name "range" p) [a] [] pos) (iRng1 ta):=by
 intro pins s σ H R I h
 refine Call_ (ld_blt I hg hm boot_range (PyProof.Rows.callWith_type1 (thn (ha pos pins s σ H _ I h) fun us s1 ⟨vs,H1,I1,r1,q1⟩=>?_) hs rfl))
 obtain ⟨j,e,q1,q2,q⟩:=q1
 subst e
 cases r1 with
 | cons r rr =>
  cases rr
  obtain ⟨t,rfl⟩:=r
  exact call_range_1 (range_it I1 (by omega) (by omega) q1 q2 (by simpa using q))
def tFor (wi:TI)(g:TG)(tb:TS):TS:=fun D σ H=>wi σ H fun J H1=>∃ W:Nat -> Nat -> St -> Hp -> Prop,(∃ m,W 0 m σ H1) /\ ∀ i m σ H,W i m σ H ->
 (J.stop i H /\ D.nx σ H) \/ (J.go i H /\ ∃ N:St -> Hp -> Prop,(∀ σ' H',N σ' H' -> ∃ m',m' < m /\ W (i+1) m' σ' H') /\ ∀ x H',J.yld i H x H' -> g x σ H' fun σ2 H2=>tb { D with nx:=N,ct:=N,bk:=D.nx } σ2 H2)
def pinsAt (fp:List Addr)(h:Heap):List (Addr × Obj):=fp.filterMap fun b=>(h.get? b).map fun o=>(b,o)
theorem mem_pinsAt {fp:List Addr}{h:Heap}{b:Addr}{o:Obj}(hb:b ∈ fp)(e:h.get? b=some o):(b,o) ∈ pinsAt fp h:=List.mem_filterMap.mpr ⟨b,hb,by rw [e]; rfl⟩
theorem of_pinsAt {fp:List Addr}{h:Heap}{p:Addr × Obj}(hp:p ∈ pinsAt fp h):p.1 ∈ fp /\ h.get? p.1=some p.2:=by
 obtain ⟨b,hb,e⟩:=List.mem_filterMap.mp hp
 cases q:h.get? b with
 | none=>rw [q] at e; cases e
 | some o =>
  rw [q] at e
  have e':(b,o)=p:=Option.some.inj e
  subst e'
  exact ⟨hb,q⟩
theorem Inv.pinned {pins:List (Addr × Obj)}{σ:St}{H:Hp}{s:Shared}{fp:List Addr}(I:Inv X pins σ H s)(hf:∀ b ∈ fp,FpOk X pins H b)(ho:∀ b ∈ fp,∃ o,s.heap.get? b=some o /\ ∀ v,o.data ≠ .cell v):Inv X (pins ++ pinsAt fp s.heap) σ H s :=
 I.pins_of fun p hp=>(List.mem_append.mp hp).elim (fun z=>I.pin p (qK _ z)) fun z=>by
  obtain ⟨hb,e⟩:=of_pinsAt z
  obtain ⟨f0,f1,f2,_⟩:=hf p.1 hb
  obtain ⟨o,e',d⟩:=ho p.1 hb
  rw [e] at e'; cases e'
  exact ⟨e,f0,f1,f2,d⟩
theorem Inv.unpinned {pins pl:List (Addr × Obj)}{σ:St}{H:Hp}{s:Shared}(I:Inv X (pins ++ pl) σ H s):Inv X pins σ H s:=I.pins_of fun p hp=>I.pin p (qK _ (List.mem_append_left _ hp))
theorem ps_for {iter:Expr}{body:List Stmt}{wi:TI}{g:TG}{tb:TS}{pos:Pos}(hp:PassesOwn (model X.prog X.w) X.A X.env X.xe)(hc:X.calm=true)(hi:PI X tg iter wi)(hg:PG X tg g)(hb:PSs X body tb)
  (hs:∀ x,foldedSetIterable iter X.env x=pure x:=by intro _; rfl):PS X (.For tg iter body [] pos) (tFor wi g tb):=by
 intro pins s σ H D I h
 refine wpAny_For (thn (hi pins s σ H _ I h) fun v s1 h1=>thn h1 fun itv s2 h2=>?_) hs
 obtain ⟨it,fp,tn,J,H2,e,I2,T,st2,f2,W,⟨m0,w0⟩,turn⟩:=h2
 subst e
 -- what stays true of the iterator's objects through the loop
 have stat:∀ {H':Hp},(∀ b ∈ fp,H' b=none) -> ∀ b ∈ fp,FpOk X pins H' b:=fun hn b hb=>⟨hn b hb,(f2 b hb).2⟩
 refine codeAny_forLoop_any (fun n s'=>∃ i σ' H',Inv X pins σ' H' s' /\ tn i s'.heap /\ (∀ b ∈ fp,H' b=none) /\ W i n σ' H') ?_ m0 ⟨0,σ,H2,I2,st2,fun b hb=>(f2 b hb).1,w0⟩
 rintro n s3 ⟨i,σ3,H3,I3,st3,fr3,w3⟩
 rcases turn i n σ3 H3 w3 with ⟨stop,qn⟩ | ⟨go,N,hN,step⟩
 ·refine wpAny_passesOwn hp (thn (T.done X rfl rfl rfl hc i pins s3 σ3 H3 X.xe I3 (stat fr3) st3 stop) fun r s4 ⟨hr,I4⟩=>?_)
  subst hr
  exact wpAny_execs_nil ⟨σ3,H3,I4,qn⟩
 ·refine wpAny_passesOwn hp (thn (T.item X rfl rfl rfl hc i pins s3 σ3 H3 X.xe I3 (stat fr3) st3 go) fun r s4 ⟨u,hr,h4⟩=>?_)
  subst hr
  refine wpAny_passesOwn hp (thn h4 fun _ s5 ⟨x,H5,I5,r5,y5,st5,fr5⟩=>?_)
  have I5':=I5.pinned (stat fr5) (T.obj _ _ st5)
  refine wpAny_passesOwn hp (thn (hg _ s5 σ3 H5 x u _ I5' r5 (step x H5 y5)) fun _ s6 ⟨σ6,H6,I6,q6⟩=>?_)
  refine wpAny_passesOwn hp (thn (hb _ s6 σ6 H6 _ I6 q6) fun f s7 q7=>?_)
  have again:∀ {σ7:St} {H7:Hp},Inv X (pins ++ pinsAt fp s5.heap) σ7 H7 s7 -> N σ7 H7 -> ∃ m,m < n /\ ∃ i σ' H',Inv X pins σ' H' s7 /\ tn i s7.heap /\ (∀ b ∈ fp,H' b=none) /\ W i m σ' H':=fun {σ7 H7} I7 n7=>by
   obtain ⟨m',hm,w7⟩:=hN σ7 H7 n7
   refine ⟨m',hm,i+1,σ7,H7,I7.unpinned,T.keep _ _ _ st5 fun b hb o e=>(I7.pin (b,o) (qK _ (qK _ (mem_pinsAt hb e)))).1,fun b hb=>?_,w7⟩
   obtain ⟨o,e,d⟩:=T.obj _ _ st5 b hb
   exact (I7.pin (b,o) (qK _ (qK _ (mem_pinsAt hb e)))).2.1
  cases f with
  | next=>obtain ⟨σ7,H7,I7,n7⟩:=q7; exact again I7 n7
  | cont=>obtain ⟨σ7,H7,I7,n7⟩:=q7; exact again I7 n7
  | brk=>obtain ⟨σ7,H7,I7,q7⟩:=q7; exact ⟨σ7,H7,I7.unpinned,q7⟩
  | ret v=>obtain ⟨x7,σ7,H7,I7,r7,q7⟩:=q7; exact ⟨x7,σ7,H7,I7.unpinned,r7,q7⟩
end
theorem for_list {K:PySem.W.Frag}{a:Addr}{xs:List V}{g:TG}{tb:TS}{D:Ends}{σ:St}{H:Hp}(Pv:Nat -> St -> Hp -> Prop)(h0:Pv 0 σ H)(hl:∀ i σ H,i <= xs.length -> Pv i σ H -> SqL K H a xs)
  (hs:∀ i x σ H,xs[i]? = some x -> Pv i σ H -> g x σ H fun σ2 H2=>tb { D with nx:=Pv (i+1),ct:=Pv (i+1),bk:=D.nx } σ2 H2) (hd:∀ σ H,Pv xs.length σ H -> D.nx σ H) :
  ∃ W:Nat -> Nat -> St -> Hp -> Prop,(∃ m,W 0 m σ H) /\ ∀ i m σ H,W i m σ H ->
   ((Itl K a).stop i H /\ D.nx σ H) \/ ((Itl K a).go i H /\ ∃ N:St -> Hp -> Prop,(∀ σ' H',N σ' H' -> ∃ m',m' < m /\ W (i+1) m' σ' H') /\ ∀ x H',(Itl K a).yld i H x H' -> g x σ H' fun σ2 H2=>tb { D with nx:=N,ct:=N,bk:=D.nx } σ2 H2):=by
 refine ⟨fun i m σ H=>m=xs.length - i /\ i <= xs.length /\ Pv i σ H,⟨xs.length,by simp,Nat.zero_le _,h0⟩,?_⟩
 rintro i m σ H ⟨rfl,hi,p⟩
 have q:=hl i σ H hi p
 by_cases hlt:i < xs.length
 ·refine .inr ⟨⟨xs,xs[i],q,by simp [hlt]⟩,Pv (i+1),fun σ' H' p'=>⟨xs.length - (i+1),by omega,rfl,hlt,p'⟩,fun x H' y=>?_⟩
  obtain ⟨e,y⟩:=y
  subst e
  exact hs i x σ _ (y xs q) p
 ·have e:i=xs.length:=by omega
  subst e
  exact .inl ⟨⟨xs,q,Nat.le_refl _⟩,hd σ H p⟩
theorem for_range {lo:Int}{n:Nat}{g:TG}{tb:TS}{D:Ends}{σ:St}{H:Hp}(Pv:Nat -> St -> Hp -> Prop)(h0:Pv 0 σ H)
  (hs:∀ i σ H,i < n -> Pv i σ H -> g (.int (lo+i)) σ H fun σ2 H2=>tb { D with nx:=Pv (i+1),ct:=Pv (i+1),bk:=D.nx } σ2 H2) (hd:∀ σ H,Pv n σ H -> D.nx σ H) :
  ∃ W:Nat -> Nat -> St -> Hp -> Prop,(∃ m,W 0 m σ H) /\ ∀ i m σ H,W i m σ H ->
   ((Itr lo n).stop i H /\ D.nx σ H) \/ ((Itr lo n).go i H /\ ∃ N:St -> Hp -> Prop,(∀ σ' H',N σ' H' -> ∃ m',m' < m /\ W (i+1) m' σ' H') /\ ∀ x H',(Itr lo n).yld i H x H' -> g x σ H' fun σ2 H2=>tb { D with nx:=N,ct:=N,bk:=D.nx } σ2 H2):=by
 refine ⟨fun i m σ H=>m=n - i /\ i <= n /\ Pv i σ H,⟨n,by simp,Nat.zero_le _,h0⟩,?_⟩
 rintro i m σ H ⟨rfl,hi,p⟩
 by_cases hlt:i < n
 ·refine .inr ⟨hlt,Pv (i+1),fun σ' H' p'=>⟨n - (i+1),by omega,rfl,hlt,p'⟩,fun x H' y=>?_⟩
  obtain ⟨e,y⟩:=y
  subst e y
  exact hs i σ _ hlt p
 ·have e:i=n:=by omega
  subst e
  exact .inl ⟨Nat.le_refl _,hd σ H p⟩
end L2
namespace L2
open PySem PySem.Spec PyProof.Rows
abbrev R2:=V -> V -> Hp -> VK -> Prop
def OpR (X:Cx)(f:Value -> Value -> Sem Value)(r:R2):Prop :=
 ∀ (pins:List (Addr × Obj)) (s:Shared) (σ:St) (H:Hp) (x y:V) (v u:Value) (Q:VK),Inv X pins σ H s -> RelV x v -> RelV y u -> r x y H Q ->
  wpAny (model X.prog X.w) X.A (f v u) (EP X pins σ Q) X.xe s
def UnR (X:Cx)(f:Value -> Sem Value)(r:V -> Hp -> VK -> Prop):Prop :=
 ∀ (pins:List (Addr × Obj)) (s:Shared) (σ:St) (H:Hp) (x:V) (v:Value) (Q:VK),Inv X pins σ H s -> RelV x v -> r x H Q ->
  wpAny (model X.prog X.w) X.A (f v) (EP X pins σ Q) X.xe s
def CallR (X:Cx)(f:Value)(r:List V -> Hp -> VK -> Prop):Prop :=
 ∀ (pins:List (Addr × Obj)) (s:Shared) (σ:St) (H:Hp) (xs:List V) (us:List Value) (Q:VK),Inv X pins σ H s -> Vals xs us -> r xs H Q ->
  wpAny (model X.prog X.w) X.A (call f us) (EP X pins σ Q) X.xe s
def tOp (r:R2)(ta tb:TE):TE:=fun σ H Q=>ta σ H fun x H1=>tb σ H1 fun y H2=>r x y H2 Q
def tUn (r:V -> Hp -> VK -> Prop)(ta:TE):TE:=fun σ H Q=>ta σ H fun x H1=>r x H1 Q
def rI (C:Int -> Int -> Prop)(g:Int -> Int -> V):R2:=fun x y H Q=>∃ i j,x = .int i /\ y = .int j /\ C i j /\ Q (g i j) H
def rI0 (g:Int -> Int -> V):R2:=fun x y H Q=>∃ i j,x = .int i /\ y = .int j /\ Q (g i j) H
def rU (g:Int -> V):V -> Hp -> VK -> Prop:=fun x H Q=>∃ i,x = .int i /\ Q (g i) H
section
variable {X:Cx}{a b c:Expr}{ta tb tc:TE}{pos:Pos}
theorem binT (ha:PE X a ta)(hb:PE X b tb){pins:List (Addr × Obj)}{s:Shared}{σ:St}{H:Hp}{R:V -> V -> Hp -> Prop}(I:Inv X pins σ H s)
  (h:ta σ H fun x H1=>tb σ H1 fun y H2=>R x y H2) {Q:Value -> Shared -> Prop} {f:Value -> Value -> Sem Value}
  (hf:∀ v u s2 x y H2,Inv X pins σ H2 s2 -> RelV x v -> RelV y u -> R x y H2 -> wpAny (model X.prog X.w) X.A (f v u) Q X.xe s2) :
  wpAny (model X.prog X.w) X.A (eval a X.env) (fun v s₁=>wpAny (model X.prog X.w) X.A (eval b X.env) (fun u s₂=>wpAny (model X.prog X.w) X.A (f v u) Q X.xe s₂) X.xe s₁) X.xe s:=by
 refine thn (ha pins s σ H _ I h) fun v s1 ⟨x,H1,I1,r1,q1⟩=>?_
 refine thn (hb pins s1 σ H1 _ I1 q1) fun u s2 ⟨y,H2,I2,r2,q2⟩=>?_
 exact hf v u s2 x y H2 I2 r1 r2 q2
theorem pe_op {op:Operator}{r:R2}(ho:OpR X (binaryOp op) r)(ha:PE X a ta)(hb:PE X b tb):PE X (.BinOp a op b pos) (tOp r ta tb):=by
 intro pins s σ H Q I h
 exact wpAny_BinOp (binT ha hb I h fun v u s2 x y H2 I2 rx ry q=>ho pins s2 σ H2 x y v u Q I2 rx ry q)
theorem pe_un {op:UnaryOp}{r:V -> Hp -> VK -> Prop}(ho:UnR X (unaryOp op) r)(ha:PE X a ta):PE X (.UnaryOp op a pos) (tUn r ta):=by
 intro pins s σ H Q I h
 exact UnaryOp_ (thn (ha pins s σ H _ I h) fun v s1 ⟨x,H1,I1,r1,q1⟩=>ho pins s1 σ H1 x v Q I1 r1 q1)
theorem opI {f:Value -> Value -> Sem Value}{C:Int -> Int -> Prop}{g:Int -> Int -> Int}
  (rule:∀ (i j:Int) (t u:Tok) (s:Shared) (Q:Value -> Shared -> Prop) (E:Value -> Shared -> Prop),C i j -> Q (.int (g i j) s.toks) { s with toks:=s.toks+1 } -> wpAny (model X.prog X.w) X.A (f (.int i t) (.int j u)) Q E s) :
  OpR X f (rI C fun i j=>.int (g i j)):=by
 intro pins s σ H x y v u Q I rx ry h
 obtain ⟨i,j,rfl,rfl,hc,q⟩:=h
 obtain ⟨t,rfl⟩:=rx
 obtain ⟨t',rfl⟩:=ry
 exact rule i j t t' s _ _ hc ⟨.int (g i j),H,I.tok _,⟨_,rfl⟩,q⟩
theorem opI0 {f:Value -> Value -> Sem Value}{g:Int -> Int -> Int}
  (rule:∀ (i j:Int) (t u:Tok) (s:Shared) (Q:Value -> Shared -> Prop) (E:Value -> Shared -> Prop),Q (.int (g i j) s.toks) { s with toks:=s.toks+1 } -> wpAny (model X.prog X.w) X.A (f (.int i t) (.int j u)) Q E s) :
  OpR X f (rI0 fun i j=>.int (g i j)):=by
 intro pins s σ H x y v u Q I rx ry h
 obtain ⟨i,j,rfl,rfl,q⟩:=h
 obtain ⟨t,rfl⟩:=rx
 obtain ⟨t',rfl⟩:=ry
 exact rule i j t t' s _ _ ⟨.int (g i j),H,I.tok _,⟨_,rfl⟩,q⟩
theorem opB0 {f:Value -> Value -> Sem Value}{g:Int -> Int -> Bool}
  (rule:∀ (i j:Int) (t u:Tok) (s:Shared) (Q:Value -> Shared -> Prop) (E:Value -> Shared -> Prop),Q (.bool (g i j)) s -> wpAny (model X.prog X.w) X.A (f (.int i t) (.int j u)) Q E s) :
  OpR X f (rI0 fun i j=>.bl (g i j)):=by
 intro pins s σ H x y v u Q I rx ry h
 obtain ⟨i,j,rfl,rfl,q⟩:=h
 obtain ⟨t,rfl⟩:=rx
 obtain ⟨t',rfl⟩:=ry
 exact rule i j t t' s _ _ ⟨.bl (g i j),H,I,rfl,q⟩
theorem two_pow_nn (k:Nat):(0:Int) <= 2 ^ k:=by
 rw [two_pow_cast]
 exact Int.natCast_nonneg _
theorem op_add:OpR X (binaryOp .Add) (rI0 fun i j=>.int (i+j)):=opI0 fun _ _ _ _ _ _ _ q=>add_int q
theorem op_sub:OpR X (binaryOp .Sub) (rI0 fun i j=>.int (i - j)):=opI0 fun _ _ _ _ _ _ _ q=>sub_int q
theorem op_mod:OpR X (binaryOp .Mod) (rI (fun _ j=>0 < j) fun i j=>.int (i % j)):=opI fun i j _ _ _ _ _ hc q=>by
 have h1:(0:Int) < j:=hc
 exact mod_int' (by omega) (by rw [Int.fmod_eq_emod_of_nonneg i (by omega)]; exact q)
theorem op_shr:OpR X (binaryOp .RShift) (rI (fun _ j=>0 <= j) fun i j=>.int (i / 2 ^ j.toNat)):=opI fun i j _ _ _ _ _ hc q =>
 rshift_int hc (by rw [Int.fdiv_eq_ediv_of_nonneg i (two_pow_nn _)]; exact q)
theorem op_and:OpR X (binaryOp .BitAnd) (rI0 fun i j=>.int (Builtin.bitAnd i j)):=opI0 fun _ _ _ _ _ _ _ q=>and_int q
theorem unI {f:Value -> Sem Value}{g:Int -> Int}
  (rule:∀ (i:Int) (t:Tok) (s:Shared) (Q:Value -> Shared -> Prop) (E:Value -> Shared -> Prop),Q (.int (g i) s.toks) { s with toks:=s.toks+1 } -> wpAny (model X.prog X.w) X.A (f (.int i t)) Q E s) :
  UnR X f (rU fun i=>.int (g i)):=by
 intro pins s σ H x v Q I rx h
 obtain ⟨i,rfl,q⟩:=h
 obtain ⟨t,rfl⟩:=rx
 exact rule i t s _ _ ⟨.int (g i),H,I.tok _,⟨_,rfl⟩,q⟩
theorem un_neg:UnR X (unaryOp .USub) (rU fun i=>.int (-i)):=unI fun _ _ _ _ _ q=>neg_int q
end
def scal:V -> V -> Bool
 | .non,.non=>true | .non,.int _=>true | .int _,.non=>true | .non,.bl _=>true | .bl _,.non=>true | .non,.str _=>true | .str _,.non=>true
 | .int _,.int _=>true | .bl _,.bl _=>true | .str _,.str _=>true | .byt _,.byt _=>true
 | .int _,.str _=>true | .str _,.int _=>true | .bl _,.str _=>true | .str _,.bl _=>true
 | _,_=>false
def rEq:R2:=fun x y H Q=>scal x y=true /\ Q (.bl (decide (x=y))) H
def rNe:R2:=fun x y H Q=>scal x y=true /\ Q (.bl (!decide (x=y))) H
theorem dec_int {i j:Int}:decide (V.int i=V.int j)=(i == j):=by
 rw [Bool.eq_iff_iff]
 simp
theorem dec_bl {i j:Bool}:decide (V.bl i=V.bl j)=(i == j):=by
 rw [Bool.eq_iff_iff]
 simp
theorem dec_str {i j:Str}:decide (V.str i=V.str j)=(i == j):=by
 rw [Bool.eq_iff_iff]
 simp
theorem dec_byt {i j:Array UInt8}:decide (V.byt i=V.byt j)=(i.toList == j.toList):=by
 rw [Bool.eq_iff_iff]
 cases i
 cases j
 simp
section
variable {X:Cx}{a b c:Expr}{ta tb tc:TE}{pos:Pos}
theorem fin_bl {pins:List (Addr × Obj)}{σ:St}{H:Hp}{s:Shared}{Q:VK}{k k':Bool}(I:Inv X pins σ H s)(q:Q (.bl k) H)(e:k=k'):EP X pins σ Q (.bool k') s:=by
 subst e
 exact ⟨.bl k,H,I,rfl,q⟩
theorem op_eq:OpR X (compareOp .Eq) rEq:=by
 intro pins s σ H x y v u Q I rx ry h
 obtain ⟨hs,q⟩:=h
 cases x with
 | non =>
  cases rx
  cases y with
  | non=>cases ry; exact PySem.EqNone.eq_none_none (fin_bl I q (by simp))
  | bl j=>cases ry; exact PySem.EqNone.eq_none_bool (fin_bl I q (by simp))
  | int j=>obtain ⟨t',rfl⟩:=ry; exact PySem.EqNone.eq_none_int (fin_bl I q (by simp))
  | str j=>obtain ⟨t',rfl⟩:=ry; exact PySem.EqNone.eq_none_str (fin_bl I q (by simp))
  | _=>exact absurd (show false=true from hs) Bool.false_ne_true
 | bl i =>
  cases rx
  cases y with
  | non=>cases ry; exact PySem.EqNone.eq_bool_none (fin_bl I q (by simp))
  | bl j=>cases ry; exact eq_bool (fin_bl I q dec_bl)
  | str j=>obtain ⟨t',rfl⟩:=ry; exact PySem.EqMixed.eq_bool_str (fin_bl I q (by simp))
  | _=>exact absurd (show false=true from hs) Bool.false_ne_true
 | int i =>
  obtain ⟨t,rfl⟩:=rx
  cases y with
  | non=>cases ry; exact PySem.EqNone.eq_int_none (fin_bl I q (by simp))
  | int j=>obtain ⟨t',rfl⟩:=ry; exact eq_int (fin_bl I q dec_int)
  | str j=>obtain ⟨t',rfl⟩:=ry; exact PySem.EqMixed.eq_int_str (fin_bl I q (by simp))
  | _=>exact absurd (show false=true from hs) Bool.false_ne_true
 | str i =>
  obtain ⟨t,rfl⟩:=rx
  cases y with
  | non=>cases ry; exact PySem.EqNone.eq_str_none (fin_bl I q (by simp))
  | bl j=>cases ry; exact PySem.EqMixed.eq_str_bool (fin_bl I q (by simp))
  | int j=>obtain ⟨t',rfl⟩:=ry; exact PySem.EqMixed.eq_str_int (fin_bl I q (by simp))
  | str j=>obtain ⟨t',rfl⟩:=ry; exact eq_str (fin_bl I q dec_str)
  | _=>exact absurd (show false=true from hs) Bool.false_ne_true
 | byt i =>
  obtain ⟨t,rfl⟩:=rx
  cases y with
  | byt j=>obtain ⟨t',rfl⟩:=ry; exact PySem.W.eq_bytes (fin_bl I q dec_byt)
  | _=>exact absurd (show false=true from hs) Bool.false_ne_true
 | _=>cases y <;> exact absurd (show false=true from hs) Bool.false_ne_true
theorem op_ne:OpR X (compareOp .NotEq) rNe:=by
 intro pins s σ H x y v u Q I rx ry h
 obtain ⟨hs,q⟩:=h
 cases x with
 | non =>
  cases rx
  cases y with
  | non=>cases ry; exact PySem.EqNone.ne_none_none (fin_bl I q (by simp))
  | bl j=>cases ry; exact PySem.EqNone.ne_none_bool (fin_bl I q (by simp))
  | int j=>obtain ⟨t',rfl⟩:=ry; exact PySem.EqNone.ne_none_int (fin_bl I q (by simp))
  | str j=>obtain ⟨t',rfl⟩:=ry; exact PySem.EqNone.ne_none_str (fin_bl I q (by simp))
  | _=>exact absurd (show false=true from hs) Bool.false_ne_true
 | bl i =>
  cases rx
  cases y with
  | non=>cases ry; exact PySem.EqNone.ne_bool_none (fin_bl I q (by simp))
  | bl j=>cases ry; exact ne_bool (fin_bl I q (congrArg not dec_bl))
  | str j=>obtain ⟨t',rfl⟩:=ry; exact PySem.EqMixed.ne_bool_str (fin_bl I q (by simp))
  | _=>exact absurd (show false=true from hs) Bool.false_ne_true
 | int i =>
  obtain ⟨t,rfl⟩:=rx
  cases y with
  | non=>cases ry; exact PySem.EqNone.ne_int_none (fin_bl I q (by simp))
  | int j=>obtain ⟨t',rfl⟩:=ry; exact ne_int (fin_bl I q (congrArg not dec_int))
  | str j=>obtain ⟨t',rfl⟩:=ry; exact PySem.EqMixed.ne_int_str (fin_bl I q (by simp))
  | _=>exact absurd (show false=true from hs) Bool.false_ne_true
 | str i =>
  obtain ⟨t,rfl⟩:=rx
  cases y with
  | non=>cases ry; exact PySem.EqNone.ne_str_none (fin_bl I q (by simp))
  | bl j=>cases ry; exact PySem.EqMixed.ne_str_bool (fin_bl I q (by simp))
  | int j=>obtain ⟨t',rfl⟩:=ry; exact PySem.EqMixed.ne_str_int (fin_bl I q (by simp))
  | str j=>obtain ⟨t',rfl⟩:=ry; exact ne_str (fin_bl I q (congrArg not dec_str))
  | _=>exact absurd (show false=true from hs) Bool.false_ne_true
 | byt i =>
  obtain ⟨t,rfl⟩:=rx
  cases y with
  | byt j=>obtain ⟨t',rfl⟩:=ry; exact PySem.W.ne_bytes (fin_bl I q (congrArg not dec_byt))
  | _=>exact absurd (show false=true from hs) Bool.false_ne_true
 | _=>cases y <;> exact absurd (show false=true from hs) Bool.false_ne_true
theorem op_lt:OpR X (compareOp .Lt) (rI0 fun i j=>.bl (decide (i < j))):=opB0 fun _ _ _ _ _ _ _ q=>lt_int q
theorem op_le:OpR X (compareOp .LtE) (rI0 fun i j=>.bl (decide (i <= j))):=opB0 fun _ _ _ _ _ _ _ q=>le_int q
theorem op_gt:OpR X (compareOp .Gt) (rI0 fun i j=>.bl (decide (j < i))):=opB0 fun _ _ _ _ _ _ _ q=>gt_int q
theorem op_ge:OpR X (compareOp .GtE) (rI0 fun i j=>.bl (decide (j <= i))):=opB0 fun _ _ _ _ _ _ _ q=>ge_int q
theorem nomark (b:Expr){op:CmpOp}(h:op ≠ .In:=by decide)(h2:op ≠ .NotIn:=by decide):behindInMarks op b=false:=by
 have e1:(op == CmpOp.In)=false:=by cases op <;> first | rfl | exact absurd rfl h
 have e2:(op == CmpOp.NotIn)=false:=by cases op <;> first | rfl | exact absurd rfl h2
 cases b <;> simp [behindInMarks,e1,e2]
theorem pe_cmpR {op:CmpOp}{r:R2}(ho:OpR X (compareOp op) r)(ha:PE X a ta)(hb:PE X b tb)(hm:behindInMarks op b=false):PE X (.Compare a [op] [b] pos) (tOp r ta tb):=by
 intro pins s σ H Q I h
 exact wpAny_Compare1 (binT ha hb I h fun v u s2 x y H2 I2 rx ry q=>ho pins s2 σ H2 x y v u Q I2 rx ry q) hm
def tTest (t:TE):TT:=fun σ H Q=>t σ H fun x H'=>∃ k,x = .bl k /\ Q k H'
theorem pt_cmpR {op:CmpOp}{r:R2}(ho:OpR X (compareOp op) r)(ha:PE X a ta)(hb:PE X b tb)(hm:behindInMarks op b=false):PT X (.Compare a [op] [b] pos) (tTest (tOp r ta tb)):=by
 intro pins s σ H Q I h
 refine wpAny_isTrue_Compare1 (thn (ha pins s σ H _ I h) fun v s1 ⟨x,H1,I1,r1,q1⟩=>thn (hb pins s1 σ H1 _ I1 q1) fun u s2 ⟨y,H2,I2,r2,q2⟩ =>
  thn (ho pins s2 σ H2 x y v u _ I2 r1 r2 q2) fun c s3 ⟨z,H3,I3,r3,k,e,q3⟩=>?_) hm
 subst e
 cases r3
 exact wpAny_truthy_bool ⟨H3,I3,q3⟩
def tChain (r r':R2)(ta tb tc:TE):TE:=fun σ H Q=>ta σ H fun x H1=>tb σ H1 fun y H2=>r x y H2 fun z H3=>∃ k,z = .bl k /\
 (if k=true then tc σ H3 fun w' H4=>r' y w' H4 Q else Q (.bl false) H3)
theorem pe_chain {op op':CmpOp}{r r':R2}(ho:OpR X (compareOp op) r)(ho':OpR X (compareOp op') r')(ha:PE X a ta)(hb:PE X b tb)(hc:PE X c tc)
  (hm:lastMarks [op,op'] [b,c]=false:=by with_unfolding_all rfl):PE X (.Compare a [op,op'] [b,c] pos) (tChain r r' ta tb tc):=by
 intro pins s σ H Q I h
 refine Compare_chain (thn (ha pins s σ H _ I h) fun v s1 ⟨x,H1,I1,r1,q1⟩=>chain_link (thn (hb pins s1 σ H1 _ I1 q1) fun u s2 ⟨y,H2,I2,r2,q2⟩ =>
  thn (ho pins s2 σ H2 x y v u _ I2 r1 r2 q2) fun d s3 ⟨z,H3,I3,r3,k,e,q3⟩=>?_)) hm
 subst e
 cases r3
 refine wpAny_truthy_bool ?_
 cases k with
 | false=>exact ite_ff ⟨.bl false,H3,I3,rfl,q3⟩
 | true=>exact ite_tt (chain_last (thn (hc pins s3 σ H3 _ I3 q3) fun w' s4 ⟨z',H4,I4,r4,q4⟩=>ho' pins s4 σ H4 y z' u w' Q I4 r2 r4 q4))
theorem pt_chain {op op':CmpOp}{r r':R2}(ho:OpR X (compareOp op) r)(ho':OpR X (compareOp op') r')(ha:PE X a ta)(hb:PE X b tb)(hc:PE X c tc)
  (hm:lastMarks [op,op'] [b,c]=false:=by with_unfolding_all rfl):PT X (.Compare a [op,op'] [b,c] pos) (tTest (tChain r r' ta tb tc)):=by
 intro pins s σ H Q I h
 refine isTrue_chain (thn (ha pins s σ H _ I h) fun v s1 ⟨x,H1,I1,r1,q1⟩=>test_link (thn (hb pins s1 σ H1 _ I1 q1) fun u s2 ⟨y,H2,I2,r2,q2⟩ =>
  thn (ho pins s2 σ H2 x y v u _ I2 r1 r2 q2) fun d s3 ⟨z,H3,I3,r3,k,e,q3⟩=>?_)) hm
 subst e
 cases r3
 refine wpAny_truthy_bool ?_
 cases k with
 | false =>
  obtain ⟨k',e',q'⟩:=q3
  cases e'
  exact ite_ff ⟨H3,I3,q'⟩
 | true =>
  refine ite_tt (test_last (thn (hc pins s3 σ H3 _ I3 q3) fun w' s4 ⟨z',H4,I4,r4,q4⟩=>thn (ho' pins s4 σ H4 y z' u w' _ I4 r2 r4 q4) fun d' s5 ⟨z2,H5,I5,r5,k2,e2,q5⟩=>?_))
  subst e2
  cases r5
  exact wpAny_truthy_bool ⟨H5,I5,q5⟩
theorem line63:(sizeLine:Nat) < 2 ^ 63:=by rw [sizeLine_eq]; decide
theorem vals1 {x:V}{us:List Value}(r:Vals [x] us):∃ u,us=[u] /\ RelV x u:=by
 cases r with
 | cons r1 r2=>cases r2; exact ⟨_,rfl,r1⟩
theorem vals2 {x y:V}{us:List Value}(r:Vals [x,y] us):∃ u w',us=[u,w'] /\ RelV x u /\ RelV y w':=by
 cases r with
 | cons r1 r2 =>
  cases r2 with
  | cons r3 r4=>cases r4; exact ⟨_,_,rfl,r1,r3⟩
theorem call_abs:CallR X (.builtin "abs") (fun xs H Q=>∃ i,xs=[.int i] /\ Q (.int (if i < 0 then -i else i)) H):=by
 intro pins s σ H xs us Q I r h
 obtain ⟨i,rfl,q⟩:=h
 obtain ⟨u,rfl,t,rfl⟩:=vals1 r
 exact call_abs_int fun u tk=>⟨.int (if i < 0 then -i else i),H,I.tok _,⟨_,rfl⟩,q⟩
theorem call_int1:CallR X (.type "int") (fun xs H Q=>(∃ i,xs=[.int i] /\ Q (.int i) H) \/ ∃ k,xs=[.bl k] /\ Q (.int (if k then 1 else 0)) H):=by
 intro pins s σ H xs us Q I r h
 rcases h with ⟨i,rfl,q⟩ | ⟨k,rfl,q⟩
 ·obtain ⟨u,rfl,t,rfl⟩:=vals1 r
  exact call_int_int ⟨.int i,H,I,⟨_,rfl⟩,q⟩
 ·obtain ⟨u,rfl,r1⟩:=vals1 r
  cases r1
  exact call_int_bool ⟨.int (if k then 1 else 0),H,I.tok _,⟨_,rfl⟩,q⟩
end
end L2
namespace L2
open PySem PySem.Spec PyProof.Rows
structure ObjM (h:Heap) (x dx C:Addr) (mA:Str -> Option Value):Prop where
 obj:h.get? x=some (PySem.W.instObj C dx)
 ns:h.Ns1 dx mA
 ne:dx ≠ x
theorem lookIn_ns {h:Heap}{dx:Addr}{mA:Str -> Option Value}(n:h.Ns1 dx mA):∃ od,h.get? dx=some od /\ ∀ name,PySem.W.lookIn name od=some (mA name):=by
 obtain ⟨o,es,ep,ho,hd,hk,_,hm⟩:=n
 refine ⟨o,ho,fun name=>?_⟩
 have e:=hm name
 unfold nsFind findBy at e
 rw [← Array.find?_toList] at e
 unfold PySem.W.lookIn
 rw [hd]
 dsimp only
 split
 ·rename_i y q
  rw [q] at e
  exact congrArg some e
 ·rename_i q
  rw [q] at e
  have a:es.toList.any (·.refKey)=false:=by
   rw [List.any_eq_false]
   intro y hy
   obtain ⟨z,t,hkey⟩:=hk y (Array.mem_toList_iff.mp hy)
   simp [DictEntry.refKey,hkey]
  have a':¬ es.toList.any (·.refKey)=true:=by rw [a]; exact Bool.false_ne_true
  rw [if_neg a']
  exact congrArg some e
theorem ObjM.look {h:Heap}{x dx C:Addr}{mA:Str -> Option Value}(I:ObjM h x dx C mA):∃ od,PySem.W.InstAt h x (PySem.W.instObj C dx) C (some od) /\ ∀ name,PySem.W.lookIn name od=some (mA name) :=
 let ⟨od,ho,hl⟩:=lookIn_ns I.ns
 ⟨od,⟨I.obj,rfl,rfl,ho⟩,hl⟩
section
variable {prog:Program}{w:World}{A:Around}{E:Value -> Shared -> Prop}{s:Shared}{K:PySem.W.Frag}{x dx C f:Addr}{mA:Str -> Option Value}{name:Str}{v:Value}
end
theorem RelO.some_of {v:V}{o:Option Value}(r:RelO (some v) o):∃ u,o=some u /\ RelV v u:=by
 cases o with
 | none=>exact (show False from r).elim
 | some u=>exact ⟨u,rfl,r⟩
section
variable {P:Program}{w:World}{H H':Hp}{h h':Heap}{a C dx:Addr}{fs fs':List (Str × V)}
theorem ins_get (hok:HOk P w H h)(e:H a=some (.ins C dx fs)):∃ mA,ObjM h a dx C mA /\ (∀ f,RelO (fs.lookup f) (mA f)) /\ PySem.Within mA (fs.map (·.1)) /\ fs.length <= 1000 /\ H dx=some (.own a):=by
 obtain ⟨d,z,ne,ob,mA,n,r,q⟩:=(show ObjOk P w H h a (.ins C dx fs) from hok a _ e)
 exact ⟨mA,⟨ob,n,ne⟩,r,q,z,d⟩
end
structure Cls (K:PySem.W.Frag) (C:Addr):Prop where
 pg:PySem.W.plainGet K C Str.empty=true
 hd:PySem.W.hasDictIn K C=true
 po:PySem.W.plainOver K C=true
 sa:PySem.W.findIn K (.ref C) "__setattr__" = some (some (.builtin "object.__setattr__"))
theorem Cls.get {K:PySem.W.Frag}{C:Addr}(c:Cls K C)(f:Str):PySem.W.plainGet K C f=true:=c.pg
section
variable {X:Cx}{pins:List (Addr × Obj)}{σ:St}{H:Hp}{s:Shared}{a C dx:Addr}{fs:List (Str × V)}{f:Str}{v:V}{A:Around}{E:Value -> Shared -> Prop}
end
section
variable {X:Cx}{o e value:Expr}{f:Str}{pos pos' tpos:Pos}{ta tv:TE}
end
section
variable {X:Cx}{pins:List (Addr × Obj)}{σ:St}{H:Hp}{s:Shared}{A:Around}{E:Value -> Shared -> Prop}{Q:Value -> Shared -> Prop}{c:Value}{b:Bool}
inductive TyOf (K:PySem.W.Frag) (H:Hp):V -> Value -> Prop where
 | non:TyOf K H .non (.type "NoneType")
 | bl (x:Bool):TyOf K H (.bl x) (.type "bool")
 | int (i:Int):TyOf K H (.int i) (.type "int")
 | str (x:Str):TyOf K H (.str x) (.type "str")
 | flt (x:UInt64):TyOf K H (.flt x) (.type "float")
 | lst {a:Addr} {xs:List V} (e:H a=some (.lst xs)):TyOf K H (.ref a) (.type "list")
 | frz {a:Addr} {o:Obj} {xs:List V} (e:H a=some (.frz o (.lst xs))):TyOf K H (.ref a) (.type "list")
 | tup {a:Addr} {xs:List V} (e:H a=some (.tup xs)):TyOf K H (.ref a) (.type "tuple")
 | dK {a:Addr} {kvs:List (Key × V)} (e:H a=some (.dK kvs)):TyOf K H (.ref a) (.type "dict")
 | dT {a:Addr} {kvs:List (List Key × V)} (e:H a=some (.dT kvs)):TyOf K H (.ref a) (.type "dict")
 | ins {a C dx:Addr} {fs:List (Str × V)} (e:H a=some (.ins C dx fs)) (cl:Cls K C) (ha:PySem.W.findIn K (.ref C) "__class__" = some (some (.builtin "object.__class__")))
   (hn:PySem.W.specialIn K (.builtin "object.__class__") "__get__" = some (some (.builtin "getset_descriptor.__get__"))) (htk:PySem.W.takesIn K (.builtin "object.__class__")=some true)
   (hm:PySem.W.mroIn K C (.type "object")=some true):TyOf K H (.ref a) (.ref C)
theorem isinst_ok {x:V}{u t:Value}(I:Inv X pins σ H s)(rx:RelV x u)(ty:TyOf X.K H x t)(e:PySem.W.kitOne X.K t c=some b)(h:∀ tk,Q (.bool b) { s with toks:=tk }) :
  wpAny (model X.prog X.w) A (call (.builtin "isinstance") [u,c]) Q E s:=by
 cases ty with
 | non=>cases (show u=Value.none from rx); exact PySem.W.kia_one PySem.W.kitx_none I.kIn True.intro e (fun z=>nomatch z) h
 | bl y=>cases (show u=Value.bool y from rx); exact PySem.W.kia_one PySem.W.kitx_bool I.kIn True.intro e (fun z=>nomatch z) h
 | int i=>obtain ⟨t,q⟩:=(show ∃ t,u=Value.int i t from rx); cases q; exact PySem.W.kia_one PySem.W.kitx_int I.kIn True.intro e (fun z=>nomatch z) h
 | str y=>obtain ⟨t,q⟩:=(show ∃ t,u=Value.str y t from rx); cases q; exact PySem.W.kia_one PySem.W.kitx_str I.kIn True.intro e (fun z=>nomatch z) h
 | flt y=>obtain ⟨t,q⟩:=(show ∃ t,u=Value.float y t from rx); cases q; exact PySem.W.kia_one PySem.W.kitx_float I.kIn True.intro e (fun z=>nomatch z) h
 | @lst a xs ea =>
  cases (show u=Value.ref a from rx)
  obtain ⟨_,_,n,_,h1⟩:=(show ObjOk X.prog X.w H s.heap a (.lst xs) from I.hok a _ ea)
  exact PySem.W.kia_one PySem.W.kitx_list I.kIn ⟨_,h1,rfl⟩ e (fun z=>nomatch z) h
 | @frz a ob xs ea =>
  cases (show u=Value.ref a from rx)
  obtain ⟨_,_,_,n,_,h1⟩:=(show ObjOk X.prog X.w H s.heap a (.frz ob (.lst xs)) from I.hok a _ ea)
  exact PySem.W.kia_one PySem.W.kitx_list I.kIn ⟨_,h1,rfl⟩ e (fun z=>nomatch z) h
 | @tup a xs ea =>
  cases (show u=Value.ref a from rx)
  obtain ⟨_,_,_,p⟩:=(show ObjOk X.prog X.w H s.heap a (.tup xs) from I.hok a _ ea)
  obtain ⟨o,h1,h2,_⟩:=p
  exact PySem.W.kia_one PySem.W.kitx_tuple I.kIn ⟨o,h1,h2⟩ e (fun z=>nomatch z) h
 | @dK a kvs ea =>
  cases (show u=Value.ref a from rx)
  obtain ⟨_,_,vs,_,p⟩:=(show ObjOk X.prog X.w H s.heap a (.dK kvs) from I.hok a _ ea)
  obtain ⟨o,es,ep,h1,h2,_⟩:=p
  exact PySem.W.kia_one PySem.W.kitx_dict I.kIn ⟨o,h1,h2.1⟩ e (fun z=>nomatch z) h
 | @dT a kvs ea =>
  cases (show u=Value.ref a from rx)
  obtain ⟨_,_,xs,_,o,es,ep,h1,h2,_⟩:=(show ObjOk X.prog X.w H s.heap a (.dT kvs) from I.hok a _ ea)
  exact PySem.W.kia_one PySem.W.kitx_dict I.kIn ⟨o,h1,h2.1⟩ e (fun z=>nomatch z) h
 | @ins a C dx fs ea cl ha hn htk hm =>
  cases (show u=Value.ref a from rx)
  obtain ⟨mA,O,_⟩:=ins_get I.hok ea
  obtain ⟨od,J,_⟩:=O.look
  exact PySem.W.kia_one (PySem.W.kitx_own (cl.get _) cl.hd ha hn htk hm) I.kIn J e (fun z=>nomatch z) h
end
end L2
namespace L2
open PySem PySem.Spec PyProof.Rows
structure Room (k:Nat) (A:Around):Prop where
 hd:A.handled=none
 dp:A.depth+3 * k+5 < recursionLimit
 un:A.units+16 * k+200 < cLine
theorem Room.mono {j k:Nat}{A:Around}(r:Room k A)(h:j <= k):Room j A:=⟨r.hd,by have:=r.dp; omega,by have:=r.un; omega⟩
theorem Room.deeper {k:Nat}{A:Around}(r:Room (k+1) A)(env:Env):Room k (A.deeper env) :=
 ⟨r.hd,by have:=r.dp; show A.depth+1+3 * k+5 < _; omega,by have:=r.un; show A.units+3+16 * k+200 < _; omega⟩
theorem Room.depth {k:Nat}{A:Around}(r:Room k A):A.depth < recursionLimit:=by have:=r.dp; omega
theorem Room.units {k:Nat}{A:Around}(r:Room k A):A.units+64 < cLine:=by have:=r.un; omega
def tNil:TA:=fun _ H Q=>Q [] H
def tCons (ta:TE)(tr:TA):TA:=fun σ H Q=>ta σ H fun x H1=>tr σ H1 fun xs H2=>Q (x :: xs) H2
section
variable {X:Cx}{e:Expr}{es:List Expr}{te:TE}{t:TA}{pos:Pos}
theorem pa_nil:PA X [] tNil:=fun _ _ _ _ H Q I h=>Calls.spliced_nil ⟨[],H,I,.nil,h⟩
theorem pa_cons (ha:PE X e te)(hr:PA X es t)(hs:starEach (e :: es) X.env=(false,eval e X.env) :: starEach es X.env:=by rfl):PA X (e :: es) (tCons te t):=by
 intro pos pins s σ H Q I h
 rw [hs]
 show wpAny _ _ (spliced ((false,eval e X.env) :: backTo pos (starEach es X.env))) _ _ s
 refine Calls.spliced_cons (thn (ha pins s σ H _ I h) fun u s1 ⟨x,H1,I1,r1,q1⟩=>?_)
 exact thn (hr pos pins s1 σ H1 _ I1 q1) fun us s2 ⟨xs,H2,I2,r2,q2⟩=>⟨x :: xs,H2,I2,.cons r1 r2,q2⟩
def tTup (t:TA):TE:=fun σ H Q=>t σ H fun xs H1=>xs.length <= sizeLine /\ ∀ p,H1 p=none -> Q (.ref p) (upd H1 p (.tup xs))
def tLst (t:TA):TE:=fun σ H Q=>t σ H fun xs H1=>xs.length <= sizeLine /\ ∀ p,H1 p=none -> Q (.ref p) (upd H1 p (.lst xs))
theorem pe_tup {x1}(h:PA X es t):PE X (.Tuple es x1 pos) (tTup t):=by
 intro pins s σ H Q I hq
 refine wpAny_Tuple_spliced (thn (h pos pins s σ H _ I hq) fun us s1 ⟨xs,H1,I1,r,z,q⟩=>⟨by rw [← r.length]; exact z,?_⟩)
 have hf:H1 s1.heap.objs.size=none:=I1.hok.fresh (Nat.le_refl _)
 refine ⟨.ref s1.heap.objs.size,upd H1 s1.heap.objs.size (.tup xs),I1.laid (t':=s1.toks) (fun b u e=>Heap.get?_push_of_some _ e) (Nat.le_refl _) ?_,rfl,q _ hf⟩
 exact ⟨z,us,r,⟨_,Heap.get?_push_size _ rfl,rfl,_,rfl⟩⟩
theorem pe_lst (h:PA X es t):PE X (.List es pos) (tLst t):=by
 intro pins s σ H Q I hq
 refine wpAny_List_spliced (thn (h pos pins s σ H _ I hq) fun us s1 ⟨xs,H1,I1,r,z,q⟩=>⟨by rw [← r.length]; exact z,?_⟩)
 have hf:H1 s1.heap.objs.size=none:=I1.hok.fresh (Nat.le_refl _)
 refine ⟨.ref s1.heap.objs.size,upd H1 s1.heap.objs.size (.lst xs),I1.laid (t':=s1.toks) (fun b u e=>Heap.get?_push_of_some _ e) (Nat.le_refl _) ?_,rfl,q _ hf⟩
 exact ⟨z,us,0,r,Heap.get?_push_size _ rfl⟩
end
abbrev Sp:=List V -> Hp -> VK -> XK -> Prop
abbrev CXT:=List Env -> Hp -> Shared -> XK -> Value -> Shared -> Prop
structure Env0 (P:Program) (w:World) (K:PySem.W.Frag) (mg:Str -> Option Value) (base:Heap) (A:Around) (outer:List Env) (s:Shared) (H:Hp):Prop where
 frames:A.frames=some outer
 mod:Mod K mg base
 bs:∀ b o,base.get? b=some o -> s.heap.get? b=some o /\ H b=none
 bsz:base.objs.size <= s.heap.objs.size
 funs:s.heap.FunFrames base outer
 frf:∀ b ∈ frs outer,H b=none
 hok:HOk P w H s.heap
 bare:AllBare s.gens
def CE (outer:List Env)(P:Program)(w:World)(H:Hp)(s:Shared)(Q:VK)(u:Value)(s':Shared):Prop :=
 ∃ v H',s'.os=s.os /\ AllBare s'.gens /\ Un (frs outer) [] H H' s.heap s'.heap /\ HOk P w H' s'.heap /\ RelV v u /\ Q v H'
def CR (CX:CXT)(outer:List Env)(P:Program)(w:World)(H:Hp)(s:Shared)(Q:VK)(E:XK)(r:Result)(s':Shared):Prop :=
 match r with
 | .ok (.ret u)=>CE outer P w H s Q u s'
 | .ok _=>False
 | .error e=>CX outer H s E e s'
structure FnOk (P:Program) (w:World) (K:PySem.W.Frag) (mg:Str -> Option Value) (base:Heap) (CX:CXT) (k:Nat) (f:Addr) (fd:FuncData) (ps:List Str) (sp:Sp):Prop where
 len:∀ vs H Q E,sp vs H Q E -> vs.length=ps.length
 run:∀ (A:Around) (outer:List Env) (s:Shared) (H:Hp) (args:Args) (us:List Value) (vs:List V) (Q:VK) (E:XK),Room k A -> Env0 P w K mg base A outer s H -> BindsTo s fd args (ps.zip us) -> Vals vs us -> sp vs H Q E ->
  codeAny (model P w) A (.call (.ref f) args) (CR CX outer P w H s Q E) s
theorem FnOk.mono {P:Program}{w:World}{K:PySem.W.Frag}{mg:Str -> Option Value}{base:Heap}{CX:CXT}{j k:Nat}{f:Addr}{fd:FuncData}{ps:List Str}{sp:Sp}(F:FnOk P w K mg base CX j f fd ps sp)(h:j <= k) :
  FnOk P w K mg base CX k f fd ps sp:=⟨F.len,fun A outer s H args us vs Q E hr=>F.run A outer s H args us vs Q E (hr.mono h)⟩
theorem FnOk.imp {P:Program}{w:World}{K:PySem.W.Frag}{mg:Str -> Option Value}{base:Heap}{CX:CXT}{k:Nat}{f:Addr}{fd:FuncData}{ps:List Str}{sp sp':Sp}(F:FnOk P w K mg base CX k f fd ps sp)
  (h:∀ vs H Q E,sp' vs H Q E -> sp vs H Q E):FnOk P w K mg base CX k f fd ps sp' :=
 ⟨fun vs H Q E q=>F.len vs H Q E (h _ _ _ _ q),fun A outer s H args us vs Q E hr he hb hv hs=>F.run A outer s H args us vs Q E hr he hb hv (h _ _ _ _ hs)⟩
section
variable {X:Cx}{pins:List (Addr × Obj)}{σ:St}{H:Hp}{s s':Shared}
theorem Inv.env0 (I:Inv X pins σ H s):Env0 X.prog X.w X.K X.mg X.base X.A X.stack s H :=
 ⟨I.ok.frames,I.ok.mod,I.bs,Nat.le_trans I.ok.bsz I.sz,I.stack,I.stkFree,I.hok,I.bare⟩
theorem Inv.after {Q:VK}{u:Value}(I:Inv X pins σ H s)(h:CE X.stack X.prog X.w H s Q u s'):EP X pins σ Q u s':=by
 obtain ⟨v,H',os,bare,un,hok,r,q⟩:=h
 obtain ⟨hh,g,d,t,os'⟩:=s'
 obtain rfl:os'=s.os:=os
 exact ⟨v,H',I.call (h':=hh) (g':=g) (d':=d) (t':=t) (ch:=[]) un hok bare (fun b z=>absurd z (by simp)),r,q⟩
end
def tCall (sp:Sp)(dvs:List V)(E:XK)(t:TA):TE:=fun σ H Q=>t σ H fun vs H1=>sp (vs ++ dvs) H1 Q E
def Binds (K:PySem.W.Frag)(fd:FuncData)(ps:List Str)(ds:List Value):Prop :=
 ∀ (s:Shared) (us:List Value),K.In s.heap -> (us ++ ds).length=ps.length -> BindsTo s fd ⟨us,[]⟩ (ps.zip (us ++ ds))
theorem Binds.all {K:PySem.W.Frag}{fd:FuncData}{ps:List Str}(h:∀ us:List Value,us.length=ps.length -> bindArgs fd ⟨us,[]⟩=pure (ps.zip us)):Binds K fd ps []:=fun s us _ hl=>by
 rw [List.append_nil] at hl ⊢
 exact .of_eq (h us hl)
def Passes (CX:CXT)(X:Cx)(E:XK):Prop:=∀ (pins:List (Addr × Obj)) (σ:St) (H:Hp) (s:Shared) (e:Value) (s':Shared),Inv X pins σ H s -> CX X.stack H s E e s' -> X.xe e s'
section
variable {X:Cx}{CX:CXT}{k:Nat}{f C:Addr}{fd:FuncData}{ps:List Str}{sp:Sp}{dvs:List V}{ds:List Value}{E:XK}{x m:Str}{p pos apos:Pos}{e o:Expr}{es:List Expr}{ta:TE}{t:TA}
theorem run_fn {pins:List (Addr × Obj)}{σ:St}{H:Hp}{s:Shared}{Q:VK}{us:List Value}{vs:List V}(F:FnOk X.prog X.w X.K X.mg X.base CX k f fd ps sp)(hr:Room k X.A)(hb:Binds X.K fd ps ds)(hd:Vals dvs ds)(hx:Passes CX X E)
  (I:Inv X pins σ H s) (r:Vals vs us) (h:sp (vs ++ dvs) H Q E):wpAny (model X.prog X.w) X.A (call (.ref f) us) (EP X pins σ Q) X.xe s:=by
 have r2:Vals (vs ++ dvs) (us ++ ds):=r.append hd
 have hl:(us ++ ds).length=ps.length:=by rw [← r2.length]; exact F.len _ _ _ _ h
 refine wpAny_call (codeAny_mono (F.run X.A X.stack s H ⟨us,[]⟩ (us ++ ds) (vs ++ dvs) Q E hr I.env0 (hb s us I.kIn hl) r2 h) fun r s' hq=>?_)
 cases r with
 | error e=>exact hx pins σ H s e s' I hq
 | ok fl =>
  cases fl with
  | ret u=>exact I.after hq
  | next=>exact False.elim hq
  | brk=>exact False.elim hq
  | cont=>exact False.elim hq
theorem pe_call (F:FnOk X.prog X.w X.K X.mg X.base CX k f fd ps sp)(hr:Room k X.A)(hg:Gl X x)(hm:X.mg x=some (.ref f))(hk:PySem.W.keepIn X.K (.ref f)=true)(hb:Binds X.K fd ps ds)(hd:Vals dvs ds)(hx:Passes CX X E)
  (ha:PA X (e :: es) t) (hdb:(x == ("__debug__" : Str))=false:=by decide) (he:starEach (e :: es) X.env=(false,eval e X.env) :: starEach es X.env:=by rfl) (hpl:(backTo pos (starEach es X.env)).any (·.1)=false:=by rfl) :
  PE X (.Call (.Name x p) (e :: es) [] pos) (tCall sp dvs E t):=by
 intro pins s σ H Q I h
 refine wpAny_Call_Name_kw (ld_glob I hg hm ?_ hdb)
 refine PySem.W.callWith_K (h₀:=X.base) I.ok.mod.kin hk (thn (ha pos pins s σ H _ I h) fun us s1 ⟨vs,H1,I1,r,q⟩=>⟨I1.kIn,?_⟩) he hpl
 exact run_fn F hr hb hd hx I1 r q
end
section
variable {X:Cx}{CX:CXT}{k:Nat}{f C:Addr}{fd:FuncData}{ps ks:List Str}{sp:Sp}{E:XK}{x m:Str}{p pos apos kpos:Pos}{e o:Expr}{es:List Expr}{kws:List Keyword}{te ta:TE}{t tk:TA}{nm:Option Str}
variable {g:List Value -> List Value -> List Value}{gV:List V -> List V -> List V}
end
structure FnScope (N P:List Str) (sc:Scope):Prop where
 kind:sc.kind = .function
 co:sc.isCoroutine=false
 gen:sc.isGenerator=false
 nd:N.Nodup
 pre:N.take P.length=P
 par:∀ x ∈ P,sc.names.lookup x=some .local \/ sc.names.lookup x=some .cell
 nofree:∀ y ∈ sc.names,y.2 ≠ .free
theorem bindL_out {kindOf:Str -> Option NameKind}{x:Str}:∀ {binds:List (Str × Value)} {m:Str -> Option Value},(∀ v,(x,v) ∉ binds) -> bindL kindOf binds m x=m x
 | [],_,_=>rfl
 | (n,v) :: r,m,h=>by
  unfold bindL
  rw [bindL_out fun w hw=>h w (List.mem_cons_of_mem _ hw)]
  split
  ·have:x ≠ n:=by rintro rfl; exact h v List.mem_cons_self
   simp [this]
  ·rfl
theorem bindC_out {kindOf:Str -> Option NameKind}{x:Str}:∀ {binds:List (Str × Value)} {m:Str -> Option Value},(∀ v,(x,v) ∉ binds) -> bindC kindOf binds m x=m x
 | [],_,_=>rfl
 | (n,v) :: r,m,h=>by
  unfold bindC
  rw [bindC_out fun w hw=>h w (List.mem_cons_of_mem _ hw)]
  split
  ·rfl
  ·have:x ≠ n:=by rintro rfl; exact h v List.mem_cons_self
   simp [this]
theorem bindL_get {kindOf:Str -> Option NameKind}{x:Str}{v:Value}:∀ {P:List Str} {vs:List Value} {i:Nat} {m:Str -> Option Value},P.Nodup -> P[i]? = some x -> vs[i]? = some v -> kindOf x=some .local ->
  bindL kindOf (P.zip vs) m x=some v
 | [],_,_,_,_,h,_,_=>by simp at h
 | _ :: _,[],_,_,_,_,h,_=>by simp at h
 | p :: P,w :: vs,0,m,nd,h1,h2,hk=>by
  simp at h1 h2; subst h1; subst h2
  show bindL kindOf ((p,w) :: P.zip vs) m p=_
  unfold bindL
  rw [bindL_out fun v hv=>(List.nodup_cons.mp nd).1 (List.of_mem_zip hv).1,if_pos hk]
  simp
 | p :: P,w :: vs,i+1,m,nd,h1,h2,hk=>by
  show bindL kindOf ((p,w) :: P.zip vs) m x=_
  unfold bindL
  exact bindL_get (i:=i) (List.nodup_cons.mp nd).2 (by simpa using h1) (by simpa using h2) hk
theorem bindC_get {kindOf:Str -> Option NameKind}{x:Str}{v:Value}:∀ {P:List Str} {vs:List Value} {i:Nat} {m:Str -> Option Value},P.Nodup -> P[i]? = some x -> vs[i]? = some v -> kindOf x ≠ some .local ->
  bindC kindOf (P.zip vs) m x=some v
 | [],_,_,_,_,h,_,_=>by simp at h
 | _ :: _,[],_,_,_,_,h,_=>by simp at h
 | p :: P,w :: vs,0,m,nd,h1,h2,hk=>by
  simp at h1 h2; subst h1; subst h2
  show bindC kindOf ((p,w) :: P.zip vs) m p=_
  unfold bindC
  rw [bindC_out fun v hv=>(List.nodup_cons.mp nd).1 (List.of_mem_zip hv).1,if_neg hk]
  simp
 | p :: P,w :: vs,i+1,m,nd,h1,h2,hk=>by
  show bindC kindOf ((p,w) :: P.zip vs) m x=_
  unfold bindC
  exact bindC_get (i:=i) (List.nodup_cons.mp nd).2 (by simpa using h1) (by simpa using h2) hk
def start (N:List Str)(vs:List V):St:=vs.map some ++ qQ (N.length - vs.length) none
def cxOf (CX:CXT)(P:Program)(w:World)(K:PySem.W.Frag)(mg:Str -> Option Value)(base:Heap)(N:List Str)(qual:Str)(scope:Scope)(f:Addr)(cd:Value)(A:Around)(outer:List Env)(s:Shared)(H:Hp)(E:XK):Cx where
 prog:=P
 w:=w
 K:=K
 mg:=mg
 base:=base
 A:=A.deeper (envOfC qual scope s.heap.objs.size f cd)
 N:=N
 s₀:=s
 H₀:=H
 env:=envOfC qual scope s.heap.objs.size f cd
 outer:=outer
 stack:=envOfC qual scope s.heap.objs.size f cd :: outer
 ex:=[]
 calm:=true
 fn:=fun _=>true
 pn:=[]
 xe:=fun e s'=>wpAny (model P w) (A.deeper (envOfC qual scope s.heap.objs.size f cd)) (leaving (envOfC qual scope s.heap.objs.size f cd) e) (fun _ s''=>CX outer H s E e s'') (fun e' s''=>CX outer H s E e' s'') s'
theorem cell_has {sc:Scope}{n:Nat}{x:Str}(h:sc.names.lookup x=some .cell):∃ c,(cellsFrom n sc.names []).lookup x=some c:=by
 have q:=PySem.W.cellsFrom_some sc.names n [] (.inl h)
 exact Option.isSome_iff_exists.mp q
theorem inv_start {CX:CXT}{P:Program}{w:World}{K:PySem.W.Frag}{mg:Str -> Option Value}{base:Heap}{N ps:List Str}{qual:Str}{scope:Scope}{f:Addr}{cd:Value}{A:Around}{outer:List Env}{s s1:Shared}{H:Hp}{E:XK}{us:List Value}{vs:List V}
  (S:FnScope N ps scope) (hd:A.handled=none) (e0:Env0 P w K mg base A outer s H) (hl:vs.length=ps.length) (r:Vals vs us)
  (x:InCallC s s.heap.objs.size (bindL (envOfC qual scope s.heap.objs.size f cd).kindOf (ps.zip us) fun _=>none) (cellsFrom (s.heap.objs.size+1) scope.names []) (bindC (envOfC qual scope s.heap.objs.size f cd).kindOf (ps.zip us) fun _=>none) s1) :
  Inv (cxOf CX P w K mg base N qual scope f cd A outer s H E) [] (start N vs) H s1:=by
 have hpl:ps.length <= N.length:=by have:=congrArg List.length S.pre; rw [qO] at this; omega
 obtain ⟨h1,tk,rfl,hk⟩:=x.done
 have noA:∀ b:Addr,b ∉ (cxOf CX P w K mg base N qual scope f cd A outer s H E).ex:=fun b z=>absurd (show b ∈ ([]:List Addr) from z) (by simp)
 refine ⟨⟨e0.mod,S.kind,rfl,rfl,Nat.le_refl _,fun y z c h1 h2=>?_,fun y hy=>?_,fun y c _ h=>?_,fun _=>hd,Around.frames_deeper e0.frames,.inr ⟨rfl,rfl⟩,fun b z=>absurd z (noA b),e0.bs,e0.bsz,fun b _ _=>noA b,fun b z=>absurd z (noA b),e0.funs,e0.frf⟩,
  rfl,e0.bare,Un.kept hk,⟨_,x.toInCall.ns,fun i y v h1 h2 h3=>?_⟩,fun y c h=>⟨_,x.cell y c h⟩,e0.hok.fresh (Nat.le_refl _),fun y c h=>?_,fun p hp=>absurd (show p ∈ ([]:List (Addr × Obj)) from hp) (by simp),e0.hok.kept hk,?_⟩
 ·exact name_of_addr x.apart (PySem.mem_of_lookup h1) (PySem.mem_of_lookup h2)
 ·have hy:scope.names.lookup y=some .cell \/ scope.names.lookup y=some .free:=hy
  rcases hy with hy | hy
  ·exact cell_has hy
  ·exact absurd rfl (S.nofree _ (PySem.mem_of_lookup hy))
 ·exact Nat.le_of_lt (x.above y c (PySem.mem_of_lookup h))
 ·have hi:i < vs.length:=by
   unfold start at h2
   by_cases hi:i < vs.length
   ·exact hi
   ·rw [qG (by simpa using hi)] at h2
    rw [List.getElem?_replicate] at h2
    split at h2 <;> cases h2
  have ha:vs[i]? = some v:=by
   unfold start at h2
   rw [qH (by simpa using hi),qI] at h2
   cases e:vs[i]? with
   | none=>rw [e] at h2; cases h2
   | some a=>rw [e] at h2; cases h2; rfl
  obtain ⟨u,hu,rv⟩:=r.get ha
  have hp:ps[i]? = some y:=by
   rw [← S.pre,List.getElem?_take_of_lt (by omega)]; exact h1
  have ndP:ps.Nodup:=by rw [← S.pre]; exact S.nd.sublist (List.take_sublist _ _)
  refine ⟨u,rv,?_⟩
  rcases S.par y (qE hp) with k | k
  ·exact .inl ⟨k,bindL_get ndP hp hu k⟩
  ·obtain ⟨c,e⟩:=cell_has (n:=s.heap.objs.size+1) k
   refine .inr ⟨.inl k,c,e,?_⟩
   have q:=x.cell y c e
   rw [bindC_get ndP hp hu (by show scope.names.lookup y ≠ _; rw [k]; decide)] at q
   exact q
 ·exact e0.hok.fresh (Nat.le_of_lt (x.above y c (PySem.mem_of_lookup h)))
 ·unfold start
  show _=N.length
  rw [qF,qC,qL]
  omega
theorem fn_of {CX:CXT}{P:Program}{w:World}{K:PySem.W.Frag}{mg:Str -> Option Value}{base:Heap}{k:Nat}{f:Addr}{name qual:Str}{params:Arguments}{body:List Stmt}{scope:Scope}{dV kV doc pm cdv ct oc:Value}{an od:Option Addr}
  {osl:Array (Option Value)} {N ps:List Str} {sp:Sp} (lk:K.lookup f=some ⟨oc,od,.func (PySem.W.fnOf name qual params body scope dV kV doc pm an cdv ct),osl⟩) (hcd:PySem.W.codeIn K cdv qual=true) (S:FnScope N ps scope)
  (len:∀ vs H Q E,sp vs H Q E -> vs.length=ps.length)
  (hbody:∀ (A:Around) (outer:List Env) (s:Shared) (H:Hp) (vs:List V) (Q:VK) (E:XK),Room k (A.deeper (envOfC qual scope s.heap.objs.size f cdv)) -> sp vs H Q E ->
   ∃ t,PSs (cxOf CX P w K mg base N qual scope f cdv A outer s H E) body t /\ t { nx:=fun _ H'=>Q .non H',rt:=Q } (start N vs) H) :
  FnOk P w K mg base CX (k+1) f (PySem.W.fnOf name qual params body scope dV kV doc pm an cdv ct) ps sp:=by
 refine ⟨len,fun A outer s H args us vs Q E hr e0 hb r hsp=>?_⟩
 have hl:=len _ _ _ _ hsp
 have KX:K.In s.heap:=e0.mod.kin.keeps fun b o e=>(e0.bs b o e).1
 have lim:s.heap.NoLimit:=e0.mod.nolimit.keeps fun b o e=>(e0.bs b o e).1
 have hkind:∀ y ∈ ps.zip us,scope.names.lookup y.1=some .local \/ (scope.names.lookup y.1=some .cell /\ ((cellsFrom (s.heap.objs.size+1) scope.names []).lookup y.1).isSome=true):=fun ⟨n,v⟩ hy=>by
  rcases S.par n (List.of_mem_zip hy).1 with q | q
  ·exact .inl q
  ·exact .inr ⟨q,PySem.W.cellsFrom_some _ _ _ (.inl q)⟩
 refine codeAny_call_function hr.depth (KX _ _ lk) rfl S.co S.gen rfl (PySem.W.codeRec_of KX hcd) (hb _ _ _ _ ?_)
 refine wpAny_newFunctionEnv_cells S.kind hkind fun env he s1 x=>?_
 subst he
 refine ⟨lim.keeps x.toInCall.keep,codeAny_func ?_⟩
 obtain ⟨t,ht,hq⟩:=hbody A outer s H vs Q E (hr.deeper _) hsp
 have I:Inv (cxOf CX P w K mg base N qual scope f cdv A outer s H E) [] (start N vs) H s1:=inv_start S hr.hd e0 hl r x
 refine wpAny_mono (ht [] s1 (start N vs) H _ I hq) (fun fl s' hs=>?_) fun e s' hs=>hs
 have fin:∀ {σ':St} {H':Hp} {v:V} {u:Value},Inv (cxOf CX P w K mg base N qual scope f cdv A outer s H E) [] σ' H' s' -> RelV v u -> Q v H' -> CE outer P w H s Q u s' :=
  fun {σ' H' v u} J rv q=>⟨v,H',J.os,J.bare,J.base,J.hok,rv,q⟩
 cases fl with
 | ret u =>
  obtain ⟨v,σ',H',J,rv,q⟩:=hs
  exact fin J rv q
 | next =>
  obtain ⟨σ',H',J,q⟩:=hs
  exact fin (v:=V.non) (u:=Value.none) J rfl q
 | brk =>
  obtain ⟨_,_,_,q⟩:=hs
  exact False.elim q
 | cont =>
  obtain ⟨_,_,_,q⟩:=hs
  exact False.elim q
end L2
namespace L2
open PySem PySem.Spec PyProof.Rows
section
variable {X:Cx}{x:Str}{p pos:Pos}{e:Expr}{es:List Expr}{t:TA}{id T:String}{r:List V -> Hp -> VK -> Prop}
def tCB (r:List V -> Hp -> VK -> Prop)(t:TA):TE:=fun σ H Q=>t σ H fun vs H1=>r vs H1 Q
theorem pe_callB (hc:CallR X (.builtin id) r) (hg:Gl X x) (hm:X.mg x=none) (hv:bootBuiltins x=some (.builtin id)) (ha:PA X (e :: es) t) (hn:x ≠ "__name__":=by decide) (hdb:(x == ("__debug__" : Str))=false:=by decide)
  (he:starEach (e :: es) X.env=(false,eval e X.env) :: starEach es X.env:=by rfl) (hpl:(backTo pos (starEach es X.env)).any (·.1)=false:=by rfl):PE X (.Call (.Name x p) (e :: es) [] pos) (tCB r t):=by
 intro pins s σ H Q I h
 refine wpAny_Call_Name_kw (ld_blt I hg hm hv ?_ hn hdb)
 exact PyProof.Rows.callWith_builtin1 (thn (ha pos pins s σ H _ I h) fun us s1 ⟨vs,H1,I1,r1,q1⟩=>hc pins s1 σ H1 vs us Q I1 r1 q1) he hpl
theorem pe_callTy (hc:CallR X (.type T) r) (hg:Gl X x) (hm:X.mg x=none) (hv:bootBuiltins x=some (.type T)) (ha:PA X (e :: es) t) (hn:x ≠ "__name__":=by decide) (hdb:(x == ("__debug__" : Str))=false:=by decide)
  (he:starEach (e :: es) X.env=(false,eval e X.env) :: starEach es X.env:=by rfl) (hpl:(backTo pos (starEach es X.env)).any (·.1)=false:=by rfl):PE X (.Call (.Name x p) (e :: es) [] pos) (tCB r t):=by
 intro pins s σ H Q I h
 refine wpAny_Call_Name_kw (ld_blt I hg hm hv ?_ hn hdb)
 exact PyProof.Rows.callWith_type1 (thn (ha pos pins s σ H _ I h) fun us s1 ⟨vs,H1,I1,r1,q1⟩=>hc pins s1 σ H1 vs us Q I1 r1 q1) he hpl
end
end L2
namespace HT
open PySem PyProof.Rows
section
open PySem.SeqAt
open PySem.AutoSeq1 (wpAny_loadPart')
open PySem.MeetsSeq PySem.MeetsSeq2 PySem.MeetsSeq3
end
section
variable {prog:Program}{w:World}{A:Around}{E:Value -> Shared -> Prop}{s:Shared}
def sIx (n d:Nat):Option Int -> Nat
 | none=>d
 | some v=>if v < 0 then (v+(n:Int)).toNat else min v.toNat n
theorem sIx_none (n d:Nat):sIx n d none=d:=rfl
end
end HT
namespace L2
open PySem PySem.Spec PyProof.Rows
abbrev TO:=St -> Hp -> (Option Int -> Hp -> Prop) -> Prop
def PO (X:Cx)(e:Option Expr)(t:TO):Prop :=
 ∀ (pins:List (Addr × Obj)) (s:Shared) (σ:St) (H:Hp) (Q:Option Int -> Hp -> Prop),Inv X pins σ H s -> t σ H Q ->
  wpAny (model X.prog X.w) X.A (evalPart e X.env) (fun u s'=>∃ o H',Inv X pins σ H' s' /\ IsPart u o /\ Q o H') X.xe s
def tNoPart:TO:=fun _ H Q=>Q none H
def tPart (t:TE):TO:=fun σ H Q=>t σ H fun x H1=>∃ i,x = .int i /\ Q (some i) H1
section
variable {X:Cx}{e:Expr}{te:TE}{lo hi:Option Expr}{tl th:TO}{pos p2:Pos}
theorem po_none:PO X none tNoPart:=by
 intro pins s σ H Q I h
 rw [evalPart_none]
 exact wpAny_pure ⟨none,H,I,.none,h⟩
theorem po_some (h:PE X e te):PO X (some e) (tPart te):=by
 intro pins s σ H Q I hw
 rw [evalPart_some]
 refine thn (h pins s σ H _ I hw) fun u s1 ⟨x,H1,I1,r1,q1⟩=>?_
 obtain ⟨i,rfl,q⟩:=q1
 obtain ⟨t,rfl⟩:=r1
 exact ⟨some i,H1,I1,.int i t,q⟩
def SlR (X:Cx)(r:V -> Option Int -> Option Int -> Hp -> VK -> Prop):Prop :=
 ∀ (pins:List (Addr × Obj)) (s:Shared) (σ:St) (H:Hp) (x:V) (v vl vu:Value) (lo hi:Option Int) (sl:Addr) (Q:VK),Inv X pins σ H s -> RelV x v -> s.heap.IsSliceOf sl vl vu .none -> IsPart vl lo -> IsPart vu hi -> r x lo hi H Q ->
  ∃ T id,typeLookup (.type T) "__getitem__" = pure (some (.builtin id)) /\ s.TypeIs v T /\ wpAny (model X.prog X.w) X.A (getItem v (.ref sl)) (EP X pins σ Q) X.xe s
def tSl (r:V -> Option Int -> Option Int -> Hp -> VK -> Prop)(te:TE)(tl th:TO):TE:=fun σ H Q=>te σ H fun x H1=>tl σ H1 fun l H2=>th σ H2 fun u H3=>r x l u H3 Q
theorem pe_slice {r:V -> Option Int -> Option Int -> Hp -> VK -> Prop}(hr:SlR X r)(he:PE X e te)(hl:PO X lo tl)(hu:PO X hi th):PE X (.Subscript e (.Slice lo hi none p2) pos) (tSl r te tl th):=by
 intro pins s σ H Q I h
 refine Subscript_ (thn (he pins s σ H _ I h) fun v s1 ⟨x,H1,I1,r1,q1⟩=>?_)
 refine wpAny_Slice (thn (hl pins s1 σ H1 _ I1 q1) fun vl s2 ⟨l,H2,I2,pl,q2⟩=>thn (hu pins s2 σ H2 _ I2 q2) fun vu s3 ⟨u,H3,I3,pu,q3⟩=>?_)
 rw [evalPart_none]
 refine wpAny_pure ?_
 have I4:Inv X pins σ H3 { s3 with heap:=s3.heap.push { cls:=.type "slice",data:=.fields #[vl,vu,.none] } }:=I3.kept (t':=s3.toks) fun b ob q=>Heap.get?_push_of_some _ q
 obtain ⟨T,id,hT,ht,hg⟩:=hr pins { s3 with heap:=s3.heap.push { cls:=.type "slice",data:=.fields #[vl,vu,.none] } } σ H3 x v vl vu l u s3.heap.objs.size Q I4 r1 (Heap.IsSliceOf.new ..) pl pu q3
 show wpAny (model X.prog X.w) X.A (subscriptTail e (.Slice lo hi none p2) v (.ref s3.heap.objs.size)) (EP X pins σ Q) X.xe { s3 with heap:=s3.heap.push { cls:=.type "slice",data:=.fields #[vl,vu,.none] } }
 exact tail_any (ops:=[.ref s3.heap.objs.size,v]) ht hT hg (by with_unfolding_all rfl)
def cutV (xs:List V)(lo hi:Option Int):List V:=(xs.drop (HT.sIx xs.length 0 lo)).take (HT.sIx xs.length xs.length hi - HT.sIx xs.length 0 lo)
theorem cutV_length (xs:List V)(lo hi:Option Int):(cutV xs lo hi).length <= xs.length:=by
 unfold cutV
 rw [qO,List.length_drop]
 omega
end
end L2
namespace L2
open PySem PySem.Spec PyProof.Rows
def ixN (n:Nat)(i:Int):Option Nat:=if 0 <= i then (if i < n then some i.toNat else none) else if -(n:Int) <= i then some (i+n).toNat else none
def atI {α:Type}(xs:List α)(i:Int):Option α:=(ixN xs.length i).bind fun j=>xs[j]?
theorem ixN_seq {n:Nat}{i:Int}{j:Nat}(h:ixN n i=some j):seqIndex? i n=some j /\ j < n /\ -(n:Int) <= i /\ i < n:=by
 unfold ixN at h
 by_cases h0:0 <= i
 ·rw [if_pos h0] at h
  by_cases h1:i < n
  ·rw [if_pos h1] at h
   have e:i.toNat=j:=Option.some.inj h
   exact ⟨by rw [seqIndex_of h0 h1,e],by omega,by omega,h1⟩
  ·rw [if_neg h1] at h; cases h
 ·rw [if_neg h0] at h
  by_cases h1:-(n:Int) <= i
  ·rw [if_pos h1] at h
   have e:(i+n).toNat=j:=Option.some.inj h
   exact ⟨by rw [seqIndex_neg (by omega) h1,e],by omega,h1,by omega⟩
  ·rw [if_neg h1] at h; cases h
theorem atI_get {α:Type}{xs:List α}{i:Int}{v:α}(h:atI xs i=some v):∃ j,seqIndex? i xs.length=some j /\ xs[j]? = some v /\ j < xs.length /\ -(xs.length:Int) <= i /\ i < xs.length:=by
 unfold atI at h
 cases e:ixN xs.length i with
 | none=>rw [e] at h; cases h
 | some j =>
  rw [e] at h
  obtain ⟨h1,h2,h3,h4⟩:=ixN_seq e
  exact ⟨j,h1,h,h2,h3,h4⟩
theorem atI_nat {α:Type}{xs:List α}{j:Nat}{v:α}(h:xs[j]? = some v):atI xs (j:Int)=some v:=by
 have hj:j < xs.length:=(qB.mp h).1
 have e:ixN xs.length (j:Int)=some j:=by
  unfold ixN
  rw [if_pos (by omega),if_pos (by omega)]; simp
 unfold atI; rw [e]; exact h
def PlainIx (b:Expr):Prop:=∀ o i,subscripted b false o i=operate [o,i] (getItem o i)
def IxR (X:Cx)(r:R2):Prop :=
 ∀ (value slice:Expr) (pins:List (Addr × Obj)) (s:Shared) (σ:St) (H:Hp) (x y:V) (v u:Value) (Q:VK),Inv X pins σ H s -> RelV x v -> RelV y u -> r x y H Q ->
  subscripted slice false v u=operate [v,u] (getItem v u) -> wpAny (model X.prog X.w) X.A (subscriptTail value slice v u) (EP X pins σ Q) X.xe s
def MtR (X:Cx)(id:String)(r:V -> List V -> Hp -> VK -> Prop):Prop :=
 ∀ (pins:List (Addr × Obj)) (s:Shared) (σ:St) (H:Hp) (x:V) (xs:List V) (v:Value) (us:List Value) (Q:VK),Inv X pins σ H s -> RelV x v -> Vals xs us -> r x xs H Q ->
  wpAny (model X.prog X.w) X.A (call (.builtin id) (v :: us)) (EP X pins σ Q) X.xe s
section
variable {X:Cx}{a b:Expr}{ta tb:TE}{pos:Pos}
theorem pe_ix {r:R2}(hr:IxR X r)(ha:PE X a ta)(hb:PE X b tb)(hs:PlainIx b):PE X (.Subscript a b pos) (tOp r ta tb):=by
 intro pins s σ H Q I h
 exact Subscript_ (binT ha hb I h fun v u s2 x y H2 I2 rx ry q=>hr a b pins s2 σ H2 x y v u Q I2 rx ry q (hs _ _))
def rIxL (K:PySem.W.Frag):R2:=fun x y H Q=>∃ p xs i v,x = .ref p /\ y = .int i /\ SqL K H p xs /\ atI xs i=some v /\ Q v H
def rIxT (K:PySem.W.Frag):R2:=fun x y H Q=>∃ p xs i v,x = .ref p /\ y = .int i /\ SqT K H p xs /\ atI xs i=some v /\ Q v H
theorem ix_list:IxR X (rIxL X.K):=by
 intro value slice pins s σ H x y v u Q I rx ry h hs
 obtain ⟨p,xs,i,z,rfl,rfl,hq,he,q⟩:=h
 cases rx
 obtain ⟨t,rfl⟩:=ry
 obtain ⟨its,r,pl,hz⟩:=I.list hq
 obtain ⟨j,h1,h2,h3,h4,h5⟩:=atI_get he
 obtain ⟨w,ew,rw'⟩:=r.get h2
 have hl:=r.length
 have hn:=line63
 have fin:EP X pins σ Q w s:=⟨z,H,I,rw',q⟩
 by_cases h0:0 <= i
 ·have hj:i.toNat=j:=by
   rw [seqIndex_of h0 h5] at h1
   exact Option.some.inj h1
  exact item_listR pl.isList h0 (by omega) (by rw [hj]; simpa using ew) fin hs
 ·have hj:(i+(its.toArray.size:Int)).toNat=j:=by
   rw [seqIndex_neg (by omega) h4] at h1
   rw [qM,← hl]
   exact Option.some.inj h1
  exact subscriptTail_builtinR (x:=w) pl.isList.typeIs slot_list_getitem.lookup
   (wpAny_getItem_list_neg (Q:=fun r s'=>r=w /\ EP X pins σ Q r s') pl.isList (by omega) (by rw [qM] <;> omega) (by omega) (by rw [hj]; simpa using ew) ⟨rfl,fin⟩) hs
theorem ix_tup:IxR X (rIxT X.K):=by
 intro value slice pins s σ H x y v u Q I rx ry h hs
 obtain ⟨p,xs,i,z,rfl,rfl,hq,he,q⟩:=h
 cases rx
 obtain ⟨t,rfl⟩:=ry
 obtain ⟨its,r,pl,hz⟩:=I.tuple hq
 obtain ⟨j,h1,h2,h3,h4,h5⟩:=atI_get he
 obtain ⟨w,ew,rw'⟩:=r.get h2
 have hl:=r.length
 have hn:=line63
 have fin:EP X pins σ Q w s:=⟨z,H,I,rw',q⟩
 exact subscriptTail_builtinR (x:=w) pl.typeIs slot_tuple_getitem.lookup
  (getItem_tuple (j:=j) (Q:=fun r s'=>r=w /\ EP X pins σ Q r s') pl (by omega) (by omega) (by rw [qM,← hl]; exact h1) (by simpa using ew) ⟨rfl,fin⟩) hs
theorem mapSeq_set (its:List Value)(n j:Nat)(u:Value):Obj.mapSeq (·.setIfInBounds j u) { cls:=.type "list",data:=.seq its.toArray n } = { cls:=.type "list",data:=.seq (its.set j u).toArray n }:=by
 simp [Obj.mapSeq]
theorem Inv.lst {pins:List (Addr × Obj)}{σ:St}{H:Hp}{s:Shared}{p:Addr}{xs:List V}(I:Inv X pins σ H s)(h:H p=some (.lst xs)) :
  ∃ (its:List Value) (n:Nat),Vals xs its /\ s.heap.get? p=some { cls:=.type "list",data:=.seq its.toArray n } /\ xs.length <= sizeLine:=by
 obtain ⟨z,its,n,r,e⟩:=I.hok p _ h
 exact ⟨its,n,r,e,z⟩
theorem Inv.lstUpd {pins:List (Addr × Obj)}{σ:St}{H:Hp}{s:Shared}{p:Addr}{xs ys:List V}{its its':List Value}{n n':Nat}{f:Obj -> Obj}(I:Inv X pins σ H s)(h:H p=some (.lst xs))
  (ho:s.heap.get? p=some { cls:=.type "list",data:=.seq its.toArray n }) (hf:f { cls:=.type "list",data:=.seq its.toArray n } = { cls:=.type "list",data:=.seq its'.toArray n' }) (r:Vals ys its') (hz:ys.length <= sizeLine) (t:Nat) :
  Inv X pins σ (upd H p (.lst ys)) { s with heap:=s.heap.update p f,toks:=t }:=by
 have e:(s.heap.update p f).get? p=some { cls:=.type "list",data:=.seq its'.toArray n' }:=by
  rw [Heap.get?_update_self f ho (by rw [hf] <;> rfl),hf]
 refine I.write (x:=p) (e:=p) (by rw [h]; trivial) (.inl rfl) (fun b u hb q=>(Heap.get?_update_other _ _ (Ne.symm hb)).trans q) ⟨_,e⟩ ?_
 exact ⟨hz,its',n',r,e⟩
def rSetL:V -> V -> V -> Hp -> (Hp -> Prop) -> Prop:=fun o i v H Q=>∃ p xs k j,o = .ref p /\ i = .int k /\ H p=some (.lst xs) /\ ixN xs.length k=some j /\ Q (upd H p (.lst (xs.set j v)))
theorem set_list:PSet X rSetL:=by
 intro pins s σ H o i v ov iv u Q I ro ri rv h
 obtain ⟨p,xs,k,j,rfl,rfl,hp,hj,q⟩:=h
 cases ro
 obtain ⟨t,rfl⟩:=ri
 obtain ⟨its,n,r,ho,hz⟩:=I.lst hp
 obtain ⟨h1,h2,h3,h4⟩:=ixN_seq hj
 have hl:=r.length
 have hn:=line63
 have I':Inv X pins σ (upd H p (.lst (xs.set j v))) { s with heap:=s.heap.update p (Obj.mapSeq (·.setIfInBounds j u)) } :=
  I.lstUpd hp ho (mapSeq_set its n j u) (r.set rv j) (by rw [List.length_set]; exact hz) s.toks
 by_cases h0:0 <= k
 ·have hk:k.toNat=j:=by
   rw [seqIndex_of h0 h4] at h1
   exact Option.some.inj h1
  exact PySem.W.ki_setAt ho h0 (by omega) (by rw [qM,← hl]; exact h4) (by rw [hk]; exact ⟨_,I',q⟩)
 ·have hk:(k+(its.toArray.size:Int)).toNat=j:=by
   rw [seqIndex_neg (by omega) h3] at h1
   rw [qM,← hl]
   exact Option.some.inj h1
  exact PySem.W.ki_setBack ho (by omega) (by rw [qM,← hl]; exact h3) (by omega) (by rw [hk]; exact ⟨_,I',q⟩)
theorem slice_bounds (lo hi:Option Int)(n:Nat):(sliceBounds lo hi none n).1=((HT.sIx n 0 lo:Nat):Int) /\ (sliceBounds lo hi none n).2.1=((HT.sIx n n hi:Nat):Int) /\ (sliceBounds lo hi none n).2.2=1:=by
 refine ⟨?_,?_,rfl⟩
 ·cases lo with
  | none=>simp [sliceBounds,HT.sIx]
  | some i =>
   simp only [sliceBounds,HT.sIx,Option.getD_none,show (1:Int) > 0 by decide,if_true]
   by_cases h:i < 0
   ·simp only [h,if_true] <;> omega
   ·simp only [h,if_false] <;> omega
 ·cases hi with
  | none=>simp [sliceBounds,HT.sIx]
  | some i =>
   simp only [sliceBounds,HT.sIx,Option.getD_none,show (1:Int) > 0 by decide,if_true]
   by_cases h:i < 0
   ·simp only [h,if_true] <;> omega
   ·simp only [h,if_false] <;> omega
theorem slicePick_cut (its:List Value)(lo hi:Option Int):slicePick its.toArray lo hi none=((its.drop (HT.sIx its.length 0 lo)).take (HT.sIx its.length its.length hi - HT.sIx its.length 0 lo)).toArray:=by
 obtain ⟨h1,h2,h3⟩:=slice_bounds lo hi its.toArray.size
 unfold slicePick
 rw [h1,h2,h3]
 simp only [sliceRange_one,pick_run,qM] <;> rfl
def rSlL (K:PySem.W.Frag):V -> Option Int -> Option Int -> Hp -> VK -> Prop:=fun x lo hi H Q=>∃ a xs,x = .ref a /\ SqL K H a xs /\ ∀ p,H p=none -> Q (.ref p) (upd H p (.lst (cutV xs lo hi)))
theorem sl_list:SlR X (rSlL X.K):=by
 intro pins s σ H x v vl vu lo hi sl Q I rx hs pl pu h
 obtain ⟨a,xs,rfl,hx,q⟩:=h
 cases rx
 obtain ⟨its,r,ht,hz⟩:=I.list hx
 have hlen:=r.length
 refine ⟨"list",_,slot_list_getitem.lookup,ht.isList.typeIs,?_⟩
 refine wpAny_getItem_list_slice ht.isList hs pl pu .none (by simp) ?_ (by rw [qM] <;> omega)
 rw [slicePick_cut,← hlen]
 refine ⟨.ref s.heap.objs.size,_,I.laid (t':=s.toks) (o:=.lst (cutV xs lo hi)) (fun b ob q=>Heap.get?_push_of_some _ q) (Nat.le_refl _) ?_,rfl,q _ (I.hok.fresh (Nat.le_refl _))⟩
 exact ⟨Nat.le_trans (cutV_length xs lo hi) hz,_,0,(r.drop (HT.sIx xs.length 0 lo)).take (HT.sIx xs.length xs.length hi - HT.sIx xs.length 0 lo),Heap.get?_push_size _ rfl⟩
def flatV:V -> Bool
 | .non=>true
 | .bl _=>true
 | .int _=>true
 | .str _=>true
 | _=>false
def eqV:V -> V -> Bool
 | .non,.non=>true
 | .bl a,.bl b=>a == b
 | .bl a,.int b=>(if a then 1 else 0) == b
 | .int a,.bl b=>a == (if b then 1 else 0)
 | .int a,.int b=>a == b
 | .str a,.str b=>a == b
 | _,_=>false
theorem eqAt_V {A:Around}{s:Shared}{y x:V}{u v:Value}(ry:RelV y u)(rx:RelV x v)(fy:flatV y=true)(fx:flatV x=true):SeqAt.EqAt A s u v (eqV y x):=by
 cases y with
 | non =>
  cases ry
  cases x with
  | non=>cases rx; exact SeqAt.EqAt.same _
  | bl b=>cases rx; exact SeqAt.EqAt.none_bool b
  | int b=>obtain ⟨t,rfl⟩:=rx; exact SeqAt.EqAt.none_int b t
  | str b=>obtain ⟨t,rfl⟩:=rx; exact SeqAt.EqAt.none_str b t
  | _=>exact absurd (show false=true from fx) Bool.false_ne_true
 | bl a =>
  cases ry
  cases x with
  | non=>cases rx; exact SeqAt.EqAt.bool_none a
  | bl b=>cases rx; exact SeqAt.EqAt.bool_bool a b
  | int b=>obtain ⟨t,rfl⟩:=rx; exact SeqAt.EqAt.bool_int a b t
  | str b=>obtain ⟨t,rfl⟩:=rx; exact SeqAt.EqAt.bool_str a b t
  | _=>exact absurd (show false=true from fx) Bool.false_ne_true
 | int a =>
  obtain ⟨t',rfl⟩:=ry
  cases x with
  | non=>cases rx; exact SeqAt.EqAt.int_none a t'
  | bl b=>cases rx; exact SeqAt.EqAt.int_bool a t' b
  | int b=>obtain ⟨t,rfl⟩:=rx; exact SeqAt.EqAt.int_int a t' b t
  | str b=>obtain ⟨t,rfl⟩:=rx; exact SeqAt.EqAt.int_str a t' b t
  | _=>exact absurd (show false=true from fx) Bool.false_ne_true
 | str a =>
  obtain ⟨t',rfl⟩:=ry
  cases x with
  | non=>cases rx; exact SeqAt.EqAt.str_none a t'
  | bl b=>cases rx; exact SeqAt.EqAt.str_bool a t' b
  | int b=>obtain ⟨t,rfl⟩:=rx; exact SeqAt.EqAt.str_int a t' b t
  | str b=>obtain ⟨t,rfl⟩:=rx; exact SeqAt.EqAt.str_str a t' b t
  | _=>exact absurd (show false=true from fx) Bool.false_ne_true
 | _=>exact absurd (show false=true from fy) Bool.false_ne_true
def eqU (x:V)(u:Value):Bool:=match u with
 | .none=>eqV .non x
 | .bool b=>eqV (.bl b) x
 | .int i _=>eqV (.int i) x
 | .str z _=>eqV (.str z) x
 | _=>false
theorem eqU_of {x y:V}{u:Value}(r:RelV y u)(f:flatV y=true):eqU x u=eqV y x:=by
 cases y with
 | non=>cases r; rfl
 | bl b=>cases r; rfl
 | int i=>obtain ⟨t,rfl⟩:=r; rfl
 | str z=>obtain ⟨t,rfl⟩:=r; rfl
 | _=>exact absurd (show false=true from f) Bool.false_ne_true
theorem any_eqU {x:V}:∀ {xs:List V} {us:List Value},Vals xs us -> xs.all flatV=true -> us.any (eqU x)=xs.any fun y=>eqV y x
 | _,_,.nil,_=>rfl
 | y :: xs,u :: us,.cons r t,f=>by
  rw [List.all_cons,Bool.and_eq_true] at f
  rw [List.any_cons,List.any_cons,eqU_of r f.1,any_eqU t f.2]
theorem mem_eqAt {A:Around}{s:Shared}{x:V}{v:Value}(rx:RelV x v)(fx:flatV x=true):∀ {xs:List V} {us:List Value},Vals xs us -> xs.all flatV=true -> ∀ u ∈ us,SeqAt.EqAt A s u v (eqU x u)
 | _,_,.nil,_=>fun u hu=>by cases hu
 | y :: xs,u :: us,.cons r t,f=>fun u' hu=>by
  rw [List.all_cons,Bool.and_eq_true] at f
  rcases List.mem_cons.mp hu with rfl | hu
  ·rw [eqU_of r f.1]; exact eqAt_V r rx f.1 fx
  ·exact mem_eqAt rx fx t f.2 u' hu
def inV (x:V)(xs:List V):Bool:=xs.any fun y=>eqV y x
def rIn (K:PySem.W.Frag)(neg:Bool):R2:=fun x y H Q=>∃ p xs,y = .ref p /\ (SqL K H p xs \/ SqT K H p xs) /\ flatV x=true /\ xs.all flatV=true /\ Q (.bl (if neg then !inV x xs else inV x xs)) H
theorem op_in_seq:OpR X (compareOp .In) (rIn X.K false):=by
 intro pins s σ H x y v u Q I rx ry h
 obtain ⟨p,xs,rfl,hq,fx,fs,q⟩:=h
 cases ry
 rcases hq with hq | hq
 ·obtain ⟨its,r,pl,hz⟩:=I.list hq
  refine SeqAt.in_listAt (eqU x) pl.isList (fun w hw=>mem_eqAt rx fx r fs w (by simpa using hw)) ⟨.bl _,H,I,rfl,?_⟩
  rw [show its.toArray.any (eqU x)=its.any (eqU x) by simp,any_eqU r fs]
  exact q
 ·obtain ⟨its,r,pl,hz⟩:=I.tuple hq
  refine SeqAt.in_tupleAt (eqU x) pl (fun w hw=>mem_eqAt rx fx r fs w (by simpa using hw)) ⟨.bl _,H,I,rfl,?_⟩
  rw [show its.toArray.any (eqU x)=its.any (eqU x) by simp,any_eqU r fs]
  exact q
theorem op_notIn_seq:OpR X (compareOp .NotIn) (rIn X.K true):=by
 intro pins s σ H x y v u Q I rx ry h
 obtain ⟨p,xs,rfl,hq,fx,fs,q⟩:=h
 cases ry
 rcases hq with hq | hq
 ·obtain ⟨its,r,pl,hz⟩:=I.list hq
  refine SeqAt.notIn_listAt (eqU x) pl.isList (fun w hw=>mem_eqAt rx fx r fs w (by simpa using hw)) ⟨.bl _,H,I,rfl,?_⟩
  rw [show its.toArray.any (eqU x)=its.any (eqU x) by simp,any_eqU r fs]
  exact q
 ·obtain ⟨its,r,pl,hz⟩:=I.tuple hq
  refine SeqAt.notIn_tupleAt (eqU x) pl (fun w hw=>mem_eqAt rx fx r fs w (by simpa using hw)) ⟨.bl _,H,I,rfl,?_⟩
  rw [show its.toArray.any (eqU x)=its.any (eqU x) by simp,any_eqU r fs]
  exact q
theorem call_len_seq:CallR X (.builtin "len") (fun xs H Q=>∃ p ys,xs=[.ref p] /\ (SqL X.K H p ys \/ SqT X.K H p ys) /\ Q (.int ys.length) H):=by
 intro pins s σ H xs us Q I r h
 obtain ⟨p,ys,rfl,hq,q⟩:=h
 obtain ⟨u,rfl,rx⟩:=vals1 r
 cases rx
 have hn:=line63
 rcases hq with hq | hq
 ·obtain ⟨its,r',pl,hz⟩:=I.list hq
  have hlen:=r'.length
  exact Calls.call_len_list pl.isList (by simp only [qM] <;> omega) ⟨.int ys.length,H,I.tok _,⟨s.toks+1,by rw [qM,hlen]⟩,q⟩
 ·obtain ⟨its,r',pl,hz⟩:=I.tuple hq
  have hlen:=r'.length
  exact len_tuple pl (by simp only [qM] <;> omega) ⟨.int ys.length,H,I.tok _,⟨s.toks+1,by rw [qM,hlen]⟩,q⟩
theorem call_list_of:CallR X (.type "list") (fun xs H Q=>∃ p ys,xs=[.ref p] /\ (SqL X.K H p ys \/ SqT X.K H p ys) /\ ∀ l,H l=none -> Q (.ref l) (upd H l (.lst ys))):=by
 intro pins s σ H xs us Q I r h
 obtain ⟨p,ys,rfl,hq,q⟩:=h
 obtain ⟨u,rfl,rx⟩:=vals1 r
 cases rx
 have fin:∀ (its:List Value),Vals ys its -> ys.length <= sizeLine -> ∀ (h':Heap) (c':Nat),(∀ b o',s.heap.get? b=some o' -> h'.get? b=some o') ->
   h'.get? s.heap.objs.size=some { cls:=.type "list",dict:=none,data:=.seq its.toArray c',slots:=#[] } -> EP X pins σ Q (.ref s.heap.objs.size) { s with heap:=h' }:=fun its r' hz h' c' kp e =>
  ⟨.ref s.heap.objs.size,_,I.laid (t':=s.toks) kp (Nat.le_refl _) (show ObjOk X.prog X.w _ h' _ (.lst ys) from ⟨hz,its,c',r',e⟩),rfl,q _ (I.hok.fresh (Nat.le_refl _))⟩
 rcases hq with hq | hq
 ·obtain ⟨its,r',pl,hz⟩:=I.list hq
  have hlen:=r'.length
  obtain ⟨o,ho,hc,n,hd⟩:=pl.isList
  exact call_list_seq p (.inl rfl) ho hc hd (fun h' c' kp e=>fin its r' hz h' c' kp e) (by simp only [qM] <;> omega)
 ·obtain ⟨its,r',pl,hz⟩:=I.tuple hq
  have hlen:=r'.length
  obtain ⟨o,ho,hc,n,hd⟩:=pl
  exact call_list_seq p (.inr rfl) ho hc hd (fun h' c' kp e=>fin its r' hz h' c' kp e) (by simp only [qM] <;> omega)
theorem call_tuple_of:CallR X (.type "tuple") (fun xs H Q=>∃ p ys,xs=[.ref p] /\ ((SqL X.K H p ys /\ ∀ l,H l=none -> Q (.ref l) (upd H l (.tup ys))) \/ (SqT X.K H p ys /\ Q (.ref p) H))):=by
 intro pins s σ H xs us Q I r h
 obtain ⟨p,ys,rfl,h⟩:=h
 obtain ⟨u,rfl,rx⟩:=vals1 r
 cases rx
 rcases h with ⟨hq,q⟩ | ⟨hq,q⟩
 ·obtain ⟨its,r',pl,hz⟩:=I.list hq
  have hlen:=r'.length
  refine call_tuple_list pl.isList (fun h' kp=>?_) (by simp only [qM] <;> omega)
  have I1:Inv X pins σ H { s with heap:=h' }:=I.kept (t':=s.toks) kp
  have I2:Inv X pins σ (upd H h'.objs.size (.tup ys)) { s with heap:=h'.push { cls:=.type "tuple",data:=.seq its.toArray } } :=
   I1.laid (t':=s.toks) (fun b o e=>Heap.get?_push_of_some _ e) (Nat.le_refl _) (show ObjOk X.prog X.w _ _ _ (.tup ys) from ⟨hz,its,r',IsTup.new _ _⟩)
  exact ⟨.ref h'.objs.size,_,I2,rfl,q _ (I1.hok.fresh (Nat.le_refl _))⟩
 ·obtain ⟨its,r',pl,hz⟩:=I.tuple hq
  exact call_tuple_same pl ⟨.ref p,H,I,rfl,q⟩
def tyV (K:PySem.W.Frag)(T:String)(x:V)(H:Hp):Prop:=match x with
 | .str _=>T = "str"
 | .int _=>T = "int"
 | .ref p=>(T = "list" /\ ∃ xs,SqL K H p xs) \/ (T = "tuple" /\ ∃ o,K.lookup p=some o /\ o.cls = .type "tuple" /\ o.dict=none) \/
   (T = "dict" /\ ((∃ kvs,H p=some (.dK kvs)) \/ ∃ kvs,H p=some (.dT kvs))) \/ (T = "set" /\ ∃ S n,H p=some (.set S n))
 | _=>False
theorem tyV_is {pins:List (Addr × Obj)}{σ:St}{H:Hp}{s:Shared}{T:String}{x:V}{v:Value}(I:Inv X pins σ H s)(r:RelV x v)(ty:tyV X.K T x H) :
  s.TypeIs v T /\ ∀ a,v = .ref a -> ∃ ob,s.heap.get? a=some ob /\ ob.dict=none:=by
 cases x with
 | str z =>
  obtain ⟨t,rfl⟩:=r
  cases (show T = "str" from ty)
  exact ⟨typeIs_str s z t,fun _ e=>nomatch e⟩
 | int i =>
  obtain ⟨t,rfl⟩:=r
  cases (show T = "int" from ty)
  exact ⟨typeIs_int s i t,fun _ e=>nomatch e⟩
 | ref p =>
  cases r
  rcases ty with ⟨rfl,xs,hq⟩ | ⟨rfl,o,hk,hc,hd⟩ | ⟨rfl,hk⟩ | ⟨rfl,S,n,hk⟩
  ·obtain ⟨its,_,pl,_⟩:=I.list hq
   refine ⟨pl.isList.typeIs,fun a e=>?_⟩
   cases e
   obtain ⟨o,n,e,c,hd,_⟩:=pl
   exact ⟨o,e,hd⟩
  ·refine ⟨⟨o,I.kIn p o hk,hc⟩,fun a e=>?_⟩
   cases e
   exact ⟨o,I.kIn _ o hk,hd⟩
  ·have z:∃ o,s.heap.get? p=some o /\ o.ExactDict:=by
    rcases hk with ⟨kvs,hk⟩ | ⟨kvs,hk⟩
    ·obtain ⟨_,_,_,_,o,_,_,e,ex,_⟩:=I.hok p _ hk
     exact ⟨o,e,ex⟩
    ·obtain ⟨_,_,_,_,o,_,_,e,ex,_⟩:=I.hok p _ hk
     exact ⟨o,e,ex⟩
   obtain ⟨o,e,ex⟩:=z
   refine ⟨⟨o,e,ex.1⟩,fun a e2=>?_⟩
   cases e2
   exact ⟨o,e,ex.2.1⟩
  ·obtain ⟨o,_,_,_,e,ex,_⟩:=I.hok p _ hk
   refine ⟨⟨o,e,ex.1⟩,fun a e2=>?_⟩
   cases e2
   exact ⟨o,e,ex.2.1⟩
 | _=>exact False.elim ty
def tBM0 (K:PySem.W.Frag)(T:String)(r:V -> List V -> Hp -> VK -> Prop)(to:TE):TE:=fun σ H Q=>to σ H fun x H1=>tyV K T x H1 /\ r x [] H1 Q
def tBM (K:PySem.W.Frag)(T:String)(r:V -> List V -> Hp -> VK -> Prop)(to:TE)(t:TA):TE:=fun σ H Q=>to σ H fun x H1=>tyV K T x H1 /\ t σ H1 fun xs H2=>r x xs H2 Q
variable {o e:Expr}{es:List Expr}{to:TE}{t:TA}{name:Str}{apos cpos:Pos}{T id:String}{r:V -> List V -> Hp -> VK -> Prop}
theorem pe_bm0 (pa:PlainAttrs T) (slot:Slot T name id) (hty:typeOf (.builtin id)=pure (.type "method_descriptor")) (hm:MtR X id r) (ho:PE X o to)
  (hbase:attributeBase o name X.env (eval o X.env)=eval o X.env:=by rfl) (hline:(apos.endLine == cpos.line)=true:=by rfl):PE X (.Call (.Attribute o name apos) [] [] cpos) (tBM0 X.K T r to):=by
 intro pins s σ H Q I h
 refine wpAny_Call_method0_late hbase hline (thn (ho pins s σ H _ I h) fun v s1 ⟨x,H1,I1,r1,ty,q1⟩=>?_)
 obtain ⟨h1,h2⟩:=tyV_is I1 r1 ty
 exact ⟨T,id,pa,slot,hty,h1,h2,Calls.callWith_builtin rfl (PySem.evalArgs_none (hm pins s1 σ H1 x [] v [] Q I1 r1 .nil q1))⟩
theorem pe_bm (pa:PlainAttrs T) (slot:Slot T name id) (hty:typeOf (.builtin id)=pure (.type "method_descriptor")) (hm:MtR X id r) (ho:PE X o to) (ha:PA X (e :: es) t)
  (hbase:attributeBase o name X.env (eval o X.env)=eval o X.env:=by rfl)
  (hfew:((backTo cpos (starEach (e :: es) X.env)).all (fun x=>!x.1) && (backToKw cpos (keywordEach [] X.env)).all (fun x=>x.1.isSome)
   && decide ((e :: es).length+([]:List Keyword).length+(if ([]:List Keyword).isEmpty then 0 else 1) < 30))=true:=by rfl)
  (hline:(apos.endLine == cpos.line)=true:=by rfl) (hs:starEach (e :: es) X.env=(false,eval e X.env) :: starEach es X.env:=by rfl) (hplain:(backTo cpos (starEach es X.env)).any (·.1)=false:=by rfl) :
  PE X (.Call (.Attribute o name apos) (e :: es) [] cpos) (tBM X.K T r to t):=by
 intro pins s σ H Q I h
 refine wpAny_Call_method_late hbase hfew hline rfl (thn (ho pins s σ H _ I h) fun v s1 ⟨x,H1,I1,r1,ty,q1⟩=>?_)
 obtain ⟨h1,h2⟩:=tyV_is I1 r1 ty
 refine ⟨T,id,pa,slot,hty,h1,h2,?_⟩
 have hA:=ha cpos pins s1 σ H1 _ I1 q1
 rw [hs] at hA ⊢
 refine Calls.callWith_builtin (by show (false || (backTo cpos (starEach es X.env)).any (·.1))=false; rw [hplain] <;> rfl) (Calls.evalArgs_plain ?_)
 exact thn hA fun us s2 ⟨vs,H2,I2,r2,q2⟩=>hm pins s2 σ H2 x vs v us Q I2 r1 r2 q2
end
end L2
namespace L2
open PySem PySem.Spec PyProof.Rows
def MtM (X:Cx)(id:String)(r:V -> List V -> Hp -> VK -> Prop):Prop :=
 ∀ (pins:List (Addr × Obj)) (s:Shared) (σ:St) (H:Hp) (x:V) (xs:List V) (v:Value) (us:List Value) (Q:VK),Inv X pins σ H s -> RelV x v -> Vals xs us -> r x xs H Q ->
  wpAny (model X.prog X.w) X.A (call (.builtin id) (v :: us)) (EP X pins σ Q) X.xe s
theorem Vals.one:∀ {x:V} {us:List Value},Vals [x] us -> ∃ u,us=[u] /\ RelV x u
 | _,_,.cons r .nil=>⟨_,rfl,r⟩
theorem Vals.two:∀ {x y:V} {us:List Value},Vals [x,y] us -> ∃ u v,us=[u,v] /\ RelV x u /\ RelV y v
 | _,_,_,.cons r (.cons q .nil)=>⟨_,_,rfl,r,q⟩
section
variable {X:Cx}{pins:List (Addr × Obj)}{σ:St}{H:Hp}{s:Shared}{l b:Addr}{xs ys zs:List V}
theorem Inv.lset {its its':List Value}{n:Nat}{f:Array Value -> Array Value}{t':Nat}(I:Inv X pins σ H s)(hH:H l=some (.lst xs))
  (e:s.heap.get? l=some { cls:=.type "list",data:=.seq its.toArray n }) (hf:f its.toArray=its'.toArray) (hv:Vals ys its') (hz:ys.length <= sizeLine) :
  Inv X pins σ (upd H l (.lst ys)) { s with heap:=s.heap.update l (Obj.mapSeq f),toks:=t' }:=by
 have q:=PySem.IsL.update e f
 rw [hf] at q
 refine I.write (x:=l) (e:=l) (by rw [hH]; exact trivial) (.inl rfl) (fun b' u hb hu=>(Heap.get?_update_other s.heap (Obj.mapSeq f) (Ne.symm hb)).trans hu) ⟨_,q⟩ ?_
 exact ⟨hz,its',_,hv,q⟩
theorem Inv.lnew {its:List Value}{t':Nat}(I:Inv X pins σ H s)(hv:Vals ys its)(hz:ys.length <= sizeLine) :
  Inv X pins σ (upd H s.heap.objs.size (.lst ys)) { s with heap:=s.heap.push { cls:=.type "list",data:=.seq its.toArray },toks:=t' } :=
 I.laid (fun _ _ q=>Heap.get?_push_of_some _ q) (Nat.le_refl _) ⟨hz,its,0,hv,Heap.get?_push_size _ rfl⟩
theorem Inv.fresh (I:Inv X pins σ H s):H s.heap.objs.size=none:=I.hok.fresh (Nat.le_refl _)
theorem Inv.lstM (I:Inv X pins σ H s)(hH:H l=some (.lst xs)):xs.length <= sizeLine /\ ∃ (its:List Value) (n:Nat),Vals xs its /\ xs.length=its.length /\ s.heap.get? l=some { cls:=.type "list",data:=.seq its.toArray n }:=by
 obtain ⟨z,its,n,r,e⟩:=I.hok l _ hH
 exact ⟨z,its,n,r,r.length,e⟩
end
section
variable {X:Cx}
def rAppend:V -> List V -> Hp -> VK -> Prop:=fun x vs H Q=>∃ l xs y,x = .ref l /\ vs=[y] /\ H l=some (.lst xs) /\ xs.length < sizeLine /\ Q .non (upd H l (.lst (xs ++ [y])))
theorem mt_append:MtM X "list.append" rAppend:=by
 intro pins s σ H x vs v us Q I rx rv h
 obtain ⟨l,xs,y,rfl,rfl,hH,hz,q⟩:=h
 cases rx
 obtain ⟨u,rfl,ru⟩:=rv.one
 obtain ⟨z,its,n,r,hl,e⟩:=I.lstM hH
 refine call_meets F.slot_list_append ⟨_,e,rfl⟩ F.entry_list_append (F.args_list_append_2 _ _) (PySem.list_append l its.toArray n u (by rw [qM]; omega)) ⟨e,?_⟩
 refine ⟨.non,_,I.lset (its':=its ++ [u]) hH e (by simp) (r.append (.cons ru .nil)) ?_,rfl,q⟩
 rw [qF,List.length_singleton]
 omega
def rExtend:V -> List V -> Hp -> VK -> Prop:=fun x vs H Q=>∃ l b xs zs,x = .ref l /\ vs=[.ref b] /\ H l=some (.lst xs) /\ H b=some (.lst zs) /\ xs.length+zs.length <= sizeLine /\ Q .non (upd H l (.lst (xs ++ zs)))
def rPop:V -> List V -> Hp -> VK -> Prop:=fun x vs H Q=>∃ l xs y,x = .ref l /\ vs=[] /\ H l=some (.lst xs) /\ xs[xs.length - 1]? = some y /\ Q y (upd H l (.lst xs.dropLast))
def rReverse:V -> List V -> Hp -> VK -> Prop:=fun x vs H Q=>∃ l xs,x = .ref l /\ vs=[] /\ H l=some (.lst xs) /\ Q .non (upd H l (.lst xs.reverse))
def rClear:V -> List V -> Hp -> VK -> Prop:=fun x vs H Q=>∃ l xs,x = .ref l /\ vs=[] /\ H l=some (.lst xs) /\ Q .non (upd H l (.lst []))
def rCat:R2:=fun x y H Q=>∃ l b xs zs,x = .ref l /\ y = .ref b /\ H l=some (.lst xs) /\ H b=some (.lst zs) /\ xs.length+zs.length <= sizeLine /\ ∀ p,H p=none -> Q (.ref p) (upd H p (.lst (xs ++ zs)))
theorem op_cat:OpR X (binaryOp .Add) rCat:=by
 intro pins s σ H x y v u Q I rx ry h
 obtain ⟨l,b,xs,zs,rfl,rfl,hH,hB,hz,q⟩:=h
 cases rx
 cases ry
 obtain ⟨z,its,n,r,hl,e⟩:=I.lstM hH
 obtain ⟨z2,its2,n2,r2,hl2,e2⟩:=I.lstM hB
 refine PySem.P.add_list e e2 ?_ (by rw [qM,qM]; omega)
 have ea:its.toArray ++ its2.toArray=(its ++ its2).toArray:=by simp
 rw [ea]
 exact ⟨.ref _,_,I.lnew (t':=s.toks) (r.append r2) (by rw [qF]; omega),rfl,q _ I.fresh⟩
end
section
variable {prog:Program}{w:World}{A:Around}{E:Value -> Shared -> Prop}{s:Shared}
end
section
variable {X:Cx}
end
end L2
namespace L2
open PySem PySem.Spec PyProof.Rows
section
variable {κ:Type}[DecidableEq κ]
def valV (kvs:List (κ × V))(k:κ):Option V:=(kvs.find? fun kv=>decide (kv.1=k)).map (·.2)
def putK (kvs:List (κ × V))(k:κ)(v:V):List (κ × V) :=
 if (kvs.any fun kv=>decide (kv.1=k))=true then kvs.map (fun kv=>if kv.1=k then (kv.1,v) else kv) else kvs ++ [(k,v)]
theorem valV_nil {k:κ}:valV ([]:List (κ × V)) k=none:=rfl
theorem valV_pos {p:κ × V}{r:List (κ × V)}{k:κ}(e:p.1=k):valV (p :: r) k=some p.2:=by simp [valV,List.find?_cons,e]
theorem valV_neg {p:κ × V}{r:List (κ × V)}{k:κ}(e:¬ p.1=k):valV (p :: r) k=valV r k:=by simp [valV,List.find?_cons,e]
theorem valV_any (k:κ):∀ kvs:List (κ × V),(kvs.any fun kv=>decide (kv.1=k))=(valV kvs k).isSome
 | []=>rfl
 | p :: r=>by
  rw [List.any_cons]
  by_cases e:p.1=k
  ·simp only [valV_pos e,decide_eq_true e,Bool.true_or,Option.isSome_some]
  ·rw [valV_neg e,decide_eq_false e,Bool.false_or]; exact valV_any k r
theorem valV_map (k j:κ)(y:V):∀ kvs:List (κ × V),valV (kvs.map fun kv=>if kv.1=k then (kv.1,y) else kv) j=(valV kvs j).map fun x=>if j=k then y else x
 | []=>rfl
 | p :: r=>by
  have ih:=valV_map k j y r
  rw [List.map_cons]
  by_cases h:p.1=k
  ·rw [if_pos h]
   by_cases e:p.1=j
   ·rw [valV_pos (p:=(p.1,y)) e,valV_pos e,Option.map_some,if_pos (e.symm.trans h)]
   ·rw [valV_neg (p:=(p.1,y)) e,valV_neg e,ih]
  ·rw [if_neg h]
   by_cases e:p.1=j
   ·rw [valV_pos (p:=p) e,valV_pos e,Option.map_some,if_neg (fun z=>h (e.trans z))]
   ·rw [valV_neg (p:=p) e,valV_neg e,ih]
theorem valV_snoc (k j:κ)(y:V):∀ kvs:List (κ × V),valV kvs k=none -> valV (kvs ++ [(k,y)]) j=if j=k then some y else valV kvs j
 | [],_=>by
  by_cases e:k=j
  ·rw [if_pos e.symm]; exact valV_pos (p:=(k,y)) e
  ·rw [if_neg (fun z=>e z.symm)]; exact valV_neg (p:=(k,y)) e
 | p :: r,hn=>by
  rw [List.cons_append]
  have hk:¬ p.1=k:=fun z=>by rw [valV_pos z] at hn; cases hn
  rw [valV_neg hk] at hn
  have ih:=valV_snoc k j y r hn
  by_cases e:p.1=j
  ·rw [valV_pos e,valV_pos e,if_neg (fun z=>hk (e.trans z))]
  ·rw [valV_neg e,valV_neg e,ih]
theorem valV_put (kvs:List (κ × V))(k j:κ)(y:V):valV (putK kvs k y) j=if j=k then some y else valV kvs j:=by
 unfold putK
 by_cases a:(kvs.any fun kv=>decide (kv.1=k))=true
 ·rw [if_pos a,valV_map]
  rw [valV_any] at a
  by_cases e:j=k
  ·obtain ⟨x,hx⟩:=Option.isSome_iff_exists.mp a
   rw [if_pos e,e,hx,Option.map_some,if_pos rfl]
  ·rw [if_neg e]
   cases valV kvs j with
   | none=>rfl
   | some x=>rw [Option.map_some,if_neg e]
 ·rw [if_neg a]
  refine valV_snoc k j y kvs ?_
  rw [valV_any] at a
  cases q:valV kvs k with
  | none=>rfl
  | some x=>rw [q] at a; exact (a rfl).elim
theorem length_putK (kvs:List (κ × V))(k:κ)(v:V):(putK kvs k v).length <= kvs.length+1:=by
 unfold putK
 split
 ·rw [qC]; omega
 ·rw [qF,List.length_cons,List.length_nil]; omega
theorem putK_new {kvs:List (κ × V)}{k:κ}(v:V)(h:valV kvs k=none):putK kvs k v=kvs ++ [(k,v)]:=by
 unfold putK
 rw [valV_any,h]
 exact if_neg (by decide)
theorem RelO.isSome_eq {o:Option V}{u:Option Value}(r:RelO o u):o.isSome=u.isSome:=by
 cases o with
 | none=>cases u with
  | none=>rfl
  | some _=>exact (show False from r).elim
 | some _=>cases u with
  | none=>exact (show False from r).elim
  | some _=>rfl
theorem KV.val {kvs:List (κ × V)}{vs:List (κ × Value)}(r:KV kvs vs)(k:κ):RelO (valV kvs k) (valueAt vs k):=by
 unfold KV at r
 induction r with
 | nil=>exact True.intro
 | @cons p q ps qs h t ih =>
  obtain ⟨h1,h2⟩:=h
  by_cases e:p.1=k
  ·have e':q.1=k:=h1.symm.trans e
   have b:valueAt (q :: qs) k=some q.2:=by simp [valueAt,List.find?_cons,e']
   rw [valV_pos e,b]; exact h2
  ·have e':¬ q.1=k:=fun z=>e (h1.trans z)
   have b:valueAt (q :: qs) k=valueAt qs k:=by simp [valueAt,List.find?_cons,e']
   rw [valV_neg e,b]; exact ih
theorem KV.any {kvs:List (κ × V)}{vs:List (κ × Value)}(r:KV kvs vs)(k:κ):(kvs.any fun kv=>decide (kv.1=k))=vs.any fun kv=>decide (kv.1=k):=by
 unfold KV at r
 induction r with
 | nil=>rfl
 | cons h t ih=>rw [List.any_cons,List.any_cons,ih,h.1]
theorem KV.repl {kvs:List (κ × V)}{vs:List (κ × Value)}(r:KV kvs vs)(k:κ){y:V}{u:Value}(ry:RelV y u) :
  KV (kvs.map fun kv=>if kv.1=k then (kv.1,y) else kv) (vs.map fun kv=>if kv.1=k then (kv.1,u) else kv):=by
 unfold KV at r ⊢
 induction r with
 | nil=>exact .nil
 | @cons p q ps qs h t ih =>
  rw [List.map_cons,List.map_cons]
  refine .cons ?_ ih
  obtain ⟨h1,h2⟩:=h
  by_cases e:p.1=k
  ·rw [if_pos e,if_pos (h1.symm.trans e)]; exact ⟨h1,ry⟩
  ·rw [if_neg e,if_neg (fun z=>e (h1.trans z))]; exact ⟨h1,h2⟩
theorem KV.put {kvs:List (κ × V)}{vs:List (κ × Value)}(r:KV kvs vs)(k:κ){y:V}{u:Value}(ry:RelV y u):KV (putK kvs k y) (stored vs k u):=by
 unfold putK stored
 rw [r.any k]
 by_cases e:(vs.any fun kv=>decide (kv.1=k))=true
 ·rw [if_pos e,if_pos e]; exact r.repl k ry
 ·rw [if_neg e,if_neg e]; exact Paired.snoc r ⟨rfl,ry⟩
theorem KV.length {kvs:List (κ × V)}{vs:List (κ × Value)}(r:KV kvs vs):kvs.length=vs.length:=Paired.length r
end
theorem kV_is {P:Program}{w:World}{k:Key}{u:Value}(r:RelV (kV k) u):(mixKind P w).is k u=true:=by
 cases k with
 | inl i=>obtain ⟨t,e⟩:=(show ∃ t,u=Value.int i t from r); subst e; exact mixKind_int P w i t
 | inr x=>obtain ⟨t,e⟩:=(show ∃ t,u=Value.str x t from r); subst e; exact mixKind_str P w x t
theorem items_are {P:Program}{w:World}:∀ {ks:List Key} {us:List Value},Vals (ks.map kV) us -> ItemsAre (mixKind P w) ks us
 | [],_,r=>by rw [List.map_nil] at r; cases r; exact .nil
 | k :: ks,_,r=>by
  rw [List.map_cons] at r
  cases r with
  | cons h t=>exact .cons (kV_is h) (items_are t)
abbrev KT (H:Hp):List (List Key × V) -> List (List Key × Addr × Value) -> Prop:=Paired fun p q=>p.1=q.1 /\ H q.2.1=some (.tup (p.1.map kV)) /\ RelV p.2 q.2.2
theorem KT.val {H:Hp}{kvs:List (List Key × V)}{xs:List (List Key × Addr × Value)}(r:KT H kvs xs)(k:List Key):RelO (valV kvs k) ((atKey xs k).map (·.2)):=by
 induction r with
 | nil=>exact True.intro
 | @cons p q ps qs h t ih =>
  obtain ⟨h1,_,h2⟩:=h
  by_cases e:p.1=k
  ·have e':q.1=k:=h1.symm.trans e
   have b:atKey (q :: qs) k=some q.2:=by simp [atKey,List.find?_cons,e']
   rw [valV_pos e,b]; exact h2
  ·have e':¬ q.1=k:=fun z=>e (h1.trans z)
   have b:atKey (q :: qs) k=atKey qs k:=by simp [atKey,List.find?_cons,e']
   rw [valV_neg e,b]; exact ih
theorem KT.repl {H:Hp}{kvs:List (List Key × V)}{xs:List (List Key × Addr × Value)}(r:KT H kvs xs)(k:List Key){y:V}{u:Value}(ry:RelV y u) :
  KT H (kvs.map fun kv=>if kv.1=k then (kv.1,y) else kv) (xs.map (putAt k u)):=by
 induction r with
 | nil=>exact .nil
 | @cons p q ps qs h t ih =>
  rw [List.map_cons,List.map_cons]
  refine .cons ?_ ih
  obtain ⟨h1,h2,h3⟩:=h
  unfold putAt
  by_cases e:p.1=k
  ·rw [if_pos e,if_pos (h1.symm.trans e)]; exact ⟨h1,h2,ry⟩
  ·rw [if_neg e,if_neg (fun z=>e (h1.trans z))]; exact ⟨h1,h2,h3⟩
theorem KT.put {H:Hp}{kvs:List (List Key × V)}{xs:List (List Key × Addr × Value)}(r:KT H kvs xs)(k:List Key){b:Addr}{y:V}{u:Value}(hb:H b=some (.tup (k.map kV)))(ry:RelV y u) :
  KT H (putK kvs k y) (storedH xs k b u):=by
 have e:(kvs.any fun kv=>decide (kv.1=k))=(atKey xs k).isSome:=by
  rw [valV_any,(r.val k).isSome_eq,Option.isSome_map]
 unfold putK storedH
 rw [e]
 by_cases q:(atKey xs k).isSome=true
 ·rw [if_pos q,if_pos q]; exact r.repl k ry
 ·rw [if_neg q,if_neg q]; exact Paired.snoc r ⟨rfl,hb,ry⟩
theorem KT.keeps {H H':Hp}{kvs:List (List Key × V)}{xs:List (List Key × Addr × Value)}(r:KT H kvs xs)(ht:∀ b ys,H b=some (.tup ys) -> H' b=some (.tup ys)):KT H' kvs xs :=
 Paired.mapP r fun _ _ z=>⟨z.1,ht _ _ z.2.1,z.2.2⟩
section
variable {P:Program}{w:World}{H:Hp}{h:Heap}{a:Addr}
theorem rd_of {u:HO}(ok:HOk P w H h)(e:Rd H a u):ObjOk P w H h a u:=e.ok ok
theorem dk_rd {kvs:List (Key × V)}(ok:HOk P w H h)(e:Rd H a (.dK kvs)):kvs.length <= sizeLine /\ (a == sysModules)=false /\ ∃ vs,KV kvs vs /\ h.DictOf (mixKind P w) a vs :=
 show ObjOk P w H h a (.dK kvs) from rd_of ok e
theorem dk_of {kvs:List (Key × V)}(ok:HOk P w H h)(e:H a=some (.dK kvs)):kvs.length <= sizeLine /\ (a == sysModules)=false /\ ∃ vs,KV kvs vs /\ h.DictOf (mixKind P w) a vs:=dk_rd ok (.inl e)
theorem key_of {ks:List Key}(ok:HOk P w H h)(e:H a=some (.tup (ks.map kV))):(tupleKind (mixKind P w)).is h ks a:=by
 obtain ⟨_,its,r,o,h1,h2,n,h3⟩:=(show ObjOk P w H h a (.tup (ks.map kV)) from ok a _ e)
 exact ⟨o,its.toArray,n,h1,h2,h3,by simpa using items_are r⟩
theorem dt_rd {kvs:List (List Key × V)}(ok:HOk P w H h)(e:Rd H a (.dT kvs)):kvs.length <= sizeLine /\ (a == sysModules)=false /\
  ∃ xs,KT H kvs xs /\ h.DictOfH (tupleKind (mixKind P w)) a xs:=by
 obtain ⟨z,y,xs,r,o,es,ep,h1,h2,h3,h4,h5⟩:=(show ObjOk P w H h a (.dT kvs) from rd_of ok e)
 refine ⟨z,y,xs,r,o,es,ep,h1,h2,h3,h4,fun x hx=>?_,h5⟩
 have all:∀ {l:List (List Key × V)} {m:List (List Key × Addr × Value)},KT H l m -> ∀ x ∈ m,(tupleKind (mixKind P w)).is h x.1 x.2.1:=by
  intro l m q
  induction q with
  | nil=>intro x hx; exact nomatch hx
  | @cons p q ps qs hq t ih =>
   intro x hx
   rcases List.mem_cons.mp hx with e | hx
   ·subst e
    exact key_of ok (by rw [← hq.1]; exact hq.2.1)
   ·exact ih x hx
 exact all r x hx
theorem dt_of {kvs:List (List Key × V)}(ok:HOk P w H h)(e:H a=some (.dT kvs)):kvs.length <= sizeLine /\ (a == sysModules)=false /\
  ∃ xs,KT H kvs xs /\ h.DictOfH (tupleKind (mixKind P w)) a xs:=dt_rd ok (.inl e)
end
def DGet (H:Hp)(a:Addr)(y:V)(r:Option V):Prop :=
 (∃ kvs k,Rd H a (.dK kvs) /\ y=kV k /\ r=valV kvs k) \/ ∃ kvs k b,Rd H a (.dT kvs) /\ y = .ref b /\ H b=some (.tup (k.map kV)) /\ r=valV kvs k
def DPut (H:Hp)(a:Addr)(y v:V)(H':Hp):Prop :=
 (∃ kvs k,H a=some (.dK kvs) /\ y=kV k /\ kvs.length < sizeLine /\ H'=upd H a (.dK (putK kvs k v))) \/
 ∃ kvs k b,H a=some (.dT kvs) /\ y = .ref b /\ H b=some (.tup (k.map kV)) /\ kvs.length < sizeLine /\ H'=upd H a (.dT (putK kvs k v))
theorem DGet.k {H:Hp}{a:Addr}{kvs:List (Key × V)}{k:Key}(e:H a=some (.dK kvs)):DGet H a (kV k) (valV kvs k):=.inl ⟨kvs,k,.inl e,rfl,rfl⟩
theorem DGet.t {H:Hp}{a b:Addr}{kvs:List (List Key × V)}{k:List Key}(e:H a=some (.dT kvs))(eb:H b=some (.tup (k.map kV))):DGet H a (.ref b) (valV kvs k):=.inr ⟨kvs,k,b,.inl e,rfl,eb,rfl⟩
theorem DPut.k {H:Hp}{a:Addr}{kvs:List (Key × V)}{k:Key}{v:V}(e:H a=some (.dK kvs))(hl:kvs.length < sizeLine):DPut H a (kV k) v (upd H a (.dK (putK kvs k v))):=.inl ⟨kvs,k,e,rfl,hl,rfl⟩
theorem DPut.t {H:Hp}{a b:Addr}{kvs:List (List Key × V)}{k:List Key}{v:V}(e:H a=some (.dT kvs))(eb:H b=some (.tup (k.map kV)))(hl:kvs.length < sizeLine) :
  DPut H a (.ref b) v (upd H a (.dT (putK kvs k v))):=.inr ⟨kvs,k,b,e,rfl,eb,hl,rfl⟩
section
variable {X:Cx}{pins:List (Addr × Obj)}{σ:St}{H:Hp}{s:Shared}{a:Addr}{y v:V}{u r:Value}{o:Option V}{A:Around}{E:Value -> Shared -> Prop}
theorem Inv.big (I:Inv X pins σ H s):sysModules < s.heap.objs.size:=by
 have h:mainGlobals < s.heap.objs.size:=(I.mod.glob.keeps I.bk).lt
 exact Nat.lt_trans (by decide) h
theorem d_getItem {Q:Value -> Shared -> Prop}(hu:A.units+1 < cLine)(I:Inv X pins σ H s)(g:DGet H a y (some v))(ry:RelV y u)(h:∀ w' s',Inv X pins σ H s' -> RelV v w' -> Q w' s') :
  wpAny (model X.prog X.w) A (getItem (.ref a) u) Q E s:=by
 rcases g with ⟨kvs,k,e,ey,l⟩ | ⟨kvs,k,b,e,ey,eb,l⟩
 ·subst ey
  obtain ⟨z,hd,vs,rel,dd⟩:=dk_rd I.hok e
  obtain ⟨w',hw,rw'⟩:=RelO.some_of (v:=v) (o:=valueAt vs k) (by rw [l]; exact rel.val k)
  exact wpAny_getItem_of (kV_is ry) dd.mapOf hw (h w' _ (I.tok _) rw')
 ·subst ey
  cases (show u=Value.ref b from ry)
  obtain ⟨z,hd,xs,rel,dd⟩:=dt_rd I.hok e
  obtain ⟨w',hw,rw'⟩:=RelO.some_of (v:=v) (o:=(atKey xs k).map (·.2)) (by rw [l]; exact rel.val k)
  obtain ⟨p,hp,hp2⟩:=Option.map_eq_some_iff.mp hw
  refine wpAny_getItem_heap (tupleKind_room_in1 hu) (key_of I.hok eb) dd hp ?_
  rw [hp2]
  exact h w' _ (I.tok _) rw'
theorem d_in {Q:Value -> Shared -> Prop}(hu:A.units+1 < cLine)(I:Inv X pins σ H s)(g:DGet H a y o)(ry:RelV y u)(h:∀ s',Inv X pins σ H s' -> Q (.bool o.isSome) s') :
  wpAny (model X.prog X.w) A (compareOp .In u (.ref a)) Q E s:=by
 rcases g with ⟨kvs,k,e,ey,l⟩ | ⟨kvs,k,b,e,ey,eb,l⟩
 ·subst ey
  obtain ⟨z,hd,vs,rel,dd⟩:=dk_rd I.hok e
  refine wpAny_in_of (kV_is ry) hd dd.mapOf ?_
  rw [← (rel.val k).isSome_eq,← l]
  exact h _ (I.tok _)
 ·subst ey
  cases (show u=Value.ref b from ry)
  obtain ⟨z,hd,xs,rel,dd⟩:=dt_rd I.hok e
  refine wpAny_in_heap (tupleKind_room_in1 hu) (key_of I.hok eb) hd dd ?_
  have q:=(rel.val k).isSome_eq
  rw [Option.isSome_map] at q
  rw [← q,← l]
  exact h _ (I.tok _)
theorem d_write {h':Heap}{t':Nat}{ob:HO}(I:Inv X pins σ H s)(mu:Mut (H a))(hs:Heap.SameBut a s.heap h')(he:∃ q,h'.get? a=some q)(new:ObjOk X.prog X.w (upd H a ob) h' a ob) :
  Inv X pins σ (upd H a ob) { s with heap:=h',toks:=t' } :=
 I.write (x:=a) (e:=a) mu (.inl rfl) (fun b q hb z=>(hs.2 b hb).trans z) he new
theorem dk_new {P:Program}{w:World}{H':Hp}{h':Heap}{kvs:List (Key × V)}{vs:List (Key × Value)}(z:kvs.length <= sizeLine)(hd:(a == sysModules)=false)(rel:KV kvs vs)(dd:h'.DictOf (mixKind P w) a vs) :
  ObjOk P w H' h' a (.dK kvs):=⟨z,hd,vs,rel,dd⟩
theorem d_setItem {H':Hp}{Q:Unit -> Shared -> Prop}(hu:A.units+1 < cLine)(I:Inv X pins σ H s)(g:DPut H a y v H')(ry:RelV y u)(rv:RelV v r)(h:∀ s',Inv X pins σ H' s' -> Q () s') :
  wpAny (model X.prog X.w) A (setItem (.ref a) u r) Q E s:=by
 rcases g with ⟨kvs,k,e,ey,l,eH⟩ | ⟨kvs,k,b,e,ey,eb,l,eH⟩
 ·subst ey eH
  obtain ⟨z,hd,vs,rel,dd⟩:=dk_of I.hok e
  have hz:vs.length <= sizeLine:=by rw [← rel.length]; exact z
  have hl:(putK kvs k v).length <= sizeLine:=by have:=length_putK kvs k v; omega
  refine wpAny_setItem_pairs (hsz:=hz) (kV_is ry) dd fun h' dd' hs=>h _ ?_
  have he:∃ q,h'.get? a=some q:=let ⟨q,_,_,hq,_⟩:=dd'; ⟨q,hq⟩
  exact d_write I (by rw [e]; exact True.intro) hs he (dk_new hl hd (rel.put k rv) dd')
 ·subst ey eH
  cases (show u=Value.ref b from ry)
  obtain ⟨z,hd,xs,rel,dd⟩:=dt_of I.hok e
  have hz:xs.length <= sizeLine:=by rw [← Paired.length rel]; exact z
  have hl:(putK kvs k v).length <= sizeLine:=by have:=length_putK kvs k v; omega
  refine wpAny_setItem_heap (hsz:=hz) (tupleKind_room_in1 hu) (key_of I.hok eb) dd fun h' dd' hs=>h _ ?_
  obtain ⟨q,es,ep,hq,h2,h3,h4,_,h5⟩:=dd'
  refine d_write I (by rw [e]; exact True.intro) hs ⟨q,hq⟩ ⟨hl,hd,_,(rel.put k eb rv).keeps fun c ys ec=>?_,q,es,ep,hq,h2,h3,h4,h5⟩
  rw [upd_ne (ne_of ec e (fun z=>nomatch z))]
  exact ec
end
section
variable {X:Cx}{pins:List (Addr × Obj)}{σ:St}{H:Hp}{s:Shared}{a:Addr}{kvs:List (Key × V)}{k:Key}{u:Value}{A:Around}{E:Value -> Shared -> Prop}
end
def NoSl (i:Expr):Prop:=∀ ov iv,subscripted i false ov iv=operate [ov,iv] (getItem ov iv)
theorem subD_of {prog:Program}{w:World}{A:Around}{E:Value -> Shared -> Prop}{s:Shared}{env:Env}{value slice:Expr}{pos:Pos}{T id:String}{Q:Value -> Shared -> Prop}
  (hl:typeLookup (.type T) "__getitem__" = pure (some (.builtin id))) (hs:NoSl slice)
  (h:wpAny (model prog w) A (eval value env) (fun o s₁=>wpAny (model prog w) A (eval slice env) (fun i s₂=>s₂.TypeIs o T /\ wpAny (model prog w) A (getItem o i) Q E s₂) E s₁) E s) :
  wpAny (model prog w) A (eval (.Subscript value slice pos) env) Q E s:=by
 refine Subscript_ (wpAny_mono h (fun o s₁ h₁=>wpAny_mono h₁ (fun i s₂ h₂=>?_) fun _ _ x=>x) fun _ _ x=>x)
 obtain ⟨hT,h₂⟩:=h₂
 unfold subscriptTail
 refine wpAny_bind ?_
 rw [getitemInPython_of_ne hT.not_modules]
 refine wpAny_bind (wpAny_specialOf hT hl ?_)
 have fin:wpAny (model prog w) A (subscripted slice false o i) (fun r s₃=>wpAny (model prog w) A (letTemporaryGo value o r >>= fun _=>pure r) Q E s₃) E s₂:=by
  rw [hs o i]
  exact wpAny_operating (wpAny_mono h₂ (fun r s₃ h₃=>wpAny_bind (wpAny_letTemporaryGo (wpAny_pure h₃))) fun _ _ x=>x)
 first
  | exact wpAny_pure (wpAny_bind fin)
  | exact wpAny_bind (wpAny_pure (wpAny_bind fin))
  | exact wpAny_bind fin
theorem dict_typeIs {X:Cx}{pins:List (Addr × Obj)}{σ:St}{H:Hp}{s:Shared}{a:Addr}{y:V}{o:Option V}(I:Inv X pins σ H s)(g:DGet H a y o):s.TypeIs (.ref a) "dict":=by
 rcases g with ⟨kvs,k,e,_,_⟩ | ⟨kvs,k,b,e,_,_,_⟩
 ·obtain ⟨_,_,vs,_,dd⟩:=dk_rd I.hok e
  exact dd.typeIs
 ·obtain ⟨_,_,xs,_,dd⟩:=dt_rd I.hok e
  exact dd.typeIs
section
variable {X:Cx}{o i e value:Expr}{pos pos' tpos:Pos}{td ty tv:TE}
end
theorem dk_empty {P:Program}{w:World}{H:Hp}(h:Heap)(hb:sysModules < h.objs.size):ObjOk P w H (h.push { cls:=.type "dict",data:=.dict #[] }) h.objs.size (.dK []) :=
 ⟨Nat.zero_le _,beq_eq_false_iff_ne.mpr (Ne.symm (Nat.ne_of_lt hb)),[],.nil,Heap.DictOf.new h⟩
theorem dt_empty {P:Program}{w:World}{H:Hp}(h:Heap)(hb:sysModules < h.objs.size):ObjOk P w H (h.push { cls:=.type "dict",data:=.dict #[] }) h.objs.size (.dT []) :=
 ⟨Nat.zero_le _,beq_eq_false_iff_ne.mpr (Ne.symm (Nat.ne_of_lt hb)),[],.nil,_,#[],0,Heap.get?_push_size _ rfl,⟨rfl,rfl,rfl⟩,rfl,rfl,List.nodup_nil⟩
def tDNewK:TE:=fun _ H Q=>∀ p,H p=none -> Q (.ref p) (upd H p (.dK []))
def tDNewT:TE:=fun _ H Q=>∀ p,H p=none -> Q (.ref p) (upd H p (.dT []))
section
variable {X:Cx}{pos:Pos}
theorem pe_dnewK:PE X (.Dict [] [] pos) tDNewK:=fun pins s σ H Q I h =>
 wpAny_Dict_empty ⟨.ref s.heap.objs.size,_,I.laid (a:=s.heap.objs.size) (o:=.dK []) (t':=s.toks) (fun _ _ q=>Heap.get?_push_of_some _ q) (Nat.le_refl _) (dk_empty s.heap I.big),rfl,h _ (I.hok.fresh (Nat.le_refl _))⟩
theorem pe_dnewT:PE X (.Dict [] [] pos) tDNewT:=fun pins s σ H Q I h =>
 wpAny_Dict_empty ⟨.ref s.heap.objs.size,_,I.laid (a:=s.heap.objs.size) (o:=.dT []) (t':=s.toks) (fun _ _ q=>Heap.get?_push_of_some _ q) (Nat.le_refl _) (dt_empty s.heap I.big),rfl,h _ (I.hok.fresh (Nat.le_refl _))⟩
end
def tPairs:List (TE × TE) -> St -> Hp -> (List (V × V) -> Hp -> Prop) -> Prop
 | [],_,H,Q=>Q [] H
 | (tk,tv) :: r,σ,H,Q=>tk σ H fun x H1=>tv σ H1 fun y H2=>tPairs r σ H2 fun ps H3=>Q ((x,y) :: ps) H3
abbrev VV:List (V × V) -> List (Value × Value) -> Prop:=Paired fun p q=>RelV p.1 q.1 /\ RelV p.2 q.2
def PPs (X:Cx)(pos:Pos)(keys:List (Option Expr))(values:List Expr)(trs:List (TE × TE)):Prop :=
 ∀ (pins:List (Addr × Obj)) (s:Shared) (σ:St) (H:Hp) (Q:List (V × V) -> Hp -> Prop),Inv X pins σ H s -> tPairs trs σ H Q ->
  wpAny (model X.prog X.w) X.A (evalPairs (pairTrees keys values X.env pos)) (fun vs s'=>∃ ps H',Inv X pins σ H' s' /\ VV ps vs /\ Q ps H') X.xe s
theorem pps_nil {X:Cx}{pos:Pos}:PPs X pos [] [] []:=fun pins s σ H Q I h=>pairTrees_nil_walk ⟨[],H,I,.nil,h⟩
theorem pps_cons {X:Cx}{pos:Pos}{k v:Expr}{ks:List (Option Expr)}{vs:List Expr}{tk tv:TE}{trs:List (TE × TE)}(hk:PE X k tk)(hv:PE X v tv)(hr:PPs X pos ks vs trs) :
  PPs X pos (some k :: ks) (v :: vs) ((tk,tv) :: trs):=fun pins s σ H Q I h =>
 pairTrees_cons_walk (thn (hk pins s σ H _ I h) fun u s1 ⟨x,H1,I1,rx,q1⟩=>thn (hv pins s1 σ H1 _ I1 q1) fun w2 s2 ⟨y,H2,I2,ry,q2⟩ =>
  thn (hr pins s2 σ H2 _ I2 q2) fun ws s3 ⟨ps,H3,I3,rel,q3⟩=>⟨(x,y) :: ps,H3,I3,.cons ⟨rx,ry⟩ rel,q3⟩)
def mergeK (kvs more:List (Key × V)):List (Key × V):=more.foldl (fun acc kv=>putK acc kv.1 kv.2) kvs
theorem KV.merge:∀ {more:List (Key × V)} {rs:List (Key × Value)} {kvs:List (Key × V)} {vs:List (Key × Value)},KV more rs -> KV kvs vs -> KV (mergeK kvs more) (merged vs rs):=by
 intro more rs kvs vs r
 unfold KV at r
 induction r generalizing kvs vs with
 | nil=>intro q; exact q
 | @cons p q ps qs h t ih =>
  intro r0
  have e:KV (putK kvs p.1 p.2) (stored vs q.1 q.2):=by
   have:=r0.put p.1 h.2
   rw [← h.1]; exact this
  exact ih e
theorem length_mergeK:∀ (more kvs:List (Key × V)),(mergeK kvs more).length <= kvs.length+more.length
 | [],kvs=>by show kvs.length <= kvs.length+0; omega
 | p :: r,kvs=>by
  have h1:=length_mergeK r (putK kvs p.1 p.2)
  have h2:=length_putK kvs p.1 p.2
  show (mergeK (putK kvs p.1 p.2) r).length <= _
  rw [List.length_cons]; omega
theorem carries_of {P:Program}{w:World}:∀ {kvs:List (Key × V)} {ws:List (Value × Value)},VV (kvs.map fun kv=>(kV kv.1,kv.2)) ws -> ∃ rs,Carries (mixKind P w) ws rs /\ KV kvs rs
 | [],_,r=>by rw [List.map_nil] at r; cases r; exact ⟨[],True.intro,.nil⟩
 | p :: kvs,_,r=>by
  rw [List.map_cons] at r
  cases r with
  | @cons a b as bs h t =>
   obtain ⟨rs,c,q⟩:=carries_of (P:=P) (w:=w) t
   obtain ⟨b1,b2⟩:=b
   exact ⟨(p.1,b2) :: rs,⟨kV_is h.1,rfl,c⟩,.cons ⟨rfl,h.2⟩ q⟩
def tDisp (trs:List (TE × TE)):TE:=fun σ H Q=>∀ p,H p=none -> tPairs trs σ (upd H p (.dK [])) fun ps H2=>H2 p=some (.dK []) /\ ∃ kvs:List (Key × V),ps=kvs.map (fun kv=>(kV kv.1,kv.2)) /\ kvs.length <= 15 /\ Q (.ref p) (upd H2 p (.dK (mergeK [] kvs)))
theorem pe_disp {X:Cx}{pos:Pos}{keys:List (Option Expr)}{values:List Expr}{trs:List (TE × TE)}(h:PPs X pos keys values trs)(hall:keys.all (·.isSome)=true)(hl:keys.length=values.length)(h0:keys ≠ [])
  (h15:keys.length <= 15):PE X (.Dict keys values pos) (tDisp trs):=by
 intro pins s σ H Q I q
 have hn:=I.hok.fresh (Nat.le_refl s.heap.objs.size)
 have I1:=I.laid (a:=s.heap.objs.size) (o:=.dK []) (h':=s.heap.push { cls:=.type "dict",data:=.dict #[] }) (t':=s.toks) (fun _ _ q=>Heap.get?_push_of_some _ q) (Nat.le_refl _) (dk_empty s.heap I.big)
 refine wpAny_Dict_walk (knd:=mixKind X.prog X.w) hall hl h0 h15 (thn (h pins _ σ _ _ I1 (q _ hn)) fun ws s2 ⟨ps,H2,I2,rel,e,kvs,ep,lk,q2⟩=>?_)
 subst ep
 obtain ⟨rs,c,rk⟩:=carries_of (P:=X.prog) (w:=X.w) rel
 obtain ⟨z,hd,vs0,r0,dd⟩:=dk_of I2.hok e
 cases r0
 refine ⟨rs,c,dd,fun h' dd' hs=>⟨.ref s.heap.objs.size,_,?_,rfl,q2⟩⟩
 have hz:(mergeK [] kvs).length <= sizeLine:=by
  have h1:=length_mergeK kvs []
  rw [List.length_nil] at h1
  rw [sizeLine_eq]; omega
 have he:∃ q,h'.get? s.heap.objs.size=some q:=let ⟨q,_,_,hq,_⟩:=dd'; ⟨q,hq⟩
 exact d_write I2 (by rw [e]; exact True.intro) hs he (dk_new hz hd (rk.merge .nil) dd')
def IsD (H:Hp)(a:Addr):Prop:=(∃ kvs,Rd H a (.dK kvs)) \/ ∃ kvs,Rd H a (.dT kvs)
section
variable {X:Cx}{pins:List (Addr × Obj)}{σ:St}{H:Hp}{s:Shared}{a:Addr}{y d:V}{u r:Value}{o:Option V}{A:Around}{E:Value -> Shared -> Prop}
end
def tDGet1 (td ty:TE):TE:=fun σ H Q=>td σ H fun x H1=>∃ a,x = .ref a /\ IsD H1 a /\ ty σ H1 fun y H2=>∃ o,DGet H2 a y o /\ Q (o.getD .non) H2
def tDGet2 (td ty tx:TE):TE:=fun σ H Q=>td σ H fun x H1=>∃ a,x = .ref a /\ IsD H1 a /\ ty σ H1 fun y H2=>tx σ H2 fun z H3=>∃ o,DGet H3 a y o /\ Q (o.getD z) H3
section
variable {X:Cx}{o e f:Expr}{apos cpos:Pos}{td ty tx:TE}
end
section
variable {X:Cx}{pins:List (Addr × Obj)}{σ:St}{H:Hp}{s:Shared}{a:Addr}{kvs:List (Key × V)}{A:Around}{E:Value -> Shared -> Prop}
end
section
variable {X:Cx}{pins:List (Addr × Obj)}{σ:St}{H:Hp}{s:Shared}{a:Addr}{y:V}{u:Value}{A:Around}{E:Value -> Shared -> Prop}
end
end L2
namespace Att
open PySem PySem.W PySem.Calls PyProof.Rows
theorem ints_of_wellAll {P:Params}{h:Heap}:∀ (ns:List Int) (vs:List Value),WellAll P h vs (ns.map WData.int) -> IntsAre vs ns:=by
 intro ns
 induction ns with
 | nil =>
  intro vs w
  rw [List.map_nil] at w
  cases w
  exact .nil
 | cons n ns ih =>
  intro vs w
  rw [List.map_cons] at w
  cases w with
  | cons a b =>
   cases a
   exact .cons _ _ (ih _ b)
theorem script_of {l:OpenLaw}{n:Nat}(hn:l.most=some n){P:Params}{h:Heap}{args:List WData}{vals:List Value}
  (hpre:l.row.toRowW.claim.pre args=true) (hwl:WellAll P h vals args) :
  ∃ a vs ns,vals=[Value.ref a] /\ args=[WData.list (ns.map WData.int)] /\ h.get? a=some { cls:=.type "list",data:=.seq vs.toArray } /\ IntsAre vs ns /\ ns.length <= n:=by
 have hsh:WShape.hasAll [] args [.list .int]=true:=(pre_splitW hpre).1
 have hc:l.pre.holds [] { args:=args } = true:=(pre_splitW hpre).2
 obtain ⟨d,r,rfl,h1,h2⟩:=hasAllW_cons hsh
 obtain rfl:=hasAllW_nil h2
 obtain ⟨xs,rfl,h3⟩:=hasW_list h1
 obtain ⟨ns,rfl⟩:=items_int h3
 have hlen:ns.length <= n:=by
  unfold OpenLaw.pre at hc
  have h4:(WTm.not (.lt (.lit (.int (n:Int))) (.len (.arg 0)))).holds [] { args:=[.list (ns.map .int)] } = true:=by
   have h4:=(holds_andW hc).1
   rw [hn] at h4
   exact h4
  have h5:=condW_of h4 (w_not (w_lt w_lit (w_len_list (w_arg rfl))))
  rw [qC] at h5
  refine Nat.le_of_not_lt fun q=>?_
  have q':(n:Int) < ((ns.length:Nat):Int):=by omega
  first
   | (rw [decide_eq_true q'] at h5; exact absurd h5 (by decide))
   | (simp at h5; omega)
 cases hwl with
 | cons w1 w2 =>
  cases w2
  cases w1 with
  | list ho hall=>exact ⟨_,_,ns,rfl,rfl,ho,ints_of_wellAll ns _ hall,hlen⟩
theorem post_true (l:OpenLaw)(args:List WData):l.row.toRowW.claim.post args (.bool true) args=true :=
 postW_of (r:=l.row.toRowW) (X:=(true == true))
  (show WShape.has [] (.bool true) .bool=true by first | rfl | decide | simp [WShape.has,WShape.arms,WShape.armsAll])
  (show (WTm.eq .res (.lit (.bool true))).value [] { args:=args,res:=some (.bool true),after:=args } = some (.bool (true == true)) from w_eq_bool (w_res rfl) w_lit) rfl
theorem attach_call {l:OpenLaw}{n:Nat}{q:Program}{loose:List Str}{XP:(Str -> Option Value) -> Heap -> Prop}{YP:World -> Heap -> Prop}{d:DefRec}
  (hn:l.most=some n) (hdf:d.params.defaults=[])
  (call:∀ (w:World) (s₀ s₁:Shared) (mg mb:Str -> Option Value) (fa:Addr) (o:Obj) (pm cd doc:Value) (a:Addr) (vs:List Value) (ns:List Int),
   Ground q loose [] XP w s₀ mg mb s₁.heap -> YP w s₁.heap ->
   s₁.heap.get? fa=some o -> o.data = .func (docDef d.name d.params d.body d.scope pm cd doc) -> s₁.heap.CodeRec cd d.name -> mg d.name=some (.ref fa) ->
   s₁.heap.get? a=some { cls:=.type "list",data:=.seq vs.toArray } -> IntsAre vs ns -> ns.length <= n -> s₁.gens = #[] ->
   codeAny (model l.prog w) callerA (.call (.ref fa) ⟨[.ref a],[]⟩) (fun r s'=>r = .ok (.ret (.bool true)) /\ OldK s₁.heap s'.heap /\ s'.os=s₁.os /\ AllBare s'.gens) s₁) :
  WalkO q loose XP YP l.row.toRowW d [] (fun f vs=>PySem.call f vs):=by
 intro w s₀ s₁ mg mb G Y fa o pm cd doc dV kV ho hd hcd hD hmg hg args vals as hpre hlay hrd hwl hlo
 obtain rfl:dV = .none:=Dflts.none hD hdf
 obtain rfl:kV = .none:=Dflts.noKw hD
 obtain ⟨a,vs,ns,rfl,rfl,hobj,hints,hlen⟩:=script_of hn hpre hwl
 refine enter_call (codeAny_mono (call w s₀ s₁ mg mb fa o pm cd doc a vs ns G Y ho (fd_plain hd) hcd hmg hobj hints hlen hg) fun r s' hq=>?_)
 obtain ⟨rfl,h2,h3,h4⟩:=hq
 exact ⟨.inl ⟨.bool true,.bool true,[],rfl,fun _=>rfl,.bool true,post_true l _,fun _=>⟨List.Pairwise.nil,fun _ hm=>(nomatch hm)⟩⟩,h2,h3,h4⟩
section
variable {prog:Program}{w:World}{A:Around}{E:Value -> Shared -> Prop}{s:Shared}{K:Frag}
end
end Att
namespace L2
open PySem PySem.Spec PyProof.Rows
theorem vals_ints:∀ {vs:List Value} {ns:List Int},IntsAre vs ns -> Vals (ns.map V.int) vs
 | _,_,.nil=>.nil
 | _,_,.cons n t h=>.cons ⟨t,rfl⟩ (vals_ints h)
def Only (H:Hp):Prop:=∀ b,H b=none \/ ∃ o xs,H b=some (.frz o (.lst xs))
theorem law_call {P:Program}{w:World}{K:PySem.W.Frag}{mg mb:Str -> Option Value}{CX:CXT}{k:Nat}{fa a:Addr}{fd:FuncData}{x:Str}{sp:Sp}{s₁:Shared}{vs:List Value}{ns:List Int}
  (KX:K.In s₁.heap) (hns:s₁.heap.Ns mainGlobals mg) (hb:s₁.heap.Ns builtinsNs mb) (hbb:∀ x:Str,x ≠ "__name__" -> mb x=bootBuiltins x) (hlim:s₁.heap.NoLimit) (hg:s₁.gens = #[])
  (ha:s₁.heap.get? a=some { cls:=.type "list",data:=.seq vs.toArray }) (hi:IntsAre vs ns) (hl:ns.length <= sizeLine) (hr:Room k callerA)
  (F:∀ base:Heap,K.In base -> base.Ns mainGlobals mg -> FnOk P w K mg base CX k fa fd [x] sp) (hbind:∀ (s:Shared) (u:Value),BindsTo s fd ⟨[u],[]⟩ [(x,u)])
  (hsp:∀ H:Hp,Only H -> SqL K H a (ns.map V.int) -> sp [.ref a] H (fun v _=>v = .bl true) fun _ _ _=>False)
  (hCX:∀ H e s',CX [] H s₁ (fun _ _ _=>False) e s' -> False) :
  codeAny (model P w) callerA (.call (.ref fa) ⟨[.ref a],[]⟩) (fun r s'=>r = .ok (.ret (.bool true)) /\ OldK s₁.heap s'.heap /\ s'.os=s₁.os /\ AllBare s'.gens) s₁:=by
 have rv:=vals_ints hi
 have lenV:=hi.length
 -- from an abstract heap in which nothing but the script may be tracked
 have core:∀ H:Hp,Only H -> SqL K H a (ns.map V.int) -> HOk P w H s₁.heap -> (∀ b,H b ≠ none -> b=a) -> (H a ≠ none -> K.lookup a=none) ->
   codeAny (model P w) callerA (.call (.ref fa) ⟨[.ref a],[]⟩) (fun r s'=>r = .ok (.ret (.bool true)) /\ OldK s₁.heap s'.heap /\ s'.os=s₁.os /\ AllBare s'.gens) s₁:=by
  intro H hO hS hok hA hK
  have base_of:∀ {b:Addr} {o:Obj},s₁.heap.get? b=some o -> H b=none -> (hidT s₁.heap H).get? b=some o:=fun e n=>hidT_get e n
  have noA:∀ {b:Addr} {o:Obj} {es:Array DictEntry} {ep:Nat},s₁.heap.get? b=some o -> o.data = .dict es ep -> H b=none:=fun {b o es ep} e d=>by
   cases q:H b with
   | none=>rfl
   | some u =>
    have e':b=a:=hA b (by rw [q]; simp)
    subst e'
    rw [ha] at e; cases e
    have d':Data.seq vs.toArray _=Data.dict es ep:=d
    cases d'
  have nsK:∀ {b:Addr} {m:Str -> Option Value},s₁.heap.Ns b m -> (hidT s₁.heap H).Ns b m:=fun {b m} ⟨o,es,ep,e,d,r⟩=>⟨o,es,ep,base_of e (noA e d),d,r⟩
  have hKb:K.In (hidT s₁.heap H):=fun b o e=>base_of (KX b o e) (by
   cases q:H b with
   | none=>rfl
   | some u =>
    have e':b=a:=hA b (by rw [q]; simp)
    subst e'
    rw [hK (by rw [q]; simp)] at e; cases e)
  have hM:Mod K mg (hidT s₁.heap H):=⟨hKb,nsK hns,⟨mb,nsK hb,hbb⟩,let ⟨mc,h1,h2⟩:=hlim; ⟨mc,nsK h1,h2⟩⟩
  have e0:Env0 P w K mg (hidT s₁.heap H) callerA [] s₁ H:=⟨rfl,hM,fun b o e=>of_hidT e,Nat.le_of_eq (hidT_size _ _),trivial,fun b hb=>absurd (show b ∈ ([]:List Addr) from hb) (by simp),hok,.of_eq hg⟩
  refine codeAny_mono ((F _ hKb (nsK hns)).run callerA [] s₁ H ⟨[.ref a],[]⟩ [.ref a] [.ref a] _ _ hr e0 (hbind s₁ (.ref a)) (.cons rfl .nil) (hsp H hO hS)) fun r s' h=>?_
  cases r with
  | error e=>exact (hCX H e s' h).elim
  | ok fl =>
   cases fl with
   | next=>exact False.elim h
   | brk=>exact False.elim h
   | cont=>exact False.elim h
   | ret u =>
    obtain ⟨v,H',os,bare,un,hok',r',q⟩:=h
    have q':v = .bl true:=q
    subst q'
    obtain rfl:u=Value.bool true:=r'
    refine ⟨rfl,OldK.of_keep fun b o e=>?_,os,bare⟩
    cases q:H b with
    | none=>exact un.keep b o e q (by intro z; exact absurd (show b ∈ ([]:List Addr) from z) (by simp)) (by simp)
    | some u =>
     rcases hO b with z | ⟨ob,xs,z⟩
     ·rw [q] at z; cases z
     ·have z2:=un.frzs b ob _ z
      obtain ⟨e1,_⟩:=hok b _ z
      obtain ⟨e2,_⟩:=hok' b _ z2
      rw [e] at e1; cases e1
      exact e2
 cases hk:K.lookup a with
 | some o =>
  -- the script is one of the module's own objects
  have e:=KX a o hk
  rw [ha] at e
  cases e
  refine core (fun _=>none) (fun _=>.inl rfl) (.inr ⟨_,vs.toArray,_,hk,rfl,rfl,rfl,by rw [qM,lenV]; exact hl,by simpa using rv⟩) (fun b u z=>by have z':(none:Option HO)=some u:=z; cases z') (fun b z=>absurd rfl z) fun z=>absurd rfl z
 | none =>
  refine core (fun b=>if b=a then some (.frz { cls:=.type "list",data:=.seq vs.toArray } (.lst (ns.map V.int))) else none) (fun b=>?_) (.inl (.inr ⟨{ cls:=.type "list",data:=.seq vs.toArray },if_pos rfl⟩)) (fun b u z=>?_) (fun b z=>?_) fun _=>hk
  ·by_cases hb:b=a
   ·exact .inr ⟨_,_,if_pos hb⟩
   ·exact .inl (if_neg hb)
  ·by_cases hb:b=a
   ·have z':=(if_pos hb).symm.trans z
    cases z'
    subst hb
    exact ⟨ha,by rw [qC]; exact hl,vs,_,rv,ha⟩
   ·have z':=(if_neg hb).symm.trans z
    cases z'
  ·by_cases hb:b=a
   ·exact hb
   ·exact absurd (if_neg hb) z
end L2
namespace L2
open PySem PySem.Spec PyProof.Rows
theorem walk_of {l:PySem.W.OpenLaw}{n k:Nat}{q:Program}{loose:List Str}{XP:(Str -> Option Value) -> Heap -> Prop}{YP:World -> Heap -> Prop}{d:DefRec}{K:Params -> PySem.W.Frag}{CX:World -> CXT}{sp:World -> Sp}{x:Str}
  (hn:l.most=some n) (hn2:n <= sizeLine) (hdf:d.params.defaults=[]) (hr:Room k callerA)
  (hY:∀ (w:World) (h:Heap),YP w h -> (K w.params).In h)
  (F:∀ (w:World) (mg:Str -> Option Value) (fa:Addr) (h:Heap),(K w.params).In h -> h.Ns mainGlobals mg -> mg d.name=some (.ref fa) ->
   ∃ fd:FuncData,(∀ (s:Shared) (u:Value),BindsTo s fd ⟨[u],[]⟩ [(x,u)]) /\
    ∀ base:Heap,(K w.params).In base -> base.Ns mainGlobals mg -> FnOk l.prog w (K w.params) mg base (CX w) k fa fd [x] (sp w))
  (hsp:∀ (w:World) (H:Hp) (a:Addr) (ns:List Int),ns.length <= n -> Only H -> SqL (K w.params) H a (ns.map V.int) -> sp w [.ref a] H (fun v _=>v = .bl true) fun _ _ _=>False)
  (hCX:∀ (w:World) (H:Hp) (s:Shared) (e:Value) (s':Shared),CX w [] H s (fun _ _ _=>False) e s' -> False) :
  PySem.W.WalkO q loose XP YP l.row.toRowW d [] (fun f vs=>PySem.call f vs):=by
 refine Att.attach_call hn hdf fun w s₀ s₁ mg mb fa o pm cd doc a vs ns G Y ho hd hcd hmg hobj hints hlen hg=>?_
 have KX:=hY w _ Y
 obtain ⟨fd,hb,hF⟩:=F w mg fa _ KX G.T.g hmg
 exact law_call KX G.T.g G.T.b G.T.builtins G.T.nolimit hg hobj hints (Nat.le_trans hlen hn2) hr hF hb (fun H hO hS=>hsp w H a ns hlen hO hS) fun H e s'=>hCX w H s₁ e s'
end L2
namespace L2
open PySem PySem.Spec PyProof.Rows
def defArgs (s:Stmt):Arguments:=match s with
 | .FunctionDef _ a _ _ _ _ _ _ _ _=>a
 | _=>{ posonlyargs:=[],args:=[],vararg:=none,kwonlyargs:=[],kw_defaults:=[],kwarg:=none,defaults:=[] }
def defBody (s:Stmt):List Stmt:=match s with
 | .FunctionDef _ _ b _ _ _ _ _ _ _=>b
 | _=>[]
def defScope (s:Stmt):Scope:=match s with
 | .FunctionDef _ _ _ _ _ _ sc _ _ _=>sc
 | _=>{ kind:=.function,names:=[],isGenerator:=false,isCoroutine:=false }
abbrev CX0:CXT:=fun _ _ _ _ _ _=>False
abbrev E0:XK:=fun _ _ _=>False
theorem pass0 {X:Cx}:Passes CX0 X E0:=fun _ _ _ _ _ _ _ h=>h.elim
structure Fun (K:PySem.W.Frag) (x qual:Str) (st:Stmt) (f:Addr) (fd:FuncData):Prop where
 ex:∃ (oc:Value) (od:Option Addr) (kV doc pm:Value) (an:Option Addr) (cdv ct:Value) (osl:Array (Option Value)),
  fd=PySem.W.fnOf x qual (defArgs st) (defBody st) (defScope st) .none kV doc pm an cdv ct /\ K.lookup f=some ⟨oc,od,.func fd,osl⟩ /\ PySem.W.codeIn K cdv qual=true
 kp:PySem.W.keepIn K (.ref f)=true
section
variable {P:Program}{w:World}{K:PySem.W.Frag}{mg:Str -> Option Value}{base:Heap}
theorem Fun.ok {x qual:Str}{st:Stmt}{f:Addr}{fd:FuncData}{N ps:List Str}{k:Nat}{sp:Sp}(F:Fun K x qual st f fd)(S:FnScope N ps (defScope st))(len:∀ vs H Q E,sp vs H Q E -> vs.length=ps.length)
  (hbody:∀ (cdv:Value) (A:Around) (outer:List Env) (s:Shared) (H:Hp) (vs:List V) (Q:VK) (E:XK),Room k (A.deeper (envOfC qual (defScope st) s.heap.objs.size f cdv)) -> sp vs H Q E ->
   ∃ t,PSs (cxOf CX0 P w K mg base N qual (defScope st) f cdv A outer s H E).nox (defBody st) t /\ t { nx:=fun _ H'=>Q .non H',rt:=Q } (start N vs) H):FnOk P w K mg base CX0 (k+1) f fd ps sp:=by
 obtain ⟨oc,od,kV,doc,pm,an,cdv,ct,osl,rfl,lk,hcd⟩:=F.ex
 refine fn_of lk hcd S len fun A outer s H vs Q E hr hsp=>?_
 obtain ⟨t,h,q⟩:=hbody cdv A outer s H vs Q E hr hsp
 exact ⟨t,h.nox,q⟩
theorem Fun.binds {x qual:Str}{st:Stmt}{f:Addr}{fd:FuncData}{ps:List Str}(F:Fun K x qual st f fd)
  (h:∀ (kV doc pm:Value) (an:Option Addr) (cdv ct:Value) (us:List Value),us.length=ps.length -> bindArgs (PySem.W.fnOf x qual (defArgs st) (defBody st) (defScope st) .none kV doc pm an cdv ct) ⟨us,[]⟩=pure (ps.zip us)):Binds K fd ps []:=by
 obtain ⟨oc,od,kV,doc,pm,an,cdv,ct,osl,rfl,lk,hcd⟩:=F.ex
 exact .all (h kV doc pm an cdv ct)
theorem fun_mk {x qual:Str}{st:Stmt}{f:Addr}{oc:Value}{od an:Option Addr}{osl:Array (Option Value)}{kV doc pm cdv ct:Value}(l:K.lookup f=some ⟨oc,od,.func (PySem.W.fnOf x qual (defArgs st) (defBody st) (defScope st) .none kV doc pm an cdv ct),osl⟩)
  (c:PySem.W.codeIn K cdv qual=true) (k:PySem.W.keepIn K (.ref f)=true):Fun K x qual st f (PySem.W.fnOf x qual (defArgs st) (defBody st) (defScope st) .none kV doc pm an cdv ct):=⟨⟨oc,od,kV,doc,pm,an,cdv,ct,osl,rfl,l,c⟩,k⟩
end
theorem hu_of {A:Around}{k:Nat}(hr:Room k A):A.units+1 < cLine:=Nat.lt_of_le_of_lt (Nat.add_le_add_left (by decide:1 <= 64) _) hr.units
theorem small1000 {n:Nat}(h:n <= 1000):n < sizeLine:=Nat.lt_of_le_of_lt h (by decide)
section
variable {X:Cx}
theorem pv (i:Nat) {x:Str} {pos:Pos} (hN:X.N[i]? = some x:=by rfl) (hv:Vis X.env.scope x:=by first | exact Or.inl rfl | exact Or.inr (Or.inl rfl) | exact Or.inr (Or.inr rfl)) (hd:(x == ("__debug__" : Str))=false:=by decide)
  (hcd:(x == ("__classdict__" : Str))=false:=by decide):PE X (.Name x pos) (tVar i):=pe_var hN hv hd hcd
end
theorem ite2 {c A B:Prop}[Decidable c](h1:c -> A)(h2:¬ c -> B):if c then A else B:=by
 by_cases h:c
 ·rw [if_pos h]
  exact h1 h
 ·rw [if_neg h]
  exact h2 h
def Same (H H':Hp):Prop:=∀ b o,H b=some o -> H' b=some o
theorem Same.refl (H:Hp):Same H H:=fun _ _ h=>h
theorem Same.trans {H H1 H2:Hp}(a:Same H H1)(b:Same H1 H2):Same H H2:=fun c o h=>b c o (a c o h)
theorem Same.free {H H':Hp}(e:Same H H'){l:Addr}(h:H' l=Option.none):H l=Option.none:=by
 cases q:H l with
 | none=>rfl
 | some o =>
  rw [e l o q] at h
  cases h
theorem Same.seq {K:PySem.W.Frag}{H H':Hp}{a:Addr}{xs:List V}(e:Same H H')(h:SqL K H a xs):SqL K H' a xs:=by
 rcases h with (h | ⟨o,h⟩) | h
 ·exact .inl (.inl (e _ _ h))
 ·exact .inl (.inr ⟨o,e _ _ h⟩)
 ·exact .inr h
end L2
namespace L2
open PySem PySem.Spec PyProof.Rows
section
variable {X:Cx}
end
end L2
namespace L2
open PySem PySem.Spec PyProof.Rows
section
variable {κ:Type}[DecidableEq κ]
end
end L2
set_option Elab.async false
set_option linter.all false
set_option maxRecDepth 100000
namespace L2
open PySem PySem.Spec PyProof.Rows
section
variable {σ:St}{H:Hp}{Q:VK}{D:Ends}
theorem w_var {i:Nat}:tVar i σ H Q = ∃ v,σ[i]? = some (some v) /\ Q v H:=rfl
theorem w_C {v:V}:tC v σ H Q=Q v H:=rfl
theorem w_op {r:R2}{ta tb:TE}:tOp r ta tb σ H Q=ta σ H fun x H1=>tb σ H1 fun y H2=>r x y H2 Q:=rfl
theorem w_un {r:V -> Hp -> VK -> Prop}{ta:TE}:tUn r ta σ H Q=ta σ H fun x H1=>r x H1 Q:=rfl
theorem w_rI {C:Int -> Int -> Prop}{g:Int -> Int -> V}{i j:Int}:rI C g (.int i) (.int j) H Q=(C i j /\ Q (g i j) H) :=
 propext ⟨fun ⟨a,b,e1,e2,c,q⟩=>by cases e1; cases e2; exact ⟨c,q⟩,fun ⟨c,q⟩=>⟨i,j,rfl,rfl,c,q⟩⟩
theorem w_rI0 {g:Int -> Int -> V}{i j:Int}:rI0 g (.int i) (.int j) H Q=Q (g i j) H :=
 propext ⟨fun ⟨a,b,e1,e2,q⟩=>by cases e1; cases e2; exact q,fun q=>⟨i,j,rfl,rfl,q⟩⟩
theorem w_rU {g:Int -> V}{i:Int}:rU g (.int i) H Q=Q (g i) H :=
 propext ⟨fun ⟨a,e1,q⟩=>by cases e1; exact q,fun q=>⟨i,rfl,q⟩⟩
theorem w_eqI {i j:Int}:rEq (.int i) (.int j) H Q=Q (.bl (decide (i=j))) H :=
 propext (by
  have e:decide (V.int i=V.int j)=decide (i=j):=by by_cases h:i=j <;> simp [h]
  unfold rEq; rw [e]; exact ⟨fun h=>h.2,fun h=>⟨rfl,h⟩⟩)
theorem w_neI {i j:Int}:rNe (.int i) (.int j) H Q=Q (.bl (!decide (i=j))) H :=
 propext (by
  have e:decide (V.int i=V.int j)=decide (i=j):=by by_cases h:i=j <;> simp [h]
  unfold rNe; rw [e]; exact ⟨fun h=>h.2,fun h=>⟨rfl,h⟩⟩)
theorem w_seq {t u:TS}:tSeq t u D σ H=t { D with nx:=u D } σ H:=rfl
theorem w_next:tNext D σ H=D.nx σ H:=rfl
theorem w_break:tBreak D σ H=D.bk σ H:=rfl
theorem w_cont:tCont D σ H=D.ct σ H:=rfl
theorem w_ifS {c:TT}{t u:TS}:tIfS c t u D σ H=c σ H fun b H1=>if b=true then t D σ H1 else u D σ H1:=rfl
theorem w_ret {te:TE}:tRet te D σ H=te σ H D.rt:=rfl
theorem w_retN:tRetN D σ H=D.rt .non H:=rfl
theorem w_drop {te:TE}:tDrop te D σ H=te σ H fun _ H1=>D.nx σ H1:=rfl
theorem w_asg {te:TE}{g:TG}:tAsg te g D σ H=te σ H fun x H1=>g x σ H1 D.nx:=rfl
theorem w_gName {i:Nat}{v:V}{R:St -> Hp -> Prop}:gName i v σ H R=R (σ.set i (some v)) H:=rfl
theorem w_gSub {to ti:TE}{t:TSet}{v:V}{R:St -> Hp -> Prop}:gSub to ti t v σ H R=to σ H fun o H1=>ti σ H1 fun i H2=>t o i v H2 fun H3=>R σ H3:=rfl
theorem w_test {t:TE}{R:Bool -> Hp -> Prop}:tTest t σ H R=t σ H fun x H'=>∃ k,x = .bl k /\ R k H':=rfl
theorem w_B {t:TE}{R:Bool -> Hp -> Prop}:tB t σ H R=t σ H fun x H'=>∃ k,x = .bl k /\ R k H':=rfl
theorem w_and {t u:TT}{R:Bool -> Hp -> Prop}:tAnd t u σ H R=t σ H fun c H1=>if c=true then u σ H1 R else R false H1:=rfl
theorem w_or {t u:TT}{R:Bool -> Hp -> Prop}:tOr t u σ H R=t σ H fun c H1=>if c=true then R true H1 else u σ H1 R:=rfl
theorem w_not {t:TT}{R:Bool -> Hp -> Prop}:tNot t σ H R=t σ H fun c H1=>R (!c) H1:=rfl
theorem w_andV {ta tb:TE}:tAndV ta tb σ H Q=ta σ H fun x H1=>∃ c,x = .bl c /\ if c=true then tb σ H1 Q else Q (.bl false) H1:=rfl
theorem w_orV {ta tb:TE}:tOrV ta tb σ H Q=ta σ H fun x H1=>∃ c,x = .bl c /\ if c=true then Q (.bl true) H1 else tb σ H1 Q:=rfl
theorem w_notV {ta:TE}:tNotV ta σ H Q=ta σ H fun x H1=>∃ c,x = .bl c /\ Q (.bl (!c)) H1:=rfl
theorem w_if {t:TT}{ta tb:TE}:tIf t ta tb σ H Q=t σ H fun c H1=>if c=true then ta σ H1 Q else tb σ H1 Q:=rfl
theorem w_call {sp:Sp}{dvs:List V}{E:XK}{t:TA}:tCall sp dvs E t σ H Q=t σ H fun vs H1=>sp (vs ++ dvs) H1 Q E:=rfl
theorem w_nil {R:List V -> Hp -> Prop}:tNil σ H R=R [] H:=rfl
theorem w_cons {ta:TE}{tr:TA}{R:List V -> Hp -> Prop}:tCons ta tr σ H R=ta σ H fun x H1=>tr σ H1 fun xs H2=>R (x :: xs) H2:=rfl
theorem w_CB {r:List V -> Hp -> VK -> Prop}{t:TA}:tCB r t σ H Q=t σ H fun vs H1=>r vs H1 Q:=rfl
theorem w_lst {t:TA}:tLst t σ H Q=t σ H fun xs H1=>xs.length <= sizeLine /\ ∀ p,H1 p=none -> Q (.ref p) (upd H1 p (.lst xs)):=rfl
theorem w_tup {t:TA}:tTup t σ H Q=t σ H fun xs H1=>xs.length <= sizeLine /\ ∀ p,H1 p=none -> Q (.ref p) (upd H1 p (.tup xs)):=rfl
theorem w_isN {ta:TE}:tIsN ta σ H Q=ta σ H fun x H1=>Q (.bl (decide (x = .non))) H1:=rfl
theorem w_notN {ta:TE}:tNotN ta σ H Q=ta σ H fun x H1=>Q (.bl (!decide (x = .non))) H1:=rfl
theorem w_chain {r r':R2}{ta tb tc:TE}:tChain r r' ta tb tc σ H Q=(ta σ H fun x H1=>tb σ H1 fun y H2=>r x y H2 fun z H3=>∃ k,z = .bl k /\
 if k=true then tc σ H3 fun w H4=>r' y w H4 Q else Q (.bl false) H3):=by first | rfl | (unfold tChain; rfl)
end
section
variable {X:Cx}{st:Stmt}{rest:List Stmt}{t u:TS}
def tMid (t u:TS):TS:=fun D σ H=>∃ mid:St -> Hp -> Prop,t { D with nx:=mid } σ H /\ ∀ σ' H',mid σ' H' -> u D σ' H'
theorem pss_mid (h1:PS X st t)(h2:PSs X rest u):PSs X (st :: rest) (tMid t u):=by
 intro pins s σ H D I h
 obtain ⟨mid,q,k⟩:=h
 refine wpAny_execs_cons (thn (h1 pins s σ H { D with nx:=mid } I q) fun f s1 q=>?_)
 cases f with
 | next =>
  obtain ⟨σ',H',I',q⟩:=q
  exact h2 pins s1 σ' H' D I' (k _ _ q)
 | ret v=>exact q
 | brk=>exact q
 | cont=>exact q
end
structure Cal (P:Program) (w:World) (K:PySem.W.Frag) (mg:Str -> Option Value) (base:Heap) (k:Nat) (x:Str) (ps:List Str) (sp:Sp):Prop where
 ex:∃ (f:Addr) (fd:FuncData),FnOk P w K mg base CX0 k f fd ps sp /\ mg x=some (.ref f) /\ PySem.W.keepIn K (.ref f)=true /\ Binds K fd ps []
theorem Cal.mono {P:Program}{w:World}{K:PySem.W.Frag}{mg:Str -> Option Value}{base:Heap}{j k:Nat}{x:Str}{ps:List Str}{sp:Sp}(C:Cal P w K mg base j x ps sp)(h:j <= k):Cal P w K mg base k x ps sp:=by
 obtain ⟨f,fd,a,b,c,d⟩:=C.ex
 exact ⟨f,fd,a.mono h,b,c,d⟩
theorem Cal.imp {P:Program}{w:World}{K:PySem.W.Frag}{mg:Str -> Option Value}{base:Heap}{k:Nat}{x:Str}{ps:List Str}{sp sp':Sp}(C:Cal P w K mg base k x ps sp)(h:∀ vs H Q E,sp' vs H Q E -> sp vs H Q E):Cal P w K mg base k x ps sp':=by
 obtain ⟨f,fd,a,b,c,d⟩:=C.ex
 exact ⟨f,fd,a.imp h,b,c,d⟩
section
variable {X:Cx}{k:Nat}{x:Str}{ps:List Str}{sp:Sp}{e:Expr}{es:List Expr}{t:TA}{p pos:Pos}
theorem pe_cal (C:Cal X.prog X.w X.K X.mg X.base k x ps sp) (hr:Room k X.A) (hg:Gl X x) (ha:PA X (e :: es) t) (hd:(x == ("__debug__" : Str))=false:=by decide)
  (he:starEach (e :: es) X.env=(false,eval e X.env) :: starEach es X.env:=by rfl) (hpl:(backTo pos (starEach es X.env)).any (·.1)=false:=by rfl):PE X (.Call (.Name x p) (e :: es) [] pos) (tCall sp [] E0 t):=by
 obtain ⟨f,fd,a,b,c,d⟩:=C.ex
 exact pe_call a hr hg b c d .nil pass0 ha hd he hpl
end
theorem bits_le {i:Int}{n:Nat}(h:i.natAbs < 2 ^ n):Builtin.Int.intBits i <= n:=by
 unfold Builtin.Int.intBits
 split
 ·exact Nat.zero_le _
 ·rename_i h0
  have hp:i.natAbs ≠ 0:=by
   intro z
   exact h0 (by simpa using z)
  have:i.natAbs.log2 < n:=(Nat.log2_lt hp).mpr h
  omega
def CShl (i j:Int):Prop:=0 <= j /\ j <= 1000000 /\ Builtin.Int.intBits i <= 1000000
def CDivB (i j:Int):Prop:=0 < j /\ j.natAbs.log2 < 9000
section
variable {X:Cx}
theorem op_shlB:OpR X (binaryOp .LShift) (rI CShl fun i j=>.int (i * 2 ^ j.toNat)):=opI fun i j _ _ _ _ _ hc q=>lshift_int hc.1 (by have h1:=hc.2.1; have h2:=hc.2.2; omega) q
theorem op_mulB:OpR X (binaryOp .Mult) (rI IntMulOk fun i j=>.int (i * j)):=opI fun _ _ _ _ _ _ _ hc q=>mul_int q hc
theorem op_fdivB:OpR X (binaryOp .FloorDiv) (rI CDivB fun i j=>.int (i / j)):=opI fun i j _ _ _ _ _ hc q=>by
 have e:i / j=i.fdiv j:=(Int.fdiv_eq_ediv_of_nonneg i (Int.le_of_lt hc.1)).symm
 rw [e] at q
 exact floordiv_int (by have:=hc.1; omega) q (.inl (PyProof.noPylong_of_log2 hc.2))
def rIsI (K:PySem.W.Frag):List V -> Hp -> VK -> Prop:=fun xs H Q=>∃ x T t b,xs=[x,.ty T] /\ TyOf K H x t /\ PySem.W.kitOne K t (.type T)=some b /\ Q (.bl b) H
theorem call_isI:CallR X (.builtin "isinstance") (rIsI X.K):=by
 intro pins s σ H xs us Q I r h
 obtain ⟨x,T,t,b,rfl,ty,e,q⟩:=h
 obtain ⟨u1,u2,rfl,r1,r2⟩:=Vals.two r
 cases r2
 exact isinst_ok I r1 ty e fun tk=>⟨.bl b,H,I.tok _,rfl,q⟩
end
theorem mul_l {i j:Int}(h1:-(2 ^ 64) < i)(h2:i < 2 ^ 64):IntMulOk i j:=.of_left (intBits_le_64 h1 h2)
theorem mul_r {i j:Int}(h1:-(2 ^ 64) < j)(h2:j < 2 ^ 64):IntMulOk i j:=.of_right (intBits_le_64 h1 h2)
theorem mul_b {i j:Int}{m n:Nat}(h1:i.natAbs < 2 ^ m)(h2:j.natAbs < 2 ^ n)(h:m+n <= 2 ^ 27):IntMulOk i j:=by
 have a:=bits_le h1
 have b:=bits_le h2
 unfold IntMulOk
 have c:Builtin.Int.intTooBig (((Builtin.Int.intBits i+Builtin.Int.intBits j:Nat):Int))=false:=decide_eq_false (Int.not_lt.mpr (show ((Builtin.Int.intBits i+Builtin.Int.intBits j:Nat):Int) <= 2 ^ 27 by omega))
 intro z
 rw [Bool.and_eq_true] at z
 have z2:=z.2
 first | (rw [show ((Builtin.Int.intBits i:Nat):Int)+((Builtin.Int.intBits j:Nat):Int)=((Builtin.Int.intBits i+Builtin.Int.intBits j:Nat):Int) from rfl,c] at z2; cases z2) | (simp [c] at z2)
theorem kit_same {K:PySem.W.Frag}(T:String):PySem.W.kitOne K (.type T) (.type T)=some true:=by unfold PySem.W.kitOne; rw [if_pos (by simp)]
theorem kit_int_bool {K:PySem.W.Frag}:PySem.W.kitOne K (.type "int") (.type "bool")=some false:=by first | rfl | decide +kernel | (unfold PySem.W.kitOne PySem.W.kitCls; decide +kernel)
theorem kit_bool_int {K:PySem.W.Frag}:PySem.W.kitOne K (.type "bool") (.type "int")=some true:=by first | rfl | decide +kernel
theorem kit_non_int {K:PySem.W.Frag}:PySem.W.kitOne K (.type "NoneType") (.type "int")=some false:=by first | rfl | decide +kernel
theorem kit_str_int {K:PySem.W.Frag}:PySem.W.kitOne K (.type "str") (.type "int")=some false:=by first | rfl | decide +kernel
end L2
set_option Elab.async false
set_option linter.all false
set_option maxRecDepth 100000
namespace L2
open PySem PySem.Spec PyProof.Rows
theorem bo_len:bootBuiltins "len" = some (.builtin "len"):=by decide +kernel
theorem bo_abs:bootBuiltins "abs" = some (.builtin "abs"):=by decide +kernel
theorem bo_min:bootBuiltins "min" = some (.builtin "min"):=by decide +kernel
theorem bo_sum:bootBuiltins "sum" = some (.builtin "sum"):=by decide +kernel
theorem bo_all:bootBuiltins "all" = some (.builtin "all"):=by decide +kernel
theorem bo_sorted:bootBuiltins "sorted" = some (.builtin "sorted"):=by decide +kernel
theorem bo_isinstance:bootBuiltins "isinstance" = some (.builtin "isinstance"):=by decide +kernel
theorem bo_int:bootBuiltins "int" = some (.type "int"):=by decide +kernel
theorem bo_bool:bootBuiltins "bool" = some (.type "bool"):=by decide +kernel
theorem bo_list:bootBuiltins "list" = some (.type "list"):=by decide +kernel
theorem bo_tuple:bootBuiltins "tuple" = some (.type "tuple"):=by decide +kernel
theorem bo_set:bootBuiltins "set" = some (.type "set"):=by decide +kernel
theorem bo_zip:bootBuiltins "zip" = some (.type "zip"):=by decide +kernel
theorem bo_reversed:bootBuiltins "reversed" = some (.type "reversed"):=by decide +kernel
def CPowB (i j:Int):Prop:=0 <= j /\ j <= 1000000 /\ -(2 ^ 64) < i /\ i < 2 ^ 64
section
variable {X:Cx}
theorem op_powB:OpR X (binaryOp .Pow) (rI CPowB fun i j=>.int (i ^ j.toNat)):=opI fun i j _ _ _ _ _ hc q=>pow_int_small hc.1 hc.2.1 (by have h1:=hc.2.2.1; have h2:=hc.2.2.2; omega) q
end
theorem w_shl1 {j:Int}:CShl 1 j=(0 <= j /\ j <= 1000000):=propext ⟨fun h=>⟨h.1,h.2.1⟩,fun h=>⟨h.1,h.2,Nat.le_trans (bits_le (n:=1) (by decide)) (by decide)⟩⟩
theorem divB {i j:Int}(h:0 < j)(h2:j < 2 ^ 64):CDivB i j:=⟨h,by
 have e:j.natAbs < 2 ^ 64:=by omega
 have e2:j.natAbs ≠ 0:=by omega
 have:=(Nat.log2_lt e2).mpr e
 omega⟩
section
variable {P:Program}{w:World}{K:PySem.W.Frag}{mg:Str -> Option Value}{base:Heap}
theorem mkCal {x qual:Str}{st:Stmt}{N ps:List Str}{k:Nat}{sp:Sp}(T:∃ (f:Addr) (fd:FuncData),Fun K x qual st f fd /\ mg x=some (.ref f) /\ Binds K fd ps [])(S:FnScope N ps (defScope st))(len:∀ vs H Q E,sp vs H Q E -> vs.length=ps.length)
  (hbody:∀ (f:Addr) (cdv:Value) (A:Around) (outer:List Env) (s:Shared) (H:Hp) (vs:List V) (Q:VK) (E:XK),Room k (A.deeper (envOfC qual (defScope st) s.heap.objs.size f cdv)) -> sp vs H Q E ->
   ∃ t,PSs (cxOf CX0 P w K mg base N qual (defScope st) f cdv A outer s H E).nox (defBody st) t /\ t { nx:=fun _ H'=>Q .non H',rt:=Q } (start N vs) H):Cal P w K mg base (k+1) x ps sp:=by
 obtain ⟨f,fd,F,m,b⟩:=T
 exact ⟨f,fd,F.ok S len fun cdv A outer s H vs Q E hr h=>hbody f cdv A outer s H vs Q E hr h,m,F.kp,b⟩
end
def Chg (p:Addr)(H H':Hp):Prop:=∀ b o,b ≠ p -> H b=some o -> H' b=some o
theorem Chg.refl {p:Addr}{H:Hp}:Chg p H H:=fun _ _ _ h=>h
theorem Chg.trans {p:Addr}{H H1 H2:Hp}(a:Chg p H H1)(b:Chg p H1 H2):Chg p H H2:=fun c o n h=>b c o n (a c o n h)
theorem Same.chg {p:Addr}{H H':Hp}(h:Same H H'):Chg p H H':=fun b o _ q=>h b o q
theorem Chg.upd {p:Addr}{H:Hp}(o:HO):Chg p H (upd H p o):=fun b u n q=>by rw [upd_ne n]; exact q
theorem same_new {H:Hp}{p:Addr}(h:H p=none)(o:HO):Same H (upd H p o):=fun b u q=>by rw [upd_ne (ne_of_none q h)]; exact q
def Scr (K:PySem.W.Frag)(H:Hp)(a:Addr)(ns:List Int):Prop :=
 (∃ o,H a=some (.frz o (.lst (ns.map V.int)))) \/ (∃ (o:Obj) (its:Array Value) (n:Nat),K.lookup a=some o /\ o.cls = .type "list" /\ o.dict=none /\ o.data = .seq its n /\ its.size <= sizeLine /\ Vals (ns.map V.int) its.toList)
section
variable {K:PySem.W.Frag}{H H':Hp}{a p:Addr}{ns:List Int}
theorem Scr.sq (h:Scr K H a ns):SqL K H a (ns.map V.int):=by
 rcases h with h | h
 ·exact .inl (.inr h)
 ·exact .inr h
theorem scr_of (hO:Only H)(hS:SqL K H a (ns.map V.int)):Scr K H a ns:=by
 rcases hS with (h | h) | h
 ·rcases hO a with z | ⟨o,xs,z⟩
  ·rw [z] at h; cases h
  ·rw [z] at h; cases h
 ·exact .inl h
 ·exact .inr h
theorem Scr.same (h:Scr K H a ns)(s:Same H H'):Scr K H' a ns:=by
 rcases h with ⟨o,h⟩ | h
 ·exact .inl ⟨o,s _ _ h⟩
 ·exact .inr h
theorem Scr.chg {xs:List V}(h:Scr K H a ns)(hp:H p=some (.lst xs))(s:Chg p H H'):Scr K H' a ns:=by
 rcases h with ⟨o,h⟩ | h
 ·exact .inl ⟨o,s _ _ (ne_of h hp (by intro z; cases z)) h⟩
 ·exact .inr h
theorem Scr.chgD {kvs:List (Key × V)}(h:Scr K H a ns)(hp:H p=some (.dK kvs))(s:Chg p H H'):Scr K H' a ns:=by
 rcases h with ⟨o,h⟩ | h
 ·exact .inl ⟨o,s _ _ (ne_of h hp (by intro z; cases z)) h⟩
 ·exact .inr h
end
def spLaw (K:PySem.W.Frag):Sp:=fun vs H Q _=>∃ (a:Addr) (ns:List Int),vs=[.ref a] /\ Scr K H a ns /\ ns.length <= 63 /\ ∀ H',Q (.bl true) H'
theorem atI_int {ns:List Int}{i:Int}(h0:0 <= i)(h1:i < (ns.length:Int)):∃ v:Int,atI (ns.map V.int) i=some (.int v) /\ ns[i.toNat]? = some v:=by
 have hk:i.toNat < ns.length:=by omega
 have e:i=((i.toNat:Nat):Int):=by omega
 have q:atI (ns.map V.int) ((i.toNat:Nat):Int)=some (.int ns[i.toNat]):=atI_nat (by rw [qI,qA hk] <;> rfl)
 rw [← e] at q
 exact ⟨ns[i.toNat],q,qA hk⟩
def lim:Nat -> Int
 | 0=>11
 | n+1=>1000000 * (lim n - 1)
def rIxM:R2:=fun x y H Q=>∃ p xs i v,x = .ref p /\ y = .int i /\ H p=some (.lst xs) /\ atI xs i=some v /\ Q v H
def rIxU:R2:=fun x y H Q=>∃ p xs i v,x = .ref p /\ y = .int i /\ H p=some (.tup xs) /\ atI xs i=some v /\ Q v H
section
variable {X:Cx}
theorem IxR.mono {r r':R2}(h:IxR X r)(m:∀ x y H Q,r' x y H Q -> r x y H Q):IxR X r':=fun va sl pins s σ H x y v u Q I rx ry q hs=>h va sl pins s σ H x y v u Q I rx ry (m _ _ _ _ q) hs
theorem ix_M:IxR X rIxM:=ix_list.mono fun x y H Q ⟨p,xs,i,v,e1,e2,h,a,q⟩=>⟨p,xs,i,v,e1,e2,SqL.of h,a,q⟩
theorem ix_U:IxR X rIxU:=ix_tup.mono fun x y H Q ⟨p,xs,i,v,e1,e2,h,a,q⟩=>⟨p,xs,i,v,e1,e2,SqT.of h,a,q⟩
theorem CallR.mono {f:Value}{r r':List V -> Hp -> VK -> Prop}(h:CallR X f r)(m:∀ xs H Q,r' xs H Q -> r xs H Q):CallR X f r':=fun pins s σ H xs us Q I rx q=>h pins s σ H xs us Q I rx (m _ _ _ q)
theorem call_lenM:CallR X (.builtin "len") (fun xs H Q=>∃ p ys,xs=[.ref p] /\ H p=some (.lst ys) /\ Q (.int ys.length) H):=call_len_seq.mono fun xs H Q ⟨p,ys,e,h,q⟩=>⟨p,ys,e,.inl (SqL.of h),q⟩
theorem call_lenU:CallR X (.builtin "len") (fun xs H Q=>∃ p ys,xs=[.ref p] /\ H p=some (.tup ys) /\ Q (.int ys.length) H):=call_len_seq.mono fun xs H Q ⟨p,ys,e,h,q⟩=>⟨p,ys,e,.inr (SqT.of h),q⟩
theorem call_lenS:CallR X (.builtin "len") (fun xs H Q=>∃ p ys,xs=[.ref p] /\ SqL X.K H p ys /\ Q (.int ys.length) H):=call_len_seq.mono fun xs H Q ⟨p,ys,e,h,q⟩=>⟨p,ys,e,.inl h,q⟩
end
section
variable {H:Hp}{Q:VK}
theorem w_ixM {p:Addr}{i:Int}:rIxM (.ref p) (.int i) H Q = ∃ xs,H p=some (.lst xs) /\ ∃ v,atI xs i=some v /\ Q v H :=
 propext ⟨fun ⟨p',xs,i',v,e1,e2,h,a,q⟩=>by cases e1; cases e2; exact ⟨xs,h,v,a,q⟩,fun ⟨xs,h,v,a,q⟩=>⟨p,xs,i,v,rfl,rfl,h,a,q⟩⟩
theorem w_ixU {p:Addr}{i:Int}:rIxU (.ref p) (.int i) H Q = ∃ xs,H p=some (.tup xs) /\ ∃ v,atI xs i=some v /\ Q v H :=
 propext ⟨fun ⟨p',xs,i',v,e1,e2,h,a,q⟩=>by cases e1; cases e2; exact ⟨xs,h,v,a,q⟩,fun ⟨xs,h,v,a,q⟩=>⟨p,xs,i,v,rfl,rfl,h,a,q⟩⟩
theorem w_ixL {K:PySem.W.Frag}{p:Addr}{i:Int}:rIxL K (.ref p) (.int i) H Q = ∃ xs,SqL K H p xs /\ ∃ v,atI xs i=some v /\ Q v H :=
 propext ⟨fun ⟨p',xs,i',v,e1,e2,h,a,q⟩=>by cases e1; cases e2; exact ⟨xs,h,v,a,q⟩,fun ⟨xs,h,v,a,q⟩=>⟨p,xs,i,v,rfl,rfl,h,a,q⟩⟩
theorem w_setL {p:Addr}{k:Int}{v:V}{R:Hp -> Prop}:rSetL (.ref p) (.int k) v H R = ∃ xs,H p=some (.lst xs) /\ ∃ j,ixN xs.length k=some j /\ R (upd H p (.lst (xs.set j v))) :=
 propext ⟨fun ⟨p',xs,k',j,e1,e2,h,a,q⟩=>by cases e1; cases e2; exact ⟨xs,h,j,a,q⟩,fun ⟨xs,h,j,a,q⟩=>⟨p,xs,k,j,rfl,rfl,h,a,q⟩⟩
end
theorem at_0 {α:Type}{a:α}{l:List α}:atI (a :: l) 0=some a:=atI_nat (j:=0) rfl
theorem at_1 {α:Type}{a b:α}{l:List α}:atI (a :: b :: l) 1=some b:=atI_nat (j:=1) rfl
theorem at_2 {α:Type}{a b c:α}{l:List α}:atI (a :: b :: c :: l) 2=some c:=atI_nat (j:=2) rfl
theorem at_3 {α:Type}{a b c d:α}{l:List α}:atI (a :: b :: c :: d :: l) 3=some d:=atI_nat (j:=3) rfl
theorem ixN_0 {n:Nat}:ixN (n+1) 0=some 0:=by unfold ixN; rw [if_pos (Int.le_refl 0),if_pos (by omega)]; rfl
theorem ixN_1 {n:Nat}:ixN (n+1+1) 1=some 1:=by unfold ixN; rw [if_pos (by decide),if_pos (by omega)]; rfl
theorem ixN_2 {n:Nat}:ixN (n+1+1+1) 2=some 2:=by unfold ixN; rw [if_pos (by decide),if_pos (by omega)]; rfl
section
variable {CX:CXT}{P:Program}{w:World}{K:PySem.W.Frag}{mg:Str -> Option Value}{base:Heap}{N:List Str}{qual:Str}{scope:Scope}{f:Addr}{cd:Value}{A:Around}{outer:List Env}{s:Shared}{H:Hp}{E:XK}
theorem w_cxK:(cxOf CX P w K mg base N qual scope f cd A outer s H E).K=K:=rfl
end
theorem le_size {n:Nat}(h:n <= 1000):n <= sizeLine:=Nat.le_of_lt (small1000 h)
theorem sl_1:(0+1 <= sizeLine)=True:=eq_true (le_size (by decide))
theorem sl_2:(0+1+1 <= sizeLine)=True:=eq_true (le_size (by decide))
theorem sl_3:(0+1+1+1 <= sizeLine)=True:=eq_true (le_size (by decide))
theorem sl_4:(0+1+1+1+1 <= sizeLine)=True:=eq_true (le_size (by decide))
theorem sl_5:(0+1+1+1+1+1 <= sizeLine)=True:=eq_true (le_size (by decide))
theorem sl_6:(0+1+1+1+1+1+1 <= sizeLine)=True:=eq_true (le_size (by decide))
theorem sl_7:(0+1+1+1+1+1+1+1 <= sizeLine)=True:=eq_true (le_size (by decide))
theorem sl_8:(0+1+1+1+1+1+1+1+1 <= sizeLine)=True:=eq_true (le_size (by decide))
theorem sl_0:(0 <= sizeLine)=True:=eq_true (le_size (by decide))
theorem divq {g m:Int}(hg:0 <= g)(hm:0 < m):0 <= g / m:=Int.ediv_nonneg hg (Int.le_of_lt hm)
theorem modq {g m:Int}(hm:0 < m):0 <= g % m /\ g % m < m:=⟨Int.emod_nonneg _ (by omega),Int.emod_lt_of_pos _ hm⟩
def ForR (lo:Int)(n:Nat)(g:TG)(tb:TS)(D:Ends)(σ:St)(H:Hp):Prop:=∃ W:Nat -> Nat -> St -> Hp -> Prop,(∃ m,W 0 m σ H) /\ ∀ i m σ H,W i m σ H ->
 ((Itr lo n).stop i H /\ D.nx σ H) \/ ((Itr lo n).go i H /\ ∃ N:St -> Hp -> Prop,(∀ σ' H',N σ' H' -> ∃ m',m' < m /\ W (i+1) m' σ' H') /\ ∀ x H',(Itr lo n).yld i H x H' -> g x σ H' fun σ2 H2=>tb { D with nx:=N,ct:=N,bk:=D.nx } σ2 H2)
def ForL (K:PySem.W.Frag)(a:Addr)(g:TG)(tb:TS)(D:Ends)(σ:St)(H:Hp):Prop:=∃ W:Nat -> Nat -> St -> Hp -> Prop,(∃ m,W 0 m σ H) /\ ∀ i m σ H,W i m σ H ->
 ((Itl K a).stop i H /\ D.nx σ H) \/ ((Itl K a).go i H /\ ∃ N:St -> Hp -> Prop,(∀ σ' H',N σ' H' -> ∃ m',m' < m /\ W (i+1) m' σ' H') /\ ∀ x H',(Itl K a).yld i H x H' -> g x σ H' fun σ2 H2=>tb { D with nx:=N,ct:=N,bk:=D.nx } σ2 H2)
def ForT (K:PySem.W.Frag)(a:Addr)(g:TG)(tb:TS)(D:Ends)(σ:St)(H:Hp):Prop:=∃ W:Nat -> Nat -> St -> Hp -> Prop,(∃ m,W 0 m σ H) /\ ∀ i m σ H,W i m σ H ->
 ((Itt K a).stop i H /\ D.nx σ H) \/ ((Itt K a).go i H /\ ∃ N:St -> Hp -> Prop,(∀ σ' H',N σ' H' -> ∃ m',m' < m /\ W (i+1) m' σ' H') /\ ∀ x H',(Itt K a).yld i H x H' -> g x σ H' fun σ2 H2=>tb { D with nx:=N,ct:=N,bk:=D.nx } σ2 H2)
section
variable {σ:St}{H:Hp}{D:Ends}{g:TG}{tb:TS}{K:PySem.W.Frag}{a:Addr}
theorem w_for1 {ta:TA}:tFor (iRng1 ta) g tb D σ H=(ta σ H fun vs H1=>∃ j:Int,vs=[.int j] /\ -(2 ^ 62) <= j /\ j < 2 ^ 62 /\ ForR 0 j.toNat g tb D σ H1):=rfl
theorem w_forL {tl:TE}:tFor (iList K tl) g tb D σ H=(tl σ H fun x H1=>∃ a,x = .ref a /\ (∃ xs,SqL K H1 a xs) /\ ForL K a g tb D σ H1):=rfl
theorem w_forT {tl:TE}:tFor (iTup K tl) g tb D σ H=(tl σ H fun x H1=>∃ a,x = .ref a /\ (∃ xs,SqT K H1 a xs) /\ ForT K a g tb D σ H1):=rfl
theorem forR {lo:Int}{n:Nat}(Pv:Nat -> St -> Hp -> Prop)(h0:Pv 0 σ H)
  (hs:∀ i σ H (N:St -> Hp -> Prop),i < n -> Pv i σ H -> (∀ σ' H',Pv (i+1) σ' H' -> N σ' H') -> g (.int (lo+i)) σ H fun σ2 H2=>tb { D with nx:=N,ct:=N,bk:=D.nx } σ2 H2) (hd:∀ σ H,Pv n σ H -> D.nx σ H):ForR lo n g tb D σ H :=
 for_range Pv h0 (fun i σ H h p=>hs i σ H _ h p fun _ _ q=>q) hd
theorem forL {xs:List V}(Pv:Nat -> St -> Hp -> Prop)(h0:Pv 0 σ H)(hl:∀ i σ H,i <= xs.length -> Pv i σ H -> SqL K H a xs)
  (hs:∀ i x σ H (N:St -> Hp -> Prop),xs[i]? = some x -> Pv i σ H -> (∀ σ' H',Pv (i+1) σ' H' -> N σ' H') -> g x σ H fun σ2 H2=>tb { D with nx:=N,ct:=N,bk:=D.nx } σ2 H2) (hd:∀ σ H,Pv xs.length σ H -> D.nx σ H):ForL K a g tb D σ H:=for_list Pv h0 hl (fun i x σ H h p=>hs i x σ H _ h p fun _ _ q=>q) hd
end
theorem shl_ok {n s:Int}{k:Nat}(h0:0 <= s)(h1:s <= 1000000)(h:n.natAbs < 2 ^ k)(hk:k <= 1000000):CShl n s:=⟨h0,h1,Nat.le_trans (bits_le h) hk⟩
theorem abs_div {n:Int}{k:Nat}{d:Int}(hd:0 < d)(h:n.natAbs < 2 ^ k):(n / d).natAbs < 2 ^ k:=by
 refine Nat.lt_of_le_of_lt ?_ h
 have e1:n / d <= (n.natAbs:Int):=by
  rcases Int.lt_or_le n 0 with z | z
  ·have:=Int.ediv_neg_of_neg_of_pos z hd
   omega
  ·have:=Int.ediv_le_self d z
   omega
 have e2:-(n.natAbs:Int) <= n / d:=by
  rcases Int.lt_or_le n 0 with z | z
  ·have h1:n <= n / d:=by
    refine Int.le_ediv_of_mul_le hd ?_
    have:n * d <= n * 1:=Int.mul_le_mul_of_nonpos_left (Int.le_of_lt z) hd
    omega
   omega
  ·have:=Int.ediv_nonneg z (Int.le_of_lt hd)
   omega
 omega
theorem mid_of {t u:TS}{D:Ends}{σ:St}{H:Hp}(M:St -> Hp -> Prop)(h1:∀ N:St -> Hp -> Prop,(∀ σ H,M σ H -> N σ H) -> t { D with nx:=N } σ H)(h2:∀ σ H,M σ H -> u D σ H):tMid t u D σ H:=⟨M,h1 M fun _ _ q=>q,h2⟩
section
variable {K:PySem.W.Frag}{H:Hp}{Q:VK}
theorem isI_mk {x:V}{T:String}{t:Value}{b:Bool}(ty:TyOf K H x t)(u:∀ t',TyOf K H x t' -> t'=t)(k:PySem.W.kitOne K t (.type T)=some b):rIsI K [x,.ty T] H Q=Q (.bl b) H :=
 propext ⟨fun ⟨x',T',t',b',e,ty',k',q⟩=>by
  cases e
  rw [u _ ty',k] at k'
  cases k'
  exact q,fun q=>⟨x,T,t,b,rfl,ty,k,q⟩⟩
theorem kit_non_bool:PySem.W.kitOne K (.type "NoneType") (.type "bool")=some false:=by first | rfl | decide +kernel
theorem kit_str_bool:PySem.W.kitOne K (.type "str") (.type "bool")=some false:=by first | rfl | decide +kernel
theorem w_isI_ii {i:Int}:rIsI K [.int i,.ty "int"] H Q=Q (.bl true) H:=isI_mk (.int i) (fun _ h=>by cases h; rfl) (kit_same _)
theorem w_isI_ib {i:Int}:rIsI K [.int i,.ty "bool"] H Q=Q (.bl false) H:=isI_mk (.int i) (fun _ h=>by cases h; rfl) kit_int_bool
theorem w_isI_bi {i:Bool}:rIsI K [.bl i,.ty "int"] H Q=Q (.bl true) H:=isI_mk (.bl i) (fun _ h=>by cases h; rfl) kit_bool_int
theorem w_isI_bb {i:Bool}:rIsI K [.bl i,.ty "bool"] H Q=Q (.bl true) H:=isI_mk (.bl i) (fun _ h=>by cases h; rfl) (kit_same _)
theorem w_isI_ni:rIsI K [.non,.ty "int"] H Q=Q (.bl false) H:=isI_mk .non (fun _ h=>by cases h; rfl) kit_non_int
theorem w_isI_nb:rIsI K [.non,.ty "bool"] H Q=Q (.bl false) H:=isI_mk .non (fun _ h=>by cases h; rfl) kit_non_bool
theorem w_isI_si {x:Str}:rIsI K [.str x,.ty "int"] H Q=Q (.bl false) H:=isI_mk (.str x) (fun _ h=>by cases h; rfl) kit_str_int
theorem w_isI_sb {x:Str}:rIsI K [.str x,.ty "bool"] H Q=Q (.bl false) H:=isI_mk (.str x) (fun _ h=>by cases h; rfl) kit_str_bool
end
theorem pow_pos2 (k:Nat):(0:Int) < 2 ^ k:=Int.pow_pos (by decide)
theorem ediv_iff {n d:Int}:n / d * d=n ↔ d ∣ n:=⟨fun h=>⟨n / d,by rw [Int.mul_comm]; exact h.symm⟩,fun h=>Int.ediv_mul_cancel h⟩
end L2
set_option Elab.async false
set_option linter.all false
set_option maxRecDepth 100000
set_option maxHeartbeats 1000000
namespace L2
open PySem PySem.Spec PyProof.Rows
def closOf (scope:Scope)(env:Env):List (Str × Addr):=(scope.names.filterMap fun x=>if x.2 == .free then (env.cells.lookup x.1).map fun c=>(x.1,c) else none).reverse
theorem closureFor_ok {scope:Scope}{env:Env}(h:∀ x ∈ scope.names,x.2 = .free -> ∃ c,env.cells.lookup x.1=some c):closureFor scope env=pure (closOf scope env):=by
 unfold closureFor closOf
 have all:∀ (l:List (Str × NameKind)) (acc:List (Str × Addr)),(∀ x ∈ l,x.2 = .free -> ∃ c,env.cells.lookup x.1=some c) ->
   (forIn l acc fun x r=>(match x with | (name,kind)=>if (kind == .free)=true then do let a ← cellOf env name; pure (ForInStep.yield ((name,a) :: r)) else pure (ForInStep.yield r):Sem (ForInStep (List (Str × Addr))))) =
    pure ((l.filterMap fun x=>if x.2 == .free then (env.cells.lookup x.1).map fun c=>(x.1,c) else none).reverse ++ acc):=by
  intro l
  induction l with
  | nil=>intro acc _; simp
  | cons x r ih =>
   intro acc hx
   obtain ⟨n,k⟩:=x
   have hr:∀ y ∈ r,y.2 = .free -> ∃ c,env.cells.lookup y.1=some c:=fun y hy=>hx y (List.mem_cons_of_mem _ hy)
   by_cases hk:k = .free
   ·subst hk
    obtain ⟨c,hc⟩:=hx (n,.free) List.mem_cons_self rfl
    have e1:cellOf env n=pure c:=by unfold cellOf; rw [show env.cells.lookup n=some c from hc]
    simp only [List.forIn_cons,beq_self_eq_true,if_true,e1,pure_bind,List.filterMap_cons]
    rw [ih _ hr]
    simp [show env.cells.lookup n=some c from hc]
   ·have hb:(k == NameKind.free)=false:=by simpa using hk
    simp only [List.forIn_cons,hb,Bool.false_eq_true,if_false,pure_bind,List.filterMap_cons]
    rw [ih _ hr]
 have:=all scope.names [] h
 rw [List.append_nil] at this
 simp only [bind_pure]
 first | exact this | (rw [this]) | (simpa using this)
theorem mem_clos {scope:Scope}{env:Env}{x:Str}{c:Addr}(h:(closOf scope env).lookup x=some c):env.cells.lookup x=some c:=by
 have m:=PySem.mem_of_lookup h
 unfold closOf at m
 rw [List.mem_reverse,List.mem_filterMap] at m
 obtain ⟨y,hy,e⟩:=m
 split at e
 ·cases q:env.cells.lookup y.1 with
  | none=>rw [q] at e; cases e
  | some d =>
   rw [q] at e
   simp only [Option.map_some,Option.some.injEq,Prod.mk.injEq] at e
   rw [← e.1,q,e.2]
 ·cases e
theorem lookup_mem {α:Type}:∀ {l:List (Str × α)} {x:Str} {c:α},(x,c) ∈ l -> ∃ d,l.lookup x=some d
 | (k,v) :: r,x,c,h=>by
  rw [List.lookup_cons]
  cases hb:x == k with
  | true=>exact ⟨v,rfl⟩
  | false =>
   rcases List.mem_cons.mp h with e | e
   ·injection e with e1 e2
    subst e1
    simp at hb
   ·exact lookup_mem e
theorem clos_has {scope:Scope}{env:Env}{x:Str}{c:Addr}(h:(x,NameKind.free) ∈ scope.names)(hc:env.cells.lookup x=some c):(closOf scope env).lookup x=some c:=by
 have m:(x,c) ∈ closOf scope env:=by
  unfold closOf
  rw [List.mem_reverse,List.mem_filterMap]
  exact ⟨(x,.free),h,by simp [hc]⟩
 obtain ⟨d,hd⟩:=lookup_mem m
 have:=mem_clos hd
 rw [hc] at this
 rw [hd,← this]
theorem relabel_lookup {env:Env}:∀ {names:List (Str × NameKind)} {x:Str} {k:NameKind},
  (names.map fun (n,k)=>if (k == NameKind.free && env.scope.kind == .function && env.kindOf n == some .cell) then (n,NameKind.cell) else (n,k)).lookup x=some k ->
  ∃ k0,names.lookup x=some k0 /\ (k0=k \/ (k0 = .free /\ k = .cell))
 | [],_,_,h=>by simp at h
 | (n,k) :: r,x,k',h=>by
  simp only [List.map_cons] at h
  by_cases hc:(k == NameKind.free && env.scope.kind == .function && env.kindOf n == some .cell)=true
  ·rw [if_pos hc,List.lookup_cons] at h
   rw [List.lookup_cons]
   cases hb:x == n with
   | true =>
    rw [hb] at h
    simp only [Option.some.injEq] at h
    refine ⟨k,rfl,.inr ⟨?_,h.symm⟩⟩
    simp only [Bool.and_eq_true,beq_iff_eq] at hc
    exact hc.1.1
   | false =>
    rw [hb] at h
    exact relabel_lookup h
  ·rw [if_neg hc,List.lookup_cons] at h
   rw [List.lookup_cons]
   cases hb:x == n with
   | true =>
    rw [hb] at h
    simp only [Option.some.injEq] at h
    exact ⟨k,rfl,.inl h⟩
   | false =>
    rw [hb] at h
    exact relabel_lookup h
theorem codeAny_compLoop_gen {prog:Program}{w:World}{A:Around}{R:Result -> Shared -> Prop}{s:Shared}{elt target iter:Expr}{ifs:List Expr}{scope:Scope}{pos:Pos}{it acc:Value}{env:Env}(I:Nat -> Shared -> Prop)
  (turn:∀ n s,I n s -> wpAny (model prog w) A (pyNext it) (fun r s₁=>match r with
   | none=>R (.ok .next) s₁
   | some v=>wpAny (model prog w) A (letOwnedTupleGo target it v) (fun _ s₁'=>wpAny (model prog w) A (assign target env v) (fun _ s₂ =>
     wpAny (model prog w) A (forIn ifs true fun c r=>if r=true then do let ok ← isTrue c env (eval c env); pure (ForInStep.yield ok) else pure (ForInStep.yield r)) (fun ok s₃ =>
      if ok=true then wpAny (model prog w) A (eval elt env) (fun x s₄ =>
       wpAny (model prog w) A (call (.builtin "list.append") [acc,x]) (fun _ s₅=>∃ m,m < n /\ I m s₅) (fun _ _=>False) s₄) (fun _ _=>False) s₃
      else ∃ m,m < n /\ I m s₃) (fun _ _=>False) s₂) (fun _ _=>False) s₁') (fun _ _=>False) s₁) (fun _ _=>False) s)
  (n:Nat) (h:I n s) :
  codeAny (model prog w) A (.compLoop (.ListComp elt [⟨target,iter,ifs,0⟩] scope pos) 0 it acc env) R s:=by
 refine codeAny_loop rfl I (fun n s hI=>?_) n h
 show wpAny _ A ((compTurn (.ListComp elt [⟨target,iter,ifs,0⟩] scope pos) 0 it acc env).onRaise (fun x=>do noteFrame x env; theTreesLotGoes x)) _ _ s
 refine wpAny_noted ?_
 rw [compTurn_list]
 refine wpAny_bind (wpAny_standAt (wpAny_bind (wpAny_mono (turn n s hI) (fun r s₁ h₁=>?_) fun _ _ h'=>h'.elim)))
 cases r with
 | none=>exact wpAny_pure h₁
 | some v =>
  refine wpAny_bind (wpAny_mono h₁ (fun _ s₁' h₁'=>?_) fun _ _ h'=>h'.elim)
  refine wpAny_bind (wpAny_mono h₁' (fun _ s₂ h₂=>wpAny_bind (wpAny_mono h₂ (fun ok s₃ h₃=>?_) fun _ _ h'=>h'.elim)) fun _ _ h'=>h'.elim)
  cases ok with
  | false=>exact wpAny_pure ⟨rfl,h₃⟩
  | true =>
   exact wpAny_bind (wpAny_bind (wpAny_mono h₃ (fun x s₄ h₄=>wpAny_bind (wpAny_mono h₄ (fun _ s₅ h₅=>wpAny_pure (wpAny_pure ⟨rfl,h₅⟩)) fun _ _ h'=>h'.elim)) fun _ _ h'=>h'.elim))
def PN (X:Cx)(ifs:List Expr)(t:TT):Prop :=
 ∀ (pins:List (Addr × Obj)) (s:Shared) (σ:St) (H:Hp) (Q:Bool -> Hp -> Prop),Inv X pins σ H s -> t σ H Q ->
  wpAny (model X.prog X.w) X.A (forIn ifs true fun c r=>if r=true then do let ok ← isTrue c X.env (eval c X.env); pure (ForInStep.yield ok) else pure (ForInStep.yield r)) (TP X pins σ Q) X.xe s
def tYes:TT:=fun _ H Q=>Q true H
section
variable {X:Cx}
theorem pn_nil:PN X [] tYes:=fun _ _ σ H Q I h=>wpAny_pure ⟨H,I,h⟩
theorem pn_one {c:Expr}{t:TT}(h:PT X c t):PN X [c] t:=by
 intro pins s σ H Q I q
 refine PySem.wpAny_tests_one (h pins s σ H Q I q)
end
def compCx (X:Cx)(N:List Str)(scope:Scope)(C:Addr)(s:Shared)(H:Hp)(fp:List Addr):Cx :=
 { X with N:=N,s₀:=s,H₀:=H,env:=compEnvC scope (closOf scope X.env) C X.env,outer:=X.stack,stack:=X.stack,ex:=fp,fn:=fun _=>false,pn:=[],xe:=fun _ _=>False }
structure CompBody (X:Cx) (tg:Expr) (ifs:List Expr) (elt:Expr) (g:TG) (tt:TT) (te:TE):Prop where
 tg:PG X tg g
 tt:PN X ifs tt
 te:PE X elt te
def scB (sc xsc:Scope):Bool:=(sc.kind == .function) && sc.names.all fun x=>(x.2 != .cell) && (x.2 != .local || sc.names.lookup x.1 == some .local) && (x.2 != .free || (xsc.names.lookup x.1 == some .cell) || (xsc.names.lookup x.1 == some .free))
def capB (cs:List Nat)(ns XN:List Str)(sc xsc:Scope):Bool:=(cs.zip ns).all fun p=>(XN[p.1]? == some p.2) && (sc.names.lookup p.2 == some .free) && (xsc.names.lookup p.2 != some .local)
def capSt (nt:Nat)(cs:List Nat)(σ:St):St:=qQ nt none ++ cs.map fun c=>(σ[c]?).join
def tComp (wi:TI)(nt:Nat)(cs:List Nat)(g:TG)(tt:TT)(te:TE):TE:=fun σ H Q=>wi σ H fun J H1=>∀ acc,H1 acc=none ->
 ∃ W:Nat -> Nat -> List V -> St -> Hp -> Prop,(∃ m,W 0 m [] (capSt nt cs σ) (upd H1 acc (.lst []))) /\ ∀ i m ys σ' H',W i m ys σ' H' -> H' acc=some (.lst ys) /\
  ((J.stop i H' /\ Q (.ref acc) H') \/ (J.go i H' /\ ys.length < sizeLine /\ ∃ N:List V -> St -> Hp -> Prop,(∀ zs σ2 H2,N zs σ2 H2 -> ∃ m',m' < m /\ W (i+1) m' zs σ2 H2) /\
   ∀ x H2,J.yld i H' x H2 -> g x σ' H2 fun σ3 H3=>tt σ3 H3 fun b H4=>if b=true then te σ3 H4 fun y H5=>H5 acc=some (.lst ys) /\ N (ys ++ [y]) σ3 (upd H5 acc (.lst (ys ++ [y]))) else N ys σ3 H4))
section
variable {X:Cx}
theorem compCx_inv {pins:List (Addr × Obj)}{σ:St}{H:Hp}{s:Shared}{N:List Str}{scope:Scope}{nt:Nat}{cs:List Nat}{fp:List Addr}{h1:Heap}{tk:Nat}(I:Inv X pins σ H s)
  (hsc:scB scope X.env.scope=true) (hcap:capB cs (N.drop nt) X.N scope X.env.scope=true) (hlen:N.length=nt+cs.length)
  (hf:∀ b ∈ fp,FpOk X pins H b) (hfl:∀ b ∈ fp,b < s.heap.objs.size) (hn:h1.Ns s.heap.objs.size fun _=>none) (hk:∀ b o,s.heap.get? b=some o -> h1.get? b=some o) :
  Inv (compCx X N scope s.heap.objs.size s H fp) [] (capSt nt cs σ) H { s with heap:=h1,toks:=tk }:=by
 unfold scB at hsc
 rw [Bool.and_eq_true] at hsc
 obtain ⟨hkd,hall⟩:=hsc
 have hkd:scope.kind = .function:=by simpa using hkd
 rw [List.all_eq_true] at hall
 have nocell:∀ x ∈ scope.names,x.2 ≠ .cell:=fun x hx e=>by have:=hall x hx; rw [e] at this; simp at this
 have free2:∀ x,(x,NameKind.free) ∈ scope.names -> X.env.kindOf x=some .cell \/ X.env.kindOf x=some .free:=fun x hx=>by
  have:=hall _ hx
  simp only [bne_self_eq_false,Bool.false_or,Bool.and_eq_true,Bool.or_eq_true,beq_iff_eq] at this
  exact this.2
 have kinds:∀ x,((compCx X N scope s.heap.objs.size s H fp).env.kindOf x=some .cell \/ (compCx X N scope s.heap.objs.size s H fp).env.kindOf x=some .free) -> (x,NameKind.free) ∈ scope.names:=fun x hx=>by
  have q:∃ k,(relabel scope X.env).names.lookup x=some k /\ (k = .cell \/ k = .free):=by
   rcases hx with e | e
   ·exact ⟨_,e,.inl rfl⟩
   ·exact ⟨_,e,.inr rfl⟩
  obtain ⟨k,e,hk'⟩:=q
  obtain ⟨k0,e0,r⟩:=relabel_lookup e
  have m:=PySem.mem_of_lookup e0
  rcases r with r | ⟨r,_⟩
  ·subst r
   rcases hk' with z | z
   ·exact absurd z (nocell _ m)
   ·rw [z] at m; exact m
  ·rw [r] at m; exact m
 have cellOf:∀ x c,(closOf scope X.env).lookup x=some c -> X.env.cells.lookup x=some c:=fun x c e=>mem_clos e
 have clt:∀ x c,X.env.cells.lookup x=some c -> c < s.heap.objs.size:=fun x c e=>by
  obtain ⟨v,q⟩:=I.cell x c e
  exact q.lt
 refine ⟨⟨I.ok.mod,?_,I.ok.glob,I.ok.blt,Nat.le_refl _,?_,?_,?_,I.ok.hd,I.ok.frames,.inl rfl,?_,?_,?_,?_,?_,?_,?_⟩,rfl,I.bare,Un.kept hk,⟨_,hn,?_⟩,?_,?_,?_,?_,I.hok.kept hk,?_⟩
 ·show (relabel scope X.env).kind=_
  exact hkd
 ·intro x y c e1 e2
  exact I.ok.inj x y c (cellOf x c e1) (cellOf y c e2)
 ·intro x hx
  have m:=kinds x hx
  obtain ⟨c,hc⟩:=I.ok.has x (free2 x m)
  exact ⟨c,clos_has m hc⟩
 ·intro x c z
  cases z
 ·intro b hb
  obtain ⟨f0,f1,f2,f3,f4,f5⟩:=hf b hb
  exact ⟨Nat.ne_of_lt (hfl b hb),fun x c e=>f4 x c (cellOf x c e)⟩
 ·intro b o e
  exact I.bs b o e
 ·exact Nat.le_trans I.ok.bsz I.sz
 ·intro b o e hb
  obtain ⟨f0,f1,f2,f3,f4,f5⟩:=hf b hb
  rcases f3 with z | z
  ·exact I.ok.noex b o e z
  ·exact absurd (qJ (Heap.lt_size (I.ok.bs b o e).1) z) (Nat.lt_irrefl _)
 ·intro b hb hs
  obtain ⟨f0,f1,f2,f3,f4,f5⟩:=hf b hb
  rcases List.mem_cons.mp (I.stkSub b hs) with z | z
  ·exact f1 z
  ·exact f2 z
 ·exact I.stack
 ·exact I.stkFree
 ·intro i x v e1 e2 _
  have hi:nt <= i:=by
   refine Nat.le_of_not_lt fun z=>?_
   unfold capSt at e2
   rw [qH (by simpa using z),List.getElem?_replicate,if_pos z] at e2
   cases e2
  unfold capSt at e2
  rw [qG (by simpa using hi),qL,qI] at e2
  cases q:cs[i - nt]? with
  | none=>rw [q] at e2; cases e2
  | some c =>
   rw [q] at e2
   simp only [Option.map_some,Option.some.injEq] at e2
   have e3:σ[c]? = some (some v):=by
    cases z:σ[c]? with
    | none=>rw [z] at e2; cases e2
    | some o=>rw [z] at e2; exact congrArg some e2
   unfold capB at hcap
   rw [List.all_eq_true] at hcap
   have e4:(N.drop nt)[i - nt]? = some x:=by
    rw [List.getElem?_drop,show nt+(i - nt)=i by omega]
    exact e1
   have m:(c,x) ∈ cs.zip (N.drop nt):=by
    have:(cs.zip (N.drop nt))[i - nt]? = some (c,x):=by rw [List.getElem?_zip_eq_some]; exact ⟨q,e4⟩
    exact qE this
   have hm:=hcap _ m
   simp only [Bool.and_eq_true,beq_iff_eq,bne_iff_ne,ne_eq] at hm
   obtain ⟨⟨h1',h2'⟩,h3'⟩:=hm
   have hlk:scope.names.lookup x=some .free:=h2'
   have h2':(x,NameKind.free) ∈ scope.names:=PySem.mem_of_lookup hlk
   obtain ⟨mm,hmm,hl⟩:=I.loc
   have vis:Vis X.env.scope x:=.inr (free2 x h2')
   obtain ⟨u,r,l⟩:=hl c x v h1' e3 vis
   rcases l with ⟨z,_⟩ | ⟨z,d,hd,hcell⟩
   ·exact absurd z h3'
   ·refine ⟨u,r,.inr ⟨?_,d,clos_has h2' hd,?_⟩⟩
    ·-- its kind in the block
     have isf:∃ k,(relabel scope X.env).names.lookup x=some k:=by
      have:∃ k',(x,k') ∈ (relabel scope X.env).names:=by
       unfold relabel
       by_cases cc:(X.env.scope.kind == .function && X.env.kindOf x == some .cell)=true
       ·refine ⟨.cell,qP.mpr ⟨(x,.free),h2',?_⟩⟩
        simp only [Bool.and_eq_true] at cc
        simp [cc.1,cc.2]
       ·refine ⟨.free,qP.mpr ⟨(x,.free),h2',?_⟩⟩
        simp only [Bool.and_eq_true] at cc
        have cc':¬ ((NameKind.free == NameKind.free && X.env.scope.kind == .function && X.env.kindOf x == some .cell)=true):=by
         simp only [beq_self_eq_true,Bool.true_and,Bool.and_eq_true]
         exact cc
        show (if (NameKind.free == NameKind.free && X.env.scope.kind == .function && X.env.kindOf x == some .cell)=true then (x,NameKind.cell) else (x,NameKind.free))=(x,NameKind.free)
        rw [if_neg cc']
      obtain ⟨k',hk'⟩:=this
      exact lookup_mem hk'
     obtain ⟨k,ek⟩:=isf
     obtain ⟨k0,e0,rr⟩:=relabel_lookup ek
     rcases rr with rr | ⟨_,rr⟩
     ·subst rr
      rw [hlk] at e0
      cases e0
      exact .inr ek
     ·subst rr
      exact .inl ek
    ·obtain ⟨o,ho,hd'⟩:=hcell
     exact ⟨o,hk _ _ ho,hd'⟩
 ·intro x c e
  obtain ⟨v,o,ho,hd⟩:=I.cell x c (cellOf x c e)
  exact ⟨v,o,hk _ _ ho,hd⟩
 ·exact I.hok.fresh (Nat.le_refl _)
 ·intro x c e
  exact I.freeC x c (cellOf x c e)
 ·intro p hp
  cases hp
 ·show (capSt nt cs σ).length=N.length
  unfold capSt
  rw [qF,qL,qC,hlen]
theorem un_same {fs ex:List Addr}{H H':Hp}{h h1 h':Heap}{C:Addr}(u:Un fs ex H H' h h1)(hs:Heap.SameBut C h1 h')(hC:h.objs.size <= C):Un fs ex H H' h h' where
 keep:=fun b o e n hb hx=>(hs.2 b (Nat.ne_of_lt (qJ (Heap.lt_size e) hC))).trans (u.keep b o e n hb hx)
 slot:=fun b o e n hb hx=>by
  obtain ⟨sl,q⟩:=u.slot b o e n hb hx
  exact ⟨sl,(hs.2 b (Nat.ne_of_lt (qJ (Heap.lt_size e) hC))).trans q⟩
 free:=u.free
 there:=fun b o e hx=>by
  obtain ⟨o',q⟩:=u.there b o e hx
  exact ⟨o',(hs.2 b (Nat.ne_of_lt (qJ (Heap.lt_size e) hC))).trans q⟩
 tups:=u.tups
 frzs:=u.frzs
 tbls:=u.tbls
theorem hok_same {P:Program}{w:World}{H:Hp}{h h':Heap}{C:Addr}(x:HOk P w H h)(hs:Heap.SameBut C h h')(hC:H C=none):HOk P w H h':=fun b u e =>
 (x b u e).stay (fun c v hc q=>(hs.2 c (fun z=>by
  subst z
  rcases hc with z | z
  ·subst z; rw [hC] at e; cases e
  ·rw [hC] at z; cases z)).trans q) (fun _ q=>q) fun _ _ q=>q
theorem pe_comp0 {tg iter elt:Expr}{ifs:List Expr}{scope:Scope}{pos:Pos}{wi:TI}{N:List Str}{nt:Nat}{cs:List Nat}{g:TG}{tt:TT}{te:TE}(hc:X.calm=true)(hi:PI X tg iter wi)
  (hb:N.Nodup -> ∀ (C:Addr) (s:Shared) (H:Hp) (fp:List Addr),CompBody (compCx X N scope C s H fp) tg ifs elt g tt te)
  (hnd:N.Nodup) (hsc:scB scope X.env.scope=true) (hcap:capB cs (N.drop nt) X.N scope X.env.scope=true) (hlen:N.length=nt+cs.length)
  (hs:∀ x,foldedSetIterable iter X.env x=pure x):PE X (.ListComp elt [⟨tg,iter,ifs,0⟩] scope pos) (tComp wi nt cs g tt te):=by
 intro pins s σ H Q I h
 have hsc':=hsc
 unfold scB at hsc'
 rw [Bool.and_eq_true] at hsc'
 obtain ⟨hkd,hall⟩:=hsc'
 have hkd:scope.kind = .function:=by simpa using hkd
 rw [List.all_eq_true] at hall
 have nocell:∀ x ∈ scope.names,x.2 ≠ .cell:=fun x hx e=>by have:=hall x hx; rw [e] at this; simp at this
 have hnames:∀ x ∈ scope.names,x.2 = .local -> scope.names.lookup x.1=some .local:=fun x hx e=>by
  have:=hall x hx
  rw [e] at this
  simp only [bne_self_eq_false,Bool.false_or,Bool.and_eq_true,beq_iff_eq] at this
  exact this.1.2
 have hclos:closureFor scope X.env=pure (closOf scope X.env):=closureFor_ok fun x hx e=>by
  have:=hall x hx
  rw [e] at this
  simp only [bne_self_eq_false,Bool.false_or,Bool.and_eq_true,Bool.or_eq_true,beq_iff_eq] at this
  exact I.ok.has x.1 this.2
 rw [eval_ListComp]
 refine wpAny_comprehension_free (use:=none) rfl hs hclos hkd hnames (thn (hi pins s σ H _ I h) fun v s1 h1=>thn h1 fun itv s2 h2=>?_)
 obtain ⟨it,fp,tn,J,H2,e,I2,T,st2,f2,hR⟩:=h2
 subst e
 refine wpAny_newObj_type (wpAny_newFunctionEnv nocell (by intro y hy; simp at hy) (fun h3 hn3 hs3=>?_) hkd)
 have fr:=I2.fresh
 have I3:Inv X pins σ (upd H2 s2.heap.objs.size (.lst [])) { s2 with heap:=s2.heap.push { cls:=.type "list",data:=.seq ([]:List Value).toArray },toks:=s2.toks }:=I2.lnew .nil (le_size (by decide))
 obtain ⟨W,⟨m0,w0⟩,turn⟩:=hR _ fr
 generalize hacc:s2.heap.objs.size=acc at *
 generalize hsx:({ s2 with heap:=s2.heap.push { cls:=.type "list",data:=.seq ([]:List Value).toArray },toks:=s2.toks }:Shared)=sx at *
 have hC:sx.heap.objs.size=acc+1:=by rw [← hsx,← hacc]; exact Heap.size_push _ _
 have fpl:∀ b ∈ fp,b < acc:=fun b hb=>by
  obtain ⟨o,ho,_⟩:=T.obj _ _ st2 b hb
  rw [← hacc]
  exact Heap.lt_size ho
 have f3:∀ b ∈ fp,FpOk X pins (upd H2 acc (.lst [])) b:=fun b hb=>by
  obtain ⟨f0,f1⟩:=f2 b hb
  exact ⟨by rw [upd_ne (Nat.ne_of_lt (fpl b hb))]; exact f0,f1⟩
 have keep3:∀ b o,sx.heap.get? b=some o -> h3.get? b=some o:=fun b o e=>by
  have hne:b ≠ sx.heap.objs.size:=Nat.ne_of_lt (Heap.lt_size e)
  exact (hs3.2 b hne).trans (Heap.get?_push_of_some _ e)
 have IC:Inv (compCx X N scope sx.heap.objs.size sx (upd H2 acc (.lst [])) fp) [] (capSt nt cs σ) (upd H2 acc (.lst [])) { sx with heap:=h3,toks:=sx.toks+([]:List (Str × Value)).length } :=
  compCx_inv I3 hsc hcap hlen f3 (fun b hb=>by rw [hC]; exact Nat.lt_succ_of_lt (fpl b hb)) (by simpa using hn3) keep3
 have hn3':H2 acc=none:=fr
 generalize hXC:compCx X N scope sx.heap.objs.size sx (upd H2 acc (.lst [])) fp=XC at IC
 have ctxP:XC.prog=X.prog:=by rw [← hXC]; rfl
 have ctxW:XC.w=X.w:=by rw [← hXC]; rfl
 have ctxK:XC.K=X.K:=by rw [← hXC]; rfl
 have ctxA:XC.A=X.A:=by rw [← hXC]; rfl
 have ctxC:XC.calm=true:=by rw [← hXC]; exact hc
 have ctxX:XC.xe=fun _ _=>False:=by rw [← hXC]; rfl
 have ctxE:XC.env=compEnvC scope (closOf scope X.env) sx.heap.objs.size X.env:=by rw [← hXC]; rfl
 have body:CompBody XC tg ifs elt g tt te:=by rw [← hXC]; exact hb hnd _ _ _ _
 have st3:tn 0 h3:=T.keep _ _ _ st2 fun b hb o e=>keep3 b o (by rw [← hsx]; exact Heap.get?_push_of_some _ e)
 have stat:∀ {H':Hp},(∀ b ∈ fp,H' b=none) -> ∀ b ∈ fp,FpOk XC [] H' b:=fun hn b hb=>by
  obtain ⟨f0,f1,f2',f3',f4,f5⟩:=f3 b hb
  refine ⟨hn b hb,?_,?_,.inl (by rw [← hXC]; exact hb),fun x c e=>?_,fun p hp=>?_⟩
  ·rw [ctxE]
   exact Nat.ne_of_lt (by rw [hC]; exact Nat.lt_succ_of_lt (fpl b hb))
  ·rw [← hXC]
   intro z
   rcases List.mem_cons.mp (I3.stkSub b z) with z | z
   ·exact f1 z
   ·exact f2' z
  ·rw [ctxE] at e
   exact f4 x c (mem_clos e)
  ·rw [← hXC] at hp
   cases hp
 have fin:∀ {σ':St} {H':Hp} {s':Shared},Inv XC [] σ' H' s' -> Q (.ref acc) H' -> compPost (model X.prog X.w) X.A X.xe none (EP X pins σ Q) (.ref acc) sx.heap.objs.size (.ok .next) s':=by
  intro σ' H' s' J' q
  obtain ⟨m,hm,_⟩:=J'.loc
  have hfree:=J'.free
  rw [ctxE] at hm hfree
  refine ⟨m,hm,fun h' hs'=>⟨.ref acc,H',?_,rfl,q⟩⟩
  have u:=J'.base
  rw [← hXC] at u
  have ok:=J'.hok
  rw [ctxP,ctxW] at ok
  have os:=J'.os
  rw [← hXC] at os
  refine I3.call' (s':={ s' with heap:=h' }) os (un_same u hs' (Nat.le_refl _)) (hok_same ok hs' hfree) J'.bare fun b hb=>?_
  obtain ⟨f0,f1,f2',f3',f4,f5⟩:=f3 b hb
  exact ⟨f3',f1,f4,f5⟩
 have loop:codeAny (model X.prog X.w) X.A (.compLoop (.ListComp elt [⟨tg,iter,ifs,0⟩] scope pos) 0 (.ref it) (.ref acc) XC.env) (compPost (model X.prog X.w) X.A X.xe none (EP X pins σ Q) (.ref acc) sx.heap.objs.size)
   { sx with heap:=h3,toks:=sx.toks+([]:List (Str × Value)).length }:=by
  rw [← ctxP,← ctxW,← ctxA]
  refine codeAny_compLoop_gen (fun n s'=>∃ i ys σ' H',Inv XC [] σ' H' s' /\ tn i s'.heap /\ (∀ b ∈ fp,H' b=none) /\ W i n ys σ' H') ?_ m0 ⟨0,[],_,_,IC,st3,fun b hb=>(f3 b hb).1,w0⟩
  rintro n s3 ⟨i,ys,σ3,H3,I3',st3',fr3,w3⟩
  have T':=T
  rw [← ctxP,← ctxW,← ctxK] at T'
  obtain ⟨hacc3,alt⟩:=turn i n ys σ3 H3 w3
  rcases alt with ⟨stop,qn⟩ | ⟨go,hsz,NN,hNN,step⟩
  ·refine thn (T'.done XC rfl rfl rfl ctxC i [] s3 σ3 H3 _ I3' (stat fr3) st3' stop) fun r s4 ⟨hr,I4⟩=>?_
   subst hr
   rw [ctxP,ctxW,ctxA]
   exact fin I4 qn
  ·refine thn (T'.item XC rfl rfl rfl ctxC i [] s3 σ3 H3 _ I3' (stat fr3) st3' go) fun r s4 ⟨u,hr,h4⟩=>?_
   subst hr
   refine thn h4 fun _ s5 ⟨x,H5,I5,r5,y5,st5,fr5⟩=>?_
   have I5':=I5.pinned (stat fr5) (T'.obj _ _ st5)
   have a1:=body.tg _ s5 σ3 H5 x u _ I5' r5 (step x H5 y5)
   rw [ctxX] at a1
   refine thn a1 fun _ s6 ⟨σ6,H6,I6,q6⟩=>?_
   have a2:=body.tt _ s6 σ6 H6 _ I6 q6
   rw [ctxX] at a2
   refine thn a2 fun b s7 ⟨H7,I7,q7⟩=>?_
   have again:∀ {s8:Shared} {σ7:St} {H7:Hp} {zs:List V},Inv XC ([] ++ pinsAt fp s5.heap) σ7 H7 s8 -> NN zs σ7 H7 -> ∃ m,m < n /\ ∃ i ys σ' H',Inv XC [] σ' H' s8 /\ tn i s8.heap /\ (∀ b ∈ fp,H' b=none) /\ W i m ys σ' H':=fun {s8 σ7 H7 zs} I7 n7=>by
    obtain ⟨m',hm,w7⟩:=hNN zs σ7 H7 n7
    refine ⟨m',hm,i+1,zs,σ7,H7,I7.unpinned,T'.keep _ _ _ st5 fun b hb o e=>(I7.pin (b,o) (qK _ (qK _ (mem_pinsAt hb e)))).1,fun b hb=>?_,w7⟩
    obtain ⟨o,e,d⟩:=T'.obj _ _ st5 b hb
    exact (I7.pin (b,o) (qK _ (qK _ (mem_pinsAt hb e)))).2.1
   cases b with
   | false =>
    rw [if_neg Bool.false_ne_true] at q7 ⊢
    exact again I7 q7
   | true =>
    rw [if_pos rfl] at q7 ⊢
    have a3:=body.te _ s7 σ6 H7 _ I7 q7
    rw [ctxX] at a3
    refine thn a3 fun xv s8 ⟨y,H8,I8,r8,q8⟩=>?_
    obtain ⟨hl8,n8⟩:=q8
    have a4:=mt_append (X:=XC) _ s8 σ6 H8 (.ref acc) [y] (.ref acc) [xv] (fun _ H9=>NN (ys ++ [y]) σ6 H9) I8 rfl (.cons r8 .nil) ⟨acc,ys,y,rfl,rfl,hl8,hsz,n8⟩
    rw [ctxX] at a4
    refine thn a4 fun _ s9 ⟨_,H9,I9,_,q9⟩=>?_
    exact again I9 q9
 rw [ctxE] at loop
 exact codeAny_compStart_list loop (T.self X.A 0 _ _ _ st3 loop)
theorem ps_setComp0 {y:Str}{py spos:Pos}{ix:Nat}{tg iter elt:Expr}{ifs:List Expr}{scope:Scope}{pos:Pos}{wi:TI}{N:List Str}{nt:Nat}{cs:List Nat}{g:TG}{tt:TT}{te:TE}(hc:X.calm=true)(hi:PI X tg iter wi)
  (hb:N.Nodup -> ∀ (C:Addr) (s:Shared) (H:Hp) (fp:List Addr),CompBody (compCx X N scope C s H fp) tg ifs elt g tt te)
  (hnd:N.Nodup) (hsc:scB scope X.env.scope=true) (hcap:capB cs (N.drop nt) X.N scope X.env.scope=true) (hlen:N.length=nt+cs.length)
  (hs:∀ x,foldedSetIterable iter X.env x=pure x) (hN:X.N.Nodup) (hix:X.N[ix]? = some y) (hy:Loc X.env.scope y) (hf:X.fn y=true \/ X.env.scope.names.lookup y=some .local)
  (hsw:swapsWith (.ListComp elt [⟨tg,iter,ifs,0⟩] scope pos) (some (.Name y py)) spos.line X.env=pure true):PS X (.Assign [.Name y py] (.ListComp elt [⟨tg,iter,ifs,0⟩] scope pos) spos) (tAsg (tComp wi nt cs g tt te) (gName ix)):=by
 intro pins s σ H D I h
 have hsc':=hsc
 unfold scB at hsc'
 rw [Bool.and_eq_true] at hsc'
 obtain ⟨hkd,hall⟩:=hsc'
 have hkd:scope.kind = .function:=by simpa using hkd
 rw [List.all_eq_true] at hall
 have nocell:∀ x ∈ scope.names,x.2 ≠ .cell:=fun x hx e=>by have:=hall x hx; rw [e] at this; simp at this
 have hnames:∀ x ∈ scope.names,x.2 = .local -> scope.names.lookup x.1=some .local:=fun x hx e=>by
  have:=hall x hx
  rw [e] at this
  simp only [bne_self_eq_false,Bool.false_or,Bool.and_eq_true,beq_iff_eq] at this
  exact this.1.2
 have hclos:closureFor scope X.env=pure (closOf scope X.env):=closureFor_ok fun x hx e=>by
  have:=hall x hx
  rw [e] at this
  simp only [bne_self_eq_false,Bool.false_or,Bool.and_eq_true,Bool.or_eq_true,beq_iff_eq] at this
  exact I.ok.has x.1 this.2
 rw [exec_Assign_Name_used _ _ _ _ hsw]
 refine wpAny_bind (wpAny_standAt (wpAny_bind ?_))
 show wpAny _ X.A (do let _ ← comprehension (.ListComp elt [⟨tg,iter,ifs,0⟩] scope pos) scope X.env _ (newList []) false (eval iter X.env) (some (assign (.Name y py) X.env))) _ _ s
 refine wpAny_bind (wpAny_mono (wpAny_comprehension_free (use:=some (assign (.Name y py) X.env)) (Q:=fun _ s'=>SP X pins D .next s') rfl hs hclos hkd hnames
  (thn (hi pins s σ H _ I h) fun v s1 h1=>thn h1 fun itv s2 h2=>?_)) (fun _ s' hq=>wpAny_pure (wpAny_pure hq)) fun _ _ e=>e)
 obtain ⟨it,fp,tn,J,H2,e,I2,T,st2,f2,hR⟩:=h2
 subst e
 refine wpAny_newObj_type (wpAny_newFunctionEnv nocell (by intro y hy; simp at hy) (fun h3 hn3 hs3=>?_) hkd)
 have fr:=I2.fresh
 have I3:Inv X pins σ (upd H2 s2.heap.objs.size (.lst [])) { s2 with heap:=s2.heap.push { cls:=.type "list",data:=.seq ([]:List Value).toArray },toks:=s2.toks }:=I2.lnew .nil (le_size (by decide))
 obtain ⟨W,⟨m0,w0⟩,turn⟩:=hR _ fr
 generalize hacc:s2.heap.objs.size=acc at *
 generalize hsx:({ s2 with heap:=s2.heap.push { cls:=.type "list",data:=.seq ([]:List Value).toArray },toks:=s2.toks }:Shared)=sx at *
 have hC:sx.heap.objs.size=acc+1:=by rw [← hsx,← hacc]; exact Heap.size_push _ _
 have fpl:∀ b ∈ fp,b < acc:=fun b hb=>by
  obtain ⟨o,ho,_⟩:=T.obj _ _ st2 b hb
  rw [← hacc]
  exact Heap.lt_size ho
 have f3:∀ b ∈ fp,FpOk X pins (upd H2 acc (.lst [])) b:=fun b hb=>by
  obtain ⟨f0,f1⟩:=f2 b hb
  exact ⟨by rw [upd_ne (Nat.ne_of_lt (fpl b hb))]; exact f0,f1⟩
 have keep3:∀ b o,sx.heap.get? b=some o -> h3.get? b=some o:=fun b o e=>by
  have hne:b ≠ sx.heap.objs.size:=Nat.ne_of_lt (Heap.lt_size e)
  exact (hs3.2 b hne).trans (Heap.get?_push_of_some _ e)
 have IC:Inv (compCx X N scope sx.heap.objs.size sx (upd H2 acc (.lst [])) fp) [] (capSt nt cs σ) (upd H2 acc (.lst [])) { sx with heap:=h3,toks:=sx.toks+([]:List (Str × Value)).length } :=
  compCx_inv I3 hsc hcap hlen f3 (fun b hb=>by rw [hC]; exact Nat.lt_succ_of_lt (fpl b hb)) (by simpa using hn3) keep3
 have hn3':H2 acc=none:=fr
 generalize hXC:compCx X N scope sx.heap.objs.size sx (upd H2 acc (.lst [])) fp=XC at IC
 have ctxP:XC.prog=X.prog:=by rw [← hXC]; rfl
 have ctxW:XC.w=X.w:=by rw [← hXC]; rfl
 have ctxK:XC.K=X.K:=by rw [← hXC]; rfl
 have ctxA:XC.A=X.A:=by rw [← hXC]; rfl
 have ctxC:XC.calm=true:=by rw [← hXC]; exact hc
 have ctxX:XC.xe=fun _ _=>False:=by rw [← hXC]; rfl
 have ctxE:XC.env=compEnvC scope (closOf scope X.env) sx.heap.objs.size X.env:=by rw [← hXC]; rfl
 have body:CompBody XC tg ifs elt g tt te:=by rw [← hXC]; exact hb hnd _ _ _ _
 have st3:tn 0 h3:=T.keep _ _ _ st2 fun b hb o e=>keep3 b o (by rw [← hsx]; exact Heap.get?_push_of_some _ e)
 have stat:∀ {H':Hp},(∀ b ∈ fp,H' b=none) -> ∀ b ∈ fp,FpOk XC [] H' b:=fun hn b hb=>by
  obtain ⟨f0,f1,f2',f3',f4,f5⟩:=f3 b hb
  refine ⟨hn b hb,?_,?_,.inl (by rw [← hXC]; exact hb),fun x c e=>?_,fun p hp=>?_⟩
  ·rw [ctxE]
   exact Nat.ne_of_lt (by rw [hC]; exact Nat.lt_succ_of_lt (fpl b hb))
  ·rw [← hXC]
   intro z
   rcases List.mem_cons.mp (I3.stkSub b z) with z | z
   ·exact f1 z
   ·exact f2' z
  ·rw [ctxE] at e
   exact f4 x c (mem_clos e)
  ·rw [← hXC] at hp
   cases hp
 have fin:∀ {σ':St} {H':Hp} {s':Shared},Inv XC [] σ' H' s' -> D.nx (σ.set ix (some (.ref acc))) H' -> compPost (model X.prog X.w) X.A X.xe (some (assign (.Name y py) X.env)) (fun _ s'=>SP X pins D .next s') (.ref acc) sx.heap.objs.size (.ok .next) s':=by
  intro σ' H' s' J' q
  obtain ⟨m,hm,_⟩:=J'.loc
  have hfree:=J'.free
  rw [ctxE] at hm hfree
  have u:=J'.base
  rw [← hXC] at u
  have ok:=J'.hok
  rw [ctxP,ctxW] at ok
  have os:=J'.os
  rw [← hXC] at os
  have IX:Inv X pins σ H' s':=I3.call' os u ok J'.bare fun b hb=>by
   obtain ⟨f0,f1,f2',f3',f4,f5⟩:=f3 b hb
   exact ⟨f3',f1,f4,f5⟩
  have hCL:sx.heap.objs.size ≠ X.env.locals:=Nat.ne_of_gt I3.lt
  have hCc:∀ x c,X.env.cells.lookup x=some c -> c ≠ sx.heap.objs.size:=fun x c e=>by
   obtain ⟨v,z⟩:=I3.cell x c e
   exact Nat.ne_of_lt z.lt
  have hCp:∀ p ∈ X.pn ++ pins,p.1 ≠ sx.heap.objs.size:=fun p hp=>Nat.ne_of_lt (Heap.lt_size (I3.pin p hp).1)
  show wpAny _ X.A (assign (.Name y py) X.env (.ref acc)) _ _ s'
  refine wpAny_assign_Name (store_ok2 IX hN hix hy (v:=.ref acc) rfl (fun s'' I'' ⟨a,hsb,ha⟩=>?_) hf)
  have hCa:sx.heap.objs.size ≠ a:=fun z=>by
   rcases ha with e | e
   ·exact hCL (z.trans e)
   ·exact hCc _ _ e z.symm
  refine ⟨m,hm.sameBut hsb hCa,fun h' hs'=>⟨_,H',?_,q⟩⟩
  exact I''.turned (t':=s''.toks) (fun b o hb e=>(hs'.2 b hb).trans e) hfree hCL (.inr I3.sz) hCc hCp
 have loop:codeAny (model X.prog X.w) X.A (.compLoop (.ListComp elt [⟨tg,iter,ifs,0⟩] scope pos) 0 (.ref it) (.ref acc) XC.env) (compPost (model X.prog X.w) X.A X.xe (some (assign (.Name y py) X.env)) (fun _ s'=>SP X pins D .next s') (.ref acc) sx.heap.objs.size)
   { sx with heap:=h3,toks:=sx.toks+([]:List (Str × Value)).length }:=by
  rw [← ctxP,← ctxW,← ctxA]
  refine codeAny_compLoop_gen (fun n s'=>∃ i ys σ' H',Inv XC [] σ' H' s' /\ tn i s'.heap /\ (∀ b ∈ fp,H' b=none) /\ W i n ys σ' H') ?_ m0 ⟨0,[],_,_,IC,st3,fun b hb=>(f3 b hb).1,w0⟩
  rintro n s3 ⟨i,ys,σ3,H3,I3',st3',fr3,w3⟩
  have T':=T
  rw [← ctxP,← ctxW,← ctxK] at T'
  obtain ⟨hacc3,alt⟩:=turn i n ys σ3 H3 w3
  rcases alt with ⟨stop,qn⟩ | ⟨go,hsz,NN,hNN,step⟩
  ·refine thn (T'.done XC rfl rfl rfl ctxC i [] s3 σ3 H3 _ I3' (stat fr3) st3' stop) fun r s4 ⟨hr,I4⟩=>?_
   subst hr
   rw [ctxP,ctxW,ctxA]
   exact fin I4 qn
  ·refine thn (T'.item XC rfl rfl rfl ctxC i [] s3 σ3 H3 _ I3' (stat fr3) st3' go) fun r s4 ⟨u,hr,h4⟩=>?_
   subst hr
   refine thn h4 fun _ s5 ⟨x,H5,I5,r5,y5,st5,fr5⟩=>?_
   have I5':=I5.pinned (stat fr5) (T'.obj _ _ st5)
   have a1:=body.tg _ s5 σ3 H5 x u _ I5' r5 (step x H5 y5)
   rw [ctxX] at a1
   refine thn a1 fun _ s6 ⟨σ6,H6,I6,q6⟩=>?_
   have a2:=body.tt _ s6 σ6 H6 _ I6 q6
   rw [ctxX] at a2
   refine thn a2 fun b s7 ⟨H7,I7,q7⟩=>?_
   have again:∀ {s8:Shared} {σ7:St} {H7:Hp} {zs:List V},Inv XC ([] ++ pinsAt fp s5.heap) σ7 H7 s8 -> NN zs σ7 H7 -> ∃ m,m < n /\ ∃ i ys σ' H',Inv XC [] σ' H' s8 /\ tn i s8.heap /\ (∀ b ∈ fp,H' b=none) /\ W i m ys σ' H':=fun {s8 σ7 H7 zs} I7 n7=>by
    obtain ⟨m',hm,w7⟩:=hNN zs σ7 H7 n7
    refine ⟨m',hm,i+1,zs,σ7,H7,I7.unpinned,T'.keep _ _ _ st5 fun b hb o e=>(I7.pin (b,o) (qK _ (qK _ (mem_pinsAt hb e)))).1,fun b hb=>?_,w7⟩
    obtain ⟨o,e,d⟩:=T'.obj _ _ st5 b hb
    exact (I7.pin (b,o) (qK _ (qK _ (mem_pinsAt hb e)))).2.1
   cases b with
   | false =>
    rw [if_neg Bool.false_ne_true] at q7 ⊢
    exact again I7 q7
   | true =>
    rw [if_pos rfl] at q7 ⊢
    have a3:=body.te _ s7 σ6 H7 _ I7 q7
    rw [ctxX] at a3
    refine thn a3 fun xv s8 ⟨y,H8,I8,r8,q8⟩=>?_
    obtain ⟨hl8,n8⟩:=q8
    have a4:=mt_append (X:=XC) _ s8 σ6 H8 (.ref acc) [y] (.ref acc) [xv] (fun _ H9=>NN (ys ++ [y]) σ6 H9) I8 rfl (.cons r8 .nil) ⟨acc,ys,y,rfl,rfl,hl8,hsz,n8⟩
    rw [ctxX] at a4
    refine thn a4 fun _ s9 ⟨_,H9,I9,_,q9⟩=>?_
    exact again I9 q9
 rw [ctxE] at loop
 exact codeAny_compStart_list loop (T.self X.A 0 _ _ _ st3 loop)
end
end L2
set_option Elab.async false
set_option linter.all false
set_option maxRecDepth 100000
set_option maxHeartbeats 1000000
namespace L2
open PySem PySem.Spec PyProof.Rows
inductive Dt where
 | f (x:V)
 | l (xs:List Dt)
 | t (xs:List Dt)
mutual
def Is (K:PySem.W.Frag)(H:Hp)(x:V):Dt -> Prop
 | .f y=>x=y /\ flatV y=true
 | .l ds=>∃ p xs,x = .ref p /\ SqL K H p xs /\ IsL K H xs ds
 | .t ds=>∃ p xs,x = .ref p /\ SqT K H p xs /\ IsL K H xs ds
def IsL (K:PySem.W.Frag)(H:Hp)(xs:List V):List Dt -> Prop
 | []=>xs=[]
 | d :: ds=>∃ x r,xs=x :: r /\ Is K H x d /\ IsL K H r ds
end
mutual
def deq:Dt -> Dt -> Bool
 | .f x,.f y=>eqV x y
 | .l xs,.l ys=>deqL xs ys
 | .t xs,.t ys=>deqL xs ys
 | _,_=>false
def deqL:List Dt -> List Dt -> Bool
 | [],[]=>true
 | x :: xs,y :: ys=>deq x y && deqL xs ys
 | _,_=>false
end
mutual
def dep:Dt -> Nat
 | .f _=>0
 | .l xs=>depL xs+1
 | .t xs=>depL xs+1
def depL:List Dt -> Nat
 | []=>0
 | d :: ds=>max (dep d) (depL ds)
end
theorem IsL.len {K:PySem.W.Frag}{H:Hp}:∀ {ds:List Dt} {xs:List V},IsL K H xs ds -> xs.length=ds.length
 | [],xs,h=>by rw [IsL] at h; subst h; rfl
 | d :: ds,xs,h=>by
  rw [IsL] at h
  obtain ⟨x,r,rfl,_,h⟩:=h
  rw [List.length_cons,List.length_cons,IsL.len h]
theorem IsL.get {K:PySem.W.Frag}{H:Hp}:∀ {ds:List Dt} {xs:List V} {j:Nat} {x:V},IsL K H xs ds -> xs[j]? = some x -> ∃ d,ds[j]? = some d /\ Is K H x d
 | [],xs,j,x,h,e=>by rw [IsL] at h; subst h; simp at e
 | d :: ds,xs,j,x,h,e=>by
  rw [IsL] at h
  obtain ⟨y,r,rfl,hy,h⟩:=h
  cases j with
  | zero=>simp at e; subst e; exact ⟨d,rfl,hy⟩
  | succ j=>exact IsL.get (j:=j) h (by simpa using e)
theorem depL_mem {ds:List Dt}:∀ {d:Dt} {j:Nat},ds[j]? = some d -> dep d <= depL ds:=by
 induction ds with
 | nil=>intro d j e; simp at e
 | cons a r ih =>
  intro d j e
  rw [depL]
  cases j with
  | zero=>simp at e; subst e; omega
  | succ j=>have:=ih (d:=d) (j:=j) (by simpa using e); omega
mutual
theorem deq_refl:∀ (d:Dt) {K:PySem.W.Frag} {H:Hp} {x:V},Is K H x d -> deq d d=true
 | .f y,K,H,x,h=>by
  rw [Is] at h
  rw [deq]
  have hy:=h.2
  cases y <;> first | (simp [eqV]; done) | (exact absurd hy (by decide)) | (cases hy)
 | .l ds,K,H,x,h=>by
  rw [Is] at h
  obtain ⟨p,xs,_,_,h⟩:=h
  rw [deq]
  exact deqL_refl ds h
 | .t ds,K,H,x,h=>by
  rw [Is] at h
  obtain ⟨p,xs,_,_,h⟩:=h
  rw [deq]
  exact deqL_refl ds h
theorem deqL_refl:∀ (ds:List Dt) {K:PySem.W.Frag} {H:Hp} {xs:List V},IsL K H xs ds -> deqL ds ds=true
 | [],_,_,_,_=>by rw [deqL]
 | d :: ds,K,H,xs,h=>by
  rw [IsL] at h
  obtain ⟨y,r,_,hy,h⟩:=h
  rw [deqL,deq_refl d hy,deqL_refl ds h]
  rfl
end
theorem deqL_get:∀ {ds es:List Dt},deqL ds es=(decide (ds.length=es.length) && (List.range ds.length).all fun j=>match ds[j]?,es[j]? with | some d,some e=>deq d e | _,_=>false)
 | [],[]=>by simp [deqL]
 | [],e :: es=>by simp [deqL]
 | d :: ds,[]=>by simp [deqL]
 | d :: ds,e :: es=>by
  rw [deqL,deqL_get]
  have r:List.range (d :: ds).length=0 :: (List.range ds.length).map (· + 1):=by rw [List.length_cons,List.range_succ_eq_map]
  rw [r,List.all_cons,List.all_map]
  simp only [List.getElem?_cons_zero,List.length_cons,Nat.add_right_cancel_iff]
  have c:((fun j=>match (d :: ds)[j]?,(e :: es)[j]? with | some d,some e=>deq d e | _,_=>false) ∘ fun x=>x+1)=(fun j=>match ds[j]?,es[j]? with | some d,some e=>deq d e | _,_=>false):=by
   funext j
   simp
  rw [c]
  cases deq d e <;> cases decide (ds.length=es.length) <;> rfl
section
variable {X:Cx}{pins:List (Addr × Obj)}{σ:St}{H:Hp}{s:Shared}
mutual
theorem Is.inj:∀ (d:Dt) {e:Dt} {x:V},Inv X pins σ H s -> Is X.K H x d -> Is X.K H x e -> (∀ p xs ys,SqL X.K H p xs -> ¬ SqT X.K H p ys) -> d=e
 | .f y,e,x,I,h,h',hk=>by
  rw [Is] at h
  obtain ⟨rfl,hy⟩:=h
  cases e with
  | f z=>rw [Is] at h'; rw [h'.1]
  | l ds=>rw [Is] at h'; obtain ⟨p,xs,e,_⟩:=h'; subst e; cases hy
  | t ds=>rw [Is] at h'; obtain ⟨p,xs,e,_⟩:=h'; subst e; cases hy
 | .l ds,e,x,I,h,h',hk=>by
  rw [Is] at h
  obtain ⟨p,xs,rfl,hs,h⟩:=h
  cases e with
  | f z=>rw [Is] at h'; obtain ⟨e,hz⟩:=h'; subst e; cases hz
  | l es =>
   rw [Is] at h'
   obtain ⟨q,ys,e,hs',h'⟩:=h'
   cases e
   rw [I.list_inj hs' hs] at h'
   rw [IsL.inj ds I h h' hk]
  | t es =>
   rw [Is] at h'
   obtain ⟨q,ys,e,hs',h'⟩:=h'
   cases e
   exact absurd hs' (hk _ _ _ hs)
 | .t ds,e,x,I,h,h',hk=>by
  rw [Is] at h
  obtain ⟨p,xs,rfl,hs,h⟩:=h
  cases e with
  | f z=>rw [Is] at h'; obtain ⟨e,hz⟩:=h'; subst e; cases hz
  | l es =>
   rw [Is] at h'
   obtain ⟨q,ys,e,hs',h'⟩:=h'
   cases e
   exact absurd hs (hk _ _ _ hs')
  | t es =>
   rw [Is] at h'
   obtain ⟨q,ys,e,hs',h'⟩:=h'
   cases e
   rw [I.tuple_inj hs' hs] at h'
   rw [IsL.inj ds I h h' hk]
theorem IsL.inj:∀ (ds:List Dt) {es:List Dt} {xs:List V},Inv X pins σ H s -> IsL X.K H xs ds -> IsL X.K H xs es -> (∀ p xs ys,SqL X.K H p xs -> ¬ SqT X.K H p ys) -> ds=es
 | [],es,xs,I,h,h',hk=>by
  rw [IsL] at h
  subst h
  cases es with
  | nil=>rfl
  | cons e es=>rw [IsL] at h'; obtain ⟨_,_,e,_⟩:=h'; cases e
 | d :: ds,es,xs,I,h,h',hk=>by
  rw [IsL] at h
  obtain ⟨y,r,rfl,hy,h⟩:=h
  cases es with
  | nil=>rw [IsL] at h'; cases h'
  | cons e es =>
   rw [IsL] at h'
   obtain ⟨y',r',e1,hy',h'⟩:=h'
   cases e1
   rw [Is.inj d I hy hy' hk,IsL.inj ds I h h' hk]
end
theorem Inv.apart (I:Inv X pins σ H s):∀ p xs ys,SqL X.K H p xs -> ¬ SqT X.K H p ys:=fun p xs ys h h'=>by
 obtain ⟨its,_,⟨o,n,e,c,_⟩,_⟩:=I.list h
 obtain ⟨its',_,⟨o',e',c',_⟩,_⟩:=I.tuple h'
 rw [e] at e'
 cases e'
 rw [c] at c'
 exact absurd c' (by decide)
theorem eqAt_F {x:V}(e:Dt){A:Around}{y:V}{u v:Value}(hu:A.units < cLine)(I:Inv X pins σ H s)(fx:flatV x=true)(hy:Is X.K H y e)(rx:RelV x u)(ry:RelV y v):SeqAt.EqAt A s u v (deq (.f x) e):=by
 cases e with
 | f y' =>
  rw [Is] at hy
  obtain ⟨rfl,fy⟩:=hy
  rw [deq]
  exact eqAt_V rx ry fx fy
 | l ds =>
  rw [Is] at hy
  obtain ⟨p,ys,rfl,hs,_⟩:=hy
  cases ry
  obtain ⟨its,_,pl,_⟩:=I.list hs
  have hl:=pl.isList
  rw [show deq (.f x) (.l ds)=false by rw [deq]; all_goals (intros; simp_all)]
  cases x with
  | non=>cases rx; exact SeqAt.EqAt.none_list hl hu
  | bl b=>cases rx; exact SeqAt.EqAt.bool_list b hl hu
  | int i=>obtain ⟨t,rfl⟩:=rx; exact SeqAt.EqAt.int_list i t hl hu
  | str z=>obtain ⟨t,rfl⟩:=rx; exact SeqAt.EqAt.str_list z t hl hu
  | _=>cases fx
 | t ds =>
  rw [Is] at hy
  obtain ⟨p,ys,rfl,hs,_⟩:=hy
  cases ry
  obtain ⟨its,_,pl,_⟩:=I.tuple hs
  have hl:s.heap.IsTuple p its.toArray:=pl
  rw [show deq (.f x) (.t ds)=false by rw [deq]; all_goals (intros; simp_all)]
  cases x with
  | non=>cases rx; exact SeqAt.EqAt.none_tuple hl hu
  | bl b=>cases rx; exact SeqAt.EqAt.bool_tuple b hl hu
  | int i=>obtain ⟨t,rfl⟩:=rx; exact SeqAt.EqAt.int_tuple i t hl hu
  | str z=>obtain ⟨t,rfl⟩:=rx; exact SeqAt.EqAt.str_tuple z t hl hu
  | _=>cases fx
def deqAt (ds es:List Dt)(j:Nat):Bool:=match ds[j]?,es[j]? with | some d,some e=>deq d e | _,_=>false
theorem elems {n:Nat}{A:Around}(ih:∀ (d e:Dt) {A:Around} {x y:V} {u v:Value},dep d <= n -> A.units+n < cLine -> Inv X pins σ H s -> Is X.K H x d -> Is X.K H y e -> RelV x u -> RelV y v -> SeqAt.EqAt A s u v (deq d e))(hu:A.units+(n+1) < cLine)(I:Inv X pins σ H s)
  {ds es:List Dt} {xs ys:List V} {its its':List Value} (hd:depL ds <= n) (hx:IsL X.K H xs ds) (hy:IsL X.K H ys es) (rx:Vals xs its) (ry:Vals ys its') :
  ∀ j (h1:j < its.toArray.size) (h2:j < its'.toArray.size),SeqAt.EqAt A.in1 s its.toArray[j] its'.toArray[j] (deqAt ds es j):=by
 intro j h1 h2
 have l1:=rx.length
 have l2:=ry.length
 have k1:j < xs.length:=by simpa [l1] using h1
 have k2:j < ys.length:=by simpa [l2] using h2
 obtain ⟨d,e1,q1⟩:=hx.get (qA k1)
 obtain ⟨e,e2,q2⟩:=hy.get (qA k2)
 obtain ⟨u,hu',ru⟩:=rx.get (qA k1)
 obtain ⟨v,hv',rv⟩:=ry.get (qA k2)
 have f1:its.toArray[j]=u:=by
  have:its[j]? = some its.toArray[j]:=by simp
  rw [hu'] at this
  exact (Option.some.inj this).symm
 have f2:its'.toArray[j]=v:=by
  have:its'[j]? = some its'.toArray[j]:=by simp
  rw [hv'] at this
  exact (Option.some.inj this).symm
 rw [f1,f2]
 unfold deqAt
 rw [e1,e2]
 exact ih d e (Nat.le_trans (depL_mem e1) hd) (by rw [Around.in1_units]; omega) I q1 q2 ru rv
theorem all_deqAt {ds es:List Dt}(h:ds.length=es.length):(List.range ds.length).all (deqAt ds es)=deqL ds es:=by
 rw [deqL_get,decide_eq_true h,Bool.true_and]
 rfl
theorem deqL_ne {ds es:List Dt}(h:ds.length ≠ es.length):deqL ds es=false:=by
 rw [deqL_get,decide_eq_false h,Bool.false_and]
theorem rcAt_D:∀ (n:Nat) (d e:Dt) {A:Around} {x y:V} {u v:Value},dep d <= n -> A.units+n < cLine -> Inv X pins σ H s -> Is X.K H x d -> Is X.K H y e -> RelV x u -> RelV y v -> SeqAt.EqAt A s u v (deq d e) /\ (∀ p,x = .ref p -> SeqAt.RcAt A s u v (deq d e))
 | n,.f x',e,A,x,y,u,v,hn,hu,I,hx,hy,rx,ry=>by
  rw [Is] at hx
  obtain ⟨rfl,fx⟩:=hx
  exact ⟨eqAt_F e (by omega) I fx hy rx ry,fun p e=>by subst e; cases fx⟩
 | 0,.l ds,e,A,x,y,u,v,hn,hu,I,hx,hy,rx,ry=>by rw [dep] at hn; omega
 | 0,.t ds,e,A,x,y,u,v,hn,hu,I,hx,hy,rx,ry=>by rw [dep] at hn; omega
 | n+1,.l ds,e,A,x,y,u,v,hn,hu,I,hx,hy,rx,ry=>by
  rw [dep] at hn
  have hx0:=hx
  rw [Is] at hx
  obtain ⟨p,xs,rfl,hs,hxs⟩:=hx
  cases rx
  obtain ⟨its,rv,pl,_⟩:=I.list hs
  have hl:=pl.isList
  have hu':A.units < cLine:=by omega
  have ih:=fun (d e:Dt) {A:Around} {x y:V} {u v:Value} (a:dep d <= n) (b:A.units+n < cLine) (c:Inv X pins σ H s) (f:Is X.K H x d) (g:Is X.K H y e) (h:RelV x u) (i:RelV y v)=>(rcAt_D n d e a b c f g h i).1
  cases e with
  | f y' =>
   rw [Is] at hy
   obtain ⟨rfl,fy⟩:=hy
   rw [show deq (.l ds) (.f y)=false by rw [deq]; all_goals (intros; simp_all)]
   cases y with
   | non=>cases ry; exact ⟨SeqAt.EqAt.list_none hl hu',fun _ _=>SeqAt.RcAt.list_none hl hu'⟩
   | bl b=>cases ry; exact ⟨SeqAt.EqAt.list_bool b hl hu',fun _ _=>SeqAt.RcAt.list_bool b hl hu'⟩
   | int i=>obtain ⟨t,rfl⟩:=ry; exact ⟨SeqAt.EqAt.list_int i t hl hu',fun _ _=>SeqAt.RcAt.list_int i t hl hu'⟩
   | str z=>obtain ⟨t,rfl⟩:=ry; exact ⟨SeqAt.EqAt.list_str z t hl hu',fun _ _=>SeqAt.RcAt.list_str z t hl hu'⟩
   | _=>cases fy
  | l es =>
   have hy0:=hy
   rw [Is] at hy
   obtain ⟨q,ys,rfl,hs',hys⟩:=hy
   cases ry
   obtain ⟨its',rv',pl',_⟩:=I.list hs'
   have hl':=pl'.isList
   have e1:its.toArray.size=ds.length:=by rw [qM,← rv.length,hxs.len]
   have e2:its'.toArray.size=es.length:=by rw [qM,← rv'.length,hys.len]
   have rc:SeqAt.RcAt A s (.ref p) (.ref q) (deq (.l ds) (.l es)):=by
    rw [deq]
    by_cases hz:ds.length=es.length
    ·have:=SeqAt.RcAt.lists hl hl' (by omega) hu' (elems ih hu I (by omega) hxs hys rv rv')
     rw [e1,all_deqAt hz] at this
     exact this
    ·rw [deqL_ne hz]
     exact SeqAt.RcAt.lists_lengths hl hl' (by rw [bne_iff_ne]; omega) hu'
   refine ⟨?_,fun _ _=>rc⟩
   by_cases hpq:p=q
   ·subst hpq
    have:=Is.inj _ I hx0 hy0 I.apart
    rw [← this,deq_refl _ hx0]
    exact SeqAt.EqAt.same _
   ·exact SeqAt.EqAt.of_refs hpq rc
  | t es =>
   rw [Is] at hy
   obtain ⟨q,ys,rfl,hs',hys⟩:=hy
   cases ry
   obtain ⟨its',rv',pl',_⟩:=I.tuple hs'
   have hl':s.heap.IsTuple q its'.toArray:=pl'
   rw [show deq (.l ds) (.t es)=false by rw [deq]; all_goals (intros; simp_all)]
   exact ⟨SeqAt.EqAt.list_tuple hl hl' hu',fun _ _=>SeqAt.RcAt.list_tuple hl hl' hu'⟩
 | n+1,.t ds,e,A,x,y,u,v,hn,hu,I,hx,hy,rx,ry=>by
  rw [dep] at hn
  have hx0:=hx
  rw [Is] at hx
  obtain ⟨p,xs,rfl,hs,hxs⟩:=hx
  cases rx
  obtain ⟨its,rv,pl,_⟩:=I.tuple hs
  have hl:s.heap.IsTuple p its.toArray:=pl
  have hu':A.units < cLine:=by omega
  have ih:=fun (d e:Dt) {A:Around} {x y:V} {u v:Value} (a:dep d <= n) (b:A.units+n < cLine) (c:Inv X pins σ H s) (f:Is X.K H x d) (g:Is X.K H y e) (h:RelV x u) (i:RelV y v)=>(rcAt_D n d e a b c f g h i).1
  cases e with
  | f y' =>
   rw [Is] at hy
   obtain ⟨rfl,fy⟩:=hy
   rw [show deq (.t ds) (.f y)=false by rw [deq]; all_goals (intros; simp_all)]
   cases y with
   | non=>cases ry; exact ⟨SeqAt.EqAt.tuple_none hl hu',fun _ _=>SeqAt.RcAt.tuple_none hl hu'⟩
   | bl b=>cases ry; exact ⟨SeqAt.EqAt.tuple_bool b hl hu',fun _ _=>SeqAt.RcAt.tuple_bool b hl hu'⟩
   | int i=>obtain ⟨t,rfl⟩:=ry; exact ⟨SeqAt.EqAt.tuple_int i t hl hu',fun _ _=>SeqAt.RcAt.tuple_int i t hl hu'⟩
   | str z=>obtain ⟨t,rfl⟩:=ry; exact ⟨SeqAt.EqAt.tuple_str z t hl hu',fun _ _=>SeqAt.RcAt.tuple_str z t hl hu'⟩
   | _=>cases fy
  | l es =>
   rw [Is] at hy
   obtain ⟨q,ys,rfl,hs',hys⟩:=hy
   cases ry
   obtain ⟨its',rv',pl',_⟩:=I.list hs'
   have hl':=pl'.isList
   rw [show deq (.t ds) (.l es)=false by rw [deq]; all_goals (intros; simp_all)]
   exact ⟨SeqAt.EqAt.tuple_list hl hl' hu',fun _ _=>SeqAt.RcAt.tuple_list hl hl' hu'⟩
  | t es =>
   have hy0:=hy
   rw [Is] at hy
   obtain ⟨q,ys,rfl,hs',hys⟩:=hy
   cases ry
   obtain ⟨its',rv',pl',_⟩:=I.tuple hs'
   have hl':s.heap.IsTuple q its'.toArray:=pl'
   have e1:its.toArray.size=ds.length:=by rw [qM,← rv.length,hxs.len]
   have e2:its'.toArray.size=es.length:=by rw [qM,← rv'.length,hys.len]
   have rc:SeqAt.RcAt A s (.ref p) (.ref q) (deq (.t ds) (.t es)):=by
    rw [deq]
    have:=SeqAt.RcAt.tuples hl hl' hu' (elems ih hu I (by omega) hxs hys rv rv')
    rw [e1,e2] at this
    by_cases hz:ds.length=es.length
    ·rw [← hz,Nat.min_self,all_deqAt hz,beq_self_eq_true,Bool.and_true] at this
     exact this
    ·rw [deqL_ne hz]
     have:(ds.length == es.length)=false:=by simpa using hz
     simp_all
   refine ⟨?_,fun _ _=>rc⟩
   by_cases hpq:p=q
   ·subst hpq
    have:=Is.inj _ I hx0 hy0 I.apart
    rw [← this,deq_refl _ hx0]
    exact SeqAt.EqAt.same _
   ·exact SeqAt.EqAt.of_refs hpq rc
end
def rEqD (K:PySem.W.Frag):R2:=fun x y H Q=>∃ p d e,x = .ref p /\ Is K H x d /\ Is K H y e /\ dep d <= 50 /\ Q (.bl (deq d e)) H
def rNeD (K:PySem.W.Frag):R2:=fun x y H Q=>∃ p d e,x = .ref p /\ Is K H x d /\ Is K H y e /\ dep d <= 50 /\ Q (.bl (!deq d e)) H
section
variable {X:Cx}
theorem op_eqD {k:Nat}(hr:Room k X.A):OpR X (compareOp .Eq) (rEqD X.K):=by
 intro pins s σ H x y v u Q I rx ry h
 obtain ⟨p,d,e,rfl,hx,hy,hd,q⟩:=h
 have:=(rcAt_D 50 d e (A:=X.A) hd (by have:=hr.units; omega) I hx hy rx ry).2 p rfl
 exact this X.prog X.w X.xe _ ⟨.bl _,H,I,rfl,q⟩
end
end L2
set_option Elab.async false
set_option linter.all false
set_option maxRecDepth 100000
set_option maxHeartbeats 1000000
namespace L2
open PySem PySem.Spec PyProof.Rows
section
variable {X:Cx}{pins:List (Addr × Obj)}{σ:St}{H:Hp}{s:Shared}
theorem ih50 (n:Nat)(d e:Dt){A:Around}{x y:V}{u v:Value}(a:dep d <= n)(b:A.units+n < cLine)(c:Inv X pins σ H s)(f:Is X.K H x d)(g:Is X.K H y e)(h:RelV x u)(i:RelV y v):SeqAt.EqAt A s u v (deq d e):=(rcAt_D n d e a b c f g h i).1
theorem neAt_D (n:Nat)(d e:Dt){A:Around}{p:Addr}{y:V}{v:Value}(hn:dep d <= n+1)(hu:A.units+(n+1) < cLine)(I:Inv X pins σ H s)(hx:Is X.K H (.ref p) d)(hy:Is X.K H y e)(ry:RelV y v):SeqAt.RcNeAt A s (.ref p) v (!deq d e):=by
 have hu':A.units < cLine:=by omega
 cases d with
 | f x=>rw [Is] at hx; obtain ⟨e,hz⟩:=hx; subst e; cases hz
 | l ds =>
  rw [dep] at hn
  rw [Is] at hx
  obtain ⟨p',xs,e0,hs,hxs⟩:=hx
  cases e0
  obtain ⟨its,rv,pl,_⟩:=I.list hs
  have hl:=pl.isList
  cases e with
  | f y' =>
   rw [Is] at hy
   obtain ⟨rfl,fy⟩:=hy
   rw [show deq (.l ds) (.f y)=false by rw [deq]; all_goals (intros; simp_all)]
   cases y with
   | non=>cases ry; exact SeqAt.RcNeAt.list_none hl hu'
   | bl b=>cases ry; exact SeqAt.RcNeAt.list_bool b hl hu'
   | int i=>obtain ⟨t,rfl⟩:=ry; exact SeqAt.RcNeAt.list_int i t hl hu'
   | str z=>obtain ⟨t,rfl⟩:=ry; exact SeqAt.RcNeAt.list_str z t hl hu'
   | _=>cases fy
  | l es =>
   rw [Is] at hy
   obtain ⟨q,ys,rfl,hs',hys⟩:=hy
   cases ry
   obtain ⟨its',rv',pl',_⟩:=I.list hs'
   have hl':=pl'.isList
   have e1:its.toArray.size=ds.length:=by rw [qM,← rv.length,hxs.len]
   have e2:its'.toArray.size=es.length:=by rw [qM,← rv'.length,hys.len]
   rw [deq]
   by_cases hz:ds.length=es.length
   ·have:=SeqAt.RcNeAt.lists hl hl' (by omega) hu' (elems (ih50 n) hu I (by omega) hxs hys rv rv')
    rw [e1,all_deqAt hz] at this
    exact this
   ·rw [deqL_ne hz]
    exact SeqAt.RcNeAt.lists_lengths hl hl' (by rw [bne_iff_ne]; omega) hu'
  | t es =>
   rw [Is] at hy
   obtain ⟨q,ys,rfl,hs',hys⟩:=hy
   cases ry
   obtain ⟨its',rv',pl',_⟩:=I.tuple hs'
   have hl':s.heap.IsTuple q its'.toArray:=pl'
   rw [show deq (.l ds) (.t es)=false by rw [deq]; all_goals (intros; simp_all)]
   exact SeqAt.RcNeAt.list_tuple hl hl' hu'
 | t ds =>
  rw [dep] at hn
  rw [Is] at hx
  obtain ⟨p',xs,e0,hs,hxs⟩:=hx
  cases e0
  obtain ⟨its,rv,pl,_⟩:=I.tuple hs
  have hl:s.heap.IsTuple p its.toArray:=pl
  cases e with
  | f y' =>
   rw [Is] at hy
   obtain ⟨rfl,fy⟩:=hy
   rw [show deq (.t ds) (.f y)=false by rw [deq]; all_goals (intros; simp_all)]
   cases y with
   | non=>cases ry; exact SeqAt.RcNeAt.tuple_none hl hu'
   | bl b=>cases ry; exact SeqAt.RcNeAt.tuple_bool b hl hu'
   | int i=>obtain ⟨t,rfl⟩:=ry; exact SeqAt.RcNeAt.tuple_int i t hl hu'
   | str z=>obtain ⟨t,rfl⟩:=ry; exact SeqAt.RcNeAt.tuple_str z t hl hu'
   | _=>cases fy
  | l es =>
   rw [Is] at hy
   obtain ⟨q,ys,rfl,hs',hys⟩:=hy
   cases ry
   obtain ⟨its',rv',pl',_⟩:=I.list hs'
   have hl':=pl'.isList
   rw [show deq (.t ds) (.l es)=false by rw [deq]; all_goals (intros; simp_all)]
   exact SeqAt.RcNeAt.tuple_list hl hl' hu'
  | t es =>
   rw [Is] at hy
   obtain ⟨q,ys,rfl,hs',hys⟩:=hy
   cases ry
   obtain ⟨its',rv',pl',_⟩:=I.tuple hs'
   have hl':s.heap.IsTuple q its'.toArray:=pl'
   have e1:its.toArray.size=ds.length:=by rw [qM,← rv.length,hxs.len]
   have e2:its'.toArray.size=es.length:=by rw [qM,← rv'.length,hys.len]
   rw [deq]
   have:=SeqAt.RcNeAt.tuples hl hl' hu' (elems (ih50 n) hu I (by omega) hxs hys rv rv')
   rw [e1,e2] at this
   by_cases hz:ds.length=es.length
   ·rw [← hz,Nat.min_self,all_deqAt hz,beq_self_eq_true,Bool.and_true] at this
    exact this
   ·rw [deqL_ne hz]
    have:(ds.length == es.length)=false:=by simpa using hz
    simp_all
end
section
variable {X:Cx}
theorem op_neD {k:Nat}(hr:Room k X.A):OpR X (compareOp .NotEq) (rNeD X.K):=by
 intro pins s σ H x y v u Q I rx ry h
 obtain ⟨p,d,e,rfl,hx,hy,hd,q⟩:=h
 cases rx
 have:=neAt_D 50 d e (A:=X.A) (by omega) (by have:=hr.units; omega) I hx hy ry
 exact this X.prog X.w X.xe _ ⟨.bl _,H,I,rfl,q⟩
end
theorem isL_flat {K:PySem.W.Frag}{H:Hp}:∀ {xs:List V},xs.all flatV=true -> IsL K H xs (xs.map Dt.f)
 | [],_=>by rw [List.map_nil,IsL]
 | x :: r,h=>by
  rw [List.all_cons,Bool.and_eq_true] at h
  rw [List.map_cons,IsL]
  exact ⟨x,r,rfl,by rw [Is]; exact ⟨rfl,h.1⟩,isL_flat h.2⟩
theorem is_lst {K:PySem.W.Frag}{H:Hp}{p:Addr}{xs:List V}(h:SqL K H p xs)(f:xs.all flatV=true):Is K H (.ref p) (.l (xs.map Dt.f)):=by rw [Is]; exact ⟨p,xs,rfl,h,isL_flat f⟩
theorem is_tup {K:PySem.W.Frag}{H:Hp}{p:Addr}{xs:List V}(h:SqT K H p xs)(f:xs.all flatV=true):Is K H (.ref p) (.t (xs.map Dt.f)):=by rw [Is]; exact ⟨p,xs,rfl,h,isL_flat f⟩
theorem depL_flat:∀ {xs:List V},depL (xs.map Dt.f)=0
 | []=>by rw [List.map_nil,depL]
 | x :: r=>by rw [List.map_cons,depL,depL_flat,dep]; rfl
theorem dep_l {xs:List V}:dep (.l (xs.map Dt.f))=1:=by rw [dep,depL_flat]
theorem dep_t {xs:List V}:dep (.t (xs.map Dt.f))=1:=by rw [dep,depL_flat]
theorem flat_ints (ns:List Int):(ns.map V.int).all flatV=true:=by rw [List.all_map]; simp [flatV]
theorem deqL_ints:∀ (ns ms:List Int),deqL ((ns.map V.int).map Dt.f) ((ms.map V.int).map Dt.f)=decide (ns=ms)
 | [],[]=>by simp [deqL]
 | [],m :: ms=>by simp [deqL]
 | n :: ns,[]=>by simp [deqL]
 | n :: ns,m :: ms=>by
  rw [List.map_cons,List.map_cons,List.map_cons,List.map_cons,deqL,deqL_ints ns ms,deq]
  by_cases h1:n=m <;> by_cases h2:ns=ms <;> simp [eqV,h1,h2]
theorem deq_lints (ns ms:List Int):deq (.l ((ns.map V.int).map Dt.f)) (.l ((ms.map V.int).map Dt.f))=decide (ns=ms):=by rw [deq,deqL_ints]
theorem deq_tints (ns ms:List Int):deq (.t ((ns.map V.int).map Dt.f)) (.t ((ms.map V.int).map Dt.f))=decide (ns=ms):=by rw [deq,deqL_ints]
theorem neLI {K:PySem.W.Frag}{H:Hp}{p q:Addr}{ns ms:List Int}{Q:VK}(h1:SqL K H p (ns.map V.int))(h2:SqL K H q (ms.map V.int))(h:Q (.bl (!decide (ns=ms))) H):rNeD K (.ref p) (.ref q) H Q :=
 ⟨p,_,_,rfl,is_lst h1 (flat_ints _),is_lst h2 (flat_ints _),by rw [dep_l]; decide,by rw [deq_lints]; exact h⟩
theorem eqTI {K:PySem.W.Frag}{H:Hp}{p q:Addr}{ns ms:List Int}{Q:VK}(h1:SqT K H p (ns.map V.int))(h2:SqT K H q (ms.map V.int))(h:Q (.bl (decide (ns=ms))) H):rEqD K (.ref p) (.ref q) H Q :=
 ⟨p,_,_,rfl,is_tup h1 (flat_ints _),is_tup h2 (flat_ints _),by rw [dep_t]; decide,by rw [deq_tints]; exact h⟩
def CompIt (J:It)(nt:Nat)(cs:List Nat)(g:TG)(tt:TT)(te:TE)(σ:St)(H1:Hp)(Q:VK):Prop:=∀ acc,H1 acc=none ->
 ∃ W:Nat -> Nat -> List V -> St -> Hp -> Prop,(∃ m,W 0 m [] (capSt nt cs σ) (upd H1 acc (.lst []))) /\ ∀ i m ys σ' H',W i m ys σ' H' -> H' acc=some (.lst ys) /\
  ((J.stop i H' /\ Q (.ref acc) H') \/ (J.go i H' /\ ys.length < sizeLine /\ ∃ N:List V -> St -> Hp -> Prop,(∀ zs σ2 H2,N zs σ2 H2 -> ∃ m',m' < m /\ W (i+1) m' zs σ2 H2) /\
   ∀ x H2,J.yld i H' x H2 -> g x σ' H2 fun σ3 H3=>tt σ3 H3 fun b H4=>if b=true then te σ3 H4 fun y H5=>H5 acc=some (.lst ys) /\ N (ys ++ [y]) σ3 (upd H5 acc (.lst (ys ++ [y]))) else N ys σ3 H4))
section
variable {K:PySem.W.Frag}{σ:St}{H:Hp}{Q:VK}{nt:Nat}{cs:List Nat}{g:TG}{tt:TT}{te:TE}{a:Addr}
theorem w_compL {tl:TE}:tComp (iList K tl) nt cs g tt te σ H Q=(tl σ H fun x H1=>∃ a,x = .ref a /\ (∃ xs,SqL K H1 a xs) /\ CompIt (Itl K a) nt cs g tt te σ H1 Q):=rfl
theorem w_compT {tl:TE}:tComp (iTup K tl) nt cs g tt te σ H Q=(tl σ H fun x H1=>∃ a,x = .ref a /\ (∃ xs,SqT K H1 a xs) /\ CompIt (Itt K a) nt cs g tt te σ H1 Q):=rfl
theorem w_comp1 {ta:TA}:tComp (iRng1 ta) nt cs g tt te σ H Q=(ta σ H fun vs H1=>∃ j:Int,vs=[.int j] /\ -(2 ^ 62) <= j /\ j < 2 ^ 62 /\ CompIt (Itr 0 j.toNat) nt cs g tt te σ H1 Q):=rfl
theorem w_yes {R:Bool -> Hp -> Prop}:tYes σ H R=R true H:=rfl
def capV (cs:List Nat)(σ:St):St:=cs.map fun c=>(σ[c]?).join
theorem comp_inv {J:It}{xs:List V}(Pv:Addr -> Nat -> List V -> Hp -> Prop)(hz:xs.length <= sizeLine)
  (hgo:∀ acc i ys H',i < xs.length -> Pv acc i ys H' -> J.go i H') (hyl:∀ acc i ys H' x H2,Pv acc i ys H' -> J.yld i H' x H2 -> H2=H' /\ xs[i]? = some x) (hst:∀ acc ys H',Pv acc xs.length ys H' -> J.stop xs.length H')
  (h0:∀ acc,H acc=none -> Pv acc 0 [] (upd H acc (.lst []))) (hacc:∀ acc i ys H',Pv acc i ys H' -> H' acc=some (.lst ys) /\ ys.length <= i)
  (hs:∀ acc i ys H' x (R:Option V -> Hp -> Prop),H acc=none -> xs[i]? = some x -> Pv acc i ys H' -> (∀ y H5,H5 acc=some (.lst ys) -> Pv acc (i+1) (ys ++ [y]) (upd H5 acc (.lst (ys ++ [y]))) -> R (some y) H5) -> (∀ H5,Pv acc (i+1) ys H5 -> R none H5) ->
   tt (some x :: capV cs σ) H' fun b H4=>if b=true then te (some x :: capV cs σ) H4 fun y H5=>R (some y) H5 else R none H4)
  (hd:∀ acc ys H',H acc=none -> Pv acc xs.length ys H' -> Q (.ref acc) H'):CompIt J 1 cs (gName 0) tt te σ H Q:=by
 intro acc hn
 refine ⟨fun i m ys σ' H'=>m=xs.length - i /\ i <= xs.length /\ (∃ o,σ'=o :: capV cs σ) /\ Pv acc i ys H',⟨_,rfl,Nat.zero_le _,⟨none,rfl⟩,h0 acc hn⟩,?_⟩
 rintro i m ys σ' H' ⟨rfl,hi,⟨o,rfl⟩,p⟩
 obtain ⟨ha,hl⟩:=hacc acc i ys H' p
 refine ⟨ha,?_⟩
 by_cases hlt:i < xs.length
 ·refine .inr ⟨hgo acc i ys H' hlt p,by omega,fun zs σ2 H2=>(∃ o,σ2=o :: capV cs σ) /\ Pv acc (i+1) zs H2,fun zs σ2 H2 ⟨q1,q2⟩=>⟨xs.length - (i+1),by omega,rfl,hlt,q1,q2⟩,fun x H2 y=>?_⟩
  obtain ⟨e,hx⟩:=hyl acc i ys H' x H2 p y
  subst e
  show tt (some x :: capV cs σ) _ _
  exact hs acc i ys _ x (fun o H5=>match o with | some y=>H5 acc=some (.lst ys) /\ (∃ o,some x :: capV cs σ = o :: capV cs σ) /\ Pv acc (i+1) (ys ++ [y]) (upd H5 acc (.lst (ys ++ [y]))) | none=>(∃ o,some x :: capV cs σ = o :: capV cs σ) /\ Pv acc (i+1) ys H5) hn hx p
   (fun y H5 z1 z2=>⟨z1,⟨_,rfl⟩,z2⟩) (fun H5 z=>⟨⟨_,rfl⟩,z⟩)
 ·have e:i=xs.length:=by omega
  subst e
  exact .inl ⟨hst acc ys H' p,hd acc ys H' hn p⟩
theorem comp_pure {J:It}{xs:List V}(f:V -> Option V)(hz:xs.length <= sizeLine)
  (hJ:∀ H',Same H H' -> (∀ i,i < xs.length -> J.go i H') /\ (∀ i x H2,J.yld i H' x H2 -> H2=H' /\ (i < xs.length -> xs[i]? = some x)) /\ J.stop xs.length H')
  (hb:∀ x H' (R:Option V -> Hp -> Prop),x ∈ xs -> Same H H' -> R (f x) H' -> tt (some x :: capV cs σ) H' fun b H4=>if b=true then te (some x :: capV cs σ) H4 fun y H5=>R (some y) H5 else R none H4)
  (hd:∀ acc,H acc=none -> Q (.ref acc) (upd H acc (.lst (xs.filterMap f)))):CompIt J 1 cs (gName 0) tt te σ H Q:=by
 intro acc hn
 have sm:∀ ys,Same H (upd H acc (.lst ys)):=fun ys=>same_new hn _
 refine ⟨fun i m ys σ' H'=>m=xs.length - i /\ i <= xs.length /\ (∃ o,σ'=o :: capV cs σ) /\ ys=(xs.take i).filterMap f /\ H'=upd H acc (.lst ys),⟨_,rfl,Nat.zero_le _,⟨none,rfl⟩,by simp,rfl⟩,?_⟩
 rintro i m ys σ' H' ⟨rfl,hi,⟨o,rfl⟩,hys,rfl⟩
 refine ⟨upd_same,?_⟩
 have hl:ys.length <= i:=by
  rw [hys]
  exact Nat.le_trans (List.length_filterMap_le _ _) (by rw [qO]; omega)
 by_cases hlt:i < xs.length
 ·refine .inr ⟨(hJ _ (sm ys)).1 i hlt,by omega,fun zs σ2 H2=>(∃ o,σ2=o :: capV cs σ) /\ zs=(xs.take (i+1)).filterMap f /\ H2=upd H acc (.lst zs),fun zs σ2 H2 ⟨q1,q2,q3⟩=>⟨xs.length - (i+1),by omega,rfl,hlt,q1,q2,q3⟩,fun x H2 y=>?_⟩
  obtain ⟨e,hx⟩:=(hJ _ (sm ys)).2.1 i x H2 y
  have hx:=hx hlt
  subst e
  show tt (some x :: capV cs σ) _ _
  have tk:xs.take (i+1)=xs.take i ++ [x]:=by rw [List.take_add_one,hx]; rfl
  refine hb x _ (fun o H5=>match o with | some y=>H5 acc=some (.lst ys) /\ (∃ o,some x :: capV cs σ = o :: capV cs σ) /\ ys ++ [y]=(xs.take (i+1)).filterMap f /\ upd H5 acc (.lst (ys ++ [y]))=upd H acc (.lst (ys ++ [y])) | none=>(∃ o,some x :: capV cs σ = o :: capV cs σ) /\ ys=(xs.take (i+1)).filterMap f /\ H5=upd H acc (.lst ys)) (qE hx) (sm ys) ?_
  cases hf:f x with
  | none =>
   refine ⟨⟨_,rfl⟩,?_,rfl⟩
   rw [tk,List.filterMap_append,← hys]
   simp [hf]
  | some y =>
   refine ⟨upd_same,⟨_,rfl⟩,?_,upd_upd⟩
   rw [tk,List.filterMap_append,← hys]
   simp [hf]
 ·have e:i=xs.length:=by omega
  subst e
  rw [List.take_length] at hys
  subst hys
  exact .inl ⟨(hJ _ (sm _)).2.2,hd acc hn⟩
theorem comp_L {xs:List V}(h:SqL K H a xs)(hz:xs.length <= sizeLine)(f:V -> Option V)
  (hb:∀ x H' (R:Option V -> Hp -> Prop),x ∈ xs -> Same H H' -> R (f x) H' -> tt (some x :: capV cs σ) H' fun b H4=>if b=true then te (some x :: capV cs σ) H4 fun y H5=>R (some y) H5 else R none H4)
  (hd:∀ acc,H acc=none -> Q (.ref acc) (upd H acc (.lst (xs.filterMap f)))):CompIt (Itl K a) 1 cs (gName 0) tt te σ H Q :=
 comp_pure f hz (fun H' s=>by
  have h':=s.seq h
  exact ⟨fun i hi=>⟨xs,xs[i],h',by simp [hi]⟩,fun i x H2 y=>⟨y.1,fun _=>y.2 xs h'⟩,⟨xs,h',Nat.le_refl _⟩⟩) hb hd
theorem Same.seqT {K:PySem.W.Frag}{H H':Hp}{a:Addr}{xs:List V}(e:Same H H')(h:SqT K H a xs):SqT K H' a xs:=by
 rcases h with (h | ⟨o,h⟩) | h
 ·exact .inl (.inl (e _ _ h))
 ·exact .inl (.inr ⟨o,e _ _ h⟩)
 ·exact .inr h
theorem comp_T {xs:List V}(h:SqT K H a xs)(hz:xs.length <= sizeLine)(f:V -> Option V)
  (hb:∀ x H' (R:Option V -> Hp -> Prop),x ∈ xs -> Same H H' -> R (f x) H' -> tt (some x :: capV cs σ) H' fun b H4=>if b=true then te (some x :: capV cs σ) H4 fun y H5=>R (some y) H5 else R none H4)
  (hd:∀ acc,H acc=none -> Q (.ref acc) (upd H acc (.lst (xs.filterMap f)))):CompIt (Itt K a) 1 cs (gName 0) tt te σ H Q :=
 comp_pure f hz (fun H' s=>by
  have h':=s.seqT h
  exact ⟨fun i hi=>⟨xs,xs[i],h',by simp [hi]⟩,fun i x H2 y=>⟨y.1,fun _=>y.2 xs h'⟩,⟨xs,h',Nat.le_refl _⟩⟩) hb hd
def rngV (lo:Int)(n:Nat):List V:=(List.range n).map fun (i:Nat)=>V.int (lo+(i:Int))
theorem rngV_get {lo:Int}{n i:Nat}(h:i < n):(rngV lo n)[i]? = some (.int (lo+i)):=by unfold rngV; rw [qI,List.getElem?_range h]; rfl
theorem rngV_len {lo:Int}{n:Nat}:(rngV lo n).length=n:=by unfold rngV; rw [qC,List.length_range]
theorem comp_R {lo:Int}{n:Nat}(hz:n <= sizeLine)(f:V -> Option V)
  (hb:∀ x H' (R:Option V -> Hp -> Prop),x ∈ rngV lo n -> Same H H' -> R (f x) H' -> tt (some x :: capV cs σ) H' fun b H4=>if b=true then te (some x :: capV cs σ) H4 fun y H5=>R (some y) H5 else R none H4)
  (hd:∀ acc,H acc=none -> Q (.ref acc) (upd H acc (.lst ((rngV lo n).filterMap f)))):CompIt (Itr lo n) 1 cs (gName 0) tt te σ H Q :=
 comp_pure (xs:=rngV lo n) f (by rw [rngV_len]; exact hz) (fun H' s=>by
  rw [rngV_len]
  exact ⟨fun i hi=>hi,fun i x H2 y=>⟨y.1,fun hi=>by rw [rngV_get hi,y.2]⟩,Nat.le_refl _⟩) hb hd
end
end L2
set_option Elab.async false
set_option linter.all false
set_option maxRecDepth 100000
set_option maxHeartbeats 1000000
namespace L2
open PySem PySem.Spec PyProof.Rows
section
variable {X:Cx}
theorem vals_bools:∀ {bs:List Bool} {us:List Value},Vals (bs.map V.bl) us -> us=bs.map Value.bool
 | [],_,h=>by cases h; rfl
 | b :: r,_,h=>by
  cases h with
  | cons q t =>
   cases q
   rw [vals_bools t]
   rfl
theorem truth_bools {prog:Program}{w:World}{A:Around}{bs:List Bool}:TruthOf prog w A (fun i v=>(bs.map Value.bool).toArray[i]? = some v) (fun i=>bs.getD i true):=by
 intro i v s Q E h hq
 rw [List.getElem?_toArray,qI] at h
 cases e:bs[i]? with
 | none=>rw [e] at h; cases h
 | some b =>
  rw [e] at h
  cases h
  have:bs.getD i true=b:=by simp [List.getD,e]
  exact wpAny_truthy_bool (by rw [← this]; exact hq)
theorem all_getD:∀ (bs:List Bool),(List.range bs.length).all (fun i=>bs.getD i true)=bs.all id
 | []=>rfl
 | b :: r=>by
  rw [List.length_cons,List.range_succ_eq_map,List.all_cons,List.all_map,List.all_cons]
  have:((fun i=>(b :: r).getD i true) ∘ Nat.succ)=fun i=>r.getD i true:=by funext i; simp [List.getD]
  rw [this,all_getD r]
  rfl
def rAll:List V -> Hp -> VK -> Prop:=fun xs H Q=>∃ (p:Addr) (bs:List Bool),xs=[.ref p] /\ H p=some (.lst (bs.map V.bl)) /\ Q (.bl (bs.all id)) H
theorem walk_list {pins:List (Addr × Obj)}{σ:St}{H:Hp}{s:Shared}{p:Addr}{xs:List V}(hc:X.calm=true)(I:Inv X pins σ H s)(hp:H p=some (.lst xs)){Q:Value -> Shared -> Prop}{E:Value -> Shared -> Prop}
  (h:∀ (its:List Value),Vals xs its -> ∀ s2:Shared,s2.heap.IsListIter s.heap.objs.size p 0 /\ s2.heap.IsList p its.toArray -> (∀ b ∈ [s.heap.objs.size,p],b < s2.heap.objs.size) -> p ≠ s.heap.objs.size -> Walks X.prog X.w X.A.in1 s.heap.objs.size [s.heap.objs.size,p] [s.heap.objs.size] its.toArray.size (fun i v=>its.toArray[i]? = some v) (fun i h=>h.IsListIter s.heap.objs.size p i /\ h.IsList p its.toArray) ->
   (∀ h' tk,(∀ b o,b ∉ [s.heap.objs.size] -> s2.heap.get? b=some o -> h'.get? b=some o) -> Inv X pins σ H { s2 with heap:=h',toks:=tk }) -> Q (.ref s.heap.objs.size) s2):wpAny (model X.prog X.w) X.A.in1 (pyIter (.ref p)) Q E s:=by
 obtain ⟨its,rv,pl,_⟩:=I.list (SqL.of hp)
 have hlt:p < s.heap.objs.size:=I.hok.lt hp
 refine wpAny_pyIter_list pl.isList (h its rv _ ⟨⟨_,Heap.get?_push_size _ rfl,rfl,rfl⟩,pl.isList.push _⟩ (fun b hb=>?_) (Nat.ne_of_lt hlt) (Walks.list (A:=X.A.in1) (I.ok.hd hc) _ p (Nat.ne_of_lt hlt) its.toArray) fun h' tk hk=>?_)
 ·show b < (s.heap.push _).objs.size
  rw [Heap.size_push]
  rcases List.mem_cons.mp hb with e | e
  ·rw [e]; exact Nat.lt_succ_self _
  ·have:b=p:=by simpa using e
   rw [this]; exact Nat.lt_succ_of_lt hlt
 ·exact I.kept (h':=h') (t':=tk) fun b o e=>hk b o (by simpa using Nat.ne_of_lt (Heap.lt_size e)) (Heap.get?_push_of_some _ e)
theorem call_all (hc:X.calm=true):CallR X (.builtin "all") rAll:=by
 intro pins s σ H xs us Q I r h
 obtain ⟨p,bs,rfl,hp,q⟩:=h
 obtain ⟨u,rfl,ru⟩:=Vals.one r
 cases ru
 refine call_all_walk (walk_list hc I hp fun its rv s2 st hfp hne W hI=>?_)
 have e:=vals_bools rv
 subst e
 refine ⟨_,_,_,_,_,_,_,rfl,W,st,truth_bools,fun h' tk hk=>⟨.bl (bs.all id),H,hI h' tk hk,?_,q⟩⟩
 have:(bs.map Value.bool).toArray.size=bs.length:=by simp
 rw [this,all_getD]
 rfl
theorem vals_intItems:∀ {ns:List Int} {us:List Value},Vals (ns.map V.int) us -> ∃ xs:List (Int × Tok),us=xs.map (fun p=>Value.int p.1 p.2) /\ xs.map (·.1)=ns
 | [],_,h=>by cases h; exact ⟨[],rfl,rfl⟩
 | n :: r,_,h=>by
  cases h with
  | cons q t =>
   obtain ⟨tk,rfl⟩:=q
   obtain ⟨xs,rfl,e⟩:=vals_intItems t
   exact ⟨(n,tk) :: xs,rfl,by simp [e]⟩
def rSum:List V -> Hp -> VK -> Prop:=fun xs H Q=>∃ (p:Addr) (ns:List Int),xs=[.ref p] /\ H p=some (.lst (ns.map V.int)) /\ Q (.int ns.sum) H
theorem call_sum (hc:X.calm=true):CallR X (.builtin "sum") rSum:=by
 intro pins s σ H xs us Q I r h
 obtain ⟨p,ns,rfl,hp,q⟩:=h
 obtain ⟨u,rfl,ru⟩:=Vals.one r
 cases ru
 obtain ⟨its,rv,pl,_⟩:=I.list (SqL.of hp)
 obtain ⟨xs,rfl,e⟩:=vals_intItems rv
 have hl:s.heap.IsList p (intItems xs.toArray):=by
  have:=pl.isList
  rw [show (List.map (fun p=>Value.int p.1 p.2) xs).toArray=intItems xs.toArray by unfold intItems; simp] at this
  exact this
 refine sum_intListG (I.ok.hd hc) hl fun h' tk t' hk=>⟨.int ns.sum,H,I.kept hk,⟨t',?_⟩,q⟩
 rw [preSum_eq,List.take_of_length_le (by simp),← e]
def rBits:V -> List V -> Hp -> VK -> Prop:=fun x vs H Q=>∃ i,x = .int i /\ vs=[] /\ Q (.int (Builtin.Int.intBits i:Nat)) H
theorem mt_bits:MtR X "int.bit_length" rBits:=by
 intro pins s σ H x xs v us Q I rx rs h
 obtain ⟨i,rfl,rfl,q⟩:=h
 obtain ⟨t,rfl⟩:=rx
 cases rs
 exact call_gives slot_int_bit_length (typeIs_int s i t) entry_int_bit_length (args_int_bit_length _) (AutoIntG2.int_bit_length_int_0 i t) ⟨.int _,H,I.tok _,⟨_,rfl⟩,q⟩
theorem w_rBits {i:Int}{H:Hp}{Q:VK}:rBits (.int i) [] H Q=Q (.int (Builtin.Int.intBits i:Nat)) H:=propext ⟨fun ⟨j,e,_,q⟩=>by cases e; exact q,fun q=>⟨i,rfl,rfl,q⟩⟩
theorem w_tyInt {K:PySem.W.Frag}{i:Int}{H:Hp}:tyV K "int" (.int i) H=True:=eq_true (by first | exact rfl | (unfold tyV; rfl) | (unfold tyV; simp))
end
section
variable {K:PySem.W.Frag}{σ:St}{H:Hp}{Q:VK}
theorem w_bm {T:String}{r:V -> List V -> Hp -> VK -> Prop}{to:TE}{t:TA}:tBM K T r to t σ H Q=(to σ H fun x H1=>tyV K T x H1 /\ t σ H1 fun xs H2=>r x xs H2 Q):=rfl
theorem w_bm0 {T:String}{r:V -> List V -> Hp -> VK -> Prop}{to:TE}:tBM0 K T r to σ H Q=(to σ H fun x H1=>tyV K T x H1 /\ r x [] H1 Q):=rfl
theorem w_append {l:Addr}{y:V}:rAppend (.ref l) [y] H Q = ∃ xs,H l=some (.lst xs) /\ xs.length < sizeLine /\ Q .non (upd H l (.lst (xs ++ [y]))) :=
 propext ⟨fun ⟨l',xs,y',e1,e2,h,z,q⟩=>by cases e1; cases e2; exact ⟨xs,h,z,q⟩,fun ⟨xs,h,z,q⟩=>⟨l,xs,y,rfl,rfl,h,z,q⟩⟩
theorem ty_list {l:Addr}{xs:List V}(h:H l=some (.lst xs)):tyV K "list" (.ref l) H:=by
 first | exact .inl ⟨rfl,_,SqL.of h⟩ | (unfold tyV; exact .inl ⟨rfl,_,SqL.of h⟩)
end
end L2
set_option Elab.async false
set_option linter.all false
set_option maxRecDepth 100000
namespace L2
open PySem PySem.Spec PyProof.Rows PySem.W
theorem bits_pow (k:Nat):Builtin.Int.intBits ((2:Int) ^ k)=k+1:=by
 unfold Builtin.Int.intBits
 have p:=pow_pos2 k
 rw [if_neg (by simp; omega),Int.natAbs_pow]
 show Nat.log2 (2 ^ k)+1=k+1
 rw [Nat.log2_two_pow]
theorem odd_part:∀ (n:Nat),0 < n -> ∃ m k,n=(2 * m+1) * 2 ^ k:=by
 intro n
 induction n using Nat.strongRecOn with
 | ind n ih =>
  intro h
  by_cases e:n % 2=1
  ·exact ⟨n / 2,0,by simp; omega⟩
  ·obtain ⟨m,k,hk⟩:=ih (n / 2) (by omega) (by omega)
   exact ⟨m,k+1,by rw [Nat.pow_succ,← Nat.mul_assoc,← hk]; omega⟩
def absI (n:Int):Int:=if n < 0 then -n else n
def lowK (n:Int):Int:=(Builtin.Int.intBits (Builtin.bitAnd (absI n) (-absI n)):Int) - 1
def coreL (n:Int):List Int:=if n=0 then [0,0,0] else [absI n / 2 ^ (lowK n).toNat,lowK n,if 0 < n then 1 else -1]
theorem core_fact {n:Int}(h:n ≠ 0):∃ (m k:Nat),absI n=(2 * m+1) * 2 ^ k /\ coreL n=[2 * (m:Int)+1,(k:Int),if 0 < n then 1 else -1]:=by
 obtain ⟨m,k,e⟩:=odd_part n.natAbs (by omega)
 have ea:absI n=((n.natAbs:Nat):Int):=by unfold absI; split <;> omega
 have e1:absI n=(2 * m+1) * 2 ^ k:=by rw [ea,e,Int.natCast_mul,Int.natCast_pow]; rfl
 refine ⟨m,k,e1,?_⟩
 have e2:absI n=2 ^ k * (2 * (m:Int)+1):=by rw [e1,Int.mul_comm]
 have e3:lowK n=k:=by
  unfold lowK
  rw [e2,kbt_low,bits_pow]
  omega
 unfold coreL
 rw [if_neg h,e3,Int.toNat_natCast,e1,Int.mul_ediv_cancel _ (Int.ne_of_gt (pow_pos2 k))]
end L2
set_option Elab.async false
set_option linter.all false
set_option maxRecDepth 100000
namespace L2
open PySem PySem.Spec PyProof.Rows
def gTupM (n:Nat)(t:TGs):TG:=fun v σ H Q=>∃ a xs,v = .ref a /\ H a=some (.tup xs) /\ xs.length=n /\ t xs σ H Q
theorem pg_tupM {X:Cx}{es:List Expr}{k:Nat}{t:TGs}{pos:Pos}(n:Nat)(hc:X.calm=true)(h:PGs X es t)(hn:(assignEach es X.env).length=n:=by rfl)(hst:(assignEach es X.env).findIdx? (·.1)=none:=by rfl):PG X (.Tuple es k pos) (gTupM n t):=by
 intro pins s σ H v u Q I r hw
 obtain ⟨a,xs,e1,hq,hl,hw⟩:=hw
 exact pg_tup (X:=X) (n:=n) hc h hn hst pins s σ H v u Q I r ⟨a,xs,e1,SqT.of hq,hl,hw⟩
section
variable {K:PySem.W.Frag}{σ:St}{H:Hp}{Q:VK}{R:St -> Hp -> Prop}
theorem w_gTupM {n:Nat}{t:TGs}{a:Addr}:gTupM n t (.ref a) σ H R = ∃ xs,H a=some (.tup xs) /\ xs.length=n /\ t xs σ H R :=
 propext ⟨fun ⟨a',xs,e,h,l,q⟩=>by cases e; exact ⟨xs,h,l,q⟩,fun ⟨xs,h,l,q⟩=>⟨a,xs,rfl,h,l,q⟩⟩
theorem w_gCons {t:TG}{u:TGs}{v:V}{r:List V}:gCons t u (v :: r) σ H R=t v σ H fun σ' H'=>u r σ' H' R :=
 propext ⟨fun ⟨v',r',e,q⟩=>by cases e; exact q,fun q=>⟨v,r,rfl,q⟩⟩
theorem w_gNil:gNil [] σ H R=R σ H:=propext ⟨fun ⟨_,q⟩=>q,fun q=>⟨rfl,q⟩⟩
theorem isI_tt {t:Addr}{xs:List V}(h:H t=some (.tup xs)):rIsI K [.ref t,.ty "tuple"] H Q=Q (.bl true) H:=isI_mk (.tup h) (fun _ z=>by cases z <;> first | rfl | (rename_i e; rw [h] at e; cases e) | (rename_i e _ _ _ _ _; rw [h] at e; cases e)) (kit_same _)
theorem isI_ll {t:Addr}{xs:List V}(h:H t=some (.lst xs)):rIsI K [.ref t,.ty "list"] H Q=Q (.bl true) H:=isI_mk (.lst h) (fun _ z=>by cases z <;> first | rfl | (rename_i e; rw [h] at e; cases e) | (rename_i e _ _ _ _ _; rw [h] at e; cases e)) (kit_same _)
theorem in_tup {x:V}{t:Addr}{xs:List V}{neg:Bool}(h:H t=some (.tup xs))(fx:flatV x=true)(fs:xs.all flatV=true)(q:Q (.bl (if neg then !inV x xs else inV x xs)) H):rIn K neg x (.ref t) H Q:=⟨t,xs,rfl,.inr (SqT.of h),fx,fs,q⟩
end
end L2
set_option Elab.async false
set_option linter.all false
set_option maxRecDepth 100000
namespace L2
open PySem PySem.Spec PyProof.Rows
def rDG:R2:=fun x y H Q=>∃ a k,x = .ref a /\ y=kV k /\ ∃ kvs,H a=some (.dK kvs) /\ ∃ v,valV kvs k=some v /\ Q v H
def rDP:V -> V -> V -> Hp -> (Hp -> Prop) -> Prop:=fun x y v H R=>∃ a k,x = .ref a /\ y=kV k /\ ∃ kvs,H a=some (.dK kvs) /\ kvs.length < sizeLine /\ R (upd H a (.dK (putK kvs k v)))
def sDP (td ty tv:TE):TS:=fun D σ H=>tv σ H fun v H1=>td σ H1 fun x H2=>ty σ H2 fun y H3=>rDP x y v H3 fun H4=>D.nx σ H4
def rDI (neg:Bool):R2:=fun y x H Q=>∃ a k,x = .ref a /\ y=kV k /\ ∃ kvs,H a=some (.dK kvs) /\ Q (.bl (if neg then !(valV kvs k).isSome else (valV kvs k).isSome)) H
section
variable {X:Cx}{o i e value:Expr}{pos pos' tpos:Pos}{td ty tv:TE}
theorem pe_dgM (hu:X.A.units+1 < cLine)(ho:PE X o td)(hi:PE X i ty)(hs:NoSl i):PE X (.Subscript o i pos) (tOp rDG td ty):=by
 intro pins s σ H Q I h
 refine subD_of PySem.F.slot_dict_getitem.lookup hs (thn (ho pins s σ H _ I h) fun u s1 ⟨x,H1,I1,rx,q1⟩=>thn (hi pins s1 σ H1 _ I1 q1) fun iv s2 ⟨y,H2,I2,ry,q2⟩=>?_)
 obtain ⟨a,k,rfl,rfl,kvs,hk,v,hv,q⟩:=q2
 obtain rfl:u=Value.ref a:=rx
 have g:DGet H2 a (kV k) (some v):=by rw [← hv]; exact DGet.k hk
 exact ⟨dict_typeIs I2 g,d_getItem hu I2 g ry fun w' s3 I3 rw'=>⟨v,H2,I3,rw',q⟩⟩
theorem ps_dpM (hu:X.A.units+1 < cLine)(ho:PE X o td)(hi:PE X i ty)(hv:PE X value tv)(hs:swapsWith value (some (.Subscript o i pos')) pos.line X.env=pure false):PS X (.Assign [.Subscript o i pos'] value pos) (sDP td ty tv):=by
 intro pins s σ H D I h
 refine wpAny_Assign_Subscript (thn (hv pins s σ H _ I h) fun r s1 ⟨v,H1,I1,rv,q1⟩=>thn (ho pins s1 σ H1 _ I1 q1) fun u s2 ⟨x,H2,I2,rx,q2⟩=>thn (hi pins s2 σ H2 _ I2 q2) fun iv s3 ⟨y,H3,I3,ry,q3⟩=>?_) hs
 obtain ⟨a,k,rfl,rfl,kvs,hk,hz,q⟩:=q3
 obtain rfl:u=Value.ref a:=rx
 exact d_setItem hu I3 (DPut.k (v:=v) hk hz) ry rv fun s4 I4=>⟨σ,_,I4,q⟩
end
section
variable {σ:St}{H:Hp}{Q:VK}{D:Ends}{a:Addr}{v:V}{R:Hp -> Prop}
theorem kV_s {k:Key}{x:Str}:(V.str x=kV k)=(k = .inr x):=propext ⟨fun e=>by cases k <;> cases e; rfl,fun e=>by subst e; rfl⟩
theorem kV_i {k:Key}{x:Int}:(V.int x=kV k)=(k = .inl x):=propext ⟨fun e=>by cases k <;> cases e; rfl,fun e=>by subst e; rfl⟩
theorem w_dgS {x:Str}:rDG (.ref a) (.str x) H Q = ∃ kvs,H a=some (.dK kvs) /\ ∃ v,valV kvs (.inr x)=some v /\ Q v H :=
 propext ⟨fun ⟨a',k,e1,e2,q⟩=>by cases e1; rw [kV_s] at e2; subst e2; exact q,fun q=>⟨a,.inr x,rfl,rfl,q⟩⟩
theorem w_dgI {x:Int}:rDG (.ref a) (.int x) H Q = ∃ kvs,H a=some (.dK kvs) /\ ∃ v,valV kvs (.inl x)=some v /\ Q v H :=
 propext ⟨fun ⟨a',k,e1,e2,q⟩=>by cases e1; rw [kV_i] at e2; subst e2; exact q,fun q=>⟨a,.inl x,rfl,rfl,q⟩⟩
theorem w_sDP {td ty tv:TE}:sDP td ty tv D σ H=(tv σ H fun v H1=>td σ H1 fun x H2=>ty σ H2 fun y H3=>rDP x y v H3 fun H4=>D.nx σ H4):=rfl
theorem w_dpS {x:Str}:rDP (.ref a) (.str x) v H R = ∃ kvs,H a=some (.dK kvs) /\ kvs.length < sizeLine /\ R (upd H a (.dK (putK kvs (.inr x) v))) :=
 propext ⟨fun ⟨a',k,e1,e2,q⟩=>by cases e1; rw [kV_s] at e2; subst e2; exact q,fun q=>⟨a,.inr x,rfl,rfl,q⟩⟩
theorem w_dpI {x:Int}:rDP (.ref a) (.int x) v H R = ∃ kvs,H a=some (.dK kvs) /\ kvs.length < sizeLine /\ R (upd H a (.dK (putK kvs (.inl x) v))) :=
 propext ⟨fun ⟨a',k,e1,e2,q⟩=>by cases e1; rw [kV_i] at e2; subst e2; exact q,fun q=>⟨a,.inl x,rfl,rfl,q⟩⟩
theorem w_dII {neg:Bool}{x:Int}:rDI neg (.int x) (.ref a) H Q = ∃ kvs,H a=some (.dK kvs) /\ Q (.bl (if neg then !(valV kvs (.inl x)).isSome else (valV kvs (.inl x)).isSome)) H :=
 propext ⟨fun ⟨a',k,e1,e2,q⟩=>by cases e1; rw [kV_i] at e2; subst e2; exact q,fun q=>⟨a,.inl x,rfl,rfl,q⟩⟩
theorem w_disp {trs:List (TE × TE)}:tDisp trs σ H Q = ∀ p,H p=none -> tPairs trs σ (upd H p (.dK [])) fun ps H2=>H2 p=some (.dK []) /\ ∃ kvs:List (Key × V),ps=kvs.map (fun kv=>(kV kv.1,kv.2)) /\ kvs.length <= 15 /\ Q (.ref p) (upd H2 p (.dK (mergeK [] kvs))):=rfl
end
def penKV (a:Addr)(at_ l:Int):List (Key × V):=[(.inr "script",.ref a),(.inr "at",.int at_),(.inr "left",.int l)]
theorem pen_s {a:Addr}{t l:Int}:valV (penKV a t l) (.inr "script")=some (.ref a):=by unfold penKV; rw [valV_pos rfl]
theorem key_sa:¬ (Sum.inr "script" : Key)=(Sum.inr "at" : Key):=by decide
theorem key_sl:¬ (Sum.inr "script" : Key)=(Sum.inr "left" : Key):=by decide
theorem key_al:¬ (Sum.inr "at" : Key)=(Sum.inr "left" : Key):=by decide
theorem pen_a {a:Addr}{t l:Int}:valV (penKV a t l) (.inr "at")=some (.int t):=by unfold penKV; rw [valV_neg key_sa,valV_pos rfl]
theorem pen_l {a:Addr}{t l:Int}:valV (penKV a t l) (.inr "left")=some (.int l):=by unfold penKV; rw [valV_neg key_sl,valV_neg key_al,valV_pos rfl]
theorem pen_len {a:Addr}{t l:Int}:((penKV a t l).length < sizeLine)=True:=eq_true (qJ (by decide:3 < 1000) (le_size (by decide)))
theorem pen_pa {a:Addr}{t l x:Int}:putK (penKV a t l) (.inr "at") (.int x)=penKV a x l:=by
 unfold putK
 rw [valV_any,pen_a]
 rfl
theorem pen_pl {a:Addr}{t l x:Int}:putK (penKV a t l) (.inr "left") (.int x)=penKV a t x:=by
 unfold putK
 rw [valV_any,pen_l]
 rfl
theorem pen_mk {a:Addr}{t l:Int}:mergeK [] (penKV a t l)=penKV a t l:=by
 unfold mergeK penKV
 rfl
def Pen (H:Hp)(p a:Addr)(c:Int):Prop:=∃ t l:Int,H p=some (.dK (penKV a t l)) /\ 0 <= t /\ t <= c /\ 0 <= l
theorem Pen.mono {H:Hp}{p a:Addr}{c d:Int}(h:Pen H p a c)(l:c <= d):Pen H p a d:=by
 obtain ⟨t,x,e,h0,h1,h2⟩:=h
 exact ⟨t,x,e,h0,by omega,h2⟩
theorem Pen.same {H H':Hp}{p a:Addr}{c:Int}(h:Pen H p a c)(s:Same H H'):Pen H' p a c:=by
 obtain ⟨t,x,e,r⟩:=h
 exact ⟨t,x,s _ _ e,r⟩
theorem Pen.dK {H:Hp}{p a:Addr}{c:Int}(h:Pen H p a c):∃ kvs,H p=some (.dK kvs):=by
 obtain ⟨t,x,e,r⟩:=h
 exact ⟨_,e⟩
theorem Pen.ne {H:Hp}{p a q:Addr}{c:Int}(h:Pen H p a c)(hq:H q=none):q ≠ p:=by
 obtain ⟨xs,h⟩:=h.dK
 exact (ne_of_none h hq).symm
theorem pen_of {H:Hp}{p a:Addr}{t l c:Int}(h0:0 <= t)(h1:t <= c)(h2:0 <= l):Pen (upd H p (.dK (penKV a t l))) p a c:=⟨t,l,upd_same,h0,h1,h2⟩
theorem Scr.pen {K:PySem.W.Frag}{H H':Hp}{p a:Addr}{c:Int}{ns:List Int}(h:Scr K H a ns)(hp:Pen H p a c)(s:Chg p H H'):Scr K H' a ns:=by
 obtain ⟨kvs,e⟩:=hp.dK
 exact h.chgD e s
def spPen (K:PySem.W.Frag):Sp:=fun vs H Q _=>∃ (a:Addr),vs=[.ref a] /\ ∀ p H',H p=none -> Same H H' -> Pen H' p a 0 -> Q (.ref p) H'
def spDraw (K:PySem.W.Frag):Sp:=fun vs H Q _=>∃ (p a:Addr) (ns:List Int) (m c:Int),vs=[.ref p,.int m] /\ Pen H p a c /\ Scr K H a ns /\ ns.length <= 63 /\ c <= 1000000000 /\ 1 <= m /\ m < 2 ^ 64 /\
 ∀ (r:Int) H',0 <= r -> r < m -> Pen H' p a (c+1) -> Scr K H' a ns -> Chg p H H' -> Q (.int r) H'
theorem draw_ {K:PySem.W.Frag}{H:Hp}{p a:Addr}{ns:List Int}{m c:Int}{Q:VK}{E:XK}(hP:Pen H p a c)(hS:Scr K H a ns)(h63:ns.length <= 63)(hc:c <= 1000000000)(h1:1 <= m)(h2:m < 2 ^ 64)
  (q:∀ (r:Int) H',0 <= r -> r < m -> Pen H' p a (c+1) -> Scr K H' a ns -> Chg p H H' -> Q (.int r) H'):spDraw K [.ref p,.int m] H Q E:=⟨p,a,ns,m,c,rfl,hP,hS,h63,hc,h1,h2,q⟩
end L2
set_option Elab.async false
set_option linter.all false
set_option maxRecDepth 100000
namespace L2
open PySem PySem.Spec PyProof.Rows
def Itv (K:PySem.W.Frag)(a:Addr)(n:Nat):It :=
 ⟨fun i H=>i < n /\ ∃ xs,SqL K H a xs /\ xs.length=n,fun i H x H'=>H'=H /\ ∀ xs,SqL K H a xs -> xs.length=n -> xs[n - 1 - i]? = some x,fun i H=>i=n⟩
theorem turn_rev {P:Program}{w:World}{K:PySem.W.Frag}{tg:Expr}(a it:Addr)(n:Nat):Turn P w K tg (Itv K a n) [it] it (fun i h=>i <= n /\ h.IsRevIter it a ((n:Int) - 1 - (i:Int))) where
 mem:=by simp
 obj:=fun i h st b hb=>by
  have e:b=it:=by simpa using hb
  subst e
  obtain ⟨_,o,e,c,d⟩:=st
  exact ⟨o,e,fun v z=>by rw [d] at z; cases z⟩
 keep:=fun i h h' st k=>⟨st.1,st.2.at fun o e=>k it (by simp) o e⟩
 item:=by
  intro X hP hw hK hc i pins s σ H E I hf st hg
  subst hP hw hK
  obtain ⟨hi,xs,hq,hn⟩:=hg
  obtain ⟨its,rv,p,hz⟩:=I.list hq
  have hlt:n - 1 - i < xs.length:=by omega
  obtain ⟨u,hu,ru⟩:=rv.get (qA hlt)
  obtain ⟨f0,f1,f2,f3,f4,f5⟩:=hf it (by simp)
  have e1:(n:Int) - 1 - (i:Int)=((n - 1 - i:Nat):Int):=by omega
  have st2:=st.2
  rw [e1] at st2
  refine wpAny_pyNext_rev_item st2 p.isList (x:=u) (by simpa using hu) fun h' st' sb=>?_
  have I1:Inv X pins σ H { s with heap:=h' }:=I.turned (t':=s.toks) (fun b o hb e=>(sb.2 b hb).trans e) f0 f1 f3 f4 f5
  obtain ⟨o,e,c,d⟩:=id st'
  have e2:((n - 1 - i:Nat):Int) - 1=(n:Int) - 1 - ((i+1:Nat):Int):=by omega
  rw [e2] at st'
  exact ⟨u,rfl,go_of (s:={ s with heap:=h' }) e c d (by decide) ⟨xs[n - 1 - i],H,I1,ru,⟨rfl,fun ys hy _=>by rw [I.list_inj hy hq]; exact qA hlt⟩,⟨hi,st'⟩,fun b hb=>(hf b hb).1⟩⟩
 done:=by
  intro X hP hw hK hc i pins s σ H E I hf st hg
  subst hP hw hK
  obtain ⟨f0,f1,f2,f3,f4,f5⟩:=hf it (by simp)
  have hg:i=n:=hg
  have st2:=st.2
  rw [show (n:Int) - 1 - (i:Int) = -1 by omega] at st2
  exact wpAny_pyNext_rev_end (I.ok.hd hc) st2 fun h' eb=>⟨rfl,I.turned (t':=s.toks) (fun b o hb e=>eb b o hb e) f0 f1 f3 f4 f5⟩
 self:=fun _ _ _ _ _ st h=>wpAny_pyIter_revIter st.2 h
def iRev (K:PySem.W.Frag)(ta:TA):TI:=fun σ H R=>ta σ H fun vs H1=>∃ a xs,vs=[.ref a] /\ SqL K H1 a xs /\ R (Itv K a xs.length) H1
theorem pi_rev {X:Cx} {tg a:Expr} {ta:TA} {p pos:Pos} (hg:Gl X "reversed") (hm:X.mg "reversed" = none) (ha:PA X [a] ta) (hs:starEach [a] X.env=[(false,eval a X.env)]:=by rfl):PI X tg (.Call (.Name "reversed" p) [a] [] pos) (iRev X.K ta):=by
 intro pins s σ H R I h
 refine Call_ (ld_blt I hg hm bo_reversed (PyProof.Rows.callWith_type1 (thn (ha pos pins s σ H _ I h) fun us s1 ⟨vs,H1,I1,r1,q1⟩=>?_) hs rfl))
 obtain ⟨l,xs,e,hq,q⟩:=q1
 subst e
 obtain ⟨u,rfl,ru⟩:=Vals.one r1
 cases ru
 obtain ⟨its,rv,pl,hz⟩:=I1.list hq
 have hlen:its.toArray.size=xs.length:=by rw [qM,rv.length]
 refine call_reversed_list pl.isList ?_
 rw [hlen]
 have I2:Inv X pins σ H1 { s1 with heap:=s1.heap.push (revObj l ((xs.length:Int) - 1)) }:=I1.kept (t':=s1.toks) fun b o e=>Heap.get?_push_of_some _ e
 have st:(s1.heap.push (revObj l ((xs.length:Int) - 1))).IsRevIter s1.heap.objs.size l ((xs.length:Int) - 1 - ((0:Nat):Int)):=by
  rw [show (xs.length:Int) - 1 - ((0:Nat):Int)=(xs.length:Int) - 1 by omega]
  exact ⟨_,Heap.get?_push_size _ rfl,rfl,rfl⟩
 refine wpAny_pyIter_revIter st ?_
 refine ⟨s1.heap.objs.size,[s1.heap.objs.size],_,_,H1,rfl,I2,turn_rev l _ xs.length,⟨Nat.zero_le _,st⟩,fun b hb=>?_,q⟩
 have e:b=s1.heap.objs.size:=by simpa using hb
 subst e
 exact I1.fpOk (Nat.le_refl _) (I1.hok.fresh (Nat.le_refl _))
def ForV (K:PySem.W.Frag)(a:Addr)(n:Nat)(g:TG)(tb:TS)(D:Ends)(σ:St)(H:Hp):Prop:=∃ W:Nat -> Nat -> St -> Hp -> Prop,(∃ m,W 0 m σ H) /\ ∀ i m σ H,W i m σ H ->
 ((Itv K a n).stop i H /\ D.nx σ H) \/ ((Itv K a n).go i H /\ ∃ N:St -> Hp -> Prop,(∀ σ' H',N σ' H' -> ∃ m',m' < m /\ W (i+1) m' σ' H') /\ ∀ x H',(Itv K a n).yld i H x H' -> g x σ H' fun σ2 H2=>tb { D with nx:=N,ct:=N,bk:=D.nx } σ2 H2)
section
variable {σ:St}{H:Hp}{D:Ends}{g:TG}{tb:TS}{K:PySem.W.Frag}{a:Addr}
theorem w_forV {ta:TA}:tFor (iRev K ta) g tb D σ H=(ta σ H fun vs H1=>∃ a xs,vs=[.ref a] /\ SqL K H1 a xs /\ ForV K a xs.length g tb D σ H1):=rfl
theorem forV {xs:List V}(Pv:Nat -> St -> Hp -> Prop)(h0:Pv 0 σ H)(hl:∀ i σ H,i <= xs.length -> Pv i σ H -> SqL K H a xs)
  (hs:∀ i x σ H (N:St -> Hp -> Prop),xs.reverse[i]? = some x -> Pv i σ H -> (∀ σ' H',Pv (i+1) σ' H' -> N σ' H') -> g x σ H fun σ2 H2=>tb { D with nx:=N,ct:=N,bk:=D.nx } σ2 H2) (hd:∀ σ H,Pv xs.length σ H -> D.nx σ H):ForV K a xs.length g tb D σ H:=by
 refine ⟨fun i m σ H=>m=xs.length - i /\ i <= xs.length /\ Pv i σ H,⟨xs.length,by simp,Nat.zero_le _,h0⟩,?_⟩
 rintro i m σ H ⟨rfl,hi,p⟩
 have q:=hl i σ H hi p
 by_cases hlt:i < xs.length
 ·refine .inr ⟨⟨hlt,xs,q,rfl⟩,Pv (i+1),fun σ' H' p'=>⟨xs.length - (i+1),by omega,rfl,hlt,p'⟩,fun x H' y=>?_⟩
  obtain ⟨e,y⟩:=y
  subst e
  refine hs i x σ _ (Pv (i+1)) ?_ p fun _ _ z=>z
  rw [List.getElem?_reverse hlt]
  exact y xs q rfl
 ·have e:i=xs.length:=by omega
  subst e
  exact .inl ⟨rfl,hd σ H p⟩
end
end L2
set_option Elab.async false
set_option linter.all false
set_option maxRecDepth 100000
namespace L2
open PySem
def fs (n:Int):Int:=if n % 2=0 then 0 else 2 - n % 4
def nafF:Nat -> Int -> List Int
 | 0,_=>[]
 | k+1,n=>if n=0 then [] else fs n :: nafF k ((n - fs n) / 2)
def naf (n:Int):List Int:=nafF n.natAbs n
theorem fs_cases (n:Int):(fs n=0 /\ n % 2=0) \/ (fs n=1 /\ n % 4=1) \/ (fs n = -1 /\ n % 4=3):=by
 unfold fs
 split <;> omega
theorem fs_lt {n:Int}(h:n ≠ 0):((n - fs n) / 2).natAbs < n.natAbs:=by
 rcases fs_cases n with ⟨e,_⟩ | ⟨e,_⟩ | ⟨e,_⟩ <;> rw [e] <;> omega
theorem nafF_fuel:∀ (k:Nat) (n:Int),n.natAbs <= k -> nafF k n=nafF n.natAbs n:=by
 intro k
 induction k using Nat.strongRecOn with
 | ind k ih =>
  intro n h
  by_cases z:n=0
  ·subst z
   cases k <;> simp [nafF]
  ·obtain ⟨k',rfl⟩:∃ k',k=k'+1:=⟨k - 1,by omega⟩
   obtain ⟨j,hj⟩:∃ j,n.natAbs=j+1:=⟨n.natAbs - 1,by omega⟩
   have lt:=fs_lt z
   rw [hj,nafF,nafF,if_neg z,if_neg z,ih k' (by omega) _ (by omega)]
   by_cases e:k'=j
   ·subst e
    rw [ih k' (by omega) _ (by omega)]
   ·rw [ih j (by omega) _ (by omega)]
theorem naf_zero:naf 0=[]:=rfl
theorem naf_step {n:Int}(h:n ≠ 0):naf n=fs n :: naf ((n - fs n) / 2):=by
 have lt:=fs_lt h
 obtain ⟨j,hj⟩:∃ j,n.natAbs=j+1:=⟨n.natAbs - 1,by omega⟩
 unfold naf
 rw [hj,nafF,if_neg h,nafF_fuel j _ (by omega)]
theorem naf_ind {p : Int → Prop}(h0 : p 0)(hs : ∀ n, n ≠ 0 → p ((n - fs n) / 2) → p n) : ∀ n, p n := by
  have all : ∀ k (n : Int), n.natAbs ≤ k → p n := by
    intro k
    induction k with
    | zero => intro n h; have : n = 0 := by omega
              subst this; exact h0
    | succ k ih =>
      intro n h
      by_cases z : n = 0
      · subst z; exact h0
      · exact hs n z (ih _ (by have := fs_lt z; omega))
  exact fun n => all n.natAbs n (Nat.le_refl _)
def val:List Int -> Int
 | []=>0
 | d :: r=>d+2 * val r
theorem val_naf:∀ n,val (naf n)=n:=naf_ind rfl fun n h ih=>by
 rw [naf_step h,val,ih]
 rcases fs_cases n with ⟨e,_⟩ | ⟨e,_⟩ | ⟨e,_⟩ <;> rw [e] <;> omega
theorem naf_dig:∀ n,∀ d ∈ naf n,d = -1 \/ d=0 \/ d=1:=naf_ind (by simp [naf_zero]) fun n h ih=>by
 rw [naf_step h]
 intro d hd
 rcases List.mem_cons.mp hd with e | e
 ·rw [e]
  rcases fs_cases n with ⟨e,_⟩ | ⟨e,_⟩ | ⟨e,_⟩ <;> rw [e] <;> simp
 ·exact ih d e
theorem naf_ne {n:Int}(h:n ≠ 0):naf n ≠ []:=by rw [naf_step h]; simp
theorem fs_neg (n:Int):fs (-n) = -fs n:=by
 rcases fs_cases n with ⟨e,_⟩ | ⟨e,_⟩ | ⟨e,_⟩ <;> rcases fs_cases (-n) with ⟨e',_⟩ | ⟨e',_⟩ | ⟨e',_⟩ <;> rw [e,e'] <;> omega
theorem naf_neg:∀ n,naf (-n)=(naf n).map fun d=>0 - d:=naf_ind rfl fun n h ih=>by
 rw [naf_step h,naf_step (n:=-n) (by omega),List.map_cons,← ih,fs_neg]
 have e:(-n - -fs n) / 2 = -((n - fs n) / 2):=by
  rcases fs_cases n with ⟨e,_⟩ | ⟨e,_⟩ | ⟨e,_⟩ <;> rw [e] <;> omega
 rw [e,Int.zero_sub]
theorem naf_dbl {n:Int}(h:n ≠ 0):naf (2 * n)=0 :: naf n:=by
 have e:fs (2 * n)=0:=by unfold fs; rw [if_pos (by omega)]
 rw [naf_step (n:=2 * n) (by omega),e]
 congr 2
 omega
theorem naf_shl {n:Int}(h:n ≠ 0):∀ k:Nat,naf (n * 2 ^ k)=qQ k 0 ++ naf n
 | 0=>by simp
 | k+1=>by
  have p:=pow_pos2 k
  have e:n * 2 ^ (k+1)=2 * (n * 2 ^ k):=by rw [Int.pow_succ,← Int.mul_assoc,Int.mul_comm]
  rw [e,naf_dbl (Int.mul_ne_zero h (by omega)),naf_shl h k,List.replicate_succ]
  rfl
theorem naf_len:∀ (k:Nat) (n:Int),n.natAbs < 2 ^ k -> (naf n).length <= k+1
 | 0,n,h=>by
  have:n=0:=by omega
  subst this
  simp [naf_zero]
 | k+1,n,h=>by
  by_cases z:n=0
  ·subst z
   simp [naf_zero]
  ·rw [naf_step z,List.length_cons]
   by_cases z2:(n - fs n) / 2=0
   ·rw [z2,naf_zero]
    simp
   ·have hp:2 ^ (k+1)=2 * 2 ^ k:=by rw [Nat.pow_succ,Nat.mul_comm]
    rcases Nat.lt_or_ge ((n - fs n) / 2).natAbs (2 ^ k) with l | l
    ·have:=naf_len k _ l
     omega
    ·-- the only number left is the power itself
     have e:(n - fs n) / 2=2 ^ k \/ (n - fs n) / 2 = -(2 ^ k):=by
      have hc:((2 ^ k:Nat):Int)=(2:Int) ^ k:=by rw [Int.natCast_pow]; rfl
      rcases fs_cases n with ⟨e,_⟩ | ⟨e,_⟩ | ⟨e,_⟩ <;> rw [e] at l ⊢ <;> omega
     have len:(naf ((2:Int) ^ k)).length=k+1:=by
      have:=naf_shl (n:=1) (by decide) k
      rw [Int.one_mul] at this
      rw [this]
      simp [show naf 1=[1] from rfl]
     rcases e with e | e
     ·rw [e,len]
      omega
     ·rw [e,naf_neg,qC,len]
      omega
def dig3 (n:Int)(p:Nat):Int:=(3 * n) / 2 ^ p % 2 - n / 2 ^ p % 2
theorem half_pow (n:Int){i:Nat}:n / 2 / 2 ^ i=n / 2 ^ (i+1):=by
 rw [Int.pow_succ,Int.mul_comm,Int.ediv_ediv_of_nonneg (by decide)]
theorem c_lem:∀ (t:Nat) (j:Int),(3 * j - 1) / 2 ^ t % 2 - (j - 1) / 2 ^ t % 2=(3 * j) / 2 ^ t % 2 - j / 2 ^ t % 2
 | 0,j=>by simp; omega
 | t+1,j=>by
  rw [← half_pow (3 * j - 1),← half_pow (j - 1),← half_pow (3 * j),← half_pow j]
  by_cases e:j % 2=0
  ·have h:=c_lem t (j / 2)
   have e1:(3 * j - 1) / 2=3 * (j / 2) - 1:=by omega
   have e2:(j - 1) / 2=j / 2 - 1:=by omega
   have e3:3 * j / 2=3 * (j / 2):=by omega
   rw [e1,e2,e3]
   exact h
  ·have e1:(3 * j - 1) / 2=3 * j / 2:=by omega
   have e2:(j - 1) / 2=j / 2:=by omega
   rw [e1,e2]
theorem dig3_step {n:Int}(hn:n ≠ 0)(p:Nat):dig3 n (p+2)=dig3 ((n - fs n) / 2) (p+1):=by
 unfold dig3
 have d2:∀ (x:Int) (i:Nat),x / 2 ^ (i+1)=x / 2 / 2 ^ i:=fun x i=>(half_pow x).symm
 rw [d2 (3 * n),d2 n,d2 (3 * n / 2),d2 (n / 2),d2 (3 * ((n - fs n) / 2)),d2 ((n - fs n) / 2)]
 rcases fs_cases n with ⟨e,h⟩ | ⟨e,h⟩ | ⟨e,h⟩
 ·rw [e]
  have a1:3 * n / 2 / 2=3 * ((n - 0) / 2) / 2:=by omega
  have a2:n / 2 / 2=(n - 0) / 2 / 2:=by omega
  rw [a1,a2]
 ·rw [e]
  have a1:3 * n / 2 / 2=3 * ((n - 1) / 2) / 2:=by omega
  have a2:n / 2 / 2=(n - 1) / 2 / 2:=by omega
  rw [a1,a2]
 ·rw [e]
  have a1:3 * n / 2 / 2=3 * ((n - -1) / 2 / 2) - 1:=by omega
  have a2:n / 2 / 2=(n - -1) / 2 / 2 - 1:=by omega
  have a3:3 * ((n - -1) / 2) / 2=3 * ((n - -1) / 2 / 2):=by omega
  rw [a1,a2,a3]
  exact c_lem p _
theorem dig3_one {n:Int}(hn:n ≠ 0):dig3 n 1=fs n:=by
 unfold dig3
 rw [Int.pow_one]
 rcases fs_cases n with ⟨e,h⟩ | ⟨e,h⟩ | ⟨e,h⟩ <;> rw [e] <;> omega
theorem no12 {j:Int}(hj:0 < j)(k:Nat):12 * j ≠ 2 ^ k:=by
 intro h
 have all:∀ k:Nat,(2:Int) ^ k % 3 ≠ 0:=by
  intro k
  induction k with
  | zero=>decide
  | succ k ih=>rw [Int.pow_succ]; omega
 have:=all k
 rw [← h] at this
 omega
theorem more_step {n:Int}(hn:0 < n)(p:Nat):(0 < (3 * n) / 2 ^ (p+2)) ↔ (0 < (3 * ((n - fs n) / 2)) / 2 ^ (p+1)):=by
 have P:=pow_pos2 p
 have q1:∀ (x:Int) (k:Nat),0 < x / 2 ^ k ↔ 2 ^ k <= x:=fun x k=>by
  have:=pow_pos2 k
  rw [show (0 < x / 2 ^ k) ↔ (1 <= x / 2 ^ k) from Iff.rfl,Int.le_ediv_iff_mul_le this,Int.one_mul]
 rw [q1,q1]
 have e2:(2:Int) ^ (p+2)=4 * 2 ^ p:=by rw [Int.pow_succ,Int.pow_succ]; omega
 have e1:(2:Int) ^ (p+1)=2 * 2 ^ p:=by rw [Int.pow_succ]; omega
 rcases fs_cases n with ⟨e,h⟩ | ⟨e,h⟩ | ⟨e,h⟩
 ·rw [e,e2,e1]; omega
 ·rw [e,e2,e1]; omega
 ·have no:=no12 (j:=(n+1) / 4) (by omega) (p+2)
  rw [e2] at no
  rw [e,e2,e1]
  omega
theorem m_nonneg {n:Int}(h:0 < n):0 <= (n - fs n) / 2:=by
 rcases fs_cases n with ⟨e,_⟩ | ⟨e,_⟩ | ⟨e,_⟩ <;> rw [e] <;> omega
theorem naf_bits:∀ (k:Nat) (n:Int),0 <= n -> ((k < (naf n).length ↔ 0 < (3 * n) / 2 ^ (k+1)) /\ (∀ d,(naf n)[k]? = some d -> d=dig3 n (k+1))):=by
 intro k
 induction k with
 | zero =>
  intro n h
  by_cases z:n=0
  ·subst z
   simp [naf_zero]
  ·rw [naf_step z]
   refine ⟨?_,fun d hd=>?_⟩
   ·simp only [List.length_cons,Nat.zero_add,Int.pow_one]
    omega
   ·simp only [List.getElem?_cons_zero,Option.some.injEq] at hd
    rw [← hd,Nat.zero_add,dig3_one z]
 | succ k ih =>
  intro n h
  by_cases z:n=0
  ·subst z
   simp [naf_zero]
  ·obtain ⟨a,b⟩:=ih _ (m_nonneg (n:=n) (by omega))
   rw [naf_step z]
   refine ⟨?_,fun d hd=>?_⟩
   ·rw [List.length_cons,Nat.add_lt_add_iff_right,a]
    exact (more_step (by omega) k).symm
   ·simp only [List.getElem?_cons_succ] at hd
    rw [b d hd,dig3_step z]
end L2
set_option Elab.async false
set_option linter.all false
set_option maxRecDepth 100000
namespace L2
open PySem PySem.Spec PyProof.Rows
theorem and1 (x:Int):Builtin.bitAnd x 1=x % 2:=by
 have:=PySem.W.kbt_mask x 1
 simpa using this
theorem and3 (x:Int):Builtin.bitAnd x 3=x % 4:=by
 have:=PySem.W.kbt_mask x 2
 simpa using this
def spFirst:Sp:=fun vs H Q _=>∃ n:Int,vs=[.int n] /\ Q (.int (fs n)) H
def spSigns:Sp:=fun vs H Q _=>∃ n:Int,vs=[.int n] /\ n.natAbs < 2 ^ 5000 /\ ∀ r,H r=none -> Q (.ref r) (upd H r (.lst ((naf n).map V.int)))
def wt (ds:List Int):Nat:=(ds.filter fun d=>decide (d ≠ 0)).length
def spLeast:Sp:=fun vs H Q _=>∃ n:Int,vs=[.int n] /\ n.natAbs < 2 ^ 5000 /\ ∀ H',Same H H' -> Q (.int (wt (naf n):Int)) H'
def spWhole:Sp:=fun vs H Q _=>∃ i:Int,vs=[.int i] /\ Q (.bl true) H
theorem val_rev {ds:List Int}{i:Nat}{d:Int}(h:ds.reverse[i]? = some d):val (ds.reverse.take (i+1)).reverse=2 * val (ds.reverse.take i).reverse+d:=by
 rw [List.take_add_one,h]
 show val (ds.reverse.take i ++ [d]).reverse=_
 rw [List.reverse_append]
 show d+2 * val (ds.reverse.take i).reverse=_
 omega
theorem val_bound:∀ (ds:List Int),(∀ d ∈ ds,d = -1 \/ d=0 \/ d=1) -> (val ds).natAbs < 2 ^ ds.length
 | [],_=>by simp [val]
 | d :: r,h=>by
  have ih:=val_bound r fun x hx=>h x (List.mem_cons_of_mem _ hx)
  have hd:=h d List.mem_cons_self
  rw [val,List.length_cons,Nat.pow_succ]
  omega
def tWhl (c:TT)(tb:TS):TS:=fun D σ H=>∃ W:Nat -> St -> Hp -> Prop,(∃ m,W m σ H) /\ ∀ m σ H,W m σ H -> ∀ N:St -> Hp -> Prop,(∀ m' σ' H',m' < m -> W m' σ' H' -> N σ' H') ->
 c σ H fun b H1=>if b=true then tb { D with nx:=N,ct:=N,bk:=D.nx } σ H1 else D.nx σ H1
theorem ps_whl {X:Cx}{pos:Pos}{c:Expr}{body:List Stmt}{tc:TT}{tb:TS}(hp:PassesOwn (model X.prog X.w) X.A X.env X.xe)(hc:PT X c tc)(hb:PSs X body tb):PS X (.While c body [] pos) (tWhl tc tb):=by
 intro pins s σ H D I h
 obtain ⟨W,⟨m0,w0⟩,turn⟩:=h
 refine wpAny_While (codeAny_whileLoop (fun n s'=>∃ σ' H',Inv X pins σ' H' s' /\ W n σ' H') ?_ m0 ⟨σ,H,I,w0⟩)
 rintro n s1 ⟨σ1,H1,I1,w1⟩
 refine wpAny_passesOwn hp (thn (hc pins s1 σ1 H1 _ I1 (turn n σ1 H1 w1 (fun σ' H'=>∃ m',m' < n /\ W m' σ' H') fun m' _ _ l z=>⟨m',l,z⟩)) fun b s2 ⟨H2,I2,q2⟩=>?_)
 cases b with
 | true =>
  rw [if_pos rfl] at q2 ⊢
  refine wpAny_passesOwn hp (thn (hb pins s2 σ1 H2 _ I2 q2) fun f s3 q3=>?_)
  cases f with
  | next =>
   obtain ⟨σ3,H3,I3,m',hm,w3⟩:=q3
   exact ⟨m',hm,σ3,H3,I3,w3⟩
  | cont =>
   obtain ⟨σ3,H3,I3,m',hm,w3⟩:=q3
   exact ⟨m',hm,σ3,H3,I3,w3⟩
  | brk=>exact q3
  | ret v=>exact q3
 | false =>
  rw [if_neg Bool.false_ne_true] at q2 ⊢
  exact wpAny_execs_nil ⟨σ1,H2,I2,q2⟩
theorem whl {c:TT}{tb:TS}{D:Ends}{σ:St}{H:Hp}(Pv:Nat -> St -> Hp -> Prop)(m:Nat)(h0:Pv m σ H)
  (hs:∀ m σ H (N:St -> Hp -> Prop),Pv m σ H -> (∀ m' σ' H',m' < m -> Pv m' σ' H' -> N σ' H') -> c σ H fun b H1=>if b=true then tb { D with nx:=N,ct:=N,bk:=D.nx } σ H1 else D.nx σ H1):tWhl c tb D σ H :=
 ⟨Pv,⟨m,h0⟩,fun m σ H p N hN=>hs m σ H N p hN⟩
theorem filterMap_some {α β:Type}(f:α -> β)(xs:List α):xs.filterMap (fun x=>some (f x))=xs.map f:=by
 induction xs with
 | nil=>rfl
 | cons x r ih=>rw [List.filterMap_cons,ih]; rfl
end L2
set_option Elab.async false
set_option linter.all false
set_option maxRecDepth 100000
namespace L2
open PySem
theorem p2le {e k:Nat}(h:e <= k):0 < (2:Int) ^ e /\ (2:Int) ^ e <= 2 ^ k:=by
 refine ⟨pow_pos2 e,?_⟩
 obtain ⟨j,rfl⟩:∃ j,k=e+j:=⟨k - e,by omega⟩
 rw [Int.pow_add]
 have h1:=pow_pos2 e
 have h2:=pow_pos2 j
 have:(2:Int) ^ e * 1 <= 2 ^ e * 2 ^ j:=Int.mul_le_mul_of_nonneg_left (by omega) (by omega)
 omega
theorem shl1_b {e:Int}{k:Nat}(h1:e <= k):0 < 1 * (2:Int) ^ e.toNat /\ 1 * (2:Int) ^ e.toNat <= 2 ^ k:=by
 have:=p2le (e:=e.toNat) (k:=k) (by omega)
 omega
def spLSigns:Sp:=fun vs H Q _=>∃ n:Int,vs=[.int n] /\ n.natAbs < 2 ^ 5000 /\ ∀ r H',H r=none -> Same H H' -> H' r=some (.lst ((naf n).map V.int)) -> Q (.ref r) H'
theorem le_big {n:Nat}(h:n <= 100000):n <= sizeLine:=Nat.le_trans h (by decide)
theorem lt_big {n:Nat}(h:n < 100000):n < sizeLine:=qJ h (by decide)
theorem same_upd {H H':Hp}{r:Addr}{o:HO}(h:H r=none)(s:Same H H'):Same H (upd H' r o):=fun b u q=>by rw [upd_ne (ne_of_none q h)]; exact s b u q
def shV (n s:Int):V:=if 0 <= s then .int (n * 2 ^ s.toNat) else if n / 2 ^ (-s).toNat * 2 ^ (-s).toNat=n then .int (n / 2 ^ (-s).toNat) else .non
def spShifted:Sp:=fun vs H Q _=>∃ n s:Int,vs=[.int n,.int s] /\ -4000 <= s /\ s <= 4000 /\ n.natAbs < 2 ^ 10000 /\ Q (shV n s) H
theorem big_of {n:Int}{j k:Nat}(h:n.natAbs < 2 ^ j)(l:j <= k):n.natAbs < 2 ^ k:=qJ h (qN (by decide) l)
def On2 (vs:List V)(P:Int -> Int -> Prop):Prop:=∃ i j,vs=[.int i,.int j] /\ P i j
theorem w_On2 {i j:Int}{P:Int -> Int -> Prop}:On2 [.int i,.int j] P=P i j:=propext ⟨fun ⟨i',j',e,q⟩=>by cases e; exact q,fun q=>⟨i,j,rfl,q⟩⟩
section
variable {σ:St}{H:Hp}{D:Ends}{g:TG}{tb:TS}{K:PySem.W.Frag}{Q:VK}{nt:Nat}{cs:List Nat}{tt:TT}{te:TE}
theorem w_for2b {ta:TA}:tFor (iRng2 ta) g tb D σ H=(ta σ H fun vs H1=>On2 vs fun i j=>(-(2 ^ 62) <= i /\ i < 2 ^ 62 /\ -(2 ^ 62) <= j /\ j < 2 ^ 62) /\ ForR i (j - i).toNat g tb D σ H1):=rfl
theorem w_comp2b {ta:TA}:tComp (iRng2 ta) nt cs g tt te σ H Q=(ta σ H fun vs H1=>On2 vs fun i j=>(-(2 ^ 62) <= i /\ i < 2 ^ 62 /\ -(2 ^ 62) <= j /\ j < 2 ^ 62) /\ CompIt (Itr i (j - i).toNat) nt cs g tt te σ H1 Q):=rfl
end
end L2
set_option Elab.async false
set_option linter.all false
set_option maxRecDepth 100000
namespace L2
open PySem
def fltV:V -> Option V:=fun x=>match x with
 | .int d=>if d ≠ 0 then some (.int d) else none
 | _=>none
theorem fltV_ne {d:Int}(h:¬d=0):fltV (.int d)=some (.int d):=by unfold fltV; exact if_pos h
theorem flt_len_map:∀ (ds:List Int),(ds.map V.int).filterMap fltV=(ds.filter fun d=>decide (d ≠ 0)).map V.int
 | []=>rfl
 | d :: r=>by
  rw [List.map_cons,List.filterMap_cons,List.filter_cons]
  by_cases h:d=0
  ·subst h
   show ((r.map V.int).filterMap fltV)=_
   rw [flt_len_map r]
   rfl
  ·rw [fltV_ne h,if_pos (by simpa using h),List.map_cons,flt_len_map r]
abbrev wn (n:Int):Nat:=wt (naf n)
theorem wt_cons (d:Int)(r:List Int):wt (d :: r)=(if d=0 then 0 else 1)+wt r:=by
 unfold wt
 rw [List.filter_cons]
 by_cases h:d=0
 ·simp [h]
 ·simp [h]; omega
theorem wn_step (n:Int):wn n=(if fs n=0 then 0 else 1)+wn ((n - fs n) / 2):=by
 by_cases h:n=0
 ·subst h; rfl
 ·show wt (naf n)=_
  rw [naf_step h,wt_cons]
theorem wt_neg:∀ ds:List Int,wt (ds.map fun d=>0 - d)=wt ds
 | []=>rfl
 | d :: r=>by
  rw [List.map_cons,wt_cons,wt_cons,wt_neg r]
  have:(0 - d=0) ↔ (d=0):=by omega
  simp only [this]
theorem wn_neg (n:Int):wn (-n)=wn n:=by show wt (naf (-n))=_; rw [naf_neg,wt_neg]
theorem wn_dbl (n:Int):wn (2 * n)=wn n:=by
 rw [wn_step (2 * n)]
 have e:fs (2 * n)=0:=by unfold fs; rw [if_pos (by omega)]
 rw [e,if_pos rfl,Nat.zero_add]
 congr 2
 omega
theorem wn_eq0 {n:Int}:wn n=0 ↔ n=0:=by
 constructor
 ·refine naf_ind (p:=fun n=>wn n=0 -> n=0) (fun _=>rfl) (fun n h ih hw=>?_) n
  rw [wn_step] at hw
  have h1:fs n=0:=by
   by_cases z:fs n=0
   ·exact z
   ·rw [if_neg z] at hw; omega
  rw [h1] at hw ih
  have:=ih (by rw [if_pos rfl] at hw; omega)
  rcases fs_cases n with ⟨e,_⟩ | ⟨e,_⟩ | ⟨e,_⟩
  ·omega
  ·rw [e] at h1; cases h1
  ·rw [e] at h1; cases h1
 ·intro e; subst e; rfl
theorem w_neB {a b:Bool}{H:Hp}{Q:VK}:rNe (.bl a) (.bl b) H Q=Q (.bl (!decide (a=b))) H :=
 propext (by
  have e:decide (V.bl a=V.bl b)=decide (a=b):=by by_cases h:a=b <;> simp [h]
  unfold rNe; rw [e]; exact ⟨fun h=>h.2,fun h=>⟨rfl,h⟩⟩)
theorem w_eqB {a b:Bool}{H:Hp}{Q:VK}:rEq (.bl a) (.bl b) H Q=Q (.bl (decide (a=b))) H :=
 propext (by
  have e:decide (V.bl a=V.bl b)=decide (a=b):=by by_cases h:a=b <;> simp [h]
  unfold rEq; rw [e]; exact ⟨fun h=>h.2,fun h=>⟨rfl,h⟩⟩)
end L2
set_option Elab.async false
set_option linter.all false
set_option maxRecDepth 100000
namespace L2
open PySem
abbrev SS:=List (Int × Int) × List Int
def stp (m:Int)(s:SS)(o:Int):SS:=if (s.1.lookup o).isSome=false /\ (if o < 0 then -o else o) < 200 then (s.1 ++ [(o,m)],s.2 ++ [o]) else s
def kin (m n:Int)(s:SS)(k:Nat):SS:=stp m (stp m s (n+1 * 2 ^ k)) (n - 1 * 2 ^ k)
theorem lk_app {l:List (Int × Int)}{o m n:Int}:(l ++ [(o,m)]).lookup n=(l.lookup n).or (if n=o then some m else none):=by
 rw [List.lookup_append,List.lookup_cons]
 by_cases h:n=o
 ·subst h; simp
 ·have:(n == o)=false:=by simpa using h
  rw [this,if_neg h]
  rfl
end L2
set_option Elab.async false
set_option linter.all false
set_option maxRecDepth 100000
set_option maxHeartbeats 1000000
namespace L2
open PySem PySem.Spec PyProof.Rows
section
variable {prog:Program}{w:World}{A:Around}{R:Result -> Shared -> Prop}{I S:Addr}{fp wr:List Addr}{n:Nat}{P:Nat -> Value -> Prop}{St:Nat -> Heap -> Prop}{bt:Nat -> Nat -> Bool}{d:Value}
end
section
variable {prog:Program}{w:World}{A:Around}{E:Value -> Shared -> Prop}{s:Shared}{d x:Value}
end
def mz:List Int -> Int
 | []=>0
 | x :: r=>if mz r < x then x else mz r
section
variable {X:Cx}{e:Expr}{es:List Expr}{kws:List Keyword}{t tk:TA}{p pos:Pos}
theorem at_int {xs:List (Int × Tok)}{ns:List Int}(e:xs.map (·.1)=ns)(i:Nat)(v:Value)(h:(xs.map fun p=>Value.int p.1 p.2).toArray[i]? = some v):∃ t,v = .int (ns.getD i 0) t:=by
 rw [List.getElem?_toArray,qI] at h
 cases hx:xs[i]? with
 | none=>rw [hx] at h; cases h
 | some q =>
  rw [hx] at h
  cases h
  refine ⟨q.2,?_⟩
  have:ns[i]? = some q.1:=by rw [← e,qI,hx]; rfl
  simp [List.getD,this]
def tMaxD (t tk:TA):TE:=fun σ H Q=>t σ H fun vs H1=>tk σ H1 fun zs H2=>∃ (p:Addr) (ns:List Int),vs=[.ref p] /\ zs=[.int 0] /\ H2 p=some (.lst (ns.map V.int)) /\ (∀ n ∈ ns,0 <= n) /\ Q (.int (mz ns)) H2
end
section
variable {K:PySem.W.Frag}{σ:St}{H:Hp}{Q:VK}
theorem w_maxD {t tk:TA}:tMaxD t tk σ H Q=t σ H fun vs H1=>tk σ H1 fun zs H2=>∃ (p:Addr) (ns:List Int),vs=[.ref p] /\ zs=[.int 0] /\ H2 p=some (.lst (ns.map V.int)) /\ (∀ n ∈ ns,0 <= n) /\ Q (.int (mz ns)) H2:=rfl
theorem w_sl {r:V -> Option Int -> Option Int -> Hp -> VK -> Prop}{te:TE}{tl th:TO}:tSl r te tl th σ H Q=te σ H fun x H1=>tl σ H1 fun l H2=>th σ H2 fun u H3=>r x l u H3 Q:=rfl
theorem w_noPart {R:Option Int -> Hp -> Prop}:tNoPart σ H R=R none H:=rfl
theorem w_part {t:TE}{R:Option Int -> Hp -> Prop}:tPart t σ H R=t σ H fun x H1=>∃ i,x = .int i /\ R (some i) H1:=rfl
theorem w_slL {a:Addr}{lo hi:Option Int}:rSlL K (.ref a) lo hi H Q = ∃ xs,SqL K H a xs /\ ∀ p,H p=none -> Q (.ref p) (upd H p (.lst (cutV xs lo hi))) :=
 propext ⟨fun ⟨a',xs,e,h,q⟩=>by cases e; exact ⟨xs,h,q⟩,fun ⟨xs,h,q⟩=>⟨a,xs,rfl,h,q⟩⟩
end
def halN (c:Int):Nat:=if c > 1 then Builtin.Int.intBits (c - 1) else 0
def ld (ns:List Int):Int:=mz (ns.map fun n=>((halN (wn n:Nat):Nat):Int))
theorem wn_bound {n:Int}{k:Nat}(h:n.natAbs < 2 ^ k):wn n <= k+1:=Nat.le_trans (List.length_filter_le _ _) (naf_len k n h)
end L2
set_option Elab.async false
set_option linter.all false
set_option maxRecDepth 100000
set_option maxHeartbeats 1000000
namespace L2
open PySem PySem.Spec PyProof.Rows
def rListD:List V -> Hp -> VK -> Prop:=fun xs H Q=>∃ (p:Addr) (kvs:List (Key × V)),xs=[.ref p] /\ H p=some (.dK kvs) /\ ∀ l,H l=none -> Q (.ref l) (upd H l (.lst (kvs.map fun q=>kV q.1)))
theorem key_rel {k:Key}{v:Value}(h:keyIs k v=true):RelV (kV k) v:=by
 rcases keyIs_shape h with ⟨i,t,rfl,rfl⟩ | ⟨x,t,rfl,rfl⟩
 ·exact ⟨t,rfl⟩
 ·exact ⟨t,rfl⟩
theorem keys_vals {kvs:List (Key × V)}{vs:List (Key × Value)}(r:KV kvs vs):∀ (us:List Value),us.length=vs.length -> (∀ (j:Nat) (v:Value),us[j]? = some v -> ∃ (k:Key) (x:Value),vs[j]? = some (k,x) /\ keyIs k v=true) -> Vals (kvs.map fun q=>kV q.1) us:=by
 induction r with
 | nil =>
  intro us hl _
  have:us=[]:=List.length_eq_zero_iff.mp hl
  subst this
  exact .nil
 | cons h _ ih =>
  intro us hl hv
  cases us with
  | nil=>simp at hl
  | cons u us =>
   obtain ⟨k,x,e,hk⟩:=hv 0 u rfl
   simp only [List.getElem?_cons_zero,Option.some.injEq] at e
   rw [List.map_cons]
   refine .cons ?_ (ih us (by simpa using hl) fun j v hj=>by simpa using hv (j+1) v (by simpa using hj))
   rw [h.1,e]
   exact key_rel hk
theorem call_list_keys {X:Cx}(hc:X.calm=true):CallR X (.type "list") rListD:=by
 intro pins s σ H xs us Q I r h
 obtain ⟨p,kvs,rfl,hp,q⟩:=h
 obtain ⟨u,rfl,rx⟩:=vals1 r
 cases rx
 obtain ⟨z,hd,vs,rel,dd⟩:=dk_rd I.hok (.inl hp)
 obtain ⟨ep,hat⟩:=dd.dictAt
 have hl:kvs.length=vs.length:=by
  have:∀ {a:List (Key × V)} {b:List (Key × Value)},KV a b -> a.length=b.length:=by
   intro a b r
   induction r with
   | nil=>rfl
   | cons _ _ ih=>simp [ih]
  exact this rel
 refine PySem.W.kdl_call (PySem.W.kdl_dict (knd:=mixKind X.prog X.w) (kvs:=vs) (ep:=ep) hd) (I.ok.hd hc) hat (by omega) fun h' tk acc' c' kp e it=>?_
 have rv:Vals (kvs.map fun q=>kV q.1) acc'.toList:=keys_vals rel _ (by rw [Array.length_toList]; exact it.1) fun j v hj=>it.2 j v (by rw [← Array.getElem?_toList]; exact hj)
 exact ⟨.ref s.heap.objs.size,_,I.laid (t':=tk) kp (Nat.le_refl _) (show ObjOk X.prog X.w _ h' _ (.lst _) from ⟨by rw [qC]; exact z,acc'.toList,c',rv,by simpa using e⟩),rfl,q _ (I.hok.fresh (Nat.le_refl _))⟩
section
variable {σ:St}{H:Hp}{Q:VK}{D:Ends}
theorem w_aug {i:Nat}{te:TE}{ti:TIp}:tAug i te ti D σ H = ∃ x,σ[i]? = some (some x) /\ te σ H fun y H1=>ti x y H1 fun z H2=>D.nx (σ.set i (some z)) H2:=rfl
theorem w_ipI {f:Int -> Int -> Int}{i j:Int}:ipI f (.int i) (.int j) H Q=Q (.int (f i j)) H:=propext ⟨fun ⟨_,_,e1,e2,q⟩=>by cases e1; cases e2; exact q,fun q=>⟨i,j,rfl,rfl,q⟩⟩
theorem w_dnK:tDNewK σ H Q = ∀ p,H p=none -> Q (.ref p) (upd H p (.dK [])):=rfl
end
structure Dd where
 g:Int
 a:Nat
 s:Nat
 b:Nat
 t:Nat
def dnum (ns:List Int)(d:Dd):Int:=ns.getD d.a 0 * 2 ^ d.s+d.g * (ns.getD d.b 0 * 2 ^ d.t)
def ev (ds:List Dd):List Int:=ds.foldl (fun ns d=>ns ++ [dnum ns d]) [1]
theorem ev_snoc (ds:List Dd)(d:Dd):ev (ds ++ [d])=ev ds ++ [dnum (ev ds) d]:=by unfold ev; rw [List.foldl_append]; rfl
theorem snoc_ind {α:Type}{p:List α -> Prop}(h0:p [])(hs:∀ xs x,p xs -> p (xs ++ [x]))(xs:List α):p xs:=by
 have:p xs.reverse.reverse:=by
  generalize xs.reverse=ys
  induction ys with
  | nil=>exact h0
  | cons y r ih=>rw [List.reverse_cons]; exact hs _ _ ih
 rwa [List.reverse_reverse] at this
theorem ev_len (ds:List Dd):(ev ds).length=ds.length+1:=by
 refine snoc_ind (p:=fun ds=>(ev ds).length=ds.length+1) rfl (fun xs x h=>?_) ds
 rw [ev_snoc,qF,qF,h]
 rfl
theorem ev_pre (ds new:List Dd){k:Nat}{n:Int}(h:(ev ds)[k]? = some n):(ev (ds ++ new))[k]? = some n:=by
 refine snoc_ind (p:=fun new=>(ev (ds ++ new))[k]? = some n) (by rw [List.append_nil]; exact h) (fun xs x ih=>?_) new
 rw [← List.append_assoc,ev_snoc,qH (qB.mp ih).1]
 exact ih
structure DOk (ds:List Dd):Prop where
 at_:∀ (k:Nat) (d:Dd),ds[k]? = some d -> d.a <= k /\ d.b <= k /\ d.s <= 300 /\ d.t <= 300 /\ (d.g=1 \/ d.g = -1)
 big:∀ n ∈ ev ds,n.natAbs < 2 ^ 300
theorem DOk.snoc {ds:List Dd}{d:Dd}(h:DOk ds)(h1:d.a <= ds.length)(h1':d.b <= ds.length)(h2:d.s <= 300)(h2':d.t <= 300)(h3:d.g=1 \/ d.g = -1)(h4:(dnum (ev ds) d).natAbs < 2 ^ 300):DOk (ds ++ [d]):=by
 refine ⟨fun k e he=>?_,fun n hn=>?_⟩
 ·by_cases hk:k < ds.length
  ·rw [qH hk] at he
   exact h.at_ k e he
  ·rw [qG (by omega)] at he
   have hk0:k - ds.length=0:=by
    cases hz:k - ds.length with
    | zero=>rfl
    | succ j=>rw [hz] at he; simp at he
   rw [hk0] at he
   cases he
   exact ⟨by omega,by omega,h2,h2',h3⟩
 ·rw [ev_snoc] at hn
  rcases List.mem_append.mp hn with z | z
  ·exact h.big n z
  ·rw [List.mem_singleton.mp z]; exact h4
theorem dok_nil:DOk []:=⟨fun k d h=>by simp at h,fun n hn=>by rw [List.mem_singleton.mp hn]; exact qJ (by decide:1 < 2 ^ 1) (qN (by decide) (by decide))⟩
def wordOf (g:Int):Str:=if g=1 then "sum" else "less"
def dTup (d:Dd):List V:=[.str (wordOf d.g),.int d.a,.int d.s,.int d.b,.int d.t]
def deedOf (a s:Nat)(g:Int)(b t:Nat)(h:Int):Dd:=if g=h then ⟨1,a,s,b,t⟩ else if g=1 then ⟨-1,a,s,b,t⟩ else ⟨-1,b,t,a,s⟩
structure HDs (H:Hp) (vs:List V) (ds:List Dd):Prop where
 len:vs.length=ds.length
 at_:∀ (k:Nat) (d:Dd),ds[k]? = some d -> ∃ x:Addr,vs[k]? = some (.ref x) /\ H x=some (.tup (dTup d))
theorem HDs.same {H H':Hp}{vs:List V}{ds:List Dd}(h:HDs H vs ds)(s:Same H H'):HDs H' vs ds:=⟨h.len,fun k d e=>by
 obtain ⟨x,e1,e2⟩:=h.at_ k d e
 exact ⟨x,e1,s _ _ e2⟩⟩
theorem HDs.chgL {H H':Hp}{vs us:List V}{ds:List Dd}{l:Addr}(h:HDs H vs ds)(hl:H l=some (.lst us))(c:Chg l H H'):HDs H' vs ds:=⟨h.len,fun k d e=>by
 obtain ⟨x,e1,e2⟩:=h.at_ k d e
 exact ⟨x,e1,c _ _ (ne_of e2 hl (by intro z; cases z)) e2⟩⟩
theorem HDs.chgD {H H':Hp}{vs:List V}{kvs:List (Key × V)}{ds:List Dd}{l:Addr}(h:HDs H vs ds)(hl:H l=some (.dK kvs))(c:Chg l H H'):HDs H' vs ds:=⟨h.len,fun k d e=>by
 obtain ⟨x,e1,e2⟩:=h.at_ k d e
 exact ⟨x,e1,c _ _ (ne_of e2 hl (by intro z; cases z)) e2⟩⟩
theorem HDs.snoc {H:Hp}{vs:List V}{ds:List Dd}{d:Dd}{x:Addr}(h:HDs H vs ds)(hx:H x=some (.tup (dTup d))):HDs H (vs ++ [.ref x]) (ds ++ [d]):=by
 refine ⟨by simp [h.len],fun k e he=>?_⟩
 by_cases hk:k < ds.length
 ·rw [qH hk] at he
  obtain ⟨y,e1,e2⟩:=h.at_ k e he
  exact ⟨y,by rw [qH (by rw [h.len]; exact hk)]; exact e1,e2⟩
 ·rw [qG (by omega)] at he
  have hk0:k - ds.length=0:=by
   cases hz:k - ds.length with
   | zero=>rfl
   | succ j=>rw [hz] at he; simp at he
  rw [hk0] at he
  cases he
  refine ⟨x,?_,hx⟩
  rw [qG (by rw [h.len]; omega),h.len,hk0]
  rfl
theorem hds_nil {H:Hp}:HDs H [] []:=⟨rfl,fun k d h=>by simp at h⟩
theorem naf_top:∀ n:Int,0 < n -> (naf n).getLast? = some 1:=naf_ind (fun h=>by omega) fun n h ih hn=>by
 have hm:=m_nonneg hn
 rw [naf_step h]
 by_cases z:(n - fs n) / 2=0
 ·rw [z,naf_zero]
  rcases fs_cases n with ⟨e,e2⟩ | ⟨e,e2⟩ | ⟨e,e2⟩
  ·rw [e] at z; omega
  ·rw [e]; rfl
  ·rw [e] at z; omega
 ·rw [List.getLast?_cons,ih (by omega)]
  rfl
def topV (n:Int)(i:Nat):Int:=val ((naf n).reverse.take (i+1)).reverse
theorem naf_rev {n:Int}(h:0 < n):(naf n).reverse=1 :: (naf n).dropLast.reverse:=by
 have ht:=naf_top n h
 have hne:=naf_ne (n:=n) (by omega)
 have e:=List.dropLast_concat_getLast hne
 have:(naf n).getLast hne=1:=by
  rw [List.getLast?_eq_some_getLast hne] at ht
  exact Option.some.inj ht
 rw [this] at e
 conv=>lhs; rw [← e]
 rw [List.reverse_append]
 rfl
theorem topV_zero {n:Int}(h:0 < n):topV n 0=1:=by
 unfold topV
 rw [naf_rev h]
 rfl
theorem topV_step {n:Int}(h:0 < n){i:Nat}{d:Int}(hd:(naf n).dropLast.reverse[i]? = some d):topV n (i+1)=2 * topV n i+d:=by
 unfold topV
 exact val_rev (by rw [naf_rev h]; exact hd)
theorem topV_bound (n:Int)(i:Nat):(topV n i).natAbs < 2 ^ (i+1):=by
 unfold topV
 refine qJ (val_bound _ fun d hd=>?_) (qN (by decide) (by rw [List.length_reverse,qO]; omega))
 exact naf_dig n d (List.mem_reverse.mp (List.mem_of_mem_take (List.mem_reverse.mp hd)))
theorem topV_end {n:Int}(h:0 < n):topV n (naf n).dropLast.length=n:=by
 unfold topV
 have hne:=naf_ne (n:=n) (by omega)
 have hl:(naf n).length=(naf n).dropLast.length+1:=by
  rw [List.length_dropLast]
  have:=List.length_pos_iff.mpr hne
  omega
 rw [List.take_of_length_le (by rw [List.length_reverse]; omega),List.reverse_reverse,val_naf]
theorem wt_app (a b:List Int):wt (a ++ b)=wt a+wt b:=by unfold wt; rw [List.filter_append,qF]
theorem wt_rev (a:List Int):wt a.reverse=wt a:=by unfold wt; rw [List.filter_reverse,List.length_reverse]
theorem wt_take_step {ds:List Int}{i:Nat}{d:Int}(h:ds[i]? = some d):wt (ds.take (i+1))=wt (ds.take i)+(if d=0 then 0 else 1):=by
 rw [List.take_add_one,h,wt_app]
 congr 1
 by_cases hd:d=0
 ·subst hd; rfl
 ·rw [if_neg hd]
  show wt [d]=1
  rw [wt_cons,if_neg hd]
  rfl
theorem wt_drop {n:Int}(h:0 < n):wt (naf n).dropLast.reverse+1=wn n:=by
 have:wn n=wt (naf n).reverse:=(wt_rev _).symm
 rw [this,naf_rev h,wt_cons,if_neg (by decide)]
 omega
theorem deed_chain {made gap:Nat}{g:Int}(hg:g=1 \/ g = -1):deedOf made gap 1 0 0 g=⟨g,made,gap,0,0⟩:=by
 unfold deedOf
 rcases hg with e | e <;> subst e <;> rfl
theorem chain_step {ds:List Dd}{made gap:Nat}{T:Int}{d n:Int}(h0:(ev ds)[0]? = some 1)(hm:(ev ds)[made]? = some n)(hT:n * 2 ^ gap=T):dnum (ev ds) ⟨d,made,gap+1,0,0⟩=2 * T+d:=by
 show (ev ds).getD made 0 * 2 ^ (gap+1)+d * ((ev ds).getD 0 0 * 2 ^ 0)=_
 rw [qD,qD,hm,h0,Option.getD_some,Option.getD_some,← hT,Int.pow_succ,← Int.mul_assoc,Int.mul_comm (n * 2 ^ gap) 2,Int.pow_zero,Int.mul_one,Int.mul_one]
theorem chain_end {n k:Int}{gap:Nat}(h:n * 2 ^ gap=k)(ho:k % 2=1):gap=0 /\ n=k:=by
 cases gap with
 | zero=>exact ⟨rfl,by rw [← h,Int.pow_zero,Int.mul_one]⟩
 | succ g =>
  rw [Int.pow_succ,← Int.mul_assoc] at h
  omega
def coreN (n:Int):Int:=(coreL n).headD 0
def shN (n:Int):Int:=(coreL n).getD 1 0
def sgN (n:Int):Int:=(coreL n).getD 2 0
theorem core_three (n:Int):coreL n=[coreN n,shN n,sgN n]:=by
 by_cases h:n=0
 ·subst h; rfl
 ·obtain ⟨m,k,e1,e2⟩:=core_fact h
  unfold coreN shN sgN
  rw [e2]
  rfl
theorem core_props {n:Int}(h:n ≠ 0):0 < coreN n /\ coreN n % 2=1 /\ ∃ k:Nat,shN n=k /\ coreN n * 2 ^ k * sgN n=n /\ (sgN n=1 \/ sgN n = -1) /\ (coreN n).natAbs <= n.natAbs /\ 2 ^ k <= n.natAbs /\ wn (coreN n)=wn n:=by
 obtain ⟨m,k,e1,e2⟩:=core_fact h
 have ec:coreN n=2 * (m:Int)+1:=by unfold coreN; rw [e2]; rfl
 have es:shN n=k:=by unfold shN; rw [e2]; rfl
 have eg:sgN n=if 0 < n then 1 else -1:=by unfold sgN; rw [e2]; rfl
 have en:coreN n * 2 ^ k * sgN n=n:=by
  rw [ec,eg,← e1]
  unfold absI
  split <;> split <;> omega
 have p:=pow_pos2 k
 have ea:absI n=((n.natAbs:Nat):Int):=by unfold absI; split <;> omega
 have e3:((n.natAbs:Nat):Int)=(2 * (m:Int)+1) * 2 ^ k:=by rw [← ea,e1]
 have e4:n.natAbs=(2 * m+1) * 2 ^ k:=by
  have:((n.natAbs:Nat):Int)=(((2 * m+1) * 2 ^ k:Nat):Int):=by rw [e3,Int.natCast_mul,Int.natCast_pow]; rfl
  exact Int.ofNat.inj this
 refine ⟨by omega,by omega,k,es,en,by rw [eg]; split <;> simp,?_,?_,?_⟩
 ·rw [ec,e4]
  have:(2 * (m:Int)+1).natAbs=2 * m+1:=by omega
  rw [this]
  exact Nat.le_mul_of_pos_right _ (Nat.two_pow_pos k)
 ·rw [e4]
  exact Nat.le_mul_of_pos_left _ (by omega)
 ·have hk:∀ (k:Nat) (c:Int),wn (c * 2 ^ k)=wn c:=by
   intro k
   induction k with
   | zero=>intro c; rw [Int.pow_zero,Int.mul_one]
   | succ k ih=>intro c; rw [Int.pow_succ,← Int.mul_assoc,Int.mul_comm _ 2,wn_dbl,ih]
  rcases (show sgN n=1 \/ sgN n = -1 by rw [eg]; split <;> simp) with e | e
  ·rw [e,Int.mul_one] at en
   rw [← hk k,en]
  ·rw [e,Int.mul_neg,Int.mul_one] at en
   rw [← hk k,← wn_neg,en]
def ucs (us:List Int)(n:Int):List Int:=if n=0 then us else if coreN n ∈ us then us else us ++ [coreN n]
def uc (xs:List Int):List Int:=xs.foldl ucs []
theorem ucs_sub {us:List Int}{n c:Int}(h:c ∈ us):c ∈ ucs us n:=by
 unfold ucs
 split
 ·exact h
 ·split
  ·exact h
  ·exact List.mem_append_left _ h
theorem ucs_has {us:List Int}{n:Int}(h:n ≠ 0):coreN n ∈ ucs us n:=by
 unfold ucs
 rw [if_neg h]
 by_cases hc:coreN n ∈ us
 ·rw [if_pos hc]; exact hc
 ·rw [if_neg hc]; exact qK _ List.mem_cons_self
theorem uc_snoc (xs:List Int)(n:Int):uc (xs ++ [n])=ucs (uc xs) n:=by unfold uc; rw [List.foldl_append]; rfl
theorem uc_has (xs:List Int):∀ n ∈ xs,n ≠ 0 -> coreN n ∈ uc xs:=by
 refine snoc_ind (p:=fun xs=>∀ n ∈ xs,n ≠ 0 -> coreN n ∈ uc xs) (by simp) (fun xs x ih n hn h0=>?_) xs
 rw [uc_snoc]
 rcases List.mem_append.mp hn with z | z
 ·exact ucs_sub (ih n z h0)
 ·rw [List.mem_singleton.mp z]
  rw [List.mem_singleton.mp z] at h0
  exact ucs_has h0
theorem uc_of (xs:List Int):∀ c ∈ uc xs,∃ n ∈ xs,n ≠ 0 /\ c=coreN n:=by
 refine snoc_ind (p:=fun xs=>∀ c ∈ uc xs,∃ n ∈ xs,n ≠ 0 /\ c=coreN n) (by intro c h; cases h) (fun xs x ih c hc=>?_) xs
 rw [uc_snoc] at hc
 have old:c ∈ uc xs -> ∃ n ∈ xs ++ [x],n ≠ 0 /\ c=coreN n:=fun h=>by
  obtain ⟨n,hn,r⟩:=ih c h
  exact ⟨n,List.mem_append_left _ hn,r⟩
 unfold ucs at hc
 by_cases h0:x=0
 ·rw [if_pos h0] at hc; exact old hc
 ·rw [if_neg h0] at hc
  by_cases hm:coreN x ∈ uc xs
  ·rw [if_pos hm] at hc; exact old hc
  ·rw [if_neg hm] at hc
   rcases List.mem_append.mp hc with z | z
   ·exact old z
   ·exact ⟨x,qK _ List.mem_cons_self,h0,List.mem_singleton.mp z⟩
theorem uc_len (xs:List Int):(uc xs).length <= xs.length:=by
 refine snoc_ind (p:=fun xs=>(uc xs).length <= xs.length) (Nat.le_refl _) (fun xs x ih=>?_) xs
 rw [uc_snoc,qF]
 unfold ucs
 split
 ·simp; omega
 ·split
  ·simp; omega
  ·simp; omega
theorem uc_nodup (xs:List Int):(uc xs).Nodup:=by
 refine snoc_ind (p:=fun xs=>(uc xs).Nodup) List.nodup_nil (fun xs x ih=>?_) xs
 rw [uc_snoc]
 unfold ucs
 split
 ·exact ih
 ·split
  ·exact ih
  ·rename_i h
   rw [List.nodup_append]
   exact ⟨ih,by simp,fun a ha b hb e=>h (by rw [← List.mem_singleton.mp hb,← e]; exact ha)⟩
def costS (us:List Int):Nat:=(us.map fun c=>wn c - 1).sum
def ukv (us:List Int):List (Key × V):=us.map fun c=>(Sum.inl c,V.bl true)
theorem ukv_val:∀ (us:List Int) (c:Int),valV (ukv us) (.inl c)=if c ∈ us then some (.bl true) else none
 | [],c=>by simp [ukv,valV_nil]
 | u :: r,c=>by
  show valV ((Sum.inl u,V.bl true) :: ukv r) (.inl c)=_
  by_cases h:u=c
  ·subst h
   rw [valV_pos rfl,if_pos List.mem_cons_self]
  ·rw [valV_neg (fun z=>h (Sum.inl.inj z)),ukv_val r c]
   by_cases hm:c ∈ r
   ·rw [if_pos hm,if_pos (List.mem_cons_of_mem _ hm)]
   ·rw [if_neg hm,if_neg (by intro z; rcases List.mem_cons.mp z with e | e; exact h e.symm; exact hm e)]
theorem ukv_put (us:List Int)(c:Int):putK (ukv us) (.inl c) (.bl true)=ukv (if c ∈ us then us else us ++ [c]):=by
 by_cases h:c ∈ us
 ·rw [if_pos h]
  unfold putK
  rw [valV_any,ukv_val,if_pos h,if_pos (show (some (V.bl true)).isSome=true from rfl)]
  unfold ukv
  rw [List.map_map]
  refine List.map_congr_left fun x _=>?_
  show (if (Sum.inl x:Key)=Sum.inl c then ((Sum.inl x:Key),V.bl true) else (Sum.inl x,V.bl true))=_
  split <;> rfl
 ·rw [if_neg h,putK_new _ (by rw [ukv_val,if_neg h])]
  unfold ukv
  rw [List.map_append]
  rfl
theorem ukv_keys (us:List Int):(ukv us).map (fun q=>kV q.1)=us.map V.int:=by
 unfold ukv
 rw [List.map_map]
 rfl
theorem cut_last {ns:List Int}:cutV (ns.map V.int) none (some (-1))=ns.dropLast.map V.int:=by
 unfold cutV
 rw [HT.sIx_none,List.drop_zero,Nat.sub_zero,List.dropLast_eq_take,List.map_take]
 congr 1
 show ((-1:Int)+((ns.map V.int).length:Int)).toNat=_
 rw [qC]
 omega
def spCoreT:Sp:=fun vs H Q _=>∃ n:Int,vs=[.int n] /\ ∀ p,H p=none -> Q (.ref p) (upd H p (.tup [.int (coreN n),.int (shN n),.int (sgN n)]))
def spUC:Sp:=fun vs H Q _=>∃ (a:Addr) (xs:List Int),vs=[.ref a] /\ H a=some (.lst (xs.map V.int)) /\ xs.length <= 1000 /\ ∀ l H',H l=none -> Same H H' -> H' l=some (.lst ((uc xs).map V.int)) -> Q (.ref l) H'
def spDeedOf:Sp:=fun vs H Q _=>∃ (x y:Addr) (a b t:Nat) (u:Nat) (g h:Int),vs=[.ref x,.ref y] /\ H x=some (.tup [.int a,.int u,.int g]) /\ H y=some (.tup [.int b,.int t,.int h]) /\ (g=1 \/ g = -1) /\ (h=1 \/ h = -1) /\
 ∀ r,H r=none -> Q (.ref r) (upd H r (.tup (dTup (deedOf a u g b t h))))
def spChain:Sp:=fun vs H Q _=>∃ (dl:Addr) (us:List V) (ds:List Dd) (odd:Int),vs=[.ref dl,.int odd] /\ H dl=some (.lst us) /\ HDs H us ds /\ DOk ds /\ ds.length <= 3000 /\ 0 < odd /\ odd % 2=1 /\ odd.natAbs < 2 ^ 200 /\
 ∀ (made:Nat) (us':List V) (new:List Dd) H',Chg dl H H' -> H' dl=some (.lst us') -> HDs H' us' (ds ++ new) -> DOk (ds ++ new) -> new.length+1=wn odd -> (ev (ds ++ new))[made]? = some odd -> Q (.int made) H'
def CT0 (K:PySem.W.Frag)(t:Addr):Prop:=∃ (o:Obj) (its:Array Value) (n:Nat),K.lookup t=some o /\ o.cls = .type "tuple" /\ o.data = .seq its n /\ its.size <= sizeLine /\ Vals [.int 0,.int 0,.int 0] its.toList
theorem CT0.sq {K:PySem.W.Frag}{t:Addr}(h:CT0 K t)(H:Hp):SqT K H t [.int 0,.int 0,.int 0]:=.inr h
structure OutOk (ns:List Int) (n:Int) (a b c:Int):Prop where
 ok:(n=0 /\ a=0 /\ b=0 /\ c=0) \/ (n ≠ 0 /\ ∃ (k j:Nat) (m:Int),a=k /\ b=j /\ j <= 300 /\ (c=1 \/ c = -1) /\ ns[k]? = some m /\ m * 2 ^ j * c=n)
structure HOs (K:PySem.W.Frag) (H:Hp) (os:List V) (ns xs:List Int):Prop where
 len:os.length=xs.length
 at_:∀ (k:Nat) (n:Int),xs[k]? = some n -> ∃ (x:Addr) (a b c:Int),os[k]? = some (.ref x) /\ SqT K H x [.int a,.int b,.int c] /\ OutOk ns n a b c
theorem HOs.same {K:PySem.W.Frag}{H H':Hp}{os:List V}{ns xs:List Int}(h:HOs K H os ns xs)(s:Same H H'):HOs K H' os ns xs:=⟨h.len,fun k n e=>by
 obtain ⟨x,a,b,c,e1,e2,e3⟩:=h.at_ k n e
 exact ⟨x,a,b,c,e1,s.seqT e2,e3⟩⟩
theorem HOs.snoc {K:PySem.W.Frag}{H:Hp}{os:List V}{ns xs:List Int}{n a b c:Int}{x:Addr}(h:HOs K H os ns xs)(hx:SqT K H x [.int a,.int b,.int c])(ho:OutOk ns n a b c):HOs K H (os ++ [.ref x]) ns (xs ++ [n]):=by
 refine ⟨by simp [h.len],fun k e he=>?_⟩
 by_cases hk:k < xs.length
 ·rw [qH hk] at he
  obtain ⟨y,a',b',c',e1,e2⟩:=h.at_ k e he
  exact ⟨y,a',b',c',by rw [qH (by rw [h.len]; exact hk)]; exact e1,e2⟩
 ·rw [qG (by omega)] at he
  have hk0:k - xs.length=0:=by
   cases hz:k - xs.length with
   | zero=>rfl
   | succ j=>rw [hz] at he; simp at he
  rw [hk0] at he
  cases he
  refine ⟨x,a,b,c,?_,hx,ho⟩
  rw [qG (by rw [h.len]; omega),h.len,hk0]
  rfl
theorem SqT.updL {K:PySem.W.Frag}{H:Hp}{x l:Addr}{xs us vs:List V}(h:SqT K H x xs)(hl:H l=some (.lst us)):SqT K (upd H l (.lst vs)) x xs:=by
 rcases h with (h | ⟨o,h⟩) | h
 ·exact .inl (.inl (by rw [upd_ne (ne_of h hl (by intro z; cases z))]; exact h))
 ·exact .inl (.inr ⟨o,by rw [upd_ne (ne_of h hl (by intro z; cases z))]; exact h⟩)
 ·exact .inr h
theorem HOs.updL {K:PySem.W.Frag}{H:Hp}{os us vs:List V}{ns xs:List Int}{l:Addr}(h:HOs K H os ns xs)(hl:H l=some (.lst us)):HOs K (upd H l (.lst vs)) os ns xs:=⟨h.len,fun k n e=>by
 obtain ⟨x,a,b,c,e1,e2,e3⟩:=h.at_ k n e
 exact ⟨x,a,b,c,e1,e2.updL hl,e3⟩⟩
theorem costS_take {us:List Int}{i:Nat}{c:Int}(h:us[i]? = some c):costS (us.take (i+1))=costS (us.take i)+(wn c - 1):=by
 unfold costS
 rw [List.take_add_one,h,List.map_append,List.sum_append]
 show _+(List.map _ [c]).sum=_
 rw [List.map_cons,List.map_nil,List.sum_cons,List.sum_nil,Nat.add_zero]
theorem nodup_take {us:List Int}{i:Nat}{c:Int}(hn:us.Nodup)(h:us[i]? = some c):c ∉ us.take i:=by
 intro hm
 obtain ⟨j,hj,e⟩:=List.getElem_of_mem hm
 rw [qO] at hj
 rw [List.getElem_take] at e
 obtain ⟨hi,e2⟩:=qB.mp h
 have:=(List.nodup_iff_pairwise_ne.mp hn)
 have h3:=List.pairwise_iff_getElem.mp this j i (by omega) hi (by omega)
 exact h3 (e.trans e2.symm)
structure Row (K:PySem.W.Frag) (H:Hp) (t dl ol:Addr) (ds:List Dd) (xs:List Int):Prop where
 tup:H t=some (.tup [.int 1,.ref dl,.ref ol])
 dls:∃ us,H dl=some (.lst us) /\ HDs H us ds
 ols:∃ os,H ol=some (.lst os) /\ HOs K H os (ev ds) xs
 ok:DOk ds
 ap:ol ≠ dl
def spBy (K:PySem.W.Frag):Sp:=fun vs H Q _=>∃ (a:Addr) (xs:List Int),vs=[.ref a] /\ H a=some (.lst (xs.map V.int)) /\ xs.length <= 6 /\ (∀ x ∈ xs,x.natAbs < 2 ^ 200) /\
 ∀ (t dl ol:Addr) (ds:List Dd) H',Same H H' -> H t=none -> H dl=none -> H ol=none -> Row K H' t dl ol ds xs -> ds.length=costS (uc xs) -> Q (.ref t) H'
theorem costS_le {us:List Int}(h:∀ c ∈ us,c.natAbs < 2 ^ 200):costS us <= 200 * us.length:=by
 induction us with
 | nil=>exact Nat.le_refl 0
 | cons c r ih =>
  have h1:=ih fun x hx=>h x (List.mem_cons_of_mem _ hx)
  have h2:=wn_bound (h c List.mem_cons_self)
  unfold costS at h1 ⊢
  rw [List.map_cons,List.sum_cons,List.length_cons]
  omega
def spIsTh:Sp:=fun vs H Q _=>∃ (k:Int) (l:Addr) (us:List V),vs=[.int k,.ref l] /\ H l=some (.lst us) /\ 0 <= k /\ k < us.length /\ Q (.bl true) H
section
variable {X:Cx}
end
section
variable {K:PySem.W.Frag}{H:Hp}{Q:VK}
theorem w_ixT {p:Addr}{i:Int}:rIxT K (.ref p) (.int i) H Q = ∃ xs,SqT K H p xs /\ ∃ v,atI xs i=some v /\ Q v H :=
 propext ⟨fun ⟨p',xs,i',v,e1,e2,h,a,q⟩=>by cases e1; cases e2; exact ⟨xs,h,v,a,q⟩,fun ⟨xs,h,v,a,q⟩=>⟨p,xs,i,v,rfl,rfl,h,a,q⟩⟩
theorem w_eqS {x y:Str}:rEq (.str x) (.str y) H Q=Q (.bl (decide (x=y))) H :=
 propext (by
  have e:decide (V.str x=V.str y)=decide (x=y):=by by_cases h:x=y <;> simp [h]
  unfold rEq
  rw [e]
  exact ⟨fun h=>h.2,fun h=>⟨rfl,h⟩⟩)
end
end L2
set_option Elab.async false
set_option linter.all false
set_option maxRecDepth 100000
set_option maxHeartbeats 1000000
namespace L2
open PySem PySem.Spec PyProof.Rows
theorem Inv.turnedL {X:Cx}{pins:List (Addr × Obj)}{σ:St}{H:Hp}{s:Shared}{h':Heap}{t':Nat}(ch:List Addr)(I:Inv X pins σ H s)(k:∀ b o,b ∉ ch -> s.heap.get? b=some o -> h'.get? b=some o)(hf:∀ b ∈ ch,FpOk X pins H b):Inv X pins σ H { s with heap:=h',toks:=t' }:=by
 have nit:∀ b u,H b=some u -> b ∉ ch:=fun b u e z=>by rw [(hf b z).1] at e; cases e
 refine I.step (g':=s.gens) (d':=s.drawn) (ch:=ch) (fun b hb=>?_) (fun b o _ _ hc e _=>k b o hc e) (fun b o _ _ hc e _=>⟨o.slots,k b o hc e⟩) (fun _ _ _ _ n=>n)
  (fun b o hc e=>⟨o,k b o hc e⟩) (fun _ _ e=>e) (fun _ _ _ e=>e) (fun b ps e=>⟨#[],by rw [e]; simp⟩) (fun m hm=>?_) (fun b u e=>?_) I.bare
 ·obtain ⟨f0,f1,f2,f3,f4,f5⟩:=hf b hb
  exact ⟨f3,f1,f4,f5⟩
 ·obtain ⟨o,es,ep,ho,r⟩:=hm
  exact ⟨o,es,ep,k _ o (fun z=>(hf _ z).2.1 rfl) ho,r⟩
 ·refine (I.hok b u e).stay (fun c v hc q=>k c v ?_ q) (fun _ q=>q) fun _ _ q=>q
  rcases hc with z | z
  ·rw [z]; exact nit b u e
  ·exact nit c _ z
theorem get_push_ne {h:Heap}{b:Addr}{o o':Obj}(n:b ≠ h.objs.size)(e:(h.push o').get? b=some o):h.get? b=some o:=by
 rw [Heap.get?_push_ne h b o' n] at e
 exact e
def Itz (K : PySem.W.Frag)(a b : Addr) : It :=
  ⟨fun i H => ∃ xs ys, SqL K H a xs ∧ SqL K H b ys ∧ i < xs.length ∧ i < ys.length,
   fun i H x H' => ∃ T u v, x = .ref T ∧ H T = none ∧ H' = upd H T (.tup [u, v]) ∧ (∀ xs, SqL K H a xs → xs[i]? = some u) ∧ (∀ ys, SqL K H b ys → ys[i]? = some v),
   fun i H => ∃ xs ys, SqL K H a xs ∧ SqL K H b ys ∧ (xs.length ≤ i ∨ ys.length ≤ i)⟩
def tnZ (z TI TO i1 i2 a b:Addr)(i:Nat)(h:Heap):Prop:=IsZip h z TI TO .none /\ IsPair h TI (.ref i1) (.ref i2) /\ (∃ x y,IsPair h TO x y) /\ h.IsListIter i1 a i /\ h.IsListIter i2 b i
theorem turn_zip {P:Program}{w:World}{K:PySem.W.Frag}{elts:List Expr}{x1:Nat}{pos:Pos}{z TI TO i1 i2 a b:Addr}(D:ZipApart z TI TO i1 i2 a b):Turn P w K (.Tuple elts x1 pos) (Itz K a b) [z,TI,TO,i1,i2] z (tnZ z TI TO i1 i2 a b) where
 mem:=by simp
 obj:=fun i h st c hc=>by
  obtain ⟨t1,t2,⟨x0,y0,t3⟩,⟨o4,e4,c4,d4⟩,⟨o5,e5,c5,d5⟩⟩:=st
  simp only [List.mem_cons,List.not_mem_nil,or_false] at hc
  rcases hc with e | e | e | e | e <;> subst e
  ·exact ⟨_,t1,fun v q=>by cases q⟩
  ·exact ⟨_,t2,fun v q=>by cases q⟩
  ·exact ⟨_,t3,fun v q=>by cases q⟩
  ·exact ⟨o4,e4,fun v q=>by rw [d4] at q; cases q⟩
  ·exact ⟨o5,e5,fun v q=>by rw [d5] at q; cases q⟩
 keep:=fun i h h' st k=>by
  obtain ⟨t1,t2,⟨x0,y0,t3⟩,t4,t5⟩:=st
  exact ⟨k z (by simp) _ t1,k TI (by simp) _ t2,⟨x0,y0,k TO (by simp) _ t3⟩,t4.at fun o e=>k i1 (by simp) o e,t5.at fun o e=>k i2 (by simp) o e⟩
 item:=by
  intro X hP hw hK hc i pins s σ H E I hf st hg
  subst hP hw hK
  obtain ⟨xs,ys,hq,hq2,hi,hi2⟩:=hg
  obtain ⟨its,rv,p,hz⟩:=I.list hq
  obtain ⟨its2,rv2,p2,hz2⟩:=I.list hq2
  obtain ⟨u,hu,ru⟩:=rv.get (qA hi)
  obtain ⟨v,hv,rv'⟩:=rv2.get (qA hi2)
  obtain ⟨t1,t2,⟨x0,y0,t3⟩,t4,t5⟩:=st
  have hl1:z < s.heap.objs.size:=Heap.lt_size t1
  have hl3:TO < s.heap.objs.size:=Heap.lt_size t3
  have hl2:TI < s.heap.objs.size:=Heap.lt_size t2
  have hl4:i1 < s.heap.objs.size:=by obtain ⟨o,e,_⟩:=t4; exact Heap.lt_size e
  have hl5:i2 < s.heap.objs.size:=by obtain ⟨o,e,_⟩:=t5; exact Heap.lt_size e
  refine wpAny_pyNext_zip_item D t1 t2 t3 t4 t5 p.isList p2.isList (x:=u) (y:=v) (by simpa using hu) (by simpa using hv) fun h' a1 a2 a3 a4 a5 a6 a7=>⟨_,rfl,?_⟩
  refine wpAny_letOwnedTupleGo_zip a1 fun h2 b1 b2=>?_
  have hT0:H s.heap.objs.size=none:=I.hok.fresh (Nat.le_refl _)
  have I1:Inv X pins σ (upd H s.heap.objs.size (.tup [xs[i],ys[i]])) { s with heap:=s.heap.push { cls:=.type "tuple",data:=.seq [u,v].toArray } } :=
   I.laid (t':=s.toks) (fun b o e=>Heap.get?_push_of_some _ e) (Nat.le_refl _) (show ObjOk X.prog X.w _ _ _ (.tup [xs[i],ys[i]]) from ⟨le_size (by show 2 <= 1000; decide),[u,v],.cons ru (.cons rv' .nil),IsTup.new _ _⟩)
  have fpk:∀ c ∈ [z,TI,TO,i1,i2],c ≠ s.heap.objs.size:=fun c hc=>by
   simp only [List.mem_cons,List.not_mem_nil,or_false] at hc
   rcases hc with e | e | e | e | e <;> subst e <;> exact Nat.ne_of_lt (by assumption)
  have fp2:∀ c ∈ [z,TI,TO,i1,i2],FpOk X pins (upd H s.heap.objs.size (.tup [xs[i],ys[i]])) c:=fun c hc=>by
   obtain ⟨f0,f⟩:=hf c hc
   exact ⟨by rw [upd_ne (fpk c hc)]; exact f0,f⟩
  have I2:Inv X pins σ (upd H s.heap.objs.size (.tup [xs[i],ys[i]])) { s with heap:=h2 }:=by
   refine Inv.turnedL (s:={ s with heap:=s.heap.push { cls:=.type "tuple",data:=.seq [u,v].toArray } }) (t':=s.toks) (h':=h2) [z,TO,i1,i2] I1 (fun b o hb e=>?_) (fun c hc=>fp2 c (by simp only [List.mem_cons,List.not_mem_nil,or_false] at hc ⊢; rcases hc with e | e | e | e <;> simp [e]))
   simp only [List.mem_cons,List.not_mem_nil,or_false,not_or] at hb
   obtain ⟨n1,n2,n3,n4⟩:=hb
   refine (b2.2 b n1).trans ?_
   by_cases hT:b=s.heap.objs.size
   ·subst hT
    rw [Heap.get?_push_size _ rfl] at e
    rw [← e]
    exact a5
   ·exact a7 b o n1 n2 n3 n4 (get_push_ne hT e)
  have t4':h2.IsListIter i1 a (i+1):=a3.at fun o e=>(b2.2 _ D.i1z).trans e
  have t5':h2.IsListIter i2 b (i+1):=a4.at fun o e=>(b2.2 _ D.i2z).trans e
  refine ⟨.ref s.heap.objs.size,_,I2,rfl,⟨_,xs[i],ys[i],rfl,hT0,rfl,fun zs h=>?_,fun zs h=>?_⟩,⟨b1,(b2.2 _ D.TIz).trans (a7 TI _ D.TIz D.TITO D.TIi1 D.TIi2 t2),⟨_,_,(b2.2 _ D.TOz).trans a2⟩,t4',t5'⟩,fun c hc=>(fp2 c hc).1⟩
  ·rw [I.list_inj h hq]; exact qA hi
  ·rw [I.list_inj h hq2]; exact qA hi2
 done:=by
  intro X hP hw hK hc i pins s σ H E I hf st hg
  subst hP hw hK
  obtain ⟨xs,ys,hq,hq2,hend⟩:=hg
  obtain ⟨its,rv,p,hz⟩:=I.list hq
  obtain ⟨its2,rv2,p2,hz2⟩:=I.list hq2
  obtain ⟨t1,t2,⟨x0,y0,t3⟩,t4,t5⟩:=st
  refine wpAny_pyNext_zip_end (I.ok.hd hc) D t1 t2 t3 t4 t5 p.isList p2.isList ?_ fun h' a7=>⟨rfl,?_⟩
  ·rcases hend with e | e
   ·left; simp [← rv.length,e]
   ·right; simp [← rv2.length,e]
  ·refine Inv.turnedL (t':=s.toks) (h':=h') [z,TO,i1,i2] I (fun b o hb e=>?_) (fun c hc=>hf c (by simp only [List.mem_cons,List.not_mem_nil,or_false] at hc ⊢; rcases hc with e | e | e | e <;> simp [e]))
   simp only [List.mem_cons,List.not_mem_nil,or_false,not_or] at hb
   obtain ⟨n1,n2,n3,n4⟩:=hb
   exact a7 b o n1 n2 n3 n4 e
 self:=fun _ _ _ _ _ st h=>wpAny_pyIter_zip st.1 h
def iZip (K:PySem.W.Frag)(ta:TA):TI:=fun σ H R=>ta σ H fun vs H1=>∃ a b xs ys,vs=[.ref a,.ref b] /\ SqL K H1 a xs /\ SqL K H1 b ys /\ R (Itz K a b) H1
theorem pi_zip {X:Cx} {elts:List Expr} {x1:Nat} {tpos:Pos} {a b:Expr} {ta:TA} {p pos:Pos} (hg:Gl X "zip") (hm:X.mg "zip" = none) (ha:PA X [a,b] ta) (hs:starEach [a,b] X.env=(false,eval a X.env) :: starEach [b] X.env:=by rfl) (hpl:(backTo pos (starEach [b] X.env)).any (·.1)=false:=by rfl) :
  PI X (.Tuple elts x1 tpos) (.Call (.Name "zip" p) [a,b] [] pos) (iZip X.K ta):=by
 intro pins s σ H R I h
 refine Call_ (ld_blt I hg hm bo_zip (PyProof.Rows.callWith_type1 (thn (ha pos pins s σ H _ I h) fun us s1 ⟨vs,H1,I1,r1,q1⟩=>?_) hs hpl))
 obtain ⟨l1,l2,xs,ys,e,hq,hq2,q⟩:=q1
 subst e
 obtain ⟨u1,u2,rfl,ru1,ru2⟩:=vals2 r1
 cases (show u1=Value.ref l1 from ru1)
 cases (show u2=Value.ref l2 from ru2)
 obtain ⟨its,rv,pl,hz⟩:=I1.list hq
 obtain ⟨its2,rv2,pl2,hz2⟩:=I1.list hq2
 have lt1:l1 < s1.heap.objs.size:=by obtain ⟨o,e,_⟩:=pl.isList; exact Heap.lt_size e
 have lt2:l2 < s1.heap.objs.size:=by obtain ⟨o,e,_⟩:=pl2.isList; exact Heap.lt_size e
 refine call_zip_2 pl.isList pl2.isList fun h' z1 z2 z3 z4 z5 z6 z7=>?_
 have I2:Inv X pins σ H1 { s1 with heap:=h' }:=I1.kept (t':=s1.toks) z7
 refine wpAny_pyIter_zip z1 ?_
 have D:ZipApart (s1.heap.objs.size+4) (s1.heap.objs.size+2) (s1.heap.objs.size+3) s1.heap.objs.size (s1.heap.objs.size+1) l1 l2:=by
  have q1:@LT.lt Nat _ l1 s1.heap.objs.size:=lt1
  have q2:@LT.lt Nat _ l2 s1.heap.objs.size:=lt2
  constructor <;> (show ¬ @Eq Nat _ _; omega)
 refine ⟨s1.heap.objs.size+4,_,_,_,H1,rfl,I2,turn_zip D,⟨z1,z2,⟨_,_,z3⟩,z4,z5⟩,fun c hc=>?_,q⟩
 have hle:s1.heap.objs.size <= c:=by
  simp only [List.mem_cons,List.not_mem_nil,or_false] at hc
  show (s1.heap.objs.size:Nat) <= c
  rcases hc with e | e | e | e | e <;> subst e <;> (show @LE.le Nat _ _ _; omega)
 exact I1.fpOk hle (I1.hok.fresh hle)
end L2
set_option Elab.async false
set_option linter.all false
set_option maxRecDepth 100000
set_option maxHeartbeats 1000000
namespace L2
open PySem PySem.Spec PyProof.Rows
theorem bo_enumerate:bootBuiltins "enumerate" = some (.type "enumerate"):=by decide +kernel
def Ite (K : PySem.W.Frag)(a : Addr) : It :=
  ⟨fun i H => ∃ xs, SqL K H a xs ∧ i < xs.length,
   fun i H x H' => ∃ T u, x = .ref T ∧ H T = none ∧ H' = upd H T (.tup [.int (i : Int), u]) ∧ (∀ xs, SqL K H a xs → xs[i]? = some u),
   fun i H => ∃ xs, SqL K H a xs ∧ xs.length ≤ i⟩
theorem turn_enum {P:Program}{w:World}{K:PySem.W.Frag}{elts:List Expr}{x1:Nat}{pos:Pos}{e it a:Addr}(hne:e ≠ it):Turn P w K (.Tuple elts x1 pos) (Ite K a) [e,it] e (fun i h=>(∃ old,IsEnum h e it (i:Int) old) /\ h.IsListIter it a i) where
 mem:=by simp
 obj:=fun i h st c hc=>by
  obtain ⟨⟨old,t1⟩,⟨o2,e2,c2,d2⟩⟩:=st
  simp only [List.mem_cons,List.not_mem_nil,or_false] at hc
  rcases hc with z | z <;> subst z
  ·exact ⟨_,t1,fun v q=>by cases q⟩
  ·exact ⟨o2,e2,fun v q=>by rw [d2] at q; cases q⟩
 keep:=fun i h h' st k=>by
  obtain ⟨⟨old,t1⟩,t2⟩:=st
  exact ⟨⟨old,k e (by simp) _ t1⟩,t2.at fun o z=>k it (by simp) o z⟩
 item:=by
  intro X hP hw hK hc i pins s σ H E I hf st hg
  subst hP hw hK
  obtain ⟨xs,hq,hi⟩:=hg
  obtain ⟨its,rv,p,hz⟩:=I.list hq
  obtain ⟨u,hu,ru⟩:=rv.get (qA hi)
  obtain ⟨⟨old,t1⟩,t2⟩:=st
  have hl1:e < s.heap.objs.size:=Heap.lt_size t1
  have hl2:it < s.heap.objs.size:=by obtain ⟨o,z,_⟩:=t2; exact Heap.lt_size z
  refine wpAny_pyNext_enum_item t1 t2 p.isList (x:=u) (by simpa using hu) hne fun h' a1 a2 a3 a4 a5=>⟨_,rfl,?_⟩
  refine wpAny_letOwnedTupleGo_enum (s:={ s with heap:=h',toks:=s.toks+1 }) a1 fun h2 b1 b2=>?_
  have hT0:H s.heap.objs.size=none:=I.hok.fresh (Nat.le_refl _)
  have I1:Inv X pins σ (upd H s.heap.objs.size (.tup [.int (i:Int),xs[i]])) { s with heap:=s.heap.push { cls:=.type "tuple",data:=.seq [Value.int (i:Int) s.toks,u].toArray } } :=
   I.laid (t':=s.toks) (fun b o z=>Heap.get?_push_of_some _ z) (Nat.le_refl _) (show ObjOk X.prog X.w _ _ _ (.tup [.int (i:Int),xs[i]]) from ⟨le_size (by show 2 <= 1000; decide),[Value.int (i:Int) s.toks,u],.cons ⟨_,rfl⟩ (.cons ru .nil),IsTup.new _ _⟩)
  have fpk:∀ c ∈ [e,it],c ≠ s.heap.objs.size:=fun c hc=>by
   simp only [List.mem_cons,List.not_mem_nil,or_false] at hc
   rcases hc with z | z <;> subst z <;> exact Nat.ne_of_lt (by assumption)
  have fp2:∀ c ∈ [e,it],FpOk X pins (upd H s.heap.objs.size (.tup [.int (i:Int),xs[i]])) c:=fun c hc=>by
   obtain ⟨f0,f⟩:=hf c hc
   exact ⟨by rw [upd_ne (fpk c hc)]; exact f0,f⟩
  have I2:Inv X pins σ (upd H s.heap.objs.size (.tup [.int (i:Int),xs[i]])) { s with heap:=h2,toks:=s.toks+1 }:=by
   refine Inv.turnedL (s:={ s with heap:=s.heap.push { cls:=.type "tuple",data:=.seq [Value.int (i:Int) s.toks,u].toArray } }) (t':=s.toks+1) (h':=h2) [e,it] I1 (fun b o hb z=>?_) fp2
   simp only [List.mem_cons,List.not_mem_nil,or_false,not_or] at hb
   obtain ⟨n1,n2⟩:=hb
   refine (b2.2 b n1).trans ?_
   by_cases hT:b=s.heap.objs.size
   ·subst hT
    rw [Heap.get?_push_size _ rfl] at z
    rw [← z]
    exact a3
   ·exact a5 b o n1 n2 (get_push_ne hT z)
  have e1:((i:Int)+1)=((i+1:Nat):Int):=by omega
  rw [e1] at b1
  refine ⟨.ref s.heap.objs.size,_,I2,rfl,⟨_,xs[i],rfl,hT0,rfl,fun zs h=>?_⟩,⟨⟨_,b1⟩,a2.at fun o z=>(b2.2 _ hne.symm).trans z⟩,fun c hc=>(fp2 c hc).1⟩
  rw [I.list_inj h hq]; exact qA hi
 done:=by
  intro X hP hw hK hc i pins s σ H E I hf st hg
  subst hP hw hK
  obtain ⟨xs,hq,hend⟩:=hg
  obtain ⟨its,rv,p,hz⟩:=I.list hq
  obtain ⟨⟨old,t1⟩,t2⟩:=st
  refine wpAny_pyNext_enum_end (I.ok.hd hc) t1 t2 p.isList (by simp [← rv.length,hend]) fun h' a7=>⟨rfl,?_⟩
  refine Inv.turnedL (t':=s.toks) (h':=h') [it] I (fun b o hb z=>a7 b o (by simpa using hb) z) (fun c hc=>hf c (by simp only [List.mem_cons,List.not_mem_nil,or_false] at hc ⊢; exact .inr hc))
 self:=fun _ i s _ _ st h=>by
  obtain ⟨⟨old,t1⟩,t2⟩:=st
  exact wpAny_pyIter_enum t1 h
def iEnum (K:PySem.W.Frag)(ta:TA):TI:=fun σ H R=>ta σ H fun vs H1=>∃ a xs,vs=[.ref a] /\ SqL K H1 a xs /\ R (Ite K a) H1
theorem pi_enum {X:Cx} {elts:List Expr} {x1:Nat} {tpos:Pos} {a:Expr} {ta:TA} {p pos:Pos} (hg:Gl X "enumerate") (hm:X.mg "enumerate" = none) (ha:PA X [a] ta) (hs:starEach [a] X.env=[(false,eval a X.env)]:=by rfl) :
  PI X (.Tuple elts x1 tpos) (.Call (.Name "enumerate" p) [a] [] pos) (iEnum X.K ta):=by
 intro pins s σ H R I h
 refine Call_ (ld_blt I hg hm bo_enumerate (PyProof.Rows.callWith_type1 (thn (ha pos pins s σ H _ I h) fun us s1 ⟨vs,H1,I1,r1,q1⟩=>?_) hs rfl))
 obtain ⟨l1,xs,e,hq,q⟩:=q1
 subst e
 obtain ⟨u1,rfl,ru1⟩:=vals1 r1
 cases (show u1=Value.ref l1 from ru1)
 obtain ⟨its,rv,pl,hz⟩:=I1.list hq
 refine call_enumerate_list pl.isList fun h' z1 z2 z3 z4=>?_
 have I2:Inv X pins σ H1 { s1 with heap:=h' }:=I1.kept (t':=s1.toks) z4
 refine wpAny_pyIter_enum z1 ?_
 refine ⟨s1.heap.objs.size+1,_,_,_,H1,rfl,I2,turn_enum (by show ¬ @Eq Nat _ _; omega),⟨⟨_,z1⟩,z2⟩,fun c hc=>?_,q⟩
 have hle:s1.heap.objs.size <= c:=by
  simp only [List.mem_cons,List.not_mem_nil,or_false] at hc
  rcases hc with z | z <;> subst z <;> (show @LE.le Nat _ _ _; omega)
 exact I1.fpOk hle (I1.hok.fresh hle)
section
variable {K:PySem.W.Frag}{σ:St}{H:Hp}{Q:VK}
theorem comp_any {J:It}{nt:Nat}{cs:List Nat}{g:TG}{tt:TT}{te:TE}(n:Nat)(Pv:Addr -> Nat -> List V -> Hp -> Prop)(hz:n <= sizeLine)
  (hgo:∀ acc i ys H',i < n -> Pv acc i ys H' -> J.go i H') (hst:∀ acc ys H',Pv acc n ys H' -> J.stop n H')
  (h0:∀ acc,H acc=none -> Pv acc 0 [] (upd H acc (.lst []))) (hacc:∀ acc i ys H',Pv acc i ys H' -> H' acc=some (.lst ys) /\ ys.length <= i)
  (hs:∀ acc i ys H' (ts:St) x H2 (N:List V -> St -> Hp -> Prop),H acc=none -> i < n -> Pv acc i ys H' -> J.yld i H' x H2 -> ts.length=nt -> (∀ zs (ts':St) H3,ts'.length=nt -> Pv acc (i+1) zs H3 -> N zs (ts' ++ capV cs σ) H3) ->
   g x (ts ++ capV cs σ) H2 fun σ3 H3=>tt σ3 H3 fun b H4=>if b=true then te σ3 H4 fun y H5=>H5 acc=some (.lst ys) /\ N (ys ++ [y]) σ3 (upd H5 acc (.lst (ys ++ [y]))) else N ys σ3 H4)
  (hd:∀ acc ys H',H acc=none -> Pv acc n ys H' -> Q (.ref acc) H'):CompIt J nt cs g tt te σ H Q:=by
 intro acc hn
 refine ⟨fun i m ys σ' H'=>m=n - i /\ i <= n /\ (∃ ts:St,ts.length=nt /\ σ'=ts ++ capV cs σ) /\ Pv acc i ys H',⟨_,rfl,Nat.zero_le _,⟨qQ nt none,qL,rfl⟩,h0 acc hn⟩,?_⟩
 rintro i m ys σ' H' ⟨rfl,hi,⟨ts,hts,rfl⟩,p⟩
 obtain ⟨ha,hl⟩:=hacc acc i ys H' p
 refine ⟨ha,?_⟩
 by_cases hlt:i < n
 ·refine .inr ⟨hgo acc i ys H' hlt p,by omega,fun zs σ2 H2=>(∃ ts:St,ts.length=nt /\ σ2=ts ++ capV cs σ) /\ Pv acc (i+1) zs H2,fun zs σ2 H2 ⟨q1,q2⟩=>⟨n - (i+1),by omega,rfl,hlt,q1,q2⟩,fun x H2 y=>?_⟩
  exact hs acc i ys H' ts x H2 (fun zs σ2 H2=>(∃ ts:St,ts.length=nt /\ σ2=ts ++ capV cs σ) /\ Pv acc (i+1) zs H2) hn hlt p y hts fun zs ts' H3 h1 h2=>⟨⟨ts',h1,rfl⟩,h2⟩
 ·have e:i=n:=by omega
  subst e
  exact .inl ⟨hst acc ys H' p,hd acc ys H' hn p⟩
theorem w_compE {ta:TA}{nt:Nat}{cs:List Nat}{g:TG}{tt:TT}{te:TE}:tComp (iEnum K ta) nt cs g tt te σ H Q=(ta σ H fun vs H1=>∃ a xs,vs=[.ref a] /\ SqL K H1 a xs /\ CompIt (Ite K a) nt cs g tt te σ H1 Q):=rfl
theorem w_compZ {ta:TA}{nt:Nat}{cs:List Nat}{g:TG}{tt:TT}{te:TE}:tComp (iZip K ta) nt cs g tt te σ H Q=(ta σ H fun vs H1=>∃ a b xs ys,vs=[.ref a,.ref b] /\ SqL K H1 a xs /\ SqL K H1 b ys /\ CompIt (Itz K a b) nt cs g tt te σ H1 Q):=rfl
end
def Itr3 (lo c:Int)(n:Nat):It:=⟨fun i _=>i < n,fun i H x H'=>H'=H /\ x = .int (lo+i * c),fun i _=>n <= i⟩
theorem turn_range3 {P:Program}{w:World}{K:PySem.W.Frag}{tg:Expr}(it:Addr)(lo c:Int)(n:Nat):Turn P w K tg (Itr3 lo c n) [it] it (fun i h=>IsRangeIter h it (lo+(i:Nat) * c) ((n:Int) - (i:Nat)) c) where
 mem:=by simp
 obj:=fun i h st b hb=>by
  have e:b=it:=by simpa using hb
  subst e
  exact ⟨_,st,fun v z=>by
   have z':Data.fields _=Data.cell v:=z
   cases z'⟩
 keep:=fun i h h' st k=>k it (by simp) _ st
 item:=by
  intro X hP hw hK hc i pins s σ H E I hf st hg
  subst hP hw hK
  obtain ⟨f0,f1,f2,f3,f4,f5⟩:=hf it (by simp)
  have W:=Walks.range (prog:=X.prog) (w:=X.w) (I.ok.hd hc) it lo c n
  refine W.item i s _ _ hg st fun v h' tk hv st' kk=>?_
  obtain ⟨t,rfl⟩:=hv
  have I1:Inv X pins σ H { s with heap:=h',toks:=tk }:=I.turned (fun b o hb e=>kk b o (by simpa using hb) e) f0 f1 f3 f4 f5
  exact ⟨_,rfl,go_of (s:={ s with heap:=h',toks:=tk }) (n:="range_iterator") st' rfl rfl (by decide) ⟨.int (lo+i * c),H,I1,⟨t,rfl⟩,⟨rfl,rfl⟩,st',fun b hb=>(hf b hb).1⟩⟩
 done:=by
  intro X hP hw hK hc i pins s σ H E I hf st hg
  subst hP hw hK
  obtain ⟨f0,f1,f2,f3,f4,f5⟩:=hf it (by simp)
  exact wpAny_pyNext_range_end (I.ok.hd hc) st (by have:n <= i:=hg; omega) fun h' eb=>⟨rfl,I.turned (t':=s.toks) (fun b o hb e=>eb b o hb e) f0 f1 f3 f4 f5⟩
 self:=fun _ _ _ _ _ st h=>wpAny_pyIter_rangeiter st h
def stepN (lo hi c:Int):Nat:=(Builtin.Range.rangeSize lo hi c).toNat
def iRng3 (ta:TA):TI:=fun σ H R=>ta σ H fun vs H1=>∃ i j c:Int,vs=[.int i,.int j,.int c] /\ (0 <= i /\ i < 2 ^ 31 /\ -1 <= j /\ j < 2 ^ 31 /\ c=2) /\ R (Itr3 i c (stepN i j c)) H1
def ForR3 (lo c:Int)(n:Nat)(g:TG)(tb:TS)(D:Ends)(σ:St)(H:Hp):Prop:=∃ W:Nat -> Nat -> St -> Hp -> Prop,(∃ m,W 0 m σ H) /\ ∀ i m σ H,W i m σ H ->
 ((Itr3 lo c n).stop i H /\ D.nx σ H) \/ ((Itr3 lo c n).go i H /\ ∃ N:St -> Hp -> Prop,(∀ σ' H',N σ' H' -> ∃ m',m' < m /\ W (i+1) m' σ' H') /\ ∀ x H',(Itr3 lo c n).yld i H x H' -> g x σ H' fun σ2 H2=>tb { D with nx:=N,ct:=N,bk:=D.nx } σ2 H2)
section
variable {σ:St}{H:Hp}{D:Ends}{g:TG}{tb:TS}{lo c:Int}{n:Nat}
theorem w_for3 {ta:TA}:tFor (iRng3 ta) g tb D σ H=(ta σ H fun vs H1=>∃ i j c:Int,vs=[.int i,.int j,.int c] /\ (0 <= i /\ i < 2 ^ 31 /\ -1 <= j /\ j < 2 ^ 31 /\ c=2) /\ ForR3 i c (stepN i j c) g tb D σ H1):=rfl
theorem forR3 (Pv:Nat -> St -> Hp -> Prop)(h0:Pv 0 σ H)(hs:∀ i σ H (N:St -> Hp -> Prop),i < n -> Pv i σ H -> (∀ σ' H',Pv (i+1) σ' H' -> N σ' H') -> g (.int (lo+i * c)) σ H fun σ2 H2=>tb { D with nx:=N,ct:=N,bk:=D.nx } σ2 H2)
  (hd:∀ σ H,Pv n σ H -> D.nx σ H):ForR3 lo c n g tb D σ H:=by
 refine ⟨fun i m σ H=>m=n - i /\ i <= n /\ Pv i σ H,⟨n,by simp,Nat.zero_le _,h0⟩,?_⟩
 rintro i m σ H ⟨rfl,hi,p⟩
 by_cases hlt:i < n
 ·refine .inr ⟨hlt,Pv (i+1),fun σ' H' p'=>⟨n - (i+1),by omega,rfl,hlt,p'⟩,fun x H' y=>?_⟩
  obtain ⟨e,rfl⟩:=y
  subst e
  exact hs i σ _ (Pv (i+1)) hlt p fun _ _ z=>z
 ·have e:i=n:=by omega
  subst e
  exact .inl ⟨Nat.le_refl _,hd σ H p⟩
end
end L2
set_option Elab.async false
set_option linter.all false
set_option maxRecDepth 100000
set_option maxHeartbeats 1000000
namespace L2
open PySem PySem.Spec
theorem get_snoc {α:Type}{xs:List α}{x y:α}{i:Nat}(h:(xs ++ [x])[i]? = some y):(i < xs.length /\ xs[i]? = some y) \/ (i=xs.length /\ y=x):=by
 by_cases hi:i < xs.length
 ·rw [qH hi] at h
  exact .inl ⟨hi,h⟩
 ·rw [qG (by omega)] at h
  have hz:i - xs.length=0:=by
   cases hk:i - xs.length with
   | zero=>rfl
   | succ m=>rw [hk] at h; simp at h
  rw [hz] at h
  cases h
  exact .inr ⟨by omega,rfl⟩
end L2
set_option Elab.async false
set_option linter.all false
set_option maxRecDepth 100000
set_option maxHeartbeats 1000000
namespace L2
open PySem PySem.Spec PyProof.Rows
def gTupK (K:PySem.W.Frag)(n:Nat)(t:TGs):TG:=gTup K n t
theorem pg_tupK {X:Cx}(K:PySem.W.Frag){es:List Expr}{k:Nat}{t:TGs}{pos:Pos}(n:Nat)(hc:X.calm=true)(h:PGs X es t)(hK:X.K=K:=by rfl)(hn:(assignEach es X.env).length=n:=by rfl)(hst:(assignEach es X.env).findIdx? (·.1)=none:=by rfl):PG X (.Tuple es k pos) (gTupK K n t):=by
 subst hK
 exact pg_tup (X:=X) (n:=n) hc h hn hst
section
variable {K:PySem.W.Frag}{σ:St}{H:Hp}{R:St -> Hp -> Prop}
theorem w_gTupK {n:Nat}{t:TGs}{a:Addr}:gTupK K n t (.ref a) σ H R = ∃ xs,SqT K H a xs /\ xs.length=n /\ t xs σ H R :=
 propext ⟨fun ⟨a',xs,e,h,l,q⟩=>by cases e; exact ⟨xs,h,l,q⟩,fun ⟨xs,h,l,q⟩=>⟨a,xs,rfl,h,l,q⟩⟩
end
end L2
set_option Elab.async false
set_option linter.all false
set_option maxRecDepth 100000
set_option maxHeartbeats 1000000
namespace L2
open PySem PySem.Spec PyProof.Rows
section
variable {X:Cx}{pins:List (Addr × Obj)}{σ:St}{H:Hp}{s:Shared}{p:Addr}{xs:List V}
def gLst (n:Nat)(t:TGs):TG:=fun v σ H Q=>∃ a xs,v = .ref a /\ H a=some (.lst xs) /\ xs.length=n /\ t xs σ H Q
end
section
variable {σ:St}{H:Hp}{R:St -> Hp -> Prop}
theorem w_gLst {n:Nat}{t:TGs}{a:Addr}:gLst n t (.ref a) σ H R = ∃ xs,H a=some (.lst xs) /\ xs.length=n /\ t xs σ H R :=
 propext ⟨fun ⟨a',xs,e,h,l,q⟩=>by cases e; exact ⟨xs,h,l,q⟩,fun ⟨xs,h,l,q⟩=>⟨a,xs,rfl,h,l,q⟩⟩
end
def ForE (K:PySem.W.Frag)(a:Addr)(g:TG)(tb:TS)(D:Ends)(σ:St)(H:Hp):Prop:=∃ W:Nat -> Nat -> St -> Hp -> Prop,(∃ m,W 0 m σ H) /\ ∀ i m σ H,W i m σ H ->
 ((Ite K a).stop i H /\ D.nx σ H) \/ ((Ite K a).go i H /\ ∃ N:St -> Hp -> Prop,(∀ σ' H',N σ' H' -> ∃ m',m' < m /\ W (i+1) m' σ' H') /\ ∀ x H',(Ite K a).yld i H x H' -> g x σ H' fun σ2 H2=>tb { D with nx:=N,ct:=N,bk:=D.nx } σ2 H2)
section
variable {K:PySem.W.Frag}{σ:St}{H:Hp}{D:Ends}{g:TG}{tb:TS}{a:Addr}
theorem w_forE {ta:TA}:tFor (iEnum K ta) g tb D σ H=(ta σ H fun vs H1=>∃ a xs,vs=[.ref a] /\ SqL K H1 a xs /\ ForE K a g tb D σ H1):=rfl
theorem forE {xs:List V}(Pv:Nat -> St -> Hp -> Prop)(h0:Pv 0 σ H)(hl:∀ i σ H,i <= xs.length -> Pv i σ H -> SqL K H a xs)
  (hs:∀ i x T σ H (N:St -> Hp -> Prop),xs[i]? = some x -> H T=none -> Pv i σ H -> (∀ σ' H',Pv (i+1) σ' H' -> N σ' H') -> g (.ref T) σ (upd H T (.tup [.int (i:Int),x])) fun σ2 H2=>tb { D with nx:=N,ct:=N,bk:=D.nx } σ2 H2)
  (hd:∀ σ H,Pv xs.length σ H -> D.nx σ H):ForE K a g tb D σ H:=by
 refine ⟨fun i m σ H=>m=xs.length - i /\ i <= xs.length /\ Pv i σ H,⟨_,rfl,Nat.zero_le _,h0⟩,?_⟩
 rintro i m σ H ⟨rfl,hi,p⟩
 have q:=hl i σ H hi p
 by_cases hlt:i < xs.length
 ·refine .inr ⟨⟨xs,q,hlt⟩,Pv (i+1),fun σ' H' p'=>⟨xs.length - (i+1),by omega,rfl,hlt,p'⟩,fun x H' y=>?_⟩
  obtain ⟨T,u,rfl,hT,rfl,hu⟩:=y
  exact hs i u T σ H (Pv (i+1)) (hu xs q) hT p fun _ _ z=>z
 ·have e:i=xs.length:=by omega
  subst e
  exact .inl ⟨⟨xs,q,Nat.le_refl _⟩,hd σ H p⟩
end
end L2
set_option Elab.async false
set_option linter.all false
set_option maxRecDepth 100000
set_option maxHeartbeats 1000000
namespace L2
open PySem PySem.Spec
def mvI (s n:Int):Int:=n * 2 ^ (if 0 > s then (0:Int) else s).toNat / 2 ^ (if 0 > 0 - s then (0:Int) else 0 - s).toNat
end L2
set_option Elab.async false
set_option linter.all false
set_option maxRecDepth 100000
set_option maxHeartbeats 1000000
namespace L2
open PySem PySem.Spec
structure Wd where
 w:Str
 a:Nat
 s:Int
 b:Nat
 t:Int
structure Go where
 th:Nat
 sh:Int
 sg:Int
def wTup (d:Wd):List V:=[.str d.w,.int d.a,.int d.s,.int d.b,.int d.t]
def gTp (g:Go):List V:=[.int g.th,.int g.sh,.int g.sg]
structure HTs {α:Type} (f:α -> List V) (H:Hp) (vs:List V) (xs:List α):Prop where
 len:vs.length=xs.length
 at_:∀ (k:Nat) (x:α),xs[k]? = some x -> ∃ p:Addr,vs[k]? = some (.ref p) /\ H p=some (.tup (f x))
section
variable {α:Type}{f:α -> List V}{H H':Hp}{vs us:List V}{xs:List α}{l:Addr}
theorem HTs.same (h:HTs f H vs xs)(s:Same H H'):HTs f H' vs xs:=⟨h.len,fun k d e=>by
 obtain ⟨x,e1,e2⟩:=h.at_ k d e
 exact ⟨x,e1,s _ _ e2⟩⟩
theorem HTs.chgL (h:HTs f H vs xs)(hl:H l=some (.lst us))(c:Chg l H H'):HTs f H' vs xs:=⟨h.len,fun k d e=>by
 obtain ⟨x,e1,e2⟩:=h.at_ k d e
 exact ⟨x,e1,c _ _ (ne_of e2 hl (by intro z; cases z)) e2⟩⟩
theorem HTs.snoc {x:α}{p:Addr}(h:HTs f H vs xs)(hx:H p=some (.tup (f x))):HTs f H (vs ++ [.ref p]) (xs ++ [x]):=by
 refine ⟨by simp [h.len],fun k e he=>?_⟩
 rcases get_snoc he with ⟨hk,z⟩ | ⟨hk,rfl⟩
 ·obtain ⟨y,e1,e2⟩:=h.at_ k e z
  exact ⟨y,by rw [qH (by rw [h.len]; exact hk)]; exact e1,e2⟩
 ·refine ⟨p,?_,hx⟩
  rw [qG (by rw [h.len]; omega),h.len,hk,Nat.sub_self]
  rfl
theorem hts_nil:HTs f H [] []:=⟨rfl,fun k d h=>by simp at h⟩
end
structure HRs (H:Hp) (ex:List Addr) (vs:List V) (rs:List (List Int)):Prop where
 len:vs.length=rs.length
 at_:∀ (k:Nat) (r:List Int),rs[k]? = some r -> ∃ p:Addr,vs[k]? = some (.ref p) /\ H p=some (.lst (r.map V.int)) /\ ∀ e ∈ ex,p ≠ e
section
variable {H H':Hp}{ex:List Addr}{vs:List V}{rs:List (List Int)}{l:Addr}
end
def RB (b:Nat)(rs:List (List Int)):Prop:=∀ r ∈ rs,r.length <= 12 /\ ∀ n ∈ r,n.natAbs <= 2 ^ b
structure WebOk (ins:Nat) (ds:List Wd) (gs:List Go):Prop where
 i1:1 <= ins
 i2:ins <= 12
 dk:∀ (k:Nat) (d:Wd),ds[k]? = some d -> d.a < ins+k /\ d.b < ins+k /\ (d.w = "sum" \/ d.w = "less")
 gk:∀ g ∈ gs,g.th < ins+ds.length
 dl:ds.length <= 60
 gl:gs.length <= 12
end L2
set_option Elab.async false
set_option linter.all false
set_option maxRecDepth 100000
set_option maxHeartbeats 1000000
namespace L2
open PySem PySem.Spec PyProof.Rows
section
variable {X:Cx}
end
end L2
set_option Elab.async false
set_option linter.all false
set_option maxRecDepth 100000
set_option maxHeartbeats 1000000
namespace L2
open PySem PySem.Spec
theorem Chg.updN {p q:Addr}{H H':Hp}{o:HO}(c:Chg p H H')(h:H q=none):Chg p H (L2.upd H' q o):=fun b u n e=>by rw [upd_ne (ne_of_none e h)]; exact c b u n e
section
variable {K:PySem.W.Frag}{σ:St}{H:Hp}{Q:VK}{cs:List Nat}{te:TE}
theorem comp_zip {r1 r2:Addr}{us vs:List V}(h1:SqL K H r1 us)(h2:SqL K H r2 vs)(hl:vs.length=us.length)(hz:us.length <= 1000)(zs:List V)(hzl:zs.length=us.length)
  (hb:∀ (i:Nat) (x y z:V) H' (R:VK),us[i]? = some x -> vs[i]? = some y -> zs[i]? = some z -> Same H H' -> R z H' -> te ([some x,some y] ++ capV cs σ) H' R)
  (hd:∀ acc H',H acc=none -> Same H H' -> H' acc=some (.lst zs) -> Q (.ref acc) H') :
  CompIt (Itz K r1 r2) 2 cs (gTupM 2 (gCons (gName 0) (gCons (gName 1) gNil))) tYes te σ H Q:=by
 refine comp_any us.length (fun acc i ws H'=>Same H H' /\ H' acc=some (.lst ws) /\ ws=zs.take i) (le_size hz) ?_ ?_ ?_ ?_ ?_ ?_
 ·rintro acc i ws H' hi ⟨s,_,_⟩
  exact ⟨_,_,s.seq h1,s.seq h2,hi,by omega⟩
 ·rintro acc ws H' ⟨s,_,_⟩
  exact ⟨_,_,s.seq h1,s.seq h2,.inl (Nat.le_refl _)⟩
 ·intro acc ha
  exact ⟨same_new ha _,upd_same,rfl⟩
 ·rintro acc i ws H' ⟨s,ha,rfl⟩
  exact ⟨ha,by rw [qO]; omega⟩
 ·rintro acc i ws H' ts x H2 N hn hi ⟨s,ha,rfl⟩ ⟨T,u,v,rfl,hT,rfl,e1,e2⟩ hts hN
  have hu:=e1 _ (s.seq h1)
  have hv:=e2 _ (s.seq h2)
  obtain ⟨z,hzi⟩:∃ z,zs[i]? = some z:=⟨_,qA (by omega)⟩
  obtain ⟨t0,t1,rfl⟩:∃ t0 t1,ts=[t0,t1]:=by
   match ts,hts with
   | [a,b],_=>exact ⟨a,b,rfl⟩
  rw [w_gTupM]
  refine ⟨[u,v],upd_same,rfl,?_⟩
  rw [w_gCons,w_gName,w_gCons,w_gName,w_gNil,w_yes,if_pos rfl]
  have sT:=same_new hT (.tup [u,v])
  refine hb i u v z _ _ hu hv hzi (s.trans sT) ?_
  have tk:zs.take (i+1)=zs.take i ++ [z]:=by rw [List.take_add_one,hzi]; rfl
  refine ⟨sT _ _ ha,hN _ [some u,some v] _ rfl ⟨same_upd hn (s.trans sT),upd_same,tk.symm⟩⟩
 ·rintro acc ws H' hn ⟨s,ha,rfl⟩
  refine hd acc H' hn s ?_
  rw [ha,List.take_of_length_le (by omega)]
end
def unitRow (n i:Nat):List Int:=(List.range n).map fun k=>if k=i then 1 else 0
def unV (i:Nat):V -> Option V:=fun x=>match x with
 | .int k=>some (.int (if k=(i:Int) then 1 else 0))
 | _=>none
theorem unV_map (n i:Nat):(rngV 0 n).filterMap (unV i)=(unitRow n i).map V.int:=by
 unfold rngV unitRow
 rw [List.map_map,List.filterMap_map]
 rw [show (unV i ∘ fun (k:Nat)=>V.int (0+(k:Int)))=fun k=>some ((V.int ∘ fun k=>if k=i then 1 else 0) k) from ?_,filterMap_some]
 funext k
 show some (V.int (if 0+(k:Int)=(i:Int) then 1 else 0))=some (V.int (if k=i then 1 else 0))
 by_cases h:k=i
 ·subst h; rw [if_pos (by omega),if_pos rfl]
 ·rw [if_neg (by omega),if_neg h]
theorem unitRow_bound {n i:Nat}{x:Int}(h:x ∈ unitRow n i):x=0 \/ x=1:=by
 unfold unitRow at h
 obtain ⟨k,_,rfl⟩:=qP.mp h
 by_cases e:k=i
 ·rw [if_pos e]; exact .inr rfl
 ·rw [if_neg e]; exact .inl rfl
end L2
set_option Elab.async false
set_option linter.all false
set_option maxRecDepth 100000
set_option maxHeartbeats 1000000
namespace L2
open PySem PySem.Spec
theorem map_at {ns:List Int}{i:Nat}{x:V}(h:(ns.map V.int)[i]? = some x):∃ n,ns[i]? = some n /\ x=V.int n:=by
 rw [qI] at h
 cases e:ns[i]? with
 | none=>rw [e] at h; cases h
 | some n=>rw [e] at h; exact ⟨n,rfl,(Option.some.inj h).symm⟩
structure WI (H:Hp) (p:Addr) (ins:Nat) (tb dl:Addr) (k:Nat) (vs us:List V) (rs:List (List Int)) (ds:List Wd) (H':Hp):Prop where
 tbl:H' tb=some (.lst vs)
 hrs:HRs H' [dl,tb,p] vs rs
 rl:rs.length=ins+k
 rb:RB (41 * k) rs
 rw_:∀ r ∈ rs,r.length=ins
 dll:H' dl=some (.lst us)
 hds:HTs wTup H' us ds
 dlen:ds.length=k
 dk:∀ (j:Nat) (d:Wd),ds[j]? = some d -> d.a < ins+j /\ d.b < ins+j /\ (d.w = "sum" \/ d.w = "less")
 chg:Chg p H H'
 ntb:H tb=none
 ndl:H dl=none
 tp:tb ≠ p
 dp:dl ≠ p
 td:tb ≠ dl
structure WG (H:Hp) (p:Addr) (ins:Nat) (tb dl gl:Addr) (k:Nat) (vs us os:List V) (rs:List (List Int)) (ds:List Wd) (gs:List Go) (H':Hp):Prop where
 wi:WI H p ins tb dl k vs us rs ds H'
 hrs:HRs H' [gl,dl,tb,p] vs rs
 gll:H' gl=some (.lst os)
 hgs:HTs gTp H' os gs
 gk:∀ g ∈ gs,g.th < ins+k
 ngl:H gl=none
 gp:gl ≠ p
 gd:gl ≠ dl
 gt:gl ≠ tb
end L2
set_option Elab.async false
set_option linter.all false
set_option maxRecDepth 100000
set_option maxHeartbeats 1000000
namespace L2
open PySem PySem.Spec
structure Wb (H:Hp) (w dl gl:Addr) (ins:Nat) (us:List V) (ds:List Wd) (os:List V) (gs:List Go):Prop where
 tup:H w=some (.tup [.int ins,.ref dl,.ref gl])
 dll:H dl=some (.lst us)
 hds:HTs wTup H us ds
 gll:H gl=some (.lst os)
 hgs:HTs gTp H os gs
theorem Wb.same {H H':Hp}{w dl gl:Addr}{ins:Nat}{us:List V}{ds:List Wd}{os:List V}{gs:List Go}(h:Wb H w dl gl ins us ds os gs)(s:Same H H'):Wb H' w dl gl ins us ds os gs :=
 ⟨s _ _ h.tup,s _ _ h.dll,h.hds.same s,s _ _ h.gll,h.hgs.same s⟩
def sgW (w:Str):Int:=if w = "less" then -1 else 1
structure Ar where
 st:Nat
 go:Nat
 sh:Int
 sg:Int
def aTup (a:Ar):List V:=[.int a.st,.int a.go,.int a.sh,.int a.sg]
def arrF (ins:Nat):Nat -> List Wd -> List Ar
 | _,[]=>[]
 | k,d :: r=>⟨d.a,ins+k,d.s,1⟩ :: ⟨d.b,ins+k,d.t,sgW d.w⟩ :: arrF ins (k+1) r
theorem arrF_app (ins:Nat):∀ (xs ys:List Wd) (k:Nat),arrF ins k (xs ++ ys)=arrF ins k xs ++ arrF ins (k+xs.length) ys
 | [],ys,k=>rfl
 | d :: r,ys,k=>by
  show ⟨d.a,ins+k,d.s,1⟩ :: ⟨d.b,ins+k,d.t,sgW d.w⟩ :: arrF ins (k+1) (r ++ ys)=_
  rw [arrF_app ins r ys (k+1),show k+1+r.length=k+(d :: r).length by simp; omega]
  rfl
theorem arrF_len (ins:Nat):∀ (xs:List Wd) (k:Nat),(arrF ins k xs).length=2 * xs.length
 | [],_=>rfl
 | d :: r,k=>by
  show (arrF ins (k+1) r).length+1+1=_
  rw [arrF_len ins r (k+1)]; simp; omega
theorem arr_at {ins:Nat}:∀ {ds:List Wd} {k t:Nat} {a:Ar},(arrF ins k ds)[t]? = some a -> ∃ d,ds[t / 2]? = some d /\ a.go=ins+k+t / 2 /\ ((t % 2=0 /\ a=⟨d.a,ins+k+t / 2,d.s,1⟩) \/ (t % 2=1 /\ a=⟨d.b,ins+k+t / 2,d.t,sgW d.w⟩))
 | [],k,t,a,h=>by
  rw [show arrF ins k []=[] from rfl] at h
  simp at h
 | d :: r,k,t,a,h=>by
  match t,h with
  | 0,h=>cases h; exact ⟨d,rfl,rfl,.inl ⟨rfl,rfl⟩⟩
  | 1,h=>cases h; exact ⟨d,rfl,rfl,.inr ⟨rfl,rfl⟩⟩
  | t+2,h =>
   have h':(arrF ins (k+1) r)[t]? = some a:=h
   obtain ⟨e,e1,e2,e3⟩:=arr_at h'
   have q:(t+2) / 2=t / 2+1:=by omega
   have q2:ins+(k+1)+t / 2=ins+k+(t / 2+1):=by omega
   rw [q]
   rw [q2] at e2 e3
   refine ⟨e,e1,e2,?_⟩
   rcases e3 with ⟨z,e3⟩ | ⟨z,e3⟩
   ·exact .inl ⟨by omega,e3⟩
   ·exact .inr ⟨by omega,e3⟩
theorem arr_of {ins:Nat}:∀ {ds:List Wd} {k j:Nat} {d:Wd},ds[j]? = some d -> (arrF ins k ds)[2 * j]? = some ⟨d.a,ins+k+j,d.s,1⟩ /\ (arrF ins k ds)[2 * j+1]? = some ⟨d.b,ins+k+j,d.t,sgW d.w⟩
 | [],k,j,d,h=>by simp at h
 | e :: r,k,0,d,h=>by
  cases h
  exact ⟨rfl,rfl⟩
 | e :: r,k,j+1,d,h=>by
  obtain ⟨a,b⟩:=arr_of (ins:=ins) (k:=k+1) (j:=j) (d:=d) (ds:=r) h
  rw [show ins+(k+1)+j=ins+k+(j+1) by omega] at a b
  exact ⟨a,b⟩
inductive Rch (ins:Nat) (ds:List Wd) (gs:List Go):Nat -> Prop
 | root {g:Go}:g ∈ gs -> g.sg ≠ 0 -> Rch ins ds gs g.th
 | fst {k:Nat} {d:Wd}:ds[k]? = some d -> Rch ins ds gs (ins+k) -> Rch ins ds gs d.a
 | snd {k:Nat} {d:Wd}:ds[k]? = some d -> Rch ins ds gs (ins+k) -> Rch ins ds gs d.b
structure Us (ins:Nat) (ds:List Wd) (gs:List Go) (bs:List Bool):Prop where
 len:bs.length=ins+ds.length
 iff:∀ i,i < ins+ds.length -> (bs[i]? = some true ↔ Rch ins ds gs i)
structure Ps (ins:Nat) (ds:List Wd) (gs:List Go) (i:Nat) (bs:List Bool):Prop where
 len:bs.length=ins+ds.length
 snd:∀ j,bs[j]? = some true -> Rch ins ds gs j
 root:∀ g ∈ gs,g.sg ≠ 0 -> bs[g.th]? = some true
 clo:∀ t a,2 * ds.length - i <= t -> (arrF ins 0 ds)[t]? = some a -> bs[a.go]? = some true -> bs[a.st]? = some true
theorem set_true {bs:List Bool}{j i:Nat}(h:bs[i]? = some true):(bs.set j true)[i]? = some true:=by
 rw [List.getElem?_set]
 split
 ·split
  ·rfl
  ·rename_i e1 e2
   subst e1
   have:=(qB.mp h).1
   omega
 ·exact h
theorem Ps.done {ins:Nat}{ds:List Wd}{gs:List Go}{bs:List Bool}(h:Ps ins ds gs (2 * ds.length) bs):Us ins ds gs bs:=by
 refine ⟨h.len,fun i _=>⟨h.snd i,fun r=>?_⟩⟩
 induction r with
 | root hg hs=>exact h.root _ hg hs
 | @fst k d hk _ ih =>
  have l:=(qB.mp hk).1
  have a:=(arr_of (ins:=ins) (k:=0) hk).1
  exact h.clo _ _ (by omega) a (ih (by omega))
 | @snd k d hk _ ih =>
  have l:=(qB.mp hk).1
  have a:=(arr_of (ins:=ins) (k:=0) hk).2
  exact h.clo _ _ (by omega) a (ih (by omega))
structure Rt (ins:Nat) (ds:List Wd) (gs:List Go) (i:Nat) (bs:List Bool):Prop where
 len:bs.length=ins+ds.length
 snd:∀ j,bs[j]? = some true -> Rch ins ds gs j
 root:∀ k g,k < i -> gs[k]? = some g -> g.sg ≠ 0 -> bs[g.th]? = some true
theorem rt_zero {ins:Nat}{ds:List Wd}{gs:List Go}:Rt ins ds gs 0 (qQ (ins+ds.length) false) :=
 ⟨qL,fun j h=>by rw [List.getElem?_replicate] at h; split at h <;> simp at h,fun k g h=>by omega⟩
theorem Rt.step {ins:Nat}{ds:List Wd}{gs:List Go}{i:Nat}{bs:List Bool}(h:Rt ins ds gs i bs){g:Go}(hg:gs[i]? = some g)(hlt:g.th < ins+ds.length):Rt ins ds gs (i+1) (if g.sg=0 then bs else bs.set g.th true):=by
 by_cases z:g.sg=0
 ·rw [if_pos z]
  refine ⟨h.len,h.snd,fun k e hk he hs=>?_⟩
  by_cases q:k=i
  ·subst q
   rw [hg] at he
   cases he
   exact absurd z hs
  ·exact h.root k e (by omega) he hs
 ·rw [if_neg z]
  refine ⟨by rw [List.length_set]; exact h.len,fun j hj=>?_,fun k e hk he hs=>?_⟩
  ·by_cases e:g.th=j
   ·rw [← e]; exact .root (qE hg) z
   ·rw [List.getElem?_set_ne e] at hj
    exact h.snd j hj
  ·by_cases q:k=i
   ·subst q
    rw [hg] at he
    cases he
    rw [List.getElem?_set_self (by rw [h.len]; exact hlt)]
   ·exact set_true (h.root k e (by omega) he hs)
theorem Rt.done {ins:Nat}{ds:List Wd}{gs:List Go}{bs:List Bool}(h:Rt ins ds gs gs.length bs):Ps ins ds gs 0 bs:=by
 refine ⟨h.len,h.snd,fun g hg hs=>?_,fun t a ht ha=>?_⟩
 ·obtain ⟨k,hk⟩:=List.getElem?_of_mem hg
  exact h.root k g (qB.mp hk).1 hk hs
 ·have:=(qB.mp ha).1
  rw [arrF_len] at this
  omega
def spSnd:Sp:=fun vs H Q _=>∃ (x:Addr) (d:Wd),vs=[.ref x] /\ H x=some (.tup (wTup d)) /\ Q (.int (sgW d.w)) H
theorem atI_map {α:Type}{f:α -> V}{xs:List α}{j:Nat}{x:α}(h:xs[j]? = some x):atI (xs.map f) (j:Int)=some (f x):=atI_nat (by rw [qI,h]; rfl)
theorem ixN_nat {n j:Nat}(h:j < n):ixN n (j:Int)=some j:=by unfold ixN; rw [if_pos (by omega),if_pos (by omega)]; rfl
end L2
set_option Elab.async false
set_option linter.all false
set_option maxRecDepth 100000
set_option maxHeartbeats 1000000
namespace L2
open PySem PySem.Spec
section
variable {H:Hp}{Q:VK}
theorem w_pop {l:Addr}:rPop (.ref l) [] H Q = ∃ xs y,H l=some (.lst xs) /\ xs[xs.length - 1]? = some y /\ Q y (upd H l (.lst xs.dropLast)) :=
 propext ⟨fun ⟨l',xs,y,e,_,h,g,q⟩=>by cases e; exact ⟨xs,y,h,g,q⟩,fun ⟨xs,y,h,g,q⟩=>⟨l,xs,y,rfl,rfl,h,g,q⟩⟩
theorem w_extend {l b:Addr}:rExtend (.ref l) [.ref b] H Q = ∃ xs zs,H l=some (.lst xs) /\ H b=some (.lst zs) /\ xs.length+zs.length <= sizeLine /\ Q .non (upd H l (.lst (xs ++ zs))) :=
 propext ⟨fun ⟨l',b',xs,zs,e,e2,h⟩=>by cases e; cases e2; exact ⟨xs,zs,h⟩,fun ⟨xs,zs,h⟩=>⟨l,b,xs,zs,rfl,rfl,h⟩⟩
theorem w_reverse {l:Addr}:rReverse (.ref l) [] H Q = ∃ xs,H l=some (.lst xs) /\ Q .non (upd H l (.lst xs.reverse)) :=
 propext ⟨fun ⟨l',xs,e,_,h⟩=>by cases e; exact ⟨xs,h⟩,fun ⟨xs,h⟩=>⟨l,xs,rfl,rfl,h⟩⟩
theorem w_clear {l:Addr}:rClear (.ref l) [] H Q = ∃ xs,H l=some (.lst xs) /\ Q .non (upd H l (.lst [])) :=
 propext ⟨fun ⟨l',xs,e,_,h⟩=>by cases e; exact ⟨xs,h⟩,fun ⟨xs,h⟩=>⟨l,xs,rfl,rfl,h⟩⟩
theorem w_cat {l b:Addr}:rCat (.ref l) (.ref b) H Q = ∃ xs zs,H l=some (.lst xs) /\ H b=some (.lst zs) /\ xs.length+zs.length <= sizeLine /\ ∀ p,H p=none -> Q (.ref p) (upd H p (.lst (xs ++ zs))) :=
 propext ⟨fun ⟨l',b',xs,zs,e,e2,h⟩=>by cases e; cases e2; exact ⟨xs,zs,h⟩,fun ⟨xs,zs,h⟩=>⟨l,b,xs,zs,rfl,rfl,h⟩⟩
end
section
variable {X:Cx}
theorem op_inK (K:PySem.W.Frag)(h:X.K=K:=by rfl):OpR X (compareOp .In) (rIn K false):=by subst h; exact op_in_seq
end
section
variable {K:PySem.W.Frag}{σ:St}{H:Hp}{Q:VK}{cs:List Nat}{tt:TT}{te:TE}
end
def nints (l:List Nat):List Int:=l.map fun (x:Nat)=>(x:Int)
theorem nints_app (a b:List Nat):nints (a ++ b)=nints a ++ nints b:=List.map_append ..
def fr (ms:List Nat):Nat -> Nat
 | 0=>0
 | n+1=>(if n ∈ ms then 0 else 1)+fr ms n
def wait0 (gs:List Go):List Nat:=(gs.filter fun g=>decide (g.sg ≠ 0)).map (·.th)
theorem wait0_len (gs:List Go):(wait0 gs).length <= gs.length:=by unfold wait0; rw [qC]; exact List.length_filter_le _ _
theorem nints_len (l:List Nat):(nints l).length=l.length:=by unfold nints; rw [qC]
structure Hd (H:Hp) (ex:List Addr) (hs:List V):Prop where
 at_:∀ v ∈ hs,∃ (q f d:Addr) (bs:List Bool),v = .ref q /\ H q=some (.lst [.ref f,.ref d]) /\ H f=some (.lst (bs.map V.bl)) /\ H d=some (.lst (bs.map V.bl)) /\ bs.length <= 200 /\ ∀ e ∈ ex,q ≠ e /\ f ≠ e /\ d ≠ e
end L2
set_option Elab.async false
set_option linter.all false
set_option maxRecDepth 100000
set_option maxHeartbeats 1000000
namespace L2
open PySem PySem.Spec PyProof.Rows
section
variable {prog:Program}{w:World}{A:Around}{E:Value -> Shared -> Prop}{s:Shared}
end
section
variable {prog:Program}{w:World}{A:Around}{s:Shared}{R:Result -> Shared -> Prop}{xs ys:Array Value}{z TI TO i1 i2 l1 l2 S lo:Addr}
end
section
variable {prog:Program}{w:World}{A:Around}{E:Value -> Shared -> Prop}{s:Shared}{xs ys:Array Value}{z TI TO i1 i2 l1 l2:Addr}
end
def tLZ (K:PySem.W.Frag)(ta:TA):TE:=fun σ H Q=>ta σ H fun vs H1=>∃ a b us ws,vs=[.ref a,.ref b] /\ SqL K H1 a us /\ SqL K H1 b ws /\ ws.length=us.length /\ us.length <= 1000 /\
 ∀ l zs H',H1 l=none -> Same H1 H' -> H' l=some (.lst zs) -> zs.length=us.length -> (∀ (k:Nat) (x y:V),us[k]? = some x -> ws[k]? = some y -> ∃ t:Addr,zs[k]? = some (.ref t) /\ H' t=some (.tup [x,y])) -> Q (.ref l) H'
theorem w_LZ {K:PySem.W.Frag}{ta:TA}{σ:St}{H:Hp}{Q:VK}:tLZ K ta σ H Q=(ta σ H fun vs H1=>∃ a b us ws,vs=[.ref a,.ref b] /\ SqL K H1 a us /\ SqL K H1 b ws /\ ws.length=us.length /\ us.length <= 1000 /\
 ∀ l zs H',H1 l=none -> Same H1 H' -> H' l=some (.lst zs) -> zs.length=us.length -> (∀ (k:Nat) (x y:V),us[k]? = some x -> ws[k]? = some y -> ∃ t:Addr,zs[k]? = some (.ref t) /\ H' t=some (.tup [x,y])) -> Q (.ref l) H'):=rfl
end L2
set_option Elab.async false
set_option linter.all false
set_option maxRecDepth 100000
set_option maxHeartbeats 1000000
namespace L2
open PySem PySem.Spec
def rowD (rs:List (List Int))(d:Wd):List Int:=List.zipWith (fun x y=>mvI d.s x+sgW d.w * mvI d.t y) (rs.getD d.a []) (rs.getD d.b [])
def rowsW (ins:Nat)(ds:List Wd):List (List Int):=ds.foldl (fun rs d=>rs ++ [rowD rs d]) ((List.range ins).map (unitRow ins))
theorem rowsW_snoc (ins:Nat)(ds:List Wd)(d:Wd):rowsW ins (ds ++ [d])=rowsW ins ds ++ [rowD (rowsW ins ds) d]:=by unfold rowsW; rw [List.foldl_append]; rfl
theorem rowsW_len (ins:Nat)(ds:List Wd):(rowsW ins ds).length=ins+ds.length:=by
 refine snoc_ind (p:=fun ds=>(rowsW ins ds).length=ins+ds.length) ?_ (fun xs x ih=>?_) ds
 ·unfold rowsW; simp
 ·rw [rowsW_snoc,qF,ih]; simp; omega
theorem rowsW_pre (ins:Nat)(ds new:List Wd){k:Nat}{r:List Int}(h:(rowsW ins ds)[k]? = some r):(rowsW ins (ds ++ new))[k]? = some r:=by
 refine snoc_ind (p:=fun new=>(rowsW ins (ds ++ new))[k]? = some r) (by rw [List.append_nil]; exact h) (fun xs x ih=>?_) new
 rw [← List.append_assoc,rowsW_snoc,qH (qB.mp ih).1]
 exact ih
theorem getD_of {α:Type}{xs:List α}{k:Nat}{x d:α}(h:xs[k]? = some x):xs.getD k d=x:=by rw [qD,h]; rfl
def Dv (s:Int)(r:List Int):Prop:=s < 0 -> ∀ x ∈ r,(2:Int) ^ (-s).toNat ∣ x
section
variable {K:PySem.W.Frag}{σ:St}{H:Hp}{Q:VK}{cs:List Nat}{te:TE}
end
theorem mvI_up {s n:Int}(h:0 <= s):mvI s n=n * 2 ^ s.toNat:=by
 unfold mvI
 rw [if_neg (by omega)]
 by_cases z:0 > 0 - s
 ·rw [if_pos z]; simp
 ·rw [if_neg z,show s=0 by omega]; simp
theorem mvI_down {s n:Int}(h:s < 0):mvI s n=n / 2 ^ (-s).toNat:=by
 unfold mvI
 rw [if_pos (by omega),if_neg (by omega),show (0 - s) = -s by omega]
 simp
end L2
set_option Elab.async false
set_option linter.all false
set_option maxRecDepth 100000
set_option maxHeartbeats 1000000
namespace L2
open PySem PySem.Spec
def iT (r:List Int):List V:=r.map V.int
theorem shV_mv {n s:Int}{r:List Int}(hn:n ∈ r)(h:Dv s r):shV n s = .int (mvI s n):=by
 unfold shV
 by_cases z:0 <= s
 ·rw [if_pos z,mvI_up z]
 ·rw [if_neg z,mvI_down (by omega),if_pos (ediv_iff.mpr (h (by omega) n hn))]
def shRV (s:Int):V -> Option V:=fun x=>match x with
 | .int n=>some (shV n s)
 | _=>none
theorem shRV_map {s:Int}{r:List Int}(h:Dv s r):(r.map V.int).filterMap (shRV s)=(r.map (mvI s)).map V.int:=by
 rw [List.filterMap_map,List.map_map]
 have e:(r.filterMap (shRV s ∘ V.int))=r.map fun n=>shV n s:=filterMap_some (fun n=>shV n s) r
 rw [e]
 exact List.map_congr_left fun x hx=>shV_mv hx h
section
variable {K:PySem.W.Frag}{σ:St}{H:Hp}{Q:VK}{cs:List Nat}{te:TE}
theorem comp_tups {J:It}{α:Type}{f:α -> List V}{xs:List V}(zs:List α)(hzl:zs.length=xs.length)(hz:xs.length <= 1000)
  (hJ:∀ H',Same H H' -> (∀ i,i < xs.length -> J.go i H') /\ (∀ i x H2,J.yld i H' x H2 -> H2=H' /\ (i < xs.length -> xs[i]? = some x)) /\ J.stop xs.length H')
  (hb:∀ (i:Nat) x z H' (R:VK),xs[i]? = some x -> zs[i]? = some z -> Same H H' -> (∀ r H5,H' r=none -> Same H' H5 -> H5 r=some (.tup (f z)) -> R (.ref r) H5) -> te (some x :: capV cs σ) H' R)
  (hd:∀ acc ys H',H acc=none -> Same H H' -> H' acc=some (.lst ys) -> HTs f H' ys zs -> Q (.ref acc) H') :
  CompIt J 1 cs (gName 0) tYes te σ H Q:=by
 refine comp_any xs.length (fun acc i ws H'=>Same H H' /\ H' acc=some (.lst ws) /\ HTs f H' ws (zs.take i)) (le_size hz) ?_ ?_ ?_ ?_ ?_ ?_
 ·rintro acc i ws H' hi ⟨s,_,_⟩
  exact (hJ _ s).1 i hi
 ·rintro acc ws H' ⟨s,_,_⟩
  exact (hJ _ s).2.2
 ·intro acc ha
  exact ⟨same_new ha _,upd_same,hts_nil⟩
 ·rintro acc i ws H' ⟨s,ha,ht⟩
  exact ⟨ha,by rw [ht.len,qO]; omega⟩
 ·rintro acc i ws H' ts v H2 N hn hi ⟨s,ha,ht⟩ y hts hN
  obtain ⟨e,hx⟩:=(hJ _ s).2.1 i v H2 y
  have hx:=hx hi
  subst e
  obtain ⟨t0,rfl⟩:∃ t0,ts=[t0]:=by
   match ts,hts with
   | [a],_=>exact ⟨a,rfl⟩
  have hz':zs[i]? = some (zs[i]'(by omega)):=qA _
  generalize (zs[i]'(by omega))=z at hz'
  rw [w_gName,w_yes,if_pos rfl]
  refine hb i v z _ _ hx hz' s fun r H5 hr s5 h5=>?_
  have ha5:=s5 _ _ ha
  refine ⟨ha5,hN _ [_] _ rfl ⟨same_upd hn (s.trans s5),upd_same,?_⟩⟩
  have tk:zs.take (i+1)=zs.take i ++ [z]:=by rw [List.take_add_one,hz']; rfl
  rw [tk]
  exact ((ht.same s5).chgL ha5 (Chg.upd _)).snoc (by rw [upd_ne (ne_of h5 ha5 (by intro z; cases z))]; exact h5)
 ·rintro acc ws H' hn ⟨s,ha,ht⟩
  rw [List.take_of_length_le (by omega)] at ht
  exact hd acc ws H' hn s ha ht
theorem it_R {n:Nat}{H':Hp}:(∀ i,i < (rngV 0 n).length -> (Itr 0 n).go i H') /\ (∀ i x H2,(Itr 0 n).yld i H' x H2 -> H2=H' /\ (i < (rngV 0 n).length -> (rngV 0 n)[i]? = some x)) /\ (Itr 0 n).stop (rngV 0 n).length H':=by
 rw [rngV_len]
 exact ⟨fun i hi=>hi,fun i x H2 y=>⟨y.1,fun hi=>by rw [rngV_get hi,y.2]⟩,Nat.le_refl _⟩
end
def spInRow:Sp:=fun vs H Q _=>∃ (n i:Nat),vs=[.int n,.int i] /\ n <= 100 /\ ∀ r H',H r=none -> Same H H' -> H' r=some (.tup (iT (unitRow n i))) -> Q (.ref r) H'
def spInRows:Sp:=fun vs H Q _=>∃ (n:Nat),vs=[.int n] /\ n <= 100 /\ ∀ r ys H',H r=none -> Same H H' -> H' r=some (.lst ys) -> HTs iT H' ys ((List.range n).map (unitRow n)) -> Q (.ref r) H'
def outR (rs:List (List Int))(g:Go):List Int:=(rs.getD g.th []).map fun x=>g.sg * mvI g.sh x
theorem tup_of {H':Hp}{ys:List V}{rs:List (List Int)}(h:HTs iT H' ys rs){j:Nat}(hj:j < rs.length):∃ (l:Addr),atI ys (j:Int)=some (.ref l) /\ H' l=some (.tup (iT (rs.getD j []))) /\ rs.getD j [] ∈ rs:=by
 obtain ⟨l,e1,e2⟩:=h.at_ j _ (qA hj)
 rw [getD_of (qA hj)]
 exact ⟨l,atI_nat e1,e2,List.getElem_mem hj⟩
theorem RB.lt {b:Nat}{rs:List (List Int)}{r:List Int}(h:RB b rs)(hr:r ∈ rs)(hb:b <= 8000):∀ x ∈ r,x.natAbs < 2 ^ 9000:=fun x hx=>Nat.lt_of_le_of_lt ((h r hr).2 x hx) (Nat.pow_lt_pow_right (by decide) (by omega))
theorem rowsW_take {ins:Nat}{ds:List Wd}{i:Nat}{d:Wd}(hd:ds[i]? = some d):rowsW ins (ds.take (i+1))=rowsW ins (ds.take i) ++ [rowD (rowsW ins (ds.take i)) d]:=by
 rw [List.take_add_one,hd]
 exact rowsW_snoc _ _ _
theorem rowsW_takeD {ins:Nat}{ds:List Wd}{i j:Nat}(hi:i <= ds.length)(hj:j < ins+i):(rowsW ins (ds.take i)).getD j []=(rowsW ins ds).getD j []:=by
 have hl:j < (rowsW ins (ds.take i)).length:=by rw [rowsW_len,qO]; omega
 have e:=qA hl
 have e2:=rowsW_pre ins (ds.take i) (ds.drop i) e
 rw [List.take_append_drop] at e2
 rw [getD_of e,getD_of e2]
theorem rowsW_sub {ins:Nat}{ds:List Wd}{i:Nat}:∀ r ∈ rowsW ins (ds.take i),r ∈ rowsW ins ds:=fun r hr=>by
 obtain ⟨k,hk⟩:=List.getElem?_of_mem hr
 have:=rowsW_pre ins (ds.take i) (ds.drop i) hk
 rw [List.take_append_drop] at this
 exact qE this
end L2
set_option Elab.async false
set_option linter.all false
set_option maxRecDepth 100000
set_option maxHeartbeats 1000000
namespace L2
open PySem PySem.Spec
theorem rowsW_zero (ins:Nat)(ds:List Wd):(rowsW ins ds).take ins=rowsW ins []:=by
 refine snoc_ind (p:=fun ds=>(rowsW ins ds).take ins=rowsW ins []) ?_ (fun xs x ih=>?_) ds
 ·exact List.take_of_length_le (by rw [rowsW_len]; simp)
 ·rw [rowsW_snoc,List.take_append_of_le_length (by rw [rowsW_len]; omega)]
  exact ih
theorem rowsW_unit {ins:Nat}{ds:List Wd}{i:Nat}(hi:i < ins):(rowsW ins ds).getD i []=unitRow ins i:=by
 have e:((rowsW ins ds).take ins)[i]? = some (unitRow ins i):=by
  rw [rowsW_zero]
  show ((List.range ins).map (unitRow ins))[i]? = _
  rw [qI,List.getElem?_range hi]
  rfl
 rw [List.getElem?_take_of_lt hi] at e
 exact getD_of e
end L2
set_option Elab.async false
set_option linter.all false
set_option maxRecDepth 100000
set_option maxHeartbeats 1000000
namespace L2
open PySem PySem.Spec
section
variable {α:Type}{f:α -> List V}{K:PySem.W.Frag}{H:Hp}{l l':Addr}{ys ys':List V}{xs:List α}{Q:VK}
end
end L2
set_option Elab.async false
set_option linter.all false
set_option maxRecDepth 100000
set_option maxHeartbeats 1000000
namespace L2
open PySem PySem.Spec PyProof.Rows
def tLR (ta:TA):TE:=fun σ H Q=>ta σ H fun vs H1=>∃ j:Nat,vs=[.int (j:Int)] /\ j <= 1000 /\ ∀ l H',H1 l=none -> Same H1 H' -> H' l=some (.lst (rngV 0 j)) -> Q (.ref l) H'
theorem w_LR {ta:TA}{σ:St}{H:Hp}{Q:VK}:tLR ta σ H Q=(ta σ H fun vs H1=>∃ j:Nat,vs=[.int (j:Int)] /\ j <= 1000 /\ ∀ l H',H1 l=none -> Same H1 H' -> H' l=some (.lst (rngV 0 j)) -> Q (.ref l) H'):=rfl
theorem vals_rng:∀ (n k:Nat) (us:List Value),us.length=n -> (∀ (j:Nat) (v:Value),us[j]? = some v -> ∃ t,v = .int (0+((k+j:Nat):Int) * 1) t) -> Vals ((List.range' k n).map fun (i:Nat)=>V.int (0+(i:Int))) us
 | 0,k,us,hl,_=>by
  have:us=[]:=List.eq_nil_of_length_eq_zero hl
  subst this
  exact .nil
 | n+1,k,us,hl,hv=>by
  cases us with
  | nil=>cases hl
  | cons u us =>
   obtain ⟨t,e⟩:=hv 0 u rfl
   rw [List.range'_succ,List.map_cons]
   refine .cons ⟨t,by rw [e,Nat.add_zero,Int.mul_one]⟩ (vals_rng n (k+1) us (by simpa using hl) fun j v h=>?_)
   obtain ⟨t,e⟩:=hv (j+1) v h
   exact ⟨t,by rw [e,show k+(j+1)=k+1+j by omega]⟩
theorem pe_listrange {X:Cx} {a:Expr} {ta:TA} {p q pos pos2:Pos} (hc:X.calm=true) (hg:Gl X "list") (hm:X.mg "list" = none) (hg2:Gl X "range") (hm2:X.mg "range" = none) (ha:PA X [a] ta) (hs:starEach [a] X.env=[(false,eval a X.env)]:=by rfl)
  (he:starEach [.Call (.Name "range" q) [a] [] pos2] X.env=(false,eval (.Call (.Name "range" q) [a] [] pos2) X.env) :: starEach [] X.env:=by rfl) (hpl2:(backTo pos (starEach [] X.env)).any (·.1)=false:=by rfl) :
  PE X (.Call (.Name "list" p) [.Call (.Name "range" q) [a] [] pos2] [] pos) (tLR ta):=by
 intro pins s σ H Q I h
 refine Call_ (ld_blt I hg hm bo_list (PyProof.Rows.callWith_type1 ?_ he hpl2))
 rw [he]
 show wpAny _ _ (spliced ((false,eval (.Call (.Name "range" q) [a] [] pos2) X.env) :: backTo pos (starEach [] X.env))) _ _ s
 refine Calls.spliced_cons (Call_ (ld_blt I hg2 hm2 boot_range (PyProof.Rows.callWith_type1 (thn (ha pos2 pins s σ H _ I h) fun us s1 ⟨vs,H1,I1,r1,q1⟩=>?_) hs rfl)))
 obtain ⟨j,e,hj,fin⟩:=q1
 subst e
 obtain ⟨u,rfl,ru⟩:=Vals.one r1
 obtain ⟨t,rfl⟩:=ru
 refine call_range_1 ?_
 show wpAny _ _ (spliced (backTo pos (starEach [] X.env))) _ _ _
 refine Calls.spliced_nil ?_
 have hsz:Builtin.Range.rangeSize 0 (j:Int) 1=j:=by
  unfold Builtin.Range.rangeSize
  rw [if_pos (by decide)]
  split <;> omega
 refine call_list_range (n:=j) (I.ok.hd hc) (IsRange.new ..) ?_ hsz (by omega) fun h' tk acc c k' hS hit=>?_
 ·exact small_one (by decide) (by decide) (by omega) (by omega)
 have k2:∀ b o,s1.heap.get? b=some o -> h'.get? b=some o:=fun b o e=>k' b o (Heap.get?_push_of_some _ e)
 have lo:s1.heap.objs.size <= (s1.heap.push { cls:=.type "range",data:=.fields #[.int 0 s1.toks,.int (j:Int) t,.int 1 (s1.toks+1)] }).objs.size:=by rw [Heap.size_push]; exact Nat.le_succ _
 have rv:Vals (rngV 0 j) acc.toList:=by
  have:=vals_rng j 0 acc.toList (by rw [Array.length_toList]; exact hit.1) fun i v hv=>by
   obtain ⟨t,e⟩:=hit.2 i v (by rw [← hv,Array.getElem?_toList])
   exact ⟨t,by rw [e,Nat.zero_add]⟩
  rw [← List.range_eq_range'] at this
  exact this
 have hn:=I1.hok.fresh lo
 have IN:=I1.laid (h':=h') (t':=tk) (o:=.lst (rngV 0 j)) k2 lo ⟨le_size (by rw [rngV_len]; exact hj),acc.toList,c,rv,by rw [Array.toArray_toList]; exact hS⟩
 exact ⟨.ref _,_,IN,rfl,fin _ _ hn (same_new hn _) upd_same⟩
def iRngD (ta:TA):TI:=fun σ H R=>ta σ H fun vs H1=>∃ i:Int,vs=[.int i,.int (-1),.int (-1)] /\ (-1 <= i /\ i < 2 ^ 31) /\ R (Itr3 i (-1) (i+1).toNat) H1
theorem size_down {i:Int}(h:-1 <= i):Builtin.Range.rangeSize i (-1) (-1)=i+1:=by
 unfold Builtin.Range.rangeSize
 rw [if_neg (by decide),show (- -1:Int)=1 by decide,Int.ediv_one]
 split <;> omega
theorem small_down {i:Int}(h:-1 <= i /\ i < 2 ^ 31):Builtin.Range.small i (-1) (-1)=true:=by
 unfold Builtin.Range.small
 rw [size_down h.1]
 simp only [Builtin.Range.rangeFitsLong,Bool.and_eq_true,Bool.or_eq_true,decide_eq_true_eq,beq_iff_eq]
 exact ⟨⟨⟨⟨⟨by omega,by omega⟩,by omega,by omega⟩,by omega,by omega⟩,by omega,by omega⟩,.inr (by decide)⟩
theorem pi_rangeD {X:Cx} {tg:Expr} {a b c:Expr} {ta:TA} {p pos:Pos} (hg:Gl X "range") (hm:X.mg "range" = none) (ha:PA X [a,b,c] ta) (hs:starEach [a,b,c] X.env=(false,eval a X.env) :: starEach [b,c] X.env:=by rfl) (hpl:(backTo pos (starEach [b,c] X.env)).any (·.1)=false:=by rfl) :
  PI X tg (.Call (.Name "range" p) [a,b,c] [] pos) (iRngD ta):=by
 intro pins s σ H R I h
 refine Call_ (ld_blt I hg hm boot_range (PyProof.Rows.callWith_type1 (thn (ha pos pins s σ H _ I h) fun us s1 ⟨vs,H1,I1,r1,q1⟩=>?_) hs hpl))
 obtain ⟨i,e,hi,q⟩:=q1
 subst e
 cases r1 with
 | cons r rr =>
  cases rr with
  | cons r' rr =>
   cases rr with
   | cons r3 rr =>
    cases rr
    obtain ⟨t,rfl⟩:=r
    obtain ⟨t',rfl⟩:=r'
    obtain ⟨t3,rfl⟩:=r3
    refine call_range_3 (by decide) ?_ (Or.inl (PyProof.noPylong_of_log2 (by decide +kernel)))
    refine wpAny_pyIter_range (IsRange.new ..) (small_down hi) ?_
    have I2:Inv X pins σ H1 { s1 with heap:=s1.heap.push { cls:=.type "range",data:=.fields #[.int i t,.int (-1) t',.int (-1) t3] },toks:=s1.toks }:=I1.kept fun b o e=>Heap.get?_push_of_some _ e
    refine ⟨(s1.heap.push { cls:=.type "range",data:=.fields #[.int i t,.int (-1) t',.int (-1) t3] }).objs.size,[(s1.heap.push { cls:=.type "range",data:=.fields #[.int i t,.int (-1) t',.int (-1) t3] }).objs.size],_,_,H1,rfl,I2.kept (t':=s1.toks) fun b o e=>Heap.get?_push_of_some _ e,turn_range3 _ i (-1) (i+1).toNat,?_,fun b hb=>?_,q⟩
    ·have e1:i+((0:Nat):Int) * (-1)=i:=by omega
     have e2:(((i+1).toNat:Nat):Int) - ((0:Nat):Int)=Builtin.Range.rangeSize i (-1) (-1):=by rw [size_down hi.1]; omega
     show IsRangeIter _ _ (i+((0:Nat):Int) * (-1)) ((((i+1).toNat:Nat):Int) - ((0:Nat):Int)) (-1)
     rw [e1,e2]
     exact Heap.get?_push_size _ rfl
    ·have e:b=(s1.heap.push { cls:=.type "range",data:=.fields #[.int i t,.int (-1) t',.int (-1) t3] }).objs.size:=by simpa using hb
     subst e
     exact I2.fpOk (Nat.le_refl _) (I2.hok.fresh (Nat.le_refl _))
theorem w_forD {σ:St}{H:Hp}{D:Ends}{g:TG}{tb:TS}{ta:TA}:tFor (iRngD ta) g tb D σ H=(ta σ H fun vs H1=>∃ i:Int,vs=[.int i,.int (-1),.int (-1)] /\ (-1 <= i /\ i < 2 ^ 31) /\ ForR3 i (-1) (i+1).toNat g tb D σ H1):=rfl
def keptN (bs:List Bool)(ins:Nat):Nat -> Nat
 | 0=>0
 | k+1=>keptN bs ins k+(if bs.getD (ins+k) false=true then 1 else 0)
theorem keptN_le (bs:List Bool)(ins:Nat):∀ k,keptN bs ins k <= k
 | 0=>Nat.le_refl _
 | k+1=>by
  have:=keptN_le bs ins k
  unfold keptN
  split <;> omega
def renN (bs:List Bool)(ins j:Nat):Nat:=if j < ins then j else ins+keptN bs ins (j - ins)
def renD (bs:List Bool)(ins:Nat)(d:Wd):Wd:=⟨d.w,renN bs ins d.a,d.s,renN bs ins d.b,d.t⟩
def renG (bs:List Bool)(ins:Nat)(g:Go):Go:=⟨renN bs ins g.th,g.sh,g.sg⟩
def keptD (bs:List Bool)(ins:Nat):Nat -> List Wd -> List Wd
 | _,[]=>[]
 | k,d :: r=>(if bs.getD (ins+k) false=true then [renD bs ins d] else []) ++ keptD bs ins (k+1) r
theorem keptD_app (bs:List Bool)(ins:Nat):∀ (xs ys:List Wd) (k:Nat),keptD bs ins k (xs ++ ys)=keptD bs ins k xs ++ keptD bs ins (k+xs.length) ys
 | [],ys,k=>rfl
 | d :: r,ys,k=>by
  show (if bs.getD (ins+k) false=true then [_] else []) ++ keptD bs ins (k+1) (r ++ ys)=((if bs.getD (ins+k) false=true then [_] else []) ++ keptD bs ins (k+1) r) ++ _
  rw [keptD_app bs ins r ys (k+1),List.append_assoc,show k+1+r.length=k+(d :: r).length by simp; omega]
theorem keptD_len (bs:List Bool)(ins:Nat):∀ (xs:List Wd) (k:Nat),(keptD bs ins k xs).length+keptN bs ins k=keptN bs ins (k+xs.length)
 | [],k=>by show 0+_=_; simp
 | d :: r,k=>by
  have ih:=keptD_len bs ins r (k+1)
  have e:(keptD bs ins k (d :: r)).length=(if bs.getD (ins+k) false=true then 1 else 0)+(keptD bs ins (k+1) r).length:=by
   show ((if bs.getD (ins+k) false=true then [_] else []) ++ keptD bs ins (k+1) r).length=_
   rw [qF]
   split <;> rfl
  have e2:keptN bs ins (k+1)=keptN bs ins k+(if bs.getD (ins+k) false=true then 1 else 0):=rfl
  rw [e,show k+(d :: r).length=k+1+r.length by simp; omega,← ih,e2]
  omega
def renL (bs:List Bool)(ins k:Nat):List Int:=(List.range (ins+k)).map fun j=>((renN bs ins j:Nat):Int)
theorem renL_zero (bs:List Bool)(ins:Nat):(renL bs ins 0).map V.int=rngV 0 ins:=by
 unfold renL rngV
 rw [List.map_map,Nat.add_zero]
 refine List.map_congr_left fun j hj=>?_
 have:=List.mem_range.mp hj
 show V.int ((renN bs ins j:Nat):Int)=V.int (0+(j:Int))
 unfold renN
 rw [if_pos this,Int.zero_add]
theorem renL_succ (bs:List Bool)(ins k:Nat):renL bs ins (k+1)=renL bs ins k ++ [((ins+keptN bs ins k:Nat):Int)]:=by
 unfold renL
 rw [← Nat.add_assoc,List.range_succ,List.map_append]
 congr 1
 show [((renN bs ins (ins+k):Nat):Int)]=_
 unfold renN
 rw [if_neg (by omega),show ins+k - ins=k by omega]
theorem renL_at {bs:List Bool}{ins k j:Nat}(h:j < ins+k):(renL bs ins k)[j]? = some ((renN bs ins j:Nat):Int):=by
 unfold renL
 rw [qI,List.getElem?_range h]
 rfl
section
variable {K:PySem.W.Frag}{σ:St}{H:Hp}{Q:VK}{cs:List Nat}{te:TE}
end
end L2
set_option Elab.async false
set_option linter.all false
set_option maxRecDepth 100000
set_option maxHeartbeats 1000000
namespace L2
open PySem PySem.Spec PyProof.Rows
section
variable {prog:Program}{w:World}{A:Around}{E:Value -> Shared -> Prop}{s:Shared}
end
section
variable {prog:Program}{w:World}{A:Around}{E:Value -> Shared -> Prop}{s:Shared}
end
def Itzt (K : PySem.W.Frag)(a b : Addr) : It :=
  ⟨fun i H => ∃ xs ys, SqT K H a xs ∧ SqT K H b ys ∧ i < xs.length ∧ i < ys.length,
   fun i H x H' => ∃ T u v, x = .ref T ∧ H T = none ∧ H' = upd H T (.tup [u, v]) ∧ (∀ xs, SqT K H a xs → xs[i]? = some u) ∧ (∀ ys, SqT K H b ys → ys[i]? = some v),
   fun i H => ∃ xs ys, SqT K H a xs ∧ SqT K H b ys ∧ (xs.length ≤ i ∨ ys.length ≤ i)⟩
def iZip2 (K:PySem.W.Frag)(ta:TA):TI:=fun σ H R=>ta σ H fun vs H1=>∃ a b xs ys,vs=[.ref a,.ref b] /\ ((SqL K H1 a xs /\ SqL K H1 b ys /\ R (Itz K a b) H1) \/ (SqT K H1 a xs /\ SqT K H1 b ys /\ R (Itzt K a b) H1))
theorem w_compZ2 {K:PySem.W.Frag}{σ:St}{H:Hp}{Q:VK}{ta:TA}{nt:Nat}{cs:List Nat}{g:TG}{tt:TT}{te:TE}:tComp (iZip2 K ta) nt cs g tt te σ H Q=(ta σ H fun vs H1=>∃ a b xs ys,vs=[.ref a,.ref b] /\ ((SqL K H1 a xs /\ SqL K H1 b ys /\ CompIt (Itz K a b) nt cs g tt te σ H1 Q) \/ (SqT K H1 a xs /\ SqT K H1 b ys /\ CompIt (Itzt K a b) nt cs g tt te σ H1 Q))):=rfl
end L2
set_option Elab.async false
set_option linter.all false
set_option maxRecDepth 100000
set_option maxHeartbeats 1000000
namespace L2
open PySem PySem.Spec PyProof.Rows
structure Gt (ins:Nat) (ds:List Wd) (gs:List Go) (i:Nat) (ms:List Nat):Prop where
 sd:∀ x ∈ ms,Rch ins ds gs x
 rt:∀ g ∈ gs,g.sg ≠ 0 -> g.th ∈ ms
 cl:∀ k d,ds[k]? = some d -> ds.length <= k+i -> ins+k ∈ ms -> d.a ∈ ms /\ d.b ∈ ms
 ln:ms.length <= gs.length+2 * i
def kp (bs:List Bool)(ins j:Nat):Prop:=j < ins \/ bs[j]? = some true
instance (bs:List Bool) (ins j:Nat):Decidable (kp bs ins j):=by unfold kp; infer_instance
theorem getD_true {bs:List Bool}{j:Nat}:bs.getD j false=true ↔ bs[j]? = some true:=by
 rw [qD]
 cases bs[j]? with
 | none=>simp
 | some b=>cases b <;> simp
theorem ren_step (bs:List Bool)(ins m:Nat):renN bs ins (m+1)=renN bs ins m+(if kp bs ins m then 1 else 0):=by
 by_cases h:m < ins
 ·rw [if_pos (show kp bs ins m from Or.inl h)]
  unfold renN
  rw [if_pos h]
  by_cases h2:m+1 < ins
  ·rw [if_pos h2]
  ·rw [if_neg h2,show m+1 - ins=0 by omega]
   show ins+0=m+1
   omega
 ·by_cases z:bs[m]? = some true
  ·rw [if_pos (show kp bs ins m from Or.inr z)]
   unfold renN
   rw [if_neg h,if_neg (by omega),show m+1 - ins=m - ins+1 by omega]
   show ins+(keptN bs ins (m - ins)+_)=_
   rw [show ins+(m - ins)=m by omega,if_pos (getD_true.mpr z)]; omega
  ·rw [if_neg (show ¬ kp bs ins m by rintro (q | q); exact h q; exact z q)]
   unfold renN
   rw [if_neg h,if_neg (by omega),show m+1 - ins=m - ins+1 by omega]
   show ins+(keptN bs ins (m - ins)+_)=_
   rw [show ins+(m - ins)=m by omega,if_neg (fun q=>z (getD_true.mp q))]; omega
theorem ren_zero (bs:List Bool)(ins:Nat):renN bs ins 0=0:=by
 unfold renN
 by_cases h:0 < ins
 ·rw [if_pos h]
 ·rw [if_neg h,Nat.zero_sub]
  show ins+0=0
  omega
theorem ren_mono (bs:List Bool)(ins:Nat):∀ {j m:Nat},j <= m -> renN bs ins j <= renN bs ins m:=by
 intro j m h
 induction m with
 | zero=>rw [show j=0 by omega]; exact Nat.le_refl _
 | succ m ih =>
  by_cases e:j=m+1
  ·subst e; exact Nat.le_refl _
  ·have:=ih (by omega)
   rw [ren_step]
   omega
theorem ren_lt {bs:List Bool}{ins j m:Nat}(k:kp bs ins j)(h:j < m):renN bs ins j < renN bs ins m:=by
 have:=ren_mono bs ins (show j+1 <= m from h)
 rw [ren_step,if_pos k] at this
 omega
def ZO (gs:List Go):Prop:=∀ g ∈ gs,g.sg=0 -> g=⟨0,0,0⟩
theorem kept_at {bs:List Bool}{ins:Nat}:∀ {ds:List Wd} {k i:Nat} {d:Wd},ds[i]? = some d -> bs[ins+(k+i)]? = some true -> (keptD bs ins k ds)[keptN bs ins (k+i) - keptN bs ins k]? = some (renD bs ins d) /\ keptN bs ins k <= keptN bs ins (k+i)
 | [],k,i,d,h,_=>by cases h
 | e :: r,k,0,d,h,hb=>by
  cases h
  rw [Nat.add_zero] at hb
  rw [Nat.add_zero,Nat.sub_self]
  refine ⟨?_,Nat.le_refl _⟩
  show ((if bs.getD (ins+k) false=true then [_] else []) ++ _)[0]? = _
  rw [if_pos (getD_true.mpr hb)]
  rfl
 | e :: r,k,i+1,d,h,hb=>by
  rw [show k+(i+1)=k+1+i by omega] at hb ⊢
  obtain ⟨ih,le⟩:=kept_at (ds:=r) (k:=k+1) (i:=i) (d:=d) (by simpa using h) hb
  show ((if bs.getD (ins+k) false=true then [_] else []) ++ _)[_]? = _ /\ _
  have st:keptN bs ins (k+1)=keptN bs ins k+(if bs.getD (ins+k) false=true then 1 else 0):=rfl
  by_cases z:bs.getD (ins+k) false=true
  ·rw [if_pos z] at st ⊢
   refine ⟨?_,by omega⟩
   rw [show keptN bs ins (k+1+i) - keptN bs ins k=(keptN bs ins (k+1+i) - keptN bs ins (k+1))+1 by omega]
   exact ih
  ·rw [if_neg z] at st ⊢
   rw [Nat.add_zero] at st
   rw [st] at ih le
   exact ⟨ih,le⟩
theorem kept_of {bs:List Bool}{ins:Nat}:∀ {ds:List Wd} {k j:Nat} {e:Wd},(keptD bs ins k ds)[j]? = some e -> ∃ i d,ds[i]? = some d /\ bs[ins+(k+i)]? = some true /\ e=renD bs ins d /\ j+keptN bs ins k=keptN bs ins (k+i)
 | [],k,j,e,h=>by cases h
 | x :: r,k,j,e,h=>by
  have h':((if bs.getD (ins+k) false=true then [renD bs ins x] else []) ++ keptD bs ins (k+1) r)[j]? = some e:=h
  have st:keptN bs ins (k+1)=keptN bs ins k+(if bs.getD (ins+k) false=true then 1 else 0):=rfl
  by_cases z:bs.getD (ins+k) false=true
  ·rw [if_pos z] at h' st
   cases j with
   | zero =>
    cases h'
    exact ⟨0,x,rfl,getD_true.mp z,rfl,by rw [Nat.add_zero]; omega⟩
   | succ j =>
    obtain ⟨i,d,h1,h2,h3,h4⟩:=kept_of (ds:=r) (k:=k+1) (j:=j) (e:=e) h'
    exact ⟨i+1,d,by simpa using h1,by rw [show k+(i+1)=k+1+i by omega]; exact h2,h3,by rw [show k+(i+1)=k+1+i by omega]; omega⟩
  ·rw [if_neg z] at h' st
   obtain ⟨i,d,h1,h2,h3,h4⟩:=kept_of (ds:=r) (k:=k+1) (j:=j) (e:=e) h'
   exact ⟨i+1,d,by simpa using h1,by rw [show k+(i+1)=k+1+i by omega]; exact h2,h3,by rw [show k+(i+1)=k+1+i by omega]; omega⟩
section
variable {ins:Nat}{ds:List Wd}{gs:List Go}{bs:List Bool}
theorem ren_ins {k:Nat}:renN bs ins (ins+k)=ins+keptN bs ins k:=by
 unfold renN
 rw [if_neg (by omega),show ins+k - ins=k by omega]
end
section
variable {K:PySem.W.Frag}{σ:St}{H:Hp}{Q:VK}{cs:List Nat}{te:TE}
theorem inV_n (ms:List Nat)(x:Nat):inV (.int (x:Int)) ((nints ms).map V.int)=decide (x ∈ ms):=by
 unfold inV nints
 rw [List.map_map,List.any_map]
 by_cases h:x ∈ ms
 ·rw [decide_eq_true h,List.any_eq_true]
  exact ⟨x,h,by show decide (_=_)=true; simp⟩
 ·rw [decide_eq_false h,List.any_eq_false]
  intro y hy z
  have e:(y:Int)=(x:Int):=by
   have:decide ((y:Int)=(x:Int))=true:=z
   simpa using this
  have:y=x:=by omega
  subst this
  exact h hy
theorem in_n {l:Addr}{ms:List Nat}{x:Nat}(h:H l=some (.lst ((nints ms).map V.int)))(q:Q (.bl (decide (x ∈ ms))) H):rIn K false (.int (x:Int)) (.ref l) H Q:=by
 refine ⟨l,_,rfl,.inl (SqL.of h),rfl,?_,?_⟩
 ·rw [List.all_map]; simp [flatV]
 ·rw [if_neg (by decide),inV_n]; exact q
end
end L2
set_option Elab.async false
set_option linter.all false
set_option maxRecDepth 100000
set_option maxHeartbeats 1000000
namespace L2
open PySem PySem.Spec PyProof.Rows
def TrX (h:Heap)(e:Addr)(C:Value)(d:Option Addr)(T:Addr):Prop :=
 ∃ oe vs oT ts,h.get? e=some oe /\ oe.cls=C /\ oe.dict=d /\ oe.data = .fields vs /\ vs[1]? = some (.ref T) /\ T ≠ e /\ h.get? T=some oT /\ oT.data = .fields ts /\ ts[3]? = some .none
section
variable {M:Model}{A:Around}{E:Value -> Shared -> Prop}{s:Shared}{base:Heap}{env:Env}{outer:List Env}{L e:Addr}{oe:Obj}{vs:Array Value}{Q:Unit -> Shared -> Prop}
end
section
variable {P:Program}{w:World}{K:PySem.W.Frag}{mg:Str -> Option Value}{base:Heap}{N:List Str}{qual:Str}{scope:Scope}{f:Addr}{cd:Value}{A:Around}{outer:List Env}{s:Shared}{H:Hp}{E:XK}
end
section
variable {X:Cx}{k:Nat}{x:Str}{ps:List Str}{sp:Sp}{e:Expr}{es:List Expr}{t:TA}{p pos:Pos}{E:XK}
end
section
variable {P:Program}{w:World}{K:PySem.W.Frag}{mg:Str -> Option Value}{base:Heap}
end
end L2
set_option Elab.async false
set_option linter.all false
set_option maxRecDepth 100000
set_option maxHeartbeats 1000000
namespace L2
open PySem PySem.Spec PyProof.Rows
section
variable {M:Model}{A:Around}{E:Value -> Shared -> Prop}
end
end L2
set_option Elab.async false
set_option linter.all false
set_option maxRecDepth 100000
set_option maxHeartbeats 1000000
namespace L2
open PySem PySem.Spec PyProof.Rows
def XP (X:Cx)(pins:List (Addr × Obj))(σ:St)(E:XK)(e:Value)(s':Shared):Prop:=∃ (x T:Addr) (C:Value) (d:Option Addr) (H':Hp),e = .ref x /\ Inv X pins σ H' s' /\ TrX s'.heap x C d T /\
 (X.s₀.heap.get? x=none /\ X.s₀.heap.get? T=none) /\ (∀ p ∈ X.pn ++ pins,p.1 ≠ x /\ p.1 ≠ T) /\ H' x=none /\ H' T=none /\ E C d H'
end L2
set_option Elab.async false
set_option linter.all false
set_option maxRecDepth 100000
set_option maxHeartbeats 1000000
namespace L2
open PySem PySem.Spec PyProof.Rows
end L2
set_option Elab.async false
set_option linter.all false
set_option maxRecDepth 100000
set_option maxHeartbeats 1000000
namespace L2
open PySem PySem.Spec PyProof.Rows
section
variable {prog:Program}{w:World}{A:Around}{E:Value -> Shared -> Prop}{s:Shared}{K:PySem.W.Frag}{x D:Addr}{o:Obj}
end
end L2
set_option Elab.async false
set_option linter.all false
set_option maxRecDepth 100000
set_option maxHeartbeats 1000000
namespace L2
open PySem PySem.Spec PyProof.Rows
end L2
set_option Elab.async false
set_option linter.all false
set_option maxRecDepth 100000
set_option maxHeartbeats 1000000
namespace L2
open PySem PySem.Spec
end L2
set_option Elab.async false
set_option linter.all false
set_option maxRecDepth 100000
set_option maxHeartbeats 1000000
namespace L2
open PySem PySem.Spec
structure DKR (H:Hp) (kvs:List (Key × V)) (fd:List (Int × Int)):Prop where
 len:kvs.length=fd.length
 no:∀ c,fd.lookup c=none -> valV kvs (.inl c)=none
 at_:∀ c k,fd.lookup c=some k -> ∃ r,valV kvs (.inl c)=some (.ref r) /\ H r=some (.tup [.int k,.int 0,.int 1])
theorem DKR.nil {H:Hp}:DKR H [] []:=⟨rfl,fun _ _=>rfl,fun _ _ z=>by cases z⟩
theorem DKR.same {H H':Hp}{kvs:List (Key × V)}{fd:List (Int × Int)}(h:DKR H kvs fd)(s:Same H H'):DKR H' kvs fd:=⟨h.len,h.no,fun c k e=>by
 obtain ⟨r,e1,e2⟩:=h.at_ c k e
 exact ⟨r,e1,s _ _ e2⟩⟩
theorem DKR.chgL {H H':Hp}{kvs:List (Key × V)}{fd:List (Int × Int)}{l:Addr}{us:List V}(h:DKR H kvs fd)(hl:H l=some (.lst us))(s:Chg l H H'):DKR H' kvs fd:=⟨h.len,h.no,fun c k e=>by
 obtain ⟨r,e1,e2⟩:=h.at_ c k e
 exact ⟨r,e1,s _ _ (ne_of e2 hl (by intro z; cases z)) e2⟩⟩
theorem DKR.chgD {H H':Hp}{kvs ks:List (Key × V)}{fd:List (Int × Int)}{l:Addr}(h:DKR H kvs fd)(hl:H l=some (.dK ks))(s:Chg l H H'):DKR H' kvs fd:=⟨h.len,h.no,fun c k e=>by
 obtain ⟨r,e1,e2⟩:=h.at_ c k e
 exact ⟨r,e1,s _ _ (ne_of e2 hl (by intro z; cases z)) e2⟩⟩
theorem DKR.put {H:Hp}{kvs:List (Key × V)}{fd:List (Int × Int)}{c k:Int}{r:Addr}(h:DKR H kvs fd)(hn:fd.lookup c=none)(hr:H r=some (.tup [.int k,.int 0,.int 1])):DKR H (putK kvs (.inl c) (.ref r)) (fd ++ [(c,k)]):=by
 have e:=h.no c hn
 refine ⟨?_,fun d hd=>?_,fun d m hd=>?_⟩
 ·rw [putK_new _ e,qF,qF,h.len]
  rfl
 ·rw [lk_app] at hd
  by_cases z:d=c
  ·rw [if_pos z] at hd
   cases h2:fd.lookup d <;> rw [h2] at hd <;> cases hd
  ·rw [if_neg z] at hd
   rw [valV_put,if_neg (fun y=>z (Sum.inl.inj y))]
   refine h.no d ?_
   cases h2:fd.lookup d with
   | none=>rfl
   | some x=>rw [h2] at hd; cases hd
 ·rw [lk_app] at hd
  by_cases z:d=c
  ·subst z
   rw [hn,if_pos rfl] at hd
   cases hd
   exact ⟨r,by rw [valV_put,if_pos rfl],hr⟩
  ·rw [if_neg z] at hd
   rw [valV_put,if_neg (fun y=>z (Sum.inl.inj y))]
   refine h.at_ d m ?_
   cases h2:fd.lookup d with
   | none=>rw [h2] at hd; cases hd
   | some x=>rw [h2] at hd; exact hd
def spOutP (K:PySem.W.Frag):Sp:=fun vs H Q _=>∃ (n:Int) (t:Addr) (kvs:List (Key × V)) (fd:List (Int × Int)) (ns:List Int),vs=[.int n,.ref t] /\ H t=some (.dK kvs) /\ DKR H kvs fd /\ n.natAbs < 2 ^ 200 /\ (n ≠ 0 -> ∃ k:Nat,fd.lookup (coreN n)=some (k:Int) /\ ns[k]? = some (coreN n)) /\
 ∀ (r:Addr) (a b c:Int) H',SqT K H' r [.int a,.int b,.int c] -> OutOk ns n a b c -> (n ≠ 0 -> fd.lookup (coreN n)=some a) -> Same H H' -> Q (.ref r) H'
def spMovedP (K:PySem.W.Frag):Sp:=fun vs H Q _=>∃ (p:Addr) (a b c s g:Int),vs=[.ref p,.int s,.int g] /\ H p=some (.tup [.int a,.int b,.int c]) /\ c * g ≠ 0 /\ (-(2 ^ 64) < c) /\ c < 2 ^ 64 /\
 ∀ (r:Addr),H r=none -> Q (.ref r) (upd H r (.tup [.int a,.int (b+s),.int (c * g)]))
end L2
set_option Elab.async false
set_option linter.all false
set_option maxRecDepth 100000
set_option maxHeartbeats 1000000
namespace L2
open PySem PySem.Spec
end L2
set_option Elab.async false
set_option linter.all false
set_option maxRecDepth 100000
set_option maxHeartbeats 1000000
namespace L2
open PySem PySem.Spec
end L2
set_option Elab.async false
set_option linter.all false
set_option maxRecDepth 100000
set_option maxHeartbeats 1000000
namespace L2
open PySem PySem.Spec
end L2
set_option Elab.async false
set_option linter.all false
set_option maxRecDepth 100000
set_option maxHeartbeats 1000000
namespace L2
open PySem PySem.Spec PyProof PyProof.Rows
section
variable {P:Program}{w:World}{A:Around}{E:Value -> Shared -> Prop}{s:Shared}
end
section
variable {X:Cx}
end
end L2
set_option Elab.async false
set_option linter.all false
set_option maxRecDepth 100000
set_option maxHeartbeats 1000000
namespace L2
open PySem PySem.Spec
section
variable {K:PySem.W.Frag}{σ:St}{H:Hp}{D:Ends}{g:TG}{tb:TS}{a b:Addr}
end
section
variable {K:PySem.W.Frag}{σ:St}{H:Hp}{Q:VK}{cs:List Nat}{te:TE}
end
end L2
set_option Elab.async false
set_option linter.all false
set_option maxRecDepth 100000
set_option maxHeartbeats 1000000
namespace L2
open PySem PySem.Spec
def vGD (g:Int -> Int -> Int -> Int -> Int)(z:Int)(vs:List Int)(d:Wd):Int:=g (g z d.s 1 (vs.getD d.a 0)) d.t (sgW d.w) (vs.getD d.b 0)
def vG (g:Int -> Int -> Int -> Int -> Int)(z:Int)(xs:List Int)(ds:List Wd):List Int:=ds.foldl (fun vs d=>vs ++ [vGD g z vs d]) xs
section
variable {g:Int -> Int -> Int -> Int -> Int}{z:Int}
end
def tG (g:Int -> Int -> Int -> Int -> Int)(z:Int)(xs:List Int)(ds:List Wd)(i:Nat):List Int :=
 if i % 2=0 then vG g z xs (ds.take (i / 2)) ++ qQ (ds.length - i / 2) z
 else match ds[i / 2]? with
  | some d=>vG g z xs (ds.take (i / 2)) ++ g z d.s 1 ((vG g z xs (ds.take (i / 2))).getD d.a 0) :: qQ (ds.length - i / 2 - 1) z
  | none=>[]
section
variable {g:Int -> Int -> Int -> Int -> Int}{z:Int}
end
end L2
set_option Elab.async false
set_option linter.all false
set_option maxRecDepth 100000
set_option maxHeartbeats 1000000
namespace L2
open PySem PySem.Spec
end L2
set_option Elab.async false
set_option linter.all false
set_option maxRecDepth 100000
set_option maxHeartbeats 1000000
namespace L2
open PySem PySem.Spec
section
variable {K:PySem.W.Frag}{σ:St}{H:Hp}{Q:VK}{cs:List Nat}{te:TE}
end
end L2
set_option Elab.async false
set_option linter.all false
set_option maxRecDepth 100000
set_option maxHeartbeats 1000000
namespace L2
open PySem PySem.Spec PyProof.Rows
section
variable {prog:Program}{w:World}{A:Around}{E:Value -> Shared -> Prop}{s:Shared}
end
section
variable {prog:Program}{w:World}{A:Around}{E:Value -> Shared -> Prop}{s:Shared}
end
section
variable {K:PySem.W.Frag}{σ:St}{H:Hp}{D:Ends}{g:TG}{tb:TS}{a b c:Addr}
end
end L2
set_option Elab.async false
set_option linter.all false
set_option maxRecDepth 100000
set_option maxHeartbeats 1000000
namespace L2
open PySem PySem.Spec
end L2
set_option Elab.async false
set_option linter.all false
set_option maxRecDepth 100000
set_option maxHeartbeats 1000000
namespace L2
open PySem PySem.Spec PyProof PyProof.Rows
section
variable {prog:Program}{w:World}{A:Around}{E:Value -> Shared -> Prop}{s:Shared}
end
section
variable {prog:Program}{w:World}{A:Around}{E:Value -> Shared -> Prop}{s:Shared}
end
section
variable {K:PySem.W.Frag}{σ:St}{H:Hp}{Q:VK}{cs:List Nat}{te:TE}
end
section
variable {X:Cx}
theorem best_low (val:Nat -> Int):∀ k i,i <= k -> val (argBest (fun i j=>decide (val i < val j)) k) <= val i
 | 0,i,h=>by
  have:i=0:=by omega
  subst this
  exact Int.le_refl _
 | k+1,i,h=>by
  rw [argBest]
  by_cases hb:val (k+1) < val (argBest (fun i j=>decide (val i < val j)) k)
  ·rw [if_pos (by simpa using hb)]
   by_cases e:i=k+1
   ·subst e; exact Int.le_refl _
   ·have:=best_low val k i (by omega)
    omega
  ·rw [if_neg (by simpa using hb)]
   by_cases e:i=k+1
   ·subst e; omega
   ·exact best_low val k i (by omega)
def rMinG:List V -> Hp -> VK -> Prop:=fun xs H Q=>∃ (p:Addr) (ns:List Int),xs=[.ref p] /\ H p=some (.lst (ns.map V.int)) /\ ns ≠ [] /\ ∀ v,v ∈ ns -> (∀ n ∈ ns,v <= n) -> Q (.int v) H
theorem best_at {xs:List (Int × Tok)}{ns:List Int}(e:xs.map (·.1)=ns){bt:Nat -> Nat -> Bool}{v:Value}(hv:(xs.map fun p=>Value.int p.1 p.2).toArray[argBest bt (xs.length - 1)]? = some v):∃ m tk,v = .int m tk /\ ns[argBest bt (xs.length - 1)]? = some m:=by
 rw [List.getElem?_toArray,qI] at hv
 cases hx:xs[argBest bt (xs.length - 1)]? with
 | none=>rw [hx] at hv; cases hv
 | some q =>
  rw [hx] at hv
  cases hv
  exact ⟨q.1,q.2,rfl,by rw [← e,qI,hx]; rfl⟩
theorem call_minG (hc:X.calm=true):CallR X (.builtin "min") rMinG:=by
 intro pins s σ H xs us Q I r h
 obtain ⟨p,ns,rfl,hp,hne,q⟩:=h
 obtain ⟨u,rfl,ru⟩:=Vals.one r
 cases ru
 refine call_min_walk (walk_list hc I hp fun its rv s2 st hfp hne2 W hI=>?_)
 obtain ⟨xs,rfl,e⟩:=vals_intItems rv
 have hl:xs.length=ns.length:=by rw [← e,qC]
 have hx:0 < xs.length:=by
  rw [hl]
  exact List.length_pos_iff.mpr hne
 refine ⟨_,_,_,_,_,_,fun i j=>decide (ns.getD i 0 < ns.getD j 0),rfl,W,st,hfp,by simpa using hx,CmpOf.ints_lt (fun i=>ns.getD i 0) (at_int e),fun v h' tk hP hk=>?_⟩
 obtain ⟨m,t,rfl,hm⟩:=best_at e (v:=v) (bt:=fun i j=>decide (ns.getD i 0 < ns.getD j 0)) (by simpa using hP)
 refine ⟨.int m,H,hI h' tk hk,⟨_,rfl⟩,q m (qE hm) fun n hn=>?_⟩
 obtain ⟨i,hi,rfl⟩:=List.getElem_of_mem hn
 have b:=best_low (fun i=>ns.getD i 0) (xs.length - 1) i (by omega)
 rw [getD_of hm,getD_of (qA hi)] at b
 exact b
end
end L2
set_option Elab.async false
set_option linter.all false
set_option maxRecDepth 100000
set_option maxHeartbeats 1000000
namespace L2
open PySem PySem.Spec
def Lies (w x:Int):Prop:=-(2 ^ (w - 1).toNat) <= x /\ x < 2 ^ (w - 1).toNat
instance (w x:Int):Decidable (Lies w x):=by unfold Lies; infer_instance
def nz (ns:List Int):List Int:=ns.filter fun n=>decide (n ≠ 0)
theorem divBig {i j:Int}(h:0 < j)(h2:j.natAbs < 2 ^ 9000):CDivB i j:=⟨h,(Nat.log2_lt (by omega)).mpr h2⟩
end L2
set_option Elab.async false
set_option linter.all false
set_option maxRecDepth 100000
set_option maxHeartbeats 1000000
namespace L2
open PySem PySem.Spec
end L2
set_option Elab.async false
set_option linter.all false
set_option maxRecDepth 100000
set_option maxHeartbeats 1000000
namespace L2
open PySem PySem.Spec
end L2
set_option Elab.async false
set_option linter.all false
set_option maxRecDepth 100000
set_option maxHeartbeats 1000000
namespace L2
open PySem PySem.Spec
theorem seq_in {t u:TS}{D:Ends}{σ:St}{H:Hp}(h:∀ R:TS,R=u -> tSeq t R D σ H):tSeq t u D σ H:=h u rfl
theorem seq_out {R u:TS}{D:Ends}{σ:St}{H:Hp}(e:R=u)(h:u D σ H):R D σ H:=by rw [e]; exact h
end L2
set_option Elab.async false
set_option linter.all false
set_option maxRecDepth 100000
set_option maxHeartbeats 1000000
namespace L2
open PySem PySem.Spec
section
variable {K:PySem.W.Frag}{σ:St}{H:Hp}{Q:VK}{cs:List Nat}{te:TE}
end
end L2
set_option Elab.async false
set_option linter.all false
set_option maxRecDepth 100000
set_option maxHeartbeats 1000000
namespace L2
open PySem PySem.Spec
section
variable {K:PySem.W.Frag}{σ:St}{H:Hp}{Q:VK}{cs:List Nat}{te:TE}
end
end L2
set_option Elab.async false
set_option linter.all false
set_option maxRecDepth 100000
set_option maxHeartbeats 1000000
namespace L2
open PySem PySem.Spec PyProof.Rows
end L2
set_option Elab.async false
set_option linter.all false
set_option maxRecDepth 100000
set_option maxHeartbeats 1000000
namespace L2
open PySem PySem.Spec PyProof.Rows
section
variable {H H':Hp}{x dl gl:Addr}{ins:Nat}{us:List V}{ds:List Wd}{os:List V}{gs:List Go}
end
section
variable {α:Type}{f:α -> List V}{H0 H H':Hp}{p dl:Addr}{us:List V}{ds:List α}
end
section
variable {H:Hp}{w:Str}{a b d1 g1 d2 g2:Addr}{i1 i2:Nat}{u1 u2:List V}{s1 s2:List Wd}{o1 o2:List V}{t1 t2:List Go}{Q:VK}{E:XK}
end
end L2
set_option Elab.async false
set_option linter.all false
set_option maxRecDepth 100000
set_option maxHeartbeats 1000000
namespace L2
open PySem PySem.Spec PyProof.Rows
theorem mvI_0 (s:Int):mvI s 0=0:=by
 unfold mvI
 simp
section
variable {I ins l m:Nat}{f:Nat -> Nat}{ds0 ds:List Wd}{gs0 gs:List Go}
end
end L2
set_option Elab.async false
set_option linter.all false
set_option maxRecDepth 100000
set_option maxHeartbeats 1000000
namespace L2
open PySem PySem.Spec PyProof.Rows
structure HKs {α:Type} (K:PySem.W.Frag) (f:α -> List V) (H:Hp) (vs:List V) (xs:List α):Prop where
 len:vs.length=xs.length
 at_:∀ (k:Nat) (x:α),xs[k]? = some x -> ∃ p:Addr,vs[k]? = some (.ref p) /\ SqT K H p (f x)
section
variable {α:Type}{K:PySem.W.Frag}{f:α -> List V}{H H':Hp}{vs us:List V}{xs:List α}{l:Addr}
theorem HTs.hk (h:HTs f H vs xs):HKs K f H vs xs:=⟨h.len,fun k x e=>by
 obtain ⟨p,e1,e2⟩:=h.at_ k x e
 exact ⟨p,e1,SqT.of e2⟩⟩
theorem HKs.same (h:HKs K f H vs xs)(s:Same H H'):HKs K f H' vs xs:=⟨h.len,fun k d e=>by
 obtain ⟨x,e1,e2⟩:=h.at_ k d e
 exact ⟨x,e1,s.seqT e2⟩⟩
end
structure WbK (K:PySem.W.Frag) (H:Hp) (w dl gl:Addr) (ins:Nat) (us:List V) (ds:List Wd) (os:List V) (gs:List Go):Prop where
 tup:H w=some (.tup [.int ins,.ref dl,.ref gl])
 dll:H dl=some (.lst us)
 hds:HTs wTup H us ds
 gll:H gl=some (.lst os)
 hgs:HKs K gTp H os gs
theorem Wb.wk {K:PySem.W.Frag}{H:Hp}{w dl gl:Addr}{ins:Nat}{us:List V}{ds:List Wd}{os:List V}{gs:List Go}(h:Wb H w dl gl ins us ds os gs):WbK K H w dl gl ins us ds os gs:=⟨h.tup,h.dll,h.hds,h.gll,h.hgs.hk⟩
theorem WbK.same {K:PySem.W.Frag}{H H':Hp}{w dl gl:Addr}{ins:Nat}{us:List V}{ds:List Wd}{os:List V}{gs:List Go}(h:WbK K H w dl gl ins us ds os gs)(s:Same H H'):WbK K H' w dl gl ins us ds os gs :=
 ⟨s _ _ h.tup,s _ _ h.dll,h.hds.same s,s _ _ h.gll,h.hgs.same s⟩
def sT (n:Nat):List V:=[.int n,.int 0,.int 1]
end L2
set_option Elab.async false
set_option linter.all false
set_option maxRecDepth 100000
set_option maxHeartbeats 1000000
namespace L2
open PySem PySem.Spec PyProof.Rows
section
variable {X:Cx}
end
section
variable {K:PySem.W.Frag}{σ:St}{H:Hp}{Q:VK}{cs:List Nat}{te:TE}
end
def outsR (ins:Nat)(ds:List Wd)(gs:List Go):List (List Int):=gs.map (outR (rowsW ins ds))
end L2
set_option Elab.async false
set_option linter.all false
set_option maxRecDepth 100000
set_option maxHeartbeats 1000000
namespace L2
open PySem PySem.Spec PyProof.Rows
section
variable {c:Bool}{i1 i2:Nat}{s1 s2:List Wd}{t1 t2:List Go}
end
section
variable {K:PySem.W.Frag}{σ:St}{H:Hp}{Q:VK}{cs:List Nat}{te:TE}
theorem comp_ofI {α:Type}{l:Addr}{vs:List V}{xs:List α}(hl:H l=some (.lst vs))(hlen:vs.length=xs.length)(hz:xs.length <= 1000)(f:α -> Int)
  (hb:∀ (k:Nat) v x H' (R:VK),vs[k]? = some v -> xs[k]? = some x -> Same H H' -> (∀ H5,Same H' H5 -> R (.int (f x)) H5) -> te (some v :: capV cs σ) H' R)
  (hd:∀ acc H',H acc=none -> Same H H' -> H' acc=some (.lst ((xs.map f).map V.int)) -> Q (.ref acc) H'):CompIt (Itl K l) 1 cs (gName 0) tYes te σ H Q:=by
 refine comp_any xs.length (fun acc i ws H'=>Same H H' /\ H acc=none /\ H' acc=some (.lst ws) /\ ws=((xs.map f).take i).map V.int) (le_size hz) ?_ ?_ ?_ ?_ ?_ ?_
 ·rintro acc i ws H' hi ⟨s,_⟩
  exact ⟨vs,vs[i]'(by omega),SqL.of (s _ _ hl),qA _⟩
 ·rintro acc ws H' ⟨s,_⟩
  exact ⟨vs,SqL.of (s _ _ hl),by omega⟩
 ·intro acc ha
  exact ⟨same_new ha _,ha,upd_same,rfl⟩
 ·rintro acc i ws H' ⟨s,_,ha,hw⟩
  exact ⟨ha,by rw [hw,qC,qO]; omega⟩
 ·rintro acc i ws H' ts v H2 N hn hi ⟨s,hn',ha,hw⟩ ⟨rfl,hx0⟩ hts hN
  have hx:=hx0 vs (SqL.of (s _ _ hl))
  have e1:xs[i]? = some xs[i]:=qA hi
  generalize xs[i]=x at e1
  obtain ⟨t0,rfl⟩:∃ t0,ts=[t0]:=by
   match ts,hts with
   | [a],_=>exact ⟨a,rfl⟩
  rw [w_gName,w_yes,if_pos rfl]
  refine hb i v x H2 _ hx e1 s fun H5 s5=>?_
  refine ⟨s5 _ _ ha,hN _ [some v] _ rfl ⟨same_upd hn (s.trans s5),hn',upd_same,?_⟩⟩
  rw [hw,List.take_add_one,qI,e1,List.map_append]
  rfl
 ·rintro acc ws H' hn ⟨s,_,ha,hw⟩
  refine hd acc H' hn s ?_
  rw [ha,hw,List.take_of_length_le (by rw [qC]; exact Nat.le_refl _)]
end
end L2
set_option Elab.async false
set_option linter.all false
set_option maxRecDepth 100000
set_option maxHeartbeats 1000000
namespace L2
open PySem PySem.Spec PyProof.Rows
def Rise (xs:Array Nat):Prop:=∀ i j (hi:i < xs.size) (hj:j < xs.size),i < j -> xs[i] < xs[j]
theorem below_go {xs:Array Nat}(R:Rise xs)(j:Nat):∀ (fuel lo hi:Nat),lo <= hi -> hi <= xs.size -> hi - lo <= fuel -> (∀ i (h:i < xs.size),i < lo -> xs[i] < j) -> (∀ i (h:i < xs.size),hi <= i -> j <= xs[i]) ->
  (SetTable.below.go xs j fuel lo hi <= xs.size /\ (∀ i (h:i < xs.size),i < SetTable.below.go xs j fuel lo hi -> xs[i] < j) /\ ∀ i (h:i < xs.size),SetTable.below.go xs j fuel lo hi <= i -> j <= xs[i])
 | 0,lo,hi,h1,h2,h3,h4,h5=>by
  have:lo=hi:=by omega
  subst this
  exact ⟨h2,h4,h5⟩
 | fuel+1,lo,hi,h1,h2,h3,h4,h5=>by
  unfold SetTable.below.go
  by_cases z:lo < hi
  ·rw [if_pos z]
   have ml:(lo+hi) / 2 < xs.size:=by omega
   have e:xs.getD ((lo+hi) / 2) j=xs[(lo+hi) / 2]:=by simp [ml]
   dsimp only
   rw [e]
   by_cases y:xs[(lo+hi) / 2] < j
   ·rw [if_pos y]
    refine below_go R j fuel _ _ (by omega) h2 (by omega) (fun i hi' hlt=>?_) h5
    by_cases q:i=(lo+hi) / 2
    ·subst q; exact y
    ·exact Nat.lt_trans (R i _ hi' ml (by omega)) y
   ·rw [if_neg y]
    refine below_go R j fuel _ _ (by omega) (by omega) (by omega) h4 (fun i hi' hge=>?_)
    by_cases q:i=(lo+hi) / 2
    ·subst q; omega
    ·have:=R _ i ml hi' (by omega)
     omega
  ·rw [if_neg z]
   have:lo=hi:=by omega
   subst this
   exact ⟨h2,h4,h5⟩
theorem below_ok {xs:Array Nat}(R:Rise xs)(j:Nat):SetTable.below xs j <= xs.size /\ (∀ i (h:i < xs.size),i < SetTable.below xs j -> xs[i] < j) /\ ∀ i (h:i < xs.size),SetTable.below xs j <= i -> j <= xs[i]:=by
 unfold SetTable.below
 exact below_go R j _ _ _ (by omega) (Nat.le_refl _) (by omega) (fun i _ h=>by omega) (fun i _ h=>by omega)
theorem insAt_get {α:Type}(xs:Array α){p:Nat}(x:α)(hp:p <= xs.size)(i:Nat):(SetTable.insertAt xs p x)[i]? = if i < p then xs[i]? else if i=p then some x else xs[i - 1]?:=by
 rw [← Array.getElem?_toList,SetTable.toList_insertAt]
 have lt:(xs.toList.take p).length=p:=by rw [qO,Array.length_toList]; omega
 by_cases h1:i < p
 ·rw [if_pos h1,qH (by rw [lt]; exact h1),List.getElem?_take_of_lt h1,Array.getElem?_toList]
 ·rw [if_neg h1]
  by_cases h2:i=p
  ·rw [if_pos h2,qG (by rw [lt]; omega),lt,h2,Nat.sub_self]
   rfl
  ·rw [if_neg h2,qG (by rw [lt]; omega),lt,show i - p=(i - 1 - p)+1 by omega,List.getElem?_cons_succ,List.getElem?_drop,Array.getElem?_toList]
   congr 1
   omega
theorem rise_ins {xs:Array Nat}{j:Nat}(R:Rise xs)(hj:xs[SetTable.below xs j]? ≠ some j):Rise (SetTable.insertAt xs (SetTable.below xs j) j):=by
 obtain ⟨b1,b2,b3⟩:=below_ok R j
 generalize SetTable.below xs j=p at b1 b2 b3 hj
 intro i k hi hk hik
 have ei:=insAt_get xs j b1 i
 have ek:=insAt_get xs j b1 k
 rw [Array.getElem?_eq_getElem hi] at ei
 rw [Array.getElem?_eq_getElem hk] at ek
 generalize (SetTable.insertAt xs p j)[i]=u at ei
 generalize (SetTable.insertAt xs p j)[k]=v at ek
 have get:∀ {m w:Nat},some w=xs[m]? -> ∃ h:m < xs.size,xs[m]=w:=fun {m w} h=>by
  obtain ⟨h1,h2⟩:=Array.getElem?_eq_some_iff.mp h.symm
  exact ⟨h1,h2⟩
 by_cases i1:i < p
 ·rw [if_pos i1] at ei
  obtain ⟨il,rfl⟩:=get ei
  by_cases k1:k < p
  ·rw [if_pos k1] at ek
   obtain ⟨kl,rfl⟩:=get ek
   exact R i k il kl hik
  ·rw [if_neg k1] at ek
   by_cases k2:k=p
   ·rw [if_pos k2] at ek
    cases ek
    exact b2 i il i1
   ·rw [if_neg k2] at ek
    obtain ⟨kl,rfl⟩:=get ek
    exact R i (k - 1) il kl (by omega)
 ·rw [if_neg i1] at ei
  by_cases i2:i=p
  ·rw [if_pos i2] at ei
   cases ei
   rw [if_neg (by omega),if_neg (by omega)] at ek
   obtain ⟨kl,rfl⟩:=get ek
   have hp:p < xs.size:=by omega
   have h1:j <= xs[p]:=b3 p hp (Nat.le_refl _)
   have h2:xs[p] ≠ j:=fun e=>hj (by rw [Array.getElem?_eq_getElem hp,e])
   by_cases q:k - 1=p
   ·simp only [q]; omega
   ·have:=R p (k - 1) hp kl (by omega)
    omega
  ·rw [if_neg i2] at ei
   rw [if_neg (by omega),if_neg (by omega)] at ek
   obtain ⟨il,rfl⟩:=get ei
   obtain ⟨kl,rfl⟩:=get ek
   exact R _ _ il kl (by omega)
theorem rise_list {xs:List Nat}(h:xs.Pairwise (· < ·)):Rise xs.toArray:=fun i j hi hj hij=>by
 simp only [List.getElem_toArray]
 exact List.pairwise_iff_getElem.mp h i j (by simpa using hi) (by simpa using hj) hij
theorem rise_range (n:Nat):Rise (Array.range n):=fun i j hi hj hij=>by
 simp only [Array.getElem_range]
 exact hij
structure TabZ (led:Bool) (t:SetTable):Prop where
 rise:Rise t.place
 dum:t.dummies = #[]
 led_:t.led=led
theorem tabZ_fresh (led:Bool):TabZ led (.fresh 0 0 led):=⟨fun i j hi=>by simp [SetTable.fresh] at hi,rfl,rfl⟩
theorem TabZ.stand {led:Bool}{t:SetTable}(h:TabZ led t)(n:Nat):TabZ led (t.standIn n):=⟨rise_range n,rfl,h.led_⟩
theorem TabZ.orStand {led:Bool}{t:SetTable}(h:TabZ led t)(n:Nat):TabZ led (t.orStandIn n):=by
 unfold SetTable.orStandIn
 split
 ·exact h
 ·exact h.stand n
theorem has_nil (j:Nat):SetTable.has #[] j=false:=by
 unfold SetTable.has
 simp
theorem probe_go {led:Bool}{t:SetTable}(h:TabZ led t)(f:Nat -> Int)(x:Int):∀ (fuel:Nat) (p:SetTable.Probe) (m:SetTable.Met),p.dummy=none -> SetTable.probe.go t f x fuel p=some m -> (∀ i,(f i == x)=false) -> ∃ j,m = .empty j none /\ t.slot j = .empty
 | 0,p,m,_,e,_=>by cases e
 | fuel+1,p,m,hd,e,hf=>by
  unfold SetTable.probe.go at e
  cases hs:t.slot p.j with
  | empty =>
   rw [hs] at e
   cases e
   exact ⟨p.j,by rw [hd],hs⟩
  | dummy =>
   exfalso
   unfold SetTable.slot at hs
   dsimp only at hs
   split at hs
   ·cases hs
   ·rw [h.dum,has_nil] at hs
    cases hs
  | live i =>
   rw [hs] at e
   dsimp only at e
   rw [hf i] at e
   refine probe_go h f x fuel _ m ?_ e hf
   unfold SetTable.advance
   split
   ·exact hd
   ·exact hd
theorem free_slot {led:Bool}{t:SetTable}(h:TabZ led t){x:Int}{j:Nat}{b:Bool}(e:t.freeSlot x=some (j,b)):b=false /\ t.place[SetTable.below t.place j]? ≠ some j:=by
 unfold SetTable.freeSlot at e
 cases hp:t.probe (fun _=>x+1) x (t.probeStart x) with
 | none=>rw [hp] at e; cases e
 | some m =>
  obtain ⟨j',rfl,hs⟩:=probe_go h _ _ _ _ _ rfl hp (fun _=>by simp; omega)
  rw [hp] at e
  cases e
  refine ⟨rfl,fun z=>?_⟩
  unfold SetTable.slot at hs
  dsimp only at hs
  rw [Option.getD_none] at z
  rw [z] at hs
  simp at hs
theorem layNew_z {led:Bool}{t:SetTable}(h:TabZ led t)(es:Array (Int × Value))(x:Int)(v:Value):TabZ led (layNew t es x v).2.1:=by
 unfold layNew
 cases hf:t.freeSlot x with
 | none=>exact h.stand _
 | some q =>
  obtain ⟨j,b⟩:=q
  obtain ⟨rfl,hj⟩:=free_slot h hf
  have hp:TabZ led (t.put j).1:=by
   refine ⟨rise_ins h.rise hj,?_,h.led_⟩
   show (if SetTable.has t.dummies j=true then _ else t.dummies) = #[]
   rw [h.dum,has_nil]
   rfl
  exact hp.orStand _
theorem rise_live (owner:Array (Option Nat))(n:Nat):((((List.range n).filterMap fun j=>(owner.getD j none).map (j,·)).map (·.1))).Pairwise (· < ·):=by
 rw [List.pairwise_map]
 refine List.Pairwise.filterMap _ (R:=(· < ·)) (fun a a' haa b hb b' hb'=>?_) List.pairwise_lt_range
 cases h1:owner.getD a none with
 | none=>rw [h1] at hb; cases hb
 | some u =>
  cases h2:owner.getD a' none with
  | none=>rw [h2] at hb'; cases hb'
  | some v =>
   rw [h1] at hb
   rw [h2] at hb'
   cases hb
   cases hb'
   exact haa
theorem relay_z {led:Bool}{t:SetTable}(h:TabZ led t)(es:Array (Int × Value))(n:Nat):TabZ led (relayAll t es n).2.1:=by
 unfold relayAll
 cases hr:t.relaid (es.map (·.1)) n with
 | none=>exact h.stand _
 | some q =>
  obtain ⟨t',o⟩:=q
  dsimp only
  split
  ·unfold SetTable.relaid SetTable.laid at hr
   cases hc:SetTable.layClean (SetTable.sizeAbove n - 1) (es.map (·.1)) with
   | none=>rw [hc] at hr; cases hr
   | some ow =>
    rw [hc] at hr
    cases hr
    exact ⟨rise_list (rise_live ow _),rfl,h.led_⟩
  ·exact h.stand _
end L2
set_option Elab.async false
set_option linter.all false
set_option maxRecDepth 100000
set_option maxHeartbeats 1000000
namespace L2
open PySem PySem.Spec PyProof.Rows
def keyZ (e:Int × Value):Int:=match e.2 with
 | .int k _=>k
 | _=>0
abbrev setObj (es:Array (Int × Value)) (ep:Nat) (t:SetTable):Obj:={ cls:=.type "set",dict:=none,data:=.set es ep t }
def EntZ (es:List (Int × Value)):Prop:=∀ e ∈ es,∃ k tk,e=(hashInt k,Value.int k tk)
structure SetO (led:Bool) (es:Array (Int × Value)) (t:SetTable) (ks:List Int):Prop where
 ent:EntZ es.toList
 perm:(es.toList.map keyZ).Perm ks
 nd:ks.Nodup
 sm:es.size < scanBound
 fit:t.fits es.size=true
 tab:TabZ led t
def SetZ (led:Bool)(h:Heap)(a:Addr)(ks:List Int):Prop:=∃ es ep t,h.get? a=some (setObj es ep t) /\ SetO led es t ks
theorem EntZ.elems {prog:Program}{w:World}{l:List (Int × Value)}(h:EntZ l):ElemsOf (intKind prog w) l:=fun e he=>by
 obtain ⟨k,tk,rfl⟩:=h e he
 exact ⟨⟨k,intKind_is _ _ _ _,rfl⟩,rfl⟩
theorem isInt_key {e:Int × Value}{k:Int}(h:∃ k tk,e=(hashInt k,Value.int k tk)):Value.isInt k e.2=decide (keyZ e=k):=by
 obtain ⟨k',tk,rfl⟩:=h
 show (k' == k)=decide (k'=k)
 cases hk:decide (k'=k) with
 | true=>exact beq_iff_eq.mpr (of_decide_eq_true hk)
 | false=>exact beq_eq_false_iff_ne.mpr (of_decide_eq_false hk)
theorem SetO.len {led:Bool}{es:Array (Int × Value)}{t:SetTable}{ks:List Int}(h:SetO led es t ks):es.size=ks.length:=by
 have:=h.perm.length_eq
 rw [qC,Array.length_toList] at this
 exact this
section
variable {prog:Program}{w:World}{A:Around}{E:Value -> Shared -> Prop}{s:Shared}
theorem put_at {h:Heap}{a:Addr}{es es':Array (Int × Value)}{ep:Nat}{t t':SetTable}(ho:h.get? a=some (setObj es ep t)):(h.update a (Obj.putSet es' t')).get? a=some (setObj es' (ep+1) t'):=by
 have q:=Heap.get?_update_self (Obj.putSet es' t') ho (by rw [putSet_of es' t' rfl]; rfl)
 rw [putSet_of es' t' rfl] at q
 exact q
theorem tail_z {g:Bool -> Sem Unit}(hg:∀ (b:Bool) (s₁:Shared) (Q':Unit -> Shared -> Prop),Q' () s₁ -> wpAny (model prog w) A (g b) Q' E s₁)
  {led wd:Bool} {a:Addr} {es es1:Array (Int × Value)} {ep:Nat} {t t2:SetTable} {ks:List Int} {R:Option Bool -> Shared -> Prop} (ho:s.heap.get? a=some (setObj es ep t)) (Z:SetO led es1 t2 ks)
  (h:∀ h',Heap.SameBut a s.heap h' -> SetZ led h' a ks -> R (some true) { s with heap:=h' }) :
  wpAny (model prog w) A (do
    storeSet a es1 t2
    if (!wd && t2.tooFull)=true then do
      g (relayAll t2 es1 (SetTable.grown es1.size)).2.2
      storeSet a (relayAll t2 es1 (SetTable.grown es1.size)).1 (relayAll t2 es1 (SetTable.grown es1.size)).2.1
      pure (some true)
     else pure (some true)) R E s:=by
 refine wpAny_bind (wpAny_storeSet_of ho rfl ?_ (fits_of_scanBound Z.sm))
 have o1:(s.heap.update a (Obj.putSet es1 t2)).get? a=some (setObj es1 (ep+1) t2):=put_at ho
 have b1:=Heap.SameBut.update s.heap a (Obj.putSet es1 t2)
 split
 ·have z1:=relay_z Z.tab es1 (SetTable.grown es1.size)
  have z2:=relayAll_perm t2 es1 (SetTable.grown es1.size)
  have z3:=relayAll_fits t2 es1 (SetTable.grown es1.size)
  generalize relayAll t2 es1 (SetTable.grown es1.size)=Y at z1 z2 z3 ⊢
  have sz:Y.1.size=es1.size:=by
   have:=z2.length_eq
   rw [Array.length_toList,Array.length_toList] at this
   exact this
  refine wpAny_bind (hg _ _ _ (wpAny_bind (wpAny_storeSet_of o1 rfl ?_ (fits_of_scanBound (by rw [sz]; exact Z.sm)))))
  refine wpAny_pure (h _ (b1.trans (Heap.SameBut.update _ a _)) ⟨Y.1,_,Y.2.1,put_at o1,fun e he=>Z.ent e (z2.mem_iff.mp he),(z2.map _).trans Z.perm,Z.nd,by rw [sz]; exact Z.sm,z3,z1⟩)
 ·exact wpAny_pure (h _ b1 ⟨es1,_,t2,o1,Z⟩)
theorem setAdd_z {led:Bool}{a:Addr}{ks:List Int}{k:Int}{tk:Tok}{Q:Bool -> Shared -> Prop}(hS:SetZ led s.heap a ks)(hr:ks.length+1 < scanBound)
  (h:∀ (b:Bool) h',Heap.SameBut a s.heap h' -> SetZ led h' a (step_dedup ks k) -> Q b { s with heap:=h' }):wpAny (model prog w) A (setAddHashed a (.int k tk) (hashInt k)) Q E s:=by
 obtain ⟨es,ep,t,ho,Z⟩:=hS
 have el:=Z.ent.elems (prog:=prog) (w:=w)
 have ln:=Z.len
 have any:ks.any (· == k)=true ↔ ∃ e ∈ es.toList,keyZ e=k:=by
  rw [List.any_eq_true]
  constructor
  ·rintro ⟨x,hx,e⟩
   obtain ⟨y,hy,rfl⟩:=qP.mp (Z.perm.mem_iff.mpr hx)
   exact ⟨y,hy,beq_iff_eq.mp e⟩
  ·rintro ⟨e,he,rfl⟩
   exact ⟨keyZ e,Z.perm.mem_iff.mp (qP.mpr ⟨e,he,rfl⟩),beq_self_eq_true _⟩
 unfold setAddHashed setAddHashedIn
 refine wpAny_holding (wpAny_bind (wpAny_setState_of ho rfl Z.fit ?_))
 dsimp only
 rw [byScan_of (x:=.int k tk) rfl Z.sm el]
 simp only [↓reduceIte]
 unfold setAddByScan
 refine wpAny_bind (wpAny_bind (wpAny_rule (wpAny_bind ?_)))
 refine wpAny_setScan_of (knd:=intKind prog w) (k:=k) (intKind_is _ _ _ _) ho rfl Z.fit el ?_
 cases hf:List.findIdx? (fun e=>(intKind prog w).is k e.2) es.toList with
 | some j =>
  obtain ⟨hj,pj,_⟩:=List.findIdx?_eq_some_iff_getElem.mp hf
  have hk:keyZ es.toList[j]=k:=by
   have q:=(isInt_key (k:=k) (Z.ent _ (List.getElem_mem hj))).symm.trans pj
   exact of_decide_eq_true q
  have ha:ks.any (· == k)=true:=any.mpr ⟨_,List.getElem_mem hj,hk⟩
  dsimp only
  refine wpAny_pure (wpAny_pure (h false s.heap (Heap.SameBut.refl a s.heap) ⟨es,ep,t,ho,?_⟩))
  unfold step_dedup
  rw [if_pos ha]
  exact Z
 | none =>
  have ha:¬ ks.any (· == k)=true:=fun z=>by
   obtain ⟨e,he,hk⟩:=any.mp z
   have q:=List.findIdx?_eq_none_iff.mp hf e he
   rw [show (intKind prog w).is k e.2=decide (keyZ e=k) from isInt_key (Z.ent e he),decide_eq_true hk] at q
   cases q
  have hd:step_dedup ks k=ks ++ [k]:=by unfold step_dedup; rw [if_neg ha]
  have n1:=layNew_perm t es (hashInt k) (.int k tk)
  have n2:=layNew_fits t es (hashInt k) (.int k tk)
  have n3:=layNew_z Z.tab es (hashInt k) (.int k tk)
  dsimp only
  generalize layNew t es (hashInt k) (.int k tk)=Y at n1 n2 n3 ⊢
  obtain ⟨es1,t1,wd,gv⟩:=Y
  dsimp only at n1 n2 n3 ⊢
  rw [Array.toList_push] at n1
  have sz:es1.size=es.size+1:=by
   have:=n1.length_eq
   rw [Array.length_toList,qF,Array.length_toList] at this
   exact this
  have Z1:SetO led es1 t1 (ks ++ [k]):=by
   refine ⟨fun e he=>?_,?_,?_,by omega,n2,n3⟩
   ·rcases List.mem_append.mp (n1.mem_iff.mp he) with z | z
    ·exact Z.ent e z
    ·exact ⟨k,tk,List.mem_singleton.mp z⟩
   ·refine (n1.map keyZ).trans ?_
    rw [List.map_append]
    exact Z.perm.append_right _
   ·rw [List.nodup_append]
    refine ⟨Z.nd,(by simp),fun x hx y hy e=>ha ?_⟩
    rw [List.mem_singleton.mp hy] at e
    subst e
    exact List.any_eq_true.mpr ⟨x,hx,beq_self_eq_true _⟩
  have gw:∀ (b:Bool) (s₁:Shared) (Q':Unit -> Shared -> Prop),Q' () s₁ -> wpAny (model prog w) A (match b with | true=>rule "set.scan.the-table-gave-way" | false=>pure ()) Q' E s₁:=fun b s₁ Q' q=>by
   cases b
   ·exact wpAny_pure q
   ·exact wpAny_rule q
  refine wpAny_bind (gw _ _ _ ?_)
  split
  ·refine wpAny_bind ?_
   rw [hashByValue_scannable 8 (x:=.int k tk) rfl]
   refine wpAny_pure ?_
   refine tail_z gw ho ?_ fun h' sb q=>wpAny_pure (h _ h' sb (by rw [hd]; exact q))
   exact Z1
  ·refine wpAny_bind (wpAny_pure ?_)
   refine tail_z gw ho ?_ fun h' sb q=>wpAny_pure (h _ h' sb (by rw [hd]; exact q))
   exact Z1
end
end L2
set_option Elab.async false
set_option linter.all false
set_option maxRecDepth 100000
set_option maxHeartbeats 1000000
namespace L2
open PySem PySem.Spec PyProof.Rows
def ledOf (w:World):Bool:=!w.params.followText "set-order"
theorem SetZ.keep {led:Bool}{h h':Heap}{a:Addr}{ks:List Int}(z:SetZ led h a ks)(k:∀ o,h.get? a=some o -> h'.get? a=some o):SetZ led h' a ks:=by
 obtain ⟨es,ep,t,ho,Z⟩:=z
 exact ⟨es,ep,t,k _ ho,Z⟩
theorem setZ_new {led:Bool}{h:Heap}{a:Addr}(e:h.get? a=some (setObj #[] 0 (.fresh 0 0 led))):SetZ led h a [] :=
 ⟨#[],0,_,e,fun x hx=>(by simp at hx),List.Perm.refl _,List.nodup_nil,by decide,rfl,tabZ_fresh led⟩
theorem dedup_len (ks:List Int)(k:Int):(step_dedup ks k).length <= ks.length+1:=by
 unfold step_dedup
 split
 ·omega
 ·rw [qF]; exact Nat.le_refl _
section
variable {prog:Program}{w:World}{A:Around}{E:Value -> Shared -> Prop}{s:Shared}
theorem new_z (a:Value){Q₁:Value -> Shared -> Prop}(h:Q₁ (.ref s.heap.objs.size) { s with heap:=s.heap.push (setObj #[] 0 (.fresh 0 0 (ledOf w))) }) :
  codeAny (model prog w) A (.call (.builtin "set.__new__") ⟨[.type "set",a],[]⟩) (wants Q₁ E) s:=by
 refine codeAny_of_tree ?_
 show wpAny _ A.in1 (checkBuiltinCall "set.__new__" ⟨[.type "set",a],[]⟩ >>= fun _=>again (.builtin "set.__new__" ⟨[.type "set",a],[]⟩)) _ _ s
 refine wpAny_bind (wpAny_of_eq (PySem.F.newCall_set_1 a) (wpAny_pure ⟨plainId_quiet PySem.F.plain_set_new _,codeAny_builtin PySem.F.entry_set_new ?_⟩))
 rw [Around.under_plainId PySem.F.plain_set_new _]
 unfold Builtin.«set.__new__» Builtin.Frozenset.newClass
 have hsub:=sub_set_self
 obtain ⟨h0,g,d,tk,os⟩:=s
 dsimp only
 wp_walk
 refine wpAny_askSetting (wpAny_pure ?_)
 dsimp only
 simp only [newObj]
 exact wpAny_bind (wpAny_alloc (wpAny_pure (wpAny_pure h)))
end
section
variable {prog:Program}{w:World}{A:Around}{R:Result -> Shared -> Prop}{I:Addr}{fp wr:List Addr}{G:Array GenState -> Array GenState -> Prop}{P:Nat -> Value -> Prop}{St:Nat -> Shared -> Prop}
theorem loop_z {ns:List Int}(W:WalksS prog w A.in1 I fp wr G ns.length P St)(S:Addr)(hSf:S ∉ fp)(hv:∀ i v,P i v -> ∃ k t,ns[i]? = some k /\ v = .int k t){led:Bool} :
  ∀ (m i:Nat) (s:Shared) (ks:List Int),ns.length - i=m -> i <= ns.length -> St i s -> SetZ led s.heap S ks -> ks.length+m+1 < scanBound ->
   (∀ s',Moved (S :: wr) G s s' -> SetZ led s'.heap S ((ns.drop i).foldl step_dedup ks) -> R (.ok (.ret .none)) s') -> codeAny (model prog w) A (.builtin "set.update.loop" ⟨[.ref S,.ref I],[]⟩) R s:=by
 have hSw:S ∉ wr:=fun h=>hSf (W.sub _ h)
 have sub:∀ b ∈ wr,b ∈ S :: wr:=fun b hb=>List.mem_cons_of_mem _ hb
 intro m
 induction m with
 | zero =>
  intro i s ks hm hi st hz hb hR
  have e:i=ns.length:=by omega
  subst e
  refine codeAny_builtin F.entry_set_update_loop ?_
  rw [Around.under_plainId F.plain_set_update_loop _]
  show wpAny _ A.in1 (pyNext (.ref I) >>= _) _ _ s
  refine wpAny_bind (W.done s _ _ st fun s' mv=>?_)
  show wpAny _ A.in1 (ret Value.none) _ _ s'
  refine wpAny_pure (hR s' (mv.mono sub) ?_)
  rw [List.drop_length]
  exact hz.keep fun o e=>mv.heap S _ hSw e
 | succ m ih =>
  intro i s ks hm hi st hz hb hR
  have hlt:i < ns.length:=by omega
  refine codeAny_builtin F.entry_set_update_loop ?_
  rw [Around.under_plainId F.plain_set_update_loop _]
  show wpAny _ A.in1 (pyNext (.ref I) >>= _) _ _ s
  refine wpAny_bind (W.item i s _ _ hlt st fun v s' hP st' mv=>?_)
  obtain ⟨k,t,hk,rfl⟩:=hv i v hP
  have hz':SetZ led s'.heap S ks:=hz.keep fun o e=>mv.heap S _ hSw e
  show wpAny _ A.in1 (holding [Value.int k t] (setAdd S (.int k t)) >>= _) _ _ s'
  refine wpAny_bind (wpAny_holding ?_)
  unfold setAdd
  refine wpAny_holding (wpAny_bind ((intKind prog w).pyHash (k:=k) (intKind_is _ _ _ _) ?_))
  refine setAdd_z (s:={ s' with toks:=s'.toks+1 }) hz' (by omega) fun b h' sb hz2=>?_
  have dl:=dedup_len ks k
  refine wpAny_pure ⟨plainId_quiet F.plain_set_update_loop _,ih (i+1) _ (step_dedup ks k) (by omega) hlt (W.frame _ s' _ _ st' (Nat.le_succ _) fun b hb o e=>?_) hz2 (by omega) fun s'' mv' hz3=>?_⟩
  ·rw [sb.2 b fun h:b=S=>hSf (by rw [← h]; exact hb)]
   exact e
  ·refine hR s'' (Moved.trans W.gtrans ((mv.mono sub).then_heap (Nat.le_succ _) fun b o hb e=>?_) mv') ?_
   ·rw [sb.2 b fun h:b=S=>hb (by rw [h]; exact List.mem_cons_self)]
    exact e
   ·rw [List.drop_eq_getElem_cons hlt,List.foldl_cons]
    rw [qA hlt] at hk
    cases hk
    exact hz3
end
section
variable {prog:Program}{w:World}{A:Around}{E:Value -> Shared -> Prop}{s:Shared}
theorem callSet {arg:Value} {Q Q₁:Value -> Shared -> Prop} (hn:codeAny (model prog w) A.in1 (.call (.builtin "set.__new__") ⟨[.type "set",arg],[]⟩) (wants Q₁ E) s)
  (hx:∀ ob s₁,Q₁ ob s₁ -> s₁.TypeIs ob "set" /\ wpAny (model prog w) A.in1.in1 (Builtin.«set.__init__» ⟨[ob,arg],[]⟩)
    (fun fin s'=>match fin with | .done f=>wants (fun r s₂=>r = .none /\ Q ob s₂) E (.ok f) s' | .again c'=>c'.quiet=true /\ codeAny (model prog w) A.in1 c' (wants (fun r s₂=>r = .none /\ Q ob s₂) E) s') (fun e s'=>wants (fun r s₂=>r = .none /\ Q ob s₂) E (.error e) s') s₁) :
  wpAny (model prog w) A (call (.type "set") [arg]) Q E s:=by
 obtain ⟨c,tl,hmro⟩:=PySem.F.called_set.mro
 have a1:=PySem.F.called_set.made
 have a2:=PySem.F.called_set.sub
 refine wpAny_call (codeAny_of_tree ?_)
 show wpAny _ _ (callAny (.type "set") _) _ _ _
 refine wpAny_pure ⟨Code.quiet_builtin _ (by decide +kernel),codeAny_builtin PySem.F.entry_type_call ?_⟩
 rw [Around.under_plain (weight_type_call_type "set" [arg] []) rfl]
 have a3:=PySem.F.called_set.notType
 have a4:=PySem.F.called_set.canCreate
 have a5:=PySem.F.typeCall_set_1 arg
 repeat (any_goals (first | assumption | wp_step))
 refine codeAny_mono hn fun r s₁ hr=>?_
 cases r with
 | error e=>exact hr
 | ok fl =>
  cases fl with
  | ret ob =>
   obtain ⟨hT,hsi⟩:=hx _ _ hr
   have b1:=PySem.F.called_set.init.lookup
   have b2:=PySem.F.called_set.init.bind ob
   repeat (any_goals (first | assumption | wp_step))
   refine codeAny_mono (codeAny_call_builtin (R:=wants (fun r s₂=>r = .none /\ Q ob s₂) E) PySem.F.called_set.init.plain PySem.F.entry_set_init (PySem.check_set_init_1 hT hsi)) fun r₂ s₂ hr₂=>?_
   cases r₂ with
   | error e=>exact hr₂
   | ok fl₂ =>
    cases fl₂ with
    | ret r =>
     obtain ⟨rfl,hq⟩:=hr₂
     repeat (any_goals (first | assumption | wp_step))
    | _=>exact hr₂.elim
  | _=>exact hr.elim
theorem call_setZ {l:Addr}{vs:List Value}{ns:List Int}{Q:Value -> Shared -> Prop}(hh:A.handled=none)(hl:s.heap.IsList l vs.toArray)(hi:IntsAre vs ns)(hb:ns.length+1 < scanBound)
  (h:∀ (h':Heap) (tk:Nat),SetZ (ledOf w) h' s.heap.objs.size (ns.foldl step_dedup []) -> (∀ b o,s.heap.get? b=some o -> h'.get? b=some o) -> Q (.ref s.heap.objs.size) { s with heap:=h',toks:=tk }) :
  wpAny (model prog w) A (call (.type "set") [.ref l]) Q E s:=by
 have vl:vs.length=ns.length:=IntsAre.length hi
 refine callSet (Q₁:=fun obj s₁=>obj = .ref s.heap.objs.size /\ s₁ = { s with heap:=s.heap.push (setObj #[] 0 (.fresh 0 0 (ledOf w))) }) (new_z _ ⟨rfl,rfl⟩) fun obj s₁ h₁=>?_
 obtain ⟨rfl,rfl⟩:=h₁
 have hS:(s.heap.push (setObj #[] 0 (.fresh 0 0 (ledOf w)))).get? s.heap.objs.size=some (setObj #[] 0 (.fresh 0 0 (ledOf w))):=Heap.get?_push_size _ rfl
 refine ⟨⟨_,hS,rfl⟩,?_⟩
 have hl1:(s.heap.push (setObj #[] 0 (.fresh 0 0 (ledOf w)))).IsList l vs.toArray:=hl.push _
 obtain ⟨ol,hol,hcl,nl,hdl⟩:=hl
 have lS:l < s.heap.objs.size:=Heap.lt_size hol
 obtain ⟨ocls,odict,odata,oslots⟩:=ol
 simp only at hcl hdl
 subst hcl; subst hdl
 have hol':=Heap.get?_push_of_some (setObj #[] 0 (.fresh 0 0 (ledOf w))) hol
 have f1:=PySem.F.sub_list_set
 have f2:=PySem.F.sub_list_frozenset
 have f3:(Value.type "list" == Value.type "dict")=false:=by decide
 unfold Builtin.«set.__init__» noKeywords Builtin.Frozenset.updateFrom
 generalize hPI:pyIter=PI
 wp_walk
 subst hPI
 refine wpAny_pyIter_list hl1 ?_
 refine wpAny_bind (wpAny_runValue ?_)
 have neI:l ≠ (s.heap.push (setObj #[] 0 (.fresh 0 0 (ledOf w)))).objs.size:=by
  rw [Heap.size_push]; exact Nat.ne_of_lt (Nat.lt_succ_of_lt lS)
 have nSf:s.heap.objs.size ∉ [(s.heap.push (setObj #[] 0 (.fresh 0 0 (ledOf w)))).objs.size,l]:=by
  rw [Heap.size_push]
  simp only [List.mem_cons,List.not_mem_nil,or_false,not_or]
  exact ⟨Nat.ne_of_lt (Nat.lt_succ_self _),Nat.ne_of_gt lS⟩
 have W:=(Walks.list (prog:=prog) (w:=w) (A:=A.in1.in1.in1) (by simp [hh]) _ l neI vs.toArray).toS
 rw [show vs.toArray.size=ns.length by rw [qM]; exact vl] at W
 refine loop_z W s.heap.objs.size nSf (fun i v hv=>?_) (led:=ledOf w) ns.length 0 _ [] (by omega) (Nat.zero_le _) ⟨⟨_,Heap.get?_push_size _ rfl,rfl,rfl⟩,hl1.push _⟩ (setZ_new (Heap.get?_push_of_some _ hS)) (by simpa using hb) fun s' mv hz=>?_
 ·obtain ⟨t,e⟩:=IntsAre.int_at hi i v (by simpa using hv)
  have il:i < ns.length:=by
   have:=(qB.mp (show vs[i]? = some v by simpa using hv)).1
   omega
  exact ⟨ns[i],t,qA il,by rw [e]; simp [il]⟩
 ·obtain ⟨h',g',d',tk',os'⟩:=s'
  have eg:g'=s.gens:=mv.gens
  have ed:d'=s.drawn:=mv.drawn
  have eo:os'=s.os:=mv.os
  subst eg; subst ed; subst eo
  show wpAny _ _ _ _ _ _
  refine wpAny_pure ?_
  show wpAny _ _ (ret Value.none) _ _ _
  refine wpAny_pure ⟨rfl,h h' tk' hz fun b o e=>?_⟩
  have hb1:b < s.heap.objs.size:=Heap.lt_size e
  refine mv.heap b o ?_ (Heap.get?_push_of_some _ (Heap.get?_push_of_some _ e))
  rw [Heap.size_push]
  simp only [List.mem_cons,List.not_mem_nil,or_false,not_or]
  exact ⟨Nat.ne_of_lt hb1,Nat.ne_of_lt (Nat.lt_succ_of_lt hb1)⟩
end
end L2
set_option Elab.async false
set_option linter.all false
set_option maxRecDepth 100000
set_option maxHeartbeats 1000000
namespace L2
open PySem PySem.Spec PyProof.Rows
theorem slot_si_next:Slot "set_iterator" "__next__" "set_iterator.__next__" :=
 .of (owner:="set_iterator") (n:="__next__") (by rw [typeLookup_type,builtinLookup_eq_fast]; kernel_rfl) (by decide +kernel) (by decide +kernel) (by decide +kernel) (by first | exact .inl (by decide +kernel) | exact .inr (by decide +kernel)) (by rw [isSubtype_type]; kernel_rfl)
theorem entry_si_next:entryFor table "set_iterator.__next__" = some Builtin.«set_iterator.__next__»:=entryFor_of_tree (by kernel_rfl)
theorem args_si_next (a:Value):argsOk "set_iterator.__next__" ⟨[a],[]⟩:=by unfold argsOk; kernel_rfl
theorem entry_si:entryFor table "set.__iter__" = some Builtin.«frozenset.__iter__»:=entryFor_alias (id':="frozenset.__iter__") (by kernel_rfl) rfl (by decide +kernel) (by kernel_rfl)
abbrev itObj (f:Value) (i:Nat) (S:Addr) (n ep:Nat):Obj:={ cls:=.type "set_iterator",dict:=none,data:=.fields #[f,.int i 0,.ref S,.int n 0,.int ep 0] }
section
variable {prog:Program}{w:World}{A:Around}{E:Value -> Shared -> Prop}{s:Shared}{it S:Addr}{f:Value}{i n ep:Nat}{es:Array (Int × Value)}{t:SetTable}
theorem next_some {sl nx:Nat}{x:Value}{Q:Option Value -> Shared -> Prop}(ho:s.heap.get? it=some (itObj (.int sl 0) i S n ep))(hs:s.heap.get? S=some (setObj es ep t))(fit:t.fits es.size=true)(hn:es.size=n)
  (hx:∀ (A:Around) (E:Value -> Shared -> Prop) (Q:Option (Value × Nat) -> Shared -> Prop),Q (some (x,nx)) s -> wpAny (model prog w) A (setNext S sl i ep) Q E s)
  (hQ:∀ h',h'.get? it=some (itObj (.int nx 0) (i+1) S n ep) -> Heap.SameBut it s.heap h' -> Q (some x) { s with heap:=h' }):wpAny (model prog w) A (pyNext (.ref it)) Q E s:=by
 have hT:s.TypeIs (.ref it) "set_iterator":=⟨_,ho,rfl⟩
 unfold pyNext
 refine wpAny_bind (wpAny_attempt (wpAny_callSpecial?_slot (name:=Str.ofString "__next__") hT slot_si_next (wpAny_call_entry slot_si_next hT entry_si_next ?_ (args_si_next _))))
 unfold Builtin.«set_iterator.__next__»
 refine wpAny_bind (m:=slotArgs _ _ _) (wpAny_pure ?_)
 refine wpAny_bind (wpAny_fieldsOf ho rfl ?_)
 dsimp only
 refine wpAny_bind (wpAny_setEntries_of hs rfl fit ?_)
 rw [if_neg (by rw [hn]; simp)]
 refine wpAny_bind ?_
 rw [Int.toNat_natCast,Int.toNat_natCast,Int.toNat_natCast]
 refine hx _ _ _ ?_
 dsimp only
 refine wpAny_bind (wpAny_setField_rec ho (by show 0 < 5; decide) fun h1 o1 b1=>?_)
 refine wpAny_bind (wpAny_setField_rec (s:={ s with heap:=h1 }) o1 (by show 1 < 5; decide) fun h2 o2 b2=>?_)
 exact wpAny_pure ⟨_,rfl,wpAny_pure (hQ h2 o2 (b1.trans b2))⟩
theorem stop_now {h1:Heap}{Q:Option Value -> Shared -> Prop}{Q1:Value -> Shared -> Prop}(hh:A.handled=none)(hQ:∀ h',(∀ b o,h1.get? b=some o -> h'.get? b=some o) -> Q none { s with heap:=h' }) :
  wpAny (model prog w) A.in1 (newExc (.type "StopIteration") [] >>= fun e=>(raiseNew e:Sem Fin)) (fun fin s'=>∃ r,fin = .done (.ret r) /\ Q1 r s') (fun e s'=>wpAny (model prog w) A (isInstance e (.type "StopIteration") >>= fun b=>if b=true then pure none else throw e) Q E s') { s with heap:=h1 }:=by
 refine wpAny_bind ?_
 simp only [newExc,newTuple]
 refine wpAny_bind (wpAny_newObj_type ?_ (by size_fits))
 refine wpAny_bind (m:=firstArgMember _ _) (wpAny_of_eq (a:=Value.none) (by first | rfl | (simp only [firstArgMember]; rfl)) ?_)
 refine wpAny_newObj_type ?_ (by size_fits)
 simp only [raiseNew]
 refine wpAny_bind (wpAny_handled ?_)
 rw [show A.in1.handled=none from hh]
 refine wpAny_bind (wpAny_pure (wpAny_throw ?_))
 refine wpAny_bind (wpAny_isInstance (T:="StopIteration") (b:=true) ⟨_,Heap.get?_push_size _ rfl,rfl⟩ isSubtype_stop ?_)
 exact wpAny_pure (hQ _ fun b o e=>Heap.get?_push_of_some _ (Heap.get?_push_of_some _ e))
theorem next_none {sl:Nat}{Q:Option Value -> Shared -> Prop}(hh:A.handled=none)(ho:s.heap.get? it=some (itObj (.int sl 0) i S n ep))(hs:s.heap.get? S=some (setObj es ep t))(fit:t.fits es.size=true)(hn:es.size=n)
  (hx:∀ (A:Around) (E:Value -> Shared -> Prop) (Q:Option (Value × Nat) -> Shared -> Prop),Q none s -> wpAny (model prog w) A (setNext S sl i ep) Q E s)
  (hQ:∀ h',(∀ b o,b ≠ it -> s.heap.get? b=some o -> h'.get? b=some o) -> Q none { s with heap:=h' }):wpAny (model prog w) A (pyNext (.ref it)) Q E s:=by
 have hT:s.TypeIs (.ref it) "set_iterator":=⟨_,ho,rfl⟩
 unfold pyNext
 refine wpAny_bind (wpAny_attempt (wpAny_callSpecial?_slot (name:=Str.ofString "__next__") hT slot_si_next (wpAny_call_entry slot_si_next hT entry_si_next ?_ (args_si_next _))))
 unfold Builtin.«set_iterator.__next__»
 refine wpAny_bind (m:=slotArgs _ _ _) (wpAny_pure ?_)
 refine wpAny_bind (wpAny_fieldsOf ho rfl ?_)
 dsimp only
 refine wpAny_bind (wpAny_setEntries_of hs rfl fit ?_)
 rw [if_neg (by rw [hn]; simp)]
 refine wpAny_bind ?_
 rw [Int.toNat_natCast,Int.toNat_natCast,Int.toNat_natCast]
 refine hx _ _ _ ?_
 dsimp only
 refine wpAny_bind (wpAny_setField_rec ho (by show 2 < 5; decide) fun h1 o1 b1=>?_)
 exact stop_now (s:=s) hh fun h' k=>hQ h' fun b o ne e=>k b o ((b1.2 b ne).trans e)
theorem next_drawn {tp:Addr}{pl:Array Value}{j:Nat}{tk:Tok}{x:Int × Value}{Q:Option Value -> Shared -> Prop}(ho:s.heap.get? it=some (itObj (.ref tp) i S n ep))(hs:s.heap.get? S=some (setObj es ep t))(fit:t.fits es.size=true)(hn:es.size=n)
  (ht:s.heap.IsTuple tp pl) (hp:pl[i]? = some (.int j tk)) (hx:es[j]? = some x)
  (hQ:∀ h',h'.get? it=some (itObj (.ref tp) (i+1) S n ep) -> Heap.SameBut it s.heap h' -> Q (some x.2) { s with heap:=h' }):wpAny (model prog w) A (pyNext (.ref it)) Q E s:=by
 have hT:s.TypeIs (.ref it) "set_iterator":=⟨_,ho,rfl⟩
 obtain ⟨ot,hot,_,nt,hdt⟩:=ht
 unfold pyNext
 refine wpAny_bind (wpAny_attempt (wpAny_callSpecial?_slot (name:=Str.ofString "__next__") hT slot_si_next (wpAny_call_entry slot_si_next hT entry_si_next ?_ (args_si_next _))))
 unfold Builtin.«set_iterator.__next__»
 refine wpAny_bind (m:=slotArgs _ _ _) (wpAny_pure ?_)
 refine wpAny_bind (wpAny_fieldsOf ho rfl ?_)
 dsimp only
 refine wpAny_bind (wpAny_setEntries_of hs rfl fit ?_)
 rw [if_neg (by rw [hn]; simp)]
 refine wpAny_bind (wpAny_seqItems hot hdt ?_)
 dsimp only
 rw [Int.toNat_natCast,hp]
 dsimp only
 refine wpAny_bind ?_
 unfold setNextDrawn
 refine wpAny_bind (wpAny_setState_of hs rfl fit ?_)
 dsimp only
 rw [Int.toNat_natCast,Int.toNat_natCast,if_neg (by simp),hx]
 refine wpAny_pure ?_
 refine wpAny_bind (wpAny_setField_rec ho (by show 1 < 5; decide) fun h1 o1 b1=>?_)
 exact wpAny_pure ⟨_,rfl,wpAny_pure (hQ h1 o1 b1)⟩
theorem next_drawn_end {tp:Addr}{pl:Array Value}{Q:Option Value -> Shared -> Prop}(hh:A.handled=none)(ho:s.heap.get? it=some (itObj (.ref tp) i S n ep))(hs:s.heap.get? S=some (setObj es ep t))(fit:t.fits es.size=true)(hn:es.size=n)
  (ht:s.heap.IsTuple tp pl) (hp:pl[i]? = none) (hQ:∀ h',(∀ b o,b ≠ it -> s.heap.get? b=some o -> h'.get? b=some o) -> Q none { s with heap:=h' }):wpAny (model prog w) A (pyNext (.ref it)) Q E s:=by
 have hT:s.TypeIs (.ref it) "set_iterator":=⟨_,ho,rfl⟩
 obtain ⟨ot,hot,_,nt,hdt⟩:=ht
 unfold pyNext
 refine wpAny_bind (wpAny_attempt (wpAny_callSpecial?_slot (name:=Str.ofString "__next__") hT slot_si_next (wpAny_call_entry slot_si_next hT entry_si_next ?_ (args_si_next _))))
 unfold Builtin.«set_iterator.__next__»
 refine wpAny_bind (m:=slotArgs _ _ _) (wpAny_pure ?_)
 refine wpAny_bind (wpAny_fieldsOf ho rfl ?_)
 dsimp only
 refine wpAny_bind (wpAny_setEntries_of hs rfl fit ?_)
 rw [if_neg (by rw [hn]; simp)]
 refine wpAny_bind (wpAny_seqItems hot hdt ?_)
 dsimp only
 rw [Int.toNat_natCast,hp]
 dsimp only
 refine wpAny_bind (wpAny_setField_rec ho (by show 0 < 5; decide) fun h1 o1 b1=>?_)
 refine wpAny_bind (wpAny_setField_rec (s:={ s with heap:=h1 }) o1 (by show 2 < 5; decide) fun h2 o2 b2=>?_)
 exact stop_now (s:=s) hh fun h' k=>hQ h' fun b o ne e=>k b o ((b2.2 b ne).trans ((b1.2 b ne).trans e))
end
end L2
set_option Elab.async false
set_option linter.all false
set_option maxRecDepth 100000
set_option maxHeartbeats 1000000
namespace L2
open PySem PySem.Spec PyProof.Rows
def slotZ (pl:Array Nat)(i:Nat):Nat:=if i=0 then 0 else pl.getD (i - 1) 0+1
theorem below_slot {pl:Array Nat}(R:Rise pl){i:Nat}(hi:i <= pl.size):SetTable.below pl (slotZ pl i)=i:=by
 obtain ⟨b1,b2,b3⟩:=below_ok R (slotZ pl i)
 generalize hb:SetTable.below pl (slotZ pl i)=b at b1 b2 b3
 have gd:∀ k (h:k < pl.size),pl.getD k 0=pl[k]:=fun k h=>by simp [h]
 by_cases z:i=0
 ·subst z
  by_cases q:b=0
  ·exact q
  ·have:=b2 0 (by omega) (by omega)
   unfold slotZ at this
   rw [if_pos rfl] at this
   omega
 ·have hl:i - 1 < pl.size:=by omega
  have es:slotZ pl i=pl[i - 1]+1:=by unfold slotZ; rw [if_neg z,gd _ hl]
  rw [es] at b2 b3
  rcases Nat.lt_trichotomy b i with q | q | q
  ·have h1:=b3 b (by omega) (Nat.le_refl _)
   by_cases y:b=i - 1
   ·subst y; omega
   ·have:=R b (i - 1) (by omega) hl (by omega)
    omega
  ·exact q
  ·have h1:=b2 i (by omega) q
   have:=R (i - 1) i hl (by omega) (by omega)
   omega
theorem cons_erase {α:Type}{xs:List α}{j:Nat}(h:j < xs.length):(xs[j] :: xs.eraseIdx j).Perm xs:=by
 have e:xs.take j ++ xs[j] :: xs.drop (j+1)=xs:=by rw [← List.drop_eq_getElem_cons h,List.take_append_drop]
 rw [List.eraseIdx_eq_take_drop_succ]
 exact (List.perm_middle.symm).trans (List.Perm.of_eq e)
theorem pick_go {α:Type}(nx:Nat -> Nat):∀ (fuel k:Nat) (left:List α) (out:Array α),left.length=fuel -> ((pickOrder.go nx fuel k left out).toList).Perm (out.toList ++ left)
 | 0,k,left,out,h=>by
  have:left=[]:=List.eq_nil_of_length_eq_zero h
  subst this
  rw [pickOrder.go,List.append_nil]
 | fuel+1,k,left,out,h=>by
  have hl:nx k % left.length < left.length:=Nat.mod_lt _ (by omega)
  have e:=qA hl
  rw [pickOrder.go,e]
  dsimp only
  refine (pick_go nx fuel (k+1) _ _ (by rw [List.length_eraseIdx_of_lt hl]; omega)).trans ?_
  rw [Array.toList_push,List.append_assoc]
  refine List.Perm.append_left _ ?_
  exact cons_erase hl
theorem pick_perm {α:Type}(nx:Nat -> Nat)(xs:Array α):((pickOrder nx xs).toList).Perm xs.toList:=by
 unfold pickOrder
 have:=pick_go nx xs.size 0 xs.toList #[] (by simp)
 simpa using this
section
variable {prog:Program}{w:World}{A:Around}{E:Value -> Shared -> Prop}{s:Shared}{S:Addr}{i ep:Nat}{es:Array (Int × Value)}{t:SetTable}{ks:List Int}
theorem byText_wp {Q:Bool -> Shared -> Prop} (h:Q (w.params.followText "set-order") s):wpAny (model prog w) A setsByText Q E s:=by
 unfold setsByText
 exact wpAny_bind (wpAny_askSetting (wpAny_pure h))
theorem setNext_p {Q:Option (Value × Nat) -> Shared -> Prop} (hs:s.heap.get? S=some (setObj es ep t)) (Z:SetO (ledOf w) es t ks) (hb:w.params.followText "set-order" = false) (hd:(!t.plain && decide (es.size > 1))=false) (hi:i <= es.size)
  (h:Q (if h:i < es.size then some (es[i].2,slotZ t.place (i+1)) else none) s):wpAny (model prog w) A (setNext S (slotZ t.place i) i ep) Q E s:=by
 have ps:t.place.size=es.size:=by
  have:=Z.fit
  unfold SetTable.fits at this
  simp at this
  exact this.1
 have hl:t.led=true:=by rw [Z.tab.led_]; unfold ledOf; rw [hb]; rfl
 unfold setNext
 refine wpAny_bind (wpAny_setState_of hs rfl Z.fit ?_)
 dsimp only
 refine wpAny_bind (byText_wp ?_)
 rw [hb,if_neg Bool.false_ne_true]
 show wpAny _ _ (if (!t.plain && decide (es.size > 1))=true then _ else _) _ _ _
 rw [if_neg (by rw [hd]; exact Bool.false_ne_true)]
 show wpAny _ _ ((if (!t.led && !es.isEmpty)=true then unsupported "set:maker-not-led" else pure ()) >>= _) _ _ _
 rw [hl]
 refine wpAny_bind (wpAny_pure ?_)
 rw [below_slot Z.tab.rise (by omega)]
 refine wpAny_pure ?_
 by_cases z:i < es.size
 ·rw [dif_pos z] at h
  have e1:es[i]? = some es[i]:=Array.getElem?_eq_getElem z
  have zl:i < t.place.size:=by omega
  have e2:t.place[i]? = some t.place[i]:=Array.getElem?_eq_getElem zl
  rw [e1,e2]
  have e3:slotZ t.place (i+1)=t.place[i]+1:=by
   unfold slotZ
   rw [if_neg (by omega),Nat.add_sub_cancel]
   simp [zl]
  rw [e3] at h
  exact h
 ·rw [dif_neg z] at h
  rw [Array.getElem?_eq_none (by omega)]
  exact h
theorem setNext_t {Q:Option (Value × Nat) -> Shared -> Prop} (hs:s.heap.get? S=some (setObj es ep t)) (Z:SetO (ledOf w) es t ks) (hb:w.params.followText "set-order" = true)
  (h:Q (((pickOrder (w.params.setOrder S ep) es)[i]?).map fun e=>(e.2,0)) s):wpAny (model prog w) A (setNext S 0 i ep) Q E s:=by
 unfold setNext
 refine wpAny_bind (wpAny_setState_of hs rfl Z.fit ?_)
 dsimp only
 refine wpAny_bind (byText_wp ?_)
 rw [hb,if_pos rfl,if_neg (by simp)]
 refine wpAny_bind ?_
 unfold setWalk
 refine wpAny_bind (wpAny_setState_of hs rfl Z.fit ?_)
 dsimp only
 refine wpAny_bind (byText_wp ?_)
 rw [hb,if_pos rfl]
 refine wpAny_bind (wpAny_askSetting (wpAny_pure (wpAny_pure h)))
theorem choose_wp {src:Source}{n:Nat}{Q:Nat -> Shared -> Prop}(hn:n ≠ 0)(h:∀ (j:Nat) (d:Drawn),j < n -> Q j { s with drawn:=d }):wpAny (model prog w) A (choose src n) Q E s:=fun Γ p hΓ=>by
 unfold choose
 rw [Sem.wp_choose]
 exact ⟨hn,h _ _ (Nat.mod_lt _ (by omega))⟩
theorem draw_wp {α:Type}{Q:List α -> Shared -> Prop}:∀ (n:Nat) (xs:List α) (s:Shared),xs.length=n -> (∀ (ys:List α) (d:Drawn),ys.Perm xs -> Q ys { s with drawn:=d }) -> wpAny (model prog w) A (drawOrder n xs) Q E s
 | 0,xs,s,hl,h=>by
  have:xs=[]:=List.eq_nil_of_length_eq_zero hl
  subst this
  rw [drawOrder]
  exact wpAny_pure (h [] s.drawn (List.Perm.refl _))
 | n+1,[],s,hl,h=>by cases hl
 | n+1,x :: r,s,hl,h=>by
  rw [drawOrder]
  ·refine wpAny_bind (choose_wp (by rw [hl]; omega) fun j d hj=>?_)
   have e:=qA hj
   rw [e]
   dsimp only
   refine wpAny_bind (draw_wp n _ _ (by rw [List.length_eraseIdx_of_lt hj]; omega) fun ys d' hp=>wpAny_pure (h _ d' ?_))
   exact (List.Perm.cons _ hp).trans (cons_erase hj)
  ·intro z; cases z
end
end L2
set_option Elab.async false
set_option linter.all false
set_option maxRecDepth 100000
set_option maxHeartbeats 1000000
namespace L2
open PySem PySem.Spec PyProof.Rows
theorem slot_siI:Slot "set_iterator" "__iter__" "set_iterator.__iter__" :=
 .of (owner:="set_iterator") (n:="__iter__") (by rw [typeLookup_type,builtinLookup_eq_fast]; kernel_rfl) (by decide +kernel) (by decide +kernel) (by decide +kernel) (by first | exact .inl (by decide +kernel) | exact .inr (by decide +kernel)) (by rw [isSubtype_type]; kernel_rfl)
theorem entry_siI:entryFor table "set_iterator.__iter__" = some Builtin.«dict_keyiterator.__iter__»:=entryFor_alias (id':="dict_keyiterator.__iter__") (by kernel_rfl) rfl (by decide +kernel) (by kernel_rfl)
theorem args_siI (a:Value):argsOk "set_iterator.__iter__" ⟨[a],[]⟩:=by unfold argsOk; kernel_rfl
theorem ints_of {es:List (Int × Value)}(h:EntZ es):IntsAre (es.map (·.2)) (es.map keyZ):=by
 induction es with
 | nil=>exact .nil
 | cons e r ih =>
  obtain ⟨k,tk,rfl⟩:=h e List.mem_cons_self
  exact .cons k tk (ih fun x hx=>h x (List.mem_cons_of_mem _ hx))
section
variable {prog:Program}{w:World}{A:Around}{E:Value -> Shared -> Prop}{s:Shared}{S it:Addr}{ep:Nat}{es:Array (Int × Value)}{t:SetTable}{ks:List Int}
theorem self_z {f:Value}{i n:Nat}{Q:Value -> Shared -> Prop}(ho:s.heap.get? it=some (itObj f i S n ep))(h:Q (.ref it) s):wpAny (model prog w) A (pyIter (.ref it)) Q E s:=by
 have hT:s.TypeIs (.ref it) "set_iterator":=⟨_,ho,rfl⟩
 refine wpAny_pyIter_slot hT slot_siI (wpAny_call_entry slot_siI hT entry_siI ?_ (args_siI _))
 show wpAny _ _ (ret (.ref it)) _ _ s
 exact wpAny_pure ⟨_,rfl,"set_iterator",_,hT,slot_si_next.lookup,h⟩
theorem walks_p (hh:A.handled=none) (ne:S ≠ it) (Z:SetO (ledOf w) es t ks) (hb:w.params.followText "set-order" = false) (hd:(!t.plain && decide (es.size > 1))=false) :
  Walks prog w A it [it,S] [it] (es.toList.map (·.2)).length (fun i v=>(es.toList.map (·.2))[i]? = some v) (fun i h=>i <= es.size /\ h.get? it=some (itObj (.int (slotZ t.place i) 0) i S es.size ep) /\ h.get? S=some (setObj es ep t)) where
 sub:=fun b hb=>by simp at hb; simp [hb]
 frame:=fun i h h' st k=>⟨st.1,k it (by simp) _ st.2.1,k S (by simp) _ st.2.2⟩
 item:=fun i s Q E hi st hQ=>by
  rw [qC,Array.length_toList] at hi
  refine next_some (x:=es[i].2) (nx:=slotZ t.place (i+1)) st.2.1 st.2.2 Z.fit rfl (fun A E Q q=>setNext_p st.2.2 Z hb hd st.1 (by rw [dif_pos hi]; exact q)) fun h' o1 b1=>?_
  refine hQ _ h' s.toks ?_ ⟨hi,o1,(b1.2 S ne).trans st.2.2⟩ fun b o hb e=>(b1.2 b fun z=>hb (by simp [z])).trans e
  rw [qI,Array.getElem?_toList,Array.getElem?_eq_getElem hi]
  rfl
 done:=fun s Q E st hQ=>by
  rw [qC,Array.length_toList] at st
  exact next_none hh st.2.1 st.2.2 Z.fit rfl (fun A E Q q=>setNext_p st.2.2 Z hb hd st.1 (by rw [dif_neg (Nat.lt_irrefl _)]; exact q)) fun h' k=>hQ h' s.toks fun b o hb e=>k b o (fun z=>hb (by simp [z])) e
 self:=fun i s Q E st hQ=>self_z st.2.1 hQ
theorem walks_t (hh:A.handled=none) (ne:S ≠ it) (Z:SetO (ledOf w) es t ks) (hb:w.params.followText "set-order" = true) :
  Walks prog w A it [it,S] [it] ((pickOrder (w.params.setOrder S ep) es).toList.map (·.2)).length (fun i v=>((pickOrder (w.params.setOrder S ep) es).toList.map (·.2))[i]? = some v) (fun i h=>h.get? it=some (itObj (.int 0 0) i S es.size ep) /\ h.get? S=some (setObj es ep t)) where
 sub:=fun b hb=>by simp at hb; simp [hb]
 frame:=fun i h h' st k=>⟨k it (by simp) _ st.1,k S (by simp) _ st.2⟩
 item:=fun i s Q E hi st hQ=>by
  rw [qC] at hi
  have e:=qA hi
  generalize (pickOrder (w.params.setOrder S ep) es).toList[i]=y at e
  refine next_some (sl:=0) (nx:=0) (x:=y.2) st.1 st.2 Z.fit rfl (fun A E Q q=>setNext_t st.2 Z hb (by rw [← Array.getElem?_toList,e]; exact q)) fun h' o1 b1=>?_
  refine hQ _ h' s.toks ?_ ⟨o1,(b1.2 S ne).trans st.2⟩ fun b o hb e=>(b1.2 b fun z=>hb (by simp [z])).trans e
  rw [qI,e]
  rfl
 done:=fun s Q E st hQ=>by
  refine next_none (sl:=0) hh st.1 st.2 Z.fit rfl (fun A E Q q=>setNext_t st.2 Z hb ?_) fun h' k=>hQ h' s.toks fun b o hb e=>k b o (fun z=>hb (by simp [z])) e
  rw [← Array.getElem?_toList,List.getElem?_eq_none (by rw [qC]; exact Nat.le_refl _)]
  exact q
 self:=fun i s Q E st hQ=>self_z st.1 hQ
theorem walks_d {tp:Addr}{js:List Nat}(hh:A.handled=none)(ne:S ≠ it)(nt:tp ≠ it)(Z:SetO (ledOf w) es t ks)(hj:js.Perm (List.range es.size)) :
  Walks prog w A it [it,S,tp] [it] (js.filterMap fun j=>(es[j]?).map (·.2)).length (fun i v=>(js.filterMap fun j=>(es[j]?).map (·.2))[i]? = some v)
   (fun i h=>h.get? it=some (itObj (.ref tp) i S es.size ep) /\ h.get? S=some (setObj es ep t) /\ h.IsTuple tp (js.map fun (j:Nat)=>rawInt j).toArray):=by
 have jl:∀ j ∈ js,j < es.size:=fun j h=>List.mem_range.mp (hj.mem_iff.mp h)
 have e0:js.filterMap (fun j=>(es[j]?).map (·.2))=js.map fun j=>(es.getD j (0,.none)).2:=by
  clear hj
  induction js with
  | nil=>rfl
  | cons j r ih =>
   have:=jl j List.mem_cons_self
   rw [List.map_cons,← ih fun x hx=>jl x (List.mem_cons_of_mem _ hx),List.filterMap_cons]
   simp [this]
 rw [e0]
 refine ⟨fun b hb=>by simp at hb; simp [hb],fun i h h' st k=>⟨k it (by simp) _ st.1,k S (by simp) _ st.2.1,?_⟩,fun i s Q E hi st hQ=>?_,fun s Q E st hQ=>?_,fun i s Q E st hQ=>self_z st.1 hQ⟩
 ·obtain ⟨o,ho,r⟩:=st.2.2
  exact ⟨o,k tp (by simp) _ ho,r⟩
 ·rw [qC] at hi
  have e:=qA hi
  have hm:=jl _ (List.getElem_mem hi)
  generalize js[i]=j at e hm
  refine next_drawn (j:=j) (tk:=0) (x:=es[j]) st.1 st.2.1 Z.fit rfl st.2.2 (by simp [e,rawInt]) (Array.getElem?_eq_getElem hm) fun h' o1 b1=>?_
  refine hQ _ h' s.toks ?_ ⟨o1,(b1.2 S ne).trans st.2.1,?_⟩ fun b o hb e=>(b1.2 b fun z=>hb (by simp [z])).trans e
  ·rw [qI,e]
   simp [hm]
  ·obtain ⟨o,ho,r⟩:=st.2.2
   exact ⟨o,(b1.2 tp nt).trans ho,r⟩
 ·refine next_drawn_end hh st.1 st.2.1 Z.fit rfl st.2.2 (by simp) fun h' k=>hQ h' s.toks fun b o hb e=>k b o (fun z=>hb (by simp [z])) e
theorem iter_z {Q:Value -> Shared -> Prop}(hh:A.handled=none)(hs:s.heap.get? S=some (setObj es ep t))(Z:SetO (ledOf w) es t ks)
  (h:∀ (h':Heap) (d:Drawn) (it:Addr) (fp:List Addr) (vs:List Value) (ns:List Int) (St:Nat -> Heap -> Prop),(∀ b o,s.heap.get? b=some o -> h'.get? b=some o) -> s.heap.objs.size <= it -> (∀ b ∈ fp,b=S \/ (s.heap.objs.size <= b /\ b < h'.objs.size)) -> it < h'.objs.size -> IntsAre vs ns -> ns.Perm ks ->
   Walks prog w A it fp [it] vs.length (fun i v=>vs[i]? = some v) St -> St 0 h' -> Q (.ref it) { s with heap:=h',drawn:=d }):wpAny (model prog w) A (pyIter (.ref S)) Q E s:=by
 have hT:s.TypeIs (.ref S) "set":=⟨_,hs,rfl⟩
 have Sl:S < s.heap.objs.size:=Heap.lt_size hs
 refine wpAny_pyIter_slot hT PySem.F.slot_set_iter (wpAny_call_entry PySem.F.slot_set_iter hT entry_si ?_ (PySem.F.args_set_iter_1 _))
 unfold Builtin.«frozenset.__iter__» Builtin.Frozenset.slot0 Builtin.Frozenset.sizeOf
 refine wpAny_bind (wpAny_pure ?_)
 refine wpAny_bind (wpAny_bind (wpAny_setEntries_of hs rfl Z.fit (wpAny_pure ?_)))
 refine wpAny_bind ?_
 unfold setDrawn
 refine wpAny_bind (wpAny_setState_of hs rfl Z.fit ?_)
 dsimp only
 refine wpAny_bind (byText_wp (wpAny_pure ?_))
 have fin:∀ (h1:Heap) (d:Drawn) (f:Value) (fp:List Addr) (vs:List Value) (ns:List Int) (St:Nat -> Heap -> Prop),(∀ b o,s.heap.get? b=some o -> h1.get? b=some o) -> s.heap.objs.size <= h1.objs.size -> (∀ b ∈ fp,b=S \/ (s.heap.objs.size <= b /\ b <= h1.objs.size)) ->
   IntsAre vs ns -> ns.Perm ks -> Walks prog w A h1.objs.size fp [h1.objs.size] vs.length (fun i v=>vs[i]? = some v) St -> St 0 (h1.push (itObj f 0 S es.size ep)) ->
   wpAny (model prog w) A.in1 (setEpoch S >>= fun e=>newFields "set_iterator" [f,rawInt 0,.ref S,rawInt es.size,rawInt e] >>= fun v=>ret v) (fun fin s'=>∃ r,fin = .done (.ret r) /\ ∃ T' r',s'.TypeIs r T' /\ typeLookup (.type T') "__next__" = pure (some r') /\ Q r s') E { s with heap:=h1,drawn:=d }:=by
  intro h1 d f fp vs ns St kp sz hfp hi hp W st
  refine wpAny_bind (wpAny_setEpoch_of (kp _ _ hs) rfl Z.fit ?_)
  unfold newFields
  refine wpAny_bind (wpAny_newObj_type (wpAny_pure ⟨_,rfl,"set_iterator",_,⟨_,Heap.get?_push_size _ rfl,rfl⟩,slot_si_next.lookup,?_⟩) (by size_fits))
  exact h (h1.push (itObj f 0 S es.size ep)) d h1.objs.size fp vs ns St (fun b o e=>Heap.get?_push_of_some _ (kp b o e)) sz (fun b hb=>(hfp b hb).imp id fun q=>⟨q.1,by rw [Heap.size_push]; exact Nat.lt_succ_of_le q.2⟩) (by rw [Heap.size_push]; exact Nat.lt_succ_self _) hi hp W st
 have neS:S ≠ s.heap.objs.size:=Nat.ne_of_lt Sl
 by_cases hb:w.params.followText "set-order" = true
 ·rw [hb]
  have c1:(!true && (!t.plain && decide (es.size > 1)))=false:=rfl
  show wpAny _ _ (if (!true && (!t.plain && decide (es.size > 1)))=true then _ else _) _ _ _
  rw [c1,if_neg Bool.false_ne_true]
  refine wpAny_bind (wpAny_pure ?_)
  have pp:=pick_perm (w.params.setOrder S ep) es
  have ent:EntZ (pickOrder (w.params.setOrder S ep) es).toList:=fun e he=>Z.ent e (pp.mem_iff.mp he)
  exact fin s.heap s.drawn (.int 0 0) _ _ _ _ (fun _ _ e=>e) (Nat.le_refl _) (fun b hb=>by
   simp only [List.mem_cons,List.not_mem_nil,or_false] at hb
   rcases hb with e | e
   ·exact .inr ⟨Nat.le_of_eq e.symm,Nat.le_of_eq e⟩
   ·exact .inl e) (ints_of ent) ((pp.map keyZ).trans Z.perm) (walks_t hh neS Z hb) ⟨Heap.get?_push_size _ rfl,Heap.get?_push_of_some _ hs⟩
 ·have hb:w.params.followText "set-order" = false:=by simpa using hb
  rw [hb]
  show wpAny _ _ (if (!false && (!t.plain && decide (es.size > 1)))=true then _ else _) _ _ _
  by_cases hd:(!t.plain && decide (es.size > 1))=true
  ·rw [hd,if_pos (by rfl)]
   refine wpAny_bind (draw_wp (prog:=prog) (w:=w) es.size (List.range es.size) s (List.length_range) fun js d hj=>?_)
   refine wpAny_bind (wpAny_newTuple ?_ (by rw [qC,hj.length_eq,List.length_range]; exact fits_of_scanBound Z.sm))
   have nt:s.heap.objs.size ≠ (s.heap.push { cls:=.type "tuple",data:=.seq (js.map fun (j:Nat)=>rawInt j).toArray }).objs.size:=by rw [Heap.size_push]; first | exact Nat.ne_of_lt (Nat.lt_succ_self _) | exact Nat.ne_of_lt (Nat.lt_succ_of_lt Sl)
   have nS:S ≠ (s.heap.push { cls:=.type "tuple",data:=.seq (js.map fun (j:Nat)=>rawInt j).toArray }).objs.size:=by rw [Heap.size_push]; first | exact Nat.ne_of_lt (Nat.lt_succ_self _) | exact Nat.ne_of_lt (Nat.lt_succ_of_lt Sl)
   have e0:js.filterMap (fun j=>(es[j]?).map (·.2))=(js.filterMap (fun j=>es[j]?)).map (·.2):=by
    rw [List.map_filterMap]
   have pp:(js.filterMap (fun j=>es[j]?)).Perm es.toList:=by
    have:=hj.filterMap (fun j=>es[j]?)
    rw [filterMap_getElem?_range] at this
    exact this
   have ent:EntZ (js.filterMap (fun j=>es[j]?)):=fun e he=>Z.ent e (pp.mem_iff.mp he)
   have ii:=ints_of ent
   rw [← e0] at ii
   exact fin _ d (.ref s.heap.objs.size) _ _ _ _ (fun b o e=>Heap.get?_push_of_some _ e) (by rw [Heap.size_push]; exact Nat.le_succ _) (fun b hb=>by
    simp only [List.mem_cons,List.not_mem_nil,or_false] at hb
    rcases hb with e | e | e
    ·exact .inr ⟨by rw [e,Heap.size_push]; exact Nat.le_succ _,Nat.le_of_eq e⟩
    ·exact .inl e
    ·exact .inr ⟨Nat.le_of_eq e.symm,by rw [e,Heap.size_push]; exact Nat.le_succ _⟩) ii ((pp.map keyZ).trans Z.perm) (walks_d hh nS nt Z hj) ⟨Heap.get?_push_size _ rfl,Heap.get?_push_of_some _ (Heap.get?_push_of_some _ hs),⟨_,Heap.get?_push_of_some _ (Heap.get?_push_size _ rfl),rfl,0,rfl⟩⟩
  ·have hd:(!t.plain && decide (es.size > 1))=false:=by simpa using hd
   rw [hd,if_neg (by simp)]
   refine wpAny_bind (wpAny_pure ?_)
   exact fin s.heap s.drawn (.int 0 0) _ _ _ _ (fun _ _ e=>e) (Nat.le_refl _) (fun b hb=>by
    simp only [List.mem_cons,List.not_mem_nil,or_false] at hb
    rcases hb with e | e
    ·exact .inr ⟨Nat.le_of_eq e.symm,Nat.le_of_eq e⟩
    ·exact .inl e) (ints_of Z.ent) Z.perm (walks_p hh neS Z hb hd) ⟨Nat.zero_le _,Heap.get?_push_size _ rfl,Heap.get?_push_of_some _ hs⟩
end
end L2
set_option Elab.async false
set_option linter.all false
set_option maxRecDepth 100000
set_option maxHeartbeats 1000000
namespace L2
open PySem PySem.Spec PyProof.Rows
structure Src (prog:Program) (w:World) (T:String) (r:Addr) (C:Nat -> (Nat -> Value -> Prop) -> Prop) (OK:Heap -> Prop):Prop where
 ty:∀ s:Shared,OK s.heap -> s.TypeIs (.ref r) T
 keep:∀ h h':Heap,OK h -> (∀ o,h.get? r=some o -> h'.get? r=some o) -> OK h'
 nl:(Value.type T == Value.type "list")=false
 nt:(Value.type T == Value.type "tuple")=false
 hint:∀ (A:Around) (E:Value -> Shared -> Prop) (s:Shared) (Q:Bool -> Shared -> Prop),OK s.heap -> Q false s -> wpAny (model prog w) A (Builtin.List.listLengthHint (.ref r)) Q E s
 iter:∀ (A:Around) (E:Value -> Shared -> Prop) (s:Shared) (Q:Value -> Shared -> Prop),A.handled=none -> OK s.heap ->
  (∀ (h':Heap) (d:Drawn) (it:Addr) (fp:List Addr) (n:Nat) (P:Nat -> Value -> Prop) (St:Nat -> Heap -> Prop),(∀ b o,s.heap.get? b=some o -> h'.get? b=some o) -> s.heap.objs.size <= it -> (∀ b ∈ fp,b=r \/ (s.heap.objs.size <= b /\ b < h'.objs.size)) -> C n P ->
   Walks prog w A it fp [it] n P St -> St 0 h' -> Q (.ref it) { s with heap:=h',drawn:=d }) -> wpAny (model prog w) A (pyIter (.ref r)) Q E s
section
variable {prog:Program}{w:World}{A:Around}{E:Value -> Shared -> Prop}{s:Shared}{T:String}{r:Addr}{C:Nat -> (Nat -> Value -> Prop) -> Prop}{OK:Heap -> Prop}
theorem ext_src {R:Result -> Shared -> Prop} (K:Src prog w T r C OK) (hC:∀ n P,C n P -> n <= sizeLine) (hh:A.handled=none) (hok:OK s.heap) (S:Addr) (hSr:S ≠ r) (res:Value) (hS:s.heap.get? S=some { cls:=.type "list",data:=.seq #[] 0 })
  (hR:∀ h' d tk acc c n P,(∀ b o,b ≠ S -> s.heap.get? b=some o -> h'.get? b=some o) -> h'.get? S=some { cls:=.type "list",dict:=none,data:=.seq acc c,slots:=#[] } -> C n P -> ItemsOf P acc n -> R (.ok (.ret res)) { s with heap:=h',drawn:=d,toks:=tk }) :
  wpAny (model prog w) A.in1 (Builtin.List.listExtendWith (.ref S) (.ref r) res) (fun fin s'=>match fin with | .done f=>R (.ok f) s' | .again c'=>c'.quiet=true /\ codeAny (model prog w) A c' R s') (fun e s'=>R (.error e) s') s:=by
 have Sl:S < s.heap.objs.size:=Heap.lt_size hS
 unfold Builtin.List.listExtendWith
 refine wpAny_bind (wpAny_typeOf (T:=T) (K.ty s hok) ?_)
 have h1:Builtin.List.listSameRef (.ref S) (.ref r)=false:=by simp [Builtin.List.listSameRef,hSr]
 simp only [h1,K.nl,K.nt,Bool.or_false,Bool.false_eq_true,if_false]
 refine wpAny_bind (K.iter A.in1 _ s _ hh hok fun h' d it fp n P St kp le hfp hc W st=>?_)
 have hS1:=kp _ _ hS
 have Sit:S ≠ it:=Nat.ne_of_lt (qJ Sl le)
 have nf:S ∉ fp:=fun hm=>by
  rcases hfp S hm with e | e
  ·exact hSr e
  ·exact absurd (qJ Sl e.1) (Nat.lt_irrefl _)
 have key:∀ (h2:Heap) (c:Nat),St 0 h2 -> (∀ b o,b ≠ S -> s.heap.get? b=some o -> h2.get? b=some o) -> h2.get? S=some { cls:=.type "list",data:=.seq #[] c } -> codeAny (model prog w) A (.builtin "list.extend.loop" ⟨[.ref S,.ref it,res],[]⟩) R { s with heap:=h2,drawn:=d }:=by
  intro h2 c st2 k2 hS2
  refine codeAny_extend_loopS W.toS (hC n P hc) S nf res n 0 _ #[] c rfl (Nat.zero_le _) st2 hS2 (ItemsOf.nil _) fun s' acc c' mv hS' hacc=>?_
  obtain ⟨h3,g3,d3,tk3,os3⟩:=s'
  have eg:g3=s.gens:=mv.gens
  have ed:d3=d:=mv.drawn
  have eo:os3=s.os:=mv.os
  subst eg; subst ed; subst eo
  refine hR h3 d3 tk3 acc c' n P (fun b o hb e=>mv.heap b o (fun hm=>?_) (k2 b o hb e)) hS' hc hacc
  rcases List.mem_cons.mp hm with e' | hm
  ·exact hb e'
  ·rw [List.mem_singleton.mp hm] at e
   exact absurd (qJ (Heap.lt_size e) le) (Nat.lt_irrefl _)
 refine wpAny_bind (wpAny_holding (K.hint _ _ _ _ (K.keep _ _ hok fun o e=>kp _ _ e) ?_))
 refine wpAny_ite_split (fun _=>?_) (fun _=>wpAny_pure ⟨plainId_quiet PySem.F.plain_extend_loop _,key _ 0 st (fun b o _ e=>kp b o e) hS1⟩)
 refine wpAny_bind (wpAny_rule (wpAny_bind ?_))
 show wpAny _ _ (updateSeq S (·.push .none) >>= fun _=>updateSeq S (·.pop)) _ _ _
 refine wpAny_bind (wpAny_updateSeq hS1 rfl ?_)
 have hS2:=Heap.get?_update_self (Obj.mapSeq (·.push Value.none)) hS1 rfl
 refine wpAny_updateSeq (hz:=by seq_fits) hS2 rfl ?_
 have hS3:=Heap.get?_update_self (Obj.mapSeq (·.pop)) hS2 rfl
 refine wpAny_pure ⟨plainId_quiet PySem.F.plain_extend_loop _,key _ _ ?_ (fun b o hb e=>?_) hS3⟩
 ·refine W.frame 0 _ _ st fun b hb o e=>?_
  have hbS:b ≠ S:=fun z=>nf (z ▸ hb)
  exact (Heap.get?_update_other _ _ (Ne.symm hbS)).trans ((Heap.get?_update_other _ _ (Ne.symm hbS)).trans e)
 ·exact (Heap.get?_update_other _ _ (Ne.symm hb)).trans ((Heap.get?_update_other _ _ (Ne.symm hb)).trans (kp b o e))
theorem coll_src {R:List Value -> Shared -> Prop}(K:Src prog w T r C OK)(hC:∀ n P,C n P -> n <= sizeLine)(hh:A.handled=none)(hok:OK s.heap)
  (h:∀ h' d tk (acc:Array Value) n P,(∀ b o,s.heap.get? b=some o -> h'.get? b=some o) -> s.heap.objs.size < h'.objs.size -> C n P -> ItemsOf P acc n -> R acc.toList { s with heap:=h',drawn:=d,toks:=tk }):wpAny (model prog w) A (collect (.ref r)) R E s:=by
 have rl:r < s.heap.objs.size:=by
  obtain ⟨o,ho,_⟩:=K.ty s hok
  exact Heap.lt_size ho
 unfold collect
 refine wpAny_bind (wpAny_runValue (codeAny_builtin entry_proto_collect' ?_))
 rw [Around.under_plainId PySem.F.plain_proto_collect _]
 show wpAny _ A.in1 (newList [] >>= fun l=>again (.builtin "list.__iadd__" ⟨[l,.ref r],[]⟩)) _ _ s
 refine wpAny_bind (wpAny_newObj_type (wpAny_pure ⟨plainId_quiet PySem.F.plain_list_iadd _,codeAny_builtin entry_list_iadd' ?_⟩))
 rw [Around.under_plainId PySem.F.plain_list_iadd _]
 have hS1:(s.heap.push { cls:=.type "list",data:=.seq ([]:List Value).toArray }).get? s.heap.objs.size=some { cls:=.type "list",data:=.seq #[] }:=Heap.get?_push_size _ rfl
 show wpAny _ A.in1 (Builtin.List.listExtendWith (.ref s.heap.objs.size) (.ref r) (.ref s.heap.objs.size)) _ _ _
 have key:=ext_src (A:=A) (s:={ s with heap:=s.heap.push { cls:=.type "list",data:=.seq ([]:List Value).toArray } })
  (R:=fun (q:Result) (s':Shared)=>∃ h' d tk acc c n P,q = .ok (.ret (.ref s.heap.objs.size)) /\ s' = { s with heap:=h',drawn:=d,toks:=tk } /\ (∀ b o,s.heap.get? b=some o -> h'.get? b=some o) /\ h'.get? s.heap.objs.size=some { cls:=.type "list",dict:=none,data:=.seq acc c,slots:=#[] } /\ C n P /\ ItemsOf P acc n)
  K hC hh (K.keep _ _ hok fun o e=>Heap.get?_push_of_some _ e) s.heap.objs.size (Nat.ne_of_gt rl) (.ref s.heap.objs.size) hS1
  (fun h' d tk acc c n P hk hS' hc hacc=>⟨h',d,tk,acc,c,n,P,rfl,rfl,fun b o e=>hk b o (Nat.ne_of_lt (Heap.lt_size e)) (Heap.get?_push_of_some _ e),hS',hc,hacc⟩)
 refine wpAny_mono key (fun fin s' x=>?_) fun e s' x=>?_
 ·cases fin with
  | done f =>
   obtain ⟨h',d,tk,acc,c,n,P,e,rfl,hk,hS',hc,hacc⟩:=x
   cases e
   show wpAny _ A (load s.heap.objs.size >>= _) _ _ _
   exact wpAny_bind (wpAny_load hS' (wpAny_pure (h h' d tk acc n P hk (Heap.lt_size hS') hc hacc)))
  | again c₁ =>
   refine ⟨x.1,codeAny_mono x.2 fun q s₂ y=>?_⟩
   obtain ⟨h',d,tk,acc,c,n,P,rfl,rfl,hk,hS',hc,hacc⟩:=y
   show wpAny _ A (load s.heap.objs.size >>= _) _ _ _
   exact wpAny_bind (wpAny_load hS' (wpAny_pure (h h' d tk acc n P hk (Heap.lt_size hS') hc hacc)))
 ·obtain ⟨_,_,_,_,_,_,_,e',_⟩:=x
  cases e'
theorem sort_src {Q:Value -> Shared -> Prop}{ks:List Int}(K:Src prog w T r C OK)(h64:ks.length < 64)(hC:∀ n P,C n P -> n <= sizeLine /\ ∀ acc:Array Value,ItemsOf P acc n -> ∃ ns,IntsAre acc.toList ns /\ ns.Perm ks)(hh:A.handled=none)(hok:OK s.heap)
  (h:∀ h' d tk D c (vs:List Value) ns,(∀ b o,s.heap.get? b=some o -> h'.get? b=some o) -> s.heap.objs.size <= D -> h'.get? D=some (seqObj "list" vs.toArray c) -> IntsAre vs ns -> ns.Perm ks -> ns.Pairwise (· <= ·) -> Q (.ref D) { s with heap:=h',drawn:=d,toks:=tk }) :
  wpAny (model prog w) A (call (.builtin "sorted") [.ref r]) Q E s:=by
 refine Calls.call_function_entry kind_sorted plain_sorted entry_sorted (args_sorted1 _) ?_
 unfold Builtin.«sorted»
 refine wpAny_bind (m:=checkCount "sorted" 1 1 _) (wpAny_pure ?_)
 refine wpAny_bind (coll_src (A:=A.in1) K (fun n P c=>(hC n P c).1) hh hok fun h' d tk acc n P kp le hc hi=>?_)
 obtain ⟨ns,i1,i2⟩:=(hC n P hc).2 acc hi
 have al:acc.toList.length < 64:=by rw [IntsAre.length i1,i2.length_eq]; exact h64
 refine wpAny_bind (wpAny_newList ?_ (le_size (by omega)))
 have hoL:(h'.push (seqObj "list" acc.toList.toArray 0)).get? h'.objs.size=some (seqObj "list" acc.toList.toArray 0):=Heap.get?_push_size _ rfl
 refine wpAny_bind (wpAny_holding (wpAny_call_entry slot_list_sort ⟨_,hoL,rfl⟩ entry_list_sort (list_sort_tree hoL i1 al fun out ns' a1 a2 a3=>⟨_,rfl,?_⟩) (args_list_sort _)))
 obtain ⟨c,hD⟩:=sortedHeap_at (out:=out) hoL
 refine wpAny_pure ⟨_,rfl,h _ d tk h'.objs.size c out.toList ns' (fun b o e=>?_) (Nat.le_of_lt le) hD a1 (a2.trans i2) a3⟩
 have bl:=Heap.lt_size (kp b o e)
 rw [sortedHeap_old (Nat.ne_of_lt bl) (by rw [size_push']; exact Nat.lt_succ_of_lt bl),Heap.get?_push_of_some _ (kp b o e)]
end
theorem hint_set {prog:Program} {w:World} {A:Around} {E:Value -> Shared -> Prop} {s:Shared} {r:Addr} {Q:Bool -> Shared -> Prop} (hT:s.TypeIs (.ref r) "set") (h:Q false s):wpAny (model prog w) A (Builtin.List.listLengthHint (.ref r)) Q E s:=by
 unfold Builtin.List.listLengthHint
 refine wpAny_bind (wpAny_specialOf hT PySem.F.slot_set_len.lookup ?_)
 generalize hid:("set.__len__" : String)=id0
 wp_delta
 rw [show splitId id0=some ("set","__len__") from by subst hid; decide +kernel]
 subst hid
 refine wpAny_bind (wpAny_isInstance (T:="set") (b:=true) hT (by rw [isSubtype_type]; kernel_rfl) ?_)
 refine wpAny_ite_split (fun q=>absurd q (by decide)) (fun _=>wpAny_ite_split (fun _=>?_) (fun q=>absurd (by decide +kernel) q))
 exact wpAny_bind (wpAny_typeOf hT (wpAny_pure h))
theorem src_set {prog:Program}{w:World}{r:Addr}{ks:List Int}:Src prog w "set" r (fun n P=>n=ks.length /\ ∃ vs ns,vs.length=n /\ IntsAre vs ns /\ ns.Perm ks /\ P=fun i v=>vs[i]? = some v) (fun h=>SetZ (ledOf w) h r ks) where
 ty:=fun s ⟨es,ep,t,ho,_⟩=>⟨_,ho,rfl⟩
 keep:=fun h h' z k=>z.keep k
 nl:=by decide
 nt:=by decide
 hint:=fun A E s Q z q=>by
  obtain ⟨es,ep,t,ho,_⟩:=z
  exact hint_set ⟨_,ho,rfl⟩ q
 iter:=fun A E s Q hh z h=>by
  obtain ⟨es,ep,t,ho,Z⟩:=z
  refine iter_z hh ho Z fun h' d it fp vs ns St a1 a2 a3 a4 a5 a6 W st=>h h' d it fp vs.length _ St a1 a2 a3 ⟨?_,vs,ns,rfl,a5,a6,rfl⟩ W st
  rw [IntsAre.length a5,a6.length_eq]
theorem vals_intsZ:∀ {vs:List Value} {ns:List Int},IntsAre vs ns -> Vals (ns.map V.int) vs
 | _,_,.nil=>.nil
 | _,_,.cons n t r=>.cons ⟨t,rfl⟩ (vals_intsZ r)
theorem ints_vals:∀ {ns:List Int} {vs:List Value},Vals (ns.map V.int) vs -> IntsAre vs ns
 | [],vs,h=>by cases h; exact .nil
 | n :: ns,vs,h=>by
  cases h with
  | cons r t =>
   obtain ⟨tk,rfl⟩:=r
   exact .cons n tk (ints_vals t)
def sortI (ks:List Int):List Int:=ks.mergeSort (fun a b=>decide (a <= b))
theorem sortI_perm (ks:List Int):(sortI ks).Perm ks:=List.mergeSort_perm _ _
theorem sortI_sorted (ks:List Int):(sortI ks).Pairwise (· <= ·):=by
 have:=List.pairwise_mergeSort (le:=fun (a b:Int)=>decide (a <= b)) (fun a b c h1 h2=>by simp at h1 h2 ⊢; omega) (fun a b=>by simp; omega) ks
 exact this.imp fun h=>by simpa using h
theorem sortI_of {ns ks:List Int}(h1:ns.Perm ks)(h2:ns.Pairwise (· <= ·)):ns=sortI ks:=PySem.W.ksm_same (h1.trans (sortI_perm ks).symm) h2 (sortI_sorted ks)
def SetE (w:World)(a:Addr)(ks:List Int):HO:=.ext (fun h=>SetZ (ledOf w) h a ks)
section
variable {X:Cx}
theorem Inv.drawn {pins:List (Addr × Obj)}{σ:St}{H:Hp}{s:Shared}(I:Inv X pins σ H s)(d:Drawn):Inv X pins σ H { s with drawn:=d } :=
 ⟨I.ok,I.os,I.bare,I.base,I.loc,I.cell,I.free,I.freeC,I.pin,I.hok,I.len⟩
def rSetZ (w:World):List V -> Hp -> VK -> Prop:=fun xs H Q=>∃ (p:Addr) (ns:List Int),xs=[.ref p] /\ H p=some (.lst (ns.map V.int)) /\ ns.length <= 4000 /\ ∀ a,H a=none -> Q (.ref a) (upd H a (SetE w a (ns.foldl step_dedup [])))
theorem call_setL (hc:X.calm=true):CallR X (.type "set") (rSetZ X.w):=by
 intro pins s σ H xs us Q I r h
 obtain ⟨p,ns,rfl,hp,hl,q⟩:=h
 obtain ⟨u,rfl,ru⟩:=vals1 r
 cases ru
 obtain ⟨hz,its,c,rv,_,ho⟩:=I.lstM hp
 refine call_setZ (I.ok.hd hc) (vs:=its) ⟨_,ho,rfl,c,rfl⟩ (ints_vals rv) (by unfold scanBound; omega) fun h' tk z kp=>?_
 refine ⟨.ref s.heap.objs.size,_,I.laid (t':=tk) kp (Nat.le_refl _) ?_,rfl,q _ I.fresh⟩
 show (SetZ (ledOf X.w) h' s.heap.objs.size _) /\ _
 refine ⟨z,?_,fun h1 h2 z1 k=>z1.keep k⟩
 obtain ⟨es,ep,t,e,_⟩:=z
 exact ⟨_,e⟩
def rSortS (w:World):List V -> Hp -> VK -> Prop:=fun xs H Q=>∃ (a:Addr) (ks:List Int),xs=[.ref a] /\ H a=some (SetE w a ks) /\ ks.length < 64 /\ ∀ l,H l=none -> Q (.ref l) (upd H l (.lst ((sortI ks).map V.int)))
theorem laid_sorted {pins:List (Addr × Obj)}{σ:St}{H:Hp}{s:Shared}{Q:VK}{h':Heap}{d:Drawn}{tk D c:Nat}{vs:List Value}{ns ks:List Int}(I:Inv X pins σ H s)(kp:∀ b o,s.heap.get? b=some o -> h'.get? b=some o)(le:s.heap.objs.size <= D)
  (hD:h'.get? D=some (seqObj "list" vs.toArray c)) (hi:IntsAre vs ns) (hp:ns.Perm ks) (ho:ns.Pairwise (· <= ·)) (h64:ks.length < 64) (q:∀ l,H l=none -> Q (.ref l) (upd H l (.lst ((sortI ks).map V.int)))):EP X pins σ Q (.ref D) { s with heap:=h',drawn:=d,toks:=tk }:=by
 have e:=sortI_of hp ho
 subst e
 have hz:((sortI ks).map V.int).length <= sizeLine:=by rw [qC,hp.length_eq]; exact le_size (by omega)
 exact ⟨.ref D,_,(I.laid (t':=tk) kp le (show ObjOk X.prog X.w _ h' D (.lst ((sortI ks).map V.int)) from ⟨hz,vs,c,vals_intsZ hi,hD⟩)).drawn d,rfl,q D (I.hok.fresh le)⟩
theorem call_sortS (hc:X.calm=true):CallR X (.builtin "sorted") (rSortS X.w):=by
 intro pins s σ H xs us Q I r h
 obtain ⟨a,ks,rfl,ha,h64,q⟩:=h
 obtain ⟨u,rfl,ru⟩:=vals1 r
 cases ru
 have z:SetZ (ledOf X.w) s.heap a ks:=(I.hok a _ ha).1
 refine sort_src (ks:=ks) src_set h64 ?_ (I.ok.hd hc) z fun h' d tk D c vs ns kp le hD hi hp ho=>laid_sorted I kp le hD hi hp ho h64 q
 rintro n P ⟨rfl,vs,ns,hl,hi,hp,rfl⟩
 refine ⟨le_size (by omega),fun acc it=>⟨ns,?_,hp⟩⟩
 have:acc.toList=vs:=by
  apply List.ext_getElem?
  intro i
  by_cases z:i < acc.size
  ·have e:=it.2 i _ (Array.getElem?_eq_getElem z)
   rw [Array.getElem?_toList,Array.getElem?_eq_getElem z,e]
  ·rw [Array.getElem?_toList,Array.getElem?_eq_none (by omega),List.getElem?_eq_none (by rw [hl,← it.1]; omega)]
 rw [this]
 exact hi
end
end L2
set_option Elab.async false
set_option linter.all false
set_option maxRecDepth 100000
set_option maxHeartbeats 1000000
namespace L2
open PySem PySem.Spec PyProof.Rows
section
variable {X:Cx}
end
end L2
set_option Elab.async false
set_option linter.all false
set_option maxRecDepth 100000
set_option maxHeartbeats 1000000
namespace L2
open PySem PySem.Spec PyProof.Rows
section
variable {X:Cx}
theorem call_setW (w:World)(hc:X.calm=true)(h:X.w=w:=by rfl):CallR X (.type "set") (rSetZ w):=by subst h; exact call_setL hc
theorem call_sortW (w:World)(hc:X.calm=true)(h:X.w=w:=by rfl):CallR X (.builtin "sorted") (rSortS w):=by subst h; exact call_sortS hc
end
theorem dedup_if (ks:List Int)(k:Int):step_dedup ks k=if k ∈ ks then ks else ks ++ [k]:=by
 unfold step_dedup
 by_cases h:k ∈ ks
 ·have e:(ks.any fun x=>x == k)=true:=List.any_eq_true.mpr ⟨k,h,beq_self_eq_true _⟩
  rw [if_pos h,if_pos e]
 ·rw [if_neg h,if_neg]
  intro z
  obtain ⟨x,hx,e⟩:=List.any_eq_true.mp z
  rw [beq_iff_eq.mp e] at hx
  exact h hx
def ded (xs:List Int):List Int:=xs.foldl step_dedup []
theorem ded_snoc (xs:List Int)(x:Int):ded (xs ++ [x])=if x ∈ ded xs then ded xs else ded xs ++ [x]:=by
 unfold ded
 rw [List.foldl_append]
 exact dedup_if _ _
theorem sortI_len (ks:List Int):(sortI ks).length=ks.length:=(sortI_perm ks).length_eq
end L2
set_option Elab.async false
set_option linter.all false
set_option maxRecDepth 100000
set_option maxHeartbeats 1000000
namespace L2
open PySem PySem.Spec PyProof.Rows
section
variable {ins:Nat}{ds:List Wd}
end
section
variable {ins:Nat}{ds:List Wd}{j lo:Nat}{far:List Int}
end
end L2
set_option Elab.async false
set_option linter.all false
set_option maxRecDepth 100000
set_option maxHeartbeats 1000000
namespace L2
open PySem PySem.Spec PyProof.Rows
section
variable {K:PySem.W.Frag}{σ:St}{H:Hp}{Q:VK}{cs:List Nat}{te:TE}
end
end L2
set_option Elab.async false
set_option linter.all false
set_option maxRecDepth 100000
set_option maxHeartbeats 1000000
namespace L2
open PySem PySem.Spec PyProof.Rows
section
variable {K:PySem.W.Frag}{σ:St}{H:Hp}{Q:VK}{cs:List Nat}{tt:TT}{te:TE}
theorem comp_ofF {α:Type}{l:Addr}{vs:List V}{xs:List α}(hl:H l=some (.lst vs))(hlen:vs.length=xs.length)(hz:xs.length <= 1000)(f:α -> Option Int)
  (hb:∀ (k:Nat) v x H' (R:Option V -> Hp -> Prop),vs[k]? = some v -> xs[k]? = some x -> Same H H' -> (∀ H5,Same H' H5 -> R ((f x).map V.int) H5) -> tt (some v :: capV cs σ) H' fun b H4=>if b=true then te (some v :: capV cs σ) H4 fun y H5=>R (some y) H5 else R none H4)
  (hd:∀ acc H',H acc=none -> Same H H' -> H' acc=some (.lst ((xs.filterMap f).map V.int)) -> Q (.ref acc) H'):CompIt (Itl K l) 1 cs (gName 0) tt te σ H Q:=by
 refine comp_any xs.length (fun acc i ws H'=>Same H H' /\ H acc=none /\ H' acc=some (.lst ws) /\ ws=((xs.take i).filterMap f).map V.int) (le_size hz) ?_ ?_ ?_ ?_ ?_ ?_
 ·rintro acc i ws H' hi ⟨s,_⟩
  exact ⟨vs,vs[i]'(by omega),SqL.of (s _ _ hl),qA _⟩
 ·rintro acc ws H' ⟨s,_⟩
  exact ⟨vs,SqL.of (s _ _ hl),by omega⟩
 ·intro acc ha
  exact ⟨same_new ha _,ha,upd_same,rfl⟩
 ·rintro acc i ws H' ⟨s,_,ha,hw⟩
  refine ⟨ha,?_⟩
  rw [hw,qC]
  exact Nat.le_trans (List.length_filterMap_le _ _) (by rw [qO]; omega)
 ·rintro acc i ws H' ts v H2 N hn hi ⟨s,hn',ha,hw⟩ ⟨rfl,hx0⟩ hts hN
  have hx:=hx0 vs (SqL.of (s _ _ hl))
  have e1:xs[i]? = some xs[i]:=qA hi
  generalize xs[i]=x at e1
  obtain ⟨t0,rfl⟩:∃ t0,ts=[t0]:=by
   match ts,hts with
   | [a],_=>exact ⟨a,rfl⟩
  rw [w_gName]
  have tk:xs.take (i+1)=xs.take i ++ [x]:=by rw [List.take_add_one,e1]; rfl
  refine hb i v x H2 (fun o H5=>match o with | some y=>H5 acc=some (.lst ws) /\ N (ws ++ [y]) (some v :: capV cs σ) (upd H5 acc (.lst (ws ++ [y]))) | none=>N ws (some v :: capV cs σ) H5) hx e1 s fun H5 s5=>?_
  cases hf:f x with
  | none =>
   refine hN _ [some v] _ rfl ⟨s.trans s5,hn',s5 _ _ ha,?_⟩
   rw [hw,tk,List.filterMap_append,List.filterMap_cons,hf]
   simp
  | some y =>
   refine ⟨s5 _ _ ha,hN _ [some v] _ rfl ⟨same_upd hn (s.trans s5),hn',upd_same,?_⟩⟩
   rw [hw,tk,List.filterMap_append,List.map_append,List.filterMap_cons,hf]
   rfl
 ·rintro acc ws H' hn ⟨s,_,ha,hw⟩
  refine hd acc H' hn s ?_
  rw [ha,hw,List.take_of_length_le (Nat.le_refl _)]
end
end L2
set_option Elab.async false
set_option linter.all false
set_option maxRecDepth 100000
set_option maxHeartbeats 1000000
namespace L2
open PySem PySem.Spec PyProof.Rows
section
variable {X:Cx}
end
end L2
set_option Elab.async false
set_option linter.all false
set_option maxRecDepth 100000
set_option maxHeartbeats 1000000
namespace L2
open PySem PySem.Spec PyProof.Rows
def pm (some_:List Int)(h:Int):List Int:=some_.flatMap fun r=>[h+r,h - r]
end L2
set_option Elab.async false
set_option linter.all false
set_option maxRecDepth 100000
set_option maxHeartbeats 1000000
namespace L2
open PySem PySem.Spec PyProof.Rows
theorem inV_i (xs:List Int)(c:Int):inV (.int c) (xs.map V.int)=decide (c ∈ xs):=by
 unfold inV
 rw [List.any_map]
 by_cases h:c ∈ xs
 ·rw [decide_eq_true h,List.any_eq_true]
  exact ⟨c,h,by simp [eqV]⟩
 ·rw [decide_eq_false h,List.any_eq_false]
  intro x hx
  have:x ≠ c:=fun e=>h (e ▸ hx)
  simp [eqV,this]
theorem in_i {K:PySem.W.Frag}{H:Hp}{Q:VK}{l:Addr}{xs:List Int}{c:Int}(h:H l=some (.lst (xs.map V.int)))(q:Q (.bl (decide (c ∈ xs))) H):rIn K false (.int c) (.ref l) H Q:=by
 refine ⟨l,_,rfl,.inl (SqL.of h),rfl,?_,?_⟩
 ·rw [List.all_eq_true]
  intro v hv
  obtain ⟨n,_,rfl⟩:=qP.mp hv
  rfl
 ·rw [if_neg Bool.false_ne_true,inV_i]
  exact q
section
variable {K:PySem.W.Frag}{σ:St}{H:Hp}{Q:VK}{cs:List Nat}{te:TE}
end
end L2
set_option Elab.async false
set_option linter.all false
set_option maxRecDepth 100000
set_option maxHeartbeats 1000000
namespace L2
open PySem PySem.Spec PyProof.Rows
section
variable {prog:Program}{w:World}{A:Around}{E:Value -> Shared -> Prop}{s:Shared}{K:PySem.W.Frag}{x C dx:Addr}{ox:Obj}{name:Str}{v:Value}
end
section
variable {prog:Program}{w:World}{A:Around}{E:Value -> Shared -> Prop}{h:Heap}{g:Array GenState}{d:Drawn}{t:Nat}{os:OsState}
variable {nm q:Str}{C N:Addr}{bs bm bmB:List Value}{hdct:Bool}{sn:List Str}{sub:List Value}{ab:Bool}{col:Option Bool}{dd:Option Addr}{k0 k1 k2 k3 k5:Option Value}{B newId initId:String}
end
end L2
set_option Elab.async false
set_option linter.all false
set_option maxRecDepth 100000
set_option maxHeartbeats 1000000
namespace L2
open PySem PySem.Spec PyProof.Rows
section
variable {X:Cx}{pins:List (Addr × Obj)}{σ:St}{H:Hp}{s:Shared}{x C t:Addr}{f:Str}
end
end L2
set_option Elab.async false
set_option linter.all false
set_option maxRecDepth 100000
set_option maxHeartbeats 1000000
namespace L2
open PySem PySem.Spec PyProof.Rows
section
variable {M:Model}{A:Around}{E:Value -> Shared -> Prop}{env:Env}
variable {nm q:Str}{C N:Addr}{bs bm:List Value}{hdct:Bool}{sn:List Str}{sub:List Value}{ab:Bool}{col:Option Bool}{dd:Option Addr}{k0 k1 k2 k3 k5:Option Value}{newId:String}
end
section
variable {X:Cx}{C:Addr}{f:Str}
end
end L2
set_option Elab.async false
set_option linter.all false
set_option maxRecDepth 100000
set_option maxHeartbeats 1000000
namespace L2
open PySem PySem.Spec PyProof.Rows
section
variable {prog:Program}{w:World}{A:Around}{E:Value -> Shared -> Prop}{s:Shared}{K:PySem.W.Frag}{x D:Addr}{o:Obj}{od:Option Obj}
end
end L2
set_option Elab.async false
set_option linter.all false
set_option maxRecDepth 100000
set_option maxHeartbeats 1000000
namespace L2
open PySem PySem.Spec PyProof.Rows
section
variable {α:Type}{p:α -> Bool}{l:List α}{i:Nat}{x:α}
end
section
variable {K:PySem.W.Frag}{σ:St}{H:Hp}{Q:VK}{cs:List Nat}{te:TE}
end
section
variable {K:PySem.W.Frag}{σ:St}{H:Hp}{Q:VK}{cs:List Nat}{te:TE}
end
end L2
set_option Elab.async false
set_option linter.all false
set_option maxRecDepth 100000
set_option maxHeartbeats 1000000
namespace L2
open PySem PySem.Spec PyProof.Rows
end L2
set_option Elab.async false
set_option linter.all false
set_option maxRecDepth 100000
set_option maxHeartbeats 1000000
namespace L2
open PySem PySem.Spec PyProof.Rows PySem.W
section
variable {key:Nat -> Int}{n:Nat}{p q:Array Nat}
end
end L2
set_option Elab.async false
set_option linter.all false
set_option maxRecDepth 100000
set_option maxHeartbeats 1000000
namespace L2
open PySem PySem.Spec PyProof.Rows PySem.W
section
variable {prog:Program}{w:World}{A:Around}{E:Value -> Shared -> Prop}{s:Shared}{vs:List Value}{ks:List Int}
end
end L2
set_option Elab.async false
set_option linter.all false
set_option maxRecDepth 100000
set_option maxHeartbeats 1000000
namespace L2
open PySem PySem.Spec PyProof.Rows PySem.W
section
variable {K:PySem.W.Frag}{σ:St}{H:Hp}{Q:VK}{cs:List Nat}{te:TE}
end
end L2
set_option Elab.async false
set_option linter.all false
set_option maxRecDepth 100000
set_option maxHeartbeats 1000000
namespace L2
open PySem PySem.Spec PyProof.Rows
end L2
set_option Elab.async false
set_option linter.all false
set_option maxRecDepth 100000
set_option maxHeartbeats 1000000
namespace L2
open PySem PySem.Spec PyProof.Rows
section
variable {X:Cx}{pos:Pos}
end
end L2
set_option Elab.async false
set_option linter.all false
set_option maxRecDepth 100000
set_option maxHeartbeats 1000000
namespace L2
open PySem PySem.Spec PyProof.Rows
end L2
set_option Elab.async false
set_option linter.all false
set_option maxRecDepth 100000
set_option maxHeartbeats 1000000
namespace L2
open PySem PySem.Spec PyProof.Rows
def deedG (p q:Go):Wd:=if p.sg=q.sg then ⟨Str.ofString "sum",p.th,p.sh,q.th,q.sh⟩ else if p.sg=1 then ⟨Str.ofString "less",p.th,p.sh,q.th,q.sh⟩ else ⟨Str.ofString "less",q.th,q.sh,p.th,p.sh⟩
def signG (p q:Go):Int:=if p.sg=q.sg then p.sg else 1
def g0:Go:=⟨0,0,0⟩
end L2
set_option Elab.async false
set_option linter.all false
set_option maxRecDepth 100000
set_option maxHeartbeats 1000000
namespace L2
open PySem PySem.Spec PyProof.Rows
def Sh14 (s x:Int):Prop:=-4000 <= s /\ s <= 4000 /\ (s < 0 -> (2:Int) ^ (-s).toNat ∣ x)
def spDArrK (K:PySem.W.Frag):Sp:=fun vs H Q _=>∃ (w dl gl:Addr) (ins:Nat) (us:List V) (ds:List Wd) (os:List V) (gs:List Go),vs=[.ref w] /\ WbK K H w dl gl ins us ds os gs /\ ds.length <= 400 /\
 ∀ r ws H',H r=none -> Same H H' -> H' r=some (.lst ws) -> HTs aTup H' ws (arrF ins 0 ds) -> Q (.ref r) H'
section
variable {K:PySem.W.Frag}{σ:St}{H:Hp}{Q:VK}{cs:List Nat}{te:TE}{tt:TT}
end
def spDeedE (K:PySem.W.Frag):Sp:=fun vs H Q _=>∃ (p q:Addr) (P R:Go),vs=[.ref p,.ref q] /\ SqT K H p (gTp P) /\ SqT K H q (gTp R) /\ ∀ r H',H r=none -> Same H H' -> H' r=some (.tup (wTup (deedG P R))) -> Q (.ref r) H'
def spSignE (K:PySem.W.Frag):Sp:=fun vs H Q _=>∃ (p q:Addr) (P R:Go),vs=[.ref p,.ref q] /\ SqT K H p (gTp P) /\ SqT K H q (gTp R) /\ Q (.int (signG P R)) H
end L2
set_option Elab.async false
set_option linter.all false
set_option maxRecDepth 100000
set_option maxHeartbeats 1000000
namespace L2
open PySem PySem.Spec PyProof.Rows
def Sh4 (s:Int)(r:List Int):Prop:=-4000 <= s /\ s <= 4000 /\ Dv s r
structure FW4 (ins:Nat) (ds:List Wd) (gs:List Go):Prop where
 ok:WebOk ins ds gs
 sh:∀ (k:Nat) (d:Wd),ds[k]? = some d -> d.a < ins+k /\ d.b < ins+k /\ Sh4 d.s ((rowsW ins ds).getD d.a []) /\ Sh4 d.t ((rowsW ins ds).getD d.b [])
 go:∀ g ∈ gs,g=⟨0,0,0⟩ \/ ((g.sg=1 \/ g.sg = -1) /\ Sh4 g.sh ((rowsW ins ds).getD g.th []))
 rb:RB 8000 (rowsW ins ds)
 wd:∀ r ∈ rowsW ins ds,r.length=ins
section
variable {ins m:Nat}{s1 s2:List Wd}{t1 t2:List Go}
end
end L2
set_option Elab.async false
set_option linter.all false
set_option maxRecDepth 100000
set_option maxHeartbeats 1000000
namespace L2
open PySem PySem.Spec PyProof.Rows
section
variable {K:PySem.W.Frag}{σ:St}{H:Hp}{Q:VK}{cs:List Nat}{te:TE}
end
section
variable {K:PySem.W.Frag}{σ:St}{H:Hp}{Q:VK}{cs:List Nat}{te:TE}
end
end L2
set_option Elab.async false
set_option linter.all false
set_option maxRecDepth 100000
set_option maxHeartbeats 1000000
namespace L2
open PySem PySem.Spec PyProof.Rows
end L2
set_option Elab.async false
set_option linter.all false
set_option maxRecDepth 100000
set_option maxHeartbeats 1000000
namespace L2
open PySem PySem.Spec PyProof.Rows
end L2
set_option Elab.async false
set_option linter.all false
set_option maxRecDepth 100000
set_option maxHeartbeats 1000000
namespace L2
open PySem PySem.Spec PyProof.Rows
section
variable {ins:Nat}{ds:List Wd}{gs:List Go}{μ:List Int}{B:Int}
end
section
variable {ins:Nat}{ds:List Wd}{gs:List Go}{μ:List Int}{B:Int}
end
end L2
set_option Elab.async false
set_option linter.all false
set_option maxRecDepth 100000
set_option maxHeartbeats 1000000
namespace L2
open PySem PySem.Spec PyProof.Rows
def spCntK (K:PySem.W.Frag):Sp:=fun vs H Q _=>∃ (w dl gl:Addr) (ins:Nat) (us:List V) (ds:List Wd) (os:List V) (gs:List Go),vs=[.ref w] /\ WbK K H w dl gl ins us ds os gs /\ Q (.int ((ins:Int)+(ds.length:Nat))) H
section
variable {α:Type}{K:PySem.W.Frag}{f:α -> List V}{H H':Hp}{vs us:List V}{xs:List α}{l:Addr}
end
section
variable {K:PySem.W.Frag}{σ:St}{H:Hp}{Q:VK}{cs:List Nat}{te:TE}
end
end L2
set_option Elab.async false
set_option linter.all false
set_option maxRecDepth 100000
set_option maxHeartbeats 1000000
namespace L2
open PySem PySem.Spec PyProof.Rows
section
variable {H:Hp}{p dl gl a:Addr}{ins k n j:Nat}{us os:List V}{ds:List Wd}{gs:List Go}{H' H'':Hp}{c:Int}
end
end L2
set_option Elab.async false
set_option linter.all false
set_option maxRecDepth 100000
set_option maxHeartbeats 1000000
namespace L2
open PySem PySem.Spec PyProof.Rows
section
variable {K:PySem.W.Frag}{σ:St}{H:Hp}{Q:VK}{cs:List Nat}{tt:TT}
end
end L2
set_option Elab.async false
set_option linter.all false
set_option maxRecDepth 100000
set_option maxHeartbeats 1000000
namespace L2
open PySem PySem.Spec PyProof.Rows
section
variable {K:PySem.W.Frag}{σ:St}{H:Hp}{Q:VK}{cs:List Nat}{te:TE}
end
end L2
set_option Elab.async false
set_option linter.all false
set_option maxRecDepth 100000
set_option maxHeartbeats 1000000
namespace L2
open PySem PySem.Spec PyProof.Rows
def spShRowN:Sp:=fun vs H Q _=>∃ (l:Addr) (s:Int) (xs:List Int),vs=[.ref l,.int s] /\ H l=some (.tup (iT xs)) /\ xs.length <= 100 /\ (∀ x ∈ xs,x.natAbs < 2 ^ 9000) /\ -4000 <= s /\ s <= 4000 /\
 ∀ r H',H r=none -> Same H H' -> H' r=some (.lst (xs.map fun n=>shV n s)) -> Q (.ref r) H'
theorem shRV_mapN {s:Int}:∀ r:List Int,(r.map V.int).filterMap (shRV s)=r.map fun n=>shV n s
 | []=>rfl
 | a :: r=>by
  rw [List.map_cons,List.filterMap_cons,List.map_cons,← shRV_mapN r]
  rfl
end L2
set_option Elab.async false
set_option linter.all false
set_option maxRecDepth 100000
set_option maxHeartbeats 1000000
namespace L2
open PySem PySem.Spec PyProof.Rows
def spDRow4 (K:PySem.W.Frag):Sp:=fun vs H Q _=>∃ (x l:Addr) (d:Wd) (ys:List V) (rs:List (List Int)) (ins:Nat),vs=[.ref x,.ref l] /\ SqT K H x (wTup d) /\ H l=some (.lst ys) /\ HTs iT H ys rs /\ d.a < rs.length /\ d.b < rs.length /\ Sh4 d.s (rs.getD d.a []) /\ Sh4 d.t (rs.getD d.b []) /\ (∀ r ∈ rs,r.length=ins) /\ ins <= 12 /\ RB 8000 rs /\
 ∀ r H',H r=none -> Same H H' -> H' r=some (.tup (iT (rowD rs d))) -> Q (.ref r) H'
def spSecond (K:PySem.W.Frag):Sp:=fun vs H Q _=>∃ (x:Addr) (d:Wd),vs=[.ref x] /\ SqT K H x (wTup d) /\ Q (.int (sgW d.w)) H
theorem shV_map4 {s:Int}{r:List Int}(h:Dv s r):(r.map fun n=>shV n s)=(r.map (mvI s)).map V.int:=by rw [← shRV_map h,shRV_mapN]
end L2
set_option Elab.async false
set_option linter.all false
set_option maxRecDepth 100000
set_option maxHeartbeats 1000000
namespace L2
open PySem PySem.Spec PyProof.Rows
section
variable {prog:Program}{w:World}{A:Around}{E:Value -> Shared -> Prop}{s:Shared}
end
end L2
set_option Elab.async false
set_option linter.all false
set_option maxRecDepth 100000
set_option maxHeartbeats 1000000
namespace L2
open PySem PySem.Spec PyProof.Rows
end L2
set_option Elab.async false
set_option linter.all false
set_option maxRecDepth 100000
set_option maxHeartbeats 1000000
namespace L2
open PySem PySem.Spec PyProof.Rows
end L2
set_option Elab.async false
set_option linter.all false
set_option maxRecDepth 100000
set_option maxHeartbeats 1000000
namespace L2
open PySem PySem.Spec PyProof.Rows
section
variable {K:PySem.W.Frag}{H:Hp}
end
end L2
set_option Elab.async false
set_option linter.all false
set_option maxRecDepth 100000
set_option maxHeartbeats 1000000
namespace L2
open PySem PySem.Spec PyProof.Rows
end L2
set_option Elab.async false
set_option linter.all false
set_option maxRecDepth 100000
set_option maxHeartbeats 1000000
namespace L2
open PySem PySem.Spec PyProof.Rows
end L2
set_option Elab.async false
set_option linter.all false
set_option maxRecDepth 100000
set_option maxHeartbeats 1000000
namespace L2
open PySem PySem.Spec PyProof.Rows
end L2
set_option Elab.async false
set_option linter.all false
set_option maxRecDepth 100000
set_option maxHeartbeats 1000000
namespace L2
open PySem PySem.Spec PyProof.Rows
@[elab_as_elim] theorem abs_ {C:Hp -> Prop} {H:Hp} {p:Addr} {o:HO} (np:H p=none) (k:∀ H',Same H H' -> H' p=some o -> C H'):C (upd H p o):=k _ (same_new np _) upd_same
def NoT (H:Hp)(v:V):Prop:=flatV v=true \/ ∃ p,v = .ref p /\ ((∃ xs,H p=some (.lst xs)) \/ ∃ kvs,H p=some (.dK kvs))
section
variable {K:PySem.W.Frag}{H:Hp}
end
end L2
set_option Elab.async false
set_option linter.all false
set_option maxRecDepth 100000
set_option maxHeartbeats 1000000
namespace L2
open PySem PySem.Spec PyProof.Rows
section
variable {X:Cx}{o i:Expr}{pos:Pos}{td ty:TE}
end
section
variable {σ:St}{H:Hp}{Q:VK}{a:Addr}
end
section
variable {α:Type}
def lk (rows:List (Int × α))(c:Int):Option α:=(rows.find? fun r=>decide (r.1=c)).map (·.2)
variable {R:V -> α -> Prop}{kvs:List (Key × V)}{rows:List (Int × α)}
end
end L2
set_option Elab.async false
set_option linter.all false
set_option maxRecDepth 100000
set_option maxHeartbeats 1000000
namespace L2
open PySem PySem.Spec PyProof.Rows
section
variable {σ:St}{H:Hp}{D:Ends}{g:TG}{tb:TS}{d:Addr}{o:Obj}{kvs:List (Key × V)}
end
theorem w_dget2 {td ty tx:TE}{σ:St}{H:Hp}{Q:VK}:tDGet2 td ty tx σ H Q=(td σ H fun x H1=>∃ a,x = .ref a /\ IsD H1 a /\ ty σ H1 fun y H2=>tx σ H2 fun z H3=>∃ o,DGet H3 a y o /\ Q (o.getD z) H3):=rfl
section
variable {L:Nat}{n:Int}
end
end L2
set_option Elab.async false
set_option linter.all false
set_option maxRecDepth 100000
set_option maxHeartbeats 1000000
namespace L2
open PySem PySem.Spec PyProof.Rows
section
variable {X:Cx}
end
end L2
set_option Elab.async false
set_option linter.all false
set_option maxRecDepth 100000
set_option maxHeartbeats 1000000
namespace L2
open PySem PySem.Spec PyProof.Rows PySem.W
section
variable {prog:Program}{w:World}{A:Around}{E:Value -> Shared -> Prop}{s:Shared}{vs:List Value}{xss:List (List Int)}{a:Addr}
end
end L2
set_option Elab.async false
set_option linter.all false
set_option maxRecDepth 100000
set_option maxHeartbeats 1000000
namespace L2
open PySem PySem.Spec PyProof.Rows
end L2
set_option Elab.async false
set_option linter.all false
set_option maxRecDepth 100000
set_option maxHeartbeats 1000000
namespace L2
open PySem PySem.Spec PyProof.Rows PySem.W
section
variable {prog:Program}{w:World}{A:Around}{E:Value -> Shared -> Prop}{κ:SortKind}{it:Array Keyed}{vs:List Value}{s:Shared}
variable {xss:List (List Int)}{a:Addr}
end
end L2
set_option Elab.async false
set_option linter.all false
set_option maxRecDepth 100000
set_option maxHeartbeats 1000000
namespace L2
open PySem PySem.Spec PyProof.Rows
end L2
set_option Elab.async false
set_option linter.all false
set_option maxRecDepth 100000
set_option maxHeartbeats 1000000
namespace L2
open PySem PySem.Spec PyProof.Rows
section
variable {prog:Program}{w:World}{A:Around}{E:Value -> Shared -> Prop}
end
end L2
set_option Elab.async false
set_option linter.all false
set_option maxRecDepth 100000
set_option maxHeartbeats 1000000
namespace L2
open PySem PySem.Spec PyProof.Rows
inductive Tg where
 | f (x:V)
 | l (xs:List Tg)
 | t (xs:List Tg)
 | d (xs:List Tg)
section
variable {X:Cx}{pins:List (Addr × Obj)}{σ:St}{H:Hp}{s:Shared}
end
abbrev FSt:=Int × Int × Int
def mx1 (d st:Int):Int:=(d+40692 * st * st+69621 * st) % 2147483647
def mx2 (m st:Int):Int:=(m * m+39373 * m+st) % 2147483579
def mx3 (m:Int):Int:=(m * m+16807 * m) % 2147483549
def tkS (m:Int)(s:FSt):Int × FSt:=if s.1 > 0 then (s.1 % m,(s.1 / m,s.2.1,s.2.2)) else (mx3 (mx2 (mx1 s.2.1 (s.2.2+1)) (s.2.2+1)) / 64 % m,(s.1,s.2.1,s.2.2+1))
def tk:Nat -> Int -> FSt -> Int × FSt
 | 0,_,s=>(0,s)
 | n+1,m,s=>if m > 10000000 then (((tk n (m / 1000000+1) s).1 * 1000000+(tk n 1000000 (tk n (m / 1000000+1) s).2).1) % m,(tk n 1000000 (tk n (m / 1000000+1) s).2).2) else tkS m s
def pk (xs:List Int)(i:Int):Int:=xs.getD i.toNat 0
def pkV (xs:List V)(i:Int):V:=xs.getD i.toNat .non
def txs:List V:=[.str (Str.ofString ""),.str (Str.ofString "0"),.str (Str.ofString "7"),.str (Str.ofString "-1"),.str (Str.ofString "True"),.str (Str.ofString "None")]
def flt (way:Int)(s:FSt):Tg × FSt :=
 if way < 3 then (.f (.int (tk 10 (pk [3,1000,10 ^ 60] way) s).1),(tk 10 (pk [3,1000,10 ^ 60] way) s).2)
 else if way < 5 then (.f (.int (-(tk 10 (pk [9,10 ^ 60] (way - 3)) s).1)),(tk 10 (pk [9,10 ^ 60] (way - 3)) s).2)
 else if way=5 then (.f (pkV [.bl true,.bl false,.non] (tk 10 3 s).1),(tk 10 3 s).2)
 else (.f (pkV txs (tk 10 6 s).1),(tk 10 6 s).2)
def knd (way:Int)(gs:List Tg):Tg:=if way=7 then .l gs else if way=8 then .t gs else .d gs
section
variable {σ:St}{H:Hp}{Q:VK}{cs:List Nat}{te:TE}
end
section
variable {σ:St}{H:Hp}{Q:VK}{cs:List Nat}{te:TE}
end
end L2
set_option Elab.async false
set_option linter.all false
set_option maxRecDepth 100000
set_option maxHeartbeats 1000000
namespace L2
open PySem PySem.Spec PyProof.Rows PySem.W
end L2
set_option Elab.async false
set_option linter.all false
set_option maxRecDepth 100000
set_option maxHeartbeats 1000000
namespace L2
open PySem PySem.Spec PyProof.Rows PySem.W
section
variable {σ:St}{H:Hp}{Q:VK}{cs:List Nat}{te:TE}{K:PySem.W.Frag}
end
end L2
set_option Elab.async false
set_option linter.all false
set_option maxRecDepth 100000
set_option maxHeartbeats 1000000
namespace L2
open PySem PySem.Spec PyProof.Rows PySem.W
end L2
set_option Elab.async false
set_option linter.all false
set_option maxRecDepth 100000
set_option maxHeartbeats 1000000
namespace L2
open PySem PySem.Spec PyProof.Rows PySem.W
section
variable {prog:Program}{w:World}{A:Around}{E:Value -> Shared -> Prop}{s:Shared}
end
section
variable {prog:Program}{w:World}{d:Addr}{es:Array DictEntry}{ep:Nat}
end
end L2
set_option Elab.async false
set_option linter.all false
set_option maxRecDepth 100000
set_option maxHeartbeats 1000000
namespace L2
open PySem PySem.Spec PyProof.Rows PySem.W
section
variable {prog:Program}{w:World}{A:Around}{E:Value -> Shared -> Prop}{s:Shared}
end
end L2
set_option Elab.async false
set_option linter.all false
set_option maxRecDepth 100000
set_option maxHeartbeats 1000000
namespace L2
open PySem PySem.Spec PyProof.Rows PySem.W
section
variable {σ:St}{H:Hp}{Q:VK}{cs:List Nat}{te:TE}{K:PySem.W.Frag}
end
end L2
set_option Elab.async false
set_option linter.all false
set_option maxRecDepth 100000
set_option maxHeartbeats 1000000
namespace L2
open PySem PySem.Spec PyProof.Rows
section
variable {X:Cx}{e:Expr}{es:List Expr}{te:TE}{tj:Str -> TE}{pos:Pos}
def figI (i:Int):Str:=Str.ofString (toString i)
end
section
variable {X:Cx}
end
section
variable {X:Cx}
end
end L2
set_option Elab.async false
set_option linter.all false
set_option maxRecDepth 100000
set_option maxHeartbeats 1000000
namespace L2
open PySem PySem.Spec PyProof.Rows
section
variable {K:PySem.W.Frag}{σ:St}{H:Hp}{Q:VK}{cs:List Nat}{te:TE}
end
def fig (n:Nat):Str:=figI n
section
variable {K:PySem.W.Frag}{H:Hp}{Q:VK}
end
@[elab_as_elim] theorem absU {C:Hp -> Prop} {H H2:Hp} {p:Addr} {o:HO} (np:H p=none) (s:Same H H2) (k:∀ H',Same H H' -> H' p=some o -> C H'):C (upd H2 p o):=k _ (same_upd np s) upd_same
def stS (n:Nat)(l:List Str):Str:=Builtin.Str.glued "\n" (("in " ++ fig n) :: l)
end L2
set_option Elab.async false
set_option linter.all false
set_option maxRecDepth 100000
set_option maxHeartbeats 1000000
namespace L2
open PySem PySem.Spec PyProof.Rows
end L2
set_option Elab.async false
set_option linter.all false
set_option maxRecDepth 100000
set_option maxHeartbeats 1000000
namespace L2
open PySem PySem.Spec PyProof.Rows PySem.W
def tkey (S:List Int):List Key:=S.map Sum.inl
theorem tkey_kV (S:List Int):(tkey S).map kV=S.map V.int:=by
 unfold tkey
 rw [List.map_map]
 rfl
theorem tkey_inj {S S':List Int}(h:tkey S=tkey S'):S=S':=(List.map_inj_right (fun a b e=>by cases e; rfl)).mp h
def rDPT:V -> V -> V -> Hp -> (Hp -> Prop) -> Prop:=fun x y v H R=>∃ a b S kvs,x = .ref a /\ y = .ref b /\ H a=some (.dT kvs) /\ H b=some (.tup (S.map V.int)) /\ kvs.length < sizeLine /\ R (upd H a (.dT (putK kvs (tkey S) v)))
def sDPT (td ty tv:TE):TS:=fun D σ H=>tv σ H fun v H1=>td σ H1 fun x H2=>ty σ H2 fun y H3=>rDPT x y v H3 fun H4=>D.nx σ H4
def rDIT (neg:Bool):R2:=fun y x H Q=>∃ a b S kvs,x = .ref a /\ y = .ref b /\ H a=some (.dT kvs) /\ H b=some (.tup (S.map V.int)) /\ Q (.bl (if neg then !(valV kvs (tkey S)).isSome else (valV kvs (tkey S)).isSome)) H
def rDGT:R2:=fun x y H Q=>∃ a b S kvs,x = .ref a /\ y = .ref b /\ H a=some (.dT kvs) /\ H b=some (.tup (S.map V.int)) /\ ∃ v,valV kvs (tkey S)=some v /\ Q v H
section
variable {X:Cx}{o i e value:Expr}{pos pos' tpos:Pos}{td ty tv:TE}
theorem pe_dgT (hu:X.A.units+1 < cLine)(ho:PE X o td)(hi:PE X i ty)(hs:NoSl i):PE X (.Subscript o i pos) (tOp rDGT td ty):=by
 intro pins s σ H Q I h
 refine subD_of PySem.F.slot_dict_getitem.lookup hs (thn (ho pins s σ H _ I h) fun u s1 ⟨x,H1,I1,rx,q1⟩=>thn (hi pins s1 σ H1 _ I1 q1) fun iv s2 ⟨y,H2,I2,ry,q2⟩=>?_)
 obtain ⟨a,b,S,kvs,rfl,rfl,hk,hb,v,hv,q⟩:=q2
 obtain rfl:u=Value.ref a:=rx
 have g:DGet H2 a (.ref b) (some v):=by rw [← hv]; exact DGet.t hk (by rw [tkey_kV]; exact hb)
 exact ⟨dict_typeIs I2 g,d_getItem hu I2 g ry fun w' s3 I3 rw'=>⟨v,H2,I3,rw',q⟩⟩
theorem ps_dpT (hu:X.A.units+1 < cLine)(ho:PE X o td)(hi:PE X i ty)(hv:PE X value tv)(hs:swapsWith value (some (.Subscript o i pos')) pos.line X.env=pure false):PS X (.Assign [.Subscript o i pos'] value pos) (sDPT td ty tv):=by
 intro pins s σ H D I h
 refine wpAny_Assign_Subscript (thn (hv pins s σ H _ I h) fun r s1 ⟨v,H1,I1,rv,q1⟩=>thn (ho pins s1 σ H1 _ I1 q1) fun u s2 ⟨x,H2,I2,rx,q2⟩=>thn (hi pins s2 σ H2 _ I2 q2) fun iv s3 ⟨y,H3,I3,ry,q3⟩=>?_) hs
 obtain ⟨a,b,S,kvs,rfl,rfl,hk,hb,hz,q⟩:=q3
 obtain rfl:u=Value.ref a:=rx
 exact d_setItem hu I3 (DPut.t (v:=v) hk (by rw [tkey_kV]; exact hb) hz) ry rv fun s4 I4=>⟨σ,_,I4,q⟩
theorem op_dIT (hu:X.A.units+1 < cLine):OpR X (compareOp .In) (rDIT false):=by
 intro pins s σ H x y v u Q I rx ry h
 obtain ⟨a,b,S,kvs,rfl,rfl,hk,hb,q⟩:=h
 obtain rfl:u=Value.ref a:=ry
 exact d_in hu I (DGet.t hk (by rw [tkey_kV]; exact hb)) rx fun s' I'=>⟨.bl _,H,I',rfl,q⟩
end
section
variable {σ:St}{H:Hp}{Q:VK}{D:Ends}{a b:Addr}{v:V}{R:Hp -> Prop}
theorem w_sDPT {td ty tv:TE}:sDPT td ty tv D σ H=(tv σ H fun v H1=>td σ H1 fun x H2=>ty σ H2 fun y H3=>rDPT x y v H3 fun H4=>D.nx σ H4):=rfl
theorem w_dpT:rDPT (.ref a) (.ref b) v H R = ∃ S kvs,H a=some (.dT kvs) /\ H b=some (.tup (S.map V.int)) /\ kvs.length < sizeLine /\ R (upd H a (.dT (putK kvs (tkey S) v))) :=
 propext ⟨fun ⟨a',b',S,kvs,e1,e2,q⟩=>by cases e1; cases e2; exact ⟨S,kvs,q⟩,fun ⟨S,kvs,q⟩=>⟨a,b,S,kvs,rfl,rfl,q⟩⟩
theorem w_dIT {neg:Bool}:rDIT neg (.ref b) (.ref a) H Q = ∃ S kvs,H a=some (.dT kvs) /\ H b=some (.tup (S.map V.int)) /\ Q (.bl (if neg then !(valV kvs (tkey S)).isSome else (valV kvs (tkey S)).isSome)) H :=
 propext ⟨fun ⟨a',b',S,kvs,e1,e2,q⟩=>by cases e1; cases e2; exact ⟨S,kvs,q⟩,fun ⟨S,kvs,q⟩=>⟨a,b,S,kvs,rfl,rfl,q⟩⟩
theorem w_dgT:rDGT (.ref a) (.ref b) H Q = ∃ S kvs,H a=some (.dT kvs) /\ H b=some (.tup (S.map V.int)) /\ ∃ v,valV kvs (tkey S)=some v /\ Q v H :=
 propext ⟨fun ⟨a',b',S,kvs,e1,e2,q⟩=>by cases e1; cases e2; exact ⟨S,kvs,q⟩,fun ⟨S,kvs,q⟩=>⟨a,b,S,kvs,rfl,rfl,q⟩⟩
theorem w_dnT:tDNewT σ H Q = ∀ p,H p=none -> Q (.ref p) (upd H p (.dT [])):=rfl
end
end L2
set_option Elab.async false
set_option linter.all false
set_option maxRecDepth 100000
set_option maxHeartbeats 1000000
namespace L2
open PySem PySem.Spec PyProof.Rows PySem.W
def rEqE (K:PySem.W.Frag):R2:=fun x y H Q=>∃ p q xs,x = .ref p /\ y = .ref q /\ SqL K H p xs /\ SqL K H q [] /\ Q (.bl (decide (xs.length=0))) H
theorem op_eqE {X:Cx}{k:Nat}(hr:Room k X.A):OpR X (compareOp .Eq) (rEqE X.K):=by
 intro pins s σ H x y v u Q I rx ry h
 obtain ⟨p,q,xs,rfl,rfl,hp,hq,qq⟩:=h
 cases rx
 cases ry
 have hu:X.A.units < cLine:=by have:=hr.units; omega
 cases xs with
 | nil =>
  have h1:=is_lst (xs:=[]) hp rfl
  have h2:=is_lst (xs:=[]) hq rfl
  have:=(rcAt_D 50 _ _ (A:=X.A) (by rw [dep_l]; decide) (by have:=hr.units; omega) I h1 h2 rfl rfl).2 p rfl
  exact this X.prog X.w X.xe _ ⟨.bl _,H,I,rfl,qq⟩
 | cons x r =>
  obtain ⟨its,rv,pl,_⟩:=I.list hp
  obtain ⟨its',rv',pl',_⟩:=I.list hq
  have e1:its.toArray.size=r.length+1:=by rw [qM,← rv.length]; rfl
  have e2:its'.toArray.size=0:=by rw [qM,← rv'.length]; rfl
  have:=SeqAt.RcAt.lists_lengths (A:=X.A) pl.isList pl'.isList (by rw [bne_iff_ne]; omega) hu
  exact this X.prog X.w X.xe _ ⟨.bl _,H,I,rfl,qq⟩
theorem w_eqE {K:PySem.W.Frag}{p q:Addr}{H:Hp}{Q:VK}:rEqE K (.ref p) (.ref q) H Q = ∃ xs,SqL K H p xs /\ SqL K H q [] /\ Q (.bl (decide (xs.length=0))) H :=
 propext ⟨fun ⟨p',q',xs,e1,e2,h⟩=>by cases e1; cases e2; exact ⟨xs,h⟩,fun ⟨xs,h⟩=>⟨p,q,xs,rfl,rfl,h⟩⟩
end L2
set_option Elab.async false
set_option linter.all false
set_option maxRecDepth 100000
set_option maxHeartbeats 1000000
namespace L2
open PySem PySem.Spec PyProof.Rows PySem.W
end L2
set_option Elab.async false
set_option linter.all false
set_option maxRecDepth 100000
set_option maxHeartbeats 1000000
namespace L2
open PySem PySem.Spec PyProof.Rows PySem.W
end L2
set_option Elab.async false
set_option linter.all false
set_option maxRecDepth 100000
set_option maxHeartbeats 1000000
namespace L2
open PySem PySem.Spec PyProof.Rows PySem.W
end L2
set_option Elab.async false
set_option linter.all false
set_option maxRecDepth 100000
set_option maxHeartbeats 1000000
namespace L2
open PySem PySem.Spec PyProof.Rows PySem.W
theorem sg_mul {g s:Int}(h:g=1 \/ g = -1)(h':s=1 \/ s = -1):g * s=1 \/ g * s = -1:=by
 rcases h with e | e <;> rcases h' with e' | e' <;> rw [e,e'] <;> decide
section
variable {K:PySem.W.Frag}{σ:St}{H:Hp}{Q:VK}{cs:List Nat}{te:TE}
end
end L2
set_option Elab.async false
set_option linter.all false
set_option maxRecDepth 100000
set_option maxHeartbeats 1000000
namespace L2
open PySem PySem.Spec PyProof.Rows PySem.W
def rNeE (K:PySem.W.Frag):R2:=fun x y H Q=>∃ p q xs,x = .ref p /\ y = .ref q /\ SqL K H p xs /\ SqL K H q [] /\ Q (.bl (decide (xs.length ≠ 0))) H
theorem w_neE {K:PySem.W.Frag}{p q:Addr}{H:Hp}{Q:VK}:rNeE K (.ref p) (.ref q) H Q = ∃ xs,SqL K H p xs /\ SqL K H q [] /\ Q (.bl (decide (xs.length ≠ 0))) H :=
 propext ⟨fun ⟨p',q',xs,e1,e2,h⟩=>by cases e1; cases e2; exact ⟨xs,h⟩,fun ⟨xs,h⟩=>⟨p,q,xs,rfl,rfl,h⟩⟩
section
variable {K:PySem.W.Frag}{σ:St}{H:Hp}{Q:VK}{cs:List Nat}{tt:TT}
end
end L2
set_option Elab.async false
set_option linter.all false
set_option maxRecDepth 100000
set_option maxHeartbeats 1000000
namespace L2
open PySem PySem.Spec PyProof.Rows PySem.W
def tRevL (te:TE)(ts:TO):TE:=fun σ H Q=>te σ H fun x H1=>ts σ H1 fun st H2=>st=some (-1) /\ ∃ a xs,x = .ref a /\ H2 a=some (.lst xs) /\ ∀ p,H2 p=none -> Q (.ref p) (upd H2 p (.lst xs.reverse))
theorem w_revL {te:TE}{ts:TO}{σ:St}{H:Hp}{Q:VK}:tRevL te ts σ H Q=(te σ H fun x H1=>ts σ H1 fun st H2=>st=some (-1) /\ ∃ a xs,x = .ref a /\ H2 a=some (.lst xs) /\ ∀ p,H2 p=none -> Q (.ref p) (upd H2 p (.lst xs.reverse))):=rfl
theorem w_dget1 {td ty:TE}{σ:St}{H:Hp}{Q:VK}:tDGet1 td ty σ H Q=(td σ H fun x H1=>∃ a,x = .ref a /\ IsD H1 a /\ ty σ H1 fun y H2=>∃ o,DGet H2 a y o /\ Q (o.getD .non) H2):=rfl
end L2
set_option Elab.async false
set_option linter.all false
set_option maxRecDepth 100000
set_option maxHeartbeats 1000000
namespace L2
open PySem PySem.Spec PyProof.Rows PySem.W
section
variable {K:PySem.W.Frag}{σ:St}{H:Hp}{Q:VK}{cs:List Nat}{te:TE}
end
end L2
set_option Elab.async false
set_option linter.all false
set_option maxRecDepth 100000
set_option maxHeartbeats 1000000
namespace L2
open PySem PySem.Spec PyProof.Rows PySem.W
def mulR (c:Int)(fs:List Int):List Int:=fs.map fun x=>c * x
def Lead (fs:List Int):Prop:=∃ (i:Nat) (x:Int),fs[i]? = some x /\ 0 < x /\ ∀ j y,j < i -> fs[j]? = some y -> y=0
structure Frm (row fs:List Int) (k:Nat) (g:Int):Prop where
 sg:g=1 \/ g = -1
 eq:row=mulR (g * 2 ^ k) fs
 od:∃ x ∈ fs,x % 2=1
 ld:Lead fs
theorem mulR_len (c:Int)(fs:List Int):(mulR c fs).length=fs.length:=qC ..
theorem mulR_at {c:Int}{fs:List Int}{i:Nat}{x:Int}(h:fs[i]? = some x):(mulR c fs)[i]? = some (c * x):=by
 unfold mulR
 rw [qI,h]
 rfl
theorem mulR_mul (c d:Int)(fs:List Int):mulR c (mulR d fs)=mulR (c * d) fs:=by
 unfold mulR
 rw [List.map_map]
 exact List.map_congr_left fun x _=>(Int.mul_assoc c d x).symm
theorem mulR_one (fs:List Int):mulR 1 fs=fs:=by
 unfold mulR
 rw [show (fun x:Int=>1 * x)=id from funext fun x=>Int.one_mul x]
 exact List.map_id _
theorem pow_ne (k:Nat):(2:Int) ^ k ≠ 0:=by
 have:(0:Int) < 2 ^ k:=Int.pow_pos (by decide)
 omega
theorem mulR_inj {c:Int}(hc:c ≠ 0){fs gs:List Int}(h:mulR c fs=mulR c gs):fs=gs:=by
 have hl:fs.length=gs.length:=by have:=congrArg List.length h; rwa [mulR_len,mulR_len] at this
 refine List.ext_getElem? fun i=>?_
 cases e:fs[i]? with
 | none =>
  rw [List.getElem?_eq_none_iff] at e
  exact (List.getElem?_eq_none_iff.mpr (by omega)).symm
 | some x =>
  have hi:=(qB.mp e).1
  have e2:gs[i]? = some gs[i]:=qA (by omega)
  have h1:=mulR_at (c:=c) e
  rw [h,mulR_at e2] at h1
  rw [e2,Int.eq_of_mul_eq_mul_left hc (Option.some.inj h1)]
theorem frm_shift_le {fs gs:List Int}{k j:Nat}{g s:Int}(hg:g=1 \/ g = -1)(hs:s=1 \/ s = -1)(h:mulR (g * 2 ^ k) fs=mulR (s * 2 ^ j) gs)(ho:∃ x ∈ fs,x % 2=1):j <= k:=by
 refine Nat.not_lt.mp fun z=>?_
 obtain ⟨x,hx,ox⟩:=ho
 obtain ⟨i,hi⟩:=List.getElem?_of_mem hx
 have h1:=mulR_at (c:=g * 2 ^ k) hi
 have hl:fs.length=gs.length:=by have:=congrArg List.length h; rwa [mulR_len,mulR_len] at this
 have hil:=(qB.mp hi).1
 have e2:gs[i]? = some gs[i]:=qA (by omega)
 rw [h,mulR_at e2] at h1
 have h2:=Option.some.inj h1
 generalize gs[i]=y at h2
 obtain ⟨m,rfl⟩:∃ m,j=k+1+m:=⟨j - k - 1,by omega⟩
 have e3:s * 2 ^ (k+1+m) * y=2 ^ k * (2 * (s * 2 ^ m * y)):=by
  rw [Int.pow_add,Int.pow_succ]
  simp only [Int.mul_assoc,Int.mul_left_comm,Int.mul_comm]
 have e4:g * 2 ^ k * x=2 ^ k * (g * x):=by rw [Int.mul_comm g,Int.mul_assoc]
 rw [e3,e4] at h2
 have h3:=Int.eq_of_mul_eq_mul_left (pow_ne k) h2
 rcases hg with rfl | rfl <;> omega
theorem frm_uniq {row fs gs:List Int}{k j:Nat}{g s:Int}(h:Frm row fs k g)(h':Frm row gs j s):fs=gs /\ k=j /\ g=s:=by
 have e:mulR (g * 2 ^ k) fs=mulR (s * 2 ^ j) gs:=h.eq.symm.trans h'.eq
 have l1:=frm_shift_le h.sg h'.sg e h.od
 have l2:=frm_shift_le h'.sg h.sg e.symm h'.od
 have kj:k=j:=by omega
 subst kj
 have hl:fs.length=gs.length:=by have:=congrArg List.length e; rwa [mulR_len,mulR_len] at this
 have el:∀ i x y,fs[i]? = some x -> gs[i]? = some y -> g * x=s * y:=fun i x y hx hy=>by
  have h1:=mulR_at (c:=g * 2 ^ k) hx
  rw [e,mulR_at hy] at h1
  have h2:=Option.some.inj h1
  rw [Int.mul_comm s,Int.mul_comm g,Int.mul_assoc,Int.mul_assoc] at h2
  exact (Int.eq_of_mul_eq_mul_left (pow_ne k) h2).symm
 have gs':g=s:=by
  obtain ⟨i,x,hx,px,zx⟩:=h.ld
  obtain ⟨i',y,hy,py,zy⟩:=h'.ld
  have hi:=(qB.mp hx).1
  have hi':=(qB.mp hy).1
  have ii:i=i':=by
   rcases Nat.lt_trichotomy i i' with z | z | z
   ·have e2:gs[i]? = some gs[i]:=qA (by omega)
    have:=el i x _ hx e2
    rw [zy i _ z e2] at this
    rcases h.sg with r | r <;> rcases h'.sg with r' | r' <;> rw [r,r'] at this <;> omega
   ·exact z
   ·have e2:fs[i']? = some fs[i']:=qA (by omega)
    have:=el i' _ y e2 hy
    rw [zx i' _ z e2] at this
    rcases h.sg with r | r <;> rcases h'.sg with r' | r' <;> rw [r,r'] at this <;> omega
  subst ii
  have:=el i x y hx hy
  rcases h.sg with r | r <;> rcases h'.sg with r' | r' <;> rw [r,r'] at this ⊢ <;> omega
 refine ⟨?_,rfl,gs'⟩
 subst gs'
 refine mulR_inj ?_ e
 rcases h.sg with r | r <;> rw [r]
 ·rw [Int.one_mul]; exact pow_ne k
 ·rw [Int.neg_mul,Int.one_mul]
  have:=pow_ne k
  omega
theorem sg_sq {g:Int}(h:g=1 \/ g = -1):g * g=1:=by rcases h with rfl | rfl <;> rfl
theorem frm_mul {row fs:List Int}{k j:Nat}{g s:Int}(h:Frm row fs k g)(hs:s=1 \/ s = -1):Frm (mulR (s * 2 ^ j) row) fs (k+j) (s * g):=by
 refine ⟨sg_mul hs h.sg,?_,h.od,h.ld⟩
 rw [h.eq,mulR_mul,Int.pow_add]
 congr 1
 simp only [Int.mul_assoc,Int.mul_left_comm,Int.mul_comm]
theorem core_split {n:Int}{k:Nat}(hn:n ≠ 0)(hk:(k:Int) <= shN n):∃ m:Nat,shN n=((k+m:Nat):Int) /\ n / 2 ^ k=coreN n * 2 ^ m * sgN n /\ 2 ^ k * (n / 2 ^ k)=n:=by
 obtain ⟨_,_,k',e1,e2,_⟩:=core_props hn
 obtain ⟨m,rfl⟩:∃ m,k'=k+m:=⟨k' - k,by omega⟩
 have e3:n=2 ^ k * (coreN n * 2 ^ m * sgN n):=by
  rw [← Int.mul_assoc,← Int.mul_assoc,Int.mul_comm (2 ^ k) (coreN n),Int.mul_assoc (coreN n),← Int.pow_add,e2]
 have e4:n / 2 ^ k=coreN n * 2 ^ m * sgN n:=by
  have:=Int.mul_ediv_cancel_left (coreN n * 2 ^ m * sgN n) (pow_ne k)
  rwa [← e3] at this
 exact ⟨m,e1,e4,by rw [e4]; exact e3.symm⟩
theorem frm_of {row:List Int}{k:Nat}{g:Int}(hmin:∀ n ∈ row,n ≠ 0 -> (k:Int) <= shN n)(hat:∃ n ∈ row,n ≠ 0 /\ shN n=k)(hg:∃ (i:Nat) (n:Int),row[i]? = some n /\ n ≠ 0 /\ sgN n=g /\ ∀ (j:Nat) y,j < i -> row[j]? = some y -> y=0):Frm row (row.map fun n=>g * (n / 2 ^ k)) k g:=by
 obtain ⟨i,n,hi,n0,sg,hz⟩:=hg
 have hs:g=1 \/ g = -1:=by
  obtain ⟨_,_,k',e1,e2,e3,_⟩:=core_props n0
  rw [← sg]
  exact e3
 refine ⟨hs,?_,?_,i,g * (n / 2 ^ k),by rw [qI,hi]; rfl,?_,fun j y hj hy=>?_⟩
 ·unfold mulR
  rw [List.map_map]
  refine (List.map_id row).symm.trans (List.map_congr_left fun x hx=>?_)
  show x=g * 2 ^ k * (g * (x / 2 ^ k))
  have e:2 ^ k * (x / 2 ^ k)=x:=by
   by_cases z:x=0
   ·rw [z]; simp
   ·exact (core_split z (hmin x hx z)).choose_spec.2.2
  rw [Int.mul_comm g (2 ^ k),Int.mul_assoc,← Int.mul_assoc g g,sg_sq hs,Int.one_mul,e]
 ·obtain ⟨x,hx,x0,ex⟩:=hat
  obtain ⟨m,e1,e2,_⟩:=core_split x0 (by omega:(k:Int) <= shN x)
  have m0:m=0:=by omega
  subst m0
  obtain ⟨_,od,_,_,_,sx,_⟩:=core_props x0
  refine ⟨_,qP.mpr ⟨x,hx,rfl⟩,?_⟩
  rw [e2,Int.pow_zero,Int.mul_one]
  rcases hs with r | r <;> rcases sx with r' | r' <;> rw [r,r'] <;> omega
 ·obtain ⟨m,e1,e2,_⟩:=core_split n0 (hmin n (qE hi) n0)
  rw [e2,sg,Int.mul_comm (coreN n * 2 ^ m) g,← Int.mul_assoc,sg_sq hs,Int.one_mul]
  exact Int.mul_pos (core_props n0).1 (Int.pow_pos (by decide))
 ·rw [qI] at hy
  obtain ⟨x,hx,rfl⟩:=Option.map_eq_some_iff.mp hy
  rw [hz j x hj hx]
  simp
def coT (n:Int):List V:=[.int (coreN n),.int (shN n),.int (sgN n)]
def spForm:Sp:=fun vs H Q _=>∃ (r:Addr) (row:List Int),vs=[.ref r] /\ H r=some (.tup (row.map V.int)) /\ row.length <= 100 /\ (∀ x ∈ row,x.natAbs < 2 ^ 4000) /\
 ((∀ x ∈ row,x=0) -> ∀ t H',Same H H' -> H' t=some (.tup [.ref r,.int 0,.int 0]) -> Q (.ref t) H') /\
 ∀ t f fs (k:Nat) (g:Int) H',Same H H' -> H' t=some (.tup [.ref f,.int k,.int g]) -> H' f=some (.tup (fs.map V.int)) -> Frm row fs k g -> Q (.ref t) H'
section
variable {K:PySem.W.Frag}{σ:St}{H:Hp}{Q:VK}{cs:List Nat}{te:TE}{tt:TT}
theorem comp_tupF {row:List Int}{t:Addr}(pr:Int -> Bool)(f:Int -> List V)(ht:H t=some (.tup (row.map V.int)))(hz:row.length <= 1000)
  (hb1:∀ n H' (R:Bool -> Hp -> Prop),n ∈ row -> Same H H' -> R (pr n) H' -> tt (some (.int n) :: capV cs σ) H' R)
  (hb2:∀ n H' (R:VK),n ∈ row -> Same H H' -> (∀ p H5,Same H' H5 -> H5 p=some (.tup (f n)) -> R (.ref p) H5) -> te (some (.int n) :: capV cs σ) H' R)
  (hd:∀ acc ws H',H acc=none -> Same H H' -> H' acc=some (.lst ws) -> HTs f H' ws (row.filter pr) -> Q (.ref acc) H') :
  CompIt (Itt K t) 1 cs (gName 0) tt te σ H Q:=by
 have lm:(row.map V.int).length=row.length:=qC ..
 refine comp_any row.length (fun acc i ws H'=>Same H H' /\ H' acc=some (.lst ws) /\ ws.length <= i /\ HTs f H' ws ((row.take i).filter pr)) (le_size hz) ?_ ?_ ?_ ?_ ?_ ?_
 ·rintro acc i ws H' hi ⟨s,_⟩
  exact ⟨_,(row.map V.int)[i]'(by rw [lm]; exact hi),SqT.of (s _ _ ht),qA _⟩
 ·rintro acc ws H' ⟨s,_⟩
  exact ⟨_,SqT.of (s _ _ ht),by rw [lm]; exact Nat.le_refl _⟩
 ·intro acc ha
  exact ⟨same_new ha _,upd_same,Nat.le_refl _,hts_nil⟩
 ·rintro acc i ws H' ⟨s,ha,hl,_⟩
  exact ⟨ha,hl⟩
 ·rintro acc i ws H' ts x H2 N hn hi ⟨s,ha,hl,hy⟩ ⟨rfl,hx⟩ hts hN
  have hx:=hx _ (SqT.of (s _ _ ht))
  obtain ⟨t0,rfl⟩:∃ t0,ts=[t0]:=List.length_eq_one_iff.mp hts
  obtain ⟨n,hSi,rfl⟩:=map_at hx
  have hm:=qE hSi
  rw [w_gName]
  refine hb1 n _ _ hm s ?_
  cases hp:pr n with
  | true =>
   rw [if_pos rfl]
   refine hb2 n _ _ hm s fun p H5 s5 h5=>?_
   have ha5:=s5 _ _ ha
   refine ⟨ha5,hN _ [_] _ rfl ⟨same_upd hn (s.trans s5),upd_same,by rw [qF]; exact Nat.succ_le_succ hl,?_⟩⟩
   rw [List.take_succ,hSi,Option.toList_some,List.filter_append,List.filter_cons_of_pos hp,List.filter_nil]
   exact ((hy.same s5).snoc h5).chgL ha5 (Chg.upd _)
  | false =>
   rw [if_neg (by decide)]
   refine hN _ [_] _ rfl ⟨s,ha,Nat.le_succ_of_le hl,?_⟩
   rw [List.take_succ,hSi,Option.toList_some,List.filter_append,List.filter_cons_of_neg (by rw [hp]; decide),List.filter_nil,List.append_nil]
   exact hy
 ·rintro acc ws H' hn ⟨s,ha,hl,hy⟩
  rw [List.take_length] at hy
  exact hd acc ws H' hn s ha hy
theorem comp_hi {α:Type}{f:α -> List V}{v:Addr}{us:List V}{xs:List α}(h:α -> Int)(hv:H v=some (.lst us))(ht:HTs f H us xs)(hz:xs.length <= 1000)
  (hb:∀ t x H' (R:VK),x ∈ xs -> H t=some (.tup (f x)) -> Same H H' -> R (.int (h x)) H' -> te (some (.ref t) :: capV cs σ) H' R)
  (hd:∀ acc H',H acc=none -> Same H H' -> H' acc=some (.lst ((xs.map h).map V.int)) -> Q (.ref acc) H') :
  CompIt (Itl K v) 1 cs (gName 0) tYes te σ H Q:=by
 have ul:=ht.len
 refine comp_any us.length (fun acc i ys H'=>Same H H' /\ H' acc=some (.lst ys) /\ ys.length <= i /\ ys=((xs.take i).map h).map V.int) (le_size (by omega)) ?_ ?_ ?_ ?_ ?_ ?_
 ·rintro acc i ys H' hi ⟨s,_⟩
  exact ⟨us,us[i],SqL.of (s _ _ hv),qA hi⟩
 ·rintro acc ys H' ⟨s,_⟩
  exact ⟨us,SqL.of (s _ _ hv),Nat.le_refl _⟩
 ·intro acc ha
  exact ⟨same_new ha _,upd_same,Nat.le_refl _,rfl⟩
 ·rintro acc i ys H' ⟨s,ha,hl,_⟩
  exact ⟨ha,hl⟩
 ·rintro acc i ys H' ts x H2 N hn hi ⟨s,ha,hl,rfl⟩ ⟨rfl,hx⟩ hts hN
  have hx:=hx us (SqL.of (s _ _ hv))
  obtain ⟨t0,rfl⟩:∃ t0,ts=[t0]:=List.length_eq_one_iff.mp hts
  have hiL:i < xs.length:=by rw [← ul]; exact hi
  obtain ⟨t,hy1,hy2⟩:=ht.at_ i _ (qA hiL)
  have hSi:xs[i]? = some xs[i]:=qA hiL
  generalize xs[i]=S at hy2 hSi
  rw [hx] at hy1
  cases hy1
  rw [w_gName,w_yes,if_pos rfl]
  refine hb t S _ _ (qE hSi) hy2 s ?_
  refine ⟨ha,hN _ [_] _ rfl ⟨same_upd hn s,upd_same,by rw [qF]; exact Nat.succ_le_succ hl,?_⟩⟩
  rw [List.take_succ,hSi,Option.toList_some,List.map_append,List.map_append]
  rfl
 ·rintro acc ys H' hn ⟨s,ha,hl,rfl⟩
  rw [ul,List.take_length] at ha
  exact hd acc H' hn s ha
end
def fmV (g:Int)(k:Nat):V -> Option V
 | .int n=>some (.int (g * (n / 2 ^ k)))
 | _=>none
theorem fmV_map (g:Int)(k:Nat):∀ ns:List Int,(ns.map V.int).filterMap (fmV g k)=(ns.map fun n=>g * (n / 2 ^ k)).map V.int
 | []=>rfl
 | n :: r=>by
  rw [List.map_cons,List.map_cons,List.map_cons,List.filterMap_cons,fmV_map g k r]
  rfl
theorem first_nz {row:List Int}{n:Int}{r:List Int}(h:(row.filter fun x=>decide (x ≠ 0))=n :: r):∃ i:Nat,row[i]? = some n /\ n ≠ 0 /\ ∀ (j:Nat) y,j < i -> row[j]? = some y -> y=0:=by
 induction row with
 | nil=>cases h
 | cons x xs ih =>
  by_cases z:x=0
  ·rw [List.filter_cons_of_neg (by simp [z])] at h
   obtain ⟨i,a,b,c⟩:=ih h
   refine ⟨i+1,by rw [List.getElem?_cons_succ]; exact a,b,fun j y hj hy=>?_⟩
   cases j with
   | zero=>simp at hy; omega
   | succ j=>rw [List.getElem?_cons_succ] at hy; exact c j y (by omega) hy
  ·rw [List.filter_cons_of_pos (by simp [z])] at h
   cases h
   exact ⟨0,rfl,z,fun j y hj=>absurd hj (Nat.not_lt_zero _)⟩
theorem shV_div {n:Int}{k:Nat}(h:2 ^ k * (n / 2 ^ k)=n):shV n (-(k:Int)) = .int (n / 2 ^ k):=by
 unfold shV
 have e:(- -(k:Int)).toNat=k:=by omega
 by_cases z:k=0
 ·subst z
  rw [if_pos (by simp)]
  simp
 ·rw [if_neg (by omega),e,if_pos (by rw [Int.mul_comm]; exact h)]
theorem div_row {row:List Int}{k:Nat}(hmin:∀ n ∈ row,n ≠ 0 -> (k:Int) <= shN n):∀ n ∈ row,2 ^ k * (n / 2 ^ k)=n:=fun n hn=>by
 by_cases z:n=0
 ·rw [z]; simp
 ·exact (core_split z (hmin n hn z)).choose_spec.2.2
theorem sh_le {n:Int}(h:n ≠ 0)(hb:n.natAbs < 2 ^ 4000):∃ k:Nat,shN n=k /\ k <= 4000:=by
 obtain ⟨_,_,k,e1,_,_,_,hk,_⟩:=core_props h
 refine ⟨k,e1,Nat.not_lt.mp fun z=>?_⟩
 have:2 ^ 4000 <= 2 ^ k:=qN (by decide) (by omega)
 omega
end L2
set_option Elab.async false
set_option linter.all false
set_option maxRecDepth 100000
set_option maxHeartbeats 1000000
namespace L2
open PySem PySem.Spec PyProof.Rows PySem.W
theorem mv_pow {e c x:Int}{a m:Nat}(h:(a:Int)+e=m):mvI e (c * 2 ^ a * x)=c * 2 ^ m * x:=by
 unfold mvI
 by_cases z:0 <= e
 ·obtain ⟨j,rfl⟩:∃ j:Nat,e=j:=⟨e.toNat,by omega⟩
  have e1:(if 0 > (j:Int) then (0:Int) else j).toNat=j:=by rw [if_neg (by omega)]; omega
  have e2:(if 0 > 0 - (j:Int) then (0:Int) else 0 - j).toNat=0:=by split <;> omega
  rw [e1,e2,Int.pow_zero,Int.ediv_one,show m=a+j by omega,Int.pow_add]
  simp only [Int.mul_assoc,Int.mul_left_comm,Int.mul_comm]
 ·obtain ⟨j,rfl⟩:∃ j:Nat,e = -(j:Int):=⟨(-e).toNat,by omega⟩
  have e1:(if 0 > -(j:Int) then (0:Int) else -(j:Int)).toNat=0:=by split <;> omega
  have e2:(if 0 > 0 - -(j:Int) then (0:Int) else 0 - -(j:Int)).toNat=j:=by split <;> omega
  rw [e1,e2,Int.pow_zero,Int.mul_one,show a=j+m by omega,Int.pow_add]
  have:c * (2 ^ j * 2 ^ m) * x=2 ^ j * (c * 2 ^ m * x):=by simp only [Int.mul_assoc,Int.mul_left_comm,Int.mul_comm]
  rw [this,Int.mul_ediv_cancel_left _ (pow_ne j)]
theorem mv_stand {s sg g h x:Int}{k b m:Nat}(hh:h=1 \/ h = -1)(hm:s+k=m):sg * g * h * mvI (s+k - b) (h * 2 ^ b * x)=sg * mvI s (g * 2 ^ k * x):=by
 rw [mv_pow (m:=m) (by omega),mv_pow (m:=m) (by omega)]
 have:=sg_sq hh
 calc sg * g * h * (h * 2 ^ m * x)=sg * g * (h * h) * 2 ^ m * x:=by simp only [Int.mul_assoc]
  _=sg * (g * 2 ^ m * x):=by rw [this,Int.mul_one]; simp only [Int.mul_assoc]
theorem mvR_stand {s sg g h:Int}{k b m:Nat}(fs:List Int)(hh:h=1 \/ h = -1)(hm:s+k=m):(mulR (h * 2 ^ b) fs).map (fun y=>sg * g * h * mvI (s+k - b) y)=(mulR (g * 2 ^ k) fs).map fun y=>sg * mvI s y:=by
 unfold mulR
 rw [List.map_map,List.map_map]
 exact List.map_congr_left fun x _=>mv_stand hh hm
theorem frm_down {row fs:List Int}{k:Nat}{g s:Int}(F:Frm row fs k g)(hs:s < 0 -> ∀ x ∈ row,x % 2 ^ (-s).toNat=0):∃ m:Nat,s+k=m:=by
 by_cases z:0 <= s+k
 ·exact ⟨(s+k).toNat,by omega⟩
 ·exfalso
  obtain ⟨x,hx,ox⟩:=F.od
  have hm:g * 2 ^ k * x ∈ row:=by rw [F.eq]; exact qP.mpr ⟨x,hx,rfl⟩
  have h0:=hs (by omega) _ hm
  obtain ⟨j,hj⟩:∃ j:Nat,(-s).toNat=k+1+j:=⟨(-s).toNat - k - 1,by omega⟩
  rw [hj] at h0
  obtain ⟨c,hc⟩:=Int.dvd_of_emod_eq_zero h0
  have e:g * 2 ^ k * x=2 ^ k * (g * x):=by rw [Int.mul_comm g,Int.mul_assoc]
  have e2:(2:Int) ^ (k+1+j) * c=2 ^ k * (2 * (2 ^ j * c)):=by
   rw [Int.pow_add,Int.pow_succ]
   simp only [Int.mul_assoc]
  rw [e,e2] at hc
  have:=Int.eq_of_mul_eq_mul_left (pow_ne k) hc
  rcases F.sg with r | r <;> rw [r] at this <;> omega
def fmI (H:Hp)(v:V)(row:List Int):Prop:=∃ t,v = .ref t /\ (((∀ x ∈ row,x=0) /\ ∃ r,H t=some (.tup [.ref r,.int 0,.int 0])) \/ ∃ (f:Addr) (fs:List Int) (k:Nat) (g:Int),H t=some (.tup [.ref f,.int k,.int g]) /\ H f=some (.tup (fs.map V.int)) /\ Frm row fs k g)
theorem fmI.same {H H':Hp}{v:V}{row:List Int}(h:fmI H v row)(s:Same H H'):fmI H' v row:=by
 obtain ⟨t,e,⟨z,r,h1⟩ | ⟨f,fs,k,g,h1,h2,F⟩⟩:=h
 ·exact ⟨t,e,.inl ⟨z,r,s _ _ h1⟩⟩
 ·exact ⟨t,e,.inr ⟨f,fs,k,g,s _ _ h1,s _ _ h2,F⟩⟩
def FmL (H:Hp)(us:List V)(rows:List (List Int)):Prop:=us.length=rows.length /\ ∀ (i:Nat) u row,us[i]? = some u -> rows[i]? = some row -> fmI H u row
theorem FmL.same {H H':Hp}{us:List V}{rows:List (List Int)}(h:FmL H us rows)(s:Same H H'):FmL H' us rows:=⟨h.1,fun i u row a b=>(h.2 i u row a b).same s⟩
def Std (H:Hp)(kvs:List (List Key × V))(R':List (List Int)):Prop:=∀ (fs:List Int) v,valV kvs (tkey fs)=some v -> ∃ (t:Addr) (i b:Nat) (h:Int),v = .ref t /\ H t=some (.tup [.int i,.int b,.int h]) /\ (h=1 \/ h = -1) /\ R'[i]? = some (mulR (h * 2 ^ b) fs)
theorem Std.same {H H':Hp}{kvs:List (List Key × V)}{R':List (List Int)}(h:Std H kvs R')(s:Same H H'):Std H' kvs R':=fun fs v e=>by
 obtain ⟨t,i,b,g,e1,h1,h2,h3⟩:=h fs v e
 exact ⟨t,i,b,g,e1,s _ _ h1,h2,h3⟩
def spPartBy (K:PySem.W.Frag):Sp:=fun vs H Q _=>∃ (d l p:Addr) (kvs:List (List Key × V)) (us:List V) (rows R':List (List Int)) (a:Nat) (s sg:Int) (row:List Int),vs=[.ref d,.ref l,.ref p] /\ H d=some (.dT kvs) /\ Std H kvs R' /\ H l=some (.lst us) /\ FmL H us rows /\ H p=some (.tup [.int a,.int s,.int sg]) /\ rows[a]? = some row /\ (sg=0 \/ sg=1 \/ sg = -1) /\
 ((sg=0 \/ ∀ x ∈ row,x=0) -> ∀ t,SqT K H t [.int 0,.int 0,.int 0] -> Q (.ref t) H) /\
 ∀ (fs:List Int) (k:Nat) (g:Int),sg ≠ 0 -> Frm row fs k g -> (valV kvs (tkey fs)).isSome=true /\ ∀ (r:Addr) (i b:Nat) (h:Int) H',Same H H' -> H' r=some (.tup [.int i,.int (s+k - b),.int (sg * g * h)]) -> (h=1 \/ h = -1) -> R'[i]? = some (mulR (h * 2 ^ b) fs) -> Q (.ref r) H'
def spPts29:Sp:=fun vs H Q _=>∃ (x:Addr) (d:Wd),vs=[.ref x] /\ H x=some (.tup (wTup d)) /\ ∀ (l t u:Addr) H',Same H H' -> H' l=some (.lst [.ref t,.ref u]) -> H' t=some (.tup [.int d.a,.int d.s,.int 1]) -> H' u=some (.tup [.int d.b,.int d.t,.int (sgW d.w)]) -> Q (.ref l) H'
end L2
set_option Elab.async false
set_option linter.all false
set_option maxRecDepth 100000
set_option maxHeartbeats 1000000
namespace L2
open PySem PySem.Spec PyProof.Rows PySem.W
theorem std_put {H:Hp}{kvs:List (List Key × V)}{R' R'':List (List Int)}{fs:List Int}{t:Addr}{i b:Nat}{h:Int}(st:Std H kvs R')(ht:H t=some (.tup [.int i,.int b,.int h]))(hh:h=1 \/ h = -1)(hr:R''[i]? = some (mulR (h * 2 ^ b) fs))(hx:∀ (j:Nat) row,R'[j]? = some row -> R''[j]? = some row):Std H (putK kvs (tkey fs) (.ref t)) R'':=fun gs v e=>by
 rw [valV_put] at e
 by_cases z:tkey gs=tkey fs
 ·rw [if_pos z] at e
  cases e
  rw [tkey_inj z]
  exact ⟨t,i,b,h,rfl,ht,hh,hr⟩
 ·rw [if_neg z] at e
  obtain ⟨t',i',b',h',e1,h1,h2,h3⟩:=st gs v e
  exact ⟨t',i',b',h',e1,h1,h2,hx _ _ h3⟩
end L2
set_option Elab.async false
set_option linter.all false
set_option maxRecDepth 100000
set_option maxHeartbeats 1000000
namespace L2
open PySem PySem.Spec PyProof.Rows
section
variable {X:Cx}{pins:List (Addr × Obj)}{σ:St}{H:Hp}{s:Shared}
end
structure LS (H H':Hp):Prop where
 st:∀ b o,H b=some o -> (∀ xs,o ≠ .lst xs) -> H' b=some o
 ls:∀ b xs,H b=some (.lst xs) -> ∃ ys,H' b=some (.lst ys)
theorem Same.ls {H H':Hp}(s:Same H H'):LS H H':=⟨fun b o h _=>s _ _ h,fun b xs h=>⟨xs,s _ _ h⟩⟩
theorem Chg.ls {H H':Hp}{p:Addr}{xs ys:List V}(c:Chg p H H')(h:H p=some (.lst xs))(h':H' p=some (.lst ys)):LS H H' :=
 ⟨fun b o e n=>c _ _ (fun z=>n xs (by rw [z,h] at e; exact (Option.some.inj e).symm)) e,fun b zs e=>by
  by_cases z:b=p
  ·rw [z]; exact ⟨_,h'⟩
  ·exact ⟨_,c _ _ z e⟩⟩
theorem LS.seqT {K:PySem.W.Frag}{H H':Hp}{p:Addr}{xs:List V}(l:LS H H')(h:SqT K H p xs):SqT K H' p xs:=by
 rcases h with (h | ⟨o,h⟩) | h
 ·exact .inl (.inl (l.st _ _ h (fun _ z=>by cases z)))
 ·exact .inl (.inr ⟨o,l.st _ _ h (fun _ z=>by cases z)⟩)
 ·exact .inr h
end L2
set_option Elab.async false
set_option linter.all false
set_option maxRecDepth 100000
set_option maxHeartbeats 1000000
namespace L2
open PySem PySem.Spec PyProof.Rows PySem.W
theorem rowsW_dk {n:Nat}{ds:List Wd}{k:Nat}{d:Wd}(h:ds[k]? = some d)(ha:d.a < n+k)(hb:d.b < n+k):(rowsW n ds).getD (n+k) []=rowD (rowsW n ds) d:=by
 have hk:=(qB.mp h).1
 have e:(rowsW n (ds.take (k+1)))[n+k]? = some (rowD (rowsW n (ds.take k)) d):=by
  rw [rowsW_take h,qG (by rw [rowsW_len,qO]; omega),rowsW_len,qO,show n+k - (n+min k ds.length)=0 by omega]
  rfl
 have e2:=rowsW_pre n (ds.take (k+1)) (ds.drop (k+1)) e
 rw [List.take_append_drop] at e2
 rw [getD_of e2]
 unfold rowD
 rw [rowsW_takeD (by omega) ha,rowsW_takeD (by omega) hb]
section
variable {n:Nat}{ds:List Wd}{gs:List Go}{bs:List Bool}
end
structure BW (n:Nat) (ds:List Wd) (gs:List Go):Prop where
 f:FW4 n ds gs
 sd:∀ d ∈ ds,-100 <= d.s /\ d.s <= 100 /\ -100 <= d.t /\ d.t <= 100
 sg:∀ g ∈ gs,-100 <= g.sh /\ g.sh <= 100
 rb:RB 3000 (rowsW n ds)
section
variable {n:Nat}{ds:List Wd}{gs:List Go}{bs:List Bool}
end
def BareP (n:Nat)(es:List Wd):Prop:=(∀ j,j < n+es.length -> ∃ fs b h,Frm ((rowsW n es).getD j []) fs b h) /\ ∀ i j fs b h b' h',i < n+es.length -> j < n+es.length -> Frm ((rowsW n es).getD i []) fs b h -> Frm ((rowsW n es).getD j []) fs b' h' -> i=j
theorem frm_nz {row fs:List Int}{k:Nat}{g:Int}(F:Frm row fs k g):¬ ∀ x ∈ row,x=0:=fun z=>by
 obtain ⟨x,hx,ox⟩:=F.od
 have:=z (g * 2 ^ k * x) (by rw [F.eq]; exact qP.mpr ⟨x,hx,rfl⟩)
 have pk:=pow_ne k
 rcases F.sg with r | r <;> rw [r] at this
 ·rw [Int.one_mul] at this
  rcases Int.mul_eq_zero.mp this with y | y
  ·exact pk y
  ·omega
 ·rw [Int.neg_one_mul,Int.neg_mul] at this
  rcases Int.mul_eq_zero.mp (Int.neg_eq_zero.mp this) with y | y
  ·exact pk y
  ·omega
theorem frm_k {row fs:List Int}{k:Nat}{g:Int}(F:Frm row fs k g){b:Nat}(hb:∀ x ∈ row,x.natAbs <= 2 ^ b):k <= b:=by
 obtain ⟨x,hx,ox⟩:=F.od
 have h:=hb (g * 2 ^ k * x) (by rw [F.eq]; exact qP.mpr ⟨x,hx,rfl⟩)
 have e:(g * 2 ^ k * x).natAbs=2 ^ k * x.natAbs:=by
  rw [Int.natAbs_mul,Int.natAbs_mul,Int.natAbs_pow]
  rcases F.sg with r | r <;> rw [r] <;> simp
 rw [e] at h
 have x1:1 <= x.natAbs:=by omega
 have h2:2 ^ k <= 2 ^ b:=Nat.le_trans (Nat.le_mul_of_pos_right _ x1) h
 exact (Nat.pow_le_pow_iff_right (by decide)).mp h2
theorem unit_at {n i:Nat}(hi:i < n):(unitRow n i)[i]? = some 1:=by
 unfold unitRow
 rw [qI,List.getElem?_range hi]
 show some (if i=i then (1:Int) else 0)=some 1
 rw [if_pos rfl]
theorem unit_off {n i j:Nat}{y:Int}(h:(unitRow n i)[j]? = some y)(hj:j ≠ i):y=0:=by
 unfold unitRow at h
 rw [qI] at h
 obtain ⟨k,hk,rfl⟩:=Option.map_eq_some_iff.mp h
 have:k=j:=by
  have:=(qB.mp hk).2
  rw [List.getElem_range] at this
  exact this.symm
 rw [if_neg (by omega)]
theorem frm_unit {n i:Nat}(hi:i < n):Frm (unitRow n i) (unitRow n i) 0 1:=by
 refine ⟨.inl rfl,by rw [Int.pow_zero,Int.mul_one,mulR_one],⟨1,qE (unit_at hi),by decide⟩,i,1,unit_at hi,by decide,fun j y hj hy=>unit_off hy (by omega)⟩
theorem unit_inj {n i j:Nat}(hi:i < n)(h:unitRow n i=unitRow n j):i=j:=Classical.byContradiction fun z=>by
 have:=unit_at hi
 rw [h] at this
 have:=unit_off this z
 omega
structure Pst (n:Nat) (R R':List (List Int)) (a:Nat) (s sg:Int) (p:Go):Prop where
 lt:p.th < R'.length
 sn:p.sg=1 \/ p.sg = -1
 sh:Sh4 p.sh (R'.getD p.th [])
 eq:(R'.getD p.th []).map (fun y=>p.sg * mvI p.sh y)=(R.getD a []).map fun y=>sg * mvI s y
theorem zip_map {α:Type}(f:Int -> Int -> α)(u v:Int -> Int)(X Y:List Int):List.zipWith (fun x y=>f (u x) (v y)) X Y=List.zipWith f (X.map u) (Y.map v):=by
 rw [List.zipWith_map]
theorem rowD_zip (R:List (List Int))(d:Wd):rowD R d=List.zipWith (fun x y=>x+y) ((R.getD d.a []).map (mvI d.s)) ((R.getD d.b []).map fun y=>sgW d.w * mvI d.t y):=by
 unfold rowD
 rw [← zip_map]
theorem mulR_zip (c:Int)(X Y:List Int):mulR c (List.zipWith (fun x y=>x+y) X Y)=List.zipWith (fun x y=>x+y) (X.map fun x=>c * x) (Y.map fun y=>c * y):=by
 unfold mulR
 rw [List.map_zipWith,← zip_map]
 congr 1
 funext x y
 exact Int.mul_add c x y
theorem zip_comm (X Y:List Int):List.zipWith (fun x y:Int=>x+y) X Y=List.zipWith (fun x y=>x+y) Y X:=by
 rw [List.zipWith_comm]
 congr 1
 funext a b
 exact Int.add_comm b a
theorem rowD_G {R':List (List Int)}{p q:Go}(hp:p.sg=1 \/ p.sg = -1)(hq:q.sg=1 \/ q.sg = -1):rowD R' (deedG p q)=mulR (signG p q) (List.zipWith (fun x y=>x+y) ((R'.getD p.th []).map fun y=>p.sg * mvI p.sh y) ((R'.getD q.th []).map fun y=>q.sg * mvI q.sh y)):=by
 have l1:sgW (Str.ofString "sum")=1:=by decide
 have l2:sgW (Str.ofString "less") = -1:=by decide
 have one:∀ s:Int,(fun y:Int=>1 * mvI s y)=mvI s:=fun s=>funext fun y=>Int.one_mul _
 have mm:∀ s:Int,(fun x:Int=>-1 * (-1 * mvI s x))=mvI s:=fun s=>funext fun y=>by omega
 unfold deedG signG
 rcases hp with z | z <;> rcases hq with y | y <;> rw [z,y]
 ·rw [if_pos rfl,if_pos rfl,mulR_one,rowD_zip]
  simp only [l1,one]
 ·rw [if_neg (by decide),if_pos rfl,if_neg (by decide),mulR_one,rowD_zip]
  simp only [l2,one]
 ·rw [if_neg (by decide),if_neg (by decide),if_neg (by decide),mulR_one,rowD_zip,zip_comm]
  simp only [l2,one]
 ·rw [if_pos rfl,if_pos rfl,mulR_zip,rowD_zip,List.map_map,List.map_map]
  simp only [l1,one,Function.comp_def,mm]
theorem signG_or {p q:Go}(hp:p.sg=1 \/ p.sg = -1):signG p q=1 \/ signG p q = -1:=by
 unfold signG
 split
 ·exact hp
 ·exact .inl rfl
theorem deedG_parts (p q:Go):((deedG p q).w = "sum" \/ (deedG p q).w = "less") /\ (((deedG p q).a=p.th /\ (deedG p q).s=p.sh /\ (deedG p q).b=q.th /\ (deedG p q).t=q.sh) \/ ((deedG p q).a=q.th /\ (deedG p q).s=q.sh /\ (deedG p q).b=p.th /\ (deedG p q).t=p.sh)):=by
 unfold deedG
 split
 ·exact ⟨.inl rfl,.inl ⟨rfl,rfl,rfl,rfl⟩⟩
 ·split
  ·exact ⟨.inr rfl,.inl ⟨rfl,rfl,rfl,rfl⟩⟩
  ·exact ⟨.inr rfl,.inr ⟨rfl,rfl,rfl,rfl⟩⟩
theorem new_row {n:Nat}{R R':List (List Int)}{d:Wd}{p q:Go}(hp:Pst n R R' d.a d.s 1 p)(hq:Pst n R R' d.b d.t (sgW d.w) q):rowD R' (deedG p q)=mulR (signG p q) (rowD R d):=by
 rw [rowD_G hp.sn hq.sn,hp.eq,hq.eq,rowD_zip]
 have:(fun y:Int=>1 * mvI d.s y)=mvI d.s:=funext fun y=>Int.one_mul _
 rw [this]
structure Mrg (n:Nat) (R:List (List Int)) (i:Nat) (kvs:List (List Key × V)) (es:List Wd):Prop where
 le:es.length <= i - n
 dk:∀ (k:Nat) (d:Wd),es[k]? = some d -> d.a < n+k /\ d.b < n+k /\ (d.w = "sum" \/ d.w = "less") /\ Sh4 d.s ((rowsW n es).getD d.a []) /\ Sh4 d.t ((rowsW n es).getD d.b [])
 rw_:∀ j,n <= j -> j < n+es.length -> ∃ m c,m < i /\ m < R.length /\ (c=1 \/ c = -1) /\ (rowsW n es).getD j []=mulR c (R.getD m [])
 kd:∀ j,n <= j -> j < n+es.length -> ∃ fs b h,Frm ((rowsW n es).getD j []) fs b h /\ (valV kvs (tkey fs)).isSome=true
 un:∀ i j fs b h b' h',i < n+es.length -> j < n+es.length -> Frm ((rowsW n es).getD i []) fs b h -> Frm ((rowsW n es).getD j []) fs b' h' -> i=j
 cv:∀ j,j < i -> ∀ fs k g,Frm (R.getD j []) fs k g -> (valV kvs (tkey fs)).isSome=true
section
variable {n i:Nat}{R:List (List Int)}{kvs:List (List Key × V)}{es:List Wd}
theorem mrg_zero:Mrg n R 0 kvs []:=⟨Nat.zero_le _,(fun k d h=>by cases h),(fun j h1 h2=>by simp only [List.length_nil] at h2; omega),(fun j h1 h2=>by simp only [List.length_nil] at h2; omega),fun i j fs b h b' h' hi hj f1 f2=>by
 simp only [List.length_nil,Nat.add_zero] at hi hj
 rw [rowsW_unit hi] at f1
 rw [rowsW_unit hj] at f2
 have e1:=(frm_uniq f1 (frm_unit hi)).1
 have e2:=(frm_uniq f2 (frm_unit hj)).1
 exact unit_inj hi (e1.symm.trans e2),fun j hj=>absurd hj (Nat.not_lt_zero _)⟩
theorem Mrg.skip (M:Mrg n R i kvs es)(h:∀ fs k g,Frm (R.getD i []) fs k g -> (valV kvs (tkey fs)).isSome=true):Mrg n R (i+1) kvs es :=
 ⟨by have:=M.le; omega,M.dk,fun j h1 h2=>by obtain ⟨m,c,a1,a2⟩:=M.rw_ j h1 h2; exact ⟨m,c,by omega,a2⟩,M.kd,M.un,fun j hj fs k g F=>by
  rcases Nat.lt_or_ge j i with z | z
  ·exact M.cv j z fs k g F
  ·rw [show j=i by omega] at F
   exact h fs k g F⟩
theorem some_put {kvs:List (List Key × V)}{fs gs:List Int}{v:V}:(valV (putK kvs (tkey fs) v) (tkey gs)).isSome=true ↔ (gs=fs \/ (valV kvs (tkey gs)).isSome=true):=by
 rw [valV_put]
 by_cases z:tkey gs=tkey fs
 ·rw [if_pos z]
  exact ⟨fun _=>.inl (tkey_inj z),fun _=>rfl⟩
 ·rw [if_neg z]
  exact ⟨.inr,fun h=>h.resolve_left fun y=>z (by rw [y])⟩
theorem Mrg.inp {fs:List Int}{k:Nat}{g:Int}{v:V}(M:Mrg n R i kvs es)(F:Frm (R.getD i []) fs k g):Mrg n R (i+1) (putK kvs (tkey fs) v) es :=
 ⟨by have:=M.le; omega,M.dk,fun j h1 h2=>by obtain ⟨m,c,a1,a2⟩:=M.rw_ j h1 h2; exact ⟨m,c,by omega,a2⟩,fun j h1 h2=>by
  obtain ⟨fs',b,h,F',s⟩:=M.kd j h1 h2
  exact ⟨fs',b,h,F',some_put.mpr (.inr s)⟩,M.un,fun j hj fs' k' g' F'=>by
  rcases Nat.lt_or_ge j i with z | z
  ·exact some_put.mpr (.inr (M.cv j z fs' k' g' F'))
  ·rw [show j=i by omega] at F'
   exact some_put.mpr (.inl (frm_uniq F' F).1)⟩
theorem Mrg.deed {fs:List Int}{k:Nat}{g:Int}{v:V}{d:Wd}{p q:Go}(M:Mrg n R i kvs es)(F:Frm (R.getD i []) fs k g)(hn:n <= i)(hi:i < R.length)(hu:∀ j,j < n -> R.getD j []=unitRow n j)(hno:(valV kvs (tkey fs)).isSome=false)(hd:R.getD i []=rowD R d)(hp:Pst n R (rowsW n es) d.a d.s 1 p)(hq:Pst n R (rowsW n es) d.b d.t (sgW d.w) q) :
  Mrg n R (i+1) (putK kvs (tkey fs) v) (es ++ [deedG p q]) /\ (rowsW n (es ++ [deedG p q]))[n+es.length]? = some (mulR (g * signG p q * 2 ^ k) fs):=by
 have hs:=signG_or (q:=q) hp.sn
 have er:rowD (rowsW n es) (deedG p q)=mulR (signG p q) (R.getD i []):=by rw [hd,new_row hp hq]
 have lr:=rowsW_len n es
 have old:∀ j,j < n+es.length -> (rowsW n (es ++ [deedG p q])).getD j []=(rowsW n es).getD j []:=fun j hj=>by
  rw [rowsW_snoc,qD,qH (by rw [lr]; exact hj),← qD]
 have neu:(rowsW n (es ++ [deedG p q]))[n+es.length]? = some (rowD (rowsW n es) (deedG p q)):=by
  rw [rowsW_snoc,qG (by rw [lr]; exact Nat.le_refl _),lr,Nat.sub_self]
  rfl
 have neg:(rowsW n (es ++ [deedG p q])).getD (n+es.length) []=mulR (signG p q) (R.getD i []):=by rw [getD_of neu,er]
 have Fn:Frm ((rowsW n (es ++ [deedG p q])).getD (n+es.length) []) fs k (signG p q * g):=by
  rw [neg]
  have:=frm_mul (j:=0) F hs
  rw [Int.pow_zero,Int.mul_one,Nat.add_zero] at this
  exact this
 have len:(es ++ [deedG p q]).length=es.length+1:=by rw [qF]; rfl
 have fresh:∀ j,j < n+es.length -> ∀ b h,¬ Frm ((rowsW n es).getD j []) fs b h:=fun j hj b h F'=>by
  rcases Nat.lt_or_ge j n with z | z
  ·rw [rowsW_unit z,← hu j z] at F'
   have:=M.cv j (by omega) fs b h F'
   rw [hno] at this
   cases this
  ·obtain ⟨fs',b',h',F'',s⟩:=M.kd j z hj
   rw [(frm_uniq F'' F').1,hno] at s
   cases s
 refine ⟨⟨by rw [len]; have:=M.le; omega,fun k' d' hk=>?_,fun j h1 h2=>?_,fun j h1 h2=>?_,fun a b' fs' b h b'' h'' ha hb f1 f2=>?_,fun j hj fs' k' g' F'=>?_⟩,?_⟩
 ·rcases get_snoc hk with ⟨kl,z⟩ | ⟨kl,rfl⟩
  ·obtain ⟨a1,a2,a3,a4,a5⟩:=M.dk k' d' z
   rw [old _ (by omega),old _ (by omega)]
   exact ⟨a1,a2,a3,a4,a5⟩
  ·have lp:p.th < n+es.length:=by have:=hp.lt; omega
   have lq:q.th < n+es.length:=by have:=hq.lt; omega
   have sp:=hp.sh
   have sq:=hq.sh
   rw [← old _ lp] at sp
   rw [← old _ lq] at sq
   obtain ⟨w1,⟨c1,c2,c3,c4⟩ | ⟨c1,c2,c3,c4⟩⟩:=deedG_parts p q
   ·rw [c1,c2,c3,c4]
    exact ⟨by omega,by omega,w1,sp,sq⟩
   ·rw [c1,c2,c3,c4]
    exact ⟨by omega,by omega,w1,sq,sp⟩
 ·rw [len] at h2
  rcases Nat.lt_or_ge j (n+es.length) with z | z
  ·obtain ⟨m,c,a1,a2,a3,a4⟩:=M.rw_ j h1 z
   exact ⟨m,c,by omega,a2,a3,by rw [old j z]; exact a4⟩
  ·rw [show j=n+es.length by omega]
   exact ⟨i,signG p q,by omega,hi,hs,neg⟩
 ·rw [len] at h2
  rcases Nat.lt_or_ge j (n+es.length) with z | z
  ·obtain ⟨fs',b,h,F',s⟩:=M.kd j h1 z
   exact ⟨fs',b,h,by rw [old j z]; exact F',some_put.mpr (.inr s)⟩
  ·rw [show j=n+es.length by omega]
   exact ⟨fs,k,_,Fn,some_put.mpr (.inl rfl)⟩
 ·rw [len] at ha hb
  rcases Nat.lt_or_ge a (n+es.length) with z | z <;> rcases Nat.lt_or_ge b' (n+es.length) with y | y
  ·rw [old a z] at f1
   rw [old b' y] at f2
   exact M.un a b' fs' b h b'' h'' z y f1 f2
  ·rw [show b'=n+es.length by omega] at f2
   rw [old a z,(frm_uniq f2 Fn).1] at f1
   exact (fresh a z _ _ f1).elim
  ·rw [show a=n+es.length by omega] at f1
   rw [old b' y,(frm_uniq f1 Fn).1] at f2
   exact (fresh b' y _ _ f2).elim
  ·omega
 ·rcases Nat.lt_or_ge j i with z | z
  ·exact some_put.mpr (.inr (M.cv j z fs' k' g' F'))
  ·rw [show j=i by omega] at F'
   exact some_put.mpr (.inl (frm_uniq F' F).1)
 ·rw [neu,er,F.eq,mulR_mul]
  congr 2
  rw [Int.mul_comm g (signG p q),Int.mul_assoc]
def GoM (R R':List (List Int))(g g':Go):Prop:=((g.sg=0 \/ ∀ x ∈ R.getD g.th [],x=0) /\ g'=⟨0,0,0⟩) \/ (g.sg ≠ 0 /\ Pst 0 R R' g.th g.sh g.sg g')
theorem zero_map {l:List Int}{c s:Int}(h:c=0 \/ ∀ x ∈ l,x=0):l.map (fun y=>c * mvI s y)=l.map fun _=>0:=List.map_congr_left fun x hx=>by
 rcases h with z | z
 ·rw [z,Int.zero_mul]
 ·rw [z x hx,mvI_0,Int.mul_zero]
theorem const_map {l m:List Int}(h:l.length=m.length):l.map (fun _=>(0:Int))=m.map fun _=>0:=by
 rw [List.map_const',List.map_const',h]
theorem mul1_nat {c x:Int}(h:c=1 \/ c = -1):(c * x).natAbs=x.natAbs:=by
 rcases h with z | z <;> rw [z] <;> simp
end
end L2
set_option Elab.async false
set_option linter.all false
set_option maxRecDepth 100000
set_option maxHeartbeats 1000000
namespace L2
open PySem PySem.Spec PyProof.Rows PySem.W
section
variable {K:PySem.W.Frag}{σ:St}{H:Hp}{Q:VK}{cs:List Nat}{te:TE}
theorem comp_goalsTK {gl:Addr}{os:List V}{gs:List Go}(hl:H gl=some (.lst os))(hg:HKs K gTp H os gs)(hz:gs.length <= 1000){β:Type}(F:β -> List V)(h:Go -> β)
  (hb:∀ g H' (R:VK),g ∈ gs -> Same H H' -> (∀ r,H' r=none -> R (.ref r) (upd H' r (.tup (F (h g))))) -> te ([some (.int (g.th:Int)),some (.int g.sh),some (.int g.sg)] ++ capV cs σ) H' R)
  (hd:∀ acc ys H',H acc=none -> Same H H' -> H' acc=some (.lst ys) -> HTs F H' ys (gs.map h) -> Q (.ref acc) H') :
  CompIt (Itl K gl) 3 cs (gTupK K 3 (gCons (gName 0) (gCons (gName 1) (gCons (gName 2) gNil)))) tYes te σ H Q:=by
 refine comp_any gs.length (fun acc i ws H'=>Same H H' /\ H' acc=some (.lst ws) /\ HTs F H' ws ((gs.take i).map h)) (le_size hz) ?_ ?_ ?_ ?_ ?_ ?_
 ·rintro acc i ws H' hi ⟨s,_,_⟩
  exact ⟨os,os[i]'(by rw [hg.len]; exact hi),SqL.of (s _ _ hl),qA _⟩
 ·rintro acc ws H' ⟨s,_,_⟩
  exact ⟨os,SqL.of (s _ _ hl),by rw [hg.len]; exact Nat.le_refl _⟩
 ·intro acc ha
  exact ⟨same_new ha _,upd_same,hts_nil⟩
 ·rintro acc i ws H' ⟨s,ha,ht⟩
  exact ⟨ha,by rw [ht.len,qC,qO]; omega⟩
 ·rintro acc i ws H' ts x H2 N hn hi ⟨s,ha,ht⟩ y hts hN
  obtain ⟨e,hx0⟩:=y
  have hx:=hx0 os (SqL.of (s _ _ hl))
  clear hx0
  subst e
  obtain ⟨p,hp1,hp2⟩:=hg.at_ i _ (qA hi)
  have hgi:gs[i]? = some gs[i]:=qA hi
  have hgm:gs[i] ∈ gs:=List.getElem_mem hi
  generalize gs[i]=g at hp2 hgi hgm
  rw [hx] at hp1
  cases hp1
  obtain ⟨t0,t1,t2,rfl⟩:∃ t0 t1 t2,ts=[t0,t1,t2]:=by
   match ts,hts with
   | [a,b,c],_=>exact ⟨a,b,c,rfl⟩
  have hp3:=s.seqT hp2
  unfold gTp at hp3
  rw [w_gTupK]
  refine ⟨_,hp3,rfl,?_⟩
  rw [w_gCons,w_gName,w_gCons,w_gName,w_gCons,w_gName,w_gNil,w_yes,if_pos rfl]
  refine hb g _ _ hgm s fun r hr=>?_
  have sr:=same_new hr (.tup (F (h g)))
  have ha5:=sr _ _ ha
  have tk:(gs.take (i+1)).map h=(gs.take i).map h ++ [h g]:=by rw [List.take_add_one,hgi,List.map_append]; rfl
  refine ⟨ha5,hN _ [_,_,_] _ rfl ⟨same_upd hn (s.trans sr),upd_same,?_⟩⟩
  rw [tk]
  exact ((ht.same sr).chgL ha5 (Chg.upd _)).snoc (by rw [upd_ne (ne_of_none ha hr).symm,upd_same])
 ·rintro acc ws H' hn ⟨s,ha,ht⟩
  rw [List.take_length] at ht
  exact hd acc ws H' hn s ha ht
theorem comp_rel {α:Type}{f:α -> List V}{Rl:Hp -> V -> α -> Prop}{v:Addr}{us:List V}{xs:List α}(mono:∀ H H' u x,Rl H u x -> LS H H' -> Rl H' u x)(hv:H v=some (.lst us))(ht:HTs f H us xs)(hz:xs.length <= 1000)
  (hb:∀ (i:Nat) t x H' (R:VK),xs[i]? = some x -> H' t=some (.tup (f x)) -> Same H H' -> (∀ u H5,Same H' H5 -> Rl H5 u x -> R u H5) -> te (some (.ref t) :: capV cs σ) H' R)
  (hd:∀ acc ws H',H acc=none -> Same H H' -> H' acc=some (.lst ws) -> ws.length=xs.length -> (∀ (i:Nat) u x,ws[i]? = some u -> xs[i]? = some x -> Rl H' u x) -> Q (.ref acc) H') :
  CompIt (Itl K v) 1 cs (gName 0) tYes te σ H Q:=by
 have ul:=ht.len
 refine comp_any us.length (fun acc i ys H'=>Same H H' /\ H' acc=some (.lst ys) /\ ys.length=i /\ ∀ (j:Nat) u x,ys[j]? = some u -> xs[j]? = some x -> Rl H' u x) (le_size (by omega)) ?_ ?_ ?_ ?_ ?_ ?_
 ·rintro acc i ys H' hi ⟨s,_⟩
  exact ⟨us,us[i],SqL.of (s _ _ hv),qA hi⟩
 ·rintro acc ys H' ⟨s,_⟩
  exact ⟨us,SqL.of (s _ _ hv),Nat.le_refl _⟩
 ·intro acc ha
  exact ⟨same_new ha _,upd_same,rfl,fun j u x h=>by cases h⟩
 ·rintro acc i ys H' ⟨s,ha,hl,_⟩
  exact ⟨ha,Nat.le_of_eq hl⟩
 ·rintro acc i ys H' ts x H2 N hn hi ⟨s,ha,hl,hy⟩ ⟨rfl,hx⟩ hts hN
  have hx:=hx us (SqL.of (s _ _ hv))
  obtain ⟨t0,rfl⟩:∃ t0,ts=[t0]:=List.length_eq_one_iff.mp hts
  have hiL:i < xs.length:=by rw [← ul]; exact hi
  obtain ⟨t,hy1,hy2⟩:=ht.at_ i _ (qA hiL)
  have hSi:xs[i]? = some xs[i]:=qA hiL
  generalize xs[i]=S at hy2 hSi
  rw [hx] at hy1
  cases hy1
  rw [w_gName,w_yes,if_pos rfl]
  refine hb i t S _ _ hSi (s _ _ hy2) s fun u H5 s5 h5=>?_
  have ha5:=s5 _ _ ha
  have L:LS H5 (upd H5 acc (.lst (ys ++ [u]))):=(Chg.upd _).ls ha5 upd_same
  refine ⟨ha5,hN _ [_] _ rfl ⟨same_upd hn (s.trans s5),upd_same,by rw [qF,hl]; rfl,fun j u' x' hu hx'=>?_⟩⟩
  rcases get_snoc hu with ⟨jl,z⟩ | ⟨jl,rfl⟩
  ·exact mono _ _ _ _ (mono _ _ _ _ (hy j u' x' z hx') s5.ls) L
  ·rw [show j=i by omega,hSi] at hx'
   cases hx'
   exact mono _ _ _ _ h5 L
 ·rintro acc ys H' hn ⟨s,ha,hl,hy⟩
  exact hd acc ys H' hn s ha (by omega) hy
end
theorem fmI.ls {H H':Hp}{v:V}{row:List Int}(h:fmI H v row)(l:LS H H'):fmI H' v row:=by
 have nt:∀ xs ys:List V,HO.tup xs ≠ .lst ys:=fun _ _ z=>by cases z
 obtain ⟨t,e,⟨z,r,h1⟩ | ⟨f,fs,k,g,h1,h2,F⟩⟩:=h
 ·exact ⟨t,e,.inl ⟨z,r,l.st _ _ h1 (nt _)⟩⟩
 ·exact ⟨t,e,.inr ⟨f,fs,k,g,l.st _ _ h1 (nt _),l.st _ _ h2 (nt _),F⟩⟩
end L2
set_option Elab.async false
set_option linter.all false
set_option maxRecDepth 100000
set_option maxHeartbeats 1000000
namespace L2
open PySem PySem.Spec PyProof.Rows PySem.W
def TpS (H H':Hp):Prop:=∀ b xs,H b=some (.tup xs) -> H' b=some (.tup xs)
theorem LS.tp {H H':Hp}(s:LS H H'):TpS H H':=fun b xs h=>s.st _ _ h (fun _ z=>by cases z)
theorem Chg.tp {H H':Hp}{p:Addr}{o:HO}(c:Chg p H H')(h:H p=some o)(ho:∀ xs,o ≠ .tup xs):TpS H H':=fun b xs e=>c _ _ (fun z=>by rw [z,h] at e; cases e; exact ho xs rfl) e
theorem fmI.tp {H H':Hp}{v:V}{row:List Int}(h:fmI H v row)(l:TpS H H'):fmI H' v row:=by
 obtain ⟨t,e,⟨z,r,h1⟩ | ⟨f,fs,k,g,h1,h2,F⟩⟩:=h
 ·exact ⟨t,e,.inl ⟨z,r,l _ _ h1⟩⟩
 ·exact ⟨t,e,.inr ⟨f,fs,k,g,l _ _ h1,l _ _ h2,F⟩⟩
theorem FmL.tp {H H':Hp}{us:List V}{rows:List (List Int)}(h:FmL H us rows)(l:TpS H H'):FmL H' us rows:=⟨h.1,fun i u row a b=>(h.2 i u row a b).tp l⟩
theorem Std.tp {H H':Hp}{kvs:List (List Key × V)}{R':List (List Int)}(h:Std H kvs R')(l:TpS H H'):Std H' kvs R':=fun fs v e=>by
 obtain ⟨t,i,b,g,e1,h1,h2,h3⟩:=h fs v e
 exact ⟨t,i,b,g,e1,l _ _ h1,h2,h3⟩
theorem HTs.tp {α:Type}{f:α -> List V}{H H':Hp}{vs:List V}{xs:List α}(h:HTs f H vs xs)(l:TpS H H'):HTs f H' vs xs:=⟨h.len,fun k x e=>by
 obtain ⟨p,a,b⟩:=h.at_ k x e
 exact ⟨p,a,l _ _ b⟩⟩
theorem frm_ex {row:List Int}(h:¬ ∀ x ∈ row,x=0):∃ fs k g,Frm row fs k g:=by
 have ex:∃ k:Nat,∃ n ∈ row,n ≠ 0 /\ shN n=k:=by
  obtain ⟨x,hx⟩:=Classical.not_forall.mp h
  obtain ⟨h1,h2⟩:=Classical.not_imp.mp hx
  obtain ⟨_,_,k,e1,_⟩:=core_props h2
  exact ⟨k,x,h1,h2,e1⟩
 obtain ⟨k0,hk0⟩:=ex
 have mn:∃ k:Nat,(∃ n ∈ row,n ≠ 0 /\ shN n=k) /\ ∀ j:Nat,j < k -> ¬ ∃ n ∈ row,n ≠ 0 /\ shN n=j:=by
  induction k0 using Nat.strongRecOn with
  | ind k ih =>
   by_cases z:∃ j:Nat,j < k /\ ∃ n ∈ row,n ≠ 0 /\ shN n=j
   ·obtain ⟨j,h1,h2⟩:=z
    exact ih j h1 h2
   ·exact ⟨k,hk0,fun j hj y=>z ⟨j,hj,y⟩⟩
 obtain ⟨k,hat,hlt⟩:=mn
 have hmin:∀ n ∈ row,n ≠ 0 -> (k:Int) <= shN n:=fun n hn n0=>by
  obtain ⟨_,_,j,e1,_⟩:=core_props n0
  rcases Nat.lt_or_ge j k with z | z
  ·exact (hlt j z ⟨n,hn,n0,e1⟩).elim
  ·rw [e1]; omega
 have nf:(row.filter fun x=>decide (x ≠ 0)) ≠ []:=fun z=>by
  obtain ⟨n,hn,n0,_⟩:=hat
  have:n ∈ row.filter fun x=>decide (x ≠ 0):=List.mem_filter.mpr ⟨hn,decide_eq_true n0⟩
  rw [z] at this
  cases this
 obtain ⟨n,rest,ef⟩:=List.exists_cons_of_ne_nil nf
 obtain ⟨i0,a,b,c⟩:=first_nz ef
 exact ⟨_,k,sgN n,frm_of hmin hat ⟨i0,n,a,b,rfl,c⟩⟩
theorem frm_mv {row fs:List Int}{k:Nat}{g s c:Int}(F:Frm row fs k g)(hs:Dv s row)(hc:c=1 \/ c = -1):∃ m:Nat,Frm (row.map fun y=>c * mvI s y) fs m (c * g):=by
 obtain ⟨m,em⟩:=frm_down F (fun z x hx=>Int.emod_eq_zero_of_dvd (hs z x hx))
 refine ⟨m,sg_mul hc F.sg,?_,F.od,F.ld⟩
 rw [F.eq]
 unfold mulR
 rw [List.map_map]
 refine List.map_congr_left fun x _=>?_
 show c * mvI s (g * 2 ^ k * x)=c * g * 2 ^ m * x
 rw [mv_pow (m:=m) (by omega)]
 simp only [Int.mul_assoc]
theorem zip_left0 {X Y:List Int}(f:Int -> Int)(h:∀ x ∈ X,x=0)(hl:X.length=Y.length)(s:Int):List.zipWith (fun x y=>mvI s x+f y) X Y=Y.map f:=by
 induction X generalizing Y with
 | nil=>cases Y with
  | nil=>rfl
  | cons _ _=>cases hl
 | cons x X ih=>cases Y with
  | nil=>cases hl
  | cons y Y =>
   rw [List.zipWith_cons_cons,List.map_cons,ih (fun z hz=>h z (List.mem_cons_of_mem _ hz)) (by simpa using hl),h x List.mem_cons_self,mvI_0,Int.zero_add]
theorem zip_right0 {X Y:List Int}(c t:Int)(h:∀ y ∈ Y,y=0)(hl:X.length=Y.length)(s:Int):List.zipWith (fun x y=>mvI s x+c * mvI t y) X Y=X.map (mvI s):=by
 induction X generalizing Y with
 | nil=>cases Y with
  | nil=>rfl
  | cons _ _=>cases hl
 | cons x X ih=>cases Y with
  | nil=>cases hl
  | cons y Y =>
   rw [List.zipWith_cons_cons,List.map_cons,ih (fun z hz=>h z (List.mem_cons_of_mem _ hz)) (by simpa using hl),h y List.mem_cons_self,mvI_0,Int.mul_zero,Int.add_zero]
theorem sgW_or (w:Str):sgW w=1 \/ sgW w = -1:=by
 unfold sgW
 split
 ·exact .inr rfl
 ·exact .inl rfl
section
variable {n i:Nat}{R:List (List Int)}{kvs:List (List Key × V)}{es:List Wd}
theorem Mrg.nz {fs:List Int}{k:Nat}{g:Int}{d:Wd}(M:Mrg n R i kvs es)(F:Frm (R.getD i []) fs k g)(hno:(valV kvs (tkey fs)).isSome=false)(hd:R.getD i []=rowD R d)(ha:d.a < i)(hb:d.b < i)(hl:(R.getD d.a []).length=(R.getD d.b []).length)(sa:Dv d.s (R.getD d.a []))(sb:Dv d.t (R.getD d.b [])):(¬ ∀ x ∈ R.getD d.a [],x=0) /\ ¬ ∀ x ∈ R.getD d.b [],x=0:=by
 have con:∀ (j:Nat) (s c:Int),j < i -> (c=1 \/ c = -1) -> Dv s (R.getD j []) -> R.getD i []=(R.getD j []).map (fun y=>c * mvI s y) -> False:=fun j s c hj hc hs e=>by
  by_cases z:∀ x ∈ R.getD j [],x=0
  ·refine frm_nz F fun x hx=>?_
   rw [e,zero_map (.inr z)] at hx
   obtain ⟨_,_,rfl⟩:=qP.mp hx
   rfl
  ·obtain ⟨fs',k',g',F'⟩:=frm_ex z
   obtain ⟨m,F''⟩:=frm_mv F' hs hc
   rw [← e] at F''
   have:=M.cv j hj fs' k' g' F'
   rw [(frm_uniq F'' F).1,hno] at this
   cases this
 refine ⟨fun z=>con d.b d.t (sgW d.w) hb (sgW_or _) sb ?_,fun z=>con d.a d.s 1 ha (.inl rfl) sa ?_⟩
 ·rw [hd]
  exact zip_left0 (fun y=>sgW d.w * mvI d.t y) z hl d.s
 ·rw [hd,show (fun y:Int=>1 * mvI d.s y)=mvI d.s from funext fun y=>Int.one_mul _]
  exact zip_right0 _ _ z hl d.s
end
theorem pick_list {α β:Type}{P:Nat -> α -> β -> Prop}:∀ {xs:List α},(∀ (i:Nat) x,xs[i]? = some x -> ∃ y,P i x y) -> ∃ ys:List β,ys.length=xs.length /\ ∀ (i:Nat) x y,xs[i]? = some x -> ys[i]? = some y -> P i x y
 | [],_=>⟨[],rfl,fun i x y h=>by cases h⟩
 | a :: r,h=>by
  obtain ⟨y0,h0⟩:=h 0 a rfl
  obtain ⟨ys,l,hy⟩:=pick_list (P:=fun i x y=>P (i+1) x y) (xs:=r) (fun i x e=>h (i+1) x (by simpa using e))
  refine ⟨y0 :: ys,by rw [List.length_cons,List.length_cons,l],fun i x y e1 e2=>?_⟩
  cases i with
  | zero=>cases e1; cases e2; exact h0
  | succ i=>exact hy i x y (by simpa using e1) (by simpa using e2)
theorem putK_len {kvs:List (List Key × V)}{k:List Key}{v:V}:(putK kvs k v).length <= kvs.length+1:=by
 unfold putK
 split
 ·rw [qC]; omega
 ·rw [qF]; exact Nat.le_refl _
end L2
set_option Elab.async false
set_option linter.all false
set_option maxRecDepth 100000
set_option maxHeartbeats 1000000
namespace L2
open PySem PySem.Spec PyProof.Rows PySem.W
end L2
set_option Elab.async false
set_option linter.all false
set_option maxRecDepth 100000
set_option maxHeartbeats 1000000
namespace L2
open PySem PySem.Spec PyProof.Rows PySem.W
section
variable {n i:Nat}{ds:List Wd}{gs:List Go}{ms:List Nat}
end
theorem abs_core {x:Int}(h:x ≠ 0):∃ k:Nat,(if x < 0 then -x else x)=coreN x * 2 ^ k /\ Builtin.bitAnd (if x < 0 then -x else x) (0 - if x < 0 then -x else x)=2 ^ k /\ 2 ^ k <= x.natAbs:=by
 obtain ⟨m,k,e1,e2⟩:=core_fact h
 have ea:(if x < 0 then -x else x)=absI x:=rfl
 have ec:coreN x=2 * (m:Int)+1:=by
  have:=core_three x
  rw [e2] at this
  have:=congrArg (fun l=>l.headD 0) this
  simpa using this.symm
 have e3:absI x=2 ^ k * (2 * (m:Int)+1):=by rw [e1,Int.mul_comm]
 refine ⟨k,by rw [ea,e3,ec,Int.mul_comm],by rw [ea,Int.zero_sub,e3]; exact kbt_low k _,?_⟩
 have en:(x.natAbs:Int)=absI x:=by unfold absI; split <;> omega
 have:((2 ^ k:Nat):Int) <= (x.natAbs:Int):=by
  rw [en,e3,Int.natCast_pow]
  have pk:=pow_pos2 k
  have:(2:Int) ^ k * 1 <= 2 ^ k * (2 * (m:Int)+1):=Int.mul_le_mul_of_nonneg_left (by omega) (Int.le_of_lt pk)
  rw [Int.mul_one] at this
  exact this
 exact Int.ofNat_le.mp this
end L2
set_option Elab.async false
set_option linter.all false
set_option maxRecDepth 100000
set_option maxHeartbeats 1000000
namespace L2
open PySem PySem.Spec PyProof.Rows PySem.W
end L2
set_option Elab.async false
set_option linter.all false
set_option maxRecDepth 100000
set_option maxHeartbeats 1000000
namespace L2
open PySem PySem.Spec PyProof.Rows PySem.W
section
variable {K:PySem.W.Frag}{σ:St}{H:Hp}{Q:VK}{cs:List Nat}{te:TE}
end
end L2
set_option Elab.async false
set_option linter.all false
set_option maxRecDepth 100000
set_option maxHeartbeats 1000000
namespace L2
open PySem PySem.Spec PyProof.Rows
section
variable {ins m:Nat}{s1 s2:List Wd}{t1 t2:List Go}
end
section
variable {ins:Nat}{ds:List Wd}{gs:List Go}{μ:List Int}{B:Int}
end
end L2
set_option Elab.async false
set_option linter.all false
set_option maxRecDepth 100000
set_option maxHeartbeats 1000000
namespace L2
open PySem PySem.Spec PyProof.Rows
def advM (m:Nat)(p:SetTable.Probe):SetTable.Probe :=
 if p.more > 0 then { p with j:=p.j+1,more:=p.more - 1 } else
 { p with j:=(p.i * 5+1+p.perturb / 32) % (m+1),more:=SetTable.runEnd m ((p.i * 5+1+p.perturb / 32) % (m+1)) - (p.i * 5+1+p.perturb / 32) % (m+1),i:=(p.i * 5+1+p.perturb / 32) % (m+1),perturb:=p.perturb / 32 }
def pn (m:Nat):Nat -> SetTable.Probe -> SetTable.Probe
 | 0,p=>p
 | n+1,p=>pn m n (advM m p)
def stP (m:Nat)(x:Int):SetTable.Probe:={ j:=SetTable.bits x % (m+1),more:=SetTable.runEnd m (SetTable.bits x % (m+1)) - SetTable.bits x % (m+1),i:=SetTable.bits x % (m+1),perturb:=SetTable.bits x,dummy:=none }
def sl (m:Nat)(x:Int)(n:Nat):Nat:=(pn m n (stP m x)).j
section
variable {led:Bool}{t:SetTable}{es:Array (Int × Value)}
end
end L2
set_option Elab.async false
set_option linter.all false
set_option maxRecDepth 100000
set_option maxHeartbeats 1000000
namespace L2
open PySem PySem.Spec PyProof.Rows
section
variable {prog:Program}{w:World}{ok:Addr -> Prop}{A:Around}{E:Value -> Shared -> Prop}{s:Shared}
end
section
variable {prog:Program}{w:World}{ok:Addr -> Prop}{A:Around}{R:Result -> Shared -> Prop}{I:Addr}{fp wr:List Addr}{G:Array GenState -> Array GenState -> Prop}{P:Nat -> Value -> Prop}{St:Nat -> Shared -> Prop}
end
end L2
set_option Elab.async false
set_option linter.all false
set_option maxRecDepth 100000
set_option maxHeartbeats 1000000
namespace L2
open PySem PySem.Spec PyProof.Rows
section
variable {prog:Program}{w:World}{A:Around}{E:Value -> Shared -> Prop}{s:Shared}
end
end L2
set_option Elab.async false
set_option linter.all false
set_option maxRecDepth 100000
set_option maxHeartbeats 1000000
namespace L2
open PySem PySem.Spec PyProof.Rows
theorem list_choice {α:Type}{P:Nat -> α -> Prop}:∀ n:Nat,(∀ i,i < n -> ∃ x,P i x) -> ∃ xs:List α,xs.length=n /\ ∀ (i:Nat) x,xs[i]? = some x -> P i x
 | 0,_=>⟨[],rfl,fun i x h=>by simp at h⟩
 | n+1,h=>by
  obtain ⟨xs,h1,h2⟩:=list_choice n fun i hi=>h i (by omega)
  obtain ⟨x,hx⟩:=h n (by omega)
  refine ⟨xs ++ [x],by rw [qF,h1]; rfl,fun i y hy=>?_⟩
  rcases get_snoc hy with ⟨_,z⟩ | ⟨il,rfl⟩
  ·exact h2 i y z
  ·rw [il,h1]; exact hx
theorem Frm.nz {row fs:List Int}{k:Nat}{g:Int}(h:Frm row fs k g):g ≠ 0 /\ ∃ x ∈ row,x ≠ 0:=by
 have g0:g ≠ 0:=by rcases h.sg with z | z <;> rw [z] <;> decide
 obtain ⟨x,hx,hx1⟩:=h.od
 refine ⟨g0,g * 2 ^ k * x,?_,?_⟩
 ·rw [h.eq]
  exact qP.mpr ⟨x,hx,rfl⟩
 ·have p:=pow_pos2 k
  exact Int.mul_ne_zero (Int.mul_ne_zero g0 (Int.ne_of_gt p)) (fun z=>by rw [z] at hx1; cases hx1)
end L2
set_option Elab.async false
set_option linter.all false
set_option maxRecDepth 100000
set_option maxHeartbeats 1000000
namespace L2
open PySem PySem.Spec PyProof.Rows
section
variable {K:PySem.W.Frag}{σ:St}{H:Hp}{Q:VK}{cs:List Nat}{te:TE}
end
end L2
set_option Elab.async false
set_option linter.all false
set_option maxRecDepth 100000
set_option maxHeartbeats 1000000
namespace L2
open PySem PySem.Spec PyProof.Rows
theorem rowsW_part {n:Nat}{ds:List Wd}(i:Nat){j:Nat}{r:List Int}(h:(rowsW n (ds.take i))[j]? = some r):(rowsW n ds)[j]? = some r:=by
 have:=rowsW_pre n (ds.take i) (ds.drop i) h
 rwa [List.take_append_drop] at this
theorem rowsW_partM {n:Nat}{ds:List Wd}(i:Nat){r:List Int}(h:r ∈ rowsW n (ds.take i)):r ∈ rowsW n ds:=by
 obtain ⟨j,hj⟩:=List.getElem?_of_mem h
 exact qE (rowsW_part i hj)
structure Met (n:Nat) (ds:List Wd) (gs:List Go) (i:Nat) (ms:List Nat):Prop where
 snd:∀ m ∈ ms,Rch n ds gs m
 root:∀ g ∈ gs,g.sg ≠ 0 -> g.th ∈ ms
 cl:∀ (k:Nat) d,ds.length <= k+i -> ds[k]? = some d -> d.a ∈ ms /\ d.b ∈ ms
 all:∀ k,ds.length <= k+i -> k < ds.length -> Rch n ds gs (n+k)
theorem met_nil {n:Nat}{ds:List Wd}{gs:List Go}:Met n ds gs 0 ((gs.filter fun g=>decide (g.sg ≠ 0)).map (·.th)):=by
 refine ⟨fun m hm=>?_,fun g hg h=>qP.mpr ⟨g,List.mem_filter.mpr ⟨hg,decide_eq_true h⟩,rfl⟩,fun k d h1 h2=>?_,fun k h1 h2=>by omega⟩
 ·obtain ⟨g,hg,rfl⟩:=qP.mp hm
  obtain ⟨h1,h2⟩:=List.mem_filter.mp hg
  exact .root h1 (of_decide_eq_true h2)
 ·have:=(qB.mp h2).1
  omega
theorem met_not {n:Nat} {ds:List Wd} {gs:List Go} {i:Nat} {ms:List Nat} (M:Met n ds gs i ms) (dk:∀ (k:Nat) (d:Wd),ds[k]? = some d -> d.a < n+k /\ d.b < n+k /\ (d.w = "sum" \/ d.w = "less")) {k:Nat} (hk:k+1+i=ds.length) (h:n+k ∉ ms):¬ Rch n ds gs (n+k):=by
 intro R
 generalize hx:n+k=x at R h
 cases R with
 | root h1 h2=>exact h (M.root _ h1 h2)
 | @fst k' d h1 h2 =>
  have:=(dk k' d h1).1
  exact h (M.cl k' d (by omega) h1).1
 | @snd k' d h1 h2 =>
  have:=(dk k' d h1).2.1
  exact h (M.cl k' d (by omega) h1).2
theorem met_step {n:Nat}{ds:List Wd}{gs:List Go}{i:Nat}{ms:List Nat}(M:Met n ds gs i ms){k:Nat}{d:Wd}(hk:k+1+i=ds.length)(hd:ds[k]? = some d)(h:n+k ∈ ms):Met n ds gs (i+1) (ms ++ [d.a,d.b]):=by
 have R:=M.snd _ h
 refine ⟨fun m hm=>?_,fun g hg h=>List.mem_append_left _ (M.root g hg h),fun k' d' h1 h2=>?_,fun k' h1 h2=>?_⟩
 ·rcases List.mem_append.mp hm with z | z
  ·exact M.snd m z
  ·simp only [List.mem_cons,List.not_mem_nil,or_false] at z
   rcases z with z | z <;> subst z
   ·exact .fst hd R
   ·exact .snd hd R
 ·by_cases c:k'=k
  ·subst c
   rw [hd] at h2
   cases h2
   exact ⟨qK _ (by simp),qK _ (by simp)⟩
  ·obtain ⟨a,b⟩:=M.cl k' d' (by omega) h2
   exact ⟨List.mem_append_left _ a,List.mem_append_left _ b⟩
 ·by_cases c:k'=k
  ·subst c; exact R
  ·exact M.all k' (by omega) h2
theorem wait0_mapI:∀ gs:List Go,(gs.filterMap fun g=>if g.sg ≠ 0 then some (g.th:Int) else none)=nints (wait0 gs)
 | []=>rfl
 | g :: gs=>by
  have ih:=wait0_mapI gs
  unfold nints wait0 at ih ⊢
  rw [List.filterMap_cons]
  by_cases z:g.sg ≠ 0
  ·rw [if_pos z,ih,List.filter_cons_of_pos (by simpa using z)]; rfl
  ·rw [if_neg z,ih,List.filter_cons_of_neg (by simpa using z)]
end L2
set_option Elab.async false
set_option linter.all false
set_option maxRecDepth 100000
set_option maxHeartbeats 1000000
namespace L2
open PySem PySem.Spec PyProof.Rows
structure WebOkB (ins:Nat) (ds:List Wd) (gs:List Go):Prop where
 i1:1 <= ins
 i2:ins <= 12
 dk:∀ (k:Nat) (d:Wd),ds[k]? = some d -> d.a < ins+k /\ d.b < ins+k /\ (d.w = "sum" \/ d.w = "less")
 gk:∀ g ∈ gs,g.th < ins+ds.length
 dl:ds.length <= 400
 gl:gs.length <= 12
theorem arr_ltB {ins:Nat}{ds:List Wd}{gs:List Go}(ok:WebOkB ins ds gs){t:Nat}{a:Ar}(h:(arrF ins 0 ds)[t]? = some a):a.st < a.go /\ a.go=ins+t / 2 /\ a.go < ins+ds.length:=by
 obtain ⟨d,h1,h2,h3⟩:=arr_at h
 have k:=ok.dk _ d h1
 have hl:=(qB.mp h1).1
 rcases h3 with ⟨_,z⟩ | ⟨_,z⟩ <;> rw [z] <;> refine ⟨?_,by show ins+0+t / 2=_; omega,by show ins+0+t / 2 < _; omega⟩
 ·show d.a < ins+0+t / 2
  omega
 ·show d.b < ins+0+t / 2
  omega
theorem Ps.stepB {ins:Nat}{ds:List Wd}{gs:List Go}{i:Nat}{bs:List Bool}(ok:WebOkB ins ds gs)(h:Ps ins ds gs i bs){a:Ar}(hi:i < 2 * ds.length)(ha:(arrF ins 0 ds)[2 * ds.length - 1 - i]? = some a) :
  ∃ b,bs[a.go]? = some b /\ a.st < bs.length /\ Ps ins ds gs (i+1) (if b=true then bs.set a.st true else bs):=by
 obtain ⟨l1,l2,l3⟩:=arr_ltB ok ha
 have hl:a.go < bs.length:=by rw [h.len]; exact l3
 refine ⟨bs[a.go],qA hl,by omega,?_⟩
 have at_:∀ t b,2 * ds.length - (i+1) <= t -> (arrF ins 0 ds)[t]? = some b -> t=2 * ds.length - 1 - i /\ b=a \/ 2 * ds.length - i <= t /\ a.go <= b.go:=fun t b ht hb=>by
  by_cases e:t=2 * ds.length - 1 - i
  ·subst e
   rw [ha] at hb
   exact .inl ⟨rfl,(Option.some.inj hb).symm⟩
  ·refine .inr ⟨by omega,?_⟩
   obtain ⟨_,m2,_⟩:=arr_ltB ok hb
   rw [l2,m2]
   have:(2 * ds.length - 1 - i) / 2 <= t / 2:=Nat.div_le_div_right (by omega)
   omega
 cases hb:bs[a.go] with
 | false =>
  rw [if_neg (by decide)]
  refine ⟨h.len,h.snd,h.root,fun t b ht hb' hg=>?_⟩
  rcases at_ t b ht hb' with ⟨_,z⟩ | ⟨z,_⟩
  ·subst z
   rw [qA hl,hb] at hg
   cases hg
  ·exact h.clo t b z hb' hg
 | true =>
  rw [if_pos rfl]
  have ra:Rch ins ds gs a.go:=h.snd _ (by rw [qA hl,hb])
  have rs:Rch ins ds gs a.st:=by
   obtain ⟨d,h1,h2,h3⟩:=arr_at ha
   rw [h2,Nat.add_zero] at ra
   rcases h3 with ⟨_,z⟩ | ⟨_,z⟩
   ·rw [z]; exact .fst h1 ra
   ·rw [z]; exact .snd h1 ra
  refine ⟨by rw [List.length_set]; exact h.len,fun j hj=>?_,fun g hg hs=>set_true (h.root g hg hs),fun t b ht hb' hg=>?_⟩
  ·by_cases e:a.st=j
   ·rw [← e]; exact rs
   ·rw [List.getElem?_set_ne e] at hj
    exact h.snd j hj
  ·rcases at_ t b ht hb' with ⟨_,z⟩ | ⟨z,m⟩
   ·subst z
    rw [List.getElem?_set_self (by omega)]
   ·rw [List.getElem?_set_ne (by omega)] at hg
    exact set_true (h.clo t b z hb' hg)
section
variable {ins:Nat}{ds:List Wd}{gs:List Go}{bs:List Bool}
theorem rch_ltB (ok:WebOkB ins ds gs){j:Nat}(h:Rch ins ds gs j):j < ins+ds.length:=by
 induction h with
 | root hg _=>exact ok.gk _ hg
 | fst hd _ ih=>have:=(ok.dk _ _ hd).1; omega
 | snd hd _ ih=>have:=(ok.dk _ _ hd).2.1; omega
end
section
variable {ins:Nat}{ds:List Wd}{gs:List Go}{bs:List Bool}
theorem Us.kpB (ok:WebOkB ins ds gs)(U:Us ins ds gs bs){j:Nat}(h:Rch ins ds gs j):L2.kp bs ins j:=.inr ((U.iff j (rch_ltB ok h)).mpr h)
end
section
variable {ins:Nat}{ds:List Wd}{gs:List Go}{bs:List Bool}
theorem kept_okB (ok:WebOkB ins ds gs)(zo:ZO gs)(U:Us ins ds gs bs):WebOkB ins (keptD bs ins 0 ds) (gs.map (renG bs ins)):=by
 have hl:(keptD bs ins 0 ds).length=keptN bs ins ds.length:=by
  have:=keptD_len bs ins ds 0
  rw [Nat.zero_add] at this
  exact this
 refine ⟨ok.i1,ok.i2,fun k d h=>?_,fun g hg=>?_,?_,by rw [qC]; exact ok.gl⟩
 ·obtain ⟨i,e,h1,h2,rfl,h4⟩:=kept_of h
  rw [Nat.zero_add] at h2 h4
  have hi:i < ds.length:=(qB.mp h1).1
  have hr:=(U.iff _ (by omega)).mp h2
  obtain ⟨a1,a2,a3⟩:=ok.dk i e h1
  have b1:=ren_lt (U.kpB ok (.fst h1 hr)) a1
  have b2:=ren_lt (U.kpB ok (.snd h1 hr)) a2
  rw [ren_ins] at b1 b2
  have h4':k=keptN bs ins i:=by rw [← h4]; rfl
  exact ⟨by show renN bs ins e.a < _; omega,by show renN bs ins e.b < _; omega,a3⟩
 ·obtain ⟨g0,h0,rfl⟩:=qP.mp hg
  rw [hl]
  show renN bs ins g0.th < _
  by_cases z:g0.sg=0
  ·rw [zo g0 h0 z]
   show renN bs ins 0 < _
   rw [ren_zero]
   have:=ok.i1
   omega
  ·have:=ren_lt (U.kpB ok (.root h0 z)) (ok.gk g0 h0)
   rw [ren_ins] at this
   exact this
 ·rw [hl]
  have:=keptN_le bs ins ds.length
  have:=ok.dl
  omega
end
section
variable {ins:Nat}{ds:List Wd}{gs:List Go}{bs:List Bool}
theorem kept_rchB (ok:WebOkB ins ds gs)(U:Us ins ds gs bs){j:Nat}(h:Rch ins ds gs j):Rch ins (keptD bs ins 0 ds) (gs.map (renG bs ins)) (renN bs ins j):=by
 induction h with
 | @root g hg z=>exact Rch.root (g:=renG bs ins g) (qP.mpr ⟨g,hg,rfl⟩) z
 | @fst k d hd hr ih =>
  have hk:=(qB.mp hd).1
  have:=(kept_at (bs:=bs) (ins:=ins) (k:=0) hd (by rw [Nat.zero_add]; exact (U.iff _ (by omega)).mpr hr)).1
  rw [Nat.zero_add] at this
  rw [ren_ins] at ih
  exact Rch.fst (d:=renD bs ins d) this ih
 | @snd k d hd hr ih =>
  have hk:=(qB.mp hd).1
  have:=(kept_at (bs:=bs) (ins:=ins) (k:=0) hd (by rw [Nat.zero_add]; exact (U.iff _ (by omega)).mpr hr)).1
  rw [Nat.zero_add] at this
  rw [ren_ins] at ih
  exact Rch.snd (d:=renD bs ins d) this ih
end
structure FW4B (ins:Nat) (ds:List Wd) (gs:List Go):Prop where
 ok:WebOkB ins ds gs
 sh:∀ (k:Nat) (d:Wd),ds[k]? = some d -> d.a < ins+k /\ d.b < ins+k /\ Sh4 d.s ((rowsW ins ds).getD d.a []) /\ Sh4 d.t ((rowsW ins ds).getD d.b [])
 go:∀ g ∈ gs,g=⟨0,0,0⟩ \/ ((g.sg=1 \/ g.sg = -1) /\ Sh4 g.sh ((rowsW ins ds).getD g.th []))
 rb:RB 8000 (rowsW ins ds)
 wd:∀ r ∈ rowsW ins ds,r.length=ins
structure BWB (n:Nat) (ds:List Wd) (gs:List Go):Prop where
 f:FW4B n ds gs
 sd:∀ d ∈ ds,-900 <= d.s /\ d.s <= 900 /\ -900 <= d.t /\ d.t <= 900
 sg:∀ g ∈ gs,-900 <= g.sh /\ g.sh <= 900
 rb:RB 3000 (rowsW n ds)
section
variable {n:Nat}{ds:List Wd}{gs:List Go}{bs:List Bool}
theorem kept_rowsB (ok:WebOkB n ds gs)(zo:ZO gs)(U:Us n ds gs bs):∀ j,j < n+ds.length -> (j < n \/ Rch n ds gs j) -> (rowsW n (keptD bs n 0 ds)).getD (renN bs n j) []=(rowsW n ds).getD j []:=by
 intro j
 induction j using Nat.strongRecOn with
 | ind j ih =>
  intro hj h
  by_cases z:j < n
  ·rw [show renN bs n j=j from if_pos z,rowsW_unit z,rowsW_unit z]
  ·have hr:Rch n ds gs j:=h.resolve_left z
   obtain ⟨k,rfl⟩:∃ k,j=n+k:=⟨j - n,by omega⟩
   have hk:k < ds.length:=by omega
   have e:=qA hk
   generalize ds[k]=d at e
   obtain ⟨a1,a2,_⟩:=ok.dk k d e
   have ka:=(kept_at (bs:=bs) (ins:=n) (k:=0) e (by rw [Nat.zero_add]; exact (U.iff _ hj).mpr hr)).1
   rw [Nat.zero_add] at ka
   have kk:(keptD bs n 0 ds)[keptN bs n k]? = some (renD bs n d):=ka
   obtain ⟨b1,b2,_⟩:=(kept_okB ok zo U).dk _ _ kk
   rw [ren_ins,rowsW_dk kk b1 b2,rowsW_dk e a1 a2]
   unfold rowD
   show List.zipWith _ ((rowsW n (keptD bs n 0 ds)).getD (renN bs n d.a) []) ((rowsW n (keptD bs n 0 ds)).getD (renN bs n d.b) [])=_
   rw [ih d.a a1 (by omega) (.inr (.fst e hr)),ih d.b a2 (by omega) (.inr (.snd e hr))]
   rfl
end
section
variable {n:Nat}{ds:List Wd}{gs:List Go}{bs:List Bool}
theorem kept_surB (ok:WebOkB n ds gs)(U:Us n ds gs bs){j:Nat}(h:j < n+(keptD bs n 0 ds).length):∃ i,i < n+ds.length /\ (i < n \/ Rch n ds gs i) /\ renN bs n i=j:=by
 by_cases z:j < n
 ·exact ⟨j,by omega,.inl z,if_pos z⟩
 ·obtain ⟨k,rfl⟩:∃ k,j=n+k:=⟨j - n,by omega⟩
  have hk:k < (keptD bs n 0 ds).length:=by omega
  obtain ⟨i,d,h1,h2,_,h4⟩:=kept_of (qA hk)
  rw [Nat.zero_add] at h2 h4
  have hi:=(qB.mp h1).1
  exact ⟨n+i,by omega,.inr ((U.iff _ (by omega)).mp h2),by rw [ren_ins,← h4]; rfl⟩
end
section
variable {n:Nat}{ds:List Wd}{gs:List Go}{bs:List Bool}
theorem kept_all_rchB (ok:WebOkB n ds gs)(U:Us n ds gs bs){j:Nat}(h:j < n+(keptD bs n 0 ds).length)(hj:n <= j):Rch n (keptD bs n 0 ds) (gs.map (renG bs n)) j:=by
 obtain ⟨i,h1,h2,h3⟩:=kept_surB ok U h
 rcases h2 with z | z
 ·rw [show renN bs n i=i from if_pos z] at h3
  omega
 ·rw [← h3]
  exact kept_rchB ok U z
end
theorem FW4B.zo {n:Nat}{ds:List Wd}{gs:List Go}(F:FW4B n ds gs):ZO gs:=fun g hg z=>(F.go g hg).elim id fun y=>by rcases y.1 with e | e <;> omega
section
variable {n:Nat}{ds:List Wd}{gs:List Go}{bs:List Bool}
theorem FW4B.kept (F:FW4B n ds gs)(U:Us n ds gs bs):FW4B n (keptD bs n 0 ds) (gs.map (renG bs n)) /\ (∀ r ∈ rowsW n (keptD bs n 0 ds),r ∈ rowsW n ds) /\ outsR n (keptD bs n 0 ds) (gs.map (renG bs n))=outsR n ds gs:=by
 have zo:=F.zo
 have KR:=kept_rowsB F.ok zo U
 have KO:=kept_okB F.ok zo U
 have sub:∀ r ∈ rowsW n (keptD bs n 0 ds),r ∈ rowsW n ds:=fun r hr=>by
  obtain ⟨j,hj⟩:=List.getElem?_of_mem hr
  have hl:=(qB.mp hj).1
  rw [rowsW_len] at hl
  obtain ⟨i,h1,h2,h3⟩:=kept_surB F.ok U hl
  have:=KR i h1 h2
  rw [h3,getD_of hj] at this
  have e:=qA (show i < (rowsW n ds).length by rw [rowsW_len]; exact h1)
  rw [getD_of e] at this
  rw [this]
  exact qE e
 have th:∀ g ∈ gs,g.th < n+ds.length /\ (g.th < n \/ Rch n ds gs g.th):=fun g hg=>by
  refine ⟨F.ok.gk g hg,?_⟩
  by_cases z:g.sg=0
  ·rw [zo g hg z]
   exact .inl (by have:=F.ok.i1; show 0 < n; omega)
  ·exact .inr (.root hg z)
 refine ⟨⟨KO,fun k d hk=>?_,fun g hg=>?_,fun r hr=>F.rb r (sub r hr),fun r hr=>F.wd r (sub r hr)⟩,sub,?_⟩
 ·obtain ⟨b1,b2,_⟩:=KO.dk k d hk
  obtain ⟨i,e,h1,h2,rfl,h4⟩:=kept_of hk
  rw [Nat.zero_add] at h2 h4
  have hi:=(qB.mp h1).1
  have hr:=(U.iff _ (by omega)).mp h2
  obtain ⟨a1,a2,a3,a4⟩:=F.sh i e h1
  refine ⟨b1,b2,?_,?_⟩
  ·show Sh4 e.s ((rowsW n (keptD bs n 0 ds)).getD (renN bs n e.a) [])
   rw [KR e.a (by omega) (.inr (.fst h1 hr))]
   exact a3
  ·show Sh4 e.t ((rowsW n (keptD bs n 0 ds)).getD (renN bs n e.b) [])
   rw [KR e.b (by omega) (.inr (.snd h1 hr))]
   exact a4
 ·obtain ⟨g0,h0,rfl⟩:=qP.mp hg
  rcases F.go g0 h0 with z | ⟨z1,z2⟩
  ·left
   rw [z]
   show (⟨renN bs n 0,0,0⟩:Go)=_
   rw [ren_zero]
  ·right
   refine ⟨z1,?_⟩
   show Sh4 g0.sh ((rowsW n (keptD bs n 0 ds)).getD (renN bs n g0.th) [])
   rw [KR g0.th (th g0 h0).1 (th g0 h0).2]
   exact z2
 ·unfold outsR
  rw [List.map_map]
  refine List.map_congr_left fun g hg=>?_
  show outR _ (renG bs n g)=outR _ g
  unfold outR
  show ((rowsW n (keptD bs n 0 ds)).getD (renN bs n g.th) []).map _=_
  rw [KR g.th (th g hg).1 (th g hg).2]
  rfl
end
section
variable {n:Nat}{ds:List Wd}{gs:List Go}{bs:List Bool}
theorem BWB.kept (W:BWB n ds gs)(U:Us n ds gs bs):BWB n (keptD bs n 0 ds) (gs.map (renG bs n)):=by
 obtain ⟨F,sub,_⟩:=W.f.kept U
 refine ⟨F,fun d hd=>?_,fun g hg=>?_,fun r hr=>W.rb r (sub r hr)⟩
 ·obtain ⟨k,hk⟩:=List.getElem?_of_mem hd
  obtain ⟨i,e,h1,_,rfl,_⟩:=kept_of hk
  exact W.sd e (qE h1)
 ·obtain ⟨g0,h0,rfl⟩:=qP.mp hg
  exact W.sg g0 h0
end
theorem BareP.keptB {n:Nat}{es:List Wd}{gs:List Go}{bs:List Bool}(B:BareP n es)(ok:WebOkB n es gs)(zo:ZO gs)(U:Us n es gs bs):BareP n (keptD bs n 0 es):=by
 have KR:=kept_rowsB ok zo U
 refine ⟨fun j hj=>?_,fun i j fs b h b' h' hi hj f1 f2=>?_⟩
 ·obtain ⟨i,h1,h2,h3⟩:=kept_surB ok U hj
  obtain ⟨fs,b,h,F⟩:=B.1 i h1
  exact ⟨fs,b,h,by rw [← h3,KR i h1 h2]; exact F⟩
 ·obtain ⟨i0,a1,a2,a3⟩:=kept_surB ok U hi
  obtain ⟨j0,b1,b2,b3⟩:=kept_surB ok U hj
  rw [← a3,KR i0 a1 a2] at f1
  rw [← b3,KR j0 b1 b2] at f2
  rw [← a3,← b3,B.2 i0 j0 fs b h b' h' a1 b1 f1 f2]
theorem pst_ofB {n:Nat}{R R':List (List Int)}{a i b k:Nat}{s sg g h:Int}{fs:List Int}(F:Frm (R.getD a []) fs k g)(hs:Sh4 s (R.getD a []))(s1:-900 <= s /\ s <= 900)(hsg:sg=1 \/ sg = -1)(hr:∀ x ∈ R.getD a [],x.natAbs <= 2 ^ 3000)(hr':∀ r ∈ R',∀ x ∈ r,x.natAbs <= 2 ^ 3000)(hh:h=1 \/ h = -1)(e:R'[i]? = some (mulR (h * 2 ^ b) fs)):Pst n R R' a s sg ⟨i,s+k - b,sg * g * h⟩:=by
 have k3:=frm_k F hr
 have hm:mulR (h * 2 ^ b) fs ∈ R':=qE e
 have b3:b <= 3000:=frm_k (row:=mulR (h * 2 ^ b) fs) ⟨hh,rfl,F.od,F.ld⟩ (hr' _ hm)
 obtain ⟨m,em⟩:=frm_down F (fun z x hx=>Int.emod_eq_zero_of_dvd (hs.2.2 z x hx))
 have eg:R'.getD i []=mulR (h * 2 ^ b) fs:=getD_of e
 refine ⟨(qB.mp e).1,sg_mul (sg_mul hsg F.sg) hh,⟨by show -4000 <= s+k - b; omega,by show s+k - b <= 4000; omega,fun z x hx=>?_⟩,?_⟩
 ·have z:s+k - b < 0:=z
  have hx:x ∈ R'.getD i []:=hx
  rw [eg] at hx
  obtain ⟨y,hy,rfl⟩:=qP.mp hx
  show (2:Int) ^ (-(s+k - b)).toNat ∣ _
  obtain ⟨c,ec⟩:∃ c,b=(-(s+k - b)).toNat+c:=⟨b - (-(s+k - b)).toNat,by omega⟩
  refine ⟨h * 2 ^ c * y,?_⟩
  conv=>lhs; rw [ec,Int.pow_add]
  generalize (2:Int) ^ (-(s+k - b)).toNat=u
  simp only [Int.mul_assoc,Int.mul_left_comm,Int.mul_comm]
 ·show (R'.getD i []).map (fun y=>sg * g * h * mvI (s+k - b) y)=_
  rw [eg,F.eq]
  exact mvR_stand fs hh em
section
variable {n i:Nat}{R:List (List Int)}{kvs:List (List Key × V)}{es:List Wd}
theorem Mrg.fwB {ds:List Wd}{gs gs':List Go}(W:BWB n ds gs)(M:Mrg n (rowsW n ds) (n+ds.length) kvs es)(lg:gs.length=gs'.length)(G:∀ (k:Nat) g g',gs[k]? = some g -> gs'[k]? = some g' -> GoM (rowsW n ds) (rowsW n es) g g'):FW4B n es gs' /\ BareP n es /\ outsR n es gs'=outsR n ds gs /\ es.length <= ds.length:=by
 have i1:=W.f.ok.i1
 have lr:=rowsW_len n ds
 have lr':=rowsW_len n es
 have le:es.length <= ds.length:=by have:=M.le; omega
 have rows:∀ j,j < n+es.length -> ((rowsW n es).getD j []).length=n /\ ∀ x ∈ (rowsW n es).getD j [],x.natAbs <= 2 ^ 3000:=fun j hj=>by
  rcases Nat.lt_or_ge j n with z | z
  ·rw [rowsW_unit z]
   refine ⟨by unfold unitRow; rw [qC,List.length_range],fun x hx=>?_⟩
   rcases unitRow_bound hx with y | y <;> subst y
   ·exact Nat.zero_le _
   ·exact Nat.one_le_two_pow
  ·obtain ⟨m,c,_,a2,a3,a4⟩:=M.rw_ j z hj
   have hm:(rowsW n ds).getD m [] ∈ rowsW n ds:=by
    have e:=qA a2
    rw [getD_of e]
    exact qE e
   rw [a4]
   refine ⟨by rw [mulR_len]; exact W.f.wd _ hm,fun x hx=>?_⟩
   obtain ⟨y,hy,rfl⟩:=qP.mp hx
   rw [mul1_nat a3]
   exact (W.rb _ hm).2 y hy
 have mem:∀ r ∈ rowsW n es,r.length=n /\ ∀ x ∈ r,x.natAbs <= 2 ^ 3000:=fun r hr=>by
  obtain ⟨j,hj⟩:=List.getElem?_of_mem hr
  have:=(qB.mp hj).1
  rw [lr'] at this
  have R:=rows j this
  rw [getD_of hj] at R
  exact R
 have all:∀ g' ∈ gs',∃ g,g ∈ gs /\ GoM (rowsW n ds) (rowsW n es) g g':=fun g' hg=>by
  obtain ⟨k,hk⟩:=List.getElem?_of_mem hg
  have kl:=(qB.mp hk).1
  have e:=qA (show k < gs.length by omega)
  exact ⟨_,qE e,G k _ g' e hk⟩
 refine ⟨⟨⟨i1,W.f.ok.i2,fun k d hk=>⟨(M.dk k d hk).1,(M.dk k d hk).2.1,(M.dk k d hk).2.2.1⟩,fun g hg=>?_,by have:=W.f.ok.dl; omega,by rw [← lg]; exact W.f.ok.gl⟩,fun k d hk=>⟨(M.dk k d hk).1,(M.dk k d hk).2.1,(M.dk k d hk).2.2.2.1,(M.dk k d hk).2.2.2.2⟩,fun g hg=>?_,fun r hr=>⟨by rw [(mem r hr).1]; exact W.f.ok.i2,fun x hx=>Nat.le_trans ((mem r hr).2 x hx) (qN (by decide) (by decide))⟩,fun r hr=>(mem r hr).1⟩,⟨fun j hj=>?_,M.un⟩,?_,le⟩
 ·obtain ⟨g0,_,⟨_,z⟩ | ⟨_,z⟩⟩:=all g hg
  ·rw [z]
   show 0 < n+es.length
   omega
  ·have:=z.lt
   omega
 ·obtain ⟨g0,_,⟨_,z⟩ | ⟨_,z⟩⟩:=all g hg
  ·exact .inl z
  ·exact .inr ⟨z.sn,z.sh⟩
 ·rcases Nat.lt_or_ge j n with z | z
  ·rw [rowsW_unit z]
   exact ⟨_,_,_,frm_unit z⟩
  ·obtain ⟨fs,b,h,F,_⟩:=M.kd j z hj
   exact ⟨fs,b,h,F⟩
 ·unfold outsR
  refine List.ext_getElem? fun k=>?_
  rw [qI,qI]
  cases e:gs[k]? with
  | none =>
   rw [List.getElem?_eq_none_iff] at e
   rw [List.getElem?_eq_none_iff.mpr (by omega)]
   rfl
  | some g =>
   have kl:=(qB.mp e).1
   have e':=qA (show k < gs'.length by omega)
   rw [e']
   have GM:=G k g _ e e'
   generalize gs'[k]=g' at GM
   show some (outR _ g')=some (outR _ g)
   congr 1
   unfold outR
   rcases GM with ⟨z,rfl⟩ | ⟨_,z⟩
   ·rw [zero_map z,zero_map (.inl rfl)]
    refine const_map ?_
    have tl:=W.f.ok.gk g (qE e)
    have hm:(rowsW n ds).getD g.th [] ∈ rowsW n ds:=by
     have e2:=qA (show g.th < (rowsW n ds).length by omega)
     rw [getD_of e2]
     exact qE e2
    rw [W.f.wd _ hm]
    exact (rows 0 (by omega)).1
   ·exact z.eq
end
def spNums4B (K:PySem.W.Frag):Sp:=fun vs H Q _=>∃ (w dl gl:Addr) (ins:Nat) (us:List V) (ds:List Wd) (os:List V) (gs:List Go),vs=[.ref w] /\ WbK K H w dl gl ins us ds os gs /\ FW4B ins ds gs /\
 ∀ r ys H',H r=none -> Same H H' -> H' r=some (.lst ys) -> HTs iT H' ys (rowsW ins ds) -> Q (.ref r) H'
def spUsedKB (K:PySem.W.Frag):Sp:=fun vs H Q _=>∃ (w dl gl:Addr) (ins:Nat) (us:List V) (ds:List Wd) (os:List V) (gs:List Go),vs=[.ref w] /\ WbK K H w dl gl ins us ds os gs /\ WebOkB ins ds gs /\
 ∀ r bs H',H r=none -> Same H H' -> H' r=some (.lst (bs.map V.bl)) -> Us ins ds gs bs -> Q (.ref r) H'
def spPrunedKB (K:PySem.W.Frag):Sp:=fun vs H Q _=>∃ (w dl gl:Addr) (ins:Nat) (us:List V) (ds:List Wd) (os:List V) (gs:List Go),vs=[.ref w] /\ WbK K H w dl gl ins us ds os gs /\ WebOkB ins ds gs /\
 ∀ (r dl' gl':Addr) (us' os':List V) (bs:List Bool) H',H r=none -> H dl'=none -> H gl'=none -> dl' ≠ gl' -> Same H H' -> Us ins ds gs bs -> Wb H' r dl' gl' ins us' (keptD bs ins 0 ds) os' (gs.map (renG bs ins)) -> Q (.ref r) H'
def spMergedB (K:PySem.W.Frag):Sp:=fun vs H Q _=>∃ (w dl gl:Addr) (ins:Nat) (us:List V) (ds:List Wd) (os:List V) (gs:List Go),vs=[.ref w] /\ Wb H w dl gl ins us ds os gs /\ BWB ins ds gs /\
 ∀ (r dl' gl':Addr) (us' os':List V) (es:List Wd) (gs':List Go) H',Same H H' -> WbK K H' r dl' gl' ins us' es os' gs' -> FW4B ins es gs' -> BareP ins es -> outsR ins es gs'=outsR ins ds gs -> es.length <= ds.length -> Q (.ref r) H'
def spBareB (K:PySem.W.Frag):Sp:=fun vs H Q _=>∃ (w dl gl:Addr) (ins:Nat) (us:List V) (ds:List Wd) (os:List V) (gs:List Go),vs=[.ref w] /\ WbK K H w dl gl ins us ds os gs /\ BWB ins ds gs /\
 ∀ (r dl' gl':Addr) (us' os':List V) (es:List Wd) (gs':List Go) (bs:List Bool) H',H r=none -> H dl'=none -> H gl'=none -> dl' ≠ gl' -> Same H H' -> Wb H' r dl' gl' ins us' es os' gs' -> FW4B ins es gs' -> BareP ins es -> outsR ins es gs'=outsR ins ds gs -> (∀ j,ins <= j -> j < ins+es.length -> Rch ins es gs' j) -> Us ins ds gs bs -> es.length <= (keptD bs ins 0 ds).length -> Q (.ref r) H'
section
variable {n i:Nat}{R:List (List Int)}{kvs:List (List Key × V)}{es:List Wd}
theorem Mrg.memB {ds:List Wd}{gs:List Go}(W:BWB n ds gs)(M:Mrg n (rowsW n ds) i kvs es):∀ r ∈ rowsW n es,r.length=n /\ ∀ x ∈ r,x.natAbs <= 2 ^ 3000:=fun r hr=>by
 obtain ⟨j,hj⟩:=List.getElem?_of_mem hr
 have jl:=(qB.mp hj).1
 rw [rowsW_len] at jl
 have eg:(rowsW n es).getD j []=r:=getD_of hj
 rcases Nat.lt_or_ge j n with z | z
 ·rw [rowsW_unit z] at eg
  rw [← eg]
  refine ⟨by unfold unitRow; rw [qC,List.length_range],fun x hx=>?_⟩
  rcases unitRow_bound hx with y | y <;> subst y
  ·exact Nat.zero_le _
  ·exact Nat.one_le_two_pow
 ·obtain ⟨m,c,_,a2,a3,a4⟩:=M.rw_ j z jl
  have hm:(rowsW n ds).getD m [] ∈ rowsW n ds:=by
   have e:=qA a2
   rw [getD_of e]
   exact qE e
  rw [← eg,a4]
  refine ⟨by rw [mulR_len]; exact W.f.wd _ hm,fun x hx=>?_⟩
  obtain ⟨y,hy,rfl⟩:=qP.mp hx
  rw [mul1_nat a3]
  exact (W.rb _ hm).2 y hy
end
end L2
set_option Elab.async false
set_option linter.all false
set_option maxRecDepth 100000
set_option maxHeartbeats 1000000
namespace L2
open PySem PySem.Spec PyProof.Rows
def toW (d:Dd):Wd:=⟨wordOf d.g,d.a,d.s,d.b,d.t⟩
theorem sgW_word {g:Int}(h:g=1 \/ g = -1):sgW (wordOf g)=g:=by
 rcases h with z | z <;> subst z <;> decide
theorem word_ok (g:Int):wordOf g = "sum" \/ wordOf g = "less":=by
 unfold wordOf
 split
 ·exact .inl rfl
 ·exact .inr rfl
theorem DOk.pre {ds:List Dd}{d:Dd}(h:DOk (ds ++ [d])):DOk ds :=
 ⟨fun k e he=>h.at_ k e (by rw [qH (qB.mp he).1]; exact he),fun n hn=>h.big n (by rw [ev_snoc]; exact List.mem_append_left _ hn)⟩
theorem ev_rows (ds:List Dd):DOk ds -> rowsW 1 (ds.map toW)=(ev ds).map fun n=>[n]:=by
 refine snoc_ind (p:=fun ds=>DOk ds -> rowsW 1 (ds.map toW)=(ev ds).map fun n=>[n]) (fun _=>rfl) (fun xs d ih h=>?_) ds
 have e:=ih h.pre
 obtain ⟨h1,h2,h3,h4,h5⟩:=h.at_ xs.length d (by rw [qG (Nat.le_refl _),Nat.sub_self]; rfl)
 rw [List.map_append,show [d].map toW=[toW d] from rfl,rowsW_snoc,e,ev_snoc,List.map_append]
 congr 1
 have la:d.a < (ev xs).length:=by rw [ev_len]; omega
 have lb:d.b < (ev xs).length:=by rw [ev_len]; omega
 have ga:((ev xs).map fun n=>[n]).getD d.a []=[(ev xs).getD d.a 0]:=by
  rw [getD_of (by rw [qI,qA la]; rfl),getD_of (qA la)]
 have gb:((ev xs).map fun n=>[n]).getD d.b []=[(ev xs).getD d.b 0]:=by
  rw [getD_of (by rw [qI,qA lb]; rfl),getD_of (qA lb)]
 unfold rowD
 show [List.zipWith _ (((ev xs).map fun n=>[n]).getD d.a []) (((ev xs).map fun n=>[n]).getD d.b [])]=[[dnum (ev xs) d]]
 rw [ga,gb]
 show [[mvI (d.s:Int) ((ev xs).getD d.a 0)+sgW (wordOf d.g) * mvI (d.t:Int) ((ev xs).getD d.b 0)]]=_
 rw [mvI_up (by omega),mvI_up (by omega),sgW_word h5,Int.toNat_natCast,Int.toNat_natCast]
 rfl
theorem HDs.hts {H:Hp}{us:List V}{ds:List Dd}(h:HDs H us ds):HTs wTup H us (ds.map toW):=⟨by rw [h.len,qC],fun k x hx=>by
 rw [qI] at hx
 obtain ⟨d,hd,rfl⟩:=Option.map_eq_some_iff.mp hx
 exact h.at_ k d hd⟩
theorem Row.web {K:PySem.W.Frag}{H:Hp}{t dl ol:Addr}{ds:List Dd}{xs:List Int}(h:Row K H t dl ol ds xs)(hl:xs.length <= 12)(hd:ds.length <= 400) :
  ∃ us os gs,WbK K H t dl ol 1 us (ds.map toW) os gs /\ BWB 1 (ds.map toW) gs /\ outsR 1 (ds.map toW) gs=xs.map fun n=>[n]:=by
 obtain ⟨us,u1,u2⟩:=h.dls
 obtain ⟨os,o1,o2⟩:=h.ols
 have er:=ev_rows ds h.ok
 have el:=ev_len ds
 obtain ⟨gs,g1,g2⟩:=list_choice (P:=fun i (g:Go)=>∃ n x,xs[i]? = some n /\ os[i]? = some (.ref x) /\ SqT K H x (gTp g) /\ ((n=0 /\ g=⟨0,0,0⟩) \/ ((g.sg=1 \/ g.sg = -1) /\ 0 <= g.sh /\ g.sh <= 300 /\ ∃ m,(ev ds)[g.th]? = some m /\ g.sg * (m * 2 ^ g.sh.toNat)=n))) xs.length fun i hi=>by
  have ex:=qA hi
  obtain ⟨x,a,b,c,e1,e2,e3⟩:=o2.at_ i _ ex
  rcases e3.ok with ⟨n0,rfl,rfl,rfl⟩ | ⟨n0,k,j,m,rfl,rfl,j3,hc,hk,hv⟩
  ·exact ⟨⟨0,0,0⟩,_,x,ex,e1,e2,.inl ⟨n0,rfl⟩⟩
  ·exact ⟨⟨k,j,c⟩,_,x,ex,e1,e2,.inr ⟨hc,by show (0:Int) <= j; omega,by show (j:Int) <= 300; omega,m,hk,by show c * (m * 2 ^ (j:Int).toNat)=_; rw [Int.toNat_natCast,Int.mul_comm]; exact hv⟩⟩
 have ge:∀ g ∈ gs,g=⟨0,0,0⟩ \/ ((g.sg=1 \/ g.sg = -1) /\ 0 <= g.sh /\ g.sh <= 300 /\ g.th < 1+ds.length):=fun g hg=>by
  obtain ⟨i,hi⟩:=List.getElem?_of_mem hg
  obtain ⟨n,x,_,_,_,⟨_,z⟩ | ⟨z1,z2,z3,m,z4,_⟩⟩:=g2 i g hi
  ·exact .inl z
  ·have:=(qB.mp z4).1
   exact .inr ⟨z1,z2,z3,by omega⟩
 have rr:∀ r ∈ rowsW 1 (ds.map toW),r.length=1 /\ ∀ n ∈ r,n.natAbs < 2 ^ 300:=fun r hr=>by
  rw [er] at hr
  obtain ⟨n,hn,rfl⟩:=qP.mp hr
  exact ⟨rfl,fun y hy=>by rw [List.mem_singleton.mp hy]; exact h.ok.big n hn⟩
 have rb:∀ b:Nat,300 <= b -> RB b (rowsW 1 (ds.map toW)):=fun b hb r hr=>⟨by rw [(rr r hr).1]; decide,fun n hn=>Nat.le_trans (Nat.le_of_lt ((rr r hr).2 n hn)) (qN (by decide) hb)⟩
 have up:∀ {s:Int} {r:List Int},0 <= s -> s <= 300 -> Sh4 s r:=fun a b=>⟨by omega,by omega,fun z=>by omega⟩
 have dk:∀ (k:Nat) (d:Wd),(ds.map toW)[k]? = some d -> d.a < 1+k /\ d.b < 1+k /\ (d.w = "sum" \/ d.w = "less") /\ (0 <= d.s /\ d.s <= 300) /\ (0 <= d.t /\ d.t <= 300):=fun k d hk=>by
  rw [qI] at hk
  obtain ⟨e,he,rfl⟩:=Option.map_eq_some_iff.mp hk
  obtain ⟨h1,h2,h3,h4,_⟩:=h.ok.at_ k e he
  exact ⟨by show e.a < _; omega,by show e.b < _; omega,word_ok _,⟨by show (0:Int) <= (e.s:Int); omega,by show (e.s:Int) <= 300; omega⟩,⟨by show (0:Int) <= (e.t:Int); omega,by show (e.t:Int) <= 300; omega⟩⟩
 refine ⟨us,os,gs,⟨h.tup,u1,u2.hts,o1,by rw [o2.len,g1],fun k g hk=>?_⟩,⟨⟨⟨by decide,by decide,fun k d hk=>⟨(dk k d hk).1,(dk k d hk).2.1,(dk k d hk).2.2.1⟩,fun g hg=>?_,by rw [qC]; exact hd,by omega⟩,fun k d hk=>⟨(dk k d hk).1,(dk k d hk).2.1,up (dk k d hk).2.2.2.1.1 (dk k d hk).2.2.2.1.2,up (dk k d hk).2.2.2.2.1 (dk k d hk).2.2.2.2.2⟩,fun g hg=>?_,rb 8000 (by decide),fun r hr=>(rr r hr).1⟩,fun d hd=>?_,fun g hg=>?_,rb 3000 (by decide)⟩,?_⟩
 ·obtain ⟨n,x,_,e2,e3,_⟩:=g2 k g hk
  exact ⟨x,e2,e3⟩
 ·rw [qC]
  rcases ge g hg with z | z
  ·rw [z]; show 0 < _; omega
  ·exact z.2.2.2
 ·rcases ge g hg with z | z
  ·exact .inl z
  ·exact .inr ⟨z.1,up z.2.1 z.2.2.1⟩
 ·obtain ⟨k,hk⟩:=List.getElem?_of_mem hd
  have:=dk k d hk
  exact ⟨by omega,by omega,by omega,by omega⟩
 ·rcases ge g hg with z | z
  ·rw [z]; exact ⟨by decide,by decide⟩
  ·exact ⟨by omega,by omega⟩
 ·unfold outsR
  refine List.ext_getElem? fun i=>?_
  rw [qI,qI]
  by_cases c:i < xs.length
  ·have eg:=qA (l:=gs) (i:=i) (by omega)
   obtain ⟨n,x,e1,_,_,e4⟩:=g2 i _ eg
   rw [eg,e1]
   show some (outR _ _)=some [n]
   congr 1
   generalize gs[i]=g at e4
   unfold outR
   rw [er]
   rcases e4 with ⟨n0,z⟩ | ⟨_,z2,_,m,z4,z5⟩
   ·rw [z,n0]
    show (((ev ds).map fun n=>[n]).getD 0 []).map _=[0]
    have e0:=qA (l:=ev ds) (i:=0) (by omega)
    rw [getD_of (by rw [qI,e0]; rfl)]
    show [0 * mvI 0 _]=[0]
    rw [Int.zero_mul]
   ·rw [getD_of (by rw [qI,z4]; rfl)]
    show [g.sg * mvI g.sh m]=[n]
    rw [mvI_up z2,z5]
  ·rw [List.getElem?_eq_none (by omega),List.getElem?_eq_none (by omega)]
   rfl
theorem keptD_le (bs:List Bool)(ins:Nat)(ds:List Wd):(keptD bs ins 0 ds).length <= ds.length:=by
 have:=keptD_len bs ins ds 0
 rw [Nat.zero_add] at this
 have:=keptN_le bs ins ds.length
 omega
theorem cost40 {xs:List Int}(hl:xs.length <= 6)(hb:∀ x ∈ xs,x.natAbs < 2 ^ 40):costS (uc xs) <= 240:=by
 have key:∀ us:List Int,(∀ c ∈ us,c.natAbs < 2 ^ 40) -> costS us <= 40 * us.length:=by
  intro us
  induction us with
  | nil=>intro _; exact Nat.le_refl 0
  | cons c r ih =>
   intro h
   have h1:=ih fun x hx=>h x (List.mem_cons_of_mem _ hx)
   have h2:=wn_bound (h c List.mem_cons_self)
   unfold costS at h1 ⊢
   rw [List.map_cons,List.sum_cons,List.length_cons]
   omega
 have:=key (uc xs) fun c hc=>by
  obtain ⟨n,hn,h0,rfl⟩:=uc_of xs c hc
  obtain ⟨_,_,j,_,_,_,c6,_⟩:=core_props h0
  exact Nat.lt_of_le_of_lt c6 (hb n hn)
 have h2:=uc_len xs
 omega
def spShared (K:PySem.W.Frag):Sp:=fun vs H Q _=>∃ (a:Addr) (xs:List Int),vs=[.ref a] /\ H a=some (.lst (xs.map V.int)) /\ xs.length <= 6 /\ (∀ x ∈ xs,x.natAbs < 2 ^ 40) /\
 ∀ (r dl gl:Addr) (us os:List V) (es:List Wd) (gs:List Go) H',H r=none -> H dl=none -> H gl=none -> dl ≠ gl -> Same H H' -> Wb H' r dl gl 1 us es os gs -> FW4B 1 es gs -> BareP 1 es -> outsR 1 es gs=xs.map (fun n=>[n]) -> (∀ j,1 <= j -> j < 1+es.length -> Rch 1 es gs j) -> es.length <= costS (uc xs) -> Q (.ref r) H'
def nm (ds:List Wd):List Int:=(rowsW 1 ds).map fun r=>r.headD 0
theorem nm_len (ds:List Wd):(nm ds).length=1+ds.length:=by unfold nm; rw [qC,rowsW_len]
theorem nm_at {ds:List Wd}(hw:∀ r ∈ rowsW 1 ds,r.length=1){j:Nat}(hj:j < 1+ds.length):(rowsW 1 ds).getD j []=[(nm ds).getD j 0]:=by
 have e:=qA (l:=rowsW 1 ds) (i:=j) (by rw [rowsW_len]; exact hj)
 have l:=hw _ (qE e)
 rw [getD_of e,getD_of (xs:=nm ds) (by unfold nm; rw [qI,e]; rfl)]
 generalize (rowsW 1 ds)[j]'(by rw [rowsW_len]; exact hj)=r at l
 match r,l with
 | [x],_=>rfl
theorem nm_take {ds:List Wd}(hw:∀ r ∈ rowsW 1 ds,r.length=1){i:Nat}{d:Wd}(hd:ds[i]? = some d)(ha:d.a < 1+i)(hb:d.b < 1+i):nm (ds.take (i+1))=nm (ds.take i) ++ [mvI d.s ((nm (ds.take i)).getD d.a 0)+sgW d.w * mvI d.t ((nm (ds.take i)).getD d.b 0)]:=by
 have il:=(qB.mp hd).1
 have hw':∀ r ∈ rowsW 1 (ds.take i),r.length=1:=fun r hr=>hw r (rowsW_partM i hr)
 have tl:(ds.take i).length=i:=by rw [qO]; omega
 have e1:=nm_at hw' (j:=d.a) (by rw [tl]; exact ha)
 have e2:=nm_at hw' (j:=d.b) (by rw [tl]; exact hb)
 conv=>lhs; unfold nm
 rw [rowsW_take hd,List.map_append]
 congr 1
 show [(rowD (rowsW 1 (ds.take i)) d).headD 0]=_
 unfold rowD
 rw [e1,e2]
 rfl
theorem nm_part {ds:List Wd}{i j:Nat}(hi:i <= ds.length)(hj:j < 1+i):(nm (ds.take i)).getD j 0=(nm ds).getD j 0:=by
 have e:=qA (l:=rowsW 1 (ds.take i)) (i:=j) (by rw [rowsW_len,qO]; omega)
 have e':=rowsW_part i e
 rw [getD_of (xs:=nm (ds.take i)) (by unfold nm; rw [qI,e]; rfl),getD_of (xs:=nm ds) (by unfold nm; rw [qI,e']; rfl)]
def spLShW:Sp:=fun vs H Q _=>∃ (n s:Int),vs=[.int n,.int s] /\ -4000 <= s /\ s <= 4000 /\ n.natAbs < 2 ^ 9000 /\ (s < 0 -> (2:Int) ^ (-s).toNat ∣ n) /\ Q (.int (mvI s n)) H
def spLDeedW:Sp:=fun vs H Q _=>∃ (x l:Addr) (d:Wd) (ns:List Int),vs=[.ref x,.ref l] /\ H x=some (.tup (wTup d)) /\ H l=some (.lst (ns.map V.int)) /\ (d.w = "sum" \/ d.w = "less") /\ d.a < ns.length /\ d.b < ns.length /\ Sh14 d.s (ns.getD d.a 0) /\ Sh14 d.t (ns.getD d.b 0) /\ (∀ n ∈ ns,n.natAbs < 2 ^ 9000) /\
 ∀ H',Same H H' -> Q (.int (mvI d.s (ns.getD d.a 0)+sgW d.w * mvI d.t (ns.getD d.b 0))) H'
def spLOutW:Sp:=fun vs H Q _=>∃ (x l:Addr) (g:Go) (ns:List Int),vs=[.ref x,.ref l] /\ H x=some (.tup (gTp g)) /\ H l=some (.lst (ns.map V.int)) /\ (g=⟨0,0,0⟩ \/ ((g.sg=1 \/ g.sg = -1) /\ g.th < ns.length /\ Sh14 g.sh (ns.getD g.th 0))) /\ (∀ n ∈ ns,n.natAbs < 2 ^ 9000) /\
 ∀ H',Same H H' -> Q (.int (g.sg * mvI g.sh (ns.getD g.th 0))) H'
def spWalkedW:Sp:=fun vs H Q _=>∃ (t dl gl:Addr) (us os:List V) (es:List Wd) (gs:List Go) (xs:List Int),vs=[.ref t] /\ Wb H t dl gl 1 us es os gs /\ FW4B 1 es gs /\ outsR 1 es gs=xs.map (fun n=>[n]) /\
 ∀ (r s o:Addr) H',Same H H' -> H' r=some (.lst [.ref s,.ref o]) -> H' s=some (.lst ((nm es).map V.int)) -> H' o=some (.lst (xs.map V.int)) -> Q (.ref r) H'
def spLCoreZ:Sp:=fun vs H Q _=>∃ n:Int,vs=[.int n] /\ n.natAbs < 2 ^ 9000 /\ Q (.int (coreN n)) H
def spUsedW:Sp:=fun vs H Q _=>∃ (t dl gl:Addr) (us os:List V) (es:List Wd) (gs:List Go),vs=[.ref t] /\ Wb H t dl gl 1 us es os gs /\ FW4B 1 es gs /\ (∀ j,1 <= j -> j < 1+es.length -> Rch 1 es gs j) /\
 ∀ (r:Addr) (ms:List Nat) H',Same H H' -> H' r=some (.lst ((nints ms).map V.int)) -> (∀ k,k < es.length -> k+1 ∈ ms) -> Q (.ref r) H'
def spRightW:Sp:=fun vs H Q _=>∃ (t dl gl a:Addr) (us os:List V) (es:List Wd) (gs:List Go) (xs:List Int),vs=[.ref t,.ref a] /\ Wb H t dl gl 1 us es os gs /\ FW4B 1 es gs /\ BareP 1 es /\ outsR 1 es gs=xs.map (fun n=>[n]) /\ (∀ j,1 <= j -> j < 1+es.length -> Rch 1 es gs j) /\ H a=some (.lst (xs.map V.int)) /\ xs.length <= 6 /\ (∀ x ∈ xs,x.natAbs < 2 ^ 40) /\ es.length <= costS (uc xs) /\
 ∀ H',Same H H' -> Q (.bl true) H'
def spClose (K:PySem.W.Frag):Sp:=fun vs H Q _=>∃ (p a l:Addr) (ns:List Int) (c:Int) (xs:List Int),vs=[.ref p,.ref l] /\ Pen H p a c /\ Scr K H a ns /\ ns.length <= 63 /\ c <= 2000000 /\ H l=some (.lst (xs.map V.int)) /\ l ≠ p /\ xs.length <= 6 /\ (∀ x ∈ xs,x.natAbs < 2 ^ 40) /\
 ∀ (n:Int) H',n.natAbs < 2 ^ 40 -> Pen H' p a (c+20) -> Scr K H' a ns -> Chg p H H' -> Q (.int n) H'
def spFew24 (K:PySem.W.Frag):Sp:=fun vs H Q _=>∃ (p a:Addr) (ns:List Int) (c:Int),vs=[.ref p] /\ Pen H p a c /\ Scr K H a ns /\ ns.length <= 63 /\ c <= 1000000 /\
 ∀ (l:Addr) (xs:List Int) H',H l=none -> H' l=some (.lst (xs.map V.int)) -> l ≠ p -> xs.length <= 6 -> (∀ x ∈ xs,x.natAbs < 2 ^ 40) -> Pen H' p a (c+1000) -> Scr K H' a ns -> Chg p H H' -> Q (.ref l) H'
theorem uc_ded (xs:List Int):uc xs=ded ((xs.filter fun n=>decide (n ≠ 0)).map coreN):=by
 refine snoc_ind (p:=fun xs=>uc xs=ded ((xs.filter fun n=>decide (n ≠ 0)).map coreN)) rfl (fun xs x ih=>?_) xs
 rw [uc_snoc,List.filter_append,List.map_append]
 unfold ucs
 by_cases h:x=0
 ·rw [if_pos h,h,ih]
  show _=ded (_ ++ [])
  rw [List.append_nil]
 ·rw [if_neg h,List.filter_cons_of_pos (by simpa using h),List.filter_nil]
  show _=ded (_ ++ [coreN x])
  rw [ded_snoc,ih]
theorem cores_fm:∀ xs:List Int,(xs.filterMap fun n=>if n ≠ 0 then some (coreN n) else none)=(xs.filter fun n=>decide (n ≠ 0)).map coreN
 | []=>rfl
 | x :: r=>by
  rw [List.filterMap_cons,cores_fm r]
  by_cases h:x ≠ 0
  ·rw [if_pos h,List.filter_cons_of_pos (by simpa using h)]; rfl
  ·rw [if_neg h,List.filter_cons_of_neg (by simpa using h)]
theorem all_true (n:Nat):(rngV 0 n).filterMap (fun _=>some (V.bl true))=(qQ n true).map V.bl:=by
 have key:∀ xs:List V,xs.filterMap (fun _=>some (V.bl true))=(qQ xs.length true).map V.bl:=by
  intro xs
  induction xs with
  | nil=>rfl
  | cons x r ih=>rw [List.filterMap_cons,ih,List.length_cons,List.replicate_succ,List.map_cons]
 rw [key,rngV_len]
theorem abs_mul_lt {a b:Int}{m n k:Nat}(ha:a.natAbs < 2 ^ m)(hb:b.natAbs < 2 ^ n)(h:m+n <= k):(a * b).natAbs < 2 ^ k:=by
 rw [Int.natAbs_mul]
 refine qJ (Nat.mul_lt_mul'' ha hb) ?_
 rw [← Nat.pow_add]
 exact qN (by decide) h
theorem perm_cost {us vs:List Int}(h:us.Perm vs):costS us=costS vs:=by
 unfold costS
 induction h with
 | nil=>rfl
 | cons x _ ih=>rw [List.map_cons,List.map_cons,List.sum_cons,List.sum_cons,ih]
 | swap x y l=>simp only [List.map_cons,List.sum_cons]; omega
 | trans _ _ h1 h2=>exact h1.trans h2
theorem sum_cost:∀ us:List Int,(∀ c ∈ us,c ≠ 0) -> (us.map fun c=>((wn c:Nat):Int) - 1).sum=((costS us:Nat):Int)
 | [],_=>rfl
 | c :: r,h=>by
  have ih:=sum_cost r fun x hx=>h x (List.mem_cons_of_mem _ hx)
  have w0:wn c ≠ 0:=fun z=>h c List.mem_cons_self (wn_eq0.mp z)
  unfold costS at ih ⊢
  rw [List.map_cons,List.sum_cons,ih,List.map_cons,List.sum_cons]
  omega
theorem frm_one {n:Int}(h:n ≠ 0):∃ k g,Frm [n] [coreN n] k g:=by
 obtain ⟨c1,c2,k,_,c4,c5,_⟩:=core_props h
 refine ⟨k,sgN n,c5,?_,⟨coreN n,List.mem_singleton.mpr rfl,c2⟩,0,coreN n,rfl,c1,fun j y hj _=>by omega⟩
 show [n]=[sgN n * 2 ^ k * coreN n]
 have e:sgN n * 2 ^ k * coreN n=coreN n * 2 ^ k * sgN n:=by ac_rfl
 rw [e,c4]
theorem bare_nm {es:List Wd}(hw:∀ r ∈ rowsW 1 es,r.length=1)(B:BareP 1 es):(∀ n ∈ nm es,n ≠ 0) /\ ((nm es).map coreN).Nodup:=by
 have nz:∀ n ∈ nm es,n ≠ 0:=fun n hn z=>by
  obtain ⟨j,hj⟩:=List.getElem?_of_mem hn
  have jl:=(qB.mp hj).1
  rw [nm_len] at jl
  obtain ⟨fs,b,g,F⟩:=B.1 j jl
  rw [nm_at hw jl,getD_of hj,z] at F
  obtain ⟨_,x,hx,x0⟩:=F.nz
  exact x0 (List.mem_singleton.mp hx)
 refine ⟨nz,List.pairwise_iff_getElem.mpr fun i j hi hj hij e=>?_⟩
 rw [qC] at hi hj
 rw [List.getElem_map,List.getElem_map] at e
 have ei:=qA hi
 have ej:=qA hj
 obtain ⟨k,g,F⟩:=frm_one (nz _ (qE ei))
 obtain ⟨k',g',G⟩:=frm_one (nz _ (qE ej))
 rw [← e] at G
 rw [nm_len] at hi hj
 have:=B.2 i j _ k g k' g' hi hj (by rw [nm_at hw hi,getD_of ei]; exact F) (by rw [nm_at hw hj,getD_of ej]; exact G)
 omega
theorem ded_id:∀ xs:List Int,xs.Nodup -> ded xs=xs:=by
 refine snoc_ind (p:=fun xs:List Int=>xs.Nodup -> ded xs=xs) (fun _=>rfl) (fun xs x ih h=>?_)
 rw [List.nodup_append] at h
 rw [ded_snoc,ih h.1,if_neg fun z=>h.2.2 x z x (List.mem_singleton.mpr rfl) rfl]
def rLenZ (w:World):List V -> Hp -> VK -> Prop:=fun xs H Q=>∃ (a:Addr) (ks:List Int),xs=[.ref a] /\ H a=some (SetE w a ks) /\ ks.length <= 4000 /\ Q (.int ks.length) H
theorem call_lenZ {X:Cx}(w:World)(h:X.w=w:=by rfl):CallR X (.builtin "len") (rLenZ w):=by
 subst h
 intro pins s σ H xs us Q I r h
 obtain ⟨a,ks,rfl,ha,hn,q⟩:=h
 obtain ⟨u,rfl,ru⟩:=vals1 r
 cases ru
 obtain ⟨⟨es,ep,t,ho,S⟩,_⟩:=I.hok a _ ha
 have el:es.size=ks.length:=by have:=S.perm.length_eq; rw [qC] at this; simpa using this
 rw [← el] at q hn
 refine call_len_set ho ⟨rfl,rfl,rfl⟩ rfl S.fit (by omega) ⟨.int es.size,H,I.tok _,⟨_,rfl⟩,q⟩
theorem met_all {n:Nat}{ds:List Wd}{gs:List Go}{ms:List Nat}(M:Met n ds gs ds.length ms){x:Nat}(R:Rch n ds gs x):x ∈ ms:=by
 cases R with
 | root h1 h2=>exact M.root _ h1 h2
 | fst h1 _=>exact (M.cl _ _ (by omega) h1).1
 | snd h1 _=>exact (M.cl _ _ (by omega) h1).2
end L2
set_option Elab.async false
set_option linter.all false
set_option maxRecDepth 100000
set_option maxHeartbeats 1000000
namespace L2
open PySem PySem.Spec PyProof.Rows
end L2
end
section
set_option Elab.async false
set_option linter.all false
set_option maxRecDepth 100000
set_option maxHeartbeats 4000000
namespace Law
open PySem L2
open Option.some renaming injEq → qJs
open L2.HO.tup renaming injEq → qJt
open L2.HO.lst renaming injEq → qJl
open L2.HO.dK renaming injEq → qJd
def top (i:Nat):Stmt:=PySem.Challenge.pw_shiftsums_k24_shared_rows.main.body.getD i (.Pass ⟨0,0,0,0⟩)
abbrev s_core:Stmt:=top 1
theorem sc_core:FnScope ["number","size","shift","sign"] ["number"] (defScope s_core):=⟨rfl,rfl,rfl,by decide +kernel,rfl,by decide +kernel,by decide +kernel⟩
abbrev s_shifted:Stmt:=top 2
theorem sc_shifted:FnScope ["number","shift","halved"] ["number","shift"] (defScope s_shifted):=⟨rfl,rfl,rfl,by decide +kernel,rfl,by decide +kernel,by decide +kernel⟩
abbrev s_shifted_row:Stmt:=top 5
theorem sc_shifted_row:FnScope ["row","shift"] ["row","shift"] (defScope s_shifted_row):=⟨rfl,rfl,rfl,by decide +kernel,rfl,by decide +kernel,by decide +kernel⟩
abbrev s_input_rows:Stmt:=top 6
theorem sc_input_rows:FnScope ["ins"] ["ins"] (defScope s_input_rows):=⟨rfl,rfl,rfl,by decide +kernel,rfl,by decide +kernel,by decide +kernel⟩
abbrev s_input_row:Stmt:=top 7
theorem sc_input_row:FnScope ["ins","thing"] ["ins","thing"] (defScope s_input_row):=⟨rfl,rfl,rfl,by decide +kernel,rfl,by decide +kernel,by decide +kernel⟩
abbrev s_deed_row:Stmt:=top 8
theorem sc_deed_row:FnScope ["deed","rows","left","right","sign"] ["deed","rows"] (defScope s_deed_row):=⟨rfl,rfl,rfl,by decide +kernel,rfl,by decide +kernel,by decide +kernel⟩
abbrev s_second_sign:Stmt:=top 9
theorem sc_second_sign:FnScope ["deed"] ["deed"] (defScope s_second_sign):=⟨rfl,rfl,rfl,by decide +kernel,rfl,by decide +kernel,by decide +kernel⟩
abbrev s_numbers:Stmt:=top 10
theorem sc_numbers:FnScope ["web","rows","deed"] ["web"] (defScope s_numbers):=⟨rfl,rfl,rfl,by decide +kernel,rfl,by decide +kernel,by decide +kernel⟩
abbrev s_deed_arrows:Stmt:=top 11
theorem sc_deed_arrows:FnScope ["web","told","place","deed","thing"] ["web"] (defScope s_deed_arrows):=⟨rfl,rfl,rfl,by decide +kernel,rfl,by decide +kernel,by decide +kernel⟩
abbrev s_thing_count:Stmt:=top 12
theorem sc_thing_count:FnScope ["web"] ["web"] (defScope s_thing_count):=⟨rfl,rfl,rfl,by decide +kernel,rfl,by decide +kernel,by decide +kernel⟩
abbrev s_parts_of:Stmt:=top 14
theorem sc_parts_of:FnScope ["deed"] ["deed"] (defScope s_parts_of):=⟨rfl,rfl,rfl,by decide +kernel,rfl,by decide +kernel,by decide +kernel⟩
abbrev s_moved:Stmt:=top 15
theorem sc_moved:FnScope ["part","shift","sign"] ["part","shift","sign"] (defScope s_moved):=⟨rfl,rfl,rfl,by decide +kernel,rfl,by decide +kernel,by decide +kernel⟩
abbrev s_deed_of:Stmt:=top 16
theorem sc_deed_of:FnScope ["one","other"] ["one","other"] (defScope s_deed_of):=⟨rfl,rfl,rfl,by decide +kernel,rfl,by decide +kernel,by decide +kernel⟩
abbrev s_sign_of:Stmt:=top 17
theorem sc_sign_of:FnScope ["one","other"] ["one","other"] (defScope s_sign_of):=⟨rfl,rfl,rfl,by decide +kernel,rfl,by decide +kernel,by decide +kernel⟩
abbrev s_out_for:Stmt:=top 18
theorem sc_out_for:FnScope ["number","parts","found"] ["number","parts"] (defScope s_out_for):=⟨rfl,rfl,rfl,by decide +kernel,rfl,by decide +kernel,by decide +kernel⟩
abbrev s_signs:Stmt:=top 20
theorem sc_signs:FnScope ["number","digits","rest","digit"] ["number"] (defScope s_signs):=⟨rfl,rfl,rfl,by decide +kernel,rfl,by decide +kernel,by decide +kernel⟩
abbrev s_first_sign:Stmt:=top 21
theorem sc_first_sign:FnScope ["number"] ["number"] (defScope s_first_sign):=⟨rfl,rfl,rfl,by decide +kernel,rfl,by decide +kernel,by decide +kernel⟩
abbrev s_by_signs:Stmt:=top 23
theorem sc_by_signs:FnScope ["numbers","deeds","parts","odd"] ["numbers"] (defScope s_by_signs):=⟨rfl,rfl,rfl,by decide +kernel,rfl,by decide +kernel,by decide +kernel⟩
abbrev s_unlike_cores:Stmt:=top 24
theorem sc_unlike_cores:FnScope ["numbers","found","number"] ["numbers"] (defScope s_unlike_cores):=⟨rfl,rfl,rfl,by decide +kernel,rfl,by decide +kernel,by decide +kernel⟩
abbrev s_add_chain:Stmt:=top 25
theorem sc_add_chain:FnScope ["deeds","odd","made","gap","digit"] ["deeds","odd"] (defScope s_add_chain):=⟨rfl,rfl,rfl,by decide +kernel,rfl,by decide +kernel,by decide +kernel⟩
abbrev s_used:Stmt:=top 27
theorem sc_used:FnScope ["web","told","thing","shift","sign","start","goal"] ["web"] (defScope s_used):=⟨rfl,rfl,rfl,by decide +kernel,rfl,by decide +kernel,by decide +kernel⟩
abbrev s_pruned:Stmt:=top 28
theorem sc_pruned:FnScope ["web","ins","kept","renumbered","deeds","place","deed","outs"] ["web"] (defScope s_pruned):=⟨rfl,rfl,rfl,by decide +kernel,rfl,by decide +kernel,by decide +kernel⟩
abbrev s_form_of:Stmt:=top 29
theorem sc_form_of:FnScope ["row","cores","shift","sign"] ["row"] (defScope s_form_of):=⟨rfl,rfl,rfl,by decide +kernel,rfl,by decide +kernel,by decide +kernel⟩
abbrev s_bare:Stmt:=top 30
theorem sc_bare:FnScope ["web"] ["web"] (defScope s_bare):=⟨rfl,rfl,rfl,by decide +kernel,rfl,by decide +kernel,by decide +kernel⟩
abbrev s_merged:Stmt:=top 31
theorem sc_merged:FnScope ["web","forms","kept","deeds","thing","form","parts"] ["web"] (defScope s_merged):=⟨rfl,rfl,rfl,by decide +kernel,rfl,by decide +kernel,by decide +kernel⟩
abbrev s_part_by:Stmt:=top 32
theorem sc_part_by:FnScope ["kept","forms","part","form","stand"] ["kept","forms","part"] (defScope s_part_by):=⟨rfl,rfl,rfl,by decide +kernel,rfl,by decide +kernel,by decide +kernel⟩
abbrev s_shared:Stmt:=top 34
theorem sc_shared:FnScope ["numbers"] ["numbers"] (defScope s_shared):=⟨rfl,rfl,rfl,by decide +kernel,rfl,by decide +kernel,by decide +kernel⟩
abbrev s_l_pen:Stmt:=top 36
theorem sc_l_pen:FnScope ["_law_script"] ["_law_script"] (defScope s_l_pen):=⟨rfl,rfl,rfl,by decide +kernel,rfl,by decide +kernel,by decide +kernel⟩
abbrev s_l_draw:Stmt:=top 37
theorem sc_l_draw:FnScope ["_law_pen_here","_law_many","_law_digit","_law_script","_law_at","_law_cell","_law_number"] ["_law_pen_here","_law_many"] (defScope s_l_draw):=⟨rfl,rfl,rfl,by decide +kernel,rfl,by decide +kernel,by decide +kernel⟩
abbrev s_l_whole:Stmt:=top 38
theorem sc_l_whole:FnScope ["_law_thing"] ["_law_thing"] (defScope s_l_whole):=⟨rfl,rfl,rfl,by decide +kernel,rfl,by decide +kernel,by decide +kernel⟩
abbrev s_l_signs:Stmt:=top 39
theorem sc_l_signs:FnScope ["_law_number","_law_size","_law_found","_law_place"] ["_law_number"] (defScope s_l_signs):=⟨rfl,rfl,rfl,by decide +kernel,rfl,by decide +kernel,by decide +kernel⟩
abbrev s_l_least:Stmt:=top 40
theorem sc_l_least:FnScope ["_law_number"] ["_law_number"] (defScope s_l_least):=⟨rfl,rfl,rfl,by decide +kernel,rfl,by decide +kernel,by decide +kernel⟩
abbrev s_l_shifted:Stmt:=top 41
theorem sc_l_shifted:FnScope ["_law_number","_law_shift"] ["_law_number","_law_shift"] (defScope s_l_shifted):=⟨rfl,rfl,rfl,by decide +kernel,rfl,by decide +kernel,by decide +kernel⟩
abbrev s_l_is_thing:Stmt:=top 42
theorem sc_l_is_thing:FnScope ["_law_thing","_law_some"] ["_law_thing","_law_some"] (defScope s_l_is_thing):=⟨rfl,rfl,rfl,by decide +kernel,rfl,by decide +kernel,by decide +kernel⟩
abbrev s_l_deed:Stmt:=top 43
theorem sc_l_deed:FnScope ["_law_deed_here","_law_some","_law_one","_law_other"] ["_law_deed_here","_law_some"] (defScope s_l_deed):=⟨rfl,rfl,rfl,by decide +kernel,rfl,by decide +kernel,by decide +kernel⟩
abbrev s_l_out:Stmt:=top 44
theorem sc_l_out:FnScope ["_law_out_here","_law_some"] ["_law_out_here","_law_some"] (defScope s_l_out):=⟨rfl,rfl,rfl,by decide +kernel,rfl,by decide +kernel,by decide +kernel⟩
abbrev s_l_walked:Stmt:=top 45
theorem sc_l_walked:FnScope ["_law_web","_law_some","_law_deed_here","_law_number","_law_outs"] ["_law_web"] (defScope s_l_walked):=⟨rfl,rfl,rfl,by decide +kernel,rfl,by decide +kernel,by decide +kernel⟩
abbrev s_l_close:Stmt:=top 46
theorem sc_l_close:FnScope ["_law_pen_here","_law_found","_law_way","_law_small","_law_number"] ["_law_pen_here","_law_found"] (defScope s_l_close):=⟨rfl,rfl,rfl,by decide +kernel,rfl,by decide +kernel,by decide +kernel⟩
abbrev s_l_few:Stmt:=top 47
theorem sc_l_few:FnScope ["_law_pen_here","_law_found","_law_k"] ["_law_pen_here"] (defScope s_l_few):=⟨rfl,rfl,rfl,by decide +kernel,rfl,by decide +kernel,by decide +kernel⟩
abbrev s_l_core:Stmt:=top 48
theorem sc_l_core:FnScope ["_law_number","_law_size"] ["_law_number"] (defScope s_l_core):=⟨rfl,rfl,rfl,by decide +kernel,rfl,by decide +kernel,by decide +kernel⟩
abbrev s_l_used:Stmt:=top 49
theorem sc_l_used:FnScope ["_law_web","_law_some","_law_k"] ["_law_web"] (defScope s_l_used):=⟨rfl,rfl,rfl,by decide +kernel,rfl,by decide +kernel,by decide +kernel⟩
abbrev s_l_right:Stmt:=top 50
theorem sc_l_right:FnScope ["_law_web","_law_due","_law_found","_law_cores","_law_things","_law_there"] ["_law_web","_law_due"] (defScope s_l_right):=⟨rfl,rfl,rfl,by decide +kernel,rfl,by decide +kernel,by decide +kernel⟩
abbrev s_law:Stmt:=top 51
theorem sc_law:FnScope ["_law_script","_law_pen_here","_law_turn","_law_due","_law_handed","_law_web"] ["_law_script"] (defScope s_law):=⟨rfl,rfl,rfl,by decide +kernel,rfl,by decide +kernel,by decide +kernel⟩
structure Bl (mg:Str -> Option Value):Prop where
 abs:mg "abs" = none
 all:mg "all" = none
 bool:mg "bool" = none
 enumerate:mg "enumerate" = none
 int:mg "int" = none
 isinstance:mg "isinstance" = none
 len:mg "len" = none
 list:mg "list" = none
 min:mg "min" = none
 range:mg "range" = none
 reversed:mg "reversed" = none
 «set»:mg "set" = none
 sorted:mg "sorted" = none
 sum:mg "sum" = none
 tuple:mg "tuple" = none
 zip:mg "zip" = none
structure Txt (K:PySem.W.Frag) (mg:Str -> Option Value):Prop where
 bl:Bl mg
 t_core:∃ (f:Addr) (fd:FuncData),Fun K "core" "core" s_core f fd /\ mg "core" = some (.ref f) /\ Binds K fd ["number"] []
 t_shifted:∃ (f:Addr) (fd:FuncData),Fun K "shifted" "shifted" s_shifted f fd /\ mg "shifted" = some (.ref f) /\ Binds K fd ["number","shift"] []
 t_shifted_row:∃ (f:Addr) (fd:FuncData),Fun K "shifted_row" "shifted_row" s_shifted_row f fd /\ mg "shifted_row" = some (.ref f) /\ Binds K fd ["row","shift"] []
 t_input_rows:∃ (f:Addr) (fd:FuncData),Fun K "input_rows" "input_rows" s_input_rows f fd /\ mg "input_rows" = some (.ref f) /\ Binds K fd ["ins"] []
 t_input_row:∃ (f:Addr) (fd:FuncData),Fun K "input_row" "input_row" s_input_row f fd /\ mg "input_row" = some (.ref f) /\ Binds K fd ["ins","thing"] []
 t_deed_row:∃ (f:Addr) (fd:FuncData),Fun K "deed_row" "deed_row" s_deed_row f fd /\ mg "deed_row" = some (.ref f) /\ Binds K fd ["deed","rows"] []
 t_second_sign:∃ (f:Addr) (fd:FuncData),Fun K "second_sign" "second_sign" s_second_sign f fd /\ mg "second_sign" = some (.ref f) /\ Binds K fd ["deed"] []
 t_numbers:∃ (f:Addr) (fd:FuncData),Fun K "numbers" "numbers" s_numbers f fd /\ mg "numbers" = some (.ref f) /\ Binds K fd ["web"] []
 t_deed_arrows:∃ (f:Addr) (fd:FuncData),Fun K "deed_arrows" "deed_arrows" s_deed_arrows f fd /\ mg "deed_arrows" = some (.ref f) /\ Binds K fd ["web"] []
 t_thing_count:∃ (f:Addr) (fd:FuncData),Fun K "thing_count" "thing_count" s_thing_count f fd /\ mg "thing_count" = some (.ref f) /\ Binds K fd ["web"] []
 t_parts_of:∃ (f:Addr) (fd:FuncData),Fun K "parts_of" "parts_of" s_parts_of f fd /\ mg "parts_of" = some (.ref f) /\ Binds K fd ["deed"] []
 t_moved:∃ (f:Addr) (fd:FuncData),Fun K "moved" "moved" s_moved f fd /\ mg "moved" = some (.ref f) /\ Binds K fd ["part","shift","sign"] []
 t_deed_of:∃ (f:Addr) (fd:FuncData),Fun K "deed_of" "deed_of" s_deed_of f fd /\ mg "deed_of" = some (.ref f) /\ Binds K fd ["one","other"] []
 t_sign_of:∃ (f:Addr) (fd:FuncData),Fun K "sign_of" "sign_of" s_sign_of f fd /\ mg "sign_of" = some (.ref f) /\ Binds K fd ["one","other"] []
 t_out_for:∃ (f:Addr) (fd:FuncData),Fun K "out_for" "out_for" s_out_for f fd /\ mg "out_for" = some (.ref f) /\ Binds K fd ["number","parts"] []
 t_signs:∃ (f:Addr) (fd:FuncData),Fun K "signs" "signs" s_signs f fd /\ mg "signs" = some (.ref f) /\ Binds K fd ["number"] []
 t_first_sign:∃ (f:Addr) (fd:FuncData),Fun K "first_sign" "first_sign" s_first_sign f fd /\ mg "first_sign" = some (.ref f) /\ Binds K fd ["number"] []
 t_by_signs:∃ (f:Addr) (fd:FuncData),Fun K "by_signs" "by_signs" s_by_signs f fd /\ mg "by_signs" = some (.ref f) /\ Binds K fd ["numbers"] []
 t_unlike_cores:∃ (f:Addr) (fd:FuncData),Fun K "unlike_cores" "unlike_cores" s_unlike_cores f fd /\ mg "unlike_cores" = some (.ref f) /\ Binds K fd ["numbers"] []
 t_add_chain:∃ (f:Addr) (fd:FuncData),Fun K "add_chain" "add_chain" s_add_chain f fd /\ mg "add_chain" = some (.ref f) /\ Binds K fd ["deeds","odd"] []
 t_used:∃ (f:Addr) (fd:FuncData),Fun K "used" "used" s_used f fd /\ mg "used" = some (.ref f) /\ Binds K fd ["web"] []
 t_pruned:∃ (f:Addr) (fd:FuncData),Fun K "pruned" "pruned" s_pruned f fd /\ mg "pruned" = some (.ref f) /\ Binds K fd ["web"] []
 t_form_of:∃ (f:Addr) (fd:FuncData),Fun K "form_of" "form_of" s_form_of f fd /\ mg "form_of" = some (.ref f) /\ Binds K fd ["row"] []
 t_bare:∃ (f:Addr) (fd:FuncData),Fun K "bare" "bare" s_bare f fd /\ mg "bare" = some (.ref f) /\ Binds K fd ["web"] []
 t_merged:∃ (f:Addr) (fd:FuncData),Fun K "merged" "merged" s_merged f fd /\ mg "merged" = some (.ref f) /\ Binds K fd ["web"] []
 t_part_by:∃ (f:Addr) (fd:FuncData),Fun K "part_by" "part_by" s_part_by f fd /\ mg "part_by" = some (.ref f) /\ Binds K fd ["kept","forms","part"] []
 t_shared:∃ (f:Addr) (fd:FuncData),Fun K "shared" "shared" s_shared f fd /\ mg "shared" = some (.ref f) /\ Binds K fd ["numbers"] []
 t_l_pen:∃ (f:Addr) (fd:FuncData),Fun K "_law_pen" "_law_pen" s_l_pen f fd /\ mg "_law_pen" = some (.ref f) /\ Binds K fd ["_law_script"] []
 t_l_draw:∃ (f:Addr) (fd:FuncData),Fun K "_law_draw" "_law_draw" s_l_draw f fd /\ mg "_law_draw" = some (.ref f) /\ Binds K fd ["_law_pen_here","_law_many"] []
 t_l_whole:∃ (f:Addr) (fd:FuncData),Fun K "_law_whole" "_law_whole" s_l_whole f fd /\ mg "_law_whole" = some (.ref f) /\ Binds K fd ["_law_thing"] []
 t_l_signs:∃ (f:Addr) (fd:FuncData),Fun K "_law_signs" "_law_signs" s_l_signs f fd /\ mg "_law_signs" = some (.ref f) /\ Binds K fd ["_law_number"] []
 t_l_least:∃ (f:Addr) (fd:FuncData),Fun K "_law_least" "_law_least" s_l_least f fd /\ mg "_law_least" = some (.ref f) /\ Binds K fd ["_law_number"] []
 t_l_shifted:∃ (f:Addr) (fd:FuncData),Fun K "_law_shifted" "_law_shifted" s_l_shifted f fd /\ mg "_law_shifted" = some (.ref f) /\ Binds K fd ["_law_number","_law_shift"] []
 t_l_is_thing:∃ (f:Addr) (fd:FuncData),Fun K "_law_is_thing" "_law_is_thing" s_l_is_thing f fd /\ mg "_law_is_thing" = some (.ref f) /\ Binds K fd ["_law_thing","_law_some"] []
 t_l_deed:∃ (f:Addr) (fd:FuncData),Fun K "_law_deed" "_law_deed" s_l_deed f fd /\ mg "_law_deed" = some (.ref f) /\ Binds K fd ["_law_deed_here","_law_some"] []
 t_l_out:∃ (f:Addr) (fd:FuncData),Fun K "_law_out" "_law_out" s_l_out f fd /\ mg "_law_out" = some (.ref f) /\ Binds K fd ["_law_out_here","_law_some"] []
 t_l_walked:∃ (f:Addr) (fd:FuncData),Fun K "_law_walked" "_law_walked" s_l_walked f fd /\ mg "_law_walked" = some (.ref f) /\ Binds K fd ["_law_web"] []
 t_l_close:∃ (f:Addr) (fd:FuncData),Fun K "_law_close" "_law_close" s_l_close f fd /\ mg "_law_close" = some (.ref f) /\ Binds K fd ["_law_pen_here","_law_found"] []
 t_l_few:∃ (f:Addr) (fd:FuncData),Fun K "_law_few" "_law_few" s_l_few f fd /\ mg "_law_few" = some (.ref f) /\ Binds K fd ["_law_pen_here"] []
 t_l_core:∃ (f:Addr) (fd:FuncData),Fun K "_law_core" "_law_core" s_l_core f fd /\ mg "_law_core" = some (.ref f) /\ Binds K fd ["_law_number"] []
 t_l_used:∃ (f:Addr) (fd:FuncData),Fun K "_law_used" "_law_used" s_l_used f fd /\ mg "_law_used" = some (.ref f) /\ Binds K fd ["_law_web"] []
 t_l_right:∃ (f:Addr) (fd:FuncData),Fun K "_law_right" "_law_right" s_l_right f fd /\ mg "_law_right" = some (.ref f) /\ Binds K fd ["_law_web","_law_due"] []
 t_law:∃ (f:Addr) (fd:FuncData),Fun K "law" "law" s_law f fd /\ mg "law" = some (.ref f) /\ Binds K fd ["_law_script"] []
 c_NO_OUT:∃ t:Addr,mg "NO_OUT" = some (.ref t) /\ CT0 K t
local macro_rules | `(tactic| walk_at "WP")=>`(tactic| (first | (dsimp only [w_gLst,w_forE,w_compE,w_compZ,w_for3,w_gTupK,w_ixT,w_eqS,w_aug,w_ipI,w_dnK,w_maxD,w_sl,w_noPart,w_part,w_slL,w_var,w_C,w_op,w_un,w_rI,w_rI0,w_rU,w_eqI,w_neI,w_eqB,w_neB,w_seq,w_next,w_break,w_cont,w_ifS,w_ret,w_retN,w_drop,w_asg,w_gName,w_gSub,w_test,w_B,w_and,w_or,w_not,w_andV,w_orV,w_notV,w_if,w_call,w_nil,w_cons,w_CB,w_lst,w_tup,w_isN,w_notN,w_chain,w_for1,w_for2b,w_On2,w_forL,w_forT,w_forV,w_compL,w_compT,w_comp1,w_comp2b,w_yes,w_bm,w_bm0,w_rBits,w_tyInt,w_gTupM,w_gCons,w_gNil,w_dgS,w_dgI,w_sDP,w_dpS,w_dpI,w_dII,w_disp,tPairs,pen_s,pen_a,pen_l,pen_len,pen_pa,pen_pl,qJd,w_append,List.getElem?_cons_zero,List.getElem?_cons_succ,List.set_cons_zero,List.set_cons_succ,qJs,V.int.injEq,V.bl.injEq,V.ref.injEq,V.str.injEq,exists_eq_left',exists_eq_left,List.append_nil,List.cons.injEq,and_true,true_and,exists_and_left,decide_eq_true_eq,Bool.not_eq_true',decide_eq_false_iff_not,Bool.not_true,Bool.not_false,w_ixM,w_ixU,w_ixL,w_setL,w_cxK,w_isI_ii,w_isI_ib,w_isI_bi,w_isI_bb,w_isI_ni,w_isI_nb,w_isI_si,w_isI_sb,sl_0,sl_1,sl_2,sl_3,sl_4,sl_5,sl_6,sl_7,sl_8,CPowB,w_shl1,at_0,at_1,at_2,at_3,ixN_0,ixN_1,ixN_2,upd_same,qJl,qJt,Int.reduceToNat,Int.reducePow,Int.reduceNeg,Int.reduceLT,Int.reduceLE,Int.reduceMod,Int.reduceMul,Int.reduceAdd,Int.reduceSub,Int.reduceDiv,Int.reduceEq,ite_true,ite_false,if_true,if_false,Bool.true_eq_false,Bool.false_eq_true,List.length_cons,List.length_nil,reduceCtorEq,false_and,and_false,not_false_eq_true,not_true_eq_false,exists_false,false_or,or_false,w_pop,w_extend,w_reverse,w_clear,w_cat,w_LZ,w_LR,w_forD,w_compZ2,w_sDPT,w_dpT,w_dIT,w_dgT,w_dnT,w_eqE,w_neE,w_revL,w_dget1,w_dget2]; try simp only [w_gLst,w_forE,w_compE,w_compZ,w_for3,w_gTupK,w_ixT,w_eqS,w_aug,w_ipI,w_dnK,w_maxD,w_sl,w_noPart,w_part,w_slL,w_var,w_C,w_op,w_un,w_rI,w_rI0,w_rU,w_eqI,w_neI,w_eqB,w_neB,w_seq,w_next,w_break,w_cont,w_ifS,w_ret,w_retN,w_drop,w_asg,w_gName,w_gSub,w_test,w_B,w_and,w_or,w_not,w_andV,w_orV,w_notV,w_if,w_call,w_nil,w_cons,w_CB,w_lst,w_tup,w_isN,w_notN,w_chain,w_for1,w_for2b,w_On2,w_forL,w_forT,w_forV,w_compL,w_compT,w_comp1,w_comp2b,w_yes,w_bm,w_bm0,w_rBits,w_tyInt,w_gTupM,w_gCons,w_gNil,w_dgS,w_dgI,w_sDP,w_dpS,w_dpI,w_dII,w_disp,tPairs,pen_s,pen_a,pen_l,pen_len,pen_pa,pen_pl,qJd,w_append,List.getElem?_cons_zero,List.getElem?_cons_succ,List.set_cons_zero,List.set_cons_succ,qJs,V.int.injEq,V.bl.injEq,V.ref.injEq,V.str.injEq,exists_eq_left',exists_eq_left,List.append_nil,List.cons.injEq,and_true,true_and,exists_and_left,decide_eq_true_eq,Bool.not_eq_true',decide_eq_false_iff_not,Bool.not_true,Bool.not_false,w_ixM,w_ixU,w_ixL,w_setL,w_cxK,w_isI_ii,w_isI_ib,w_isI_bi,w_isI_bb,w_isI_ni,w_isI_nb,w_isI_si,w_isI_sb,sl_0,sl_1,sl_2,sl_3,sl_4,sl_5,sl_6,sl_7,sl_8,CPowB,w_shl1,at_0,at_1,at_2,at_3,ixN_0,ixN_1,ixN_2,upd_same,qJl,qJt,Int.reduceToNat,Int.reducePow,Int.reduceNeg,Int.reduceLT,Int.reduceLE,Int.reduceMod,Int.reduceMul,Int.reduceAdd,Int.reduceSub,Int.reduceDiv,Int.reduceEq,ite_true,ite_false,if_true,if_false,Bool.true_eq_false,Bool.false_eq_true,List.length_cons,List.length_nil,reduceCtorEq,false_and,and_false,not_false_eq_true,not_true_eq_false,exists_false,false_or,or_false,w_pop,w_extend,w_reverse,w_clear,w_cat,w_LZ,w_LR,w_forD,w_compZ2,w_sDPT,w_dpT,w_dIT,w_dgT,w_dnT,w_eqE,w_neE,w_revL,w_dget1,w_dget2]) | simp only [w_gLst,w_forE,w_compE,w_compZ,w_for3,w_gTupK,w_ixT,w_eqS,w_aug,w_ipI,w_dnK,w_maxD,w_sl,w_noPart,w_part,w_slL,w_var,w_C,w_op,w_un,w_rI,w_rI0,w_rU,w_eqI,w_neI,w_eqB,w_neB,w_seq,w_next,w_break,w_cont,w_ifS,w_ret,w_retN,w_drop,w_asg,w_gName,w_gSub,w_test,w_B,w_and,w_or,w_not,w_andV,w_orV,w_notV,w_if,w_call,w_nil,w_cons,w_CB,w_lst,w_tup,w_isN,w_notN,w_chain,w_for1,w_for2b,w_On2,w_forL,w_forT,w_forV,w_compL,w_compT,w_comp1,w_comp2b,w_yes,w_bm,w_bm0,w_rBits,w_tyInt,w_gTupM,w_gCons,w_gNil,w_dgS,w_dgI,w_sDP,w_dpS,w_dpI,w_dII,w_disp,tPairs,pen_s,pen_a,pen_l,pen_len,pen_pa,pen_pl,qJd,w_append,List.getElem?_cons_zero,List.getElem?_cons_succ,List.set_cons_zero,List.set_cons_succ,qJs,V.int.injEq,V.bl.injEq,V.ref.injEq,V.str.injEq,exists_eq_left',exists_eq_left,List.append_nil,List.cons.injEq,and_true,true_and,exists_and_left,decide_eq_true_eq,Bool.not_eq_true',decide_eq_false_iff_not,Bool.not_true,Bool.not_false,w_ixM,w_ixU,w_ixL,w_setL,w_cxK,w_isI_ii,w_isI_ib,w_isI_bi,w_isI_bb,w_isI_ni,w_isI_nb,w_isI_si,w_isI_sb,sl_0,sl_1,sl_2,sl_3,sl_4,sl_5,sl_6,sl_7,sl_8,CPowB,w_shl1,at_0,at_1,at_2,at_3,ixN_0,ixN_1,ixN_2,upd_same,qJl,qJt,Int.reduceToNat,Int.reducePow,Int.reduceNeg,Int.reduceLT,Int.reduceLE,Int.reduceMod,Int.reduceMul,Int.reduceAdd,Int.reduceSub,Int.reduceDiv,Int.reduceEq,ite_true,ite_false,if_true,if_false,Bool.true_eq_false,Bool.false_eq_true,List.length_cons,List.length_nil,reduceCtorEq,false_and,and_false,not_false_eq_true,not_true_eq_false,exists_false,false_or,or_false,w_pop,w_extend,w_reverse,w_clear,w_cat,w_LZ,w_LR,w_forD,w_compZ2,w_sDPT,w_dpT,w_dIT,w_dgT,w_dnT,w_eqE,w_neE,w_revL,w_dget1,w_dget2]))
local macro_rules | `(tactic| walk_at "o") => `(tactic| first | exact .inl rfl | exact .inr rfl | assumption)
section
variable {P:Program}{w:World}{K:PySem.W.Frag}{mg:Str -> Option Value}{base:Heap}
theorem ok_pen (T:Txt K mg):Cal P w K mg base 1 "_law_pen" ["_law_script"] (spPen K):=by
 have B:=T.bl
 refine mkCal T.t_l_pen sc_l_pen (fun vs H Q E h=>?_) (fun f cdv A outer s H vs Q E hr h=>?_)
 ·obtain ⟨a,rfl,_⟩:=h
  rfl
 obtain ⟨a,rfl,q⟩:=h
 refine ⟨_,((@pss_one _ _ _ (@ps_ret _ _ _ _ (@pe_disp _ _ _ _ _ (@pps_cons _ _ _ _ _ _ _ _ _ pe_str (pv 0) (@pps_cons _ _ _ _ _ _ _ _ _ pe_str pe_int (@pps_cons _ _ _ _ _ _ _ _ _ pe_str pe_int pps_nil))) rfl rfl (by simp) (by decide))))),?_⟩
 rw [show start ["_law_script"] [.ref a]=[some (.ref a)] from rfl]
 try walk_at "WP"
 intro p hp
 refine ⟨penKV a 0 0,rfl,(by show 3 <= 15; decide),?_⟩
 rw [pen_mk,upd_upd]
 exact q p _ hp (same_new hp _) (pen_of (by decide) (by decide) (by decide))
theorem ok_draw (T:Txt K mg):Cal P w K mg base 1 "_law_draw" ["_law_pen_here","_law_many"] (spDraw K):=by
 have B:=T.bl
 refine mkCal T.t_l_draw sc_l_draw (fun vs H Q E h=>?_) (fun f cdv A outer s H vs Q E hr h=>?_)
 ·obtain ⟨p,a,ns,m,c,rfl,_⟩:=h
  rfl
 obtain ⟨p,a,ns,m,c_,rfl,hP,hS,h63,hc,h1,h2,q⟩:=h
 refine ⟨_,((@pss_cons _ _ _ _ _ (@ps_if _ _ _ _ _ _ _ _ (@pt_cmpR _ _ _ _ _ _ _ _ op_gt (@pe_dgM _ _ _ _ _ _ (@hu_of _ _ hr) (pv 0) pe_str (fun _ _=>rfl)) pe_int (@nomark _ _ (by decide) (by decide))) (@pss_cons _ _ _ _ _ (@ps_set _ _ (2) _ _ _ _ sc_l_draw.nd rfl (by walk_at "o") (@pe_op _ _ _ _ _ _ _ _ op_mod (@pe_dgM _ _ _ _ _ _ (@hu_of _ _ hr) (pv 0) pe_str (fun _ _=>rfl)) (pv 1)) (by rfl) (by walk_at "o")) (@pss_cons _ _ _ _ _ (@ps_dpM _ _ _ _ _ _ _ _ _ (@hu_of _ _ hr) (pv 0) pe_str (@pe_op _ _ _ _ _ _ _ _ op_fdivB (@pe_dgM _ _ _ _ _ _ (@hu_of _ _ hr) (pv 0) pe_str (fun _ _=>rfl)) (pv 1)) rfl) (@pss_one _ _ _ (@ps_ret _ _ _ _ (pv 2))))) pss_nil) (@pss_cons _ _ _ _ _ (@ps_set _ _ (3) _ _ _ _ sc_l_draw.nd rfl (by walk_at "o") (@pe_dgM _ _ _ _ _ _ (@hu_of _ _ hr) (pv 0) pe_str (fun _ _=>rfl)) (by rfl) (by walk_at "o")) (@pss_cons _ _ _ _ _ (@ps_set _ _ (4) _ _ _ _ sc_l_draw.nd rfl (by walk_at "o") (@pe_dgM _ _ _ _ _ _ (@hu_of _ _ hr) (pv 0) pe_str (fun _ _=>rfl)) (by rfl) (by walk_at "o")) (@pss_cons _ _ _ _ _ (@ps_dpM _ _ _ _ _ _ _ _ _ (@hu_of _ _ hr) (pv 0) pe_str (@pe_op _ _ _ _ _ _ _ _ op_add (pv 4) pe_int) rfl) (@pss_cons _ _ _ _ _ (@ps_set _ _ (5) _ _ _ _ sc_l_draw.nd rfl (by walk_at "o") (@pe_op _ _ _ _ _ _ _ _ op_add (@pe_op _ _ _ _ _ _ _ _ op_mulB pe_int (pv 4)) pe_int) (by rfl) (by walk_at "o")) (@pss_mid _ _ _ _ _ (@ps_if _ _ _ _ _ _ _ _ (@pt_cmpR _ _ _ _ _ _ _ _ (@op_neD _ _ hr) (pv 3) (@pe_lst _ _ _ _ pa_nil) (@nomark _ _ (by decide) (by decide))) (@pss_one _ _ _ (@ps_set _ _ (5) _ _ _ _ sc_l_draw.nd rfl (by walk_at "o") (@pe_ix _ _ _ _ _ _ _ ix_list (pv 3) (@pe_op _ _ _ _ _ _ _ _ op_mod (pv 4) (@pe_callB _ _ _ _ _ _ _ _ _ call_lenS rfl B.len bo_len (@pa_cons _ _ _ _ _ (pv 3) pa_nil (by rfl)) (by decide) (by decide) (by rfl) (by rfl))) (fun _ _=>rfl)) (by rfl) (by walk_at "o"))) pss_nil) (@pss_cons _ _ _ _ _ (@ps_if _ _ _ _ _ _ _ _ (@PW.pt _ _ _ (@pw_and _ _ _ _ _ _ _ (@pt_cmpR _ _ _ _ _ _ _ _ op_lt (pv 4) (@pe_callB _ _ _ _ _ _ _ _ _ call_lenS rfl B.len bo_len (@pa_cons _ _ _ _ _ (pv 3) pa_nil (by rfl)) (by decide) (by decide) (by rfl) (by rfl)) (@nomark _ _ (by decide) (by decide))) (@pw_and1 _ _ _ _ (@pt_cmpR _ _ _ _ _ _ _ _ op_ge (@pe_callB _ _ _ _ _ _ _ _ _ call_abs rfl B.abs bo_abs (@pa_cons _ _ _ _ _ (pv 5) pa_nil (by rfl)) (by decide) (by decide) (by rfl) (by rfl)) (@pe_op _ _ _ _ _ _ _ _ op_powB pe_int pe_int) (@nomark _ _ (by decide) (by decide)))))) (@pss_cons _ _ _ _ _ (@ps_dpM _ _ _ _ _ _ _ _ _ (@hu_of _ _ hr) (pv 0) pe_str (@pe_op _ _ _ _ _ _ _ _ op_fdivB (@pe_callB _ _ _ _ _ _ _ _ _ call_abs rfl B.abs bo_abs (@pa_cons _ _ _ _ _ (pv 5) pa_nil (by rfl)) (by decide) (by decide) (by rfl) (by rfl)) (pv 1)) rfl) (@pss_one _ _ _ (@ps_ret _ _ _ _ (@pe_op _ _ _ _ _ _ _ _ op_mod (@pe_callB _ _ _ _ _ _ _ _ _ call_abs rfl B.abs bo_abs (@pa_cons _ _ _ _ _ (pv 5) pa_nil (by rfl)) (by decide) (by decide) (by rfl) (by rfl)) (pv 1))))) pss_nil) (@pss_cons _ _ _ _ _ (@ps_set _ _ (6) _ _ _ _ sc_l_draw.nd rfl (by walk_at "o") (@pe_op _ _ _ _ _ _ _ _ op_mod (@pe_op _ _ _ _ _ _ _ _ op_mulB (@pe_op _ _ _ _ _ _ _ _ op_add (@pe_op _ _ _ _ _ _ _ _ op_add (@pe_op _ _ _ _ _ _ _ _ op_mod (pv 5) pe_int) (@pe_op _ _ _ _ _ _ _ _ op_mulB pe_int (pv 4))) pe_int) pe_int) pe_int) (by rfl) (by walk_at "o")) (@pss_cons _ _ _ _ _ (@ps_set _ _ (6) _ _ _ _ sc_l_draw.nd rfl (by walk_at "o") (@pe_op _ _ _ _ _ _ _ _ op_mod (@pe_op _ _ _ _ _ _ _ _ op_add (@pe_op _ _ _ _ _ _ _ _ op_add (@pe_op _ _ _ _ _ _ _ _ op_mulB (pv 6) (pv 6)) (@pe_op _ _ _ _ _ _ _ _ op_mulB pe_int (pv 6))) (pv 4)) pe_int) (by rfl) (by walk_at "o")) (@pss_one _ _ _ (@ps_ret _ _ _ _ (@pe_op _ _ _ _ _ _ _ _ op_mod (@pe_op _ _ _ _ _ _ _ _ op_fdivB (pv 6) pe_int) (pv 1)))))))))))))),?_⟩
 rw [show start ["_law_pen_here","_law_many","_law_digit","_law_script","_law_at","_law_cell","_law_number"] [.ref p,.int m]=[some (.ref p),some (.int m),none,none,none,none,none] from rfl]
 obtain ⟨t,l,hH,ht0,htc,hl⟩:=id hP
 (iterate 5 ((try (walk_at "WP")); (try (simp only [hH,qJs,qJt,qJl,qJd,exists_eq_left',exists_eq_left])))); (try (walk_at "WP"))
 refine ite2 (fun c=>?_) (fun c=>?_)
 ·exact ⟨by omega,divB (by omega) h2,q _ _ (modq (by omega)).1 (modq (by omega)).2 (pen_of ht0 (by omega) (divq hl (by omega))) (hS.pen hP (Chg.upd _)) (Chg.upd _)⟩
 refine ⟨mul_l (by decide) (by decide),?_⟩
 have hS1:=hS.pen hP (Chg.upd (.dK (penKV a (t+1) l)))
 have hP1:Pen (upd H p (.dK (penKV a (t+1) l))) p a (c_+1):=pen_of (by omega) (by omega) hl
 have C1:Chg p H (upd H p (.dK (penKV a (t+1) l))):=Chg.upd _
 have hp1:(upd H p (.dK (penKV a (t+1) l))) p=some (.dK (penKV a (t+1) l)):=upd_same
 generalize upd H p (.dK (penKV a (t+1) l))=H1 at *
 refine mid_of (fun σ H2=>∃ (cell:Int) (o6:Option V),σ = [some (.ref p),some (.int m),none,some (.ref a),some (.int t),some (.int cell),o6] /\ o6=none /\ Same H1 H2) (fun N hN=>?_) ?_
 ·try walk_at "WP"
  intro e he
  have sm:=same_new he (.lst [])
  refine neLI (ms:=[]) (hS1.same sm).sq (SqL.of upd_same) ?_
  try walk_at "WP"
  generalize upd H1 e (.lst [])=H2 at sm ⊢
  refine ite2 (fun z=>?_) (fun z=>?_)
  ·have hne:0 < ns.length:=List.length_pos_iff.mpr z
   refine ⟨_,(hS1.same sm).sq,by rw [qC]; omega,_,(hS1.same sm).sq,?_⟩
   rw [qC]
   have b:=modq (g:=t) (m:=(ns.length:Int)) (by omega)
   obtain ⟨v,hv,_⟩:=atI_int (ns:=ns) b.1 b.2
   exact ⟨_,hv,hN _ _ ⟨v,_,rfl,rfl,sm⟩⟩
  ·exact hN _ _ ⟨_,_,rfl,rfl,sm⟩
 ·rintro σ H2 ⟨cell,o6,rfl,rfl,sm⟩
  have hS2:=hS1.same sm
  have hP2:=hP1.same sm
  have hp2:=sm _ _ hp1
  have C2:Chg p H H2:=C1.trans sm.chg
  (iterate 5 ((try (walk_at "WP")); (try (simp only [hp2,qJs,qJt,qJl,qJd,exists_eq_left',exists_eq_left])))); (try (walk_at "WP"))
  refine ⟨_,hS2.sq,?_⟩
  have last:IntMulOk 104729 t /\ IntMulOk (cell % 2147483629+104729 * t+3) 48271 /\ IntMulOk ((cell % 2147483629+104729 * t+3) * 48271 % 2147483647) ((cell % 2147483629+104729 * t+3) * 48271 % 2147483647) /\ IntMulOk 69621 ((cell % 2147483629+104729 * t+3) * 48271 % 2147483647) /\
    CDivB (((cell % 2147483629+104729 * t+3) * 48271 % 2147483647 * ((cell % 2147483629+104729 * t+3) * 48271 % 2147483647)+69621 * ((cell % 2147483629+104729 * t+3) * 48271 % 2147483647)+t) % 2147483587) 8 /\ 0 < m /\
    Q (V.int (((cell % 2147483629+104729 * t+3) * 48271 % 2147483647 * ((cell % 2147483629+104729 * t+3) * 48271 % 2147483647)+69621 * ((cell % 2147483629+104729 * t+3) * 48271 % 2147483647)+t) % 2147483587 / 8 % m)) H2 :=
   ⟨mul_l (by decide) (by decide),mul_r (by decide) (by decide),mul_l (by omega) (by omega),mul_l (by decide) (by decide),divB (by decide) (by decide),by omega,q _ _ (modq (by omega)).1 (modq (by omega)).2 hP2 hS2 C2⟩
  refine ite2 (fun _=>?_) (fun _=>last)
  refine ite2 (fun _=>?_) (fun _=>last)
  have h0:0 <= (if cell < 0 then -cell else cell):=by split <;> omega
  refine ⟨divB (by omega) h2,by omega,?_⟩
  exact q _ _ (modq (by omega)).1 (modq (by omega)).2 (pen_of (by omega) (by omega) (divq h0 (by omega))) (hS2.pen hP2 (Chg.upd _)) (C2.trans (Chg.upd _))
end
section
variable {P:Program}{w:World}{K:PySem.W.Frag}{mg:Str -> Option Value}{base:Heap}
theorem ok_first (T:Txt K mg):Cal P w K mg base 1 "first_sign" ["number"] spFirst:=by
 have B:=T.bl
 refine mkCal T.t_first_sign sc_first_sign (fun vs H Q E h=>?_) (fun f cdv A outer s H vs Q E hr h=>?_)
 ·obtain ⟨n,rfl,_⟩:=h
  rfl
 obtain ⟨n,rfl,q⟩:=h
 refine ⟨_,((@pss_cons _ _ _ _ _ (@ps_if _ _ _ _ _ _ _ _ (@pt_cmpR _ _ _ _ _ _ _ _ op_eq (@pe_op _ _ _ _ _ _ _ _ op_and (pv 0) pe_int) pe_int (@nomark _ _ (by decide) (by decide))) (@pss_one _ _ _ (@ps_ret _ _ _ _ pe_int)) pss_nil) (@pss_one _ _ _ (@ps_ret _ _ _ _ (@pe_op _ _ _ _ _ _ _ _ op_sub pe_int (@pe_op _ _ _ _ _ _ _ _ op_and (pv 0) pe_int)))))),?_⟩
 rw [show start ["number"] [.int n]=[some (.int n)] from rfl]
 (iterate 5 ((try (walk_at "WP")); (try (simp only [and1,and3,qJs,qJt,qJl,qJd,exists_eq_left',exists_eq_left])))); (try (walk_at "WP"))
 unfold fs at q
 refine ite2 (fun c=>?_) (fun c=>?_)
 ·rw [if_pos c] at q
  exact q
 ·rw [if_neg c] at q
  exact q
theorem ok_signs (T:Txt K mg):Cal P w K mg base 2 "signs" ["number"] spSigns:=by
 have B:=T.bl
 have C_first_sign:=ok_first (P:=P) (w:=w) (base:=base) T
 refine mkCal T.t_signs sc_signs (fun vs H Q E h=>?_) (fun f cdv A outer s H vs Q E hr h=>?_)
 ·obtain ⟨n,rfl,_⟩:=h
  rfl
 obtain ⟨n,rfl,hb,q⟩:=h
 refine ⟨_,((@pss_cons _ _ _ _ _ (@ps_set _ _ (1) _ _ _ _ sc_signs.nd rfl (by walk_at "o") (@pe_lst _ _ _ _ pa_nil) (by rfl) (by walk_at "o")) (@pss_cons _ _ _ _ _ (@ps_set _ _ (2) _ _ _ _ sc_signs.nd rfl (by walk_at "o") (pv 0) (by rfl) (by walk_at "o")) (@pss_cons _ _ _ _ _ (@ps_whl _ _ _ _ _ _ PassesOwn.never (@pt_cmpR _ _ _ _ _ _ _ _ op_ne (pv 2) pe_int (@nomark _ _ (by decide) (by decide))) (@pss_cons _ _ _ _ _ (@ps_set _ _ (3) _ _ _ _ sc_signs.nd rfl (by walk_at "o") (@pe_cal _ _ _ _ _ _ _ _ _ _ C_first_sign hr rfl (@pa_cons _ _ _ _ _ (pv 2) pa_nil (by rfl)) (by decide) (by rfl) (by rfl)) (by rfl) (by walk_at "o")) (@pss_cons _ _ _ _ _ (@ps_expr _ _ _ _ (@pe_bm _ _ _ _ _ _ _ _ _ _ _ _ PySem.F.plainAttrs_list PySem.F.slot_list_append PySem.F.type_list_append mt_append (pv 1) (@pa_cons _ _ _ _ _ (pv 3) pa_nil (by rfl)) (by rfl) (by rfl) (by rfl) (by rfl) (by rfl)) (by rfl)) (@pss_one _ _ _ (@ps_set _ _ (2) _ _ _ _ sc_signs.nd rfl (by walk_at "o") (@pe_op _ _ _ _ _ _ _ _ op_shr (@pe_op _ _ _ _ _ _ _ _ op_sub (pv 2) (pv 3)) pe_int) (by rfl) (by walk_at "o")))))) (@pss_one _ _ _ (@ps_ret _ _ _ _ (pv 1))))))),?_⟩
 rw [show start ["number","digits","rest","digit"] [.int n]=[some (.int n),none,none,none] from rfl]
 try walk_at "WP"
 intro r hr0
 have hlen:=naf_len 5000 n hb
 refine whl (fun m σ H'=>∃ (rest:Int) (ds:List Int) (o:Option V),m=rest.natAbs /\ σ = [some (.int n),some (.ref r),some (.int rest),o] /\ H'=upd H r (.lst (ds.map V.int)) /\ ds ++ naf rest=naf n) n.natAbs ⟨n,[],none,rfl,rfl,rfl,rfl⟩ ?_
 rintro m σ H' N ⟨rest,ds,o,rfl,rfl,rfl,e⟩ hN
 try walk_at "WP"
 refine ite2 (fun c=>?_) (fun c=>?_)
 ·refine ⟨rest,rfl,?_⟩
  have hd:ds.length+1 <= (naf n).length:=by rw [← e,naf_step c,qF,List.length_cons]; omega
  have hsz:(ds.map V.int).length < sizeLine:=by
   rw [qC]
   exact qJ (by omega:ds.length < 10000) (by decide)
  try walk_at "WP"
  refine ⟨ty_list upd_same,hsz,hN _ _ _ (fs_lt c) ⟨_,ds ++ [fs rest],some (.int (fs rest)),rfl,by simp,?_,?_⟩⟩
  ·rw [upd_upd,List.map_append]
   rfl
  ·rw [List.append_assoc,← e,naf_step c]
   rfl
 ·have z:rest=0:=Decidable.not_not.mp c
  subst z
  rw [naf_zero,List.append_nil] at e
  rw [e]
  exact q r hr0
end
section
variable {P:Program}{w:World}{K:PySem.W.Frag}{mg:Str -> Option Value}{base:Heap}
theorem ok_whole (T:Txt K mg):Cal P w K mg base 1 "_law_whole" ["_law_thing"] spWhole:=by
 have B:=T.bl
 refine mkCal T.t_l_whole sc_l_whole (fun vs H Q E h=>?_) (fun f cdv A outer s H vs Q E hr h=>?_)
 ·obtain ⟨n,rfl,_⟩:=h
  rfl
 obtain ⟨n,rfl,q⟩:=h
 refine ⟨_,((@pss_one _ _ _ (@ps_ret _ _ _ _ (@pe_and _ _ _ _ _ _ _ (@pe_callB _ _ _ _ _ _ _ _ _ call_isI rfl B.isinstance bo_isinstance (@pa_cons _ _ _ _ _ (pv 0) (@pa_cons _ _ _ _ _ (@pe_bltn _ _ (.ty "int") _ _ rfl B.int bo_int rfl (by decide) (by decide)) pa_nil (by rfl)) (by rfl)) (by decide) (by decide) (by rfl) (by rfl)) (@pe_one _ _ _ _ _ (@pe_not _ _ _ _ (@pe_callB _ _ _ _ _ _ _ _ _ call_isI rfl B.isinstance bo_isinstance (@pa_cons _ _ _ _ _ (pv 0) (@pa_cons _ _ _ _ _ (@pe_bltn _ _ (.ty "bool") _ _ rfl B.bool bo_bool rfl (by decide) (by decide)) pa_nil (by rfl)) (by rfl)) (by decide) (by decide) (by rfl) (by rfl)))))))),?_⟩
 rw [show start ["_law_thing"] [.int n]=[some (.int n)] from rfl]
 try walk_at "WP"
 exact q
end
section
variable {P:Program}{w:World}{K:PySem.W.Frag}{mg:Str -> Option Value}{base:Heap}
theorem ok_lsigns (T:Txt K mg):Cal P w K mg base 1 "_law_signs" ["_law_number"] spLSigns:=by
 have B:=T.bl
 refine mkCal T.t_l_signs sc_l_signs (fun vs H Q E h=>?_) (fun f cdv A outer s H vs Q E hr h=>?_)
 ·obtain ⟨n,rfl,_⟩:=h
  rfl
 obtain ⟨n,rfl,hb,q⟩:=h
 refine ⟨_,((@pss_cons _ _ _ _ _ (@ps_set _ _ (1) _ _ _ _ sc_l_signs.nd rfl (by walk_at "o") (@pe_callB _ _ _ _ _ _ _ _ _ call_abs rfl B.abs bo_abs (@pa_cons _ _ _ _ _ (pv 0) pa_nil (by rfl)) (by decide) (by decide) (by rfl) (by rfl)) (by rfl) (by walk_at "o")) (@pss_cons _ _ _ _ _ (@ps_set _ _ (2) _ _ _ _ sc_l_signs.nd rfl (by walk_at "o") (@pe_lst _ _ _ _ pa_nil) (by rfl) (by walk_at "o")) (@pss_cons _ _ _ _ _ (@ps_set _ _ (3) _ _ _ _ sc_l_signs.nd rfl (by walk_at "o") pe_int (by rfl) (by walk_at "o")) (@pss_cons _ _ _ _ _ (@ps_whl _ _ _ _ _ _ PassesOwn.never (@pt_cmpR _ _ _ _ _ _ _ _ op_gt (@pe_op _ _ _ _ _ _ _ _ op_shr (@pe_op _ _ _ _ _ _ _ _ op_mulB pe_int (pv 1)) (pv 3)) pe_int (@nomark _ _ (by decide) (by decide))) (@pss_cons _ _ _ _ _ (@ps_expr _ _ _ _ (@pe_bm _ _ _ _ _ _ _ _ _ _ _ _ PySem.F.plainAttrs_list PySem.F.slot_list_append PySem.F.type_list_append mt_append (pv 2) (@pa_cons _ _ _ _ _ (@pe_op _ _ _ _ _ _ _ _ op_sub (@pe_op _ _ _ _ _ _ _ _ op_and (@pe_op _ _ _ _ _ _ _ _ op_shr (@pe_op _ _ _ _ _ _ _ _ op_mulB pe_int (pv 1)) (pv 3)) pe_int) (@pe_op _ _ _ _ _ _ _ _ op_and (@pe_op _ _ _ _ _ _ _ _ op_shr (pv 1) (pv 3)) pe_int)) pa_nil (by rfl)) (by rfl) (by rfl) (by rfl) (by rfl) (by rfl)) (by rfl)) (@pss_one _ _ _ (@ps_set _ _ (3) _ _ _ _ sc_l_signs.nd rfl (by walk_at "o") (@pe_op _ _ _ _ _ _ _ _ op_add (pv 3) pe_int) (by rfl) (by walk_at "o"))))) (@pss_cons _ _ _ _ _ (@ps_if _ _ _ _ _ _ _ _ (@pt_cmpR _ _ _ _ _ _ _ _ op_lt (pv 0) pe_int (@nomark _ _ (by decide) (by decide))) (@pss_one _ _ _ (@ps_setComp0 _ _ _ _ (2) _ _ _ _ _ _ _ (["_law_digit"]) (1) ([]) _ _ _ rfl (@pi_list _ _ _ _ (pv 2)) (fun nd C s H fp=>⟨(@pg_name _ _ (0) _ nd rfl (by walk_at "o") (by walk_at "o")),pn_nil,(@pe_op _ _ _ _ _ _ _ _ op_sub pe_int (pv 0))⟩) (by decide +kernel) (by first | rfl | decide +kernel) (by first | rfl | decide +kernel) rfl (fun _=>rfl) sc_l_signs.nd rfl (by walk_at "o") (by walk_at "o") rfl)) pss_nil) (@pss_one _ _ _ (@ps_ret _ _ _ _ (pv 2))))))))),?_⟩
 rw [show start ["_law_number","_law_size","_law_found","_law_place"] [.int n]=[some (.int n),none,none,none] from rfl]
 try walk_at "WP"
 intro r hr0
 generalize hsz:(if n < 0 then -n else n)=sz
 have hs0:0 <= sz:=by rw [← hsz]; split <;> omega
 have hsb:sz.natAbs < 2 ^ 5000:=by
  have:sz.natAbs=n.natAbs:=by rw [← hsz]; split <;> omega
  rw [this]; exact hb
 have hlen:=naf_len 5000 sz hsb
 refine whl (fun m σ H'=>∃ k:Nat,m=(naf sz).length - k /\ k <= (naf sz).length /\ σ = [some (.int n),some (.int sz),some (.ref r),some (.int ((k:Int)+1))] /\ H'=upd H r (.lst (((naf sz).take k).map V.int))) _ ⟨0,rfl,Nat.zero_le _,by simp,by simp⟩ ?_
 rintro m σ H' N ⟨k,rfl,hk,rfl,rfl⟩ hN
 have hkn:((k:Int)+1).toNat=k+1:=by omega
 obtain ⟨ba,bb⟩:=naf_bits k sz hs0
 (iterate 5 ((try (walk_at "WP")); (try (simp only [and1,qJs,qJt,qJl,qJd,exists_eq_left',exists_eq_left])))); (try (walk_at "WP"))
 rw [hkn]
 refine ⟨mul_l (by decide) (by decide),by omega,ite2 (fun c=>?_) (fun c=>?_)⟩
 ·have lt:=ba.mpr c
  have hd:=bb _ (qA lt)
  have last:(((naf sz).take k).map V.int).length < sizeLine /\ N [some (V.int n),some (V.int sz),some (V.ref r),some (V.int ((k:Int)+1+1))] (upd (upd H r (HO.lst (List.map V.int (List.take k (naf sz))))) r (HO.lst (List.map V.int (List.take k (naf sz)) ++ [V.int (3 * sz / 2 ^ (k+1) % 2 - sz / 2 ^ (k+1) % 2)]))):=by
   refine ⟨by rw [qC,qO]; exact lt_big (by omega),hN _ _ _ (show (naf sz).length - (k+1) < (naf sz).length - k by omega) ⟨k+1,rfl,lt,by simp,?_⟩⟩
   rw [upd_upd,List.take_add_one,qA lt,hd,List.map_append]
   rfl
  have i0:(0:Int) <= (k:Int)+1:=by omega
  first
   | exact ⟨ty_list upd_same,mul_l (by decide) (by decide),i0,last⟩
   | exact ⟨ty_list upd_same,mul_l (by decide) (by decide),i0,i0,last⟩
   | exact ⟨ty_list upd_same,⟨mul_l (by decide) (by decide),i0⟩,i0,last⟩
 ·have e:k=(naf sz).length:=by
   have:=mt ba.mp c
   omega
  subst e
  rw [List.take_length]
  refine ite2 (fun hn=>?_) (fun hn=>?_)
  ·rw [if_pos hn] at hsz
   refine ⟨⟨_,SqL.of upd_same⟩,?_⟩
   refine comp_L (f:=fun x=>match x with | .int d=>some (.int (0 - d)) | _=>none) (SqL.of upd_same) (by rw [qC]; exact le_big (by omega)) (fun x H' R hx hS' hR=>?_) (fun w hw=>?_)
   ·obtain ⟨d,hd,rfl⟩:=qP.mp hx
    try walk_at "WP"
    exact hR
   have e9:((naf sz).map V.int).filterMap (fun x=>match x with | .int d=>some (.int (0 - d)) | _=>none)=(naf n).map V.int:=by
    rw [show n = -sz by omega,naf_neg,List.filterMap_map,List.map_map]
    exact filterMap_some _ _
   rw [e9]
   have hwH:H w=none:=by
    cases z:H w with
    | none=>rfl
    | some o=>rw [same_new hr0 (.lst ((naf sz).map V.int)) w o z] at hw; cases hw
   exact q w _ hwH (same_upd hwH (same_new hr0 _)) upd_same
  ·rw [if_neg hn] at hsz
   subst hsz
   exact q r _ hr0 (same_new hr0 _) upd_same
end
section
variable {P:Program}{w:World}{K:PySem.W.Frag}{mg:Str -> Option Value}{base:Heap}
theorem ok_lleast (T:Txt K mg):Cal P w K mg base 3 "_law_least" ["_law_number"] spLeast:=by
 have B:=T.bl
 have C_l_signs:=(ok_lsigns (P:=P) (w:=w) (base:=base) T).mono (k:=2) (by decide)
 refine mkCal T.t_l_least sc_l_least (fun vs H Q E h=>?_) (fun f cdv A outer s H vs Q E hr h=>?_)
 ·obtain ⟨n,rfl,_⟩:=h
  rfl
 obtain ⟨n,rfl,hb,q⟩:=h
 refine ⟨_,((@pss_one _ _ _ (@ps_ret _ _ _ _ (@pe_callB _ _ _ _ _ _ _ _ _ call_lenM rfl B.len bo_len (@pa_cons _ _ _ _ _ (@pe_comp0 _ _ _ _ _ _ _ _ (["_law_digit"]) (1) ([]) _ _ _ rfl (@pi_list _ _ _ _ (@pe_cal _ _ _ _ _ _ _ _ _ _ C_l_signs hr rfl (@pa_cons _ _ _ _ _ (pv 0) pa_nil (by rfl)) (by decide) (by rfl) (by rfl))) (fun nd C s H fp=>⟨(@pg_name _ _ (0) _ nd rfl (by walk_at "o") (by walk_at "o")),(@pn_one _ _ _ (@pt_cmpR _ _ _ _ _ _ _ _ op_ne (pv 0) pe_int (@nomark _ _ (by decide) (by decide)))),(pv 0)⟩) (by decide +kernel) (by first | rfl | decide +kernel) (by first | rfl | decide +kernel) rfl (fun _=>rfl)) pa_nil (by rfl)) (by decide) (by decide) (by rfl) (by rfl))))),?_⟩
 rw [show start ["_law_number"] [.int n]=[some (.int n)] from rfl]
 try walk_at "WP"
 refine ⟨n,rfl,hb,fun r H1 hr sm hr1=>?_⟩
 try walk_at "WP"
 refine ⟨⟨_,SqL.of hr1⟩,?_⟩
 refine comp_L (f:=fltV) (SqL.of hr1) (by rw [qC]; exact le_big (Nat.le_trans (naf_len 5000 n hb) (by decide))) (fun x H' R hx hS' hR=>?_) (fun w hw=>?_)
 ·obtain ⟨d,hd,rfl⟩:=qP.mp hx
  try walk_at "WP"
  refine ite2 (fun c=>?_) (fun c=>?_)
  ·rw [fltV_ne c] at hR
   exact hR
  ·rw [Decidable.not_not.mp c] at hR
   exact hR
 rw [flt_len_map]
 have sm2:=same_new hw (.lst (((naf n).filter fun d=>decide (d ≠ 0)).map V.int))
 refine ⟨w,rfl,_,upd_same,?_⟩
 rw [qC]
 exact q _ (sm.trans sm2)
end
section
variable {P:Program}{w:World}{K:PySem.W.Frag}{mg:Str -> Option Value}{base:Heap}
theorem ok_core (T:Txt K mg):Cal P w K mg base 1 "core" ["number"] spCoreT:=by
 have B:=T.bl
 refine mkCal T.t_core sc_core (fun vs H Q E h=>?_) (fun f cdv A outer s H vs Q E hr h=>?_)
 ·obtain ⟨n,rfl,_⟩:=h
  rfl
 obtain ⟨n,rfl,q0⟩:=h
 have q:∀ p,H p=none -> Q (.ref p) (upd H p (.tup ((coreL n).map V.int))):=fun p hp=>by
  rw [core_three]
  exact q0 p hp
 refine ⟨_,((@pss_cons _ _ _ _ _ (@ps_if _ _ _ _ _ _ _ _ (@pt_cmpR _ _ _ _ _ _ _ _ op_eq (pv 0) pe_int (@nomark _ _ (by decide) (by decide))) (@pss_one _ _ _ (@ps_ret _ _ _ _ (@pe_tup _ _ _ _ _ (@pa_cons _ _ _ _ _ pe_int (@pa_cons _ _ _ _ _ pe_int (@pa_cons _ _ _ _ _ pe_int pa_nil (by rfl)) (by rfl)) (by rfl))))) pss_nil) (@pss_cons _ _ _ _ _ (@ps_set _ _ (1) _ _ _ _ sc_core.nd rfl (by walk_at "o") (@pe_callB _ _ _ _ _ _ _ _ _ call_abs rfl B.abs bo_abs (@pa_cons _ _ _ _ _ (pv 0) pa_nil (by rfl)) (by decide) (by decide) (by rfl) (by rfl)) (by rfl) (by walk_at "o")) (@pss_cons _ _ _ _ _ (@ps_set _ _ (2) _ _ _ _ sc_core.nd rfl (by walk_at "o") (@pe_op _ _ _ _ _ _ _ _ op_sub (@pe_bm0 _ _ _ _ _ _ _ _ _ PySem.F.plainAttrs_int PyProof.Rows.slot_int_bit_length PyProof.Rows.type_int_bit_length mt_bits (@pe_op _ _ _ _ _ _ _ _ op_and (pv 1) (@pe_un _ _ _ _ _ _ un_neg (pv 1))) (by rfl) (by rfl)) pe_int) (by rfl) (by walk_at "o")) (@pss_cons _ _ _ _ _ (@ps_set _ _ (3) _ _ _ _ sc_core.nd rfl (by walk_at "o") (@pe_ifExp _ _ _ _ _ _ _ _ (@pt_cmpR _ _ _ _ _ _ _ _ op_gt (pv 0) pe_int (@nomark _ _ (by decide) (by decide))) pe_int (@pe_un _ _ _ _ _ _ un_neg pe_int)) (by rfl) (by walk_at "o")) (@pss_one _ _ _ (@ps_ret _ _ _ _ (@pe_tup _ _ _ _ _ (@pa_cons _ _ _ _ _ (@pe_op _ _ _ _ _ _ _ _ op_shr (pv 1) (pv 2)) (@pa_cons _ _ _ _ _ (pv 2) (@pa_cons _ _ _ _ _ (pv 3) pa_nil (by rfl)) (by rfl)) (by rfl)))))))))),?_⟩
 rw [show start ["number","size","shift","sign"] [.int n]=[some (.int n),none,none,none] from rfl]
 try walk_at "WP"
 refine ite2 (fun c=>?_) (fun c=>?_)
 ·intro p hp
  have:=q p hp
  rw [show coreL n=[0,0,0] by unfold coreL; rw [if_pos c]] at this
  exact this
 ·obtain ⟨m,k,e1,e2⟩:=core_fact c
  have el:lowK n=(k:Int):=by
   unfold coreL at e2
   rw [if_neg c] at e2
   simp only [List.cons.injEq] at e2
   exact e2.2.1
  have e3:coreL n=[absI n / 2 ^ (lowK n).toNat,lowK n,if 0 < n then 1 else -1]:=by unfold coreL; rw [if_neg c]
  rw [e3] at q
  have ge:0 <= lowK n:=by omega
  refine ite2 (fun d=>?_) (fun d=>?_)
  ·rw [if_pos d] at q
   exact ⟨ge,q⟩
  ·rw [if_neg d] at q
   exact ⟨ge,q⟩
end
section
variable {P:Program}{w:World}{K:PySem.W.Frag}{mg:Str -> Option Value}{base:Heap}
theorem ok_deedof (T:Txt K mg):Cal P w K mg base 1 "deed_of" ["one","other"] spDeedOf:=by
 have B:=T.bl
 refine mkCal T.t_deed_of sc_deed_of (fun vs H Q E h=>?_) (fun f cdv A outer s H vs Q E hr h=>?_)
 ·obtain ⟨x,y,a,b,t,u,g,h,rfl,_⟩:=h
  rfl
 obtain ⟨x,y,a,b,t,u,g,h,rfl,hx,hy,hg,hh,q⟩:=h
 refine ⟨_,((@pss_cons _ _ _ _ _ (@ps_if _ _ _ _ _ _ _ _ (@pt_cmpR _ _ _ _ _ _ _ _ op_eq (@pe_ix _ _ _ _ _ _ _ ix_U (pv 0) pe_int (fun _ _=>rfl)) (@pe_ix _ _ _ _ _ _ _ ix_U (pv 1) pe_int (fun _ _=>rfl)) (@nomark _ _ (by decide) (by decide))) (@pss_one _ _ _ (@ps_ret _ _ _ _ (@pe_tup _ _ _ _ _ (@pa_cons _ _ _ _ _ pe_str (@pa_cons _ _ _ _ _ (@pe_ix _ _ _ _ _ _ _ ix_U (pv 0) pe_int (fun _ _=>rfl)) (@pa_cons _ _ _ _ _ (@pe_ix _ _ _ _ _ _ _ ix_U (pv 0) pe_int (fun _ _=>rfl)) (@pa_cons _ _ _ _ _ (@pe_ix _ _ _ _ _ _ _ ix_U (pv 1) pe_int (fun _ _=>rfl)) (@pa_cons _ _ _ _ _ (@pe_ix _ _ _ _ _ _ _ ix_U (pv 1) pe_int (fun _ _=>rfl)) pa_nil (by rfl)) (by rfl)) (by rfl)) (by rfl)) (by rfl))))) pss_nil) (@pss_cons _ _ _ _ _ (@ps_if _ _ _ _ _ _ _ _ (@pt_cmpR _ _ _ _ _ _ _ _ op_eq (@pe_ix _ _ _ _ _ _ _ ix_U (pv 0) pe_int (fun _ _=>rfl)) pe_int (@nomark _ _ (by decide) (by decide))) (@pss_one _ _ _ (@ps_ret _ _ _ _ (@pe_tup _ _ _ _ _ (@pa_cons _ _ _ _ _ pe_str (@pa_cons _ _ _ _ _ (@pe_ix _ _ _ _ _ _ _ ix_U (pv 0) pe_int (fun _ _=>rfl)) (@pa_cons _ _ _ _ _ (@pe_ix _ _ _ _ _ _ _ ix_U (pv 0) pe_int (fun _ _=>rfl)) (@pa_cons _ _ _ _ _ (@pe_ix _ _ _ _ _ _ _ ix_U (pv 1) pe_int (fun _ _=>rfl)) (@pa_cons _ _ _ _ _ (@pe_ix _ _ _ _ _ _ _ ix_U (pv 1) pe_int (fun _ _=>rfl)) pa_nil (by rfl)) (by rfl)) (by rfl)) (by rfl)) (by rfl))))) pss_nil) (@pss_one _ _ _ (@ps_ret _ _ _ _ (@pe_tup _ _ _ _ _ (@pa_cons _ _ _ _ _ pe_str (@pa_cons _ _ _ _ _ (@pe_ix _ _ _ _ _ _ _ ix_U (pv 1) pe_int (fun _ _=>rfl)) (@pa_cons _ _ _ _ _ (@pe_ix _ _ _ _ _ _ _ ix_U (pv 1) pe_int (fun _ _=>rfl)) (@pa_cons _ _ _ _ _ (@pe_ix _ _ _ _ _ _ _ ix_U (pv 0) pe_int (fun _ _=>rfl)) (@pa_cons _ _ _ _ _ (@pe_ix _ _ _ _ _ _ _ ix_U (pv 0) pe_int (fun _ _=>rfl)) pa_nil (by rfl)) (by rfl)) (by rfl)) (by rfl)) (by rfl)))))))),?_⟩
 rw [show start ["one","other"] [.ref x,.ref y]=[some (.ref x),some (.ref y)] from rfl]
 (iterate 5 ((try (walk_at "WP")); (try (simp only [hx,hy,qJs,qJt,qJl,qJd,exists_eq_left',exists_eq_left])))); (try (walk_at "WP"))
 unfold deedOf at q
 rcases hg with e | e <;> rcases hh with e2 | e2 <;> subst e <;> subst e2
 ·try walk_at "WP"
  exact q
 ·try walk_at "WP"
  exact q
 ·try walk_at "WP"
  exact q
 ·try walk_at "WP"
  exact q
theorem ok_uc (T:Txt K mg):Cal P w K mg base 2 "unlike_cores" ["numbers"] spUC:=by
 have B:=T.bl
 have C_core:=ok_core (P:=P) (w:=w) (base:=base) T
 refine mkCal T.t_unlike_cores sc_unlike_cores (fun vs H Q E h=>?_) (fun f cdv A outer s H vs Q E hr h=>?_)
 ·obtain ⟨a,xs,rfl,_⟩:=h
  rfl
 obtain ⟨a,xs,rfl,ha,hl,q⟩:=h
 refine ⟨_,((@pss_cons _ _ _ _ _ (@ps_set _ _ (1) _ _ _ _ sc_unlike_cores.nd rfl (by walk_at "o") pe_dnewK (by rfl) (by walk_at "o")) (@pss_cons _ _ _ _ _ (@ps_for _ _ _ _ _ _ _ _ PassesOwn.never rfl (@pi_list _ _ _ _ (pv 0)) (@pg_name _ _ (2) _ sc_unlike_cores.nd rfl (by walk_at "o") (by walk_at "o")) (@pss_one _ _ _ (@ps_if _ _ _ _ _ _ _ _ (@pt_cmpR _ _ _ _ _ _ _ _ op_ne (pv 2) pe_int (@nomark _ _ (by decide) (by decide))) (@pss_one _ _ _ (@ps_dpM _ _ _ _ _ _ _ _ _ (@hu_of _ _ hr) (pv 1) (@pe_ix _ _ _ _ _ _ _ ix_U (@pe_cal _ _ _ _ _ _ _ _ _ _ C_core hr rfl (@pa_cons _ _ _ _ _ (pv 2) pa_nil (by rfl)) (by decide) (by rfl) (by rfl)) pe_int (fun _ _=>rfl)) pe_bl rfl)) pss_nil)) (by intro _ ; rfl)) (@pss_one _ _ _ (@ps_ret _ _ _ _ (@pe_callTy _ _ _ _ _ _ _ _ _ (@call_list_keys _ rfl) rfl B.list bo_list (@pa_cons _ _ _ _ _ (pv 1) pa_nil (by rfl)) (by decide) (by decide) (by rfl) (by rfl))))))),?_⟩
 rw [show start ["numbers","found","number"] [.ref a]=[some (.ref a),none,none] from rfl]
 try walk_at "WP"
 intro d hd0
 have smd:=same_new hd0 (.dK [])
 have had:=smd _ _ ha
 refine ⟨⟨_,SqL.of had⟩,?_⟩
 refine forL (xs:=xs.map V.int) (fun i σ H'=>∃ o,σ = [some (.ref a),some (.ref d),o] /\ H' d=some (.dK (ukv (uc (xs.take i)))) /\ Same H H') ⟨none,rfl,by rw [upd_same]; rfl,smd⟩ (fun i σ H' _ z=>by obtain ⟨_,_,_,s⟩:=z; exact SqL.of (s _ _ ha)) ?_ ?_
 ·rintro i x σ H' N hx ⟨o,rfl,hd,SH⟩ hN
  rw [qI] at hx
  cases hn:xs[i]? with
  | none=>rw [hn] at hx; cases hx
  | some n =>
   rw [hn] at hx
   cases hx
   have htk:xs.take (i+1)=xs.take i ++ [n]:=by rw [List.take_add_one,hn]; rfl
   have hi:i < xs.length:=(qB.mp hn).1
   rw [htk] at hN
   simp only [uc_snoc] at hN
   try walk_at "WP"
   refine ite2 (fun c=>?_) (fun c=>?_)
   ·refine ⟨n,rfl,fun p hp=>?_⟩
    have smp:=same_new hp (.tup [V.int (coreN n),V.int (shN n),V.int (sgN n)])
    have hdp:=smp _ _ hd
    (iterate 5 ((try (walk_at "WP")); (try (simp only [hdp,qJs,qJt,qJl,qJd,exists_eq_left',exists_eq_left])))); (try (walk_at "WP"))
    refine ⟨by unfold ukv; rw [qC]; exact lt_big (Nat.lt_of_le_of_lt (uc_len _) (by rw [qO]; omega)),?_⟩
    rw [ukv_put]
    refine hN _ _ ⟨_,rfl,?_,same_upd hd0 (SH.trans smp)⟩
    rw [upd_same]
    unfold ucs
    rw [if_neg c]
   ·refine hN _ _ ⟨_,rfl,?_,SH⟩
    unfold ucs
    rw [if_pos (Decidable.not_not.mp c)]
    exact hd
 ·rintro σ H' ⟨o,rfl,hd,SH⟩
  try walk_at "WP"
  rw [qC,List.take_length] at hd
  refine ⟨d,_,rfl,hd,fun l hl=>?_⟩
  rw [ukv_keys]
  exact q l _ (SH.free hl) (SH.trans (same_new hl _)) upd_same
end
section
variable {P:Program}{w:World}{K:PySem.W.Frag}{mg:Str -> Option Value}{base:Heap}
theorem ok_chain (T:Txt K mg):Cal P w K mg base 3 "add_chain" ["deeds","odd"] spChain:=by
 have B:=T.bl
 have C_signs:=ok_signs (P:=P) (w:=w) (base:=base) T
 have C_deed_of:=(ok_deedof (P:=P) (w:=w) (base:=base) T).mono (k:=2) (by decide)
 refine mkCal T.t_add_chain sc_add_chain (fun vs H Q E h=>?_) (fun f cdv A outer s H vs Q E hr h=>?_)
 ·obtain ⟨dl,us,ds,odd,rfl,_⟩:=h
  rfl
 obtain ⟨dl,us,ds,odd,rfl,hdl,hds,hok,hl3,ho0,ho2,hob,q⟩:=h
 refine ⟨_,((@pss_cons _ _ _ _ _ (@ps_set _ _ (2) _ _ _ _ sc_add_chain.nd rfl (by walk_at "o") pe_int (by rfl) (by walk_at "o")) (@pss_cons _ _ _ _ _ (@ps_set _ _ (3) _ _ _ _ sc_add_chain.nd rfl (by walk_at "o") pe_int (by rfl) (by walk_at "o")) (@pss_cons _ _ _ _ _ (@ps_for _ _ _ _ _ _ _ _ PassesOwn.never rfl (@pi_rev _ _ _ _ _ _ rfl B.reversed (@pa_cons _ _ _ _ _ (@pe_slice _ _ _ _ _ _ _ _ _ _ sl_list (@pe_cal _ _ _ _ _ _ _ _ _ _ C_signs hr rfl (@pa_cons _ _ _ _ _ (pv 1) pa_nil (by rfl)) (by decide) (by rfl) (by rfl)) po_none (@po_some _ _ _ (@pe_un _ _ _ _ _ _ un_neg pe_int))) pa_nil (by rfl)) (by rfl)) (@pg_name _ _ (4) _ sc_add_chain.nd rfl (by walk_at "o") (by walk_at "o")) (@pss_cons _ _ _ _ _ (@ps_aug _ _ (3) _ _ _ _ _ _ sc_add_chain.nd rfl (by walk_at "o") pe_int ip_add (by walk_at "o")) (@pss_one _ _ _ (@ps_if _ _ _ _ _ _ _ _ (@pt_cmpR _ _ _ _ _ _ _ _ op_ne (pv 4) pe_int (@nomark _ _ (by decide) (by decide))) (@pss_cons _ _ _ _ _ (@ps_expr _ _ _ _ (@pe_bm _ _ _ _ _ _ _ _ _ _ _ _ PySem.F.plainAttrs_list PySem.F.slot_list_append PySem.F.type_list_append mt_append (pv 0) (@pa_cons _ _ _ _ _ (@pe_cal _ _ _ _ _ _ _ _ _ _ C_deed_of hr rfl (@pa_cons _ _ _ _ _ (@pe_tup _ _ _ _ _ (@pa_cons _ _ _ _ _ (pv 2) (@pa_cons _ _ _ _ _ (pv 3) (@pa_cons _ _ _ _ _ pe_int pa_nil (by rfl)) (by rfl)) (by rfl))) (@pa_cons _ _ _ _ _ (@pe_tup _ _ _ _ _ (@pa_cons _ _ _ _ _ pe_int (@pa_cons _ _ _ _ _ pe_int (@pa_cons _ _ _ _ _ (pv 4) pa_nil (by rfl)) (by rfl)) (by rfl))) pa_nil (by rfl)) (by rfl)) (by decide) (by rfl) (by rfl)) pa_nil (by rfl)) (by rfl) (by rfl) (by rfl) (by rfl) (by rfl)) (by rfl)) (@pss_cons _ _ _ _ _ (@ps_set _ _ (2) _ _ _ _ sc_add_chain.nd rfl (by walk_at "o") (@pe_callB _ _ _ _ _ _ _ _ _ call_lenM rfl B.len bo_len (@pa_cons _ _ _ _ _ (pv 0) pa_nil (by rfl)) (by decide) (by decide) (by rfl) (by rfl)) (by rfl) (by walk_at "o")) (@pss_one _ _ _ (@ps_set _ _ (3) _ _ _ _ sc_add_chain.nd rfl (by walk_at "o") pe_int (by rfl) (by walk_at "o"))))) pss_nil))) (by intro _ ; rfl)) (@pss_one _ _ _ (@ps_ret _ _ _ _ (pv 2))))))),?_⟩
 rw [show start ["deeds","odd","made","gap","digit"] [.ref dl,.int odd]=[some (.ref dl),some (.int odd),none,none,none] from rfl]
 try walk_at "WP"
 refine ⟨odd,rfl,big_of hob (by decide),fun r hr=>?_⟩
 have sm:=same_new hr (.lst ((naf odd).map V.int))
 have hr1:upd H r (.lst ((naf odd).map V.int)) r=some (.lst ((naf odd).map V.int)):=upd_same
 generalize upd H r (.lst ((naf odd).map V.int))=H1 at sm hr1 ⊢
 try walk_at "WP"
 refine ⟨_,SqL.of hr1,fun sl hsl=>?_⟩
 rw [cut_last]
 have sm2:=same_new hsl (.lst ((naf odd).dropLast.map V.int))
 have hs1:upd H1 sl (.lst ((naf odd).dropLast.map V.int)) sl=some (.lst ((naf odd).dropLast.map V.int)):=upd_same
 generalize upd H1 sl (.lst ((naf odd).dropLast.map V.int))=H2 at sm2 hs1 ⊢
 have S2:Same H H2:=sm.trans sm2
 have hsl0:H sl=none:=sm.free hsl
 have hsd:sl ≠ dl:=(ne_of_none hdl hsl0).symm
 have hlen:(naf odd).dropLast.length <= 200:=by
  have:=naf_len 200 odd hob
  rw [List.length_dropLast]
  omega
 refine ⟨_,SqL.of hs1,?_⟩
 refine forV (xs:=(naf odd).dropLast.map V.int) (fun i σ H'=>∃ (made gap:Nat) (o:Option V) (us':List V) (new:List Dd),σ = [some (.ref dl),some (.int odd),some (.int made),some (.int gap),o] /\ Chg dl H H' /\ H' sl=some (.lst ((naf odd).dropLast.map V.int)) /\ H' dl=some (.lst us') /\ HDs H' us' (ds ++ new) /\ DOk (ds ++ new) /\
   new.length=wt ((naf odd).dropLast.reverse.take i) /\ gap <= i /\ ∃ n,(ev (ds ++ new))[made]? = some n /\ n * 2 ^ gap=topV odd i)
  ⟨0,0,none,us,[],rfl,S2.chg,hs1,S2 _ _ hdl,by rw [List.append_nil]; exact hds.same S2,by rw [List.append_nil]; exact hok,rfl,Nat.le_refl _,1,?_,?_⟩ (fun i σ H' _ z=>by obtain ⟨_,_,_,_,_,_,_,h,_⟩:=z; exact SqL.of h) ?_ ?_
 ·exact ev_pre [] (ds ++ []) (k:=0) rfl
 ·rw [topV_zero ho0]; rfl
 ·rintro i x σ H' N hx ⟨made,gap,o,us',new,rfl,CC,hs,hd,hh,ok,hnl,hgi,n,hn,hT⟩ hN
  rw [← List.map_reverse,qI] at hx
  cases hg:(naf odd).dropLast.reverse[i]? with
  | none=>rw [hg] at hx; cases hx
  | some g =>
   rw [hg] at hx
   cases hx
   have hi:i < (naf odd).dropLast.length:=by
    have:=(qB.mp hg).1
    rwa [List.length_reverse] at this
   have hstep:=topV_step ho0 hg
   have hgd:g = -1 \/ g=0 \/ g=1:=naf_dig odd g (List.dropLast_subset _ (List.mem_reverse.mp (qE hg)))
   have hml:made <= (ds ++ new).length:=by
    have:=(qB.mp hn).1
    rw [ev_len] at this
    omega
   have hwt:=wt_take_step hg
   have hnw:new.length <= 200:=by
    rw [hnl]
    exact Nat.le_trans (List.length_filter_le _ _) (by rw [qO,List.length_reverse]; omega)
   try walk_at "WP"
   refine ite2 (fun c=>?_) (fun c=>?_)
   ·have hg1:g=1 \/ g = -1:=by omega
    refine ⟨ty_list hd,fun p1 hp1=>?_⟩
    have s1:=same_new hp1 (.tup [V.int made,V.int (gap+1),V.int 1])
    intro p2 hp2
    have s2:=same_new hp2 (.tup [V.int 0,V.int 0,V.int g])
    refine ⟨p1,p2,made,0,0,gap+1,1,g,rfl,s2 _ _ upd_same,upd_same,.inl rfl,hg1,fun x hx=>?_⟩
    rw [deed_chain hg1]
    have s3:=same_new hx (.tup (dTup ⟨g,made,gap+1,0,0⟩))
    have S3:=(s1.trans s2).trans s3
    have hd3:=S3 _ _ hd
    have hx3:upd (upd (upd H' p1 (.tup [V.int made,V.int (gap+1),V.int 1])) p2 (.tup [V.int 0,V.int 0,V.int g])) x (.tup (dTup ⟨g,made,gap+1,0,0⟩)) x=some (.tup (dTup ⟨g,made,gap+1,0,0⟩)):=upd_same
    have hs3:=S3 _ _ hs
    generalize upd (upd (upd H' p1 (.tup [V.int made,V.int (gap+1),V.int 1])) p2 (.tup [V.int 0,V.int 0,V.int g])) x (.tup (dTup ⟨g,made,gap+1,0,0⟩))=H3 at S3 hd3 hx3 hs3 ⊢
    try walk_at "WP"
    refine ⟨_,hd3,by rw [hh.len,qF]; exact lt_big (by omega),?_⟩
    have hlast:upd H3 dl (.lst (us' ++ [V.ref x])) dl=some (.lst (us' ++ [V.ref x])):=upd_same
    have C4:Chg dl H (upd H3 dl (.lst (us' ++ [V.ref x]))):=(CC.trans S3.chg).trans (Chg.upd _)
    have hh4:HDs (upd H3 dl (.lst (us' ++ [V.ref x]))) (us' ++ [V.ref x]) (ds ++ (new ++ [⟨g,made,gap+1,0,0⟩])):=by
     rw [← List.append_assoc]
     exact ((hh.same S3).snoc hx3).chgL hd3 (Chg.upd _)
    have hs4:upd H3 dl (.lst (us' ++ [V.ref x])) sl=some (.lst ((naf odd).dropLast.map V.int)):=by
     rw [upd_ne hsd]; exact hs3
    generalize upd H3 dl (.lst (us' ++ [V.ref x]))=H4 at hlast C4 hh4 hs4 ⊢
    (iterate 5 ((try (walk_at "WP")); (try (simp only [hlast,qJs,qJt,qJl,qJd,exists_eq_left',exists_eq_left])))); (try (walk_at "WP"))
    have hdn:=chain_step (ds:=ds ++ new) (made:=made) (gap:=gap) (T:=topV odd i) (d:=g) (ev_pre [] (ds ++ new) (k:=0) rfl) hn hT
    have hb1:(2 * topV odd i+g).natAbs < 2 ^ 300:=by
     rw [← hstep]
     exact qJ (topV_bound odd (i+1)) (qN (by decide) (by omega))
    have ok4:DOk (ds ++ (new ++ [⟨g,made,gap+1,0,0⟩])):=by
     rw [← List.append_assoc]
     exact ok.snoc hml (Nat.zero_le _) (by show gap+1 <= 300; omega) (Nat.zero_le _) hg1 (by rw [hdn]; exact hb1)
    refine hN _ _ ⟨(us' ++ [V.ref x]).length,0,_,us' ++ [V.ref x],new ++ [⟨g,made,gap+1,0,0⟩],rfl,C4,hs4,hlast,hh4,ok4,?_,Nat.zero_le _,topV odd (i+1),?_,by rw [Int.pow_zero,Int.mul_one]⟩
    ·rw [qF,hnl,hwt,if_neg c]
     rfl
    ·rw [← List.append_assoc,ev_snoc,hdn,hstep,hh4.len,← List.append_assoc,qF,qG (by rw [ev_len]; exact Nat.le_refl _),ev_len]
     show [2 * topV odd i+g][(ds ++ new).length+1 - ((ds ++ new).length+1)]? = _
     rw [Nat.sub_self]
     rfl
   ·have c0:=Decidable.not_not.mp c
    refine hN _ _ ⟨made,gap+1,_,us',new,rfl,CC,hs,hd,hh,ok,?_,by omega,n,hn,?_⟩
    ·rw [hnl,hwt,if_pos c0]
     rfl
    ·rw [hstep,c0,Int.add_zero,← hT,Int.pow_succ,← Int.mul_assoc,Int.mul_comm (n * 2 ^ gap) 2]
 ·rintro σ H' ⟨made,gap,o,us',new,rfl,CC,hs,hd,hh,ok,hnl,hgi,n,hn,hT⟩
  try walk_at "WP"
  rw [qC] at hT hnl
  rw [topV_end ho0] at hT
  obtain ⟨_,e⟩:=chain_end hT ho2
  refine q made us' new H' CC hd hh ok ?_ (by rw [← e]; exact hn)
  rw [hnl,List.take_of_length_le (by rw [List.length_reverse]; exact Nat.le_refl _)]
  exact wt_drop ho0
end
section
variable {P:Program}{w:World}{K:PySem.W.Frag}{mg:Str -> Option Value}{base:Heap}
theorem ok_moved (T:Txt K mg):Cal P w K mg base 1 "moved" ["part","shift","sign"] (spMovedP K):=by
 have B:=T.bl
 obtain ⟨cst_NO_OUT,mg_NO_OUT,hcst⟩:=T.c_NO_OUT
 refine mkCal T.t_moved sc_moved (fun vs H Q E h=>?_) (fun f cdv A outer s H vs Q E hr h=>?_)
 ·obtain ⟨p,a,b,c,s,g,rfl,_⟩:=h
  rfl
 obtain ⟨p,a,b,c,sh,g,rfl,hp,hz,c1,c2,q⟩:=h
 refine ⟨_,((@pss_cons _ _ _ _ _ (@ps_if _ _ _ _ _ _ _ _ (@pt_cmpR _ _ _ _ _ _ _ _ op_eq (@pe_op _ _ _ _ _ _ _ _ op_mulB (@pe_ix _ _ _ _ _ _ _ ix_U (pv 0) pe_int (fun _ _=>rfl)) (pv 2)) pe_int (@nomark _ _ (by decide) (by decide))) (@pss_one _ _ _ (@ps_ret _ _ _ _ (@pe_glob _ _ (.ref cst_NO_OUT) _ _ rfl mg_NO_OUT rfl (by decide)))) pss_nil) (@pss_one _ _ _ (@ps_ret _ _ _ _ (@pe_tup _ _ _ _ _ (@pa_cons _ _ _ _ _ (@pe_ix _ _ _ _ _ _ _ ix_U (pv 0) pe_int (fun _ _=>rfl)) (@pa_cons _ _ _ _ _ (@pe_op _ _ _ _ _ _ _ _ op_add (@pe_ix _ _ _ _ _ _ _ ix_U (pv 0) pe_int (fun _ _=>rfl)) (pv 1)) (@pa_cons _ _ _ _ _ (@pe_op _ _ _ _ _ _ _ _ op_mulB (@pe_ix _ _ _ _ _ _ _ ix_U (pv 0) pe_int (fun _ _=>rfl)) (pv 2)) pa_nil (by rfl)) (by rfl)) (by rfl))))))),?_⟩
 rw [show start ["part","shift","sign"] [.ref p,.int sh,.int g]=[some (.ref p),some (.int sh),some (.int g)] from rfl]
 (iterate 5 ((try (walk_at "WP")); (try (simp only [hp,qJs,qJt,qJl,qJd,exists_eq_left',exists_eq_left])))); (try (walk_at "WP"))
 refine ⟨mul_l c1 c2,?_⟩
 rw [if_neg hz]
 exact ⟨mul_l c1 c2,q⟩
theorem ok_outfor (T:Txt K mg):Cal P w K mg base 2 "out_for" ["number","parts"] (spOutP K):=by
 have B:=T.bl
 obtain ⟨cst_NO_OUT,mg_NO_OUT,hcst⟩:=T.c_NO_OUT
 have C_core:=ok_core (P:=P) (w:=w) (base:=base) T
 have C_moved:=ok_moved (P:=P) (w:=w) (base:=base) T
 refine mkCal T.t_out_for sc_out_for (fun vs H Q E h=>?_) (fun f cdv A outer s H vs Q E hr h=>?_)
 ·obtain ⟨n,t,kvs,fd,ns,rfl,_⟩:=h
  rfl
 obtain ⟨n,t,kvs,fd,ns,rfl,ht,hD,hb,hk,q⟩:=h
 refine ⟨_,((@pss_cons _ _ _ _ _ (@ps_if _ _ _ _ _ _ _ _ (@pt_cmpR _ _ _ _ _ _ _ _ op_eq (pv 0) pe_int (@nomark _ _ (by decide) (by decide))) (@pss_one _ _ _ (@ps_ret _ _ _ _ (@pe_glob _ _ (.ref cst_NO_OUT) _ _ rfl mg_NO_OUT rfl (by decide)))) pss_nil) (@pss_cons _ _ _ _ _ (@ps_set _ _ (2) _ _ _ _ sc_out_for.nd rfl (by walk_at "o") (@pe_cal _ _ _ _ _ _ _ _ _ _ C_core hr rfl (@pa_cons _ _ _ _ _ (pv 0) pa_nil (by rfl)) (by decide) (by rfl) (by rfl)) (by rfl) (by walk_at "o")) (@pss_one _ _ _ (@ps_ret _ _ _ _ (@pe_cal _ _ _ _ _ _ _ _ _ _ C_moved hr rfl (@pa_cons _ _ _ _ _ (@pe_dgM _ _ _ _ _ _ (@hu_of _ _ hr) (pv 1) (@pe_ix _ _ _ _ _ _ _ ix_U (pv 2) pe_int (fun _ _=>rfl)) (fun _ _=>rfl)) (@pa_cons _ _ _ _ _ (@pe_ix _ _ _ _ _ _ _ ix_U (pv 2) pe_int (fun _ _=>rfl)) (@pa_cons _ _ _ _ _ (@pe_ix _ _ _ _ _ _ _ ix_U (pv 2) pe_int (fun _ _=>rfl)) pa_nil (by rfl)) (by rfl)) (by rfl)) (by decide) (by rfl) (by rfl))))))),?_⟩
 rw [show start ["number","parts","found"] [.int n,.ref t]=[some (.int n),some (.ref t),none] from rfl]
 try walk_at "WP"
 refine ite2 (fun c=>?_) (fun c=>?_)
 ·exact q _ 0 0 0 _ (CT0.sq hcst H) ⟨.inl ⟨c,rfl,rfl,rfl⟩⟩ (fun z=>absurd c z) (fun _ _ z=>z)
 ·refine ⟨n,rfl,fun p hp=>?_⟩
  have smp:=same_new hp (.tup [V.int (coreN n),V.int (shN n),V.int (sgN n)])
  have htp:=smp _ _ ht
  have hDp:=hD.same smp
  have hpp:upd H p (.tup [V.int (coreN n),V.int (shN n),V.int (sgN n)]) p=some (.tup [V.int (coreN n),V.int (shN n),V.int (sgN n)]):=upd_same
  generalize upd H p (.tup [V.int (coreN n),V.int (shN n),V.int (sgN n)])=H1 at smp htp hpp hDp ⊢
  obtain ⟨k,hk1,hk2⟩:=hk c
  obtain ⟨c1,c2,j,c3,c4,c5,c6,c7,c8⟩:=core_props c
  obtain ⟨x,hx1,hx2⟩:=hDp.at_ _ _ hk1
  (iterate 5 ((try (walk_at "WP")); (try (simp only [hpp,htp,qJs,qJt,qJl,qJd,exists_eq_left',exists_eq_left])))); (try (walk_at "WP"))
  refine ⟨_,hx1,x,_,_,_,_,_,rfl,hx2,?_,by decide,by decide,fun r hr=>?_⟩
  ·rw [Int.one_mul]
   rcases c5 with z | z <;> rw [z] <;> decide
  rw [Int.zero_add,Int.one_mul]
  refine q r k (shN n) (sgN n) _ (SqT.of upd_same) ⟨.inr ⟨c,k,j,coreN n,rfl,c3,?_,c5,hk2,c4⟩⟩ (fun _=>hk1) (smp.trans (same_new hr _))
  have:2 ^ j < 2 ^ 200:=Nat.lt_of_le_of_lt c7 hb
  have:=(Nat.pow_lt_pow_iff_right (by decide:1 < 2)).mp this
  omega
end
section
variable {P:Program}{w:World}{K:PySem.W.Frag}{mg:Str -> Option Value}{base:Heap}
theorem ok_by (T:Txt K mg):Cal P w K mg base 4 "by_signs" ["numbers"] (spBy K):=by
 have B:=T.bl
 have C_unlike_cores:=(ok_uc (P:=P) (w:=w) (base:=base) T).mono (k:=3) (by decide)
 have C_add_chain:=ok_chain (P:=P) (w:=w) (base:=base) T
 have C_out_for:=(ok_outfor (P:=P) (w:=w) (base:=base) T).mono (k:=3) (by decide)
 refine mkCal T.t_by_signs sc_by_signs (fun vs H Q E h=>?_) (fun f cdv A outer s H vs Q E hr h=>?_)
 ·obtain ⟨a,xs,rfl,_⟩:=h
  rfl
 obtain ⟨a,xs,rfl,ha,hl,hxb,q⟩:=h
 have hub:∀ c ∈ uc xs,c.natAbs < 2 ^ 200 /\ 0 < c /\ c % 2=1:=fun c hc=>by
  obtain ⟨n,hn,h0,rfl⟩:=uc_of xs c hc
  obtain ⟨c1,c2,j,c3,c4,c5,c6,c7,c8⟩:=core_props h0
  exact ⟨Nat.lt_of_le_of_lt c6 (hxb n hn),c1,c2⟩
 have hul:(uc xs).length <= 6:=Nat.le_trans (uc_len xs) hl
 refine ⟨_,((@pss_cons _ _ _ _ _ (@ps_set _ _ (1) _ _ _ _ sc_by_signs.nd rfl (by walk_at "o") (@pe_lst _ _ _ _ pa_nil) (by rfl) (by walk_at "o")) (@pss_cons _ _ _ _ _ (@ps_set _ _ (2) _ _ _ _ sc_by_signs.nd rfl (by walk_at "o") pe_dnewK (by rfl) (by walk_at "o")) (@pss_cons _ _ _ _ _ (@ps_for _ _ _ _ _ _ _ _ PassesOwn.never rfl (@pi_list _ _ _ _ (@pe_cal _ _ _ _ _ _ _ _ _ _ C_unlike_cores hr rfl (@pa_cons _ _ _ _ _ (pv 0) pa_nil (by rfl)) (by decide) (by rfl) (by rfl))) (@pg_name _ _ (3) _ sc_by_signs.nd rfl (by walk_at "o") (by walk_at "o")) (@pss_one _ _ _ (@ps_dpM _ _ _ _ _ _ _ _ _ (@hu_of _ _ hr) (pv 2) (pv 3) (@pe_tup _ _ _ _ _ (@pa_cons _ _ _ _ _ (@pe_cal _ _ _ _ _ _ _ _ _ _ C_add_chain hr rfl (@pa_cons _ _ _ _ _ (pv 1) (@pa_cons _ _ _ _ _ (pv 3) pa_nil (by rfl)) (by rfl)) (by decide) (by rfl) (by rfl)) (@pa_cons _ _ _ _ _ pe_int (@pa_cons _ _ _ _ _ pe_int pa_nil (by rfl)) (by rfl)) (by rfl))) rfl)) (by intro _ ; rfl)) (@pss_one _ _ _ (@ps_ret _ _ _ _ (@pe_tup _ _ _ _ _ (@pa_cons _ _ _ _ _ pe_int (@pa_cons _ _ _ _ _ (pv 1) (@pa_cons _ _ _ _ _ (@pe_comp0 _ _ _ _ _ _ _ _ (["number","parts"]) (1) ([2]) _ _ _ rfl (@pi_list _ _ _ _ (pv 0)) (fun nd C s H fp=>⟨(@pg_name _ _ (0) _ nd rfl (by walk_at "o") (by walk_at "o")),pn_nil,(@pe_cal _ _ _ _ _ _ _ _ _ _ C_out_for hr rfl (@pa_cons _ _ _ _ _ (pv 0) (@pa_cons _ _ _ _ _ (pv 1) pa_nil (by rfl)) (by rfl)) (by decide) (by rfl) (by rfl))⟩) (by decide +kernel) (by first | rfl | decide +kernel) (by first | rfl | decide +kernel) rfl (fun _=>rfl)) pa_nil (by rfl)) (by rfl)) (by rfl))))))))),?_⟩
 rw [show start ["numbers","deeds","parts","odd"] [.ref a]=[some (.ref a),none,none,none] from rfl]
 try walk_at "WP"
 intro dl hdl
 have s1:=same_new hdl (.lst [])
 intro th hth
 have s2:=same_new hth (.dK [])
 have S2:=s1.trans s2
 have hth0:H th=none:=s1.free hth
 have hd2:=s2 _ _ (show upd H dl (.lst []) dl=some (.lst []) from upd_same)
 have ht2:upd (upd H dl (.lst [])) th (.dK []) th=some (.dK []):=upd_same
 generalize upd (upd H dl (.lst [])) th (.dK [])=H2 at S2 hd2 ht2 ⊢
 have htd:th ≠ dl:=ne_of ht2 hd2 (by intro z; cases z)
 refine ⟨a,xs,rfl,S2 _ _ ha,by omega,fun l H3 hl3 s3 hl3'=>?_⟩
 have hl0:H l=none:=S2.free hl3
 have hld:l ≠ dl:=(ne_of_none hd2 hl3).symm
 have hlt:l ≠ th:=(ne_of_none ht2 hl3).symm
 try walk_at "WP"
 refine ⟨⟨_,SqL.of hl3'⟩,?_⟩
 refine forL (xs:=(uc xs).map V.int) (fun i σ H'=>∃ (o:Option V) (us:List V) (ds:List Dd) (fd:List (Int × Int)) (kvs:List (Key × V)),σ = [some (.ref a),some (.ref dl),some (.ref th),o] /\ H' dl=some (.lst us) /\ HDs H' us ds /\ DOk ds /\ ds.length=costS ((uc xs).take i) /\ H' th=some (.dK kvs) /\ DKR H' kvs fd /\
   (∀ c ∈ (uc xs).take i,∃ k:Nat,fd.lookup c=some (k:Int) /\ (ev ds)[k]? = some c) /\ (∀ c,c ∉ (uc xs).take i -> fd.lookup c=none) /\ fd.length <= i /\ H' l=some (.lst ((uc xs).map V.int)) /\ Same H H')
  ⟨none,[],[],[],[],rfl,s3 _ _ hd2,hds_nil,dok_nil,rfl,s3 _ _ ht2,DKR.nil,by simp,by intro c _; rfl,Nat.le_refl _,hl3',S2.trans s3⟩ (fun i σ H' _ z=>by obtain ⟨_,_,_,_,_,_,_,_,_,_,_,_,_,_,_,h,_⟩:=z; exact SqL.of h) ?_ ?_
 ·rintro i x σ H' N hx ⟨o,us,ds,fd,kvs,rfl,hd,hh,ok,hcost,ht,hD,hc1,hc2,hfl,hll,SH⟩ hN
  rw [qI] at hx
  cases hn:(uc xs)[i]? with
  | none=>rw [hn] at hx; cases hx
  | some c =>
   rw [hn] at hx
   cases hx
   have hi:i < (uc xs).length:=(qB.mp hn).1
   obtain ⟨cb,c0,c2⟩:=hub c (qE hn)
   have hct:costS ((uc xs).take i) <= 200 * ((uc xs).take i).length:=costS_le fun d hd=>(hub d (List.mem_of_mem_take hd)).1
   rw [qO] at hct
   try walk_at "WP"
   refine ⟨dl,us,ds,c,rfl,hd,hh,ok,by omega,c0,c2,cb,fun made us' new H4 C4 hd4 hh4 ok4 hnew hev=>?_⟩
   have ht4:=C4 _ _ htd ht
   have hD4:=hD.chgL hd C4
   try walk_at "WP"
   intro y hy
   have sy:=same_new hy (.tup [V.int (made:Int),V.int 0,V.int 1])
   have hyy:upd H4 y (.tup [V.int (made:Int),V.int 0,V.int 1]) y=some (.tup [V.int (made:Int),V.int 0,V.int 1]):=upd_same
   have hd5:=sy _ _ hd4
   have ht5:=sy _ _ ht4
   have hh5:=hh4.same sy
   have hD5:=hD4.same sy
   have hl5:=sy _ _ (C4 _ _ hld hll)
   have SH5:∀ b o,H b=some o -> upd H4 y (.tup [V.int (made:Int),V.int 0,V.int 1]) b=some o:=fun b o hb=>sy _ _ (C4 _ _ (ne_of_none hb hdl) (SH _ _ hb))
   generalize upd H4 y (.tup [V.int (made:Int),V.int 0,V.int 1])=H5 at hyy hd5 ht5 hh5 hD5 hl5 SH5 ⊢
   (iterate 5 ((try (walk_at "WP")); (try (simp only [ht5,qJs,qJt,qJl,qJd,exists_eq_left',exists_eq_left])))); (try (walk_at "WP"))
   have hnone:=hc2 c (nodup_take (uc_nodup xs) hn)
   refine ⟨by rw [hD.len]; exact lt_big (by omega),?_⟩
   have C5:Chg th H5 (upd H5 th (.dK (putK kvs (.inl c) (.ref y)))):=Chg.upd _
   refine hN _ _ ⟨_,us',ds ++ new,fd ++ [(c,(made:Int))],_,rfl,C5 _ _ htd.symm hd5,hh5.chgD ht5 C5,ok4,?_,upd_same,(hD5.put hnone hyy).chgD ht5 C5,?_,?_,by simp; omega,C5 _ _ hlt hl5,?_⟩
   ·rw [costS_take hn,qF,hcost]
    omega
   ·intro d hd
    rw [List.take_add_one,hn] at hd
    rcases List.mem_append.mp hd with z | z
    ·obtain ⟨k,k1,k2⟩:=hc1 d z
     exact ⟨k,by rw [lk_app,k1]; rfl,ev_pre ds new k2⟩
    ·have e:d=c:=by simpa using z
     subst e
     exact ⟨made,by rw [lk_app,hnone]; simp,hev⟩
   ·intro d hd
    rw [List.take_add_one,hn] at hd
    have h1:d ∉ (uc xs).take i:=fun z=>hd (List.mem_append_left _ z)
    have h2:¬ d=c:=fun z=>hd (qK _ (by subst z; simp))
    rw [lk_app,hc2 d h1,if_neg h2]
    rfl
   ·exact fun b o hb=>C5 _ _ (ne_of_none hb hth0) (SH5 _ _ hb)
 ·rintro σ H' ⟨o,us,ds,fd,kvs,rfl,hd,hh,ok,hcost,ht,hD,hc1,hc2,hfl,hll,SH⟩
  rw [qC,List.take_length] at hcost hc1 hc2
  try walk_at "WP"
  have haa:=SH _ _ ha
  refine ⟨⟨_,SqL.of haa⟩,?_⟩
  refine comp_inv (xs:=xs.map V.int) (fun acc i ys H4=>H4 acc=some (.lst ys) /\ HOs K H4 ys (ev ds) (xs.take i) /\ i <= xs.length /\ Same H' H4) (by rw [qC]; exact le_big (by omega)) ?_ ?_ ?_ ?_ ?_ ?_ ?_
  ·rintro acc i ys H4 hi ⟨_,_,_,s4⟩
   exact ⟨_,_,SqL.of (s4 _ _ haa),qA hi⟩
  ·rintro acc i ys H4 x H5 ⟨_,_,_,s4⟩ y
   exact ⟨y.1,y.2 _ (SqL.of (s4 _ _ haa))⟩
  ·rintro acc ys H4 ⟨_,_,_,s4⟩
   exact ⟨_,SqL.of (s4 _ _ haa),Nat.le_refl _⟩
  ·intro acc hacc
   exact ⟨upd_same,⟨rfl,fun k n e=>by simp at e⟩,Nat.zero_le _,same_new hacc _⟩
  ·rintro acc i ys H4 ⟨h1,h2,h3,_⟩
   refine ⟨h1,?_⟩
   rw [h2.len,qO]
   omega
  ·rintro acc i ys H4 x R hacc hx ⟨h1,h2,h3,s4⟩ hR _
   rw [qI] at hx
   cases hn:xs[i]? with
   | none=>rw [hn] at hx; cases hx
   | some n =>
    rw [hn] at hx
    cases hx
    have hi:i < xs.length:=(qB.mp hn).1
    have hmem:=qE hn
    have ecap:capV [2] [some (V.ref a),some (V.ref dl),some (V.ref th),o]=[some (V.ref th)]:=rfl
    rw [ecap]
    try walk_at "WP"
    refine ⟨n,th,kvs,fd,ev ds,rfl,s4 _ _ ht,hD.same s4,hxb n hmem,fun h0=>hc1 _ (uc_has xs n hmem h0),fun r a' b' c' H5 hr hok _ s5=>?_⟩
    refine hR _ _ (s5 _ _ h1) ⟨upd_same,?_,hi,same_upd hacc (s4.trans s5)⟩
    rw [List.take_add_one,hn]
    exact ((h2.same s5).snoc hr hok).updL (s5 _ _ h1)
  ·rintro acc ys H4 hacc ⟨h1,h2,h3,s4⟩
   rw [qC,List.take_length] at h2
   try walk_at "WP"
   intro t ht
   have s5:=same_new ht (.tup [V.int 1,V.ref dl,V.ref acc])
   have S5:=s4.trans s5
   exact q t dl acc ds _ (SH.trans S5) (SH.free (s4.free ht)) hdl (SH.free hacc) ⟨upd_same,⟨us,S5 _ _ hd,hh.same S5⟩,⟨ys,s5 _ _ h1,h2.same s5⟩,ok,(ne_of_none hd hacc).symm⟩ hcost
end
section
variable {P:Program}{w:World}{K:PySem.W.Frag}{mg:Str -> Option Value}{base:Heap}
theorem ok_shifted (T:Txt K mg):Cal P w K mg base 1 "shifted" ["number","shift"] spShifted:=by
 have B:=T.bl
 refine mkCal T.t_shifted sc_shifted (fun vs H Q E h=>?_) (fun f cdv A outer s H vs Q E hr h=>?_)
 ·obtain ⟨n,s,rfl,_⟩:=h
  rfl
 obtain ⟨n,sh,rfl,h0,h1,hb,q⟩:=h
 refine ⟨_,((@pss_cons _ _ _ _ _ (@ps_if _ _ _ _ _ _ _ _ (@pt_cmpR _ _ _ _ _ _ _ _ op_ge (pv 1) pe_int (@nomark _ _ (by decide) (by decide))) (@pss_one _ _ _ (@ps_ret _ _ _ _ (@pe_op _ _ _ _ _ _ _ _ op_shlB (pv 0) (pv 1)))) pss_nil) (@pss_cons _ _ _ _ _ (@ps_set _ _ (2) _ _ _ _ sc_shifted.nd rfl (by walk_at "o") (@pe_op _ _ _ _ _ _ _ _ op_shr (pv 0) (@pe_un _ _ _ _ _ _ un_neg (pv 1))) (by rfl) (by walk_at "o")) (@pss_cons _ _ _ _ _ (@ps_if _ _ _ _ _ _ _ _ (@pt_cmpR _ _ _ _ _ _ _ _ op_ne (@pe_op _ _ _ _ _ _ _ _ op_shlB (pv 2) (@pe_un _ _ _ _ _ _ un_neg (pv 1))) (pv 0) (@nomark _ _ (by decide) (by decide))) (@pss_one _ _ _ (@ps_ret _ _ _ _ pe_non)) pss_nil) (@pss_one _ _ _ (@ps_ret _ _ _ _ (pv 2))))))),?_⟩
 rw [show start ["number","shift","halved"] [.int n,.int sh]=[some (.int n),some (.int sh),none] from rfl]
 try walk_at "WP"
 unfold shV at q
 refine ite2 (fun c=>?_) (fun c=>?_)
 ·rw [if_pos c] at q
  exact ⟨shl_ok c (by omega) hb (by decide),q⟩
 ·rw [if_neg c] at q
  refine ⟨by omega,shl_ok (by omega) (by omega) (abs_div (pow_pos2 _) hb) (by decide),?_⟩
  refine ite2 (fun d=>?_) (fun d=>?_)
  ·rw [if_neg d] at q
   exact q
  ·rw [if_pos (Decidable.not_not.mp d)] at q
   exact q
end
section
variable {P:Program}{w:World}{K:PySem.W.Frag}{mg:Str -> Option Value}{base:Heap}
theorem ok_inrow (T:Txt K mg):Cal P w K mg base 1 "input_row" ["ins","thing"] spInRow:=by
 have B:=T.bl
 refine mkCal T.t_input_row sc_input_row (fun vs H Q E h=>?_) (fun f cdv A outer s H vs Q E hr h=>?_)
 ·obtain ⟨n,i,rfl,_⟩:=h
  rfl
 obtain ⟨n,i,rfl,hn,q⟩:=h
 refine ⟨_,((@pss_one _ _ _ (@ps_ret _ _ _ _ (@pe_callTy _ _ _ _ _ _ _ _ _ call_tuple_of rfl B.tuple bo_tuple (@pa_cons _ _ _ _ _ (@pe_comp0 _ _ _ _ _ _ _ _ (["place","thing"]) (1) ([1]) _ _ _ rfl (@pi_range1 _ _ _ _ _ _ rfl B.range (@pa_cons _ _ _ _ _ (pv 0) pa_nil (by rfl)) (by rfl)) (fun nd C s H fp=>⟨(@pg_name _ _ (0) _ nd rfl (by walk_at "o") (by walk_at "o")),pn_nil,(@pe_ifExp _ _ _ _ _ _ _ _ (@pt_cmpR _ _ _ _ _ _ _ _ op_eq (pv 0) (pv 1) (@nomark _ _ (by decide) (by decide))) pe_int pe_int)⟩) (by decide +kernel) (by first | rfl | decide +kernel) (by first | rfl | decide +kernel) rfl (fun _=>rfl)) pa_nil (by rfl)) (by decide) (by decide) (by rfl) (by rfl))))),?_⟩
 rw [show start ["ins","thing"] [.int n,.int i]=[some (.int n),some (.int i)] from rfl]
 try walk_at "WP"
 refine ⟨by omega,by omega,?_⟩
 rw [Int.toNat_natCast]
 refine comp_R (f:=unV i) (le_size (by omega)) (fun y H5 R5 hy s5 hR5=>?_) (fun acc hacc=>?_)
 ·obtain ⟨k,hk,rfl⟩:=qP.mp hy
  rw [show capV [1] [some (V.int (n:Int)),some (V.int (i:Int))]=[some (V.int (i:Int))] from rfl]
  try walk_at "WP"
  have e:unV i (V.int (0+(k:Int)))=some (V.int (if 0+(k:Int)=(i:Int) then 1 else 0)):=rfl
  rw [e] at hR5
  refine ite2 (fun z=>?_) (fun z=>?_)
  ·rw [if_pos z] at hR5
   exact hR5
  ·rw [if_neg z] at hR5
   exact hR5
 rw [unV_map]
 have sa:=same_new hacc (.lst ((unitRow n i).map V.int))
 try walk_at "WP"
 refine ⟨_,.inl ⟨SqL.of upd_same,fun r hr0=>?_⟩⟩
 exact q r _ (sa.free hr0) (sa.trans (same_new hr0 _)) upd_same
theorem ok_inrows (T:Txt K mg):Cal P w K mg base 2 "input_rows" ["ins"] spInRows:=by
 have B:=T.bl
 have C_input_row:=ok_inrow (P:=P) (w:=w) (base:=base) T
 refine mkCal T.t_input_rows sc_input_rows (fun vs H Q E h=>?_) (fun f cdv A outer s H vs Q E hr h=>?_)
 ·obtain ⟨n,rfl,_⟩:=h
  rfl
 obtain ⟨n,rfl,hn,q⟩:=h
 refine ⟨_,((@pss_one _ _ _ (@ps_ret _ _ _ _ (@pe_comp0 _ _ _ _ _ _ _ _ (["thing","ins"]) (1) ([0]) _ _ _ rfl (@pi_range1 _ _ _ _ _ _ rfl B.range (@pa_cons _ _ _ _ _ (pv 0) pa_nil (by rfl)) (by rfl)) (fun nd C s H fp=>⟨(@pg_name _ _ (0) _ nd rfl (by walk_at "o") (by walk_at "o")),pn_nil,(@pe_cal _ _ _ _ _ _ _ _ _ _ C_input_row hr rfl (@pa_cons _ _ _ _ _ (pv 1) (@pa_cons _ _ _ _ _ (pv 0) pa_nil (by rfl)) (by rfl)) (by decide) (by rfl) (by rfl))⟩) (by decide +kernel) (by first | rfl | decide +kernel) (by first | rfl | decide +kernel) rfl (fun _=>rfl))))),?_⟩
 rw [show start ["ins"] [.int n]=[some (.int n)] from rfl]
 try walk_at "WP"
 refine ⟨by omega,by omega,?_⟩
 rw [Int.toNat_natCast]
 refine comp_tups (f:=iT) (xs:=rngV 0 n) ((List.range n).map (unitRow n)) (by rw [rngV_len,qC,List.length_range]) (by rw [rngV_len]; omega) (fun H' _=>it_R) (fun i x z H' R hx hz s' hR=>?_) (fun acc ys H' ha s' h' ht=>q acc ys H' ha s' h' ht)
 have hi:i < n:=by have:=(qB.mp hx).1; rwa [rngV_len] at this
 rw [rngV_get hi] at hx
 cases hx
 rw [qI,List.getElem?_range hi] at hz
 cases hz
 rw [show capV [0] [some (V.int (n:Int))]=[some (V.int (n:Int))] from rfl]
 try walk_at "WP"
 rw [Int.zero_add]
 exact ⟨n,i,rfl,hn,fun r H5 a b c=>hR r H5 a b c⟩
end
section
variable {P:Program}{w:World}{K:PySem.W.Frag}{mg:Str -> Option Value}{base:Heap}
theorem ok_shrowN (T:Txt K mg):Cal P w K mg base 2 "shifted_row" ["row","shift"] spShRowN:=by
 have B:=T.bl
 have C_shifted:=ok_shifted (P:=P) (w:=w) (base:=base) T
 refine mkCal T.t_shifted_row sc_shifted_row (fun vs H Q E h=>?_) (fun f cdv A outer s H vs Q E hr h=>?_)
 ·obtain ⟨_,_,_,rfl,_⟩:=h
  rfl
 obtain ⟨l,sh,xs,rfl,hl,hlen,hb,s0,s1,q⟩:=h
 refine ⟨_,((@pss_one _ _ _ (@ps_ret _ _ _ _ (@pe_comp0 _ _ _ _ _ _ _ _ (["number","shift"]) (1) ([1]) _ _ _ rfl (@pi_tup _ _ _ _ (pv 0)) (fun nd C s H fp=>⟨(@pg_name _ _ (0) _ nd rfl (by walk_at "o") (by walk_at "o")),pn_nil,(@pe_cal _ _ _ _ _ _ _ _ _ _ C_shifted hr rfl (@pa_cons _ _ _ _ _ (pv 0) (@pa_cons _ _ _ _ _ (pv 1) pa_nil (by rfl)) (by rfl)) (by decide) (by rfl) (by rfl))⟩) (by decide +kernel) (by first | rfl | decide +kernel) (by first | rfl | decide +kernel) rfl (fun _=>rfl))))),?_⟩
 rw [show start ["row","shift"] [.ref l,.int sh]=[some (.ref l),some (.int sh)] from rfl]
 unfold iT at hl
 try walk_at "WP"
 refine ⟨⟨_,SqT.of hl⟩,?_⟩
 refine comp_T (f:=shRV sh) (SqT.of hl) (by rw [qC]; exact le_big (by omega)) (fun y H' R hy hS' hR=>?_) (fun acc hacc=>?_)
 ·obtain ⟨n,hn,rfl⟩:=qP.mp hy
  rw [show capV [1] [some (V.ref l),some (V.int sh)]=[some (V.int sh)] from rfl]
  try walk_at "WP"
  exact ⟨n,sh,rfl,by omega,by omega,qJ (hb n hn) (qN (by decide) (by decide)),hR⟩
 rw [shRV_mapN]
 exact q acc _ hacc (same_new hacc _) upd_same
theorem ok_secondC (T:Txt K mg):Cal P w K mg base 1 "second_sign" ["deed"] (spSecond K):=by
 have B:=T.bl
 refine mkCal T.t_second_sign sc_second_sign (fun vs H Q E h=>?_) (fun f cdv A outer s H vs Q E hr h=>?_)
 ·obtain ⟨x,d,rfl,_⟩:=h
  rfl
 obtain ⟨x,d,rfl,hx,q⟩:=h
 refine ⟨_,((@pss_one _ _ _ (@ps_ret _ _ _ _ (@pe_ifExp _ _ _ _ _ _ _ _ (@pt_cmpR _ _ _ _ _ _ _ _ op_eq (@pe_ix _ _ _ _ _ _ _ ix_tup (pv 0) pe_int (fun _ _=>rfl)) pe_str (@nomark _ _ (by decide) (by decide))) (@pe_un _ _ _ _ _ _ un_neg pe_int) pe_int)))),?_⟩
 rw [show start ["deed"] [.ref x]=[some (.ref x)] from rfl]
 unfold wTup at hx
 (iterate 5 ((try (walk_at "WP")); (try (simp only [hx,qJs,qJt,qJl,qJd,exists_eq_left',exists_eq_left])))); (try (walk_at "WP"))
 refine ⟨_,hx,_,rfl,?_⟩
 try walk_at "WP"
 unfold sgW at q
 by_cases z:d.w=Str.ofString "less"
 ·rw [if_pos z] at q ⊢
  exact q
 ·rw [if_neg z] at q ⊢
  exact q
theorem ok_second (T:Txt K mg):Cal P w K mg base 1 "second_sign" ["deed"] spSnd:=(ok_secondC (P:=P) (w:=w) (base:=base) T).imp fun vs H Q E h=>by
 obtain ⟨x,d,e,hx,q⟩:=h
 exact ⟨x,d,e,SqT.of hx,q⟩
theorem ok_drow4 (T:Txt K mg):Cal P w K mg base 3 "deed_row" ["deed","rows"] (spDRow4 K):=by
 have B:=T.bl
 have C_shifted_row:=ok_shrowN (P:=P) (w:=w) (base:=base) T
 have C_second_sign:=(ok_secondC (P:=P) (w:=w) (base:=base) T).mono (k:=2) (by decide)
 refine mkCal T.t_deed_row sc_deed_row (fun vs H Q E h=>?_) (fun f cdv A outer s H vs Q E hr h=>?_)
 ·obtain ⟨x,l,d,ys,rs,ins,rfl,_⟩:=h
  rfl
 obtain ⟨x,l,d,ys,rs,ins,rfl,hx,hl,ht,ha,hb,hsa,hsb,hw,hi,rb,q⟩:=h
 refine ⟨_,((@pss_cons _ _ _ _ _ (@ps_set _ _ (2) _ _ _ _ sc_deed_row.nd rfl (by walk_at "o") (@pe_cal _ _ _ _ _ _ _ _ _ _ C_shifted_row hr rfl (@pa_cons _ _ _ _ _ (@pe_ix _ _ _ _ _ _ _ ix_M (pv 1) (@pe_ix _ _ _ _ _ _ _ ix_tup (pv 0) pe_int (fun _ _=>rfl)) (fun _ _=>rfl)) (@pa_cons _ _ _ _ _ (@pe_ix _ _ _ _ _ _ _ ix_tup (pv 0) pe_int (fun _ _=>rfl)) pa_nil (by rfl)) (by rfl)) (by decide) (by rfl) (by rfl)) (by rfl) (by walk_at "o")) (@pss_cons _ _ _ _ _ (@ps_set _ _ (3) _ _ _ _ sc_deed_row.nd rfl (by walk_at "o") (@pe_cal _ _ _ _ _ _ _ _ _ _ C_shifted_row hr rfl (@pa_cons _ _ _ _ _ (@pe_ix _ _ _ _ _ _ _ ix_M (pv 1) (@pe_ix _ _ _ _ _ _ _ ix_tup (pv 0) pe_int (fun _ _=>rfl)) (fun _ _=>rfl)) (@pa_cons _ _ _ _ _ (@pe_ix _ _ _ _ _ _ _ ix_tup (pv 0) pe_int (fun _ _=>rfl)) pa_nil (by rfl)) (by rfl)) (by decide) (by rfl) (by rfl)) (by rfl) (by walk_at "o")) (@pss_cons _ _ _ _ _ (@ps_set _ _ (4) _ _ _ _ sc_deed_row.nd rfl (by walk_at "o") (@pe_cal _ _ _ _ _ _ _ _ _ _ C_second_sign hr rfl (@pa_cons _ _ _ _ _ (pv 0) pa_nil (by rfl)) (by decide) (by rfl) (by rfl)) (by rfl) (by walk_at "o")) (@pss_one _ _ _ (@ps_ret _ _ _ _ (@pe_callTy _ _ _ _ _ _ _ _ _ call_tuple_of rfl B.tuple bo_tuple (@pa_cons _ _ _ _ _ (@pe_comp0 _ _ _ _ _ _ _ _ (["one","other","sign"]) (2) ([4]) _ _ _ rfl (@pi_zip _ _ _ _ _ _ _ _ _ rfl B.zip (@pa_cons _ _ _ _ _ (pv 2) (@pa_cons _ _ _ _ _ (pv 3) pa_nil (by rfl)) (by rfl)) (by rfl) (by rfl)) (fun nd C s H fp=>⟨(@pg_tupM _ _ _ _ _ 2 rfl (@pgs_cons _ _ _ _ _ (@pg_name _ _ (0) _ nd rfl (by walk_at "o") (by walk_at "o")) (@pgs_cons _ _ _ _ _ (@pg_name _ _ (1) _ nd rfl (by walk_at "o") (by walk_at "o")) pgs_nil (by rfl)) (by rfl)) (by rfl) (by rfl)),pn_nil,(@pe_op _ _ _ _ _ _ _ _ op_add (pv 0) (@pe_op _ _ _ _ _ _ _ _ op_mulB (pv 2) (pv 1)))⟩) (by decide +kernel) (by first | rfl | decide +kernel) (by first | rfl | decide +kernel) rfl (fun _=>rfl)) pa_nil (by rfl)) (by decide) (by decide) (by rfl) (by rfl)))))))),?_⟩
 rw [show start ["deed","rows","left","right","sign"] [.ref x,.ref l]=[some (.ref x),some (.ref l),none,none,none] from rfl]
 have hx':=hx
 unfold wTup at hx'
 (iterate 5 ((try (walk_at "WP")); (try (simp only [hl,qJs,qJt,qJl,qJd,exists_eq_left',exists_eq_left])))); (try (walk_at "WP"))
 obtain ⟨la,a1,a2,a3⟩:=tup_of ht ha
 refine ⟨_,hx',_,rfl,?_⟩
 (iterate 5 ((try (walk_at "WP")); (try (simp only [hl,qJs,qJt,qJl,qJd,exists_eq_left',exists_eq_left])))); (try (walk_at "WP"))
 refine ⟨_,a1,_,hx',_,rfl,?_⟩
 refine ⟨la,d.s,_,rfl,a2,by rw [hw _ a3]; omega,rb.lt a3 (by decide),hsa.1,hsa.2.1,fun r1 H1 n1 s1 h1=>?_⟩
 rw [shV_map4 hsa.2.2] at h1
 have hx1:=s1.seqT hx'
 have hl1:=s1 _ _ hl
 (iterate 5 ((try (walk_at "WP")); (try (simp only [hl1,qJs,qJt,qJl,qJd,exists_eq_left',exists_eq_left])))); (try (walk_at "WP"))
 refine ⟨_,hx1,_,rfl,?_⟩
 (iterate 5 ((try (walk_at "WP")); (try (simp only [hl1,qJs,qJt,qJl,qJd,exists_eq_left',exists_eq_left])))); (try (walk_at "WP"))
 obtain ⟨lb,b1,b2,b3⟩:=tup_of (ht.same s1) hb
 refine ⟨_,b1,_,hx1,_,rfl,?_⟩
 refine ⟨lb,d.t,_,rfl,b2,by rw [hw _ b3]; omega,rb.lt b3 (by decide),hsb.1,hsb.2.1,fun r2 H2 n2 s2 h2=>?_⟩
 rw [shV_map4 hsb.2.2] at h2
 try walk_at "WP"
 refine ⟨x,d,rfl,(s1.trans s2).seqT hx,?_⟩
 try walk_at "WP"
 have h1':=s2 _ _ h1
 refine ⟨r1,r2,⟨rfl,rfl⟩,_,SqL.of h1',_,SqL.of h2,?_⟩
 have hg:sgW d.w=1 \/ sgW d.w = -1:=by
  unfold sgW
  split
  ·exact .inr rfl
  ·exact .inl rfl
 have hla:=hw _ a3
 have hlb:=hw _ b3
 refine comp_zip (SqL.of h1') (SqL.of h2) (by simp only [qC]; omega) (by simp only [qC]; omega) ((rowD rs d).map V.int) (by unfold rowD; simp only [qC,List.length_zipWith]; omega) (fun i u v z H' R hu hv hz s' hR=>?_) (fun acc H3 n3 s3 h3=>?_)
 ·rw [show capV [4] [some (V.ref x),some (V.ref l),some (V.ref r1),some (V.ref r2),some (V.int (sgW d.w))]=[some (V.int (sgW d.w))] from rfl]
  obtain ⟨x',hx2,rfl⟩:=map_at hu
  obtain ⟨y',hy2,rfl⟩:=map_at hv
  obtain ⟨z',hz2,rfl⟩:=map_at hz
  have ez:z'=x'+sgW d.w * y':=by
   unfold rowD at hz2
   rw [qI] at hx2 hy2
   rw [List.getElem?_zipWith] at hz2
   cases q1:(rs.getD d.a [])[i]? with
   | none=>rw [q1] at hx2; cases hx2
   | some p1 =>
    cases q2:(rs.getD d.b [])[i]? with
    | none=>rw [q2] at hy2; cases hy2
    | some p2 =>
     rw [q1] at hx2 hz2
     rw [q2] at hy2 hz2
     cases hx2
     cases hy2
     cases hz2
     rfl
  subst ez
  rw [List.cons_append,List.cons_append,List.nil_append]
  try walk_at "WP"
  exact ⟨mul_l (by omega) (by omega),hR⟩
 try walk_at "WP"
 refine ⟨_,.inl ⟨SqL.of h3,fun r hr0=>?_⟩⟩
 have s13:=(s1.trans s2).trans s3
 exact q r _ (s13.free hr0) (s13.trans (same_new hr0 _)) upd_same
end
section
variable {P:Program}{w:World}{K:PySem.W.Frag}{mg:Str -> Option Value}{base:Heap}
theorem ok_nums4 (T:Txt K mg):Cal P w K mg base 4 "numbers" ["web"] (spNums4B K):=by
 have B:=T.bl
 have C_input_rows:=(ok_inrows (P:=P) (w:=w) (base:=base) T).mono (k:=3) (by decide)
 have C_deed_row:=ok_drow4 (P:=P) (w:=w) (base:=base) T
 refine mkCal T.t_numbers sc_numbers (fun vs H Q E h=>?_) (fun f cdv A outer s H vs Q E hr h=>?_)
 ·obtain ⟨x,_,_,_,_,_,_,_,rfl,_⟩:=h
  rfl
 obtain ⟨x,dl,gl,ins,us,ds,os,gs,rfl,W,F,q⟩:=h
 refine ⟨_,((@pss_cons _ _ _ _ _ (@ps_set _ _ (1) _ _ _ _ sc_numbers.nd rfl (by walk_at "o") (@pe_cal _ _ _ _ _ _ _ _ _ _ C_input_rows hr rfl (@pa_cons _ _ _ _ _ (@pe_ix _ _ _ _ _ _ _ ix_U (pv 0) pe_int (fun _ _=>rfl)) pa_nil (by rfl)) (by decide) (by rfl) (by rfl)) (by rfl) (by walk_at "o")) (@pss_cons _ _ _ _ _ (@ps_for _ _ _ _ _ _ _ _ PassesOwn.never rfl (@pi_list _ _ _ _ (@pe_ix _ _ _ _ _ _ _ ix_U (pv 0) pe_int (fun _ _=>rfl))) (@pg_name _ _ (2) _ sc_numbers.nd rfl (by walk_at "o") (by walk_at "o")) (@pss_one _ _ _ (@ps_expr _ _ _ _ (@pe_bm _ _ _ _ _ _ _ _ _ _ _ _ PySem.F.plainAttrs_list PySem.F.slot_list_append PySem.F.type_list_append mt_append (pv 1) (@pa_cons _ _ _ _ _ (@pe_cal _ _ _ _ _ _ _ _ _ _ C_deed_row hr rfl (@pa_cons _ _ _ _ _ (pv 2) (@pa_cons _ _ _ _ _ (pv 1) pa_nil (by rfl)) (by rfl)) (by decide) (by rfl) (by rfl)) pa_nil (by rfl)) (by rfl) (by rfl) (by rfl) (by rfl) (by rfl)) (by rfl))) (by intro _ ; rfl)) (@pss_one _ _ _ (@ps_ret _ _ _ _ (pv 1)))))),?_⟩
 rw [show start ["web","rows","deed"] [.ref x]=[some (.ref x),none,none] from rfl]
 have h1:=W.tup
 (iterate 5 ((try (walk_at "WP")); (try (simp only [h1,qJs,qJt,qJl,qJd,exists_eq_left',exists_eq_left])))); (try (walk_at "WP"))
 have i12:=F.ok.i2
 have dl60:=F.ok.dl
 refine ⟨ins,rfl,by omega,fun rw0 ys H1 nr s1 hr1 ht=>?_⟩
 have h2:=s1 _ _ h1
 (iterate 5 ((try (walk_at "WP")); (try (simp only [h2,qJs,qJt,qJl,qJd,exists_eq_left',exists_eq_left])))); (try (walk_at "WP"))
 refine ⟨⟨_,SqL.of (s1 _ _ W.dll)⟩,?_⟩
 refine forL (xs:=us) (fun i σ H2=>∃ (o2:Option V) (ys:List V),σ = [some (.ref x),some (.ref rw0),o2] /\ Same H H2 /\ H2 rw0=some (.lst ys) /\ HTs iT H2 ys (rowsW ins (ds.take i))) ⟨none,ys,rfl,s1,hr1,ht⟩ ?_ ?_ ?_
 ·rintro i σ H2 _ ⟨_,_,_,s2,_⟩
  exact SqL.of (s2 _ _ W.dll)
 ·rintro i v σ H2 N hv ⟨o2,ys,rfl,s2,hr2,ht2⟩ hN
  have hi:i < ds.length:=by rw [← W.hds.len]; exact (qB.mp hv).1
  obtain ⟨y,hy1,hy2⟩:=W.hds.at_ i _ (qA hi)
  have hdi:ds[i]? = some ds[i]:=qA hi
  generalize ds[i]=d at hy2 hdi
  rw [hv] at hy1
  cases hy1
  try walk_at "WP"
  refine ⟨ty_list hr2,?_⟩
  obtain ⟨da,db,sa,sb⟩:=F.sh i d hdi
  have rl:(rowsW ins (ds.take i)).length=ins+i:=by rw [rowsW_len,qO]; omega
  refine ⟨y,rw0,d,ys,rowsW ins (ds.take i),ins,rfl,SqT.of (s2 _ _ hy2),hr2,ht2,by omega,by omega,by rw [rowsW_takeD (by omega) da]; exact sa,by rw [rowsW_takeD (by omega) db]; exact sb,fun r hr=>F.wd r (rowsW_sub r hr),i12,fun r hr=>F.rb r (rowsW_sub r hr),fun r H3 nr3 s3 hr3=>?_⟩
  have hr4:=s3 _ _ hr2
  have yl:ys.length=ins+i:=by rw [ht2.len,rl]
  (iterate 5 ((try (walk_at "WP")); (try (simp only [hr4,qJs,qJt,qJl,qJd,exists_eq_left',exists_eq_left])))); (try (walk_at "WP"))
  refine ⟨qJ (by omega:ys.length < 1000) (le_size (by decide)),hN _ _ ⟨_,_,rfl,same_upd nr (s2.trans s3),upd_same,?_⟩⟩
  rw [rowsW_take hdi]
  exact ((ht2.same s3).chgL hr4 (Chg.upd _)).snoc (by rw [upd_ne (ne_of hr3 hr4 (by intro z; cases z))]; exact hr3)
 ·rintro σ H2 ⟨o2,ys,rfl,s2,hr2,ht2⟩
  try walk_at "WP"
  rw [W.hds.len,List.take_length] at ht2
  exact q rw0 ys H2 nr s2 hr2 ht2
end
section
variable {P:Program}{w:World}{K:PySem.W.Frag}{mg:Str -> Option Value}{base:Heap}
theorem ok_form (T:Txt K mg):Cal P w K mg base 2 "form_of" ["row"] spForm:=by
 have B:=T.bl
 have C_core:=ok_core (P:=P) (w:=w) (base:=base) T
 have C_shifted:=ok_shifted (P:=P) (w:=w) (base:=base) T
 refine mkCal T.t_form_of sc_form_of (fun vs H Q E h=>?_) (fun f cdv A outer s H vs Q E hr h=>?_)
 ·obtain ⟨_,_,rfl,_⟩:=h
  rfl
 obtain ⟨r,row,rfl,hr0,rl,rb,q0,q1⟩:=h
 refine ⟨_,((@pss_cons _ _ _ _ _ (@ps_setComp0 _ _ _ _ (1) _ _ _ _ _ _ _ (["number"]) (1) ([]) _ _ _ rfl (@pi_tup _ _ _ _ (pv 0)) (fun nd C s H fp=>⟨(@pg_name _ _ (0) _ nd rfl (by walk_at "o") (by walk_at "o")),(@pn_one _ _ _ (@pt_cmpR _ _ _ _ _ _ _ _ op_ne (pv 0) pe_int (@nomark _ _ (by decide) (by decide)))),(@pe_cal _ _ _ _ _ _ _ _ _ _ C_core hr rfl (@pa_cons _ _ _ _ _ (pv 0) pa_nil (by rfl)) (by decide) (by rfl) (by rfl))⟩) (by decide +kernel) (by first | rfl | decide +kernel) (by first | rfl | decide +kernel) rfl (fun _=>rfl) sc_form_of.nd rfl (by walk_at "o") (by walk_at "o") rfl) (@pss_cons _ _ _ _ _ (@ps_if _ _ _ _ _ _ _ _ (@pt_cmpR _ _ _ _ _ _ _ _ (@op_eqE _ _ hr) (pv 1) (@pe_lst _ _ _ _ pa_nil) (@nomark _ _ (by decide) (by decide))) (@pss_one _ _ _ (@ps_ret _ _ _ _ (@pe_tup _ _ _ _ _ (@pa_cons _ _ _ _ _ (pv 0) (@pa_cons _ _ _ _ _ pe_int (@pa_cons _ _ _ _ _ pe_int pa_nil (by rfl)) (by rfl)) (by rfl))))) pss_nil) (@pss_cons _ _ _ _ _ (@ps_set _ _ (2) _ _ _ _ sc_form_of.nd rfl (by walk_at "o") (@pe_callB _ _ _ _ _ _ _ _ _ (@call_minG _ rfl) rfl B.min bo_min (@pa_cons _ _ _ _ _ (@pe_comp0 _ _ _ _ _ _ _ _ (["part"]) (1) ([]) _ _ _ rfl (@pi_list _ _ _ _ (pv 1)) (fun nd C s H fp=>⟨(@pg_name _ _ (0) _ nd rfl (by walk_at "o") (by walk_at "o")),pn_nil,(@pe_ix _ _ _ _ _ _ _ ix_U (pv 0) pe_int (fun _ _=>rfl))⟩) (by decide +kernel) (by first | rfl | decide +kernel) (by first | rfl | decide +kernel) rfl (fun _=>rfl)) pa_nil (by rfl)) (by decide) (by decide) (by rfl) (by rfl)) (by rfl) (by walk_at "o")) (@pss_cons _ _ _ _ _ (@ps_set _ _ (3) _ _ _ _ sc_form_of.nd rfl (by walk_at "o") (@pe_ix _ _ _ _ _ _ _ ix_U (@pe_ix _ _ _ _ _ _ _ ix_M (pv 1) pe_int (fun _ _=>rfl)) pe_int (fun _ _=>rfl)) (by rfl) (by walk_at "o")) (@pss_one _ _ _ (@ps_ret _ _ _ _ (@pe_tup _ _ _ _ _ (@pa_cons _ _ _ _ _ (@pe_callTy _ _ _ _ _ _ _ _ _ call_tuple_of rfl B.tuple bo_tuple (@pa_cons _ _ _ _ _ (@pe_comp0 _ _ _ _ _ _ _ _ (["number","sign","shift"]) (1) ([3,2]) _ _ _ rfl (@pi_tup _ _ _ _ (pv 0)) (fun nd C s H fp=>⟨(@pg_name _ _ (0) _ nd rfl (by walk_at "o") (by walk_at "o")),pn_nil,(@pe_op _ _ _ _ _ _ _ _ op_mulB (pv 1) (@pe_cal _ _ _ _ _ _ _ _ _ _ C_shifted hr rfl (@pa_cons _ _ _ _ _ (pv 0) (@pa_cons _ _ _ _ _ (@pe_un _ _ _ _ _ _ un_neg (pv 2)) pa_nil (by rfl)) (by rfl)) (by decide) (by rfl) (by rfl)))⟩) (by decide +kernel) (by first | rfl | decide +kernel) (by first | rfl | decide +kernel) rfl (fun _=>rfl)) pa_nil (by rfl)) (by decide) (by decide) (by rfl) (by rfl)) (@pa_cons _ _ _ _ _ (pv 2) (@pa_cons _ _ _ _ _ (pv 3) pa_nil (by rfl)) (by rfl)) (by rfl)))))))))),?_⟩
 rw [show start ["row","cores","shift","sign"] [.ref r]=[some (.ref r),none,none,none] from rfl]
 refine seq_in fun R_ hR_=>?_
 try walk_at "WP"
 refine ⟨⟨_,SqT.of hr0⟩,?_⟩
 refine comp_tupF (fun x=>decide (x ≠ 0)) coT hr0 (by omega) (fun n H' R hn s' hR=>?_) (fun n H' R hn s' hR=>?_) (fun c ws H1 nc s1 hc ht=>?_)
 ·try walk_at "WP"
  have e:(!decide (n=0))=decide (n ≠ 0):=by simp
  rw [e]
  exact hR
 ·try walk_at "WP"
  refine ⟨n,rfl,fun p np=>?_⟩
  exact hR p _ (same_new np _) upd_same
 have fl:(row.filter fun x=>decide (x ≠ 0)).length <= row.length:=List.length_filter_le _ _
 (try (walk_at "WP")); (try (refine seq_out hR_ ?_)); (try (refine seq_in fun R_ hR_=>?_)); (try (walk_at "WP"))
 intro e ne
 refine abs_ ne fun H2 s2 h2=>?_
 have s12:=s1.trans s2
 refine ⟨ws,SqL.of (s2 _ _ hc),SqL.of h2,?_⟩
 (try (walk_at "WP")); (try (refine seq_out hR_ ?_)); (try (refine seq_in fun R_ hR_=>?_)); (try (walk_at "WP"))
 have wl:=ht.len
 refine ite2 (fun z=>?_) (fun z=>?_)
 ·intro t nt
  refine q0 (fun x hx=>Classical.byContradiction fun x0=>?_) t _ (s12.trans (same_new nt _)) upd_same
  have:=List.length_pos_of_mem (List.mem_filter.mpr ⟨hx,decide_eq_true x0⟩:x ∈ row.filter fun x=>decide (x ≠ 0))
  omega
 obtain ⟨n,rest,ef⟩:∃ n rest,(row.filter fun x=>decide (x ≠ 0))=n :: rest:=List.exists_cons_of_length_pos (by omega)
 obtain ⟨i0,hi0,n0,hz0⟩:=first_nz ef
 have hc2:=s2 _ _ hc
 have ht2:=ht.same s2
 have mf:∀ x,x ∈ (row.filter fun x=>decide (x ≠ 0)) ↔ x ∈ row /\ x ≠ 0:=fun x=>by rw [List.mem_filter,decide_eq_true_eq]
 (try (walk_at "WP")); (try (refine seq_out hR_ ?_)); (try (refine seq_in fun R_ hR_=>?_)); (try (walk_at "WP"))
 refine ⟨⟨_,SqL.of hc2⟩,?_⟩
 refine comp_hi shN hc2 ht2 (by omega) (fun t x H' R hx htx s' hR=>?_) (fun l H3 nl s3 h3=>?_)
 ·have htx':=s' _ _ htx
  unfold coT at htx'
  (iterate 5 ((try (walk_at "WP")); (try (simp only [htx',qJs,qJt,qJl,qJd,exists_eq_left',exists_eq_left])))); (try (walk_at "WP"))
  exact hR
 refine ⟨l,_,rfl,h3,by rw [ef]; simp,fun v vm vg=>?_⟩
 obtain ⟨x1,hx1,ev⟩:=qP.mp vm
 have hx1':=(mf x1).mp hx1
 obtain ⟨k,ek,k4⟩:=sh_le hx1'.2 (rb x1 hx1'.1)
 have vk:v=k:=by rw [← ev,ek]
 subst vk
 have hmin:∀ x ∈ row,x ≠ 0 -> (k:Int) <= shN x:=fun x hx x0=>vg _ (qP.mpr ⟨x,(mf x).mpr ⟨hx,x0⟩,rfl⟩)
 have F:=frm_of hmin ⟨x1,hx1'.1,hx1'.2,ek⟩ ⟨i0,n,hi0,n0,rfl,hz0⟩
 have e13:=s12.trans s3
 obtain ⟨t0,hw0,ht0⟩:=ht.at_ 0 n (by rw [ef]; rfl)
 have ht3:=(s2.trans s3) _ _ ht0
 unfold coT at ht3
 (try (walk_at "WP")); (try (refine seq_out hR_ ?_)); (try (refine seq_in fun R_ hR_=>?_)); (try (walk_at "WP"))
 refine ⟨ws,(s2.trans s3) _ _ hc,.ref t0,atI_nat (j:=0) hw0,?_⟩
 (iterate 5 ((try (walk_at "WP")); (try (simp only [ht3,qJs,qJt,qJl,qJd,exists_eq_left',exists_eq_left])))); (try (walk_at "WP"))
 (try (walk_at "WP")); (try (refine seq_out hR_ ?_)); (try (refine seq_in fun R_ hR_=>?_)); (try (walk_at "WP"))
 refine ⟨⟨_,SqT.of (e13 _ _ hr0)⟩,?_⟩
 refine comp_T (f:=fmV (sgN n) k) (SqT.of (e13 _ _ hr0)) (by rw [qC]; exact le_big (by omega)) (fun y H' R hy hS' hR=>?_) (fun acc hacc=>?_)
 ·obtain ⟨x,hx,rfl⟩:=qP.mp hy
  rw [show capV [3,2] [some (V.ref r),some (V.ref c),some (V.int (k:Int)),some (V.int (sgN n))]=[some (V.int (sgN n)),some (V.int (k:Int))] from rfl]
  try walk_at "WP"
  refine ⟨x,_,rfl,by omega,by omega,qJ (rb x hx) (qN (by decide) (by decide)),?_⟩
  rw [shV_div (div_row hmin x hx)]
  try walk_at "WP"
  refine ⟨?_,hR⟩
  rcases F.sg with z | z <;> rw [z] <;> exact mul_l (by decide) (by decide)
 rw [fmV_map]
 refine abs_ hacc fun H4 s4 h4=>?_
 try walk_at "WP"
 refine ⟨_,.inl ⟨SqL.of h4,fun f nf=>?_⟩⟩
 refine abs_ nf fun H5 s5 h5=>fun t nt=>?_
 exact q1 t f _ k (sgN n) _ (((e13.trans s4).trans s5).trans (same_new nt _)) upd_same ((same_new nt _) _ _ h5) F
end
section
variable {P:Program}{w:World}{K:PySem.W.Frag}{mg:Str -> Option Value}{base:Heap}
theorem ok_partby (T:Txt K mg):Cal P w K mg base 1 "part_by" ["kept","forms","part"] (spPartBy K):=by
 have B:=T.bl
 obtain ⟨cst_NO_OUT,mg_NO_OUT,hcst⟩:=T.c_NO_OUT
 refine mkCal T.t_part_by sc_part_by (fun vs H Q E h=>?_) (fun f cdv A outer s H vs Q E hr h=>?_)
 ·obtain ⟨_,_,_,_,_,_,_,_,_,_,_,rfl,_⟩:=h
  rfl
 obtain ⟨d,l,p,kvs,us,rows,R',a,sh,sg,row,rfl,hd,st,hl,fl,hp,ha,hs,q0,q1⟩:=h
 refine ⟨_,((@pss_cons _ _ _ _ _ (@ps_set _ _ (3) _ _ _ _ sc_part_by.nd rfl (by walk_at "o") (@pe_ix _ _ _ _ _ _ _ ix_M (pv 1) (@pe_ix _ _ _ _ _ _ _ ix_U (pv 2) pe_int (fun _ _=>rfl)) (fun _ _=>rfl)) (by rfl) (by walk_at "o")) (@pss_cons _ _ _ _ _ (@ps_if _ _ _ _ _ _ _ _ (@PW.pt _ _ _ (@pw_or _ _ _ _ _ _ _ (@pt_cmpR _ _ _ _ _ _ _ _ op_eq (@pe_ix _ _ _ _ _ _ _ ix_U (pv 2) pe_int (fun _ _=>rfl)) pe_int (@nomark _ _ (by decide) (by decide))) (@pw_or1 _ _ _ _ (@pt_cmpR _ _ _ _ _ _ _ _ op_eq (@pe_ix _ _ _ _ _ _ _ ix_U (pv 3) pe_int (fun _ _=>rfl)) pe_int (@nomark _ _ (by decide) (by decide)))))) (@pss_one _ _ _ (@ps_ret _ _ _ _ (@pe_glob _ _ (.ref cst_NO_OUT) _ _ rfl mg_NO_OUT rfl (by decide)))) pss_nil) (@pss_cons _ _ _ _ _ (@ps_set _ _ (4) _ _ _ _ sc_part_by.nd rfl (by walk_at "o") (@pe_dgT _ _ _ _ _ _ (@hu_of _ _ hr) (pv 0) (@pe_ix _ _ _ _ _ _ _ ix_U (pv 3) pe_int (fun _ _=>rfl)) (fun _ _=>rfl)) (by rfl) (by walk_at "o")) (@pss_one _ _ _ (@ps_ret _ _ _ _ (@pe_tup _ _ _ _ _ (@pa_cons _ _ _ _ _ (@pe_ix _ _ _ _ _ _ _ ix_U (pv 4) pe_int (fun _ _=>rfl)) (@pa_cons _ _ _ _ _ (@pe_op _ _ _ _ _ _ _ _ op_sub (@pe_op _ _ _ _ _ _ _ _ op_add (@pe_ix _ _ _ _ _ _ _ ix_U (pv 2) pe_int (fun _ _=>rfl)) (@pe_ix _ _ _ _ _ _ _ ix_U (pv 3) pe_int (fun _ _=>rfl))) (@pe_ix _ _ _ _ _ _ _ ix_U (pv 4) pe_int (fun _ _=>rfl))) (@pa_cons _ _ _ _ _ (@pe_op _ _ _ _ _ _ _ _ op_mulB (@pe_op _ _ _ _ _ _ _ _ op_mulB (@pe_ix _ _ _ _ _ _ _ ix_U (pv 2) pe_int (fun _ _=>rfl)) (@pe_ix _ _ _ _ _ _ _ ix_U (pv 3) pe_int (fun _ _=>rfl))) (@pe_ix _ _ _ _ _ _ _ ix_U (pv 4) pe_int (fun _ _=>rfl))) pa_nil (by rfl)) (by rfl)) (by rfl))))))))),?_⟩
 rw [show start ["kept","forms","part","form","stand"] [.ref d,.ref l,.ref p]=[some (.ref d),some (.ref l),some (.ref p),none,none] from rfl]
 (iterate 5 ((try (walk_at "WP")); (try (simp only [hp,qJs,qJt,qJl,qJd,exists_eq_left',exists_eq_left])))); (try (walk_at "WP"))
 have hal:a < us.length:=by rw [fl.1]; exact (qB.mp ha).1
 have hu:us[a]? = some us[a]:=qA hal
 generalize us[a]=u at hu
 obtain ⟨t,rfl,hf⟩:=fl.2 a u row hu ha
 refine ⟨us,hl,.ref t,atI_nat hu,?_⟩
 refine ite2 (fun z=>q0 (.inl z) _ (hcst.sq H)) (fun z=>?_)
 rcases hf with ⟨az,r,h1⟩ | ⟨f0,fs,k,g,h1,h2,F⟩
 ·(iterate 5 ((try (walk_at "WP")); (try (simp only [h1,qJs,qJt,qJl,qJd,exists_eq_left',exists_eq_left])))); (try (walk_at "WP"))
  exact q0 (.inr az) _ (hcst.sq H)
 ·obtain ⟨q2,q3⟩:=q1 fs k g z F
  obtain ⟨v,hv⟩:=Option.isSome_iff_exists.mp q2
  obtain ⟨t2,i,b,h,rfl,h3,h4,h5⟩:=st fs v hv
  (iterate 5 ((try (walk_at "WP")); (try (simp only [h1,qJs,qJt,qJl,qJd,exists_eq_left',exists_eq_left])))); (try (walk_at "WP"))
  refine ite2 (fun y=>absurd y (by rcases F.sg with r | r <;> rw [r] <;> decide)) (fun _=>?_)
  refine ⟨fs,kvs,hd,h2,.ref t2,hv,?_⟩
  (iterate 5 ((try (walk_at "WP")); (try (simp only [h1,h3,hp,qJs,qJt,qJl,qJd,exists_eq_left',exists_eq_left])))); (try (walk_at "WP"))
  refine ⟨mul_l (by omega) (by omega),mul_r (by omega) (by omega),fun r nr=>?_⟩
  exact q3 r i b h _ (same_new nr _) upd_same h4 h5
theorem ok_partsof (T:Txt K mg):Cal P w K mg base 2 "parts_of" ["deed"] spPts29:=by
 have B:=T.bl
 have C_second_sign:=ok_second (P:=P) (w:=w) (base:=base) T
 refine mkCal T.t_parts_of sc_parts_of (fun vs H Q E h=>?_) (fun f cdv A outer s H vs Q E hr h=>?_)
 ·obtain ⟨_,_,rfl,_⟩:=h
  rfl
 obtain ⟨x,d,rfl,hx,q⟩:=h
 refine ⟨_,((@pss_one _ _ _ (@ps_ret _ _ _ _ (@pe_lst _ _ _ _ (@pa_cons _ _ _ _ _ (@pe_tup _ _ _ _ _ (@pa_cons _ _ _ _ _ (@pe_ix _ _ _ _ _ _ _ ix_U (pv 0) pe_int (fun _ _=>rfl)) (@pa_cons _ _ _ _ _ (@pe_ix _ _ _ _ _ _ _ ix_U (pv 0) pe_int (fun _ _=>rfl)) (@pa_cons _ _ _ _ _ pe_int pa_nil (by rfl)) (by rfl)) (by rfl))) (@pa_cons _ _ _ _ _ (@pe_tup _ _ _ _ _ (@pa_cons _ _ _ _ _ (@pe_ix _ _ _ _ _ _ _ ix_U (pv 0) pe_int (fun _ _=>rfl)) (@pa_cons _ _ _ _ _ (@pe_ix _ _ _ _ _ _ _ ix_U (pv 0) pe_int (fun _ _=>rfl)) (@pa_cons _ _ _ _ _ (@pe_cal _ _ _ _ _ _ _ _ _ _ C_second_sign hr rfl (@pa_cons _ _ _ _ _ (pv 0) pa_nil (by rfl)) (by decide) (by rfl) (by rfl)) pa_nil (by rfl)) (by rfl)) (by rfl))) pa_nil (by rfl)) (by rfl)))))),?_⟩
 rw [show start ["deed"] [.ref x]=[some (.ref x)] from rfl]
 have hx':=hx
 unfold wTup at hx'
 (iterate 5 ((try (walk_at "WP")); (try (simp only [hx',qJs,qJt,qJl,qJd,exists_eq_left',exists_eq_left])))); (try (walk_at "WP"))
 intro t nt
 refine abs_ nt fun H1 s1 h1=>?_
 have hx1:=s1 _ _ hx'
 (iterate 5 ((try (walk_at "WP")); (try (simp only [hx1,qJs,qJt,qJl,qJd,exists_eq_left',exists_eq_left])))); (try (walk_at "WP"))
 refine ⟨_,rfl,x,d,rfl,s1 _ _ hx,?_⟩
 intro u nu
 refine abs_ nu fun H2 s2 h2=>fun l nl=>?_
 exact q l t u _ ((s1.trans s2).trans (same_new nl _)) upd_same ((same_new nl _) _ _ (s2 _ _ h1)) ((same_new nl _) _ _ h2)
end
section
variable {P:Program}{w:World}{K:PySem.W.Frag}{mg:Str -> Option Value}{base:Heap}
theorem ok_deedE (T:Txt K mg):Cal P w K mg base 1 "deed_of" ["one","other"] (spDeedE K):=by
 have B:=T.bl
 refine mkCal T.t_deed_of sc_deed_of (fun vs H Q E h=>?_) (fun f cdv A outer s H vs Q E hr h=>?_)
 ·obtain ⟨_,_,_,_,rfl,_⟩:=h
  rfl
 obtain ⟨p1,p2,G,R,rfl,h1,h2,q⟩:=h
 unfold gTp at h1 h2
 refine ⟨_,((@pss_cons _ _ _ _ _ (@ps_if _ _ _ _ _ _ _ _ (@pt_cmpR _ _ _ _ _ _ _ _ op_eq (@pe_ix _ _ _ _ _ _ _ ix_tup (pv 0) pe_int (fun _ _=>rfl)) (@pe_ix _ _ _ _ _ _ _ ix_tup (pv 1) pe_int (fun _ _=>rfl)) (@nomark _ _ (by decide) (by decide))) (@pss_one _ _ _ (@ps_ret _ _ _ _ (@pe_tup _ _ _ _ _ (@pa_cons _ _ _ _ _ pe_str (@pa_cons _ _ _ _ _ (@pe_ix _ _ _ _ _ _ _ ix_tup (pv 0) pe_int (fun _ _=>rfl)) (@pa_cons _ _ _ _ _ (@pe_ix _ _ _ _ _ _ _ ix_tup (pv 0) pe_int (fun _ _=>rfl)) (@pa_cons _ _ _ _ _ (@pe_ix _ _ _ _ _ _ _ ix_tup (pv 1) pe_int (fun _ _=>rfl)) (@pa_cons _ _ _ _ _ (@pe_ix _ _ _ _ _ _ _ ix_tup (pv 1) pe_int (fun _ _=>rfl)) pa_nil (by rfl)) (by rfl)) (by rfl)) (by rfl)) (by rfl))))) pss_nil) (@pss_cons _ _ _ _ _ (@ps_if _ _ _ _ _ _ _ _ (@pt_cmpR _ _ _ _ _ _ _ _ op_eq (@pe_ix _ _ _ _ _ _ _ ix_tup (pv 0) pe_int (fun _ _=>rfl)) pe_int (@nomark _ _ (by decide) (by decide))) (@pss_one _ _ _ (@ps_ret _ _ _ _ (@pe_tup _ _ _ _ _ (@pa_cons _ _ _ _ _ pe_str (@pa_cons _ _ _ _ _ (@pe_ix _ _ _ _ _ _ _ ix_tup (pv 0) pe_int (fun _ _=>rfl)) (@pa_cons _ _ _ _ _ (@pe_ix _ _ _ _ _ _ _ ix_tup (pv 0) pe_int (fun _ _=>rfl)) (@pa_cons _ _ _ _ _ (@pe_ix _ _ _ _ _ _ _ ix_tup (pv 1) pe_int (fun _ _=>rfl)) (@pa_cons _ _ _ _ _ (@pe_ix _ _ _ _ _ _ _ ix_tup (pv 1) pe_int (fun _ _=>rfl)) pa_nil (by rfl)) (by rfl)) (by rfl)) (by rfl)) (by rfl))))) pss_nil) (@pss_one _ _ _ (@ps_ret _ _ _ _ (@pe_tup _ _ _ _ _ (@pa_cons _ _ _ _ _ pe_str (@pa_cons _ _ _ _ _ (@pe_ix _ _ _ _ _ _ _ ix_tup (pv 1) pe_int (fun _ _=>rfl)) (@pa_cons _ _ _ _ _ (@pe_ix _ _ _ _ _ _ _ ix_tup (pv 1) pe_int (fun _ _=>rfl)) (@pa_cons _ _ _ _ _ (@pe_ix _ _ _ _ _ _ _ ix_tup (pv 0) pe_int (fun _ _=>rfl)) (@pa_cons _ _ _ _ _ (@pe_ix _ _ _ _ _ _ _ ix_tup (pv 0) pe_int (fun _ _=>rfl)) pa_nil (by rfl)) (by rfl)) (by rfl)) (by rfl)) (by rfl)))))))),?_⟩
 rw [show start ["one","other"] [.ref p1,.ref p2]=[some (.ref p1),some (.ref p2)] from rfl]
 try walk_at "WP"
 refine ⟨_,h1,_,rfl,_,h2,_,rfl,?_⟩
 try walk_at "WP"
 refine ite2 (fun z=>?_) (fun z=>?_)
 ·exact ⟨_,h1,_,rfl,_,h1,_,rfl,_,h2,_,rfl,_,h2,_,rfl,fun r hr0=>q r _ hr0 (same_new hr0 _) (by unfold deedG; rw [if_pos z,upd_same]; rfl)⟩
 ·refine ⟨_,h1,_,rfl,?_⟩
  try walk_at "WP"
  refine ite2 (fun y=>?_) (fun y=>?_)
  ·exact ⟨_,h1,_,rfl,_,h1,_,rfl,_,h2,_,rfl,_,h2,_,rfl,fun r hr0=>q r _ hr0 (same_new hr0 _) (by unfold deedG; rw [if_neg z,if_pos y,upd_same]; rfl)⟩
  ·exact ⟨_,h2,_,rfl,_,h2,_,rfl,_,h1,_,rfl,_,h1,_,rfl,fun r hr0=>q r _ hr0 (same_new hr0 _) (by unfold deedG; rw [if_neg z,if_neg y,upd_same]; rfl)⟩
theorem ok_signE (T:Txt K mg):Cal P w K mg base 1 "sign_of" ["one","other"] (spSignE K):=by
 have B:=T.bl
 refine mkCal T.t_sign_of sc_sign_of (fun vs H Q E h=>?_) (fun f cdv A outer s H vs Q E hr h=>?_)
 ·obtain ⟨_,_,_,_,rfl,_⟩:=h
  rfl
 obtain ⟨p1,p2,G,R,rfl,h1,h2,q⟩:=h
 unfold gTp at h1 h2
 refine ⟨_,((@pss_one _ _ _ (@ps_ret _ _ _ _ (@pe_ifExp _ _ _ _ _ _ _ _ (@pt_cmpR _ _ _ _ _ _ _ _ op_eq (@pe_ix _ _ _ _ _ _ _ ix_tup (pv 0) pe_int (fun _ _=>rfl)) (@pe_ix _ _ _ _ _ _ _ ix_tup (pv 1) pe_int (fun _ _=>rfl)) (@nomark _ _ (by decide) (by decide))) (@pe_ix _ _ _ _ _ _ _ ix_tup (pv 0) pe_int (fun _ _=>rfl)) pe_int)))),?_⟩
 rw [show start ["one","other"] [.ref p1,.ref p2]=[some (.ref p1),some (.ref p2)] from rfl]
 try walk_at "WP"
 refine ⟨_,h1,_,rfl,_,h2,_,rfl,?_⟩
 try walk_at "WP"
 unfold signG at q
 refine ite2 (fun z=>?_) (fun z=>?_)
 ·rw [if_pos z] at q
  exact ⟨_,h1,_,rfl,q⟩
 ·rw [if_neg z] at q
  exact q
end
section
variable {P:Program}{w:World}{K:PySem.W.Frag}{mg:Str -> Option Value}{base:Heap}
theorem ok_countK (T:Txt K mg):Cal P w K mg base 1 "thing_count" ["web"] (spCntK K):=by
 have B:=T.bl
 refine mkCal T.t_thing_count sc_thing_count (fun vs H Q E h=>?_) (fun f cdv A outer s H vs Q E hr h=>?_)
 ·obtain ⟨x,_,_,_,_,_,_,_,rfl,_⟩:=h
  rfl
 obtain ⟨x,dl,gl,ins,us,ds,os,gs,rfl,W,q⟩:=h
 refine ⟨_,((@pss_one _ _ _ (@ps_ret _ _ _ _ (@pe_op _ _ _ _ _ _ _ _ op_add (@pe_ix _ _ _ _ _ _ _ ix_U (pv 0) pe_int (fun _ _=>rfl)) (@pe_callB _ _ _ _ _ _ _ _ _ call_lenM rfl B.len bo_len (@pa_cons _ _ _ _ _ (@pe_ix _ _ _ _ _ _ _ ix_U (pv 0) pe_int (fun _ _=>rfl)) pa_nil (by rfl)) (by decide) (by decide) (by rfl) (by rfl)))))),?_⟩
 rw [show start ["web"] [.ref x]=[some (.ref x)] from rfl]
 have h1:=W.tup
 have h2:=W.dll
 (iterate 5 ((try (walk_at "WP")); (try (simp only [h1,h2,qJs,qJt,qJl,qJd,exists_eq_left',exists_eq_left])))); (try (walk_at "WP"))
 rw [W.hds.len]
 exact q
end
section
variable {P:Program}{w:World}{K:PySem.W.Frag}{mg:Str -> Option Value}{base:Heap}
theorem ok_darrK (T:Txt K mg):Cal P w K mg base 2 "deed_arrows" ["web"] (spDArrK K):=by
 have B:=T.bl
 have C_second_sign:=ok_second (P:=P) (w:=w) (base:=base) T
 refine mkCal T.t_deed_arrows sc_deed_arrows (fun vs H Q E h=>?_) (fun f cdv A outer s H vs Q E hr h=>?_)
 ·obtain ⟨x,_,_,_,_,_,_,_,rfl,_⟩:=h
  rfl
 obtain ⟨x,dl,gl,ins,us,ds,os,gs,rfl,W,hlen,q⟩:=h
 refine ⟨_,((@pss_cons _ _ _ _ _ (@ps_set _ _ (1) _ _ _ _ sc_deed_arrows.nd rfl (by walk_at "o") (@pe_lst _ _ _ _ pa_nil) (by rfl) (by walk_at "o")) (@pss_cons _ _ _ _ _ (@ps_for _ _ _ _ _ _ _ _ PassesOwn.never rfl (@pi_enum _ _ _ _ _ _ _ _ rfl B.enumerate (@pa_cons _ _ _ _ _ (@pe_ix _ _ _ _ _ _ _ ix_U (pv 0) pe_int (fun _ _=>rfl)) pa_nil (by rfl)) (by rfl)) (@pg_tupM _ _ _ _ _ 2 rfl (@pgs_cons _ _ _ _ _ (@pg_name _ _ (2) _ sc_deed_arrows.nd rfl (by walk_at "o") (by walk_at "o")) (@pgs_cons _ _ _ _ _ (@pg_name _ _ (3) _ sc_deed_arrows.nd rfl (by walk_at "o") (by walk_at "o")) pgs_nil (by rfl)) (by rfl)) (by rfl) (by rfl)) (@pss_cons _ _ _ _ _ (@ps_set _ _ (4) _ _ _ _ sc_deed_arrows.nd rfl (by walk_at "o") (@pe_op _ _ _ _ _ _ _ _ op_add (@pe_ix _ _ _ _ _ _ _ ix_U (pv 0) pe_int (fun _ _=>rfl)) (pv 2)) (by rfl) (by walk_at "o")) (@pss_cons _ _ _ _ _ (@ps_expr _ _ _ _ (@pe_bm _ _ _ _ _ _ _ _ _ _ _ _ PySem.F.plainAttrs_list PySem.F.slot_list_append PySem.F.type_list_append mt_append (pv 1) (@pa_cons _ _ _ _ _ (@pe_tup _ _ _ _ _ (@pa_cons _ _ _ _ _ (@pe_ix _ _ _ _ _ _ _ ix_U (pv 3) pe_int (fun _ _=>rfl)) (@pa_cons _ _ _ _ _ (pv 4) (@pa_cons _ _ _ _ _ (@pe_ix _ _ _ _ _ _ _ ix_U (pv 3) pe_int (fun _ _=>rfl)) (@pa_cons _ _ _ _ _ pe_int pa_nil (by rfl)) (by rfl)) (by rfl)) (by rfl))) pa_nil (by rfl)) (by rfl) (by rfl) (by rfl) (by rfl) (by rfl)) (by rfl)) (@pss_one _ _ _ (@ps_expr _ _ _ _ (@pe_bm _ _ _ _ _ _ _ _ _ _ _ _ PySem.F.plainAttrs_list PySem.F.slot_list_append PySem.F.type_list_append mt_append (pv 1) (@pa_cons _ _ _ _ _ (@pe_tup _ _ _ _ _ (@pa_cons _ _ _ _ _ (@pe_ix _ _ _ _ _ _ _ ix_U (pv 3) pe_int (fun _ _=>rfl)) (@pa_cons _ _ _ _ _ (pv 4) (@pa_cons _ _ _ _ _ (@pe_ix _ _ _ _ _ _ _ ix_U (pv 3) pe_int (fun _ _=>rfl)) (@pa_cons _ _ _ _ _ (@pe_cal _ _ _ _ _ _ _ _ _ _ C_second_sign hr rfl (@pa_cons _ _ _ _ _ (pv 3) pa_nil (by rfl)) (by decide) (by rfl) (by rfl)) pa_nil (by rfl)) (by rfl)) (by rfl)) (by rfl))) pa_nil (by rfl)) (by rfl) (by rfl) (by rfl) (by rfl) (by rfl)) (by rfl))))) (by intro _ ; rfl)) (@pss_one _ _ _ (@ps_ret _ _ _ _ (pv 1)))))),?_⟩
 rw [show start ["web","told","place","deed","thing"] [.ref x]=[some (.ref x),none,none,none,none] from rfl]
 try walk_at "WP"
 intro r hr0
 have sr:=same_new hr0 (.lst [])
 have W1:=W.same sr
 have h1:=W1.tup
 (iterate 5 ((try (walk_at "WP")); (try (simp only [h1,qJs,qJt,qJl,qJd,exists_eq_left',exists_eq_left])))); (try (walk_at "WP"))
 refine ⟨_,SqL.of W1.dll,?_⟩
 refine forE (xs:=us) (fun i σ H1=>∃ (o2 o3 o4:Option V) (ws:List V),σ = [some (.ref x),some (.ref r),o2,o3,o4] /\ Same H H1 /\ H1 r=some (.lst ws) /\ HTs aTup H1 ws (arrF ins 0 (ds.take i))) ⟨none,none,none,[],rfl,sr,upd_same,hts_nil⟩ ?_ ?_ ?_
 ·rintro i σ H1 _ ⟨_,_,_,_,_,s1,_⟩
  exact SqL.of (s1 _ _ W.dll)
 ·rintro i v t σ H1 N hv ht ⟨o2,o3,o4,ws,rfl,s1,hr1,ha⟩ hN
  have hi:i < ds.length:=by rw [← W.hds.len]; exact (qB.mp hv).1
  obtain ⟨y,hy1,hy2⟩:=W.hds.at_ i _ (qA hi)
  have hdi:ds[i]? = some ds[i]:=qA hi
  generalize ds[i]=d at hy2 hdi
  rw [hv] at hy1
  cases hy1
  have st:=same_new ht (.tup [V.int (i:Int),.ref y])
  have W2:=(W.same s1).same st
  have h2:=W2.tup
  have hy3:upd H1 t (.tup [V.int (i:Int),.ref y]) y=some (.tup (wTup d)):=st _ _ (s1 _ _ hy2)
  have hr2:=st _ _ hr1
  have ha2:=ha.same st
  have s2:=s1.trans st
  have h9:upd H1 t (.tup [V.int (i:Int),.ref y]) t=some (.tup [V.int (i:Int),.ref y]):=upd_same
  generalize upd H1 t (.tup [V.int (i:Int),.ref y])=H2 at *
  have hy3':=hy3
  unfold wTup at hy3'
  (iterate 5 ((try (walk_at "WP")); (try (simp only [h9,h2,hy3',qJs,qJt,qJl,qJd,exists_eq_left',exists_eq_left])))); (try (walk_at "WP"))
  have hwl:ws.length=2 * i:=by rw [ha2.len,arrF_len,qO]; omega
  refine ⟨ty_list hr2,fun p1 hp1=>?_⟩
  have s3:=same_new hp1 (.tup [V.int (d.a:Int),V.int ((ins:Int)+(i:Int)),V.int d.s,V.int 1])
  have n1:r ≠ p1:=ne_of_none hr2 hp1
  refine ⟨ws,by rw [upd_ne n1]; exact hr2,qJ (by omega:ws.length < 1000) (le_size (by decide)),ty_list upd_same,?_⟩
  have hr3:=s3 _ _ hr2
  have ha3:=(ha2.same s3).chgL hr3 (Chg.upd (.lst (ws ++ [.ref p1])))
  have hp1t:(upd (upd H2 p1 (.tup [V.int (d.a:Int),V.int ((ins:Int)+(i:Int)),V.int d.s,V.int 1])) r (.lst (ws ++ [.ref p1]))) p1=some (.tup (aTup ⟨d.a,ins+i,d.s,1⟩)):=by
   rw [upd_ne n1.symm,upd_same]
   unfold aTup
   rw [show ((ins+i:Nat):Int)=(ins:Int)+(i:Int) by omega]
  have ha4:=ha3.snoc (x:=(⟨d.a,ins+i,d.s,1⟩:Ar)) hp1t
  have hy4:(upd (upd H2 p1 (.tup [V.int (d.a:Int),V.int ((ins:Int)+(i:Int)),V.int d.s,V.int 1])) r (.lst (ws ++ [.ref p1]))) y=some (.tup (wTup d)):=by
   rw [upd_ne (ne_of hy3 hr2 (by intro z; cases z))]
   exact s3 _ _ hy3
  have s4:Same H (upd (upd H2 p1 (.tup [V.int (d.a:Int),V.int ((ins:Int)+(i:Int)),V.int d.s,V.int 1])) r (.lst (ws ++ [.ref p1]))):=same_upd hr0 (s2.trans s3)
  have hr4:(upd (upd H2 p1 (.tup [V.int (d.a:Int),V.int ((ins:Int)+(i:Int)),V.int d.s,V.int 1])) r (.lst (ws ++ [.ref p1]))) r=some (.lst (ws ++ [.ref p1])):=upd_same
  generalize upd (upd H2 p1 (.tup [V.int (d.a:Int),V.int ((ins:Int)+(i:Int)),V.int d.s,V.int 1])) r (.lst (ws ++ [.ref p1]))=H3 at s4 hr4 hy4 ha4 ⊢
  refine ⟨_,hy4,_,rfl,_,hy4,_,rfl,y,d,rfl,hy4,fun p2 hp2=>?_⟩
  have s5:=same_new hp2 (.tup [V.int (d.b:Int),V.int ((ins:Int)+(i:Int)),V.int d.t,V.int (sgW d.w)])
  have n2:r ≠ p2:=ne_of_none hr4 hp2
  refine ⟨_,by rw [upd_ne n2]; exact hr4,qJ (by simp; omega:(ws ++ [V.ref p1]).length < 1000) (le_size (by decide)),?_⟩
  have hr5:=s5 _ _ hr4
  have hp2t:(upd (upd H3 p2 (.tup [V.int (d.b:Int),V.int ((ins:Int)+(i:Int)),V.int d.t,V.int (sgW d.w)])) r (.lst (ws ++ [.ref p1] ++ [.ref p2]))) p2=some (.tup (aTup ⟨d.b,ins+i,d.t,sgW d.w⟩)):=by
   rw [upd_ne n2.symm,upd_same]
   unfold aTup
   rw [show ((ins+i:Nat):Int)=(ins:Int)+(i:Int) by omega]
  have ha5:=((ha4.same s5).chgL hr5 (Chg.upd (.lst (ws ++ [.ref p1] ++ [.ref p2])))).snoc (x:=(⟨d.b,ins+i,d.t,sgW d.w⟩:Ar)) hp2t
  refine hN _ _ ⟨_,_,_,_,rfl,same_upd hr0 (s4.trans s5),upd_same,?_⟩
  have tk:ds.take (i+1)=ds.take i ++ [d]:=by rw [List.take_add_one,hdi]; rfl
  rw [tk,arrF_app,qO,Nat.min_eq_left (by omega),Nat.zero_add,show arrF ins i [d]=[(⟨d.a,ins+i,d.s,1⟩:Ar)] ++ [(⟨d.b,ins+i,d.t,sgW d.w⟩:Ar)] from rfl,← List.append_assoc]
  exact ha5
 ·rintro σ H1 ⟨o2,o3,o4,ws,rfl,s1,hr1,ha⟩
  try walk_at "WP"
  rw [W.hds.len,List.take_length] at ha
  exact q r ws H1 hr0 s1 hr1 ha
end
section
variable {P:Program}{w:World}{K:PySem.W.Frag}{mg:Str -> Option Value}{base:Heap}
theorem ok_usedK (T:Txt K mg):Cal P w K mg base 3 "used" ["web"] (spUsedKB K):=by
 have B:=T.bl
 have C_thing_count:=(ok_countK (P:=P) (w:=w) (base:=base) T).mono (k:=2) (by decide)
 have C_deed_arrows:=ok_darrK (P:=P) (w:=w) (base:=base) T
 refine mkCal T.t_used sc_used (fun vs H Q E h=>?_) (fun f cdv A outer s H vs Q E hr h=>?_)
 ·obtain ⟨x,_,_,_,_,_,_,_,rfl,_⟩:=h
  rfl
 obtain ⟨x,dl,gl,ins,us,ds,os,gs,rfl,W,ok,q⟩:=h
 refine ⟨_,((@pss_cons _ _ _ _ _ (@ps_setComp0 _ _ _ _ (1) _ _ _ _ _ _ _ (["thing"]) (1) ([]) _ _ _ rfl (@pi_range1 _ _ _ _ _ _ rfl B.range (@pa_cons _ _ _ _ _ (@pe_cal _ _ _ _ _ _ _ _ _ _ C_thing_count hr rfl (@pa_cons _ _ _ _ _ (pv 0) pa_nil (by rfl)) (by decide) (by rfl) (by rfl)) pa_nil (by rfl)) (by rfl)) (fun nd C s H fp=>⟨(@pg_name _ _ (0) _ nd rfl (by walk_at "o") (by walk_at "o")),pn_nil,pe_bl⟩) (by decide +kernel) (by first | rfl | decide +kernel) (by first | rfl | decide +kernel) rfl (fun _=>rfl) sc_used.nd rfl (by walk_at "o") (by walk_at "o") rfl) (@pss_mid _ _ _ _ _ (@ps_for _ _ _ _ _ _ _ _ PassesOwn.never rfl (@pi_list _ _ _ _ (@pe_ix _ _ _ _ _ _ _ ix_U (pv 0) pe_int (fun _ _=>rfl))) (@pg_tupK _ K _ _ _ _ 3 rfl (@pgs_cons _ _ _ _ _ (@pg_name _ _ (2) _ sc_used.nd rfl (by walk_at "o") (by walk_at "o")) (@pgs_cons _ _ _ _ _ (@pg_name _ _ (3) _ sc_used.nd rfl (by walk_at "o") (by walk_at "o")) (@pgs_cons _ _ _ _ _ (@pg_name _ _ (4) _ sc_used.nd rfl (by walk_at "o") (by walk_at "o")) pgs_nil (by rfl)) (by rfl)) (by rfl)) (by rfl) (by rfl) (by rfl)) (@pss_one _ _ _ (@ps_if _ _ _ _ _ _ _ _ (@pt_cmpR _ _ _ _ _ _ _ _ op_ne (pv 4) pe_int (@nomark _ _ (by decide) (by decide))) (@pss_one _ _ _ (@ps_asg _ _ _ _ _ _ pe_bl (@pg_sub _ _ _ _ _ _ _ (pv 1) (pv 2) set_list (by intro _ ; rfl)) (by rfl) (by rfl) (by rfl))) pss_nil)) (by intro _ ; rfl)) (@pss_cons _ _ _ _ _ (@ps_for _ _ _ _ _ _ _ _ PassesOwn.never rfl (@pi_rev _ _ _ _ _ _ rfl B.reversed (@pa_cons _ _ _ _ _ (@pe_cal _ _ _ _ _ _ _ _ _ _ C_deed_arrows hr rfl (@pa_cons _ _ _ _ _ (pv 0) pa_nil (by rfl)) (by decide) (by rfl) (by rfl)) pa_nil (by rfl)) (by rfl)) (@pg_tupM _ _ _ _ _ 4 rfl (@pgs_cons _ _ _ _ _ (@pg_name _ _ (5) _ sc_used.nd rfl (by walk_at "o") (by walk_at "o")) (@pgs_cons _ _ _ _ _ (@pg_name _ _ (6) _ sc_used.nd rfl (by walk_at "o") (by walk_at "o")) (@pgs_cons _ _ _ _ _ (@pg_name _ _ (3) _ sc_used.nd rfl (by walk_at "o") (by walk_at "o")) (@pgs_cons _ _ _ _ _ (@pg_name _ _ (4) _ sc_used.nd rfl (by walk_at "o") (by walk_at "o")) pgs_nil (by rfl)) (by rfl)) (by rfl)) (by rfl)) (by rfl) (by rfl)) (@pss_one _ _ _ (@ps_if _ _ _ _ _ _ _ _ (@pt_val _ _ _ (@pe_ix _ _ _ _ _ _ _ ix_M (pv 1) (pv 6) (fun _ _=>rfl)) (by intro _ ; rfl)) (@pss_one _ _ _ (@ps_asg _ _ _ _ _ _ pe_bl (@pg_sub _ _ _ _ _ _ _ (pv 1) (pv 5) set_list (by intro _ ; rfl)) (by rfl) (by rfl) (by rfl))) pss_nil)) (by intro _ ; rfl)) (@pss_one _ _ _ (@ps_ret _ _ _ _ (pv 1))))))),?_⟩
 rw [show start ["web","told","thing","shift","sign","start","goal"] [.ref x]=[some (.ref x),none,none,none,none,none,none] from rfl]
 try walk_at "WP"
 have i1:=ok.i2
 have d1:=ok.dl
 refine ⟨x,dl,gl,ins,us,ds,os,gs,rfl,W,?_⟩
 try walk_at "WP"
 refine ⟨by omega,by omega,?_⟩
 rw [show ((ins:Int)+((ds.length:Nat):Int)).toNat=ins+ds.length by omega]
 refine comp_R (f:=fun _=>some (V.bl false)) (le_size (by omega)) (fun y H' R hy hS' hR=>?_) (fun tl htl=>?_)
 ·obtain ⟨n,hn,rfl⟩:=qP.mp hy
  try walk_at "WP"
  exact hR
 have e0:(rngV 0 (ins+ds.length)).filterMap (fun _=>some (V.bl false))=(qQ (ins+ds.length) false).map V.bl:=by
  rw [filterMap_some,List.map_const',rngV_len,List.map_replicate]
 rw [e0]
 have s1:=same_new htl (.lst ((qQ (ins+ds.length) false).map V.bl))
 have htl1:upd H tl (.lst ((qQ (ins+ds.length) false).map V.bl)) tl=some (.lst ((qQ (ins+ds.length) false).map V.bl)):=upd_same
 generalize upd H tl (.lst ((qQ (ins+ds.length) false).map V.bl))=H1 at s1 htl1 ⊢
 try walk_at "WP"
 refine mid_of (fun σ H2=>∃ (o2 o3 o4 o5 o6:Option V) (bs:List Bool),σ = [some (.ref x),some (.ref tl),o2,o3,o4,o5,o6] /\ Same H H2 /\ H2 tl=some (.lst (bs.map V.bl)) /\ Ps ins ds gs 0 bs) (fun N hN=>?_) ?_
 ·have h1:=(W.same s1).tup
  (iterate 5 ((try (walk_at "WP")); (try (simp only [h1,qJs,qJt,qJl,qJd,exists_eq_left',exists_eq_left])))); (try (walk_at "WP"))
  refine ⟨⟨_,SqL.of (W.same s1).gll⟩,?_⟩
  refine forL (xs:=os) (fun i σ H2=>∃ (o2 o3 o4:Option V) (bs:List Bool),σ = [some (.ref x),some (.ref tl),o2,o3,o4,none,none] /\ Same H H2 /\ H2 tl=some (.lst (bs.map V.bl)) /\ Rt ins ds gs i bs) ⟨none,none,none,_,rfl,s1,htl1,rt_zero⟩ ?_ ?_ ?_
  ·rintro i σ H2 _ ⟨_,_,_,_,_,s2,_⟩
   exact SqL.of (W.same s2).gll
  ·rintro i v σ H2 N2 hv ⟨o2,o3,o4,bs,rfl,s2,ht2,R2⟩ hN2
   have hi:i < gs.length:=by rw [← W.hgs.len]; exact (qB.mp hv).1
   obtain ⟨y,hy1,hy2⟩:=W.hgs.at_ i _ (qA hi)
   have hgi:gs[i]? = some gs[i]:=qA hi
   generalize gs[i]=g at hy2 hgi
   rw [hv] at hy1
   cases hy1
   have hy3:=s2.seqT hy2
   unfold gTp at hy3
   have hth:=ok.gk g (qE hgi)
   try walk_at "WP"
   refine ⟨_,hy3,rfl,?_⟩
   (iterate 5 ((try (walk_at "WP")); (try (simp only [ht2,qJs,qJt,qJl,qJd,exists_eq_left',exists_eq_left])))); (try (walk_at "WP"))
   have R3:=R2.step hgi hth
   refine ite2 (fun z=>?_) (fun z=>?_)
   ·rw [if_neg z] at R3
    refine ⟨g.th,by rw [qC,R2.len]; exact ixN_nat hth,?_⟩
    refine hN2 _ _ ⟨_,_,_,bs.set g.th true,rfl,same_upd htl s2,?_,R3⟩
    rw [upd_same,List.map_set]
   ·rw [if_pos (Decidable.not_not.mp z)] at R3
    exact hN2 _ _ ⟨_,_,_,bs,rfl,s2,ht2,R3⟩
  ·rintro σ H2 ⟨o2,o3,o4,bs,rfl,s2,ht2,R2⟩
   rw [W.hgs.len] at R2
   exact hN _ _ ⟨_,_,_,_,_,bs,rfl,s2,ht2,R2.done⟩
 ·rintro σ H2 ⟨o2,o3,o4,o5,o6,bs,rfl,s2,ht2,P2⟩
  try walk_at "WP"
  refine ⟨x,dl,gl,ins,us,ds,os,gs,rfl,W.same s2,by omega,fun r ws H3 hr3 s3 hr4 ha=>?_⟩
  try walk_at "WP"
  refine ⟨_,SqL.of hr4,?_⟩
  have hwl:ws.length=2 * ds.length:=by rw [ha.len,arrF_len]
  refine forV (xs:=ws) (fun i σ H4=>∃ (o2 o3 o4 o5 o6:Option V) (bs:List Bool),σ = [some (.ref x),some (.ref tl),o2,o3,o4,o5,o6] /\ Same H H4 /\ H4 tl=some (.lst (bs.map V.bl)) /\ Chg tl H3 H4 /\ Ps ins ds gs i bs) ⟨_,_,_,_,_,bs,rfl,s2.trans s3,s3 _ _ ht2,Chg.refl,P2⟩ ?_ ?_ ?_
  ·rintro i σ H4 _ ⟨_,_,_,_,_,_,_,_,_,c4,_⟩
   exact SqL.of (c4 _ _ (ne_of_none ht2 hr3).symm hr4)
  ·rintro i v σ H4 N2 hv ⟨o2,o3,o4,o5,o6,bs,rfl,s4,ht4,c4,P4⟩ hN2
   have hi:i < ws.length:=by
    have:=(qB.mp hv).1
    rwa [List.length_reverse] at this
   rw [List.getElem?_reverse hi] at hv
   have hj:ws.length - 1 - i < (arrF ins 0 ds).length:=by rw [arrF_len]; omega
   obtain ⟨y,hy1,hy2⟩:=ha.at_ _ _ (qA hj)
   have haj:(arrF ins 0 ds)[ws.length - 1 - i]? = some (arrF ins 0 ds)[ws.length - 1 - i]:=qA hj
   generalize (arrF ins 0 ds)[ws.length - 1 - i]=ar at hy2 haj
   rw [hv] at hy1
   cases hy1
   have hy3:=c4 _ _ (ne_of hy2 (s3 _ _ ht2) (by intro z; cases z)) hy2
   unfold aTup at hy3
   rw [hwl] at haj
   obtain ⟨b,hb,hlt,P5⟩:=P4.stepB ok (by omega) haj
   (iterate 5 ((try (walk_at "WP")); (try (simp only [hy3,ht4,qJs,qJt,qJl,qJd,exists_eq_left',exists_eq_left])))); (try (walk_at "WP"))
   refine ⟨_,atI_map hb,?_⟩
   try walk_at "WP"
   cases b with
   | true =>
    rw [if_pos rfl] at P5 ⊢
    refine ⟨ar.st,by rw [qC]; exact ixN_nat hlt,hN2 _ _ ⟨_,_,_,_,_,bs.set ar.st true,rfl,same_upd htl s4,?_,c4.trans (Chg.upd _),P5⟩⟩
    rw [upd_same,List.map_set]
   | false =>
    rw [if_neg (by decide)] at P5 ⊢
    exact hN2 _ _ ⟨_,_,_,_,_,bs,rfl,s4,ht4,c4,P5⟩
  ·rintro σ H4 ⟨o2,o3,o4,o5,o6,bs,rfl,s4,ht4,c4,P4⟩
   try walk_at "WP"
   rw [hwl] at P4
   exact q tl bs H4 htl s4 ht4 P4.done
end
section
variable {P:Program}{w:World}{K:PySem.W.Frag}{mg:Str -> Option Value}{base:Heap}
theorem ok_prunedK (T:Txt K mg):Cal P w K mg base 4 "pruned" ["web"] (spPrunedKB K):=by
 have B:=T.bl
 have C_used:=ok_usedK (P:=P) (w:=w) (base:=base) T
 refine mkCal T.t_pruned sc_pruned (fun vs H Q E h=>?_) (fun f cdv A outer s H vs Q E hr h=>?_)
 ·obtain ⟨x,_,_,_,_,_,_,_,rfl,_⟩:=h
  rfl
 obtain ⟨x,dl,gl,ins,us,ds,os,gs,rfl,W,ok,q⟩:=h
 refine ⟨_,((@pss_cons _ _ _ _ _ (@ps_set _ _ (1) _ _ _ _ sc_pruned.nd rfl (by walk_at "o") (@pe_ix _ _ _ _ _ _ _ ix_U (pv 0) pe_int (fun _ _=>rfl)) (by rfl) (by walk_at "o")) (@pss_cons _ _ _ _ _ (@ps_set _ _ (2) _ _ _ _ sc_pruned.nd rfl (by walk_at "o") (@pe_cal _ _ _ _ _ _ _ _ _ _ C_used hr rfl (@pa_cons _ _ _ _ _ (pv 0) pa_nil (by rfl)) (by decide) (by rfl) (by rfl)) (by rfl) (by walk_at "o")) (@pss_cons _ _ _ _ _ (@ps_set _ _ (3) _ _ _ _ sc_pruned.nd rfl (by walk_at "o") (@pe_listrange _ _ _ _ _ _ _ rfl rfl B.list rfl B.range (@pa_cons _ _ _ _ _ (pv 1) pa_nil (by rfl)) (by rfl) (by rfl) (by rfl)) (by rfl) (by walk_at "o")) (@pss_cons _ _ _ _ _ (@ps_set _ _ (4) _ _ _ _ sc_pruned.nd rfl (by walk_at "o") (@pe_lst _ _ _ _ pa_nil) (by rfl) (by walk_at "o")) (@pss_mid _ _ _ _ _ (@ps_for _ _ _ _ _ _ _ _ PassesOwn.never rfl (@pi_enum _ _ _ _ _ _ _ _ rfl B.enumerate (@pa_cons _ _ _ _ _ (@pe_ix _ _ _ _ _ _ _ ix_U (pv 0) pe_int (fun _ _=>rfl)) pa_nil (by rfl)) (by rfl)) (@pg_tupM _ _ _ _ _ 2 rfl (@pgs_cons _ _ _ _ _ (@pg_name _ _ (5) _ sc_pruned.nd rfl (by walk_at "o") (by walk_at "o")) (@pgs_cons _ _ _ _ _ (@pg_name _ _ (6) _ sc_pruned.nd rfl (by walk_at "o") (by walk_at "o")) pgs_nil (by rfl)) (by rfl)) (by rfl) (by rfl)) (@pss_cons _ _ _ _ _ (@ps_expr _ _ _ _ (@pe_bm _ _ _ _ _ _ _ _ _ _ _ _ PySem.F.plainAttrs_list PySem.F.slot_list_append PySem.F.type_list_append mt_append (pv 3) (@pa_cons _ _ _ _ _ (@pe_op _ _ _ _ _ _ _ _ op_add (pv 1) (@pe_callB _ _ _ _ _ _ _ _ _ call_lenM rfl B.len bo_len (@pa_cons _ _ _ _ _ (pv 4) pa_nil (by rfl)) (by decide) (by decide) (by rfl) (by rfl))) pa_nil (by rfl)) (by rfl) (by rfl) (by rfl) (by rfl) (by rfl)) (by rfl)) (@pss_one _ _ _ (@ps_if _ _ _ _ _ _ _ _ (@pt_val _ _ _ (@pe_ix _ _ _ _ _ _ _ ix_M (pv 2) (@pe_op _ _ _ _ _ _ _ _ op_add (pv 1) (pv 5)) (fun _ _=>rfl)) (by intro _ ; rfl)) (@pss_one _ _ _ (@ps_expr _ _ _ _ (@pe_bm _ _ _ _ _ _ _ _ _ _ _ _ PySem.F.plainAttrs_list PySem.F.slot_list_append PySem.F.type_list_append mt_append (pv 4) (@pa_cons _ _ _ _ _ (@pe_tup _ _ _ _ _ (@pa_cons _ _ _ _ _ (@pe_ix _ _ _ _ _ _ _ ix_U (pv 6) pe_int (fun _ _=>rfl)) (@pa_cons _ _ _ _ _ (@pe_ix _ _ _ _ _ _ _ ix_M (pv 3) (@pe_ix _ _ _ _ _ _ _ ix_U (pv 6) pe_int (fun _ _=>rfl)) (fun _ _=>rfl)) (@pa_cons _ _ _ _ _ (@pe_ix _ _ _ _ _ _ _ ix_U (pv 6) pe_int (fun _ _=>rfl)) (@pa_cons _ _ _ _ _ (@pe_ix _ _ _ _ _ _ _ ix_M (pv 3) (@pe_ix _ _ _ _ _ _ _ ix_U (pv 6) pe_int (fun _ _=>rfl)) (fun _ _=>rfl)) (@pa_cons _ _ _ _ _ (@pe_ix _ _ _ _ _ _ _ ix_U (pv 6) pe_int (fun _ _=>rfl)) pa_nil (by rfl)) (by rfl)) (by rfl)) (by rfl)) (by rfl))) pa_nil (by rfl)) (by rfl) (by rfl) (by rfl) (by rfl) (by rfl)) (by rfl))) pss_nil))) (by intro _ ; rfl)) (@pss_cons _ _ _ _ _ (@ps_setComp0 _ _ _ _ (7) _ _ _ _ _ _ _ (["thing","shift","sign","renumbered"]) (3) ([3]) _ _ _ rfl (@pi_list _ _ _ _ (@pe_ix _ _ _ _ _ _ _ ix_U (pv 0) pe_int (fun _ _=>rfl))) (fun nd C s H fp=>⟨(@pg_tupK _ K _ _ _ _ 3 rfl (@pgs_cons _ _ _ _ _ (@pg_name _ _ (0) _ nd rfl (by walk_at "o") (by walk_at "o")) (@pgs_cons _ _ _ _ _ (@pg_name _ _ (1) _ nd rfl (by walk_at "o") (by walk_at "o")) (@pgs_cons _ _ _ _ _ (@pg_name _ _ (2) _ nd rfl (by walk_at "o") (by walk_at "o")) pgs_nil (by rfl)) (by rfl)) (by rfl)) (by rfl) (by rfl) (by rfl)),pn_nil,(@pe_tup _ _ _ _ _ (@pa_cons _ _ _ _ _ (@pe_ix _ _ _ _ _ _ _ ix_M (pv 3) (pv 0) (fun _ _=>rfl)) (@pa_cons _ _ _ _ _ (pv 1) (@pa_cons _ _ _ _ _ (pv 2) pa_nil (by rfl)) (by rfl)) (by rfl)))⟩) (by decide +kernel) (by first | rfl | decide +kernel) (by first | rfl | decide +kernel) rfl (fun _=>rfl) sc_pruned.nd rfl (by walk_at "o") (by walk_at "o") rfl) (@pss_one _ _ _ (@ps_ret _ _ _ _ (@pe_tup _ _ _ _ _ (@pa_cons _ _ _ _ _ (pv 1) (@pa_cons _ _ _ _ _ (pv 4) (@pa_cons _ _ _ _ _ (pv 7) pa_nil (by rfl)) (by rfl)) (by rfl)))))))))))),?_⟩
 rw [show start ["web","ins","kept","renumbered","deeds","place","deed","outs"] [.ref x]=[some (.ref x),none,none,none,none,none,none,none] from rfl]
 have h1:=W.tup
 have i12:=ok.i2
 have dl60:=ok.dl
 have gl12:=ok.gl
 (iterate 5 ((try (walk_at "WP")); (try (simp only [h1,qJs,qJt,qJl,qJd,exists_eq_left',exists_eq_left])))); (try (walk_at "WP"))
 refine ⟨x,dl,gl,ins,us,ds,os,gs,rfl,W,ok,fun kp bs H1 nkp s1 hkp Ub=>?_⟩
 try walk_at "WP"
 refine ⟨ins,rfl,by omega,fun rl H2 nrl s2 hrl dd hdd=>?_⟩
 have s3:=same_new hdd (.lst [])
 have d3:(upd H2 dd (.lst [])) dd=some (.lst []):=upd_same
 have ndr:rl ≠ dd:=ne_of_none hrl hdd
 have ndk:kp ≠ dd:=ne_of_none (s2 _ _ hkp) hdd
 have nkr:kp ≠ rl:=ne_of_none hkp nrl
 have r3:=s3 _ _ hrl
 have k3:=s3 _ _ (s2 _ _ hkp)
 have s03:=(s1.trans s2).trans s3
 have n0d:H dd=none:=(s1.trans s2).free hdd
 have n0r:H rl=none:=s1.free nrl
 rw [← renL_zero bs ins] at r3
 generalize upd H2 dd (.lst [])=H3 at s3 d3 r3 k3 s03 ⊢
 have bl:=Ub.len
 refine mid_of (fun σ H4=>∃ (o5 o6:Option V) (us':List V),σ = [some (.ref x),some (.int ins),some (.ref kp),some (.ref rl),some (.ref dd),o5,o6,none] /\ Same H H4 /\ H4 rl=some (.lst ((renL bs ins ds.length).map V.int)) /\ H4 dd=some (.lst us') /\ HTs wTup H4 us' (keptD bs ins 0 ds)) (fun N hN=>?_) ?_
 ·have h13:=s03 _ _ h1
  (iterate 5 ((try (walk_at "WP")); (try (simp only [h13,qJs,qJt,qJl,qJd,exists_eq_left',exists_eq_left])))); (try (walk_at "WP"))
  refine ⟨_,SqL.of (s03 _ _ W.dll),?_⟩
  refine forE (xs:=us) (fun i σ H4=>∃ (o5 o6:Option V) (us':List V),σ = [some (.ref x),some (.int ins),some (.ref kp),some (.ref rl),some (.ref dd),o5,o6,none] /\ Same H H4 /\ H4 kp=some (.lst (bs.map V.bl)) /\ H4 rl=some (.lst ((renL bs ins i).map V.int)) /\ H4 dd=some (.lst us') /\ HTs wTup H4 us' (keptD bs ins 0 (ds.take i))) ⟨none,none,[],rfl,s03,k3,r3,d3,hts_nil⟩ ?_ ?_ ?_
  ·rintro i σ H4 _ ⟨_,_,_,_,s4,_⟩
   exact SqL.of (s4 _ _ W.dll)
  ·rintro i v t σ H4 N2 hv ht ⟨o5,o6,us',rfl,s4,k4,r4,d4,t4⟩ hN2
   have hi:i < ds.length:=by rw [← W.hds.len]; exact (qB.mp hv).1
   obtain ⟨y,hy1,hy2⟩:=W.hds.at_ i _ (qA hi)
   have hdi:ds[i]? = some ds[i]:=qA hi
   generalize ds[i]=d at hy2 hdi
   rw [hv] at hy1
   cases hy1
   obtain ⟨da,db,_⟩:=ok.dk i d hdi
   have st:=same_new ht (.tup [V.int (i:Int),.ref y])
   have h9:upd H4 t (.tup [V.int (i:Int),.ref y]) t=some (.tup [V.int (i:Int),.ref y]):=upd_same
   have s5:=s4.trans st
   have k5:=st _ _ k4
   have r5:=st _ _ r4
   have d5:=st _ _ d4
   have t5:=t4.same st
   generalize upd H4 t (.tup [V.int (i:Int),.ref y])=H5 at st h9 s5 k5 r5 d5 t5 ⊢
   have ul:us'.length=keptN bs ins i:=by
    have:=keptD_len bs ins (ds.take i) 0
    rw [qO,Nat.min_eq_left (by omega),Nat.zero_add] at this
    rw [t5.len]
    exact this
   (iterate 5 ((try (walk_at "WP")); (try (simp only [h9,d5,qJs,qJt,qJl,qJd,exists_eq_left',exists_eq_left])))); (try (walk_at "WP"))
   refine ⟨ty_list r5,_,r5,?_,?_⟩
   ·rw [qC]
    unfold renL
    rw [qC,List.length_range]
    exact qJ (by omega:ins+i < 1000) (le_size (by decide))
   have C6:Chg rl H5 (upd H5 rl (.lst ((renL bs ins i).map V.int ++ [V.int ((ins:Int)+((us'.length:Nat):Int))]))):=Chg.upd _
   have r6:(upd H5 rl (.lst ((renL bs ins i).map V.int ++ [V.int ((ins:Int)+((us'.length:Nat):Int))]))) rl=some (.lst ((renL bs ins (i+1)).map V.int)):=by
    rw [upd_same,renL_succ,List.map_append,ul,show ((ins+keptN bs ins i:Nat):Int)=(ins:Int)+((keptN bs ins i:Nat):Int) by omega]
    rfl
   have s6:Same H (upd H5 rl (.lst ((renL bs ins i).map V.int ++ [V.int ((ins:Int)+((us'.length:Nat):Int))]))):=same_upd n0r s5
   generalize upd H5 rl (.lst ((renL bs ins i).map V.int ++ [V.int ((ins:Int)+((us'.length:Nat):Int))]))=H6 at C6 r6 s6 ⊢
   have k6:=C6 _ _ nkr k5
   have d6:=C6 _ _ ndr.symm d5
   have t6:=t5.chgL r5 C6
   have hb:ins+i < bs.length:=by omega
   have eb:bs[ins+i]? = some (bs.getD (ins+i) false):=by rw [getD_of (qA hb)]; exact qA hb
   have tk:keptD bs ins 0 (ds.take (i+1))=keptD bs ins 0 (ds.take i) ++ (if bs.getD (ins+i) false=true then [renD bs ins d] else []):=by
    rw [List.take_add_one,hdi]
    show keptD bs ins 0 (ds.take i ++ [d])=_
    rw [keptD_app,qO,Nat.min_eq_left (by omega),Nat.zero_add]
    show _ ++ ((if bs.getD (ins+i) false=true then [renD bs ins d] else []) ++ [])=_
    rw [List.append_nil]
   (iterate 5 ((try (walk_at "WP")); (try (simp only [k6,qJs,qJt,qJl,qJd,exists_eq_left',exists_eq_left])))); (try (walk_at "WP"))
   refine ⟨_,by rw [← Int.natCast_add]; exact atI_map eb,?_⟩
   try walk_at "WP"
   by_cases z:bs.getD (ins+i) false=true
   ·rw [if_pos z]
    rw [if_pos z] at tk
    have y6:=s6 _ _ hy2
    unfold wTup at y6
    refine ⟨ty_list d6,?_⟩
    (iterate 5 ((try (walk_at "WP")); (try (simp only [y6,r6,qJs,qJt,qJl,qJd,exists_eq_left',exists_eq_left])))); (try (walk_at "WP"))
    have ra:=renL_at (bs:=bs) (k:=i+1) (show d.a < ins+(i+1) by omega)
    have rb:=renL_at (bs:=bs) (k:=i+1) (show d.b < ins+(i+1) by omega)
    refine ⟨_,atI_map ra,_,atI_map rb,_,rfl,fun p1 hp1=>?_⟩
    have s7:=same_new hp1 (.tup [V.str d.w,V.int ((renN bs ins d.a:Nat):Int),V.int d.s,V.int ((renN bs ins d.b:Nat):Int),V.int d.t])
    have d7:=s7 _ _ d6
    have kl:=keptN_le bs ins i
    refine ⟨us',d7,qJ (by omega:us'.length < 1000) (le_size (by decide)),?_⟩
    refine hN2 _ _ ⟨_,_,_,rfl,same_upd n0d (s6.trans s7),by rw [upd_ne ndk]; exact s7 _ _ k6,by rw [upd_ne ndr]; exact s7 _ _ r6,upd_same,?_⟩
    rw [tk]
    exact ((t6.same s7).chgL d7 (Chg.upd _)).snoc (x:=renD bs ins d) (p:=p1) (by rw [upd_ne (ne_of_none d6 hp1).symm,upd_same]; rfl)
   ·rw [if_neg z]
    rw [if_neg z,List.append_nil] at tk
    refine hN2 _ _ ⟨_,_,us',rfl,s6,k6,r6,d6,?_⟩
    rw [tk]
    exact t6
  ·rintro σ H4 ⟨o5,o6,us',rfl,s4,k4,r4,d4,t4⟩
   rw [W.hds.len,List.take_length] at t4
   rw [W.hds.len] at r4
   exact hN _ _ ⟨o5,o6,us',rfl,s4,r4,d4,t4⟩
 ·rintro σ H4 ⟨o5,o6,us',rfl,s4,r4,d4,t4⟩
  have h14:=s4 _ _ h1
  have g4:=s4 _ _ W.gll
  (iterate 5 ((try (walk_at "WP")); (try (simp only [h14,qJs,qJt,qJl,qJd,exists_eq_left',exists_eq_left])))); (try (walk_at "WP"))
  refine ⟨⟨_,SqL.of g4⟩,?_⟩
  refine comp_goalsTK g4 (W.hgs.same s4) (by omega) gTp (renG bs ins) (fun g H' R hg s' hR=>?_) (fun acc ys H5 na s5 h5 t5=>?_)
  ·rw [show capV [3] [some (.ref x),some (.int ins),some (.ref kp),some (.ref rl),some (.ref dd),o5,o6,none]=[some (V.ref rl)] from rfl]
   rw [List.cons_append,List.cons_append,List.cons_append,List.nil_append]
   have r5:=s' _ _ r4
   (iterate 5 ((try (walk_at "WP")); (try (simp only [r5,qJs,qJt,qJl,qJd,exists_eq_left',exists_eq_left])))); (try (walk_at "WP"))
   exact ⟨_,atI_map (renL_at (ok.gk g hg)),fun r hr0=>hR r hr0⟩
  try walk_at "WP"
  intro rr hrr
  have s6:=same_new hrr (.tup [V.int (ins:Int),V.ref dd,V.ref acc])
  have s56:=s5.trans s6
  exact q rr dd acc us' ys bs _ (s4.free (s5.free hrr)) n0d (s4.free na) (ne_of_none d4 na) (s4.trans s56) Ub ⟨upd_same,s56 _ _ d4,t4.same s56,s6 _ _ h5,t5.same s6⟩
end
section
variable {P:Program}{w:World}{K:PySem.W.Frag}{mg:Str -> Option Value}{base:Heap}
theorem ok_merged (T:Txt K mg):Cal P w K mg base 5 "merged" ["web"] (spMergedB K):=by
 have B:=T.bl
 obtain ⟨cst_NO_OUT,mg_NO_OUT,hcst⟩:=T.c_NO_OUT
 have C_numbers:=ok_nums4 (P:=P) (w:=w) (base:=base) T
 have C_form_of:=(ok_form (P:=P) (w:=w) (base:=base) T).mono (k:=4) (by decide)
 have C_part_by:=(ok_partby (P:=P) (w:=w) (base:=base) T).mono (k:=4) (by decide)
 have C_parts_of:=(ok_partsof (P:=P) (w:=w) (base:=base) T).mono (k:=4) (by decide)
 have C_deed_of:=(ok_deedE (P:=P) (w:=w) (base:=base) T).mono (k:=4) (by decide)
 have C_sign_of:=(ok_signE (P:=P) (w:=w) (base:=base) T).mono (k:=4) (by decide)
 refine mkCal T.t_merged sc_merged (fun vs H Q E h=>?_) (fun f cdv A outer s H vs Q E hr h=>?_)
 ·obtain ⟨x,_,_,_,_,_,_,_,rfl,_⟩:=h
  rfl
 obtain ⟨x,dl,gl,n,us,ds,os,gs,rfl,W,F,q⟩:=h
 refine ⟨_,((@pss_cons _ _ _ _ _ (@ps_set _ _ (1) _ _ _ _ sc_merged.nd rfl (by walk_at "o") (@pe_comp0 _ _ _ _ _ _ _ _ (["row"]) (1) ([]) _ _ _ rfl (@pi_list _ _ _ _ (@pe_cal _ _ _ _ _ _ _ _ _ _ C_numbers hr rfl (@pa_cons _ _ _ _ _ (pv 0) pa_nil (by rfl)) (by decide) (by rfl) (by rfl))) (fun nd C s H fp=>⟨(@pg_name _ _ (0) _ nd rfl (by walk_at "o") (by walk_at "o")),pn_nil,(@pe_cal _ _ _ _ _ _ _ _ _ _ C_form_of hr rfl (@pa_cons _ _ _ _ _ (pv 0) pa_nil (by rfl)) (by decide) (by rfl) (by rfl))⟩) (by decide +kernel) (by first | rfl | decide +kernel) (by first | rfl | decide +kernel) rfl (fun _=>rfl)) (by rfl) (by walk_at "o")) (@pss_cons _ _ _ _ _ (@ps_set _ _ (2) _ _ _ _ sc_merged.nd rfl (by walk_at "o") pe_dnewT (by rfl) (by walk_at "o")) (@pss_cons _ _ _ _ _ (@ps_set _ _ (3) _ _ _ _ sc_merged.nd rfl (by walk_at "o") (@pe_lst _ _ _ _ pa_nil) (by rfl) (by walk_at "o")) (@pss_mid _ _ _ _ _ (@ps_for _ _ _ _ _ _ _ _ PassesOwn.never rfl (@pi_enum _ _ _ _ _ _ _ _ rfl B.enumerate (@pa_cons _ _ _ _ _ (pv 1) pa_nil (by rfl)) (by rfl)) (@pg_tupM _ _ _ _ _ 2 rfl (@pgs_cons _ _ _ _ _ (@pg_name _ _ (4) _ sc_merged.nd rfl (by walk_at "o") (by walk_at "o")) (@pgs_cons _ _ _ _ _ (@pg_name _ _ (5) _ sc_merged.nd rfl (by walk_at "o") (by walk_at "o")) pgs_nil (by rfl)) (by rfl)) (by rfl) (by rfl)) (@pss_cons _ _ _ _ _ (@ps_if _ _ _ _ _ _ _ _ (@PW.pt _ _ _ (@pw_or _ _ _ _ _ _ _ (@pt_cmpR _ _ _ _ _ _ _ _ op_eq (@pe_ix _ _ _ _ _ _ _ ix_U (pv 5) pe_int (fun _ _=>rfl)) pe_int (@nomark _ _ (by decide) (by decide))) (@pw_or1 _ _ _ _ (@pt_cmpR _ _ _ _ _ _ _ _ (@op_dIT _ (@hu_of _ _ hr)) (@pe_ix _ _ _ _ _ _ _ ix_U (pv 5) pe_int (fun _ _=>rfl)) (pv 2) (by with_unfolding_all rfl))))) (@pss_one _ _ _ ps_continue) pss_nil) (@pss_cons _ _ _ _ _ (@ps_if _ _ _ _ _ _ _ _ (@pt_cmpR _ _ _ _ _ _ _ _ op_lt (pv 4) (@pe_ix _ _ _ _ _ _ _ ix_U (pv 0) pe_int (fun _ _=>rfl)) (@nomark _ _ (by decide) (by decide))) (@pss_cons _ _ _ _ _ (@ps_dpT _ _ _ _ _ _ _ _ _ (@hu_of _ _ hr) (pv 2) (@pe_ix _ _ _ _ _ _ _ ix_U (pv 5) pe_int (fun _ _=>rfl)) (@pe_tup _ _ _ _ _ (@pa_cons _ _ _ _ _ (pv 4) (@pa_cons _ _ _ _ _ pe_int (@pa_cons _ _ _ _ _ pe_int pa_nil (by rfl)) (by rfl)) (by rfl))) rfl) (@pss_one _ _ _ ps_continue)) pss_nil) (@pss_cons _ _ _ _ _ (@ps_setComp0 _ _ _ _ (6) _ _ _ _ _ _ _ (["part","kept","forms"]) (1) ([2,1]) _ _ _ rfl (@pi_list _ _ _ _ (@pe_cal _ _ _ _ _ _ _ _ _ _ C_parts_of hr rfl (@pa_cons _ _ _ _ _ (@pe_ix _ _ _ _ _ _ _ ix_M (@pe_ix _ _ _ _ _ _ _ ix_U (pv 0) pe_int (fun _ _=>rfl)) (@pe_op _ _ _ _ _ _ _ _ op_sub (pv 4) (@pe_ix _ _ _ _ _ _ _ ix_U (pv 0) pe_int (fun _ _=>rfl))) (fun _ _=>rfl)) pa_nil (by rfl)) (by decide) (by rfl) (by rfl))) (fun nd C s H fp=>⟨(@pg_name _ _ (0) _ nd rfl (by walk_at "o") (by walk_at "o")),pn_nil,(@pe_cal _ _ _ _ _ _ _ _ _ _ C_part_by hr rfl (@pa_cons _ _ _ _ _ (pv 1) (@pa_cons _ _ _ _ _ (pv 2) (@pa_cons _ _ _ _ _ (pv 0) pa_nil (by rfl)) (by rfl)) (by rfl)) (by decide) (by rfl) (by rfl))⟩) (by decide +kernel) (by first | rfl | decide +kernel) (by first | rfl | decide +kernel) rfl (fun _=>rfl) sc_merged.nd rfl (by walk_at "o") (by walk_at "o") rfl) (@pss_cons _ _ _ _ _ (@ps_dpT _ _ _ _ _ _ _ _ _ (@hu_of _ _ hr) (pv 2) (@pe_ix _ _ _ _ _ _ _ ix_U (pv 5) pe_int (fun _ _=>rfl)) (@pe_tup _ _ _ _ _ (@pa_cons _ _ _ _ _ (@pe_op _ _ _ _ _ _ _ _ op_add (@pe_ix _ _ _ _ _ _ _ ix_U (pv 0) pe_int (fun _ _=>rfl)) (@pe_callB _ _ _ _ _ _ _ _ _ call_lenM rfl B.len bo_len (@pa_cons _ _ _ _ _ (pv 3) pa_nil (by rfl)) (by decide) (by decide) (by rfl) (by rfl))) (@pa_cons _ _ _ _ _ (@pe_ix _ _ _ _ _ _ _ ix_U (pv 5) pe_int (fun _ _=>rfl)) (@pa_cons _ _ _ _ _ (@pe_op _ _ _ _ _ _ _ _ op_mulB (@pe_ix _ _ _ _ _ _ _ ix_U (pv 5) pe_int (fun _ _=>rfl)) (@pe_cal _ _ _ _ _ _ _ _ _ _ C_sign_of hr rfl (@pa_cons _ _ _ _ _ (@pe_ix _ _ _ _ _ _ _ ix_M (pv 6) pe_int (fun _ _=>rfl)) (@pa_cons _ _ _ _ _ (@pe_ix _ _ _ _ _ _ _ ix_M (pv 6) pe_int (fun _ _=>rfl)) pa_nil (by rfl)) (by rfl)) (by decide) (by rfl) (by rfl))) pa_nil (by rfl)) (by rfl)) (by rfl))) rfl) (@pss_one _ _ _ (@ps_expr _ _ _ _ (@pe_bm _ _ _ _ _ _ _ _ _ _ _ _ PySem.F.plainAttrs_list PySem.F.slot_list_append PySem.F.type_list_append mt_append (pv 3) (@pa_cons _ _ _ _ _ (@pe_cal _ _ _ _ _ _ _ _ _ _ C_deed_of hr rfl (@pa_cons _ _ _ _ _ (@pe_ix _ _ _ _ _ _ _ ix_M (pv 6) pe_int (fun _ _=>rfl)) (@pa_cons _ _ _ _ _ (@pe_ix _ _ _ _ _ _ _ ix_M (pv 6) pe_int (fun _ _=>rfl)) pa_nil (by rfl)) (by rfl)) (by decide) (by rfl) (by rfl)) pa_nil (by rfl)) (by rfl) (by rfl) (by rfl) (by rfl) (by rfl)) (by rfl))))))) (by intro _ ; rfl)) (@pss_one _ _ _ (@ps_ret _ _ _ _ (@pe_tup _ _ _ _ _ (@pa_cons _ _ _ _ _ (@pe_ix _ _ _ _ _ _ _ ix_U (pv 0) pe_int (fun _ _=>rfl)) (@pa_cons _ _ _ _ _ (pv 3) (@pa_cons _ _ _ _ _ (@pe_comp0 _ _ _ _ _ _ _ _ (["out","kept","forms"]) (1) ([2,1]) _ _ _ rfl (@pi_list _ _ _ _ (@pe_ix _ _ _ _ _ _ _ ix_U (pv 0) pe_int (fun _ _=>rfl))) (fun nd C s H fp=>⟨(@pg_name _ _ (0) _ nd rfl (by walk_at "o") (by walk_at "o")),pn_nil,(@pe_cal _ _ _ _ _ _ _ _ _ _ C_part_by hr rfl (@pa_cons _ _ _ _ _ (pv 1) (@pa_cons _ _ _ _ _ (pv 2) (@pa_cons _ _ _ _ _ (pv 0) pa_nil (by rfl)) (by rfl)) (by rfl)) (by decide) (by rfl) (by rfl))⟩) (by decide +kernel) (by first | rfl | decide +kernel) (by first | rfl | decide +kernel) rfl (fun _=>rfl)) pa_nil (by rfl)) (by rfl)) (by rfl)))))))))),?_⟩
 rw [show start ["web","forms","kept","deeds","thing","form","parts"] [.ref x]=[some (.ref x),none,none,none,none,none,none] from rfl]
 have i1:=F.f.ok.i1
 have i12:=F.f.ok.i2
 have dl60:=F.f.ok.dl
 have lr:=rowsW_len n ds
 have h1:=W.tup
 refine seq_in fun R_ hR_=>?_
 try walk_at "WP"
 refine ⟨x,dl,gl,n,us,ds,os,gs,rfl,W.wk,F.f,fun nr ys H1 n1 s1 hn1 ht1=>?_⟩
 refine ⟨nr,rfl,⟨_,SqL.of hn1⟩,?_⟩
 refine comp_rel (Rl:=fmI) (f:=iT) (fun _ _ _ _ h l=>h.ls l) hn1 ht1 (by omega) (fun i t row H' R hi ht s' hR=>?_) (fun fl ws H2 n2 s2 h2 lw fm=>?_)
 ·try walk_at "WP"
  have hm:=qE hi
  refine ⟨t,row,rfl,ht,by rw [F.f.wd row hm]; omega,fun z hz=>Nat.lt_of_le_of_lt ((F.rb row hm).2 z hz) (Nat.pow_lt_pow_right (by decide) (by decide)),fun z t' H5 s5 h5=>?_,fun t' f' fs k g H5 s5 h5 h5' Fr=>?_⟩
  ·exact hR _ _ s5 ⟨t',rfl,.inl ⟨z,t,h5⟩⟩
  ·exact hR _ _ s5 ⟨t',rfl,.inr ⟨f',fs,k,g,h5,h5',Fr⟩⟩
 have fmL:FmL H2 ws (rowsW n ds):=⟨lw,fun i u row a b=>fm i u row a b⟩
 (try (walk_at "WP")); (try (refine seq_out hR_ ?_)); (try (refine seq_in fun R_ hR_=>?_)); (try (walk_at "WP"))
 intro kp nkp
 refine abs_ nkp fun H3 s3 h3=>?_
 (try (walk_at "WP")); (try (refine seq_out hR_ ?_)); (try (refine seq_in fun R_ hR_=>?_)); (try (walk_at "WP"))
 intro el nel
 refine abs_ nel fun H4 s4 h4=>?_
 have h3:=s4 _ _ h3
 have s24:=s3.trans s4
 have s04:=(s1.trans s2).trans s24
 have nel0:H el=none:=((s1.trans s2).trans s3).free nel
 have nkp0:H kp=none:=(s1.trans s2).free nkp
 have flk:fl ≠ kp:=ne_of_none h2 nkp
 have fle:fl ≠ el:=ne_of_none (s3 _ _ h2) nel
 have kel:kp ≠ el:=ne_of_none (show H3 kp=_ from by assumption) nel
 subst hR_
 refine mid_of (fun σ G=>∃ (o1 o2 o3:Option V) (kvs:List (List Key × V)) (eu:List V) (es:List Wd),σ = [some (.ref x),some (.ref fl),some (.ref kp),some (.ref el),o1,o2,o3] /\ Same H G /\ G fl=some (.lst ws) /\ FmL G ws (rowsW n ds) /\ G kp=some (.dT kvs) /\ G el=some (.lst eu) /\ HTs wTup G eu es /\ Std G kvs (rowsW n es) /\ Mrg n (rowsW n ds) (n+ds.length) kvs es) (fun N hN=>?_) ?_
 ·try walk_at "WP"
  refine ⟨_,SqL.of (s24 _ _ h2),?_⟩
  refine forE (xs:=ws) (fun i σ G=>∃ (o1 o2 o3:Option V) (kvs:List (List Key × V)) (eu:List V) (es:List Wd),σ = [some (.ref x),some (.ref fl),some (.ref kp),some (.ref el),o1,o2,o3] /\ Same H G /\ G fl=some (.lst ws) /\ FmL G ws (rowsW n ds) /\ G kp=some (.dT kvs) /\ G el=some (.lst eu) /\ HTs wTup G eu es /\ Std G kvs (rowsW n es) /\ Mrg n (rowsW n ds) i kvs es /\ kvs.length <= i) ⟨none,none,none,[],[],[],rfl,s04,s24 _ _ h2,fmL.same s24,h3,h4,hts_nil,(fun fs v e=>by cases e),mrg_zero,Nat.le_refl _⟩ ?_ ?_ ?_
  ·rintro i σ G _ ⟨_,_,_,_,_,_,_,_,hf,_⟩
   exact SqL.of hf
  ·rintro i v t σ G N2 hv ht ⟨o1,o2,o3,kvs,eu,es,rfl,sG,fG,mG,kG,eG,tG,dG,M,kl⟩ hN2
   have hi:i < ws.length:=(qB.mp hv).1
   have hiR:i < (rowsW n ds).length:=by omega
   have er:=qA hiR
   have eg:(rowsW n ds).getD i []=(rowsW n ds)[i]:=getD_of er
   obtain ⟨ft,rfl,hfm⟩:=mG.2 i v _ hv er
   rw [← eg] at hfm
   refine abs_ ht fun G1 t1 h9=>?_
   have sG1:=sG.trans t1
   have fG:=t1 _ _ fG
   have mG:=mG.same t1
   have kG:=t1 _ _ kG
   have eG:=t1 _ _ eG
   have tG:=tG.same t1
   have dG:=dG.same t1
   rcases hfm with ⟨z,r,hf⟩ | ⟨f0,fs,k,g,hf,hf2,Fr⟩
   ·have hf:=t1 _ _ hf
    (iterate 5 ((try (walk_at "WP")); (try (simp only [h9,hf,qJs,qJt,qJl,qJd,exists_eq_left',exists_eq_left])))); (try (walk_at "WP"))
    exact hN2 _ _ ⟨_,_,_,kvs,eu,es,rfl,sG1,fG,mG,kG,eG,tG,dG,M.skip (fun fs k g Fr=>(frm_nz Fr z).elim),by omega⟩
   have hf:=t1 _ _ hf
   have hf2:=t1 _ _ hf2
   have h1G:=sG1 _ _ h1
   (iterate 5 ((try (walk_at "WP")); (try (simp only [h9,hf,qJs,qJt,qJl,qJd,exists_eq_left',exists_eq_left])))); (try (walk_at "WP"))
   rw [if_neg (show ¬ g=0 by rcases Fr.sg with r | r <;> rw [r] <;> decide)]
   refine ⟨fs,kvs,kG,hf2,?_⟩
   refine ite2 (fun z=>hN2 _ _ ⟨_,_,_,kvs,eu,es,rfl,sG1,fG,mG,kG,eG,tG,dG,M.skip (fun fs' k' g' Fr'=>by rw [(frm_uniq Fr' Fr).1]; exact z),by omega⟩) (fun z=>?_)
   have hno:(valV kvs (tkey fs)).isSome=false:=Bool.eq_false_iff.mpr z
   (iterate 5 ((try (walk_at "WP")); (try (simp only [h1G,qJs,qJt,qJl,qJd,exists_eq_left',exists_eq_left])))); (try (walk_at "WP"))
   have lk:kvs.length < sizeLine:=qJ (by omega:kvs.length < 1000) (le_size (by decide))
   refine ite2 (fun zi=>?_) (fun zi=>?_)
   ·have hin:i < n:=by omega
    intro t2 nt2
    refine abs_ nt2 fun G2 s2' h2'=>?_
    have hf2':=s2' _ _ hf
    (iterate 5 ((try (walk_at "WP")); (try (simp only [hf2',qJs,qJt,qJl,qJd,exists_eq_left',exists_eq_left])))); (try (walk_at "WP"))
    refine ⟨fs,kvs,s2' _ _ kG,s2' _ _ hf2,lk,?_⟩
    have k2':=s2' _ _ kG
    have TP:TpS G2 (upd G2 kp (.dT (putK kvs (tkey fs) (.ref t2)))):=(Chg.upd _).tp k2' (fun _ z=>by cases z)
    have eu0:(rowsW n ds).getD i []=unitRow n i:=rowsW_unit hin
    rw [eu0] at Fr
    obtain ⟨e1,e2,e3⟩:=frm_uniq Fr (frm_unit hin)
    refine hN2 _ _ ⟨_,_,_,_,eu,es,rfl,same_upd nkp0 (sG1.trans s2'),by rw [upd_ne flk]; exact s2' _ _ fG,(mG.same s2').tp TP,upd_same,by rw [upd_ne kel.symm]; exact s2' _ _ eG,(tG.same s2').tp TP,?_,M.inp (by rw [eu0]; exact Fr),Nat.le_trans putK_len (by omega)⟩
    refine (std_put (R':=rowsW n es) (dG.same s2') (t:=t2) (i:=i) (b:=0) (h:=1) h2' (.inl rfl) ?_ (fun _ _ h=>h)).tp TP
    have el':=qA (show i < (rowsW n es).length by rw [rowsW_len]; omega)
    rw [el',← getD_of el',rowsW_unit hin,Int.pow_zero,Int.mul_one,mulR_one,e1]
   ·have hin:n <= i:=by omega
    obtain ⟨k',rfl⟩:∃ k',i=n+k':=⟨i - n,by omega⟩
    have hk':k' < ds.length:=by omega
    have ed:=qA hk'
    generalize ds[k']=d at ed
    obtain ⟨da,db,sa,sb⟩:=F.f.sh k' d ed
    have dw:d.w = "sum" \/ d.w = "less":=(F.f.ok.dk k' d ed).2.2
    have sd:=F.sd d (qE ed)
    have hd:(rowsW n ds).getD (n+k') []=rowD (rowsW n ds) d:=rowsW_dk ed da db
    have rmem:∀ j,j < n+k' -> (rowsW n ds).getD j [] ∈ rowsW n ds:=fun j hj=>by
     have e:=qA (show j < (rowsW n ds).length by omega)
     rw [getD_of e]
     exact qE e
    have NZ:=M.nz Fr hno hd da db (by rw [F.f.wd _ (rmem _ da),F.f.wd _ (rmem _ db)]) sa.2.2 sb.2.2
    have WG:=W.same sG1
    have dlG:=WG.dll
    obtain ⟨pd,ep,hpd⟩:=WG.hds.at_ k' d ed
    (iterate 5 ((try (walk_at "WP")); (try (simp only [dlG,qJs,qJt,qJl,qJd,exists_eq_left',exists_eq_left])))); (try (walk_at "WP"))
    refine ⟨_,(show atI us (((n+k':Nat):Int) - (n:Int))=some (.ref pd) by rw [show ((n+k':Nat):Int) - (n:Int)=(k':Int) by omega]; exact atI_nat ep),?_⟩
    refine ⟨pd,d,rfl,hpd,fun l t u G2 s2' hl2 ht2 hu2=>?_⟩
    refine ⟨l,rfl,⟨_,SqL.of hl2⟩,?_⟩
    have ht':HTs gTp G2 [V.ref t,V.ref u] [⟨d.a,d.s,1⟩,⟨d.b,d.t,sgW d.w⟩]:=(hts_nil.snoc (x:=(⟨d.a,d.s,1⟩:Go)) ht2).snoc (x:=(⟨d.b,d.t,sgW d.w⟩:Go)) hu2
    refine comp_rel (Rl:=fun H v (g:Go)=>∃ p G,v = .ref p /\ SqT K H p (gTp G) /\ Pst n (rowsW n ds) (rowsW n es) g.th g.sh g.sg G) (fun _ _ _ _ h l=>by obtain ⟨p,G,a,b,c⟩:=h; exact ⟨p,G,a,l.seqT b,c⟩) hl2 ht' (by simp) (fun j tt y H' R hy hty s' hR=>?_) (fun pl ws2 G3 n3 s3' h3' lw2 pr=>?_)
    ·rw [show capV [2,1] [some (V.ref x),some (V.ref fl),some (V.ref kp),some (V.ref el),some (V.int ((n+k':Nat):Int)),some (V.ref ft),o3]=[some (V.ref kp),some (V.ref fl)] from rfl]
     try walk_at "WP"
     have yP:y.th < n+k' /\ (y.sg=1 \/ y.sg = -1) /\ Sh4 y.sh ((rowsW n ds).getD y.th []) /\ (-900 <= y.sh /\ y.sh <= 900) /\ ¬ ∀ x ∈ (rowsW n ds).getD y.th [],x=0:=by
      match j,hy with
      | 0,hy=>cases hy; exact ⟨da,.inl rfl,sa,⟨sd.1,sd.2.1⟩,NZ.1⟩
      | 1,hy=>cases hy; exact ⟨db,sgW_or _,sb,⟨sd.2.2.1,sd.2.2.2⟩,NZ.2⟩
     obtain ⟨y1,y2,y3,y4,y5⟩:=yP
     have s1':=s2'.trans s'
     have ey:=qA (show y.th < (rowsW n ds).length by omega)
     have egy:(rowsW n ds).getD y.th []=(rowsW n ds)[y.th]'(by omega):=getD_of ey
     refine ⟨kp,fl,tt,kvs,ws,rowsW n ds,rowsW n es,y.th,y.sh,y.sg,_,rfl,s1' _ _ kG,dG.same s1',s1' _ _ fG,mG.same s1',hty,ey,.inr y2,fun hz=>?_,fun fs' k2 g2 _ F2=>?_⟩
     ·exfalso
      rcases hz with z | z
      ·rcases y2 with e | e <;> omega
      ·rw [← egy] at z
       exact y5 z
     ·rw [← egy] at F2
      refine ⟨M.cv y.th y1 fs' k2 g2 F2,fun r i2 b2 h2'' H5 s5 h5 hh2 e2=>hR _ _ s5 ⟨r,⟨i2,y.sh+k2 - b2,y.sg * g2 * h2''⟩,rfl,SqT.of h5,?_⟩⟩
      exact pst_ofB F2 y3 y4 y2 (fun x hx=>(F.rb _ (rmem _ y1)).2 x hx) (fun r hr x hx=>(M.memB F r hr).2 x hx) hh2 e2
    obtain ⟨v0,v1,rfl⟩:∃ v0 v1,ws2=[v0,v1]:=by
     match ws2,lw2 with
     | [a,b],_=>exact ⟨a,b,rfl⟩
    obtain ⟨p0,G0,rfl,q0,P0⟩:=pr 0 _ _ rfl rfl
    obtain ⟨p1,G1',rfl,q1,P1⟩:=pr 1 _ _ rfl rfl
    have sG3:=s2'.trans s3'
    have x3:=sG3 _ _ h1G
    have e3:=sG3 _ _ eG
    have hf3:=sG3 _ _ hf
    (iterate 5 ((try (walk_at "WP")); (try (simp only [x3,e3,hf3,h3',qJs,qJt,qJl,qJd,exists_eq_left',exists_eq_left])))); (try (walk_at "WP"))
    refine ⟨p0,p1,G0,G1',rfl,q0,q1,?_⟩
    have sgn:=signG_or (q:=G1') P0.sn
    try walk_at "WP"
    refine ⟨by rcases Fr.sg with r | r <;> rw [r] <;> exact mul_l (by decide) (by decide),?_⟩
    intro t4 nt4
    refine abs_ nt4 fun G4 s4' h4'=>?_
    have hf4:=s4' _ _ hf3
    have sG4:=sG3.trans s4'
    have k4:=sG4 _ _ kG
    (iterate 5 ((try (walk_at "WP")); (try (simp only [hf4,qJs,qJt,qJl,qJd,exists_eq_left',exists_eq_left])))); (try (walk_at "WP"))
    refine ⟨fs,kvs,k4,sG4 _ _ hf2,lk,?_⟩
    have TP:TpS G4 (upd G4 kp (.dT (putK kvs (tkey fs) (.ref t4)))):=(Chg.upd _).tp k4 (fun _ z=>by cases z)
    have CH:Chg kp G4 (upd G4 kp (.dT (putK kvs (tkey fs) (.ref t4)))):=Chg.upd _
    have k5:upd G4 kp (.dT (putK kvs (tkey fs) (.ref t4))) kp=some (.dT (putK kvs (tkey fs) (.ref t4))):=upd_same
    have s05:Same H (upd G4 kp (.dT (putK kvs (tkey fs) (.ref t4)))):=same_upd nkp0 (sG1.trans sG4)
    have plk:pl ≠ kp:=(ne_of_none (s2' _ _ kG) n3).symm
    have h5':=CH _ _ plk (s4' _ _ h3')
    have e5:=CH _ _ kel.symm (sG4 _ _ eG)
    have f5:=CH _ _ flk (sG4 _ _ fG)
    have m5:=(mG.same sG4).tp TP
    have t5:=(tG.same sG4).tp TP
    have d5:=(dG.same sG4).tp TP
    have t45:=TP _ _ h4'
    have q0':SqT K (upd G4 kp (.dT (putK kvs (tkey fs) (.ref t4)))) p0 (gTp G0):=by
     rcases s4'.seqT q0 with (z | ⟨o,z⟩) | z
     ·exact .inl (.inl (TP _ _ z))
     ·exact .inl (.inr ⟨o,CH _ _ (ne_of z k4 (by intro z; cases z)) z⟩)
     ·exact .inr z
    have q1':SqT K (upd G4 kp (.dT (putK kvs (tkey fs) (.ref t4)))) p1 (gTp G1'):=by
     rcases s4'.seqT q1 with (z | ⟨o,z⟩) | z
     ·exact .inl (.inl (TP _ _ z))
     ·exact .inl (.inr ⟨o,CH _ _ (ne_of z k4 (by intro z; cases z)) z⟩)
     ·exact .inr z
    generalize upd G4 kp (.dT (putK kvs (tkey fs) (.ref t4)))=G5 at k5 s05 h5' e5 f5 m5 t5 d5 t45 q0' q1' ⊢
    refine ⟨ty_list e5,?_⟩
    (iterate 5 ((try (walk_at "WP")); (try (simp only [h5',qJs,qJt,qJl,qJd,exists_eq_left',exists_eq_left])))); (try (walk_at "WP"))
    refine ⟨p0,p1,G0,G1',rfl,q0',q1',fun r6 G6 n6 s6 h6=>?_⟩
    have e6:=s6 _ _ e5
    have le:=M.le
    have leu:=tG.len
    (iterate 5 ((try (walk_at "WP")); (try (simp only [e6,qJs,qJt,qJl,qJd,exists_eq_left',exists_eq_left])))); (try (walk_at "WP"))
    refine ⟨qJ (by omega:eu.length < 1000) (le_size (by decide)),?_⟩
    have L7:LS G6 (upd G6 el (.lst (eu ++ [V.ref r6]))):=(Chg.upd _).ls e6 upd_same
    have C7:Chg el G6 (upd G6 el (.lst (eu ++ [V.ref r6]))):=Chg.upd _
    obtain ⟨M',er'⟩:=M.deed (v:=.ref t4) Fr hin hiR (fun j hj=>rowsW_unit hj) hno hd P0 P1
    refine hN2 _ _ ⟨_,_,_,_,_,es ++ [deedG G0 G1'],rfl,same_upd nel0 (s05.trans s6),C7 _ _ fle (s6 _ _ f5),(m5.same s6).tp L7.tp,C7 _ _ kel (s6 _ _ k5),upd_same,((t5.same s6).tp L7.tp).snoc (L7.tp _ _ h6),?_,M',Nat.le_trans putK_len (by omega)⟩
    refine ((std_put (R':=rowsW n es) d5 (t:=t4) (i:=n+es.length) (b:=k) (h:=g * signG G0 G1') ?_ (sg_mul Fr.sg sgn) er' (fun j row hj=>rowsW_pre n es _ hj)).same s6).tp L7.tp
    rw [t45,leu,Int.natCast_add]
  ·rintro σ G ⟨o1,o2,o3,kvs,eu,es,rfl,sG,fG,mG,kG,eG,tG,dG,M,_⟩
   exact hN _ _ ⟨_,_,_,kvs,eu,es,rfl,sG,fG,mG,kG,eG,tG,dG,by rw [← lr,← lw]; exact M⟩
 ·rintro σ G ⟨o1,o2,o3,kvs,eu,es,rfl,sG,fG,mG,kG,eG,tG,dG,M⟩
  have hG:=sG _ _ h1
  (iterate 5 ((try (walk_at "WP")); (try (simp only [hG,qJs,qJt,qJl,qJd,exists_eq_left',exists_eq_left])))); (try (walk_at "WP"))
  have WG:=W.same sG
  have gl12:=F.f.ok.gl
  have og:=W.hgs.len
  refine ⟨⟨_,SqL.of WG.gll⟩,?_⟩
  refine comp_rel (Rl:=fun H v (g:Go)=>∃ p G',v = .ref p /\ SqT K H p (gTp G') /\ GoM (rowsW n ds) (rowsW n es) g G') (fun _ _ _ _ h l=>by obtain ⟨p,G',a,b,c⟩:=h; exact ⟨p,G',a,l.seqT b,c⟩) WG.gll WG.hgs (by omega) (fun j tt y H' R hy hty s' hR=>?_) (fun ol ws2 G2 n2' s2' h2' lw2 pr=>?_)
  ·rw [show capV [2,1] [some (V.ref x),some (V.ref fl),some (V.ref kp),some (V.ref el),o1,o2,o3]=[some (V.ref kp),some (V.ref fl)] from rfl]
   try walk_at "WP"
   have hyg:=qE hy
   have y1:=F.f.ok.gk y hyg
   have ey:=qA (show y.th < (rowsW n ds).length by omega)
   have egy:(rowsW n ds).getD y.th []=(rowsW n ds)[y.th]'(by omega):=getD_of ey
   have y2:y.sg=0 \/ y.sg=1 \/ y.sg = -1:=(F.f.go y hyg).elim (fun z=>.inl (by rw [z])) fun z=>.inr z.1
   refine ⟨kp,fl,tt,kvs,ws,rowsW n ds,rowsW n es,y.th,y.sh,y.sg,_,rfl,s' _ _ kG,dG.same s',s' _ _ fG,mG.same s',hty,ey,y2,fun hz t0 ht0=>?_,fun fs' k2 g2 y0 F2=>?_⟩
   ·exact hR _ _ (Same.refl _) ⟨t0,⟨0,0,0⟩,rfl,ht0,.inl ⟨by rw [egy]; exact hz,rfl⟩⟩
   ·rw [← egy] at F2
    refine ⟨M.cv y.th y1 fs' k2 g2 F2,fun r i2 b2 h2'' H5 s5 h5 hh2 e2=>hR _ _ s5 ⟨r,⟨i2,y.sh+k2 - b2,y.sg * g2 * h2''⟩,rfl,SqT.of h5,.inr ⟨y0,?_⟩⟩⟩
    have ym:(rowsW n ds).getD y.th [] ∈ rowsW n ds:=by rw [egy]; exact qE ey
    rcases F.f.go y hyg with z | ⟨z1,z2⟩
    ·rw [z] at y0
     exact absurd rfl y0
    ·exact pst_ofB F2 z2 (F.sg y hyg) z1 (fun x hx=>(F.rb _ ym).2 x hx) (fun r hr x hx=>(M.memB F r hr).2 x hx) hh2 e2
  obtain ⟨gs',lg,hgs'⟩:=pick_list (xs:=ws2) (P:=fun i u (G':Go)=>(∃ p,u = .ref p /\ SqT K G2 p (gTp G')) /\ ∀ g,gs[i]? = some g -> GoM (rowsW n ds) (rowsW n es) g G') (fun i u hu=>by
   have il:=(qB.mp hu).1
   have eg:=qA (show i < gs.length by omega)
   obtain ⟨p,G',a,b,c⟩:=pr i u _ hu eg
   exact ⟨G',⟨p,a,b⟩,fun g hg=>by rw [eg] at hg; cases hg; exact c⟩)
  have HK:HKs K gTp G2 ws2 gs':=⟨lg.symm,fun k y hy=>by
   have kl:=(qB.mp hy).1
   have eu':=qA (show k < ws2.length by omega)
   obtain ⟨⟨p,a,b⟩,_⟩:=hgs' k _ y eu' hy
   exact ⟨p,by rw [eu',a],b⟩⟩
  have GM:∀ (k:Nat) g g',gs[k]? = some g -> gs'[k]? = some g' -> GoM (rowsW n ds) (rowsW n es) g g':=fun k g g' hg hg'=>by
   have kl:=(qB.mp hg').1
   exact (hgs' k _ g' (qA (show k < ws2.length by omega)) hg').2 g hg
  obtain ⟨F4,BP,OR,LE⟩:=M.fwB F (by omega) GM
  intro rr nrr
  have sr:=same_new nrr (.tup [V.int (n:Int),V.ref el,V.ref ol])
  have s2r:=s2'.trans sr
  exact q rr el ol eu ws2 es gs' _ (sG.trans s2r) ⟨upd_same,s2r _ _ eG,tG.same s2r,sr _ _ h2',HK.same sr⟩ F4 BP OR LE
theorem ok_bare (T:Txt K mg):Cal P w K mg base 6 "bare" ["web"] (spBareB K):=by
 have B:=T.bl
 have C_pruned:=(ok_prunedK (P:=P) (w:=w) (base:=base) T).mono (k:=5) (by decide)
 have C_merged:=ok_merged (P:=P) (w:=w) (base:=base) T
 refine mkCal T.t_bare sc_bare (fun vs H Q E h=>?_) (fun f cdv A outer s H vs Q E hr h=>?_)
 ·obtain ⟨x,_,_,_,_,_,_,_,rfl,_⟩:=h
  rfl
 obtain ⟨x,dl,gl,n,us,ds,os,gs,rfl,W,F,q⟩:=h
 refine ⟨_,((@pss_one _ _ _ (@ps_ret _ _ _ _ (@pe_cal _ _ _ _ _ _ _ _ _ _ C_pruned hr rfl (@pa_cons _ _ _ _ _ (@pe_cal _ _ _ _ _ _ _ _ _ _ C_merged hr rfl (@pa_cons _ _ _ _ _ (@pe_cal _ _ _ _ _ _ _ _ _ _ C_pruned hr rfl (@pa_cons _ _ _ _ _ (pv 0) pa_nil (by rfl)) (by decide) (by rfl) (by rfl)) pa_nil (by rfl)) (by decide) (by rfl) (by rfl)) pa_nil (by rfl)) (by decide) (by rfl) (by rfl))))),?_⟩
 rw [show start ["web"] [.ref x]=[some (.ref x)] from rfl]
 try walk_at "WP"
 refine ⟨x,dl,gl,n,us,ds,os,gs,rfl,W,F.f.ok,fun r1 d1 g1 us1 os1 bs1 H1 _ _ _ _ s1 U1 W1=>?_⟩
 have F1:=F.kept U1
 obtain ⟨_,_,O1⟩:=F.f.kept U1
 try walk_at "WP"
 refine ⟨r1,d1,g1,n,us1,_,os1,_,rfl,W1,F1,fun r2 d2 g2 us2 os2 es gs2 H2 s2 W2 F2 B2 O2 L2'=>?_⟩
 try walk_at "WP"
 refine ⟨r2,d2,g2,n,us2,es,os2,gs2,rfl,W2,F2.ok,fun r3 d3 g3 us3 os3 bs3 H3 nr nd ng dg s3 U3 W3=>?_⟩
 obtain ⟨F3,_,O3⟩:=F2.kept U3
 have s02:=s1.trans s2
 refine q r3 d3 g3 us3 os3 _ _ bs1 H3 (s02.free nr) (s02.free nd) (s02.free ng) dg (s02.trans s3) W3 F3 (B2.keptB F2.ok F2.zo U3) (O3.trans (O2.trans O1)) (fun j h1 h2=>kept_all_rchB F2.ok U3 h2 h1) U1 (Nat.le_trans ?_ L2')
 have:=keptD_len bs3 n es 0
 have k2:=keptN_le bs3 n es.length
 rw [Nat.zero_add] at this
 have k0:keptN bs3 n 0=0:=rfl
 omega
end
section
variable {P:Program}{w:World}{K:PySem.W.Frag}{mg:Str -> Option Value}{base:Heap}
theorem ok_shared (T:Txt K mg):Cal P w K mg base 7 "shared" ["numbers"] (spShared K):=by
 have B:=T.bl
 have C_by_signs:=(ok_by (P:=P) (w:=w) (base:=base) T).mono (k:=6) (by decide)
 have C_bare:=ok_bare (P:=P) (w:=w) (base:=base) T
 refine mkCal T.t_shared sc_shared (fun vs H Q E h=>?_) (fun f cdv A outer s H vs Q E hr h=>?_)
 ·obtain ⟨a,xs,rfl,_⟩:=h
  rfl
 obtain ⟨a,xs,rfl,ha,hl,hb,q⟩:=h
 refine ⟨_,((@pss_one _ _ _ (@ps_ret _ _ _ _ (@pe_cal _ _ _ _ _ _ _ _ _ _ C_bare hr rfl (@pa_cons _ _ _ _ _ (@pe_cal _ _ _ _ _ _ _ _ _ _ C_by_signs hr rfl (@pa_cons _ _ _ _ _ (pv 0) pa_nil (by rfl)) (by decide) (by rfl) (by rfl)) pa_nil (by rfl)) (by decide) (by rfl) (by rfl))))),?_⟩
 rw [show start ["numbers"] [.ref a]=[some (.ref a)] from rfl]
 try walk_at "WP"
 refine ⟨a,xs,rfl,ha,hl,fun x hx=>Nat.lt_trans (hb x hx) (by decide),fun t dl ol ds H1 s1 nt nd no R hc=>?_⟩
 have c40:=cost40 hl hb
 obtain ⟨us,os,gs,W,BW,O⟩:=R.web (by omega) (by omega)
 try walk_at "WP"
 refine ⟨t,dl,ol,1,us,_,os,gs,rfl,W,BW,fun r dl' gl' us' os' es gs' bs H' nr nd' ng dg s' W' F' B' O' R' U' L'=>?_⟩
 try walk_at "WP"
 have kl:=keptD_le bs 1 (ds.map toW)
 rw [qC] at kl
 exact q r dl' gl' us' os' es gs' H' (s1.free nr) (s1.free nd') (s1.free ng) dg (s1.trans s') W' F' B' (O'.trans O) R' (by omega)
end
section
variable {P:Program}{w:World}{K:PySem.W.Frag}{mg:Str -> Option Value}{base:Heap}
theorem ok_lshW (T:Txt K mg):Cal P w K mg base 2 "_law_shifted" ["_law_number","_law_shift"] spLShW:=by
 have B:=T.bl
 have C_l_whole:=ok_whole (P:=P) (w:=w) (base:=base) T
 refine mkCal T.t_l_shifted sc_l_shifted (fun vs H Q E h=>?_) (fun f cdv A outer s H vs Q E hr h=>?_)
 ·obtain ⟨n,s,rfl,_⟩:=h
  rfl
 obtain ⟨n,sh,rfl,h0,h1,hb,hd,q⟩:=h
 refine ⟨_,((@pss_cons _ _ _ _ _ (@ps_if _ _ _ _ _ _ _ _ (@PW.pt _ _ _ (@pw_or _ _ _ _ _ _ _ (@pt_not _ _ _ _ (@pt_val _ _ _ (@pe_cal _ _ _ _ _ _ _ _ _ _ C_l_whole hr rfl (@pa_cons _ _ _ _ _ (pv 1) pa_nil (by rfl)) (by decide) (by rfl) (by rfl)) (by intro _ ; rfl))) (@pw_or1 _ _ _ _ (@pt_not _ _ _ _ (@pt_chain _ _ _ _ _ _ _ _ _ _ _ _ op_le op_le (@pe_un _ _ _ _ _ _ un_neg pe_int) (pv 1) pe_int (by with_unfolding_all rfl)))))) (@pss_one _ _ _ (@ps_ret _ _ _ _ pe_non)) pss_nil) (@pss_cons _ _ _ _ _ (@ps_if _ _ _ _ _ _ _ _ (@pt_cmpR _ _ _ _ _ _ _ _ op_ge (pv 1) pe_int (@nomark _ _ (by decide) (by decide))) (@pss_one _ _ _ (@ps_ret _ _ _ _ (@pe_op _ _ _ _ _ _ _ _ op_mulB (pv 0) (@pe_op _ _ _ _ _ _ _ _ op_shlB pe_int (pv 1))))) pss_nil) (@pss_cons _ _ _ _ _ (@ps_if _ _ _ _ _ _ _ _ (@pt_cmpR _ _ _ _ _ _ _ _ op_ne (@pe_op _ _ _ _ _ _ _ _ op_mod (pv 0) (@pe_op _ _ _ _ _ _ _ _ op_shlB pe_int (@pe_op _ _ _ _ _ _ _ _ op_sub pe_int (pv 1)))) pe_int (@nomark _ _ (by decide) (by decide))) (@pss_one _ _ _ (@ps_ret _ _ _ _ pe_non)) pss_nil) (@pss_one _ _ _ (@ps_ret _ _ _ _ (@pe_op _ _ _ _ _ _ _ _ op_fdivB (pv 0) (@pe_op _ _ _ _ _ _ _ _ op_shlB pe_int (@pe_op _ _ _ _ _ _ _ _ op_sub pe_int (pv 1)))))))))),?_⟩
 rw [show start ["_law_number","_law_shift"] [.int n,.int sh]=[some (.int n),some (.int sh)] from rfl]
 try walk_at "WP"
 refine ⟨sh,rfl,?_⟩
 try walk_at "WP"
 rw [if_pos h0]
 try walk_at "WP"
 rw [if_neg (show ¬ ¬ sh <= 4000 by omega)]
 by_cases c:0 <= sh
 ·rw [if_pos c,Int.one_mul]
  rw [mvI_up c] at q
  exact ⟨⟨c,by omega⟩,mul_b (m:=9000) (n:=4001) hb (by rw [Int.natAbs_pow]; exact Nat.pow_lt_pow_right (by decide) (by omega)) (by decide),q⟩
 ·rw [if_neg c,show (0 - sh) = -sh by omega,Int.one_mul,if_neg (fun z=>z (Int.emod_eq_zero_of_dvd (hd (by omega))))]
  rw [mvI_down (by omega)] at q
  exact ⟨⟨by omega,by omega⟩,pow_pos2 _,⟨by omega,by omega⟩,divBig (pow_pos2 _) (by rw [Int.natAbs_pow]; exact Nat.pow_lt_pow_right (by decide) (by omega)),q⟩
theorem ok_isth (T:Txt K mg):Cal P w K mg base 2 "_law_is_thing" ["_law_thing","_law_some"] spIsTh:=by
 have B:=T.bl
 have C_l_whole:=ok_whole (P:=P) (w:=w) (base:=base) T
 refine mkCal T.t_l_is_thing sc_l_is_thing (fun vs H Q E h=>?_) (fun f cdv A outer s H vs Q E hr h=>?_)
 ·obtain ⟨k,l,us,rfl,_⟩:=h
  rfl
 obtain ⟨k,l,us,rfl,hl,h0,h1,q⟩:=h
 refine ⟨_,((@pss_one _ _ _ (@ps_ret _ _ _ _ (@pe_and _ _ _ _ _ _ _ (@pe_cal _ _ _ _ _ _ _ _ _ _ C_l_whole hr rfl (@pa_cons _ _ _ _ _ (pv 0) pa_nil (by rfl)) (by decide) (by rfl) (by rfl)) (@pe_one _ _ _ _ _ (@pe_chain _ _ _ _ _ _ _ _ _ _ _ _ op_le op_lt pe_int (pv 0) (@pe_callB _ _ _ _ _ _ _ _ _ call_lenM rfl B.len bo_len (@pa_cons _ _ _ _ _ (pv 1) pa_nil (by rfl)) (by decide) (by decide) (by rfl) (by rfl)) (by with_unfolding_all rfl))))))),?_⟩
 rw [show start ["_law_thing","_law_some"] [.int k,.ref l]=[some (.int k),some (.ref l)] from rfl]
 try walk_at "WP"
 refine ⟨k,rfl,?_⟩
 (iterate 5 ((try (walk_at "WP")); (try (simp only [hl,qJs,qJt,qJl,qJd,exists_eq_left',exists_eq_left])))); (try (walk_at "WP"))
 rw [if_pos h0]
 (iterate 5 ((try (walk_at "WP")); (try (simp only [hl,qJs,qJt,qJl,qJd,exists_eq_left',exists_eq_left])))); (try (walk_at "WP"))
 rw [show decide (k < (us.length:Int))=true from decide_eq_true h1]
 exact q
theorem ok_ldeedW (T:Txt K mg):Cal P w K mg base 3 "_law_deed" ["_law_deed_here","_law_some"] spLDeedW:=by
 have B:=T.bl
 have C_l_is_thing:=ok_isth (P:=P) (w:=w) (base:=base) T
 have C_l_shifted:=ok_lshW (P:=P) (w:=w) (base:=base) T
 refine mkCal T.t_l_deed sc_l_deed (fun vs H Q E h=>?_) (fun f cdv A outer s H vs Q E hr h=>?_)
 ·obtain ⟨x,l,d,ns,rfl,_⟩:=h
  rfl
 obtain ⟨x,l,d,ns,rfl,hx,hl,hw,ha,hb,sa,sb,bd,q⟩:=h
 unfold wTup at hx
 have ea:=qA ha
 have eb:=qA hb
 have ma:=bd _ (qE ea)
 have mb:=bd _ (qE eb)
 rw [← getD_of (d:=0) ea] at ma
 rw [← getD_of (d:=0) eb] at mb
 have hat1:atI (ns.map V.int) (d.a:Int)=some (.int (ns.getD d.a 0)):=atI_nat (by rw [qI,ea,getD_of ea]; rfl)
 have hat0:atI (ns.map V.int) (d.b:Int)=some (.int (ns.getD d.b 0)):=atI_nat (by rw [qI,eb,getD_of eb]; rfl)
 refine ⟨_,((@pss_cons _ _ _ _ _ (@ps_if _ _ _ _ _ _ _ _ (@PW.pt _ _ _ (@pw_or _ _ _ _ _ _ _ (@pt_not _ _ _ _ (@pt_val _ _ _ (@pe_callB _ _ _ _ _ _ _ _ _ call_isI rfl B.isinstance bo_isinstance (@pa_cons _ _ _ _ _ (pv 0) (@pa_cons _ _ _ _ _ (@pe_bltn _ _ (.ty "tuple") _ _ rfl B.tuple bo_tuple rfl (by decide) (by decide)) pa_nil (by rfl)) (by rfl)) (by decide) (by decide) (by rfl) (by rfl)) (by intro _ ; rfl))) (@pw_or _ _ _ _ _ _ _ (@pt_cmpR _ _ _ _ _ _ _ _ op_ne (@pe_callB _ _ _ _ _ _ _ _ _ call_lenU rfl B.len bo_len (@pa_cons _ _ _ _ _ (pv 0) pa_nil (by rfl)) (by decide) (by decide) (by rfl) (by rfl)) pe_int (@nomark _ _ (by decide) (by decide))) (@pw_or1 _ _ _ _ (@pt_cmpR _ _ _ _ _ _ _ _ op_notIn_seq (@pe_ix _ _ _ _ _ _ _ ix_U (pv 0) pe_int (fun _ _=>rfl)) (@pe_tup _ _ _ _ _ (@pa_cons _ _ _ _ _ pe_str (@pa_cons _ _ _ _ _ pe_str pa_nil (by rfl)) (by rfl))) (by with_unfolding_all rfl)))))) (@pss_one _ _ _ (@ps_ret _ _ _ _ pe_non)) pss_nil) (@pss_cons _ _ _ _ _ (@ps_if _ _ _ _ _ _ _ _ (@PW.pt _ _ _ (@pw_or _ _ _ _ _ _ _ (@pt_not _ _ _ _ (@pt_val _ _ _ (@pe_cal _ _ _ _ _ _ _ _ _ _ C_l_is_thing hr rfl (@pa_cons _ _ _ _ _ (@pe_ix _ _ _ _ _ _ _ ix_U (pv 0) pe_int (fun _ _=>rfl)) (@pa_cons _ _ _ _ _ (pv 1) pa_nil (by rfl)) (by rfl)) (by decide) (by rfl) (by rfl)) (by intro _ ; rfl))) (@pw_or1 _ _ _ _ (@pt_not _ _ _ _ (@pt_val _ _ _ (@pe_cal _ _ _ _ _ _ _ _ _ _ C_l_is_thing hr rfl (@pa_cons _ _ _ _ _ (@pe_ix _ _ _ _ _ _ _ ix_U (pv 0) pe_int (fun _ _=>rfl)) (@pa_cons _ _ _ _ _ (pv 1) pa_nil (by rfl)) (by rfl)) (by decide) (by rfl) (by rfl)) (by intro _ ; rfl)))))) (@pss_one _ _ _ (@ps_ret _ _ _ _ pe_non)) pss_nil) (@pss_cons _ _ _ _ _ (@ps_set _ _ (2) _ _ _ _ sc_l_deed.nd rfl (by walk_at "o") (@pe_cal _ _ _ _ _ _ _ _ _ _ C_l_shifted hr rfl (@pa_cons _ _ _ _ _ (@pe_ix _ _ _ _ _ _ _ ix_M (pv 1) (@pe_ix _ _ _ _ _ _ _ ix_U (pv 0) pe_int (fun _ _=>rfl)) (fun _ _=>rfl)) (@pa_cons _ _ _ _ _ (@pe_ix _ _ _ _ _ _ _ ix_U (pv 0) pe_int (fun _ _=>rfl)) pa_nil (by rfl)) (by rfl)) (by decide) (by rfl) (by rfl)) (by rfl) (by walk_at "o")) (@pss_cons _ _ _ _ _ (@ps_set _ _ (3) _ _ _ _ sc_l_deed.nd rfl (by walk_at "o") (@pe_cal _ _ _ _ _ _ _ _ _ _ C_l_shifted hr rfl (@pa_cons _ _ _ _ _ (@pe_ix _ _ _ _ _ _ _ ix_M (pv 1) (@pe_ix _ _ _ _ _ _ _ ix_U (pv 0) pe_int (fun _ _=>rfl)) (fun _ _=>rfl)) (@pa_cons _ _ _ _ _ (@pe_ix _ _ _ _ _ _ _ ix_U (pv 0) pe_int (fun _ _=>rfl)) pa_nil (by rfl)) (by rfl)) (by decide) (by rfl) (by rfl)) (by rfl) (by walk_at "o")) (@pss_cons _ _ _ _ _ (@ps_if _ _ _ _ _ _ _ _ (@PW.pt _ _ _ (@pw_or _ _ _ _ _ _ _ (@pt_cmp _ _ _ _ _ _ (@pc_isN _ _ _ _ _ (pv 2)) (by first | exact nobehind _ ( by decide ) ( by decide ) | rfl)) (@pw_or1 _ _ _ _ (@pt_cmp _ _ _ _ _ _ (@pc_isN _ _ _ _ _ (pv 3)) (by first | exact nobehind _ ( by decide ) ( by decide ) | rfl))))) (@pss_one _ _ _ (@ps_ret _ _ _ _ pe_non)) pss_nil) (@pss_one _ _ _ (@ps_ret _ _ _ _ (@pe_op _ _ _ _ _ _ _ _ op_add (pv 2) (@pe_op _ _ _ _ _ _ _ _ op_mulB (pv 3) (@pe_ix _ _ _ _ _ _ _ ix_M (@pe_lst _ _ _ _ (@pa_cons _ _ _ _ _ (@pe_un _ _ _ _ _ _ un_neg pe_int) (@pa_cons _ _ _ _ _ pe_int pa_nil (by rfl)) (by rfl))) (@pe_callTy _ _ _ _ _ _ _ _ _ call_int1 rfl B.int bo_int (@pa_cons _ _ _ _ _ (@pe_cmpR _ _ _ _ _ _ _ _ op_eq (@pe_ix _ _ _ _ _ _ _ ix_U (pv 0) pe_int (fun _ _=>rfl)) pe_str (@nomark _ _ (by decide) (by decide))) pa_nil (by rfl)) (by decide) (by decide) (by rfl) (by rfl)) (fun _ _=>rfl)))))))))))),?_⟩
 rw [show start ["_law_deed_here","_law_some","_law_one","_law_other"] [.ref x,.ref l]=[some (.ref x),some (.ref l),none,none] from rfl]
 (iterate 5 ((try (walk_at "WP")); (try (simp only [hx,qJs,qJt,qJl,qJd,exists_eq_left',exists_eq_left])))); (try (walk_at "WP"))
 rw [isI_tt hx]
 (iterate 5 ((try (walk_at "WP")); (try (simp only [hx,qJs,qJt,qJl,qJd,exists_eq_left',exists_eq_left])))); (try (walk_at "WP"))
 intro t ht
 have st:=same_new ht (.tup [V.str "sum",V.str "less"])
 refine in_tup (upd_same) rfl rfl ?_
 have hin:(if true then !inV (.str d.w) [V.str "sum",V.str "less"] else inV (.str d.w) [V.str "sum",V.str "less"])=false:=by
  rcases hw with e | e <;> rw [e] <;> decide
 rw [hin]
 have hx1:=st _ _ hx
 have hl1:=st _ _ hl
 generalize upd H t (.tup [V.str "sum",V.str "less"])=H1 at st hx1 hl1 ⊢
 (iterate 5 ((try (walk_at "WP")); (try (simp only [hx1,qJs,qJt,qJl,qJd,exists_eq_left',exists_eq_left])))); (try (walk_at "WP"))
 refine ⟨d.a,l,_,rfl,hl1,by omega,by rw [qC]; omega,?_⟩
 (iterate 5 ((try (walk_at "WP")); (try (simp only [hx1,qJs,qJt,qJl,qJd,exists_eq_left',exists_eq_left])))); (try (walk_at "WP"))
 refine ⟨d.b,l,_,rfl,hl1,by omega,by rw [qC]; omega,?_⟩
 (iterate 5 ((try (walk_at "WP")); (try (simp only [hx1,hl1,qJs,qJt,qJl,qJd,exists_eq_left',exists_eq_left])))); (try (walk_at "WP"))
 refine ⟨_,hat1,?_⟩
 refine ⟨_,d.s,rfl,sa.1,sa.2.1,ma,sa.2.2,?_⟩
 (iterate 5 ((try (walk_at "WP")); (try (simp only [hx1,hl1,qJs,qJt,qJl,qJd,exists_eq_left',exists_eq_left])))); (try (walk_at "WP"))
 refine ⟨_,hat0,_,rfl,?_⟩
 refine ⟨_,d.t,rfl,sb.1,sb.2.1,mb,sb.2.2,?_⟩
 (iterate 5 ((try (walk_at "WP")); (try (simp only [hx1,hl1,qJs,qJt,qJl,qJd,exists_eq_left',exists_eq_left])))); (try (walk_at "WP"))
 intro t2 ht2
 have st2:=same_new ht2 (.lst [V.int (-1),V.int 1])
 have hx2:=st2 _ _ hx1
 have ht3:upd H1 t2 (.lst [V.int (-1),V.int 1]) t2=some (.lst [V.int (-1),V.int 1]):=upd_same
 generalize upd H1 t2 (.lst [V.int (-1),V.int 1])=H2 at st2 hx2 ht3 ⊢
 have hsl:¬ ("less" : Str) = "sum":=by decide
 refine ⟨_,hx2,_,rfl,?_⟩
 try walk_at "WP"
 refine ⟨_,ht3,?_⟩
 have q':=q H2 (st.trans st2)
 rw [Int.mul_comm (sgW d.w)] at q'
 rcases hw with e | e
 ·rw [e] at q' ⊢
  refine ⟨V.int 1,by rw [if_pos rfl]; rfl,?_⟩
  try walk_at "WP"
  exact ⟨mul_r (by decide) (by decide),q'⟩
 ·rw [e] at q' ⊢
  rw [if_neg hsl]
  refine ⟨V.int (-1),rfl,?_⟩
  try walk_at "WP"
  exact ⟨mul_r (by decide) (by decide),q'⟩
theorem ok_loutW (T:Txt K mg):Cal P w K mg base 3 "_law_out" ["_law_out_here","_law_some"] spLOutW:=by
 have B:=T.bl
 have C_l_whole:=(ok_whole (P:=P) (w:=w) (base:=base) T).mono (k:=2) (by decide)
 have C_l_is_thing:=ok_isth (P:=P) (w:=w) (base:=base) T
 have C_l_shifted:=ok_lshW (P:=P) (w:=w) (base:=base) T
 refine mkCal T.t_l_out sc_l_out (fun vs H Q E h=>?_) (fun f cdv A outer s H vs Q E hr h=>?_)
 ·obtain ⟨x,l,g,ns,rfl,_⟩:=h
  rfl
 obtain ⟨x,l,g,ns,rfl,hx,hl,ho,hb,q⟩:=h
 refine ⟨_,((@pss_cons _ _ _ _ _ (@ps_if _ _ _ _ _ _ _ _ (@PW.pt _ _ _ (@pw_or _ _ _ _ _ _ _ (@pt_not _ _ _ _ (@pt_val _ _ _ (@pe_callB _ _ _ _ _ _ _ _ _ call_isI rfl B.isinstance bo_isinstance (@pa_cons _ _ _ _ _ (pv 0) (@pa_cons _ _ _ _ _ (@pe_bltn _ _ (.ty "tuple") _ _ rfl B.tuple bo_tuple rfl (by decide) (by decide)) pa_nil (by rfl)) (by rfl)) (by decide) (by decide) (by rfl) (by rfl)) (by intro _ ; rfl))) (@pw_or _ _ _ _ _ _ _ (@pt_cmpR _ _ _ _ _ _ _ _ op_ne (@pe_callB _ _ _ _ _ _ _ _ _ call_lenU rfl B.len bo_len (@pa_cons _ _ _ _ _ (pv 0) pa_nil (by rfl)) (by decide) (by decide) (by rfl) (by rfl)) pe_int (@nomark _ _ (by decide) (by decide))) (@pw_or1 _ _ _ _ (@pt_not _ _ _ _ (@pt_val _ _ _ (@pe_callB _ _ _ _ _ _ _ _ _ (@call_all _ rfl) rfl B.all bo_all (@pa_cons _ _ _ _ _ (@pe_comp0 _ _ _ _ _ _ _ _ (["_law_part"]) (1) ([]) _ _ _ rfl (@pi_tup _ _ _ _ (pv 0)) (fun nd C s H fp=>⟨(@pg_name _ _ (0) _ nd rfl (by walk_at "o") (by walk_at "o")),pn_nil,(@pe_cal _ _ _ _ _ _ _ _ _ _ C_l_whole hr rfl (@pa_cons _ _ _ _ _ (pv 0) pa_nil (by rfl)) (by decide) (by rfl) (by rfl))⟩) (by decide +kernel) (by first | rfl | decide +kernel) (by first | rfl | decide +kernel) rfl (fun _=>rfl)) pa_nil (by rfl)) (by decide) (by decide) (by rfl) (by rfl)) (by intro _ ; rfl))))))) (@pss_one _ _ _ (@ps_ret _ _ _ _ pe_non)) pss_nil) (@pss_cons _ _ _ _ _ (@ps_if _ _ _ _ _ _ _ _ (@pt_cmpR _ _ _ _ _ _ _ _ (@op_eqD _ _ hr) (pv 0) (@pe_tup _ _ _ _ _ (@pa_cons _ _ _ _ _ pe_int (@pa_cons _ _ _ _ _ pe_int (@pa_cons _ _ _ _ _ pe_int pa_nil (by rfl)) (by rfl)) (by rfl))) (@nomark _ _ (by decide) (by decide))) (@pss_one _ _ _ (@ps_ret _ _ _ _ pe_int)) pss_nil) (@pss_cons _ _ _ _ _ (@ps_if _ _ _ _ _ _ _ _ (@PW.pt _ _ _ (@pw_or _ _ _ _ _ _ _ (@pt_not _ _ _ _ (@pt_val _ _ _ (@pe_cal _ _ _ _ _ _ _ _ _ _ C_l_is_thing hr rfl (@pa_cons _ _ _ _ _ (@pe_ix _ _ _ _ _ _ _ ix_U (pv 0) pe_int (fun _ _=>rfl)) (@pa_cons _ _ _ _ _ (pv 1) pa_nil (by rfl)) (by rfl)) (by decide) (by rfl) (by rfl)) (by intro _ ; rfl))) (@pw_or _ _ _ _ _ _ _ (@pt_cmpR _ _ _ _ _ _ _ _ op_notIn_seq (@pe_ix _ _ _ _ _ _ _ ix_U (pv 0) pe_int (fun _ _=>rfl)) (@pe_tup _ _ _ _ _ (@pa_cons _ _ _ _ _ (@pe_un _ _ _ _ _ _ un_neg pe_int) (@pa_cons _ _ _ _ _ pe_int pa_nil (by rfl)) (by rfl))) (by with_unfolding_all rfl)) (@pw_or1 _ _ _ _ (@pt_cmp _ _ _ _ _ _ (@pc_isN _ _ _ _ _ (@pe_cal _ _ _ _ _ _ _ _ _ _ C_l_shifted hr rfl (@pa_cons _ _ _ _ _ (@pe_ix _ _ _ _ _ _ _ ix_M (pv 1) (@pe_ix _ _ _ _ _ _ _ ix_U (pv 0) pe_int (fun _ _=>rfl)) (fun _ _=>rfl)) (@pa_cons _ _ _ _ _ (@pe_ix _ _ _ _ _ _ _ ix_U (pv 0) pe_int (fun _ _=>rfl)) pa_nil (by rfl)) (by rfl)) (by decide) (by rfl) (by rfl))) (by first | exact nobehind _ ( by decide ) ( by decide ) | rfl)))))) (@pss_one _ _ _ (@ps_ret _ _ _ _ pe_non)) pss_nil) (@pss_one _ _ _ (@ps_ret _ _ _ _ (@pe_op _ _ _ _ _ _ _ _ op_mulB (@pe_cal _ _ _ _ _ _ _ _ _ _ C_l_shifted hr rfl (@pa_cons _ _ _ _ _ (@pe_ix _ _ _ _ _ _ _ ix_M (pv 1) (@pe_ix _ _ _ _ _ _ _ ix_U (pv 0) pe_int (fun _ _=>rfl)) (fun _ _=>rfl)) (@pa_cons _ _ _ _ _ (@pe_ix _ _ _ _ _ _ _ ix_U (pv 0) pe_int (fun _ _=>rfl)) pa_nil (by rfl)) (by rfl)) (by decide) (by rfl) (by rfl)) (@pe_ix _ _ _ _ _ _ _ ix_U (pv 0) pe_int (fun _ _=>rfl))))))))),?_⟩
 rw [show start ["_law_out_here","_law_some"] [.ref x,.ref l]=[some (.ref x),some (.ref l)] from rfl]
 unfold gTp at hx
 (iterate 5 ((try (walk_at "WP")); (try (simp only [hx,qJs,qJt,qJl,qJd,exists_eq_left',exists_eq_left])))); (try (walk_at "WP"))
 rw [isI_tt hx]
 (iterate 5 ((try (walk_at "WP")); (try (simp only [hx,qJs,qJt,qJl,qJd,exists_eq_left',exists_eq_left])))); (try (walk_at "WP"))
 rw [if_neg (show ¬ ¬ (((0+1+1+1:Nat):Int)=3) by decide)]
 have hx0:=SqT.of (K:=K) hx
 refine ⟨⟨_,hx0⟩,?_⟩
 refine comp_T (f:=fun _=>some (.bl true)) hx0 (le_big (by show 3 <= 100000; decide)) (fun y H' R hy hS' hR=>?_) (fun acc hacc=>?_)
 ·have hi:∃ i,y = .int i:=by
   simp only [List.mem_cons,List.not_mem_nil,or_false] at hy
   rcases hy with e | e | e
   ·exact ⟨_,e⟩
   ·exact ⟨_,e⟩
   ·exact ⟨_,e⟩
  obtain ⟨i,rfl⟩:=hi
  try walk_at "WP"
  exact ⟨i,rfl,hR⟩
 have sa:=same_new hacc (.lst ([V.int (g.th:Int),V.int g.sh,V.int g.sg].filterMap fun _=>some (V.bl true)))
 have hac:upd H acc (.lst ([V.int (g.th:Int),V.int g.sh,V.int g.sg].filterMap fun _=>some (V.bl true))) acc=some (.lst ([true,true,true].map V.bl)):=upd_same
 generalize upd H acc (.lst ([V.int (g.th:Int),V.int g.sh,V.int g.sg].filterMap fun _=>some (V.bl true)))=H1 at sa hac ⊢
 refine ⟨acc,[true,true,true],rfl,hac,?_⟩
 try walk_at "WP"
 intro z hz
 have sz:=same_new hz (.tup [V.int 0,V.int 0,V.int 0])
 have S2:=sa.trans sz
 refine eqTI (ns:=[(g.th:Int),g.sh,g.sg]) (ms:=[0,0,0]) (S2.seqT hx0) (SqT.of upd_same) ?_
 have hx2:=S2 _ _ hx
 have hl2:=S2 _ _ hl
 generalize upd H1 z (.tup [V.int 0,V.int 0,V.int 0])=H2 at S2 hx2 hl2 ⊢
 try walk_at "WP"
 rcases ho with e | ⟨hc,hk,sk⟩
 ·rw [e]
  rw [if_pos ⟨rfl,rfl,rfl⟩]
  rw [e,show (⟨0,0,0⟩:Go).sg=0 from rfl] at q
  have:=q _ S2
  rw [Int.zero_mul] at this
  exact this
 have hne:¬ ((g.th:Int)=0 /\ g.sh=0 /\ g.sg=0):=by omega
 rw [if_neg hne]
 have ek:=qA hk
 have hmb:=hb _ (qE ek)
 rw [← getD_of (d:=0) ek] at hmb
 have hatk:atI (ns.map V.int) (g.th:Int)=some (.int (ns.getD g.th 0)):=atI_nat (by rw [qI,ek,getD_of ek]; rfl)
 refine ⟨_,hx2,_,rfl,?_⟩
 refine ⟨g.th,l,_,rfl,hl2,by omega,by rw [qC]; omega,?_⟩
 try walk_at "WP"
 refine ⟨_,hx2,_,rfl,fun t ht=>?_⟩
 have st:=same_new ht (.tup [V.int (-1),V.int 1])
 refine in_tup upd_same rfl rfl ?_
 have hin:(if true then !inV (V.int g.sg) [V.int (-1),V.int 1] else inV (V.int g.sg) [V.int (-1),V.int 1])=false:=by
  rcases hc with e | e <;> rw [e] <;> decide
 rw [hin]
 have S3:=S2.trans st
 have hx3:=st _ _ hx2
 have hl3:=st _ _ hl2
 generalize upd H2 t (.tup [V.int (-1),V.int 1])=H3 at S3 hx3 hl3 ⊢
 try walk_at "WP"
 refine ⟨_,hx3,_,rfl,?_⟩
 (iterate 5 ((try (walk_at "WP")); (try (simp only [hl3,qJs,qJt,qJl,qJd,exists_eq_left',exists_eq_left])))); (try (walk_at "WP"))
 refine ⟨_,hatk,_,hx3,_,rfl,?_⟩
 refine ⟨_,g.sh,rfl,sk.1,sk.2.1,hmb,sk.2.2,?_⟩
 try walk_at "WP"
 refine ⟨_,hx3,_,rfl,?_⟩
 (iterate 5 ((try (walk_at "WP")); (try (simp only [hl3,qJs,qJt,qJl,qJd,exists_eq_left',exists_eq_left])))); (try (walk_at "WP"))
 refine ⟨_,hatk,_,hx3,_,rfl,?_⟩
 refine ⟨_,g.sh,rfl,sk.1,sk.2.1,hmb,sk.2.2,?_⟩
 try walk_at "WP"
 refine ⟨_,hx3,_,rfl,?_⟩
 try walk_at "WP"
 refine ⟨mul_r (by omega) (by omega),?_⟩
 rw [Int.mul_comm]
 exact q _ S3
theorem ok_walkedW (T:Txt K mg):Cal P w K mg base 4 "_law_walked" ["_law_web"] spWalkedW:=by
 have B:=T.bl
 have C_l_whole:=(ok_whole (P:=P) (w:=w) (base:=base) T).mono (k:=3) (by decide)
 have C_l_deed:=ok_ldeedW (P:=P) (w:=w) (base:=base) T
 have C_l_out:=ok_loutW (P:=P) (w:=w) (base:=base) T
 refine mkCal T.t_l_walked sc_l_walked (fun vs H Q E h=>?_) (fun f cdv A outer s H vs Q E hr h=>?_)
 ·obtain ⟨t,dl,gl,us,os,es,gs,xs,rfl,_⟩:=h
  rfl
 obtain ⟨t,dl,gl,us,os,es,gs,xs,rfl,W,F,O,q⟩:=h
 have ht:=W.tup
 have gl12:=F.ok.gl
 have dl4:=F.ok.dl
 refine ⟨_,((@pss_cons _ _ _ _ _ (@ps_if _ _ _ _ _ _ _ _ (@PW.pt _ _ _ (@pw_or _ _ _ _ _ _ _ (@pt_not _ _ _ _ (@pt_val _ _ _ (@pe_callB _ _ _ _ _ _ _ _ _ call_isI rfl B.isinstance bo_isinstance (@pa_cons _ _ _ _ _ (pv 0) (@pa_cons _ _ _ _ _ (@pe_bltn _ _ (.ty "tuple") _ _ rfl B.tuple bo_tuple rfl (by decide) (by decide)) pa_nil (by rfl)) (by rfl)) (by decide) (by decide) (by rfl) (by rfl)) (by intro _ ; rfl))) (@pw_or _ _ _ _ _ _ _ (@pt_cmpR _ _ _ _ _ _ _ _ op_ne (@pe_callB _ _ _ _ _ _ _ _ _ call_lenU rfl B.len bo_len (@pa_cons _ _ _ _ _ (pv 0) pa_nil (by rfl)) (by decide) (by decide) (by rfl) (by rfl)) pe_int (@nomark _ _ (by decide) (by decide))) (@pw_or _ _ _ _ _ _ _ (@pt_not _ _ _ _ (@pt_val _ _ _ (@pe_cal _ _ _ _ _ _ _ _ _ _ C_l_whole hr rfl (@pa_cons _ _ _ _ _ (@pe_ix _ _ _ _ _ _ _ ix_U (pv 0) pe_int (fun _ _=>rfl)) pa_nil (by rfl)) (by decide) (by rfl) (by rfl)) (by intro _ ; rfl))) (@pw_or1 _ _ _ _ (@pt_cmpR _ _ _ _ _ _ _ _ op_ne (@pe_ix _ _ _ _ _ _ _ ix_U (pv 0) pe_int (fun _ _=>rfl)) pe_int (@nomark _ _ (by decide) (by decide)))))))) (@pss_one _ _ _ (@ps_ret _ _ _ _ pe_non)) pss_nil) (@pss_cons _ _ _ _ _ (@ps_if _ _ _ _ _ _ _ _ (@PW.pt _ _ _ (@pw_or _ _ _ _ _ _ _ (@pt_not _ _ _ _ (@pt_val _ _ _ (@pe_callB _ _ _ _ _ _ _ _ _ call_isI rfl B.isinstance bo_isinstance (@pa_cons _ _ _ _ _ (@pe_ix _ _ _ _ _ _ _ ix_U (pv 0) pe_int (fun _ _=>rfl)) (@pa_cons _ _ _ _ _ (@pe_bltn _ _ (.ty "list") _ _ rfl B.list bo_list rfl (by decide) (by decide)) pa_nil (by rfl)) (by rfl)) (by decide) (by decide) (by rfl) (by rfl)) (by intro _ ; rfl))) (@pw_or _ _ _ _ _ _ _ (@pt_not _ _ _ _ (@pt_val _ _ _ (@pe_callB _ _ _ _ _ _ _ _ _ call_isI rfl B.isinstance bo_isinstance (@pa_cons _ _ _ _ _ (@pe_ix _ _ _ _ _ _ _ ix_U (pv 0) pe_int (fun _ _=>rfl)) (@pa_cons _ _ _ _ _ (@pe_bltn _ _ (.ty "list") _ _ rfl B.list bo_list rfl (by decide) (by decide)) pa_nil (by rfl)) (by rfl)) (by decide) (by decide) (by rfl) (by rfl)) (by intro _ ; rfl))) (@pw_or1 _ _ _ _ (@pt_cmpR _ _ _ _ _ _ _ _ op_gt (@pe_callB _ _ _ _ _ _ _ _ _ call_lenM rfl B.len bo_len (@pa_cons _ _ _ _ _ (@pe_ix _ _ _ _ _ _ _ ix_U (pv 0) pe_int (fun _ _=>rfl)) pa_nil (by rfl)) (by decide) (by decide) (by rfl) (by rfl)) pe_int (@nomark _ _ (by decide) (by decide))))))) (@pss_one _ _ _ (@ps_ret _ _ _ _ pe_non)) pss_nil) (@pss_cons _ _ _ _ _ (@ps_set _ _ (1) _ _ _ _ sc_l_walked.nd rfl (by walk_at "o") (@pe_lst _ _ _ _ (@pa_cons _ _ _ _ _ pe_int pa_nil (by rfl))) (by rfl) (by walk_at "o")) (@pss_cons _ _ _ _ _ (@ps_for _ _ _ _ _ _ _ _ PassesOwn.never rfl (@pi_list _ _ _ _ (@pe_ix _ _ _ _ _ _ _ ix_U (pv 0) pe_int (fun _ _=>rfl))) (@pg_name _ _ (2) _ sc_l_walked.nd rfl (by walk_at "o") (by walk_at "o")) (@pss_cons _ _ _ _ _ (@ps_set _ _ (3) _ _ _ _ sc_l_walked.nd rfl (by walk_at "o") (@pe_cal _ _ _ _ _ _ _ _ _ _ C_l_deed hr rfl (@pa_cons _ _ _ _ _ (pv 2) (@pa_cons _ _ _ _ _ (pv 1) pa_nil (by rfl)) (by rfl)) (by decide) (by rfl) (by rfl)) (by rfl) (by walk_at "o")) (@pss_cons _ _ _ _ _ (@ps_if _ _ _ _ _ _ _ _ (@pt_cmp _ _ _ _ _ _ (@pc_isN _ _ _ _ _ (pv 3)) (by first | exact nobehind _ ( by decide ) ( by decide ) | rfl)) (@pss_one _ _ _ (@ps_ret _ _ _ _ pe_non)) pss_nil) (@pss_one _ _ _ (@ps_expr _ _ _ _ (@pe_bm _ _ _ _ _ _ _ _ _ _ _ _ PySem.F.plainAttrs_list PySem.F.slot_list_append PySem.F.type_list_append mt_append (pv 1) (@pa_cons _ _ _ _ _ (pv 3) pa_nil (by rfl)) (by rfl) (by rfl) (by rfl) (by rfl) (by rfl)) (by rfl))))) (by intro _ ; rfl)) (@pss_cons _ _ _ _ _ (@ps_setComp0 _ _ _ _ (4) _ _ _ _ _ _ _ (["_law_out_here","_law_some"]) (1) ([1]) _ _ _ rfl (@pi_list _ _ _ _ (@pe_ix _ _ _ _ _ _ _ ix_U (pv 0) pe_int (fun _ _=>rfl))) (fun nd C s H fp=>⟨(@pg_name _ _ (0) _ nd rfl (by walk_at "o") (by walk_at "o")),pn_nil,(@pe_cal _ _ _ _ _ _ _ _ _ _ C_l_out hr rfl (@pa_cons _ _ _ _ _ (pv 0) (@pa_cons _ _ _ _ _ (pv 1) pa_nil (by rfl)) (by rfl)) (by decide) (by rfl) (by rfl))⟩) (by decide +kernel) (by first | rfl | decide +kernel) (by first | rfl | decide +kernel) rfl (fun _=>rfl) sc_l_walked.nd rfl (by walk_at "o") (by walk_at "o") rfl) (@pss_cons _ _ _ _ _ (@ps_if _ _ _ _ _ _ _ _ (@pt_cmpR _ _ _ _ _ _ _ _ op_in_seq pe_non (pv 4) (by with_unfolding_all rfl)) (@pss_one _ _ _ (@ps_ret _ _ _ _ pe_non)) pss_nil) (@pss_one _ _ _ (@ps_ret _ _ _ _ (@pe_lst _ _ _ _ (@pa_cons _ _ _ _ _ (pv 1) (@pa_cons _ _ _ _ _ (pv 4) pa_nil (by rfl)) (by rfl)))))))))))),?_⟩
 rw [show start ["_law_web","_law_some","_law_deed_here","_law_number","_law_outs"] [.ref t]=[some (.ref t),none,none,none,none] from rfl]
 (iterate 5 ((try (walk_at "WP")); (try (simp only [ht,qJs,qJt,qJl,qJd,exists_eq_left',exists_eq_left])))); (try (walk_at "WP"))
 rw [isI_tt ht]
 (iterate 5 ((try (walk_at "WP")); (try (simp only [ht,qJs,qJt,qJl,qJd,exists_eq_left',exists_eq_left])))); (try (walk_at "WP"))
 refine ⟨1,rfl,?_⟩
 (iterate 5 ((try (walk_at "WP")); (try (simp only [ht,qJs,qJt,qJl,qJd,exists_eq_left',exists_eq_left])))); (try (walk_at "WP"))
 rw [isI_ll W.dll]
 (iterate 5 ((try (walk_at "WP")); (try (simp only [ht,qJs,qJt,qJl,qJd,exists_eq_left',exists_eq_left])))); (try (walk_at "WP"))
 rw [isI_ll W.gll]
 (iterate 5 ((try (walk_at "WP")); (try (simp only [ht,qJs,qJt,qJl,qJd,exists_eq_left',exists_eq_left])))); (try (walk_at "WP"))
 refine ⟨_,W.gll,?_⟩
 rw [if_neg (by rw [W.hgs.len]; omega)]
 try walk_at "WP"
 intro s0 hs0
 have ss:=same_new hs0 (.lst [V.int 1])
 have ht1:=ss _ _ ht
 (iterate 5 ((try (walk_at "WP")); (try (simp only [ht1,qJs,qJt,qJl,qJd,exists_eq_left',exists_eq_left])))); (try (walk_at "WP"))
 have rw1:∀ j,j <= es.length -> ∀ n ∈ nm (es.take j),n.natAbs < 2 ^ 9000:=fun j hj n hn=>by
  unfold nm at hn
  obtain ⟨r,hr,rfl⟩:=qP.mp hn
  have hm:=rowsW_partM j hr
  have l:=F.wd r hm
  refine Nat.lt_of_le_of_lt ((F.rb r hm).2 _ ?_) (Nat.pow_lt_pow_right (by decide) (by decide))
  match r,l with
  | [x],_=>exact List.mem_singleton.mpr rfl
 have sh1:∀ (j:Nat) (s:Int),j < 1+es.length -> Sh4 s ((rowsW 1 es).getD j []) -> Sh14 s ((nm es).getD j 0):=fun j s hj h=>by
  rw [nm_at F.wd hj] at h
  exact ⟨h.1,h.2.1,fun z=>h.2.2 z _ (List.mem_singleton.mpr rfl)⟩
 refine ⟨⟨_,SqL.of (ss _ _ W.dll)⟩,?_⟩
 refine forL (xs:=us) (fun i σ H'=>∃ o2 o3 o4,σ = [some (.ref t),some (.ref s0),o2,o3,o4] /\ H' s0=some (.lst ((nm (es.take i)).map V.int)) /\ Same H H') ⟨none,none,none,rfl,upd_same,ss⟩ (fun i σ H' _ z=>by obtain ⟨_,_,_,_,_,s⟩:=z; exact SqL.of (s _ _ W.dll)) ?_ ?_
 ·rintro i x σ H' N hx ⟨o2,o3,o4,rfl,hs,SH⟩ hN
  have hi:i < es.length:=by rw [← W.hds.len]; exact (qB.mp hx).1
  have hdi:es[i]? = some es[i]:=qA hi
  generalize es[i]=d at hdi
  obtain ⟨y,hy1,hy2⟩:=W.hds.at_ i d hdi
  rw [hy1] at hx
  cases hx
  obtain ⟨da,db,sa,sb⟩:=F.sh i d hdi
  have dw:=(F.ok.dk i d hdi).2.2
  have hlen:(nm (es.take i)).length=1+i:=by rw [nm_len,qO]; omega
  try walk_at "WP"
  refine ⟨y,s0,d,nm (es.take i),rfl,SH _ _ hy2,hs,dw,by omega,by omega,by rw [nm_part (by omega) da]; exact sh1 _ _ (by omega) sa,by rw [nm_part (by omega) db]; exact sh1 _ _ (by omega) sb,rw1 i (by omega),fun H5 s5=>?_⟩
  try walk_at "WP"
  have hs5:=s5 _ _ hs
  refine ⟨ty_list hs5,_,hs5,by rw [qC,hlen]; exact lt_big (by omega),hN _ _ ⟨_,_,_,rfl,?_,same_upd hs0 (SH.trans s5)⟩⟩
  rw [upd_same,nm_take F.wd hdi da db,List.map_append]
  rfl
 ·rintro σ H' ⟨o2,o3,o4,rfl,hs,SH⟩
  rw [W.hds.len,List.take_length] at hs
  have ht2:=SH _ _ ht
  have hol:=SH _ _ W.gll
  have gl1:=W.hgs.len
  have xl:xs.length=gs.length:=by have:=congrArg List.length O; unfold outsR at this; rw [qC,qC] at this; exact this.symm
  (iterate 5 ((try (walk_at "WP")); (try (simp only [ht2,qJs,qJt,qJl,qJd,exists_eq_left',exists_eq_left])))); (try (walk_at "WP"))
  refine ⟨⟨_,SqL.of hol⟩,?_⟩
  refine comp_inv (xs:=os) (fun acc i ys H4=>H4 acc=some (.lst ys) /\ ys=(xs.take i).map V.int /\ i <= xs.length /\ Same H' H4) (by rw [gl1]; exact le_big (by omega)) ?_ ?_ ?_ ?_ ?_ ?_ ?_
  ·rintro acc i ys H4 hi ⟨_,_,_,s4⟩
   exact ⟨_,_,SqL.of (s4 _ _ hol),qA hi⟩
  ·rintro acc i ys H4 x H5 ⟨_,_,_,s4⟩ y
   exact ⟨y.1,y.2 _ (SqL.of (s4 _ _ hol))⟩
  ·rintro acc ys H4 ⟨_,_,_,s4⟩
   exact ⟨_,SqL.of (s4 _ _ hol),Nat.le_refl _⟩
  ·intro acc hacc
   exact ⟨upd_same,rfl,Nat.zero_le _,same_new hacc _⟩
  ·rintro acc i ys H4 ⟨h1,h2,h3,_⟩
   refine ⟨h1,?_⟩
   rw [h2,qC,qO]
   omega
  ·rintro acc i ys H4 x R hacc hx ⟨h1,h2,h3,s4⟩ hR2 _
   have hi:i < xs.length:=by rw [xl,← gl1]; exact (qB.mp hx).1
   have hxi:xs[i]? = some xs[i]:=qA hi
   generalize xs[i]=n at hxi
   have egi:=qA (l:=gs) (i:=i) (by omega)
   generalize gs[i]'(by omega)=g at egi
   obtain ⟨y,e1,e2⟩:=W.hgs.at_ i g egi
   rw [e1] at hx
   cases hx
   have ecap:capV [1] [some (V.ref t),some (V.ref s0),o2,o3,o4]=[some (V.ref s0)]:=rfl
   rw [ecap]
   have gm:=qE egi
   have gt:g.th < 1+es.length:=F.ok.gk g gm
   have en:g.sg * mvI g.sh ((nm es).getD g.th 0)=n:=by
    have:(outsR 1 es gs)[i]? = some [n]:=by rw [O,qI,hxi]; rfl
    unfold outsR at this
    rw [qI,egi] at this
    have:=Option.some.inj this
    unfold outR at this
    rw [nm_at F.wd gt] at this
    exact (List.cons.inj this).1
   try walk_at "WP"
   refine ⟨y,s0,g,nm es,rfl,s4 _ _ (SH _ _ e2),s4 _ _ hs,(F.go g gm).imp id fun z=>⟨z.1,by rw [nm_len]; exact gt,sh1 _ _ gt z.2⟩,by have:=rw1 es.length (Nat.le_refl _); rw [List.take_length] at this; exact this,fun H5 s5=>?_⟩
   rw [en]
   refine hR2 _ _ (s5 _ _ h1) ⟨upd_same,?_,hi,same_upd hacc (s4.trans s5)⟩
   rw [List.take_add_one,hxi,h2,List.map_append]
   rfl
  ·rintro acc ys H4 hacc ⟨h1,h2,h3,s4⟩
   rw [gl1,← xl,List.take_length] at h2
   subst h2
   try walk_at "WP"
   refine ⟨acc,_,rfl,.inl (SqL.of h1),rfl,flat_ints xs,?_⟩
   have hin:inV V.non (xs.map V.int)=false:=by
    unfold inV
    rw [List.any_eq_false]
    intro v hv
    obtain ⟨n,_,rfl⟩:=qP.mp hv
    exact fun z=>by cases z
   rw [if_neg (by decide),hin]
   try walk_at "WP"
   intro r hr
   have sr:=same_new hr (.lst [V.ref s0,V.ref acc])
   exact q r s0 acc _ ((SH.trans s4).trans sr) upd_same (sr _ _ (s4 _ _ hs)) (sr _ _ h1)
end
section
variable {P:Program}{w:World}{K:PySem.W.Frag}{mg:Str -> Option Value}{base:Heap}
theorem ok_lcoreZ (T:Txt K mg):Cal P w K mg base 1 "_law_core" ["_law_number"] spLCoreZ:=by
 have B:=T.bl
 refine mkCal T.t_l_core sc_l_core (fun vs H Q E h=>?_) (fun f cdv A outer s H vs Q E hr h=>?_)
 ·obtain ⟨n,rfl,_⟩:=h
  rfl
 obtain ⟨n,rfl,hb,q⟩:=h
 refine ⟨_,((@pss_cons _ _ _ _ _ (@ps_set _ _ (1) _ _ _ _ sc_l_core.nd rfl (by walk_at "o") (@pe_callB _ _ _ _ _ _ _ _ _ call_abs rfl B.abs bo_abs (@pa_cons _ _ _ _ _ (pv 0) pa_nil (by rfl)) (by decide) (by decide) (by rfl) (by rfl)) (by rfl) (by walk_at "o")) (@pss_mid _ _ _ _ _ (@ps_whl _ _ _ _ _ _ PassesOwn.never (@PW.pt _ _ _ (@pw_and _ _ _ _ _ _ _ (@pt_cmpR _ _ _ _ _ _ _ _ op_gt (pv 1) pe_int (@nomark _ _ (by decide) (by decide))) (@pw_and1 _ _ _ _ (@pt_cmpR _ _ _ _ _ _ _ _ op_eq (@pe_op _ _ _ _ _ _ _ _ op_mod (pv 1) pe_int) pe_int (@nomark _ _ (by decide) (by decide)))))) (@pss_one _ _ _ (@ps_set _ _ (1) _ _ _ _ sc_l_core.nd rfl (by walk_at "o") (@pe_op _ _ _ _ _ _ _ _ op_fdivB (pv 1) pe_int) (by rfl) (by walk_at "o")))) (@pss_one _ _ _ (@ps_ret _ _ _ _ (pv 1)))))),?_⟩
 rw [show start ["_law_number","_law_size"] [.int n]=[some (.int n),none] from rfl]
 try walk_at "WP"
 have abs0:∃ m:Nat,(if n < 0 then -n else n)=coreN n * 2 ^ m:=by
  by_cases z:n=0
  ·subst z
   exact ⟨0,by decide⟩
  ·obtain ⟨k,e1,_⟩:=abs_core z
   exact ⟨k,e1⟩
 obtain ⟨m0,e0⟩:=abs0
 rw [e0]
 have cz:coreN n=0 \/ (0 < coreN n /\ coreN n % 2=1):=by
  by_cases z:n=0
  ·subst z
   exact .inl (by decide)
  ·obtain ⟨c1,c2,_⟩:=core_props z
   exact .inr ⟨c1,c2⟩
 refine mid_of (fun σ H1=>σ = [some (.int n),some (.int (coreN n))] /\ H1=H) (fun N hN=>?_) ?_
 ·refine whl (fun m σ H1=>σ = [some (.int n),some (.int (coreN n * 2 ^ m))] /\ H1=H) m0 ⟨rfl,rfl⟩ ?_
  rintro m σ H1 N2 ⟨rfl,rfl⟩ hN2
  try walk_at "WP"
  rcases cz with c0 | ⟨c1,c2⟩
  ·rw [c0,Int.zero_mul,if_neg (by decide)]
   exact hN _ _ ⟨by rw [c0],rfl⟩
  ·cases m with
   | zero =>
    rw [Int.pow_zero,Int.mul_one,if_pos c1,if_neg (by omega)]
    exact hN _ _ ⟨rfl,rfl⟩
   | succ k =>
    have e:coreN n * 2 ^ (k+1)=2 * (coreN n * 2 ^ k):=by rw [Int.pow_succ]; ac_rfl
    have p:=Int.mul_pos c1 (pow_pos2 k)
    rw [e,if_pos (by omega),if_pos (by omega),show 2 * (coreN n * 2 ^ k) / 2=coreN n * 2 ^ k by omega]
    exact ⟨divB (by decide) (by decide),hN2 k _ _ (by omega) ⟨rfl,rfl⟩⟩
 ·rintro σ H1 ⟨rfl,rfl⟩
  try walk_at "WP"
  exact q
theorem ok_usedW (T:Txt K mg):Cal P w K mg base 1 "_law_used" ["_law_web"] spUsedW:=by
 have B:=T.bl
 refine mkCal T.t_l_used sc_l_used (fun vs H Q E h=>?_) (fun f cdv A outer s H vs Q E hr h=>?_)
 ·obtain ⟨t,dl,gl,us,os,es,gs,rfl,_⟩:=h
  rfl
 obtain ⟨t,dl,gl,us,os,es,gs,rfl,W,F,RA,q⟩:=h
 refine ⟨_,((@pss_cons _ _ _ _ _ (@ps_setComp0 _ _ _ _ (1) _ _ _ _ _ _ _ (["_law_out_here"]) (1) ([]) _ _ _ rfl (@pi_list _ _ _ _ (@pe_ix _ _ _ _ _ _ _ ix_U (pv 0) pe_int (fun _ _=>rfl))) (fun nd C s H fp=>⟨(@pg_name _ _ (0) _ nd rfl (by walk_at "o") (by walk_at "o")),(@pn_one _ _ _ (@pt_cmpR _ _ _ _ _ _ _ _ op_ne (@pe_ix _ _ _ _ _ _ _ ix_U (pv 0) pe_int (fun _ _=>rfl)) pe_int (@nomark _ _ (by decide) (by decide)))),(@pe_ix _ _ _ _ _ _ _ ix_U (pv 0) pe_int (fun _ _=>rfl))⟩) (by decide +kernel) (by first | rfl | decide +kernel) (by first | rfl | decide +kernel) rfl (fun _=>rfl) sc_l_used.nd rfl (by walk_at "o") (by walk_at "o") rfl) (@pss_cons _ _ _ _ _ (@ps_for _ _ _ _ _ _ _ _ PassesOwn.never rfl (@pi_rangeD _ _ _ _ _ _ _ _ rfl B.range (@pa_cons _ _ _ _ _ (@pe_op _ _ _ _ _ _ _ _ op_sub (@pe_callB _ _ _ _ _ _ _ _ _ call_lenM rfl B.len bo_len (@pa_cons _ _ _ _ _ (@pe_ix _ _ _ _ _ _ _ ix_U (pv 0) pe_int (fun _ _=>rfl)) pa_nil (by rfl)) (by decide) (by decide) (by rfl) (by rfl)) pe_int) (@pa_cons _ _ _ _ _ (@pe_un _ _ _ _ _ _ un_neg pe_int) (@pa_cons _ _ _ _ _ (@pe_un _ _ _ _ _ _ un_neg pe_int) pa_nil (by rfl)) (by rfl)) (by rfl)) (by rfl) (by rfl)) (@pg_name _ _ (2) _ sc_l_used.nd rfl (by walk_at "o") (by walk_at "o")) (@pss_one _ _ _ (@ps_if _ _ _ _ _ _ _ _ (@pt_cmpR _ _ _ _ _ _ _ _ op_in_seq (@pe_op _ _ _ _ _ _ _ _ op_add (pv 2) pe_int) (pv 1) (by with_unfolding_all rfl)) (@pss_one _ _ _ (@ps_set _ _ (1) _ _ _ _ sc_l_used.nd rfl (by walk_at "o") (@pe_op _ _ _ _ _ _ _ _ op_cat (pv 1) (@pe_lst _ _ _ _ (@pa_cons _ _ _ _ _ (@pe_ix _ _ _ _ _ _ _ ix_U (@pe_ix _ _ _ _ _ _ _ ix_M (@pe_ix _ _ _ _ _ _ _ ix_U (pv 0) pe_int (fun _ _=>rfl)) (pv 2) (fun _ _=>rfl)) pe_int (fun _ _=>rfl)) (@pa_cons _ _ _ _ _ (@pe_ix _ _ _ _ _ _ _ ix_U (@pe_ix _ _ _ _ _ _ _ ix_M (@pe_ix _ _ _ _ _ _ _ ix_U (pv 0) pe_int (fun _ _=>rfl)) (pv 2) (fun _ _=>rfl)) pe_int (fun _ _=>rfl)) pa_nil (by rfl)) (by rfl)))) (by rfl) (by walk_at "o"))) pss_nil)) (by intro _ ; rfl)) (@pss_one _ _ _ (@ps_ret _ _ _ _ (pv 1)))))),?_⟩
 rw [show start ["_law_web","_law_some","_law_k"] [.ref t]=[some (.ref t),none,none] from rfl]
 have ht:=W.tup
 have gl12:=F.ok.gl
 have dl4:=F.ok.dl
 (iterate 5 ((try (walk_at "WP")); (try (simp only [ht,qJs,qJt,qJl,qJd,exists_eq_left',exists_eq_left])))); (try (walk_at "WP"))
 refine ⟨⟨_,SqL.of W.gll⟩,?_⟩
 refine comp_ofF W.gll W.hgs.len (by omega) (fun g=>if g.sg ≠ 0 then some (g.th:Int) else none) (fun k v g H' R hv hg s' hR=>?_) (fun me H6 nme s6 hme=>?_)
 ·obtain ⟨y,t1,t2⟩:=W.hgs.at_ k g hg
  rw [hv] at t1
  cases t1
  have t3:=s' _ _ t2
  unfold gTp at t3
  (iterate 5 ((try (walk_at "WP")); (try (simp only [t3,qJs,qJt,qJl,qJd,exists_eq_left',exists_eq_left])))); (try (walk_at "WP"))
  have hR':=hR _ (Same.refl _)
  refine ite2 (fun z=>?_) (fun z=>?_)
  ·rw [if_pos z] at hR'
   exact hR'
  ·rw [if_neg z] at hR'
   exact hR'
 rw [wait0_mapI gs] at hme
 have hd6:=s6 _ _ W.dll
 have ht6:=s6 _ _ ht
 (iterate 5 ((try (walk_at "WP")); (try (simp only [ht6,qJs,qJt,qJl,qJd,exists_eq_left',exists_eq_left])))); (try (walk_at "WP"))
 refine ⟨us,hd6,?_⟩
 rw [W.hds.len]
 refine ⟨⟨by omega,by omega⟩,?_⟩
 rw [show (((es.length:Nat):Int) - 1+1).toNat=es.length by omega]
 refine forR3 (fun i σ H7=>∃ (o2:Option V) (me:Addr) (ms:List Nat),σ = [some (.ref t),some (.ref me),o2] /\ Same H H7 /\ H7 me=some (.lst ((nints ms).map V.int)) /\ ms.length <= 12+2 * i /\ Met 1 es gs i ms) ⟨none,me,_,rfl,s6,hme,Nat.le_trans (wait0_len gs) (by omega),met_nil⟩ ?_ ?_
 ·rintro i σ H7 N hi ⟨o2,me,ms,rfl,s7,hm7,ml,M7⟩ hN
  obtain ⟨k,hk⟩:∃ k,k+i+1=es.length:=⟨es.length - 1 - i,by omega⟩
  rw [show ((es.length:Nat):Int) - 1+(i:Int) * -1=(k:Int) by omega]
  try walk_at "WP"
  rw [show (k:Int)+1=((1+k:Nat):Int) by omega]
  have hkl:k < es.length:=by omega
  obtain ⟨y,hy1,hy2⟩:=W.hds.at_ k _ (qA hkl)
  have hdk:es[k]? = some es[k]:=qA hkl
  generalize es[k]=d at hy2 hdk
  refine in_n hm7 ?_
  have z:1+k ∈ ms:=Classical.byContradiction fun c=>met_not M7 F.ok.dk (by omega) c (RA (1+k) (by omega) (by omega))
  rw [decide_eq_true z]
  have ht7:=s7 _ _ ht
  (iterate 5 ((try (walk_at "WP")); (try (simp only [ht7,qJs,qJt,qJl,qJd,exists_eq_left',exists_eq_left])))); (try (walk_at "WP"))
  have hy7:=s7 _ _ hy2
  unfold wTup at hy7
  have hd7:=s7 _ _ W.dll
  refine ⟨us,hd7,_,atI_nat hy1,?_⟩
  (iterate 5 ((try (walk_at "WP")); (try (simp only [hy7,ht7,qJs,qJt,qJl,qJd,exists_eq_left',exists_eq_left])))); (try (walk_at "WP"))
  (iterate 5 ((try (walk_at "WP")); (try (simp only [hd7,qJs,qJt,qJl,qJd,exists_eq_left',exists_eq_left])))); (try (walk_at "WP"))
  refine ⟨_,atI_nat hy1,?_⟩
  (iterate 5 ((try (walk_at "WP")); (try (simp only [hy7,qJs,qJt,qJl,qJd,exists_eq_left',exists_eq_left])))); (try (walk_at "WP"))
  intro e he
  refine abs_ he fun H8 s8 h8=>?_
  refine ⟨_,s8 _ _ hm7,le_size (by rw [qC,nints_len]; omega),fun l2 n2=>?_⟩
  rw [show (nints ms).map V.int ++ [V.int (d.a:Int),V.int (d.b:Int)]=(nints (ms ++ [d.a,d.b])).map V.int by rw [nints_app,List.map_append]; rfl]
  exact hN _ _ ⟨_,l2,_,rfl,(s7.trans s8).trans (same_new n2 _),upd_same,by rw [qF]; show ms.length+2 <= _; omega,met_step M7 (by omega) hdk z⟩
 ·rintro σ H7 ⟨o2,me,ms,rfl,s7,hm7,ml,M7⟩
  try walk_at "WP"
  exact q me ms _ s7 hm7 fun k hk=>by rw [Nat.add_comm]; exact met_all M7 (RA (1+k) (by omega) (by omega))
end
section
variable {P:Program}{w:World}{K:PySem.W.Frag}{mg:Str -> Option Value}{base:Heap}
theorem ok_rightW (T:Txt K mg):Cal P w K mg base 5 "_law_right" ["_law_web","_law_due"] spRightW:=by
 have B:=T.bl
 have C_l_walked:=ok_walkedW (P:=P) (w:=w) (base:=base) T
 have C_l_core:=(ok_lcoreZ (P:=P) (w:=w) (base:=base) T).mono (k:=4) (by decide)
 have C_l_least:=(ok_lleast (P:=P) (w:=w) (base:=base) T).mono (k:=4) (by decide)
 have C_l_used:=(ok_usedW (P:=P) (w:=w) (base:=base) T).mono (k:=4) (by decide)
 refine mkCal T.t_l_right sc_l_right (fun vs H Q E h=>?_) (fun f cdv A outer s H vs Q E hr h=>?_)
 ·obtain ⟨t,dl,gl,a,us,os,es,gs,xs,rfl,_⟩:=h
  rfl
 obtain ⟨t,dl,gl,a,us,os,es,gs,xs,rfl,W,F,BP,O,RA,ha,hl,hb,hc,q⟩:=h
 refine ⟨_,((@pss_cons _ _ _ _ _ (@ps_set _ _ (2) _ _ _ _ sc_l_right.nd rfl (by walk_at "o") (@pe_cal _ _ _ _ _ _ _ _ _ _ C_l_walked hr rfl (@pa_cons _ _ _ _ _ (pv 0) pa_nil (by rfl)) (by decide) (by rfl) (by rfl)) (by rfl) (by walk_at "o")) (@pss_cons _ _ _ _ _ (@ps_if _ _ _ _ _ _ _ _ (@PW.pt _ _ _ (@pw_or _ _ _ _ _ _ _ (@pt_cmp _ _ _ _ _ _ (@pc_isN _ _ _ _ _ (pv 2)) (by first | exact nobehind _ ( by decide ) ( by decide ) | rfl)) (@pw_or1 _ _ _ _ (@pt_cmpR _ _ _ _ _ _ _ _ (@op_neD _ _ hr) (@pe_ix _ _ _ _ _ _ _ ix_M (pv 2) pe_int (fun _ _=>rfl)) (pv 1) (@nomark _ _ (by decide) (by decide)))))) (@pss_one _ _ _ (@ps_ret _ _ _ _ pe_bl)) pss_nil) (@pss_cons _ _ _ _ _ (@ps_set _ _ (3) _ _ _ _ sc_l_right.nd rfl (by walk_at "o") (@pe_callB _ _ _ _ _ _ _ _ _ (@call_sortW _ w rfl (by rfl)) rfl B.sorted bo_sorted (@pa_cons _ _ _ _ _ (@pe_callTy _ _ _ _ _ _ _ _ _ (@call_setW _ w rfl (by rfl)) rfl B.set bo_set (@pa_cons _ _ _ _ _ (@pe_comp0 _ _ _ _ _ _ _ _ (["_law_number"]) (1) ([]) _ _ _ rfl (@pi_list _ _ _ _ (pv 1)) (fun nd C s H fp=>⟨(@pg_name _ _ (0) _ nd rfl (by walk_at "o") (by walk_at "o")),(@pn_one _ _ _ (@pt_cmpR _ _ _ _ _ _ _ _ op_ne (pv 0) pe_int (@nomark _ _ (by decide) (by decide)))),(@pe_cal _ _ _ _ _ _ _ _ _ _ C_l_core hr rfl (@pa_cons _ _ _ _ _ (pv 0) pa_nil (by rfl)) (by decide) (by rfl) (by rfl))⟩) (by decide +kernel) (by first | rfl | decide +kernel) (by first | rfl | decide +kernel) rfl (fun _=>rfl)) pa_nil (by rfl)) (by decide) (by decide) (by rfl) (by rfl)) pa_nil (by rfl)) (by decide) (by decide) (by rfl) (by rfl)) (by rfl) (by walk_at "o")) (@pss_cons _ _ _ _ _ (@ps_if _ _ _ _ _ _ _ _ (@pt_cmpR _ _ _ _ _ _ _ _ op_gt (@pe_callB _ _ _ _ _ _ _ _ _ call_lenM rfl B.len bo_len (@pa_cons _ _ _ _ _ (@pe_ix _ _ _ _ _ _ _ ix_U (pv 0) pe_int (fun _ _=>rfl)) pa_nil (by rfl)) (by decide) (by decide) (by rfl) (by rfl)) (@pe_callB _ _ _ _ _ _ _ _ _ (@call_sum _ rfl) rfl B.sum bo_sum (@pa_cons _ _ _ _ _ (@pe_comp0 _ _ _ _ _ _ _ _ (["_law_odd"]) (1) ([]) _ _ _ rfl (@pi_list _ _ _ _ (pv 3)) (fun nd C s H fp=>⟨(@pg_name _ _ (0) _ nd rfl (by walk_at "o") (by walk_at "o")),pn_nil,(@pe_op _ _ _ _ _ _ _ _ op_sub (@pe_cal _ _ _ _ _ _ _ _ _ _ C_l_least hr rfl (@pa_cons _ _ _ _ _ (pv 0) pa_nil (by rfl)) (by decide) (by rfl) (by rfl)) pe_int)⟩) (by decide +kernel) (by first | rfl | decide +kernel) (by first | rfl | decide +kernel) rfl (fun _=>rfl)) pa_nil (by rfl)) (by decide) (by decide) (by rfl) (by rfl)) (@nomark _ _ (by decide) (by decide))) (@pss_one _ _ _ (@ps_ret _ _ _ _ pe_bl)) pss_nil) (@pss_cons _ _ _ _ _ (@ps_setComp0 _ _ _ _ (4) _ _ _ _ _ _ _ (["_law_number"]) (1) ([]) _ _ _ rfl (@pi_list _ _ _ _ (@pe_ix _ _ _ _ _ _ _ ix_M (pv 2) pe_int (fun _ _=>rfl))) (fun nd C s H fp=>⟨(@pg_name _ _ (0) _ nd rfl (by walk_at "o") (by walk_at "o")),pn_nil,(@pe_cal _ _ _ _ _ _ _ _ _ _ C_l_core hr rfl (@pa_cons _ _ _ _ _ (pv 0) pa_nil (by rfl)) (by decide) (by rfl) (by rfl))⟩) (by decide +kernel) (by first | rfl | decide +kernel) (by first | rfl | decide +kernel) rfl (fun _=>rfl) sc_l_right.nd rfl (by walk_at "o") (by walk_at "o") rfl) (@pss_cons _ _ _ _ _ (@ps_if _ _ _ _ _ _ _ _ (@PW.pt _ _ _ (@pw_or _ _ _ _ _ _ _ (@pt_cmpR _ _ _ _ _ _ _ _ op_in_seq pe_int (pv 4) (by with_unfolding_all rfl)) (@pw_or1 _ _ _ _ (@pt_cmpR _ _ _ _ _ _ _ _ op_ne (@pe_callB _ _ _ _ _ _ _ _ _ (@call_lenZ _ w (by rfl)) rfl B.len bo_len (@pa_cons _ _ _ _ _ (@pe_callTy _ _ _ _ _ _ _ _ _ (@call_setW _ w rfl (by rfl)) rfl B.set bo_set (@pa_cons _ _ _ _ _ (pv 4) pa_nil (by rfl)) (by decide) (by decide) (by rfl) (by rfl)) pa_nil (by rfl)) (by decide) (by decide) (by rfl) (by rfl)) (@pe_callB _ _ _ _ _ _ _ _ _ call_lenM rfl B.len bo_len (@pa_cons _ _ _ _ _ (pv 4) pa_nil (by rfl)) (by decide) (by decide) (by rfl) (by rfl)) (@nomark _ _ (by decide) (by decide)))))) (@pss_one _ _ _ (@ps_ret _ _ _ _ pe_bl)) pss_nil) (@pss_cons _ _ _ _ _ (@ps_set _ _ (5) _ _ _ _ sc_l_right.nd rfl (by walk_at "o") (@pe_cal _ _ _ _ _ _ _ _ _ _ C_l_used hr rfl (@pa_cons _ _ _ _ _ (pv 0) pa_nil (by rfl)) (by decide) (by rfl) (by rfl)) (by rfl) (by walk_at "o")) (@pss_one _ _ _ (@ps_ret _ _ _ _ (@pe_callB _ _ _ _ _ _ _ _ _ (@call_all _ rfl) rfl B.all bo_all (@pa_cons _ _ _ _ _ (@pe_comp0 _ _ _ _ _ _ _ _ (["_law_k","_law_there"]) (1) ([5]) _ _ _ rfl (@pi_range1 _ _ _ _ _ _ rfl B.range (@pa_cons _ _ _ _ _ (@pe_callB _ _ _ _ _ _ _ _ _ call_lenM rfl B.len bo_len (@pa_cons _ _ _ _ _ (@pe_ix _ _ _ _ _ _ _ ix_U (pv 0) pe_int (fun _ _=>rfl)) pa_nil (by rfl)) (by decide) (by decide) (by rfl) (by rfl)) pa_nil (by rfl)) (by rfl)) (fun nd C s H fp=>⟨(@pg_name _ _ (0) _ nd rfl (by walk_at "o") (by walk_at "o")),pn_nil,(@pe_cmpR _ _ _ _ _ _ _ _ (@op_inK _ K (by rfl)) (@pe_op _ _ _ _ _ _ _ _ op_add (pv 0) pe_int) (pv 1) (by with_unfolding_all rfl))⟩) (by decide +kernel) (by first | rfl | decide +kernel) (by first | rfl | decide +kernel) rfl (fun _=>rfl)) pa_nil (by rfl)) (by decide) (by decide) (by rfl) (by rfl)))))))))))),?_⟩
 rw [show start ["_law_web","_law_due","_law_found","_law_cores","_law_things","_law_there"] [.ref t,.ref a]=[some (.ref t),some (.ref a),none,none,none,none] from rfl]
 have dl4:=F.ok.dl
 try walk_at "WP"
 refine ⟨t,dl,gl,us,os,es,gs,xs,rfl,W,F,O,fun r s o H1 s1 hr1 hs1 ho1=>?_⟩
 (iterate 5 ((try (walk_at "WP")); (try (simp only [hr1,qJs,qJt,qJl,qJd,exists_eq_left',exists_eq_left])))); (try (walk_at "WP"))
 refine neLI (ns:=xs) (ms:=xs) (SqL.of ho1) (SqL.of (s1 _ _ ha)) ?_
 try walk_at "WP"
 have ha1:=s1 _ _ ha
 refine ⟨⟨_,SqL.of ha1⟩,?_⟩
 refine comp_ofF (xs:=xs) ha1 (by rw [qC]) (by omega) (fun n=>if n ≠ 0 then some (coreN n) else none) (fun k v n H' R hv hn s' hR=>?_) (fun c1 H2 n1 s2 h2=>?_)
 ·obtain ⟨n',hn',rfl⟩:=map_at hv
  rw [hn] at hn'
  cases hn'
  have hbn:=hb n (qE hn)
  try walk_at "WP"
  refine ite2 (fun z=>?_) (fun z=>?_)
  ·have hR':=hR H' (Same.refl _)
   rw [if_pos z] at hR'
   exact ⟨n,rfl,Nat.lt_trans hbn (Nat.pow_lt_pow_right (by decide) (by decide)),hR'⟩
  ·have hR':=hR H' (Same.refl _)
   rw [if_neg z] at hR'
   exact hR'
 rw [cores_fm] at h2
 have uu:=uc_ded xs
 have ul:=uc_len xs
 have yl:((xs.filter fun n=>decide (n ≠ 0)).map coreN).length <= xs.length:=by rw [qC]; exact List.length_filter_le _ _
 refine ⟨c1,_,rfl,h2,by omega,fun sb nsb=>?_⟩
 refine abs_ nsb fun H3 s3 h3=>?_
 rw [show ((xs.filter fun n=>decide (n ≠ 0)).map coreN).foldl PyProof.Rows.step_dedup []=uc xs from uu.symm] at h3
 refine ⟨sb,uc xs,rfl,h3,by omega,fun cl ncl=>?_⟩
 refine abs_ ncl fun H4 s4 h4=>?_
 have s14:=(s2.trans s3).trans s4
 have s04:=s1.trans s14
 have ht4:=s04 _ _ W.tup
 refine ⟨_,ht4,_,rfl,dl,rfl,us,s04 _ _ W.dll,cl,rfl,⟨_,SqL.of h4⟩,?_⟩
 have sl:=sortI_len (uc xs)
 have cz:∀ c ∈ sortI (uc xs),c ≠ 0 /\ c.natAbs < 2 ^ 40:=fun c hc=>by
  obtain ⟨n,hn,h0,rfl⟩:=uc_of xs c ((sortI_perm _).mem_iff.mp hc)
  obtain ⟨p1,_,j,_,_,_,c6,_⟩:=core_props h0
  exact ⟨by omega,Nat.lt_of_le_of_lt c6 (hb n hn)⟩
 refine comp_ofI (xs:=sortI (uc xs)) h4 (by rw [qC]) (by omega) (fun c=>((wn c:Nat):Int) - 1) (fun k v n H' R hv hn s' hR=>?_) (fun c2 H5 n5 s5 h5=>?_)
 ·obtain ⟨n',hn',rfl⟩:=map_at hv
  rw [hn] at hn'
  cases hn'
  have hbn:=(cz n (qE hn)).2
  try walk_at "WP"
  refine ⟨n,rfl,Nat.lt_trans hbn (Nat.pow_lt_pow_right (by decide) (by decide)),fun H'' s''=>?_⟩
  try walk_at "WP"
  exact hR _ s''
 refine ⟨c2,_,rfl,h5,?_⟩
 rw [sum_cost _ fun c hc=>(cz c hc).1,perm_cost (sortI_perm (uc xs))]
 try walk_at "WP"
 rw [if_neg (by have:=W.hds.len; omega)]
 have s05:=s04.trans s5
 have s15:=s14.trans s5
 have hs5:=s15 _ _ hs1
 refine ⟨_,s15 _ _ hr1,_,rfl,s,rfl,⟨_,SqL.of hs5⟩,?_⟩
 have nl:=nm_len es
 have bd:∀ n ∈ nm es,n.natAbs < 2 ^ 9000:=fun n hn=>by
  unfold nm at hn
  obtain ⟨r,hr,rfl⟩:=qP.mp hn
  have l:=F.wd r hr
  refine Nat.lt_of_le_of_lt ((F.rb r hr).2 _ ?_) (Nat.pow_lt_pow_right (by decide) (by decide))
  match r,l with
  | [x],_=>exact List.mem_singleton.mpr rfl
 obtain ⟨nz,nd⟩:=bare_nm F.wd BP
 refine comp_ofI (xs:=nm es) hs5 (by rw [qC]) (by omega) coreN (fun k v n H' R hv hn s' hR=>?_) (fun th H6 n6 s6 h6=>?_)
 ·obtain ⟨n',hn',rfl⟩:=map_at hv
  rw [hn] at hn'
  cases hn'
  try walk_at "WP"
  exact ⟨n,rfl,bd n (qE hn),hR _ (Same.refl _)⟩
 refine in_i h6 ?_
 rw [decide_eq_false (fun z=>by
  obtain ⟨n,hn,e⟩:=qP.mp z
  have:=(core_props (nz n hn)).1
  omega)]
 refine ⟨_,rfl,?_⟩
 rw [if_neg (by decide)]
 refine ⟨th,_,rfl,h6,by rw [qC]; omega,fun sa nsa=>?_⟩
 refine abs_ nsa fun H7 s7 h7=>?_
 rw [show ((nm es).map coreN).foldl PyProof.Rows.step_dedup []=(nm es).map coreN from ded_id _ nd] at h7
 refine ⟨sa,_,rfl,h7,by rw [qC]; omega,th,rfl,_,s7 _ _ h6,?_⟩
 try walk_at "WP"
 rw [if_neg (by simp)]
 have s07:=(s05.trans s6).trans s7
 refine ⟨t,dl,gl,us,os,es,gs,rfl,W.same s07,F,RA,fun ul ms H8 s8 h8 hk=>?_⟩
 have s08:=s07.trans s8
 refine ⟨_,s08 _ _ W.tup,_,rfl,dl,rfl,us,s08 _ _ W.dll,by omega,by have:=W.hds.len; omega,?_⟩
 have uel:=W.hds.len
 rw [Int.toNat_natCast]
 refine comp_R (f:=fun _=>some (.bl true)) (le_size (by omega)) (fun y H' R hy s' hR=>?_) (fun acc hacc=>?_)
 ·obtain ⟨k,hk',rfl⟩:=qP.mp hy
  have kl:=List.mem_range.mp hk'
  rw [show capV [5] _=[some (V.ref ul)] from rfl]
  try walk_at "WP"
  rw [show (0:Int)+(k:Int)+1=((k+1:Nat):Int) by omega]
  refine in_n (s' _ _ h8) ?_
  rw [decide_eq_true (hk k (by omega))]
  exact hR
 rw [all_true]
 refine ⟨acc,_,rfl,upd_same,?_⟩
 rw [show ((qQ us.length true).all id)=true from by rw [List.all_eq_true]; intro x hx; exact (List.mem_replicate.mp hx).2]
 exact q _ (s08.trans (same_new hacc _))
end
section
variable {P:Program}{w:World}{K:PySem.W.Frag}{mg:Str -> Option Value}{base:Heap}
theorem ok_close (T:Txt K mg):Cal P w K mg base 2 "_law_close" ["_law_pen_here","_law_found"] (spClose K):=by
 have B:=T.bl
 have C_l_draw:=ok_draw (P:=P) (w:=w) (base:=base) T
 refine mkCal T.t_l_close sc_l_close (fun vs H Q E h=>?_) (fun f cdv A outer s H vs Q E hr h=>?_)
 ·obtain ⟨p,a,l,ns,c,xs,rfl,_⟩:=h
  rfl
 obtain ⟨p,a,l,ns,c,xs,rfl,P0,S0,h63,hc,hl,lp,l6,hb,q⟩:=h
 refine ⟨_,((@pss_cons _ _ _ _ _ (@ps_set _ _ (2) _ _ _ _ sc_l_close.nd rfl (by walk_at "o") (@pe_cal _ _ _ _ _ _ _ _ _ _ C_l_draw hr rfl (@pa_cons _ _ _ _ _ (pv 0) (@pa_cons _ _ _ _ _ pe_int pa_nil (by rfl)) (by rfl)) (by decide) (by rfl) (by rfl)) (by rfl) (by walk_at "o")) (@pss_cons _ _ _ _ _ (@ps_set _ _ (3) _ _ _ _ sc_l_close.nd rfl (by walk_at "o") (@pe_cal _ _ _ _ _ _ _ _ _ _ C_l_draw hr rfl (@pa_cons _ _ _ _ _ (pv 0) (@pa_cons _ _ _ _ _ pe_int pa_nil (by rfl)) (by rfl)) (by decide) (by rfl) (by rfl)) (by rfl) (by walk_at "o")) (@pss_cons _ _ _ _ _ (@ps_set _ _ (4) _ _ _ _ sc_l_close.nd rfl (by walk_at "o") (pv 3) (by rfl) (by walk_at "o")) (@pss_mid _ _ _ _ _ (@ps_if _ _ _ _ _ _ _ _ (@pt_cmpR _ _ _ _ _ _ _ _ op_eq (pv 2) pe_int (@nomark _ _ (by decide) (by decide))) (@pss_cons _ _ _ _ _ (@ps_set _ _ (4) _ _ _ _ sc_l_close.nd rfl (by walk_at "o") (@pe_op _ _ _ _ _ _ _ _ op_sub (@pe_op _ _ _ _ _ _ _ _ op_add (@pe_op _ _ _ _ _ _ _ _ op_shlB pe_int (@pe_op _ _ _ _ _ _ _ _ op_mod (pv 3) pe_int)) pe_int) (@pe_op _ _ _ _ _ _ _ _ op_mulB pe_int (@pe_op _ _ _ _ _ _ _ _ op_mod (@pe_op _ _ _ _ _ _ _ _ op_fdivB (pv 3) pe_int) pe_int))) (by rfl) (by walk_at "o")) (@pss_one _ _ _ (@ps_set _ _ (4) _ _ _ _ sc_l_close.nd rfl (by walk_at "o") (@pe_op _ _ _ _ _ _ _ _ op_mulB (pv 4) (@pe_op _ _ _ _ _ _ _ _ op_add (@pe_op _ _ _ _ _ _ _ _ op_shlB pe_int (@pe_op _ _ _ _ _ _ _ _ op_add (@pe_op _ _ _ _ _ _ _ _ op_fdivB (pv 3) pe_int) pe_int)) pe_int)) (by rfl) (by walk_at "o")))) pss_nil) (@pss_mid _ _ _ _ _ (@ps_if _ _ _ _ _ _ _ _ (@pt_cmpR _ _ _ _ _ _ _ _ op_eq (pv 2) pe_int (@nomark _ _ (by decide) (by decide))) (@pss_one _ _ _ (@ps_set _ _ (4) _ _ _ _ sc_l_close.nd rfl (by walk_at "o") (@pe_op _ _ _ _ _ _ _ _ op_add (@pe_op _ _ _ _ _ _ _ _ op_mulB (@pe_cal _ _ _ _ _ _ _ _ _ _ C_l_draw hr rfl (@pa_cons _ _ _ _ _ (pv 0) (@pa_cons _ _ _ _ _ (@pe_op _ _ _ _ _ _ _ _ op_powB pe_int pe_int) pa_nil (by rfl)) (by rfl)) (by decide) (by rfl) (by rfl)) (@pe_op _ _ _ _ _ _ _ _ op_powB pe_int pe_int)) (@pe_cal _ _ _ _ _ _ _ _ _ _ C_l_draw hr rfl (@pa_cons _ _ _ _ _ (pv 0) (@pa_cons _ _ _ _ _ (@pe_op _ _ _ _ _ _ _ _ op_powB pe_int pe_int) pa_nil (by rfl)) (by rfl)) (by decide) (by rfl) (by rfl))) (by rfl) (by walk_at "o"))) pss_nil) (@pss_mid _ _ _ _ _ (@ps_if _ _ _ _ _ _ _ _ (@PW.pt _ _ _ (@pw_and _ _ _ _ _ _ _ (@pt_cmpR _ _ _ _ _ _ _ _ op_eq (pv 2) pe_int (@nomark _ _ (by decide) (by decide))) (@pw_and1 _ _ _ _ (@pt_cmpR _ _ _ _ _ _ _ _ (@op_neD _ _ hr) (pv 1) (@pe_lst _ _ _ _ pa_nil) (@nomark _ _ (by decide) (by decide)))))) (@pss_one _ _ _ (@ps_set _ _ (4) _ _ _ _ sc_l_close.nd rfl (by walk_at "o") (@pe_op _ _ _ _ _ _ _ _ op_mulB (@pe_ix _ _ _ _ _ _ _ ix_M (pv 1) (@pe_cal _ _ _ _ _ _ _ _ _ _ C_l_draw hr rfl (@pa_cons _ _ _ _ _ (pv 0) (@pa_cons _ _ _ _ _ (@pe_callB _ _ _ _ _ _ _ _ _ call_lenM rfl B.len bo_len (@pa_cons _ _ _ _ _ (pv 1) pa_nil (by rfl)) (by decide) (by decide) (by rfl) (by rfl)) pa_nil (by rfl)) (by rfl)) (by decide) (by rfl) (by rfl)) (fun _ _=>rfl)) (@pe_op _ _ _ _ _ _ _ _ op_shlB pe_int (@pe_op _ _ _ _ _ _ _ _ op_mod (pv 3) pe_int))) (by rfl) (by walk_at "o"))) pss_nil) (@pss_mid _ _ _ _ _ (@ps_if _ _ _ _ _ _ _ _ (@PW.pt _ _ _ (@pw_and _ _ _ _ _ _ _ (@pt_cmpR _ _ _ _ _ _ _ _ op_eq (pv 2) pe_int (@nomark _ _ (by decide) (by decide))) (@pw_and1 _ _ _ _ (@pt_cmpR _ _ _ _ _ _ _ _ (@op_neD _ _ hr) (pv 1) (@pe_lst _ _ _ _ pa_nil) (@nomark _ _ (by decide) (by decide)))))) (@pss_one _ _ _ (@ps_set _ _ (4) _ _ _ _ sc_l_close.nd rfl (by walk_at "o") (@pe_op _ _ _ _ _ _ _ _ op_add (@pe_ix _ _ _ _ _ _ _ ix_M (pv 1) (@pe_cal _ _ _ _ _ _ _ _ _ _ C_l_draw hr rfl (@pa_cons _ _ _ _ _ (pv 0) (@pa_cons _ _ _ _ _ (@pe_callB _ _ _ _ _ _ _ _ _ call_lenM rfl B.len bo_len (@pa_cons _ _ _ _ _ (pv 1) pa_nil (by rfl)) (by decide) (by decide) (by rfl) (by rfl)) pa_nil (by rfl)) (by rfl)) (by decide) (by rfl) (by rfl)) (fun _ _=>rfl)) (@pe_op _ _ _ _ _ _ _ _ op_shlB pe_int (@pe_op _ _ _ _ _ _ _ _ op_mod (pv 3) pe_int))) (by rfl) (by walk_at "o"))) pss_nil) (@pss_mid _ _ _ _ _ (@ps_if _ _ _ _ _ _ _ _ (@PW.pt _ _ _ (@pw_and _ _ _ _ _ _ _ (@pt_cmpR _ _ _ _ _ _ _ _ op_eq (pv 2) pe_int (@nomark _ _ (by decide) (by decide))) (@pw_and1 _ _ _ _ (@pt_cmpR _ _ _ _ _ _ _ _ (@op_neD _ _ hr) (pv 1) (@pe_lst _ _ _ _ pa_nil) (@nomark _ _ (by decide) (by decide)))))) (@pss_one _ _ _ (@ps_set _ _ (4) _ _ _ _ sc_l_close.nd rfl (by walk_at "o") (@pe_op _ _ _ _ _ _ _ _ op_mulB (@pe_ix _ _ _ _ _ _ _ ix_M (pv 1) (@pe_cal _ _ _ _ _ _ _ _ _ _ C_l_draw hr rfl (@pa_cons _ _ _ _ _ (pv 0) (@pa_cons _ _ _ _ _ (@pe_callB _ _ _ _ _ _ _ _ _ call_lenM rfl B.len bo_len (@pa_cons _ _ _ _ _ (pv 1) pa_nil (by rfl)) (by decide) (by decide) (by rfl) (by rfl)) pa_nil (by rfl)) (by rfl)) (by decide) (by rfl) (by rfl)) (fun _ _=>rfl)) (@pe_op _ _ _ _ _ _ _ _ op_add (@pe_op _ _ _ _ _ _ _ _ op_shlB pe_int (@pe_op _ _ _ _ _ _ _ _ op_add pe_int (@pe_op _ _ _ _ _ _ _ _ op_mod (pv 3) pe_int))) pe_int)) (by rfl) (by walk_at "o"))) pss_nil) (@pss_mid _ _ _ _ _ (@ps_if _ _ _ _ _ _ _ _ (@pt_cmpR _ _ _ _ _ _ _ _ op_eq (pv 2) pe_int (@nomark _ _ (by decide) (by decide))) (@pss_one _ _ _ (@ps_set _ _ (4) _ _ _ _ sc_l_close.nd rfl (by walk_at "o") (@pe_op _ _ _ _ _ _ _ _ op_sub (@pe_op _ _ _ _ _ _ _ _ op_sub (@pe_op _ _ _ _ _ _ _ _ op_powB pe_int pe_int) pe_int) (pv 3)) (by rfl) (by walk_at "o"))) pss_nil) (@pss_one _ _ _ (@ps_ret _ _ _ _ (@pe_op _ _ _ _ _ _ _ _ op_mulB (@pe_op _ _ _ _ _ _ _ _ op_mod (@pe_callB _ _ _ _ _ _ _ _ _ call_abs rfl B.abs bo_abs (@pa_cons _ _ _ _ _ (pv 4) pa_nil (by rfl)) (by decide) (by decide) (by rfl) (by rfl)) (@pe_op _ _ _ _ _ _ _ _ op_powB pe_int pe_int)) (@pe_op _ _ _ _ _ _ _ _ op_sub pe_int (@pe_op _ _ _ _ _ _ _ _ op_mulB pe_int (@pe_cal _ _ _ _ _ _ _ _ _ _ C_l_draw hr rfl (@pa_cons _ _ _ _ _ (pv 0) (@pa_cons _ _ _ _ _ pe_int pa_nil (by rfl)) (by rfl)) (by decide) (by rfl) (by rfl))))))))))))))))),?_⟩
 rw [show start ["_law_pen_here","_law_found","_law_way","_law_small","_law_number"] [.ref p,.ref l]=[some (.ref p),some (.ref l),none,none,none] from rfl]
 try walk_at "WP"
 refine draw_ P0 S0 h63 (by omega) (by decide) (by decide) fun way H1 w0 w1 P1 S1 C1=>?_
 refine draw_ P1 S1 h63 (by omega) (by decide) (by decide) fun sm H2 m0 m1 P2 S2 C2=>?_
 have C2':=C1.trans C2
 refine mid_of (fun σ G=>∃ n:Int,σ = [some (.ref p),some (.ref l),some (.int way),some (.int sm),some (.int n)] /\ n.natAbs < 2 ^ 100 /\ Pen G p a (c+2) /\ Scr K G a ns /\ Chg p H G) (fun N hN=>?_) ?_
 ·try walk_at "WP"
  refine ite2 (fun _=>?_) (fun _=>hN _ _ ⟨_,rfl,by omega,P2.mono (by omega),S2,C2'⟩)
  have b1:=shl1_b (e:=sm % 20) (k:=20) (by omega)
  have b2:=shl1_b (e:=sm / 40+1) (k:=6) (by omega)
  have e6:(2:Int) ^ 6=64:=by decide
  have e20:(2:Int) ^ 20=1048576:=by decide
  refine ⟨⟨by omega,by omega⟩,divB (by decide) (by decide),mul_l (by decide) (by decide),divB (by decide) (by decide),⟨by omega,by omega⟩,mul_r (by omega) (by omega),hN _ _ ⟨_,rfl,abs_mul_lt (m:=30) (n:=10) (by omega) (by omega) (by decide),P2.mono (by omega),S2,C2'⟩⟩
 rintro σ H3 ⟨n,rfl,hn,P3,S3,C3⟩
 refine mid_of (fun σ G=>∃ n:Int,σ = [some (.ref p),some (.ref l),some (.int way),some (.int sm),some (.int n)] /\ n.natAbs < 2 ^ 100 /\ Pen G p a (c+6) /\ Scr K G a ns /\ Chg p H G) (fun N hN=>?_) ?_
 ·try walk_at "WP"
  refine ite2 (fun _=>?_) (fun _=>hN _ _ ⟨_,rfl,hn,P3.mono (by omega),S3,C3⟩)
  refine draw_ P3 S3 h63 (by omega) (by decide) (by decide) fun d1 H4 d10 d11 P4 S4 C4=>?_
  try walk_at "WP"
  refine ⟨mul_r (by decide) (by decide),?_⟩
  refine draw_ P4 S4 h63 (by omega) (by decide) (by decide) fun d2 H5 d20 d21 P5 S5 C5=>?_
  try walk_at "WP"
  exact hN _ _ ⟨_,rfl,by omega,P5.mono (by omega),S5,(C3.trans C4).trans C5⟩
 rintro σ H4 ⟨n,rfl,hn,P4,S4,C4⟩
 refine mid_of (fun σ G=>∃ n:Int,σ = [some (.ref p),some (.ref l),some (.int way),some (.int sm),some (.int n)] /\ n.natAbs < 2 ^ 100 /\ Pen G p a (c+8) /\ Scr K G a ns /\ Chg p H G) (fun N hN=>?_) ?_
 ·try walk_at "WP"
  refine ite2 (fun _=>?_) (fun _=>hN _ _ ⟨_,rfl,hn,P4.mono (by omega),S4,C4⟩)
  intro e he
  have sme:=same_new he (.lst [])
  have hl0:=C4 l _ lp hl
  have hl1:=sme _ _ hl0
  have Pe:=P4.same sme
  have Se:=S4.same sme
  have Ce:=C4.trans (sme.chg (p:=p))
  refine neLI (ns:=xs) (ms:=[]) (SqL.of hl1) (SqL.of upd_same) ?_
  generalize upd H4 e (.lst [])=He at hl1 Pe Se Ce ⊢
  try walk_at "WP"
  refine ite2 (fun z2=>?_) (fun z2=>hN _ _ ⟨n,rfl,hn,Pe.mono (by omega),Se,Ce⟩)
  have hpos:0 < xs.length:=List.length_pos_iff.mpr z2
  refine ⟨_,hl1,?_⟩
  rw [qC]
  refine draw_ Pe Se h63 (by omega) (by omega) (by omega) fun g Hg g0 g1 Pg Sg Cg=>?_
  have hlg:=Cg l _ lp hl1
  obtain ⟨v,hv,hv2⟩:=atI_int (ns:=xs) g0 g1
  have hvb:=hb v (qE hv2)
  (iterate 5 ((try (walk_at "WP")); (try (simp only [hlg,qJs,qJt,qJl,qJd,exists_eq_left',exists_eq_left])))); (try (walk_at "WP"))
  refine ⟨_,hv,?_⟩
  have b1:=shl1_b (e:=sm % 12) (k:=12) (by omega)
  have e12:(2:Int) ^ 12=4096:=by decide
  refine ⟨⟨by omega,by omega⟩,?_⟩
  try walk_at "WP"
  exact ⟨mul_r (by omega) (by omega),hN _ _ ⟨_,rfl,abs_mul_lt (m:=40) (n:=20) hvb (by omega) (by decide),Pg.mono (by omega),Sg,Ce.trans Cg⟩⟩
 rintro σ H5 ⟨n,rfl,hn,P5,S5,C5⟩
 refine mid_of (fun σ G=>∃ n:Int,σ = [some (.ref p),some (.ref l),some (.int way),some (.int sm),some (.int n)] /\ n.natAbs < 2 ^ 100 /\ Pen G p a (c+10) /\ Scr K G a ns /\ Chg p H G) (fun N hN=>?_) ?_
 ·try walk_at "WP"
  refine ite2 (fun _=>?_) (fun _=>hN _ _ ⟨_,rfl,hn,P5.mono (by omega),S5,C5⟩)
  intro e he
  have sme:=same_new he (.lst [])
  have hl0:=C5 l _ lp hl
  have hl1:=sme _ _ hl0
  have Pe:=P5.same sme
  have Se:=S5.same sme
  have Ce:=C5.trans (sme.chg (p:=p))
  refine neLI (ns:=xs) (ms:=[]) (SqL.of hl1) (SqL.of upd_same) ?_
  generalize upd H5 e (.lst [])=He at hl1 Pe Se Ce ⊢
  try walk_at "WP"
  refine ite2 (fun z2=>?_) (fun z2=>hN _ _ ⟨n,rfl,hn,Pe.mono (by omega),Se,Ce⟩)
  have hpos:0 < xs.length:=List.length_pos_iff.mpr z2
  refine ⟨_,hl1,?_⟩
  rw [qC]
  refine draw_ Pe Se h63 (by omega) (by omega) (by omega) fun g Hg g0 g1 Pg Sg Cg=>?_
  have hlg:=Cg l _ lp hl1
  obtain ⟨v,hv,hv2⟩:=atI_int (ns:=xs) g0 g1
  have hvb:=hb v (qE hv2)
  (iterate 5 ((try (walk_at "WP")); (try (simp only [hlg,qJs,qJt,qJl,qJd,exists_eq_left',exists_eq_left])))); (try (walk_at "WP"))
  refine ⟨_,hv,?_⟩
  have b1:=shl1_b (e:=sm % 40) (k:=40) (by omega)
  have e40:(2:Int) ^ 40=1099511627776:=by decide
  refine ⟨⟨by omega,by omega⟩,?_⟩
  try walk_at "WP"
  exact hN _ _ ⟨_,rfl,by omega,Pg.mono (by omega),Sg,Ce.trans Cg⟩
 rintro σ H6 ⟨n,rfl,hn,P6,S6,C6⟩
 refine mid_of (fun σ G=>∃ n:Int,σ = [some (.ref p),some (.ref l),some (.int way),some (.int sm),some (.int n)] /\ n.natAbs < 2 ^ 100 /\ Pen G p a (c+12) /\ Scr K G a ns /\ Chg p H G) (fun N hN=>?_) ?_
 ·try walk_at "WP"
  refine ite2 (fun _=>?_) (fun _=>hN _ _ ⟨_,rfl,hn,P6.mono (by omega),S6,C6⟩)
  intro e he
  have sme:=same_new he (.lst [])
  have hl0:=C6 l _ lp hl
  have hl1:=sme _ _ hl0
  have Pe:=P6.same sme
  have Se:=S6.same sme
  have Ce:=C6.trans (sme.chg (p:=p))
  refine neLI (ns:=xs) (ms:=[]) (SqL.of hl1) (SqL.of upd_same) ?_
  generalize upd H6 e (.lst [])=He at hl1 Pe Se Ce ⊢
  try walk_at "WP"
  refine ite2 (fun z2=>?_) (fun z2=>hN _ _ ⟨n,rfl,hn,Pe.mono (by omega),Se,Ce⟩)
  have hpos:0 < xs.length:=List.length_pos_iff.mpr z2
  refine ⟨_,hl1,?_⟩
  rw [qC]
  refine draw_ Pe Se h63 (by omega) (by omega) (by omega) fun g Hg g0 g1 Pg Sg Cg=>?_
  have hlg:=Cg l _ lp hl1
  obtain ⟨v,hv,hv2⟩:=atI_int (ns:=xs) g0 g1
  have hvb:=hb v (qE hv2)
  (iterate 5 ((try (walk_at "WP")); (try (simp only [hlg,qJs,qJt,qJl,qJd,exists_eq_left',exists_eq_left])))); (try (walk_at "WP"))
  refine ⟨_,hv,?_⟩
  have b1:=shl1_b (e:=1+sm % 5) (k:=5) (by omega)
  have e5:(2:Int) ^ 5=32:=by decide
  refine ⟨⟨by omega,by omega⟩,?_⟩
  try walk_at "WP"
  exact ⟨mul_r (by omega) (by omega),hN _ _ ⟨_,rfl,abs_mul_lt (m:=40) (n:=20) hvb (by omega) (by decide),Pg.mono (by omega),Sg,Ce.trans Cg⟩⟩
 rintro σ H7 ⟨n,rfl,hn,P7,S7,C7⟩
 refine mid_of (fun σ G=>∃ n:Int,σ = [some (.ref p),some (.ref l),some (.int way),some (.int sm),some (.int n)] /\ n.natAbs < 2 ^ 100 /\ Pen G p a (c+12) /\ Scr K G a ns /\ Chg p H G) (fun N hN=>?_) ?_
 ·try walk_at "WP"
  refine ite2 (fun _=>?_) (fun _=>hN _ _ ⟨_,rfl,hn,P7.mono (by omega),S7,C7⟩)
  exact hN _ _ ⟨_,rfl,by omega,P7.mono (by omega),S7,C7⟩
 rintro σ H8 ⟨n,rfl,hn,P8,S8,C8⟩
 try walk_at "WP"
 refine draw_ P8 S8 h63 (by omega) (by decide) (by decide) fun g H9 g0 g1 P9 S9 C9=>?_
 try walk_at "WP"
 refine ⟨mul_l (by decide) (by decide),mul_r (by omega) (by omega),?_⟩
 generalize hM:(if n < 0 then -n else n) % 1000000000000=M
 have M0:0 <= M /\ M < 1000000000000:=by omega
 have two:g=0 \/ g=1:=by omega
 refine q _ _ ?_ (P9.mono (by omega)) S9 (C8.trans C9)
 rcases two with z | z <;> subst z <;> omega
theorem ok_few24 (T:Txt K mg):Cal P w K mg base 3 "_law_few" ["_law_pen_here"] (spFew24 K):=by
 have B:=T.bl
 have C_l_draw:=(ok_draw (P:=P) (w:=w) (base:=base) T).mono (k:=2) (by decide)
 have C_l_close:=ok_close (P:=P) (w:=w) (base:=base) T
 refine mkCal T.t_l_few sc_l_few (fun vs H Q E h=>?_) (fun f cdv A outer s H vs Q E hr h=>?_)
 ·obtain ⟨p,a,ns,c,rfl,_⟩:=h
  rfl
 obtain ⟨p,a,ns,c,rfl,hP,hS,h63,hc,q⟩:=h
 refine ⟨_,((@pss_cons _ _ _ _ _ (@ps_set _ _ (1) _ _ _ _ sc_l_few.nd rfl (by walk_at "o") (@pe_lst _ _ _ _ pa_nil) (by rfl) (by walk_at "o")) (@pss_cons _ _ _ _ _ (@ps_for _ _ _ _ _ _ _ _ PassesOwn.never rfl (@pi_range1 _ _ _ _ _ _ rfl B.range (@pa_cons _ _ _ _ _ (@pe_cal _ _ _ _ _ _ _ _ _ _ C_l_draw hr rfl (@pa_cons _ _ _ _ _ (pv 0) (@pa_cons _ _ _ _ _ pe_int pa_nil (by rfl)) (by rfl)) (by decide) (by rfl) (by rfl)) pa_nil (by rfl)) (by rfl)) (@pg_name _ _ (2) _ sc_l_few.nd rfl (by walk_at "o") (by walk_at "o")) (@pss_one _ _ _ (@ps_expr _ _ _ _ (@pe_bm _ _ _ _ _ _ _ _ _ _ _ _ PySem.F.plainAttrs_list PySem.F.slot_list_append PySem.F.type_list_append mt_append (pv 1) (@pa_cons _ _ _ _ _ (@pe_cal _ _ _ _ _ _ _ _ _ _ C_l_close hr rfl (@pa_cons _ _ _ _ _ (pv 0) (@pa_cons _ _ _ _ _ (pv 1) pa_nil (by rfl)) (by rfl)) (by decide) (by rfl) (by rfl)) pa_nil (by rfl)) (by rfl) (by rfl) (by rfl) (by rfl) (by rfl)) (by rfl))) (by intro _ ; rfl)) (@pss_one _ _ _ (@ps_ret _ _ _ _ (pv 1)))))),?_⟩
 rw [show start ["_law_pen_here","_law_found","_law_k"] [.ref p]=[some (.ref p),none,none] from rfl]
 try walk_at "WP"
 intro r hr0
 have sm:=same_new hr0 (.lst [])
 have hrp:r ≠ p:=hP.ne hr0
 refine draw_ (hP.same sm) (hS.same sm) h63 (by omega) (by decide) (by decide) fun m H1 m0 m1 P1 S1 C1=>?_
 try walk_at "WP"
 refine ⟨by omega,by omega,?_⟩
 refine forR (fun i σ H'=>∃ (o2:Option V) (xs:List Int),σ = [some (.ref p),some (.ref r),o2] /\ H' r=some (.lst (xs.map V.int)) /\ xs.length=i /\ (∀ x ∈ xs,x.natAbs < 2 ^ 40) /\ Pen H' p a (c+1+50 * i) /\ Scr K H' a ns /\ Chg p H H')
  ⟨none,[],rfl,C1 r _ hrp upd_same,rfl,by simp,P1.mono (by omega),S1,sm.chg.trans C1⟩ ?_ ?_
 ·rintro i σ H' N hi ⟨o2,xs,rfl,hr',hl,hxs,PP,SS,CC⟩ hN
  try walk_at "WP"
  refine ⟨ty_list hr',p,a,r,ns,_,xs,rfl,PP,SS,h63,by omega,hr',hrp,by omega,hxs,fun n H2 hn P2 S2 C2=>?_⟩
  have hr2:=C2 r _ hrp hr'
  refine ⟨_,hr2,by rw [qC]; exact lt_big (by omega),?_⟩
  refine hN _ _ ⟨_,xs ++ [n],rfl,by rw [upd_same,List.map_append]; rfl,by rw [qF,hl]; rfl,fun x hx=>?_,?_,S2.chg hr2 (Chg.upd _),?_⟩
  ·rcases List.mem_append.mp hx with z | z
   ·exact hxs x z
   ·rw [List.mem_singleton.mp z]; exact hn
  ·have:=P2.mono (d:=c+1+50 * ((i+1:Nat):Int)) (by omega)
   obtain ⟨t,l,e,r6⟩:=this
   exact ⟨t,l,(Chg.upd _) p _ (Ne.symm hrp) e,r6⟩
  ·exact Chg.updN (CC.trans C2) hr0
 ·rintro σ H' ⟨o2,xs,rfl,hr',hl,hxs,PP,SS,CC⟩
  try walk_at "WP"
  exact q r xs H' hr0 hr' hrp (by omega) hxs (PP.mono (by omega)) SS CC
end
section
variable {P:Program}{w:World}{K:PySem.W.Frag}{mg:Str -> Option Value}{base:Heap}
theorem ok_law (T:Txt K mg) {f:Addr} {fd:FuncData} (F:Fun K "law" "law" s_law f fd):FnOk P w K mg base CX0 20 f fd ["_law_script"] (spLaw K):=by
 have B:=T.bl
 have C_l_pen:=(ok_pen (P:=P) (w:=w) (base:=base) T).mono (k:=19) (by decide)
 have C_l_few:=(ok_few24 (P:=P) (w:=w) (base:=base) T).mono (k:=19) (by decide)
 have C_l_right:=(ok_rightW (P:=P) (w:=w) (base:=base) T).mono (k:=19) (by decide)
 have C_shared:=(ok_shared (P:=P) (w:=w) (base:=base) T).mono (k:=19) (by decide)
 refine F.ok sc_law (fun vs H Q E h=>?_) (fun cdv A outer s H vs Q E hr h=>?_)
 ·obtain ⟨a,ns,rfl,_⟩:=h
  rfl
 obtain ⟨a,ns,rfl,hS,h63,q⟩:=h
 refine ⟨_,((@pss_cons _ _ _ _ _ (@ps_set _ _ (1) _ _ _ _ sc_law.nd rfl (by walk_at "o") (@pe_cal _ _ _ _ _ _ _ _ _ _ C_l_pen hr rfl (@pa_cons _ _ _ _ _ (pv 0) pa_nil (by rfl)) (by decide) (by rfl) (by rfl)) (by rfl) (by walk_at "o")) (@pss_cons _ _ _ _ _ (@ps_for _ _ _ _ _ _ _ _ PassesOwn.never rfl (@pi_range1 _ _ _ _ _ _ rfl B.range (@pa_cons _ _ _ _ _ pe_int pa_nil (by rfl)) (by rfl)) (@pg_name _ _ (2) _ sc_law.nd rfl (by walk_at "o") (by walk_at "o")) (@pss_cons _ _ _ _ _ (@ps_set _ _ (3) _ _ _ _ sc_law.nd rfl (by walk_at "o") (@pe_cal _ _ _ _ _ _ _ _ _ _ C_l_few hr rfl (@pa_cons _ _ _ _ _ (pv 1) pa_nil (by rfl)) (by decide) (by rfl) (by rfl)) (by rfl) (by walk_at "o")) (@pss_cons _ _ _ _ _ (@ps_set _ _ (4) _ _ _ _ sc_law.nd rfl (by walk_at "o") (@pe_callTy _ _ _ _ _ _ _ _ _ call_list_of rfl B.list bo_list (@pa_cons _ _ _ _ _ (pv 3) pa_nil (by rfl)) (by decide) (by decide) (by rfl) (by rfl)) (by rfl) (by walk_at "o")) (@pss_cons _ _ _ _ _ (@ps_set _ _ (5) _ _ _ _ sc_law.nd rfl (by walk_at "o") (@pe_cal _ _ _ _ _ _ _ _ _ _ C_shared hr rfl (@pa_cons _ _ _ _ _ (pv 4) pa_nil (by rfl)) (by decide) (by rfl) (by rfl)) (by rfl) (by walk_at "o")) (@pss_cons _ _ _ _ _ (@ps_if _ _ _ _ _ _ _ _ (@PW.pt _ _ _ (@pw_or _ _ _ _ _ _ _ (@pt_not _ _ _ _ (@pt_val _ _ _ (@pe_cal _ _ _ _ _ _ _ _ _ _ C_l_right hr rfl (@pa_cons _ _ _ _ _ (pv 5) (@pa_cons _ _ _ _ _ (pv 3) pa_nil (by rfl)) (by rfl)) (by decide) (by rfl) (by rfl)) (by intro _ ; rfl))) (@pw_or1 _ _ _ _ (@pt_cmpR _ _ _ _ _ _ _ _ (@op_neD _ _ hr) (pv 4) (pv 3) (@nomark _ _ (by decide) (by decide)))))) (@pss_one _ _ _ (@ps_ret _ _ _ _ pe_bl)) pss_nil) (@pss_cons _ _ _ _ _ (@ps_expr _ _ _ _ (@pe_bm _ _ _ _ _ _ _ _ _ _ _ _ PySem.F.plainAttrs_list PySem.F.slot_list_append PySem.F.type_list_append mt_append (@pe_ix _ _ _ _ _ _ _ ix_U (pv 5) pe_int (fun _ _=>rfl)) (@pa_cons _ _ _ _ _ (@pe_tup _ _ _ _ _ (@pa_cons _ _ _ _ _ pe_str (@pa_cons _ _ _ _ _ pe_int (@pa_cons _ _ _ _ _ pe_int (@pa_cons _ _ _ _ _ pe_int (@pa_cons _ _ _ _ _ pe_int pa_nil (by rfl)) (by rfl)) (by rfl)) (by rfl)) (by rfl))) pa_nil (by rfl)) (by rfl) (by rfl) (by rfl) (by rfl) (by rfl)) (by rfl)) (@pss_cons _ _ _ _ _ (@ps_expr _ _ _ _ (@pe_bm _ _ _ _ _ _ _ _ _ _ _ _ PySem.F.plainAttrs_list PySem.F.slot_list_append PySem.F.type_list_append mt_append (@pe_ix _ _ _ _ _ _ _ ix_U (pv 5) pe_int (fun _ _=>rfl)) (@pa_cons _ _ _ _ _ (@pe_tup _ _ _ _ _ (@pa_cons _ _ _ _ _ pe_int (@pa_cons _ _ _ _ _ pe_int (@pa_cons _ _ _ _ _ pe_int pa_nil (by rfl)) (by rfl)) (by rfl))) pa_nil (by rfl)) (by rfl) (by rfl) (by rfl) (by rfl) (by rfl)) (by rfl)) (@pss_cons _ _ _ _ _ (@ps_expr _ _ _ _ (@pe_bm _ _ _ _ _ _ _ _ _ _ _ _ PySem.F.plainAttrs_list PySem.F.slot_list_append PySem.F.type_list_append mt_append (pv 4) (@pa_cons _ _ _ _ _ pe_int pa_nil (by rfl)) (by rfl) (by rfl) (by rfl) (by rfl) (by rfl)) (by rfl)) (@pss_one _ _ _ (@ps_if _ _ _ _ _ _ _ _ (@pt_not _ _ _ _ (@pt_val _ _ _ (@pe_cal _ _ _ _ _ _ _ _ _ _ C_l_right hr rfl (@pa_cons _ _ _ _ _ (@pe_cal _ _ _ _ _ _ _ _ _ _ C_shared hr rfl (@pa_cons _ _ _ _ _ (@pe_callTy _ _ _ _ _ _ _ _ _ call_list_of rfl B.list bo_list (@pa_cons _ _ _ _ _ (pv 3) pa_nil (by rfl)) (by decide) (by decide) (by rfl) (by rfl)) pa_nil (by rfl)) (by decide) (by rfl) (by rfl)) (@pa_cons _ _ _ _ _ (pv 3) pa_nil (by rfl)) (by rfl)) (by decide) (by rfl) (by rfl)) (by intro _ ; rfl))) (@pss_one _ _ _ (@ps_ret _ _ _ _ pe_bl)) pss_nil))))))))) (by intro _ ; rfl)) (@pss_one _ _ _ (@ps_ret _ _ _ _ (@pe_and _ _ _ _ _ _ _ (@pe_cal _ _ _ _ _ _ _ _ _ _ C_l_right hr rfl (@pa_cons _ _ _ _ _ (@pe_cal _ _ _ _ _ _ _ _ _ _ C_shared hr rfl (@pa_cons _ _ _ _ _ (@pe_lst _ _ _ _ pa_nil) pa_nil (by rfl)) (by decide) (by rfl) (by rfl)) (@pa_cons _ _ _ _ _ (@pe_lst _ _ _ _ pa_nil) pa_nil (by rfl)) (by rfl)) (by decide) (by rfl) (by rfl)) (@pe_one _ _ _ _ _ (@pe_cal _ _ _ _ _ _ _ _ _ _ C_l_right hr rfl (@pa_cons _ _ _ _ _ (@pe_cal _ _ _ _ _ _ _ _ _ _ C_shared hr rfl (@pa_cons _ _ _ _ _ (@pe_lst _ _ _ _ (@pa_cons _ _ _ _ _ pe_int (@pa_cons _ _ _ _ _ (@pe_un _ _ _ _ _ _ un_neg pe_int) (@pa_cons _ _ _ _ _ pe_int pa_nil (by rfl)) (by rfl)) (by rfl))) pa_nil (by rfl)) (by decide) (by rfl) (by rfl)) (@pa_cons _ _ _ _ _ (@pe_lst _ _ _ _ (@pa_cons _ _ _ _ _ pe_int (@pa_cons _ _ _ _ _ (@pe_un _ _ _ _ _ _ un_neg pe_int) (@pa_cons _ _ _ _ _ pe_int pa_nil (by rfl)) (by rfl)) (by rfl))) pa_nil (by rfl)) (by rfl)) (by decide) (by rfl) (by rfl))))))))),?_⟩
 rw [show start ["_law_script","_law_pen_here","_law_turn","_law_due","_law_handed","_law_web"] [.ref a]=[some (.ref a),none,none,none,none,none] from rfl]
 try walk_at "WP"
 refine ⟨a,rfl,fun p H1 hp sm1 P1=>?_⟩
 try walk_at "WP"
 refine forR (fun i σ H'=>∃ o2 o3 o4 o5,σ = [some (.ref a),some (.ref p),o2,o3,o4,o5] /\ Pen H' p a (2000 * i) /\ Scr K H' a ns) ⟨none,none,none,none,rfl,P1.mono (by simp),hS.same sm1⟩ ?_ ?_
 ·rintro i σ H' N hi ⟨o2,o3,o4,o5,rfl,PP,SS⟩ hN
  try walk_at "WP"
  refine ⟨p,a,ns,_,rfl,PP,SS,h63,by omega,fun r xs H2 hr0 hr2 hrp hlen hxs P2 S2 C2=>?_⟩
  try walk_at "WP"
  refine ⟨_,.inl (SqL.of hr2),fun l hl=>?_⟩
  have hlr:l ≠ r:=(ne_of_none hr2 hl).symm
  have hlp:l ≠ p:=P2.ne hl
  refine abs_ hl fun H3 s3 hll=>?_
  have P3:=P2.same s3
  have S3:=S2.same s3
  have hr3:=s3 _ _ hr2
  try walk_at "WP"
  refine ⟨l,xs,rfl,hll,hlen,hxs,fun t dl gl us os es gs H4 nt nd ng dg s4 W4 F4 B4 O4 R4 L4=>?_⟩
  try walk_at "WP"
  refine ⟨t,dl,gl,r,us,os,es,gs,xs,rfl,W4,F4,B4,O4,R4,s4 _ _ hr3,hlen,hxs,L4,fun H5 s5=>?_⟩
  try walk_at "WP"
  have s35:=s4.trans s5
  refine neLI (ns:=xs) (ms:=xs) (SqL.of (s35 _ _ hll)) (SqL.of (s35 _ _ hr3)) ?_
  have W5:=W4.same s5
  have hll5:=s35 _ _ hll
  have hr5:=s35 _ _ hr3
  have P5:=P3.same s35
  have S5:=S3.same s35
  have ht1:=W5.tup
  have hd1:=W5.dll
  have ho1:=W5.gll
  have hd2:=W5.hds.len
  have ho2:=W5.hgs.len
  have dl4:=F4.ok.dl
  have gl4:=F4.ok.gl
  have htd:t ≠ dl:=ne_of ht1 hd1 (by intro z; cases z)
  have hto:t ≠ gl:=ne_of ht1 ho1 (by intro z; cases z)
  have hrd:r ≠ dl:=ne_of_none hr3 nd
  have hro:r ≠ gl:=ne_of_none hr3 ng
  have hld:l ≠ dl:=ne_of_none hll nd
  have hlo:l ≠ gl:=ne_of_none hll ng
  have keep:∀ (b:Addr) (H6:Hp) (us6:List V),H6 b=some (.lst us6) -> b ≠ p -> ∀ vs6,Pen H6 p a (2000 * i+1000) -> Scr K H6 a ns -> Pen (upd H6 b (.lst vs6)) p a (2000 * i+1000) /\ Scr K (upd H6 b (.lst vs6)) a ns:=fun b H6 us6 hb6 hbp vs6 P6 S6=>by
   have C6:Chg b H6 (upd H6 b (.lst vs6)):=Chg.upd _
   refine ⟨?_,S6.chg hb6 C6⟩
   obtain ⟨t6,l6,e6,r6⟩:=P6
   exact ⟨t6,l6,C6 p _ (Ne.symm hbp) e6,r6⟩
  have hdp:dl ≠ p:=P3.ne nd
  have hop:gl ≠ p:=P3.ne ng
  (iterate 5 ((try (walk_at "WP")); (try (simp only [ht1,qJs,qJt,qJl,qJd,exists_eq_left',exists_eq_left])))); (try (walk_at "WP"))
  refine ⟨ty_list hd1,fun y hy=>?_⟩
  have sy:=same_new hy (.tup [V.str "sum",V.int 0,V.int 0,V.int 0,V.int 0])
  have hd6:=sy _ _ hd1
  have ho6:=sy _ _ ho1
  have ht6:=sy _ _ ht1
  have hr6:=sy _ _ hr5
  have hl6:=sy _ _ hll5
  have P6:=P5.same sy
  have S6:=S5.same sy
  generalize upd H5 y (.tup [V.str "sum",V.int 0,V.int 0,V.int 0,V.int 0])=H6 at hd6 ho6 ht6 hr6 hl6 P6 S6 ⊢
  refine ⟨_,hd6,lt_big (by omega),?_⟩
  obtain ⟨P7,S7⟩:=keep dl H6 _ hd6 hdp (us ++ [V.ref y]) P6 S6
  have ho7:upd H6 dl (.lst (us ++ [V.ref y])) gl=some (.lst os):=by rw [upd_ne dg.symm]; exact ho6
  have ht7:upd H6 dl (.lst (us ++ [V.ref y])) t=some (.tup [V.int 1,V.ref dl,V.ref gl]):=by rw [upd_ne htd]; exact ht6
  have hr7:upd H6 dl (.lst (us ++ [V.ref y])) r=some (.lst (xs.map V.int)):=by rw [upd_ne hrd]; exact hr6
  have hl7:upd H6 dl (.lst (us ++ [V.ref y])) l=some (.lst (xs.map V.int)):=by rw [upd_ne hld]; exact hl6
  generalize upd H6 dl (.lst (us ++ [V.ref y]))=H7 at P7 S7 ho7 ht7 hr7 hl7 ⊢
  (iterate 5 ((try (walk_at "WP")); (try (simp only [ht7,qJs,qJt,qJl,qJd,exists_eq_left',exists_eq_left])))); (try (walk_at "WP"))
  refine ⟨ty_list ho7,fun y2 hy2=>?_⟩
  have sy2:=same_new hy2 (.tup [V.int 0,V.int 0,V.int 1])
  have ho9:=sy2 _ _ ho7
  have hr9:=sy2 _ _ hr7
  have hl9:=sy2 _ _ hl7
  have P9:=P7.same sy2
  have S9:=S7.same sy2
  generalize upd H7 y2 (.tup [V.int 0,V.int 0,V.int 1])=H9 at ho9 hr9 hl9 P9 S9 ⊢
  refine ⟨_,ho9,lt_big (by omega),?_⟩
  obtain ⟨Pa,Sa⟩:=keep gl H9 _ ho9 hop (os ++ [V.ref y2]) P9 S9
  have hra:upd H9 gl (.lst (os ++ [V.ref y2])) r=some (.lst (xs.map V.int)):=by rw [upd_ne hro]; exact hr9
  have hla:upd H9 gl (.lst (os ++ [V.ref y2])) l=some (.lst (xs.map V.int)):=by rw [upd_ne hlo]; exact hl9
  generalize upd H9 gl (.lst (os ++ [V.ref y2]))=Ha at Pa Sa hra hla ⊢
  try walk_at "WP"
  refine ⟨ty_list hla,_,hla,by rw [qC]; exact lt_big (by omega),?_⟩
  obtain ⟨Pb,Sb⟩:=keep l Ha _ hla hlp (xs.map V.int ++ [V.int 1]) Pa Sa
  have hrb:upd Ha l (.lst (xs.map V.int ++ [V.int 1])) r=some (.lst (xs.map V.int)):=by rw [upd_ne hlr.symm]; exact hra
  generalize upd Ha l (.lst (xs.map V.int ++ [V.int 1]))=Hb at Pb Sb hrb ⊢
  try walk_at "WP"
  refine ⟨_,.inl (SqL.of hrb),fun m hm=>?_⟩
  refine abs_ hm fun Hc sc hmm=>?_
  refine ⟨m,xs,rfl,hmm,hlen,hxs,fun t2 dl2 gl2 us2 os2 es2 gs2 Hd nt2 nd2 ng2 dg2 sd W2 F2 B2 O2 R2 L2=>?_⟩
  try walk_at "WP"
  refine ⟨t2,dl2,gl2,r,us2,os2,es2,gs2,xs,rfl,W2,F2,B2,O2,R2,sd _ _ (sc _ _ hrb),hlen,hxs,L2,fun He se=>?_⟩
  try walk_at "WP"
  have sbe:=(sc.trans sd).trans se
  exact hN _ _ ⟨_,_,_,_,rfl,(Pb.same sbe).mono (by omega),Sb.same sbe⟩
 ·rintro σ H' ⟨o2,o3,o4,o5,rfl,PP,SS⟩
  try walk_at "WP"
  intro e1 he1
  refine abs_ he1 fun H2 s2 h2=>?_
  refine ⟨e1,[],rfl,h2,by simp,by simp,fun t dl gl us os es gs H4 nt nd ng dg s4 W4 F4 B4 O4 R4 L4=>?_⟩
  try walk_at "WP"
  intro e2 he2
  refine abs_ he2 fun H5 s5 h5=>?_
  refine ⟨t,dl,gl,e2,us,os,es,gs,[],rfl,W4.same s5,F4,B4,O4,R4,h5,by simp,by simp,L4,fun H6 s6=>?_⟩
  try walk_at "WP"
  have b0:∀ x ∈ [(0:Int),-1,2],x.natAbs < 2 ^ 40:=fun x hx=>by
   simp only [List.mem_cons,List.not_mem_nil,or_false] at hx
   rcases hx with z | z | z <;> rw [z] <;> decide
  intro e3 he3
  refine abs_ he3 fun H7 s7 h7=>?_
  refine ⟨e3,[0,-1,2],rfl,h7,by simp,b0,fun t dl gl us os es gs H8 nt nd ng dg s8 W8 F8 B8 O8 R8 L8=>?_⟩
  try walk_at "WP"
  intro e4 he4
  refine abs_ he4 fun H9 s9 h9=>?_
  refine ⟨t,dl,gl,e4,us,os,es,gs,[0,-1,2],rfl,W8.same s9,F8,B8,O8,R8,h9,by simp,b0,L8,fun HA sA=>?_⟩
  exact q _
end
theorem ln1 {α:Type}{us:List α}(h:us.length=1):∃ a0,us=[a0]:=match us,h with | [a0],_=>⟨a0,rfl⟩
theorem ln2 {α:Type}{us:List α}(h:us.length=2):∃ a0 a1,us=[a0,a1]:=match us,h with | [a0,a1],_=>⟨a0,a1,rfl⟩
theorem ln3 {α:Type}{us:List α}(h:us.length=3):∃ a0 a1 a2,us=[a0,a1,a2]:=match us,h with | [a0,a1,a2],_=>⟨a0,a1,a2,rfl⟩
theorem all_mk {l:PySem.W.OpenLaw} {w:World} {K:PySem.W.Frag} {h:Heap} {mg:Str -> Option Value} {fa:Addr} (X:K.In h) (G:h.Ns mainGlobals mg) (hfa:mg "law" = some (.ref fa))
  {f1:Addr} {od1 an1:Option Addr} {sl1:Array (Option Value)} {oc1 kV1 dc1 pm1 cd1 ct1:Value} {f2:Addr} {od2 an2:Option Addr} {sl2:Array (Option Value)} {oc2 kV2 dc2 pm2 cd2 ct2:Value} {f3:Addr} {od3 an3:Option Addr} {sl3:Array (Option Value)} {oc3 kV3 dc3 pm3 cd3 ct3:Value} {f4:Addr} {od4 an4:Option Addr} {sl4:Array (Option Value)} {oc4 kV4 dc4 pm4 cd4 ct4:Value} {f5:Addr} {od5 an5:Option Addr} {sl5:Array (Option Value)} {oc5 kV5 dc5 pm5 cd5 ct5:Value} {f6:Addr} {od6 an6:Option Addr} {sl6:Array (Option Value)} {oc6 kV6 dc6 pm6 cd6 ct6:Value} {f7:Addr} {od7 an7:Option Addr} {sl7:Array (Option Value)} {oc7 kV7 dc7 pm7 cd7 ct7:Value} {f8:Addr} {od8 an8:Option Addr} {sl8:Array (Option Value)} {oc8 kV8 dc8 pm8 cd8 ct8:Value} {f9:Addr} {od9 an9:Option Addr} {sl9:Array (Option Value)} {oc9 kV9 dc9 pm9 cd9 ct9:Value} {f10:Addr} {od10 an10:Option Addr} {sl10:Array (Option Value)} {oc10 kV10 dc10 pm10 cd10 ct10:Value} {f11:Addr} {od11 an11:Option Addr} {sl11:Array (Option Value)} {oc11 kV11 dc11 pm11 cd11 ct11:Value} {f12:Addr} {od12 an12:Option Addr} {sl12:Array (Option Value)} {oc12 kV12 dc12 pm12 cd12 ct12:Value} {f13:Addr} {od13 an13:Option Addr} {sl13:Array (Option Value)} {oc13 kV13 dc13 pm13 cd13 ct13:Value} {f14:Addr} {od14 an14:Option Addr} {sl14:Array (Option Value)} {oc14 kV14 dc14 pm14 cd14 ct14:Value} {f15:Addr} {od15 an15:Option Addr} {sl15:Array (Option Value)} {oc15 kV15 dc15 pm15 cd15 ct15:Value} {f16:Addr} {od16 an16:Option Addr} {sl16:Array (Option Value)} {oc16 kV16 dc16 pm16 cd16 ct16:Value} {f17:Addr} {od17 an17:Option Addr} {sl17:Array (Option Value)} {oc17 kV17 dc17 pm17 cd17 ct17:Value} {f18:Addr} {od18 an18:Option Addr} {sl18:Array (Option Value)} {oc18 kV18 dc18 pm18 cd18 ct18:Value} {f19:Addr} {od19 an19:Option Addr} {sl19:Array (Option Value)} {oc19 kV19 dc19 pm19 cd19 ct19:Value} {f20:Addr} {od20 an20:Option Addr} {sl20:Array (Option Value)} {oc20 kV20 dc20 pm20 cd20 ct20:Value} {f21:Addr} {od21 an21:Option Addr} {sl21:Array (Option Value)} {oc21 kV21 dc21 pm21 cd21 ct21:Value} {f22:Addr} {od22 an22:Option Addr} {sl22:Array (Option Value)} {oc22 kV22 dc22 pm22 cd22 ct22:Value} {f23:Addr} {od23 an23:Option Addr} {sl23:Array (Option Value)} {oc23 kV23 dc23 pm23 cd23 ct23:Value} {f24:Addr} {od24 an24:Option Addr} {sl24:Array (Option Value)} {oc24 kV24 dc24 pm24 cd24 ct24:Value} {f25:Addr} {od25 an25:Option Addr} {sl25:Array (Option Value)} {oc25 kV25 dc25 pm25 cd25 ct25:Value} {f26:Addr} {od26 an26:Option Addr} {sl26:Array (Option Value)} {oc26 kV26 dc26 pm26 cd26 ct26:Value} {f27:Addr} {od27 an27:Option Addr} {sl27:Array (Option Value)} {oc27 kV27 dc27 pm27 cd27 ct27:Value} {f28:Addr} {od28 an28:Option Addr} {sl28:Array (Option Value)} {oc28 kV28 dc28 pm28 cd28 ct28:Value} {f29:Addr} {od29 an29:Option Addr} {sl29:Array (Option Value)} {oc29 kV29 dc29 pm29 cd29 ct29:Value} {f30:Addr} {od30 an30:Option Addr} {sl30:Array (Option Value)} {oc30 kV30 dc30 pm30 cd30 ct30:Value} {f31:Addr} {od31 an31:Option Addr} {sl31:Array (Option Value)} {oc31 kV31 dc31 pm31 cd31 ct31:Value} {f32:Addr} {od32 an32:Option Addr} {sl32:Array (Option Value)} {oc32 kV32 dc32 pm32 cd32 ct32:Value} {f33:Addr} {od33 an33:Option Addr} {sl33:Array (Option Value)} {oc33 kV33 dc33 pm33 cd33 ct33:Value} {f34:Addr} {od34 an34:Option Addr} {sl34:Array (Option Value)} {oc34 kV34 dc34 pm34 cd34 ct34:Value} {f35:Addr} {od35 an35:Option Addr} {sl35:Array (Option Value)} {oc35 kV35 dc35 pm35 cd35 ct35:Value} {f36:Addr} {od36 an36:Option Addr} {sl36:Array (Option Value)} {oc36 kV36 dc36 pm36 cd36 ct36:Value} {f37:Addr} {od37 an37:Option Addr} {sl37:Array (Option Value)} {oc37 kV37 dc37 pm37 cd37 ct37:Value} {f38:Addr} {od38 an38:Option Addr} {sl38:Array (Option Value)} {oc38 kV38 dc38 pm38 cd38 ct38:Value} {f39:Addr} {od39 an39:Option Addr} {sl39:Array (Option Value)} {oc39 kV39 dc39 pm39 cd39 ct39:Value} {f40:Addr} {od40 an40:Option Addr} {sl40:Array (Option Value)} {oc40 kV40 dc40 pm40 cd40 ct40:Value} {f41:Addr} {od41 an41:Option Addr} {sl41:Array (Option Value)} {oc41 kV41 dc41 pm41 cd41 ct41:Value} {f42:Addr} {od42 an42:Option Addr} {sl42:Array (Option Value)} {oc42 kV42 dc42 pm42 cd42 ct42:Value} {f43:Addr} {od43 an43:Option Addr} {sl43:Array (Option Value)} {oc43 kV43 dc43 pm43 cd43 ct43:Value} {fc1:Addr} {oe1:Option Addr} {sm1:Array (Option Value)} {nc1:Nat} {ta1 tb1 td1:Tok}
  (a1:PySem.W.nsIn K mainGlobals "core" = some (some (.ref f1))) (l1:K.lookup f1=some ⟨oc1,od1,.func (PySem.W.fnOf "core" "core" (defArgs s_core) (defBody s_core) (defScope s_core) .none kV1 dc1 pm1 an1 cd1 ct1),sl1⟩) (c1:PySem.W.codeIn K cd1 "core" = true) (k1:PySem.W.keepIn K (.ref f1)=true)
  (a2:PySem.W.nsIn K mainGlobals "shifted" = some (some (.ref f2))) (l2:K.lookup f2=some ⟨oc2,od2,.func (PySem.W.fnOf "shifted" "shifted" (defArgs s_shifted) (defBody s_shifted) (defScope s_shifted) .none kV2 dc2 pm2 an2 cd2 ct2),sl2⟩) (c2:PySem.W.codeIn K cd2 "shifted" = true) (k2:PySem.W.keepIn K (.ref f2)=true)
  (a3:PySem.W.nsIn K mainGlobals "shifted_row" = some (some (.ref f3))) (l3:K.lookup f3=some ⟨oc3,od3,.func (PySem.W.fnOf "shifted_row" "shifted_row" (defArgs s_shifted_row) (defBody s_shifted_row) (defScope s_shifted_row) .none kV3 dc3 pm3 an3 cd3 ct3),sl3⟩) (c3:PySem.W.codeIn K cd3 "shifted_row" = true) (k3:PySem.W.keepIn K (.ref f3)=true)
  (a4:PySem.W.nsIn K mainGlobals "input_rows" = some (some (.ref f4))) (l4:K.lookup f4=some ⟨oc4,od4,.func (PySem.W.fnOf "input_rows" "input_rows" (defArgs s_input_rows) (defBody s_input_rows) (defScope s_input_rows) .none kV4 dc4 pm4 an4 cd4 ct4),sl4⟩) (c4:PySem.W.codeIn K cd4 "input_rows" = true) (k4:PySem.W.keepIn K (.ref f4)=true)
  (a5:PySem.W.nsIn K mainGlobals "input_row" = some (some (.ref f5))) (l5:K.lookup f5=some ⟨oc5,od5,.func (PySem.W.fnOf "input_row" "input_row" (defArgs s_input_row) (defBody s_input_row) (defScope s_input_row) .none kV5 dc5 pm5 an5 cd5 ct5),sl5⟩) (c5:PySem.W.codeIn K cd5 "input_row" = true) (k5:PySem.W.keepIn K (.ref f5)=true)
  (a6:PySem.W.nsIn K mainGlobals "deed_row" = some (some (.ref f6))) (l6:K.lookup f6=some ⟨oc6,od6,.func (PySem.W.fnOf "deed_row" "deed_row" (defArgs s_deed_row) (defBody s_deed_row) (defScope s_deed_row) .none kV6 dc6 pm6 an6 cd6 ct6),sl6⟩) (c6:PySem.W.codeIn K cd6 "deed_row" = true) (k6:PySem.W.keepIn K (.ref f6)=true)
  (a7:PySem.W.nsIn K mainGlobals "second_sign" = some (some (.ref f7))) (l7:K.lookup f7=some ⟨oc7,od7,.func (PySem.W.fnOf "second_sign" "second_sign" (defArgs s_second_sign) (defBody s_second_sign) (defScope s_second_sign) .none kV7 dc7 pm7 an7 cd7 ct7),sl7⟩) (c7:PySem.W.codeIn K cd7 "second_sign" = true) (k7:PySem.W.keepIn K (.ref f7)=true)
  (a8:PySem.W.nsIn K mainGlobals "numbers" = some (some (.ref f8))) (l8:K.lookup f8=some ⟨oc8,od8,.func (PySem.W.fnOf "numbers" "numbers" (defArgs s_numbers) (defBody s_numbers) (defScope s_numbers) .none kV8 dc8 pm8 an8 cd8 ct8),sl8⟩) (c8:PySem.W.codeIn K cd8 "numbers" = true) (k8:PySem.W.keepIn K (.ref f8)=true)
  (a9:PySem.W.nsIn K mainGlobals "deed_arrows" = some (some (.ref f9))) (l9:K.lookup f9=some ⟨oc9,od9,.func (PySem.W.fnOf "deed_arrows" "deed_arrows" (defArgs s_deed_arrows) (defBody s_deed_arrows) (defScope s_deed_arrows) .none kV9 dc9 pm9 an9 cd9 ct9),sl9⟩) (c9:PySem.W.codeIn K cd9 "deed_arrows" = true) (k9:PySem.W.keepIn K (.ref f9)=true)
  (a10:PySem.W.nsIn K mainGlobals "thing_count" = some (some (.ref f10))) (l10:K.lookup f10=some ⟨oc10,od10,.func (PySem.W.fnOf "thing_count" "thing_count" (defArgs s_thing_count) (defBody s_thing_count) (defScope s_thing_count) .none kV10 dc10 pm10 an10 cd10 ct10),sl10⟩) (c10:PySem.W.codeIn K cd10 "thing_count" = true) (k10:PySem.W.keepIn K (.ref f10)=true)
  (a11:PySem.W.nsIn K mainGlobals "parts_of" = some (some (.ref f11))) (l11:K.lookup f11=some ⟨oc11,od11,.func (PySem.W.fnOf "parts_of" "parts_of" (defArgs s_parts_of) (defBody s_parts_of) (defScope s_parts_of) .none kV11 dc11 pm11 an11 cd11 ct11),sl11⟩) (c11:PySem.W.codeIn K cd11 "parts_of" = true) (k11:PySem.W.keepIn K (.ref f11)=true)
  (a12:PySem.W.nsIn K mainGlobals "moved" = some (some (.ref f12))) (l12:K.lookup f12=some ⟨oc12,od12,.func (PySem.W.fnOf "moved" "moved" (defArgs s_moved) (defBody s_moved) (defScope s_moved) .none kV12 dc12 pm12 an12 cd12 ct12),sl12⟩) (c12:PySem.W.codeIn K cd12 "moved" = true) (k12:PySem.W.keepIn K (.ref f12)=true)
  (a13:PySem.W.nsIn K mainGlobals "deed_of" = some (some (.ref f13))) (l13:K.lookup f13=some ⟨oc13,od13,.func (PySem.W.fnOf "deed_of" "deed_of" (defArgs s_deed_of) (defBody s_deed_of) (defScope s_deed_of) .none kV13 dc13 pm13 an13 cd13 ct13),sl13⟩) (c13:PySem.W.codeIn K cd13 "deed_of" = true) (k13:PySem.W.keepIn K (.ref f13)=true)
  (a14:PySem.W.nsIn K mainGlobals "sign_of" = some (some (.ref f14))) (l14:K.lookup f14=some ⟨oc14,od14,.func (PySem.W.fnOf "sign_of" "sign_of" (defArgs s_sign_of) (defBody s_sign_of) (defScope s_sign_of) .none kV14 dc14 pm14 an14 cd14 ct14),sl14⟩) (c14:PySem.W.codeIn K cd14 "sign_of" = true) (k14:PySem.W.keepIn K (.ref f14)=true)
  (a15:PySem.W.nsIn K mainGlobals "out_for" = some (some (.ref f15))) (l15:K.lookup f15=some ⟨oc15,od15,.func (PySem.W.fnOf "out_for" "out_for" (defArgs s_out_for) (defBody s_out_for) (defScope s_out_for) .none kV15 dc15 pm15 an15 cd15 ct15),sl15⟩) (c15:PySem.W.codeIn K cd15 "out_for" = true) (k15:PySem.W.keepIn K (.ref f15)=true)
  (a16:PySem.W.nsIn K mainGlobals "signs" = some (some (.ref f16))) (l16:K.lookup f16=some ⟨oc16,od16,.func (PySem.W.fnOf "signs" "signs" (defArgs s_signs) (defBody s_signs) (defScope s_signs) .none kV16 dc16 pm16 an16 cd16 ct16),sl16⟩) (c16:PySem.W.codeIn K cd16 "signs" = true) (k16:PySem.W.keepIn K (.ref f16)=true)
  (a17:PySem.W.nsIn K mainGlobals "first_sign" = some (some (.ref f17))) (l17:K.lookup f17=some ⟨oc17,od17,.func (PySem.W.fnOf "first_sign" "first_sign" (defArgs s_first_sign) (defBody s_first_sign) (defScope s_first_sign) .none kV17 dc17 pm17 an17 cd17 ct17),sl17⟩) (c17:PySem.W.codeIn K cd17 "first_sign" = true) (k17:PySem.W.keepIn K (.ref f17)=true)
  (a18:PySem.W.nsIn K mainGlobals "by_signs" = some (some (.ref f18))) (l18:K.lookup f18=some ⟨oc18,od18,.func (PySem.W.fnOf "by_signs" "by_signs" (defArgs s_by_signs) (defBody s_by_signs) (defScope s_by_signs) .none kV18 dc18 pm18 an18 cd18 ct18),sl18⟩) (c18:PySem.W.codeIn K cd18 "by_signs" = true) (k18:PySem.W.keepIn K (.ref f18)=true)
  (a19:PySem.W.nsIn K mainGlobals "unlike_cores" = some (some (.ref f19))) (l19:K.lookup f19=some ⟨oc19,od19,.func (PySem.W.fnOf "unlike_cores" "unlike_cores" (defArgs s_unlike_cores) (defBody s_unlike_cores) (defScope s_unlike_cores) .none kV19 dc19 pm19 an19 cd19 ct19),sl19⟩) (c19:PySem.W.codeIn K cd19 "unlike_cores" = true) (k19:PySem.W.keepIn K (.ref f19)=true)
  (a20:PySem.W.nsIn K mainGlobals "add_chain" = some (some (.ref f20))) (l20:K.lookup f20=some ⟨oc20,od20,.func (PySem.W.fnOf "add_chain" "add_chain" (defArgs s_add_chain) (defBody s_add_chain) (defScope s_add_chain) .none kV20 dc20 pm20 an20 cd20 ct20),sl20⟩) (c20:PySem.W.codeIn K cd20 "add_chain" = true) (k20:PySem.W.keepIn K (.ref f20)=true)
  (a21:PySem.W.nsIn K mainGlobals "used" = some (some (.ref f21))) (l21:K.lookup f21=some ⟨oc21,od21,.func (PySem.W.fnOf "used" "used" (defArgs s_used) (defBody s_used) (defScope s_used) .none kV21 dc21 pm21 an21 cd21 ct21),sl21⟩) (c21:PySem.W.codeIn K cd21 "used" = true) (k21:PySem.W.keepIn K (.ref f21)=true)
  (a22:PySem.W.nsIn K mainGlobals "pruned" = some (some (.ref f22))) (l22:K.lookup f22=some ⟨oc22,od22,.func (PySem.W.fnOf "pruned" "pruned" (defArgs s_pruned) (defBody s_pruned) (defScope s_pruned) .none kV22 dc22 pm22 an22 cd22 ct22),sl22⟩) (c22:PySem.W.codeIn K cd22 "pruned" = true) (k22:PySem.W.keepIn K (.ref f22)=true)
  (a23:PySem.W.nsIn K mainGlobals "form_of" = some (some (.ref f23))) (l23:K.lookup f23=some ⟨oc23,od23,.func (PySem.W.fnOf "form_of" "form_of" (defArgs s_form_of) (defBody s_form_of) (defScope s_form_of) .none kV23 dc23 pm23 an23 cd23 ct23),sl23⟩) (c23:PySem.W.codeIn K cd23 "form_of" = true) (k23:PySem.W.keepIn K (.ref f23)=true)
  (a24:PySem.W.nsIn K mainGlobals "bare" = some (some (.ref f24))) (l24:K.lookup f24=some ⟨oc24,od24,.func (PySem.W.fnOf "bare" "bare" (defArgs s_bare) (defBody s_bare) (defScope s_bare) .none kV24 dc24 pm24 an24 cd24 ct24),sl24⟩) (c24:PySem.W.codeIn K cd24 "bare" = true) (k24:PySem.W.keepIn K (.ref f24)=true)
  (a25:PySem.W.nsIn K mainGlobals "merged" = some (some (.ref f25))) (l25:K.lookup f25=some ⟨oc25,od25,.func (PySem.W.fnOf "merged" "merged" (defArgs s_merged) (defBody s_merged) (defScope s_merged) .none kV25 dc25 pm25 an25 cd25 ct25),sl25⟩) (c25:PySem.W.codeIn K cd25 "merged" = true) (k25:PySem.W.keepIn K (.ref f25)=true)
  (a26:PySem.W.nsIn K mainGlobals "part_by" = some (some (.ref f26))) (l26:K.lookup f26=some ⟨oc26,od26,.func (PySem.W.fnOf "part_by" "part_by" (defArgs s_part_by) (defBody s_part_by) (defScope s_part_by) .none kV26 dc26 pm26 an26 cd26 ct26),sl26⟩) (c26:PySem.W.codeIn K cd26 "part_by" = true) (k26:PySem.W.keepIn K (.ref f26)=true)
  (a27:PySem.W.nsIn K mainGlobals "shared" = some (some (.ref f27))) (l27:K.lookup f27=some ⟨oc27,od27,.func (PySem.W.fnOf "shared" "shared" (defArgs s_shared) (defBody s_shared) (defScope s_shared) .none kV27 dc27 pm27 an27 cd27 ct27),sl27⟩) (c27:PySem.W.codeIn K cd27 "shared" = true) (k27:PySem.W.keepIn K (.ref f27)=true)
  (a28:PySem.W.nsIn K mainGlobals "_law_pen" = some (some (.ref f28))) (l28:K.lookup f28=some ⟨oc28,od28,.func (PySem.W.fnOf "_law_pen" "_law_pen" (defArgs s_l_pen) (defBody s_l_pen) (defScope s_l_pen) .none kV28 dc28 pm28 an28 cd28 ct28),sl28⟩) (c28:PySem.W.codeIn K cd28 "_law_pen" = true) (k28:PySem.W.keepIn K (.ref f28)=true)
  (a29:PySem.W.nsIn K mainGlobals "_law_draw" = some (some (.ref f29))) (l29:K.lookup f29=some ⟨oc29,od29,.func (PySem.W.fnOf "_law_draw" "_law_draw" (defArgs s_l_draw) (defBody s_l_draw) (defScope s_l_draw) .none kV29 dc29 pm29 an29 cd29 ct29),sl29⟩) (c29:PySem.W.codeIn K cd29 "_law_draw" = true) (k29:PySem.W.keepIn K (.ref f29)=true)
  (a30:PySem.W.nsIn K mainGlobals "_law_whole" = some (some (.ref f30))) (l30:K.lookup f30=some ⟨oc30,od30,.func (PySem.W.fnOf "_law_whole" "_law_whole" (defArgs s_l_whole) (defBody s_l_whole) (defScope s_l_whole) .none kV30 dc30 pm30 an30 cd30 ct30),sl30⟩) (c30:PySem.W.codeIn K cd30 "_law_whole" = true) (k30:PySem.W.keepIn K (.ref f30)=true)
  (a31:PySem.W.nsIn K mainGlobals "_law_signs" = some (some (.ref f31))) (l31:K.lookup f31=some ⟨oc31,od31,.func (PySem.W.fnOf "_law_signs" "_law_signs" (defArgs s_l_signs) (defBody s_l_signs) (defScope s_l_signs) .none kV31 dc31 pm31 an31 cd31 ct31),sl31⟩) (c31:PySem.W.codeIn K cd31 "_law_signs" = true) (k31:PySem.W.keepIn K (.ref f31)=true)
  (a32:PySem.W.nsIn K mainGlobals "_law_least" = some (some (.ref f32))) (l32:K.lookup f32=some ⟨oc32,od32,.func (PySem.W.fnOf "_law_least" "_law_least" (defArgs s_l_least) (defBody s_l_least) (defScope s_l_least) .none kV32 dc32 pm32 an32 cd32 ct32),sl32⟩) (c32:PySem.W.codeIn K cd32 "_law_least" = true) (k32:PySem.W.keepIn K (.ref f32)=true)
  (a33:PySem.W.nsIn K mainGlobals "_law_shifted" = some (some (.ref f33))) (l33:K.lookup f33=some ⟨oc33,od33,.func (PySem.W.fnOf "_law_shifted" "_law_shifted" (defArgs s_l_shifted) (defBody s_l_shifted) (defScope s_l_shifted) .none kV33 dc33 pm33 an33 cd33 ct33),sl33⟩) (c33:PySem.W.codeIn K cd33 "_law_shifted" = true) (k33:PySem.W.keepIn K (.ref f33)=true)
  (a34:PySem.W.nsIn K mainGlobals "_law_is_thing" = some (some (.ref f34))) (l34:K.lookup f34=some ⟨oc34,od34,.func (PySem.W.fnOf "_law_is_thing" "_law_is_thing" (defArgs s_l_is_thing) (defBody s_l_is_thing) (defScope s_l_is_thing) .none kV34 dc34 pm34 an34 cd34 ct34),sl34⟩) (c34:PySem.W.codeIn K cd34 "_law_is_thing" = true) (k34:PySem.W.keepIn K (.ref f34)=true)
  (a35:PySem.W.nsIn K mainGlobals "_law_deed" = some (some (.ref f35))) (l35:K.lookup f35=some ⟨oc35,od35,.func (PySem.W.fnOf "_law_deed" "_law_deed" (defArgs s_l_deed) (defBody s_l_deed) (defScope s_l_deed) .none kV35 dc35 pm35 an35 cd35 ct35),sl35⟩) (c35:PySem.W.codeIn K cd35 "_law_deed" = true) (k35:PySem.W.keepIn K (.ref f35)=true)
  (a36:PySem.W.nsIn K mainGlobals "_law_out" = some (some (.ref f36))) (l36:K.lookup f36=some ⟨oc36,od36,.func (PySem.W.fnOf "_law_out" "_law_out" (defArgs s_l_out) (defBody s_l_out) (defScope s_l_out) .none kV36 dc36 pm36 an36 cd36 ct36),sl36⟩) (c36:PySem.W.codeIn K cd36 "_law_out" = true) (k36:PySem.W.keepIn K (.ref f36)=true)
  (a37:PySem.W.nsIn K mainGlobals "_law_walked" = some (some (.ref f37))) (l37:K.lookup f37=some ⟨oc37,od37,.func (PySem.W.fnOf "_law_walked" "_law_walked" (defArgs s_l_walked) (defBody s_l_walked) (defScope s_l_walked) .none kV37 dc37 pm37 an37 cd37 ct37),sl37⟩) (c37:PySem.W.codeIn K cd37 "_law_walked" = true) (k37:PySem.W.keepIn K (.ref f37)=true)
  (a38:PySem.W.nsIn K mainGlobals "_law_close" = some (some (.ref f38))) (l38:K.lookup f38=some ⟨oc38,od38,.func (PySem.W.fnOf "_law_close" "_law_close" (defArgs s_l_close) (defBody s_l_close) (defScope s_l_close) .none kV38 dc38 pm38 an38 cd38 ct38),sl38⟩) (c38:PySem.W.codeIn K cd38 "_law_close" = true) (k38:PySem.W.keepIn K (.ref f38)=true)
  (a39:PySem.W.nsIn K mainGlobals "_law_few" = some (some (.ref f39))) (l39:K.lookup f39=some ⟨oc39,od39,.func (PySem.W.fnOf "_law_few" "_law_few" (defArgs s_l_few) (defBody s_l_few) (defScope s_l_few) .none kV39 dc39 pm39 an39 cd39 ct39),sl39⟩) (c39:PySem.W.codeIn K cd39 "_law_few" = true) (k39:PySem.W.keepIn K (.ref f39)=true)
  (a40:PySem.W.nsIn K mainGlobals "_law_core" = some (some (.ref f40))) (l40:K.lookup f40=some ⟨oc40,od40,.func (PySem.W.fnOf "_law_core" "_law_core" (defArgs s_l_core) (defBody s_l_core) (defScope s_l_core) .none kV40 dc40 pm40 an40 cd40 ct40),sl40⟩) (c40:PySem.W.codeIn K cd40 "_law_core" = true) (k40:PySem.W.keepIn K (.ref f40)=true)
  (a41:PySem.W.nsIn K mainGlobals "_law_used" = some (some (.ref f41))) (l41:K.lookup f41=some ⟨oc41,od41,.func (PySem.W.fnOf "_law_used" "_law_used" (defArgs s_l_used) (defBody s_l_used) (defScope s_l_used) .none kV41 dc41 pm41 an41 cd41 ct41),sl41⟩) (c41:PySem.W.codeIn K cd41 "_law_used" = true) (k41:PySem.W.keepIn K (.ref f41)=true)
  (a42:PySem.W.nsIn K mainGlobals "_law_right" = some (some (.ref f42))) (l42:K.lookup f42=some ⟨oc42,od42,.func (PySem.W.fnOf "_law_right" "_law_right" (defArgs s_l_right) (defBody s_l_right) (defScope s_l_right) .none kV42 dc42 pm42 an42 cd42 ct42),sl42⟩) (c42:PySem.W.codeIn K cd42 "_law_right" = true) (k42:PySem.W.keepIn K (.ref f42)=true)
  (a43:PySem.W.nsIn K mainGlobals "law" = some (some (.ref f43))) (l43:K.lookup f43=some ⟨oc43,od43,.func (PySem.W.fnOf "law" "law" (defArgs s_law) (defBody s_law) (defScope s_law) .none kV43 dc43 pm43 an43 cd43 ct43),sl43⟩) (c43:PySem.W.codeIn K cd43 "law" = true) (k43:PySem.W.keepIn K (.ref f43)=true)
  (ac1:PySem.W.nsIn K mainGlobals "NO_OUT" = some (some (.ref fc1))) (lc1:K.lookup fc1=some ⟨.type "tuple",oe1,.seq #[.int 0 ta1,.int 0 tb1,.int 0 td1] nc1,sm1⟩)
  (z1:PySem.W.nsIn K mainGlobals "abs" = some none)
  (z2:PySem.W.nsIn K mainGlobals "all" = some none)
  (z3:PySem.W.nsIn K mainGlobals "bool" = some none)
  (z4:PySem.W.nsIn K mainGlobals "enumerate" = some none)
  (z5:PySem.W.nsIn K mainGlobals "int" = some none)
  (z6:PySem.W.nsIn K mainGlobals "isinstance" = some none)
  (z7:PySem.W.nsIn K mainGlobals "len" = some none)
  (z8:PySem.W.nsIn K mainGlobals "list" = some none)
  (z9:PySem.W.nsIn K mainGlobals "min" = some none)
  (z10:PySem.W.nsIn K mainGlobals "range" = some none)
  (z11:PySem.W.nsIn K mainGlobals "reversed" = some none)
  (z12:PySem.W.nsIn K mainGlobals "set" = some none)
  (z13:PySem.W.nsIn K mainGlobals "sorted" = some none)
  (z14:PySem.W.nsIn K mainGlobals "sum" = some none)
  (z15:PySem.W.nsIn K mainGlobals "tuple" = some none)
  (z16:PySem.W.nsIn K mainGlobals "zip" = some none)
  : ∃ fd:FuncData,(∀ (s:Shared) (v:Value),BindsTo s fd ⟨[v],[]⟩ [("_law_script",v)]) /\ ∀ base:Heap,K.In base -> base.Ns mainGlobals mg -> FnOk l.prog w K mg base CX0 20 fa fd ["_law_script"] (spLaw K):=by
 have e:=hfa.symm.trans (PySem.W.mg_of X G a43)
 cases e
 have F1:=fun_mk (st:=s_core) l1 c1 k1
 have b1:=F1.binds (ps:=["number"]) fun _ _ _ _ _ _ us hl=>by obtain ⟨a0_,rfl⟩:=ln1 (us:=us) hl; rfl
 have F2:=fun_mk (st:=s_shifted) l2 c2 k2
 have b2:=F2.binds (ps:=["number","shift"]) fun _ _ _ _ _ _ us hl=>by obtain ⟨a0_,a1_,rfl⟩:=ln2 (us:=us) hl; rfl
 have F3:=fun_mk (st:=s_shifted_row) l3 c3 k3
 have b3:=F3.binds (ps:=["row","shift"]) fun _ _ _ _ _ _ us hl=>by obtain ⟨a0_,a1_,rfl⟩:=ln2 (us:=us) hl; rfl
 have F4:=fun_mk (st:=s_input_rows) l4 c4 k4
 have b4:=F4.binds (ps:=["ins"]) fun _ _ _ _ _ _ us hl=>by obtain ⟨a0_,rfl⟩:=ln1 (us:=us) hl; rfl
 have F5:=fun_mk (st:=s_input_row) l5 c5 k5
 have b5:=F5.binds (ps:=["ins","thing"]) fun _ _ _ _ _ _ us hl=>by obtain ⟨a0_,a1_,rfl⟩:=ln2 (us:=us) hl; rfl
 have F6:=fun_mk (st:=s_deed_row) l6 c6 k6
 have b6:=F6.binds (ps:=["deed","rows"]) fun _ _ _ _ _ _ us hl=>by obtain ⟨a0_,a1_,rfl⟩:=ln2 (us:=us) hl; rfl
 have F7:=fun_mk (st:=s_second_sign) l7 c7 k7
 have b7:=F7.binds (ps:=["deed"]) fun _ _ _ _ _ _ us hl=>by obtain ⟨a0_,rfl⟩:=ln1 (us:=us) hl; rfl
 have F8:=fun_mk (st:=s_numbers) l8 c8 k8
 have b8:=F8.binds (ps:=["web"]) fun _ _ _ _ _ _ us hl=>by obtain ⟨a0_,rfl⟩:=ln1 (us:=us) hl; rfl
 have F9:=fun_mk (st:=s_deed_arrows) l9 c9 k9
 have b9:=F9.binds (ps:=["web"]) fun _ _ _ _ _ _ us hl=>by obtain ⟨a0_,rfl⟩:=ln1 (us:=us) hl; rfl
 have F10:=fun_mk (st:=s_thing_count) l10 c10 k10
 have b10:=F10.binds (ps:=["web"]) fun _ _ _ _ _ _ us hl=>by obtain ⟨a0_,rfl⟩:=ln1 (us:=us) hl; rfl
 have F11:=fun_mk (st:=s_parts_of) l11 c11 k11
 have b11:=F11.binds (ps:=["deed"]) fun _ _ _ _ _ _ us hl=>by obtain ⟨a0_,rfl⟩:=ln1 (us:=us) hl; rfl
 have F12:=fun_mk (st:=s_moved) l12 c12 k12
 have b12:=F12.binds (ps:=["part","shift","sign"]) fun _ _ _ _ _ _ us hl=>by obtain ⟨a0_,a1_,a2_,rfl⟩:=ln3 (us:=us) hl; rfl
 have F13:=fun_mk (st:=s_deed_of) l13 c13 k13
 have b13:=F13.binds (ps:=["one","other"]) fun _ _ _ _ _ _ us hl=>by obtain ⟨a0_,a1_,rfl⟩:=ln2 (us:=us) hl; rfl
 have F14:=fun_mk (st:=s_sign_of) l14 c14 k14
 have b14:=F14.binds (ps:=["one","other"]) fun _ _ _ _ _ _ us hl=>by obtain ⟨a0_,a1_,rfl⟩:=ln2 (us:=us) hl; rfl
 have F15:=fun_mk (st:=s_out_for) l15 c15 k15
 have b15:=F15.binds (ps:=["number","parts"]) fun _ _ _ _ _ _ us hl=>by obtain ⟨a0_,a1_,rfl⟩:=ln2 (us:=us) hl; rfl
 have F16:=fun_mk (st:=s_signs) l16 c16 k16
 have b16:=F16.binds (ps:=["number"]) fun _ _ _ _ _ _ us hl=>by obtain ⟨a0_,rfl⟩:=ln1 (us:=us) hl; rfl
 have F17:=fun_mk (st:=s_first_sign) l17 c17 k17
 have b17:=F17.binds (ps:=["number"]) fun _ _ _ _ _ _ us hl=>by obtain ⟨a0_,rfl⟩:=ln1 (us:=us) hl; rfl
 have F18:=fun_mk (st:=s_by_signs) l18 c18 k18
 have b18:=F18.binds (ps:=["numbers"]) fun _ _ _ _ _ _ us hl=>by obtain ⟨a0_,rfl⟩:=ln1 (us:=us) hl; rfl
 have F19:=fun_mk (st:=s_unlike_cores) l19 c19 k19
 have b19:=F19.binds (ps:=["numbers"]) fun _ _ _ _ _ _ us hl=>by obtain ⟨a0_,rfl⟩:=ln1 (us:=us) hl; rfl
 have F20:=fun_mk (st:=s_add_chain) l20 c20 k20
 have b20:=F20.binds (ps:=["deeds","odd"]) fun _ _ _ _ _ _ us hl=>by obtain ⟨a0_,a1_,rfl⟩:=ln2 (us:=us) hl; rfl
 have F21:=fun_mk (st:=s_used) l21 c21 k21
 have b21:=F21.binds (ps:=["web"]) fun _ _ _ _ _ _ us hl=>by obtain ⟨a0_,rfl⟩:=ln1 (us:=us) hl; rfl
 have F22:=fun_mk (st:=s_pruned) l22 c22 k22
 have b22:=F22.binds (ps:=["web"]) fun _ _ _ _ _ _ us hl=>by obtain ⟨a0_,rfl⟩:=ln1 (us:=us) hl; rfl
 have F23:=fun_mk (st:=s_form_of) l23 c23 k23
 have b23:=F23.binds (ps:=["row"]) fun _ _ _ _ _ _ us hl=>by obtain ⟨a0_,rfl⟩:=ln1 (us:=us) hl; rfl
 have F24:=fun_mk (st:=s_bare) l24 c24 k24
 have b24:=F24.binds (ps:=["web"]) fun _ _ _ _ _ _ us hl=>by obtain ⟨a0_,rfl⟩:=ln1 (us:=us) hl; rfl
 have F25:=fun_mk (st:=s_merged) l25 c25 k25
 have b25:=F25.binds (ps:=["web"]) fun _ _ _ _ _ _ us hl=>by obtain ⟨a0_,rfl⟩:=ln1 (us:=us) hl; rfl
 have F26:=fun_mk (st:=s_part_by) l26 c26 k26
 have b26:=F26.binds (ps:=["kept","forms","part"]) fun _ _ _ _ _ _ us hl=>by obtain ⟨a0_,a1_,a2_,rfl⟩:=ln3 (us:=us) hl; rfl
 have F27:=fun_mk (st:=s_shared) l27 c27 k27
 have b27:=F27.binds (ps:=["numbers"]) fun _ _ _ _ _ _ us hl=>by obtain ⟨a0_,rfl⟩:=ln1 (us:=us) hl; rfl
 have F28:=fun_mk (st:=s_l_pen) l28 c28 k28
 have b28:=F28.binds (ps:=["_law_script"]) fun _ _ _ _ _ _ us hl=>by obtain ⟨a0_,rfl⟩:=ln1 (us:=us) hl; rfl
 have F29:=fun_mk (st:=s_l_draw) l29 c29 k29
 have b29:=F29.binds (ps:=["_law_pen_here","_law_many"]) fun _ _ _ _ _ _ us hl=>by obtain ⟨a0_,a1_,rfl⟩:=ln2 (us:=us) hl; rfl
 have F30:=fun_mk (st:=s_l_whole) l30 c30 k30
 have b30:=F30.binds (ps:=["_law_thing"]) fun _ _ _ _ _ _ us hl=>by obtain ⟨a0_,rfl⟩:=ln1 (us:=us) hl; rfl
 have F31:=fun_mk (st:=s_l_signs) l31 c31 k31
 have b31:=F31.binds (ps:=["_law_number"]) fun _ _ _ _ _ _ us hl=>by obtain ⟨a0_,rfl⟩:=ln1 (us:=us) hl; rfl
 have F32:=fun_mk (st:=s_l_least) l32 c32 k32
 have b32:=F32.binds (ps:=["_law_number"]) fun _ _ _ _ _ _ us hl=>by obtain ⟨a0_,rfl⟩:=ln1 (us:=us) hl; rfl
 have F33:=fun_mk (st:=s_l_shifted) l33 c33 k33
 have b33:=F33.binds (ps:=["_law_number","_law_shift"]) fun _ _ _ _ _ _ us hl=>by obtain ⟨a0_,a1_,rfl⟩:=ln2 (us:=us) hl; rfl
 have F34:=fun_mk (st:=s_l_is_thing) l34 c34 k34
 have b34:=F34.binds (ps:=["_law_thing","_law_some"]) fun _ _ _ _ _ _ us hl=>by obtain ⟨a0_,a1_,rfl⟩:=ln2 (us:=us) hl; rfl
 have F35:=fun_mk (st:=s_l_deed) l35 c35 k35
 have b35:=F35.binds (ps:=["_law_deed_here","_law_some"]) fun _ _ _ _ _ _ us hl=>by obtain ⟨a0_,a1_,rfl⟩:=ln2 (us:=us) hl; rfl
 have F36:=fun_mk (st:=s_l_out) l36 c36 k36
 have b36:=F36.binds (ps:=["_law_out_here","_law_some"]) fun _ _ _ _ _ _ us hl=>by obtain ⟨a0_,a1_,rfl⟩:=ln2 (us:=us) hl; rfl
 have F37:=fun_mk (st:=s_l_walked) l37 c37 k37
 have b37:=F37.binds (ps:=["_law_web"]) fun _ _ _ _ _ _ us hl=>by obtain ⟨a0_,rfl⟩:=ln1 (us:=us) hl; rfl
 have F38:=fun_mk (st:=s_l_close) l38 c38 k38
 have b38:=F38.binds (ps:=["_law_pen_here","_law_found"]) fun _ _ _ _ _ _ us hl=>by obtain ⟨a0_,a1_,rfl⟩:=ln2 (us:=us) hl; rfl
 have F39:=fun_mk (st:=s_l_few) l39 c39 k39
 have b39:=F39.binds (ps:=["_law_pen_here"]) fun _ _ _ _ _ _ us hl=>by obtain ⟨a0_,rfl⟩:=ln1 (us:=us) hl; rfl
 have F40:=fun_mk (st:=s_l_core) l40 c40 k40
 have b40:=F40.binds (ps:=["_law_number"]) fun _ _ _ _ _ _ us hl=>by obtain ⟨a0_,rfl⟩:=ln1 (us:=us) hl; rfl
 have F41:=fun_mk (st:=s_l_used) l41 c41 k41
 have b41:=F41.binds (ps:=["_law_web"]) fun _ _ _ _ _ _ us hl=>by obtain ⟨a0_,rfl⟩:=ln1 (us:=us) hl; rfl
 have F42:=fun_mk (st:=s_l_right) l42 c42 k42
 have b42:=F42.binds (ps:=["_law_web","_law_due"]) fun _ _ _ _ _ _ us hl=>by obtain ⟨a0_,a1_,rfl⟩:=ln2 (us:=us) hl; rfl
 have F43:=fun_mk (st:=s_law) l43 c43 k43
 have b43:=F43.binds (ps:=["_law_script"]) fun _ _ _ _ _ _ us hl=>by obtain ⟨a0_,rfl⟩:=ln1 (us:=us) hl; rfl
 have T:Txt K mg:=⟨⟨PySem.W.mg_none_of X G z1,PySem.W.mg_none_of X G z2,PySem.W.mg_none_of X G z3,PySem.W.mg_none_of X G z4,PySem.W.mg_none_of X G z5,PySem.W.mg_none_of X G z6,PySem.W.mg_none_of X G z7,PySem.W.mg_none_of X G z8,PySem.W.mg_none_of X G z9,PySem.W.mg_none_of X G z10,PySem.W.mg_none_of X G z11,PySem.W.mg_none_of X G z12,PySem.W.mg_none_of X G z13,PySem.W.mg_none_of X G z14,PySem.W.mg_none_of X G z15,PySem.W.mg_none_of X G z16⟩,⟨_,_,F1,PySem.W.mg_of X G a1,b1⟩,⟨_,_,F2,PySem.W.mg_of X G a2,b2⟩,⟨_,_,F3,PySem.W.mg_of X G a3,b3⟩,⟨_,_,F4,PySem.W.mg_of X G a4,b4⟩,⟨_,_,F5,PySem.W.mg_of X G a5,b5⟩,⟨_,_,F6,PySem.W.mg_of X G a6,b6⟩,⟨_,_,F7,PySem.W.mg_of X G a7,b7⟩,⟨_,_,F8,PySem.W.mg_of X G a8,b8⟩,⟨_,_,F9,PySem.W.mg_of X G a9,b9⟩,⟨_,_,F10,PySem.W.mg_of X G a10,b10⟩,⟨_,_,F11,PySem.W.mg_of X G a11,b11⟩,⟨_,_,F12,PySem.W.mg_of X G a12,b12⟩,⟨_,_,F13,PySem.W.mg_of X G a13,b13⟩,⟨_,_,F14,PySem.W.mg_of X G a14,b14⟩,⟨_,_,F15,PySem.W.mg_of X G a15,b15⟩,⟨_,_,F16,PySem.W.mg_of X G a16,b16⟩,⟨_,_,F17,PySem.W.mg_of X G a17,b17⟩,⟨_,_,F18,PySem.W.mg_of X G a18,b18⟩,⟨_,_,F19,PySem.W.mg_of X G a19,b19⟩,⟨_,_,F20,PySem.W.mg_of X G a20,b20⟩,⟨_,_,F21,PySem.W.mg_of X G a21,b21⟩,⟨_,_,F22,PySem.W.mg_of X G a22,b22⟩,⟨_,_,F23,PySem.W.mg_of X G a23,b23⟩,⟨_,_,F24,PySem.W.mg_of X G a24,b24⟩,⟨_,_,F25,PySem.W.mg_of X G a25,b25⟩,⟨_,_,F26,PySem.W.mg_of X G a26,b26⟩,⟨_,_,F27,PySem.W.mg_of X G a27,b27⟩,⟨_,_,F28,PySem.W.mg_of X G a28,b28⟩,⟨_,_,F29,PySem.W.mg_of X G a29,b29⟩,⟨_,_,F30,PySem.W.mg_of X G a30,b30⟩,⟨_,_,F31,PySem.W.mg_of X G a31,b31⟩,⟨_,_,F32,PySem.W.mg_of X G a32,b32⟩,⟨_,_,F33,PySem.W.mg_of X G a33,b33⟩,⟨_,_,F34,PySem.W.mg_of X G a34,b34⟩,⟨_,_,F35,PySem.W.mg_of X G a35,b35⟩,⟨_,_,F36,PySem.W.mg_of X G a36,b36⟩,⟨_,_,F37,PySem.W.mg_of X G a37,b37⟩,⟨_,_,F38,PySem.W.mg_of X G a38,b38⟩,⟨_,_,F39,PySem.W.mg_of X G a39,b39⟩,⟨_,_,F40,PySem.W.mg_of X G a40,b40⟩,⟨_,_,F41,PySem.W.mg_of X G a41,b41⟩,⟨_,_,F42,PySem.W.mg_of X G a42,b42⟩,⟨_,_,F43,PySem.W.mg_of X G a43,b43⟩,⟨fc1,PySem.W.mg_of X G ac1,_,_,_,lc1,rfl,rfl,le_size (by show 3 <= 1000; decide),.cons ⟨_,rfl⟩ (.cons ⟨_,rfl⟩ (.cons ⟨_,rfl⟩ .nil))⟩⟩
 refine ⟨PySem.W.fnOf "law" "law" (defArgs s_law) (defBody s_law) (defScope s_law) .none kV43 dc43 pm43 an43 cd43 ct43,fun s v=>.of_eq rfl,fun base _ _=>?_⟩
 exact ok_law T F43
theorem walk {l:PySem.W.OpenLaw}{q:Program}{loose:List Str}{XP:(Str -> Option Value) -> Heap -> Prop}{YP:World -> Heap -> Prop}{d:DefRec}{K:Params -> PySem.W.Frag}(hn:l.most=some 63)(hdf:d.params.defaults=[])
  (hY:∀ (w:World) (h:Heap),YP w h -> (K w.params).In h)
  (F:∀ (w:World) (mg:Str -> Option Value) (fa:Addr) (h:Heap),(K w.params).In h -> h.Ns mainGlobals mg -> mg d.name=some (.ref fa) ->
   ∃ fd:FuncData,(∀ (s:Shared) (u:Value),BindsTo s fd ⟨[u],[]⟩ [("_law_script",u)]) /\ ∀ base:Heap,(K w.params).In base -> base.Ns mainGlobals mg -> FnOk l.prog w (K w.params) mg base CX0 20 fa fd ["_law_script"] (spLaw (K w.params))) :
  PySem.W.WalkO q loose XP YP l.row.toRowW d [] (fun f vs=>PySem.call f vs) :=
 L2.walk_of (n:=63) (k:=20) (x:="_law_script") (CX:=fun _=>CX0) (sp:=fun w=>spLaw (K w.params)) hn (by decide) hdf ⟨rfl,by decide,by decide⟩ hY F (fun _ _ a ns hl hO hS=>⟨a,ns,rfl,scr_of hO hS,hl,fun _=>rfl⟩) fun _ _ _ _ _ z=>z
end Law
def PySem.W.Fast.tw15656408487137362553:Unit:=()
def PySem.W.Fast.tw14736354973403626346:Unit:=()
def PySem.W.Fast.tw2616245283821672807:Unit:=()
def PySem.W.Fast.tw13041120135645249007:Unit:=()
def PySem.W.Fast.tw6887999683280376206:Unit:=()
def PySem.W.Fast.tw1089376607533461212:Unit:=()
def PySem.W.Fast.tw17650864837872344226:Unit:=()
def PySem.W.Fast.tw3285198350393113035:Unit:=()
def PySem.W.Fast.tw18134510537043098913:Unit:=()
def PySem.W.Fast.tw1147936380866247430:Unit:=()
def PySem.W.Fast.tw8776227657660595232:Unit:=()
def PySem.W.Fast.tw2133159857145486685:Unit:=()
def PySem.W.Fast.tw10973533251742311970:Unit:=()
def PySem.W.Fast.tw15949735671785245646:Unit:=()
def PySem.W.Fast.tw17044461251704277587:Unit:=()
def PySem.W.Fast.tw13189132881803228629:Unit:=()
open PySem PySem.W PyProof.Rows
set_option maxRecDepth 100000 in
set_option maxHeartbeats 0 in
theorem PySem.Challenge.cw_shiftsums_k24_shared_rows_holds : PySem.Challenge.rw_shiftsums_k24_shared_rows.Holds := by
 w_on; o_law; k_head; (case hw=>w_witness2)
 k_fill
 refine Law.walk (l:=PySem.Challenge.rw_shiftsums_k24_shared_rows) rfl rfl (fun w h Y=>PySem.W.kIn_of Y) ?F
 case F =>
  intro w mg fa h KX G hmg
  refine' Law.all_mk KX G hmg ?a1 ?l1 ?c1 ?k1 ?a2 ?l2 ?c2 ?k2 ?a3 ?l3 ?c3 ?k3 ?a4 ?l4 ?c4 ?k4 ?a5 ?l5 ?c5 ?k5 ?a6 ?l6 ?c6 ?k6 ?a7 ?l7 ?c7 ?k7 ?a8 ?l8 ?c8 ?k8 ?a9 ?l9 ?c9 ?k9 ?a10 ?l10 ?c10 ?k10 ?a11 ?l11 ?c11 ?k11 ?a12 ?l12 ?c12 ?k12 ?a13 ?l13 ?c13 ?k13 ?a14 ?l14 ?c14 ?k14 ?a15 ?l15 ?c15 ?k15 ?a16 ?l16 ?c16 ?k16 ?a17 ?l17 ?c17 ?k17 ?a18 ?l18 ?c18 ?k18 ?a19 ?l19 ?c19 ?k19 ?a20 ?l20 ?c20 ?k20 ?a21 ?l21 ?c21 ?k21 ?a22 ?l22 ?c22 ?k22 ?a23 ?l23 ?c23 ?k23 ?a24 ?l24 ?c24 ?k24 ?a25 ?l25 ?c25 ?k25 ?a26 ?l26 ?c26 ?k26 ?a27 ?l27 ?c27 ?k27 ?a28 ?l28 ?c28 ?k28 ?a29 ?l29 ?c29 ?k29 ?a30 ?l30 ?c30 ?k30 ?a31 ?l31 ?c31 ?k31 ?a32 ?l32 ?c32 ?k32 ?a33 ?l33 ?c33 ?k33 ?a34 ?l34 ?c34 ?k34 ?a35 ?l35 ?c35 ?k35 ?a36 ?l36 ?c36 ?k36 ?a37 ?l37 ?c37 ?k37 ?a38 ?l38 ?c38 ?k38 ?a39 ?l39 ?c39 ?k39 ?a40 ?l40 ?c40 ?k40 ?a41 ?l41 ?c41 ?k41 ?a42 ?l42 ?c42 ?k42 ?a43 ?l43 ?c43 ?k43 ?ac1 ?lc1 ?z1 ?z2 ?z3 ?z4 ?z5 ?z6 ?z7 ?z8 ?z9 ?z10 ?z11 ?z12 ?z13 ?z14 ?z15 ?z16
  (case a1=>k_is); (case l1=>k_is); (case c1=>k_is); (case k1=>k_is)
  (case a2=>k_is); (case l2=>k_is); (case c2=>k_is); (case k2=>k_is)
  (case a3=>k_is); (case l3=>k_is); (case c3=>k_is); (case k3=>k_is)
  (case a4=>k_is); (case l4=>k_is); (case c4=>k_is); (case k4=>k_is)
  (case a5=>k_is); (case l5=>k_is); (case c5=>k_is); (case k5=>k_is)
  (case a6=>k_is); (case l6=>k_is); (case c6=>k_is); (case k6=>k_is)
  (case a7=>k_is); (case l7=>k_is); (case c7=>k_is); (case k7=>k_is)
  (case a8=>k_is); (case l8=>k_is); (case c8=>k_is); (case k8=>k_is)
  (case a9=>k_is); (case l9=>k_is); (case c9=>k_is); (case k9=>k_is)
  (case a10=>k_is); (case l10=>k_is); (case c10=>k_is); (case k10=>k_is)
  (case a11=>k_is); (case l11=>k_is); (case c11=>k_is); (case k11=>k_is)
  (case a12=>k_is); (case l12=>k_is); (case c12=>k_is); (case k12=>k_is)
  (case a13=>k_is); (case l13=>k_is); (case c13=>k_is); (case k13=>k_is)
  (case a14=>k_is); (case l14=>k_is); (case c14=>k_is); (case k14=>k_is)
  (case a15=>k_is); (case l15=>k_is); (case c15=>k_is); (case k15=>k_is)
  (case a16=>k_is); (case l16=>k_is); (case c16=>k_is); (case k16=>k_is)
  (case a17=>k_is); (case l17=>k_is); (case c17=>k_is); (case k17=>k_is)
  (case a18=>k_is); (case l18=>k_is); (case c18=>k_is); (case k18=>k_is)
  (case a19=>k_is); (case l19=>k_is); (case c19=>k_is); (case k19=>k_is)
  (case a20=>k_is); (case l20=>k_is); (case c20=>k_is); (case k20=>k_is)
  (case a21=>k_is); (case l21=>k_is); (case c21=>k_is); (case k21=>k_is)
  (case a22=>k_is); (case l22=>k_is); (case c22=>k_is); (case k22=>k_is)
  (case a23=>k_is); (case l23=>k_is); (case c23=>k_is); (case k23=>k_is)
  (case a24=>k_is); (case l24=>k_is); (case c24=>k_is); (case k24=>k_is)
  (case a25=>k_is); (case l25=>k_is); (case c25=>k_is); (case k25=>k_is)
  (case a26=>k_is); (case l26=>k_is); (case c26=>k_is); (case k26=>k_is)
  (case a27=>k_is); (case l27=>k_is); (case c27=>k_is); (case k27=>k_is)
  (case a28=>k_is); (case l28=>k_is); (case c28=>k_is); (case k28=>k_is)
  (case a29=>k_is); (case l29=>k_is); (case c29=>k_is); (case k29=>k_is)
  (case a30=>k_is); (case l30=>k_is); (case c30=>k_is); (case k30=>k_is)
  (case a31=>k_is); (case l31=>k_is); (case c31=>k_is); (case k31=>k_is)
  (case a32=>k_is); (case l32=>k_is); (case c32=>k_is); (case k32=>k_is)
  (case a33=>k_is); (case l33=>k_is); (case c33=>k_is); (case k33=>k_is)
  (case a34=>k_is); (case l34=>k_is); (case c34=>k_is); (case k34=>k_is)
  (case a35=>k_is); (case l35=>k_is); (case c35=>k_is); (case k35=>k_is)
  (case a36=>k_is); (case l36=>k_is); (case c36=>k_is); (case k36=>k_is)
  (case a37=>k_is); (case l37=>k_is); (case c37=>k_is); (case k37=>k_is)
  (case a38=>k_is); (case l38=>k_is); (case c38=>k_is); (case k38=>k_is)
  (case a39=>k_is); (case l39=>k_is); (case c39=>k_is); (case k39=>k_is)
  (case a40=>k_is); (case l40=>k_is); (case c40=>k_is); (case k40=>k_is)
  (case a41=>k_is); (case l41=>k_is); (case c41=>k_is); (case k41=>k_is)
  (case a42=>k_is); (case l42=>k_is); (case c42=>k_is); (case k42=>k_is)
  (case a43=>k_is); (case l43=>k_is); (case c43=>k_is); (case k43=>k_is)
  (case ac1=>k_is); (case lc1=>k_is); (case z1=>k_is); (case z2=>k_is)
  (case z3=>k_is); (case z4=>k_is); (case z5=>k_is); (case z6=>k_is)
  (case z7=>k_is); (case z8=>k_is); (case z9=>k_is); (case z10=>k_is)
  (case z11=>k_is); (case z12=>k_is); (case z13=>k_is); (case z14=>k_is)
  (case z15=>k_is); (case z16=>k_is)
end
