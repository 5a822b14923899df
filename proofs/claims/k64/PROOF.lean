import PyProof.Rows.All
import Wide.All
import OpenK.AllK
import Wide.FinOn
import Lean
import PyProof.EqAt
import PyProof.EqKinds
import PyProof.TupleCall
import PyProof.NeKinds
import KE.KMinBuiltin
import PyProof.Rows.CallKwBuiltin
import KE.KDictList
import PyProof.ZipIter
import PyProof.EnumFor
import PyProof.EnumMake
import PyProof.EnumStmt
import PyProof.Rows.Range3
import KE.KItemsList
import PyProof.ListRange
import KE.KIsAll
import PyProof.TupleIter
import PyProof.StationsW
import OpenK.KOwn
import PyProof.RulesDel
import PyProof.ExcArgsOwn
import PyProof.ExcAttrAll.ValueError
import KE.IntBitsLaws
import PyProof.IsRules
import PyProof.SetKind
import PyProof.Rows.SetFrom
import PyProof.CollectWalk
import PyProof.ListNew
import PyProof.Seq
import KE.KSortedM
import PyProof.InstStoreFacts
import PyProof.ExcInit
import KE.KSortTup
import PyProof.AttrMissSeq
import KE.KEqDict
import PyProof.Rows.FStr
import PyProof.Rows.StrJoin2
import OpenK.KTop
import PyProof.StrLaws
import PyProof.TupleKey
import PyProof.SetRoads
import PyProof.StrBlockH
import PyProof.StrWalks
import PyProof.Rows.StrNews2
import PyProof.Rows.StrFirst
import PyProof.StrLawsTight
import PyProof.StrLawsIn
import PyProof.StrLawsIdx
import KE.KIntText
import PyProof.CallStr
import PySem.Challenge.RW_shiftsums_k64_every_sign_of_a_text
set_option Elab.async false
set_option linter.all false
set_option maxRecDepth 100000
set_option maxHeartbeats 4000000
open PySem.W renaming Frag → zA
open Bool renaming and_eq_true → zB
open PySem.W renaming nsIn → zC
open Nat renaming le_trans → zD
open PySem.W renaming keepIn → zF
open Nat renaming le_refl → zG
open PySem.W renaming mg_of → zH
open List renaming mem_cons → zI
open PySem.W renaming codeIn → zJ
open List renaming mem_cons_self → zK
open PySem.W renaming fnOf → zM
open Nat renaming ne_of_lt → zN
open List renaming mem_cons_of_mem → zO
open List renaming length_cons → zP
open Bool renaming false_ne_true → zQ
open List renaming not_mem_nil → zR
open List renaming map_cons → zU
open List renaming mem_append → zW
open PySem.W renaming kitOne → zX
open Int renaming toNat_natCast → zb
open PySem.F renaming type_list_append → zc
open PySem.F renaming slot_list_append → zd
open PySem.F renaming plainAttrs_str → ze
open List renaming all_eq_true → zf
open PySem.F renaming plainAttrs_list → zh
open Array renaming length_toList → zj
open PySem.W renaming mg_none_of → zl
open List renaming take_of_length_le → zm
open List renaming mem_singleton → zn
open Nat renaming lt_irrefl → zq
open Nat renaming ne_of_gt → zt
open List renaming filterMap_cons → zx
open List renaming range → zy
open Nat renaming lt_of_le_of_lt → yB
open PySem.W renaming kia_one → yC
open Nat renaming le_of_succ_le → yF
open List renaming eq_nil_of_length_eq_zero → yG
open List renaming length_singleton → yI
open Bool renaming false_eq_true → yJ
open Option renaming bind_eq_some_iff → yK
open Nat renaming zero_le → yL
open List renaming getElem_mem → yM
open PySem.W renaming findIn → yN
open PySem.F renaming type_str_split → yO
open PySem.F renaming slot_str_split → yP
open List renaming append_nil → yQ
open Classical renaming byContradiction → yS
open Array renaming getElem?_eq_getElem → yT
open List renaming getElem?_zipWith → yV
open List renaming any_cons → yW
open Bool renaming false_or → yX
open List renaming count_append → ym
open List renaming map_nil → yo
open Array renaming getElem?_eq_some_iff → yy
open Bool renaming or_eq_true → xE
open Nat renaming lt_succ_of_lt → xG
open Nat renaming le_of_lt → xH
open Bool renaming not_eq_true' → xI
open Bool renaming true_and → xL
open List renaming take_length → xb
open List renaming lookup_cons → xc
open Int renaming eq_ofNat_of_zero_le → xf
open List renaming zipWith → xk
open List renaming map_append → xm
open Bool renaming eq_iff_iff → xn
open List renaming take_add_one → x9
open List renaming getElem?_of_mem → jC
open List renaming length_drop → jM
open List renaming cons_append → jN
open List renaming any_eq_true → jO
open PySem.F renaming plain_extend_loop → jU
open List renaming length_zipWith → jV
open List renaming all_cons → je
open Bool renaming or_false → jf
open List renaming length_nil → jh
open List renaming mem_filterMap → ji
open List renaming filterMap_map → jj
open List renaming getElem?_cons_zero → jy
open List renaming getElem?_cons_succ → jz
open List renaming getElem?_eq_getElem → qA
open List renaming getElem?_eq_some_iff → qB
open List renaming length_map → qC
open List renaming getD_eq_getElem?_getD → qD
open List renaming mem_of_getElem? → qE
open List renaming length_append → qF
open List renaming getElem?_append_right → qG
open List renaming getElem?_append_left → qH
open List renaming getElem?_map → qI
open Nat renaming lt_of_lt_of_le → qJ
open List renaming mem_append_right → qK
open List renaming length_replicate → qL
open List renaming size_toArray → qM
open Nat renaming pow_le_pow_right → qN
open List renaming length_take → qO
open List renaming mem_map → qP
open List renaming replicate → qQ
section
namespace L2
open PySem PySem.Spec PyProof.Rows
abbrev Key:=Sum Int Str
def keyIs:Key -> Value -> Bool
 | .inl k,v=>Value.isInt k v
 | .inr x,v=>Value.isStrOf x v
def keyH (w:World):Key -> Int
 | .inl k=>hashInt k
 | .inr x=>hashStr w x
theorem keyIs_shape:∀ {k:Key} {v:Value},keyIs k v=true -> (∃ i t,k=Sum.inl i /\ v=Value.int i t) \/ (∃ x t,k=Sum.inr x /\ v=Value.str x t)
 | .inl i,v,h=>by
  obtain ⟨t,e⟩:=Value.isInt_shape (k:=i) (v:=v) h
  exact .inl ⟨i,t,rfl,e⟩
 | .inr x,v,h=>by
  obtain ⟨t,e⟩:=Value.isStrOf_shape (x:=x) (v:=v) h
  exact .inr ⟨x,t,rfl,e⟩
theorem key_ll (a b:Int):decide ((Sum.inl a:Key)=Sum.inl b)=(a == b):=by
 by_cases e:a=b
 ·subst e; simp
 ·have h:¬ (Sum.inl a:Key)=Sum.inl b:=fun q=>e (Sum.inl.inj q)
  rw [decide_eq_false h]
  exact (beq_eq_false_iff_ne.mpr e).symm
theorem key_rr (a b:Str):decide ((Sum.inr a:Key)=Sum.inr b)=decide (a=b):=by
 by_cases e:a=b
 ·subst e; simp
 ·have h:¬ (Sum.inr a:Key)=Sum.inr b:=fun q=>e (Sum.inr.inj q)
  rw [decide_eq_false h,decide_eq_false e]
theorem key_lr (a:Int)(b:Str):decide ((Sum.inl a:Key)=Sum.inr b)=false:=decide_eq_false (fun q=>nomatch q)
theorem key_rl (a:Str)(b:Int):decide ((Sum.inr a:Key)=Sum.inl b)=false:=decide_eq_false (fun q=>nomatch q)
def mixKind (prog:Program)(w:World):PySem.KeyKind prog w Key where
 is:=keyIs
 hash:=keyH w
 inj:=fun v a b ha hb=>by
  rcases keyIs_shape ha with ⟨i,t,rfl,rfl⟩ | ⟨x,t,rfl,rfl⟩
  ·rcases keyIs_shape hb with ⟨j,u,rfl,e⟩ | ⟨y,u,rfl,e⟩
   ·injection e with e1 _; rw [e1]
   ·exact nomatch e
  ·rcases keyIs_shape hb with ⟨j,u,rfl,e⟩ | ⟨y,u,rfl,e⟩
   ·exact nomatch e
   ·injection e with e1 _; rw [e1]
 byValue:=fun k v h=>by
  rcases keyIs_shape h with ⟨i,t,rfl,rfl⟩ | ⟨x,t,rfl,rfl⟩ <;> rfl
 pyHash:=fun hv h=>by
  rcases keyIs_shape hv with ⟨i,t,rfl,rfl⟩ | ⟨x,t,rfl,rfl⟩
  ·exact wpAny_pyHash_int h
  ·exact wpAny_pyHash_str h
 eqBool:=fun hu hv h=>by
  rcases keyIs_shape hu with ⟨i,t,rfl,rfl⟩ | ⟨x,t,rfl,rfl⟩
  ·rcases keyIs_shape hv with ⟨j,u,rfl,rfl⟩ | ⟨y,u,rfl,rfl⟩
   ·rw [key_ll] at h; exact wpAny_eqBool_int h
   ·rw [key_lr] at h; exact SeqAt.EqAt.int_str i t y u _ _ _ _ h
  ·rcases keyIs_shape hv with ⟨j,u,rfl,rfl⟩ | ⟨y,u,rfl,rfl⟩
   ·rw [key_rl] at h; exact SeqAt.EqAt.str_int x t j u _ _ _ _ h
   ·rw [key_rr] at h; exact wpAny_eqBool_str h
 «strs»:=fun k x t v h=>by
  rcases keyIs_shape h with ⟨i,u,rfl,e⟩ | ⟨y,u,rfl,e⟩
  ·exact nomatch e
  ·injection e with e1 _
   subst e1
   cases v <;> rfl
end L2
namespace L2
open PySem PySem.Spec PyProof.Rows
inductive V where
 | non | bl (b:Bool) | int (i:Int) | str (x:Str) | byt (b:Array UInt8) | flt (b:UInt64) | ref (a:Addr) | ty (n:String)
 deriving DecidableEq
def RelV:V -> Value -> Prop
 | .non,u=>u=Value.none
 | .bl b,u=>u=Value.bool b
 | .int i,u=>∃ t,u=Value.int i t
 | .str x,u=>∃ t,u=Value.str x t
 | .byt b,u=>∃ t,u=Value.bytes b t
 | .flt b,u=>∃ t,u=Value.float b t
 | .ref a,u=>u=Value.ref a
 | .ty n,u=>u=Value.type n
abbrev Vals:List V -> List Value -> Prop:=Paired RelV
theorem Vals.length {xs:List V}{us:List Value}(r:Vals xs us):xs.length=us.length:=Paired.length r
theorem Vals.get:∀ {xs:List V} {us:List Value} {i:Nat} {x:V},Vals xs us -> xs[i]? = some x -> ∃ u,us[i]? = some u /\ RelV x u
 | _,_,_,_,.nil,e=>by simp at e
 | _,_,0,_,.cons r _,e=>by simp at e; subst e; exact ⟨_,rfl,r⟩
 | _,_,i+1,x,.cons _ t,e=>by
  obtain ⟨u,h1,h2⟩:=Vals.get (i:=i) (x:=x) t (by simpa using e)
  exact ⟨u,by simpa using h1,h2⟩
theorem Vals.set {x:V}{u:Value}(r:RelV x u):∀ {xs:List V} {us:List Value} (i:Nat),Vals xs us -> Vals (xs.set i x) (us.set i u)
 | _,_,_,.nil=>.nil
 | _,_,0,.cons _ t=>.cons r t
 | _,_,i+1,.cons q t=>.cons q (Vals.set r i t)
theorem Vals.append:∀ {xs ys:List V} {us ws:List Value},Vals xs us -> Vals ys ws -> Vals (xs ++ ys) (us ++ ws)
 | _,_,_,_,.nil,s=>s
 | _,_,_,_,.cons r t,s=>.cons r (Vals.append t s)
theorem Vals.take:∀ {xs:List V} {us:List Value} (n:Nat),Vals xs us -> Vals (xs.take n) (us.take n)
 | _,_,0,_=>.nil
 | _,_,_+1,.nil=>.nil
 | _,_,n+1,.cons r t=>.cons r (Vals.take n t)
theorem Vals.drop:∀ {xs:List V} {us:List Value} (n:Nat),Vals xs us -> Vals (xs.drop n) (us.drop n)
 | _,_,0,r=>r
 | _,_,_+1,.nil=>.nil
 | _,_,n+1,.cons _ t=>Vals.drop n t
def RelO:Option V -> Option Value -> Prop
 | some v,some u=>RelV v u
 | none,none=>True
 | _,_=>False
def KV {κ:Type}:List (κ × V) -> List (κ × Value) -> Prop:=Paired fun (p:κ × V) (q:κ × Value)=>p.1=q.1 /\ RelV p.2 q.2
def kV:Key -> V
 | .inl i=>.int i
 | .inr x=>.str x
inductive HO where
 | lst (xs:List V)
 | tup (xs:List V)
 | dK (kvs:List (Key × V)) | dT (kvs:List (List Key × V))
 | set (S:Int -> Bool) (n:Nat)
 | ins (C dx:Addr) (fs:List (Str × V))
 | own (x:Addr)
 | xd (fs:List (Str × V))
 | met (f x:Addr)
 | rng (lo hi:Int)
 | frz (o:Obj) (u:HO)
 | tbl (ps:Array Value)
 | ext (φ:Heap -> Prop)
abbrev Hp:=Addr -> Option HO
def upd (H:Hp)(a:Addr)(o:HO):Hp:=fun b=>if b=a then some o else H b
theorem zL {H:Hp}{a:Addr}{o:HO}:upd H a o a=some o:=by unfold upd; rw [if_pos rfl]
theorem upd_ne {H:Hp}{a b:Addr}{o:HO}(h:b ≠ a):upd H a o b=H b:=by unfold upd; rw [if_neg h]
theorem upd_upd {H:Hp}{a:Addr}{o u:HO}:upd (upd H a o) a u=upd H a u:=by
 funext b; unfold upd; split <;> rfl
theorem Jh {H:Hp}{a b:Addr}{o u:HO}(h:H a=some o)(h':H b=some u)(d:o ≠ u):a ≠ b:=by
 intro e; subst e; rw [h] at h'; exact d (Option.some.inj h')
theorem ne_of_none {H:Hp}{a b:Addr}{o:HO}(h:H a=some o)(h':H b=none):a ≠ b:=by
 intro e; subst e; rw [h] at h'; cases h'
section
variable (P:Program)(w:World)
def ObjOk (H:Hp)(h:Heap)(a:Addr):HO -> Prop
 | .lst xs=>xs.length <= sizeLine /\ ∃ (its:List Value) (n:Nat),Vals xs its /\ h.get? a=some { cls:=.type "list",data:=.seq its.toArray n }
 | .tup xs=>xs.length <= sizeLine /\ ∃ its:List Value,Vals xs its /\ IsTup h a its.toArray
 | .dK kvs=>kvs.length <= sizeLine /\ (a == sysModules)=false /\ ∃ vs,KV kvs vs /\ h.DictOf (mixKind P w) a vs
 | .dT kvs=>kvs.length <= sizeLine /\ (a == sysModules)=false /\ ∃ xs:List (List Key × Addr × Value),
   Paired (fun (p:List Key × V) (q:List Key × Addr × Value)=>p.1=q.1 /\ H q.2.1=some (.tup (p.1.map kV)) /\ RelV p.2 q.2.2) kvs xs /\
   ∃ o es ep,h.get? a=some o /\ o.ExactDict /\ o.data = .dict es ep /\ es.toList=xs.map (entryOfKey (tupleKind (mixKind P w))) /\ (xs.map (·.1)).Nodup
 | .set S n=>h.SetOf (intKind P w) a S n
 | .ins C dx fs=>H dx=some (.own a) /\ fs.length <= 1000 /\ dx ≠ a /\ h.get? a=some (PySem.W.instObj C dx) /\
   ∃ mA,h.Ns1 dx mA /\ (∀ f,RelO (fs.lookup f) (mA f)) /\ PySem.Within mA (fs.map (·.1))
 | .own _=>∃ o,h.get? a=some o
 | .xd fs=>∃ mA,h.Ns1 a mA /\ ∀ f,RelO (fs.lookup f) (mA f)
 | .rng lo hi=>∃ t u v,h.get? a=some { cls:=.type "range",data:=.fields #[.int lo t,.int hi u,.int 1 v] }
 | .frz o u=>h.get? a=some o /\ ObjOk H h a u
 | .tbl ps=>h.get? a=some { cls:=.none,data:=.fields ps }
 | .met f x=>h.get? a=some (PySem.W.methodObj (.ref f) (.ref x))
 | .ext φ=>φ h /\ (∃ o,h.get? a=some o) /\ ∀ h1 h2:Heap,φ h1 -> (∀ o,h1.get? a=some o -> h2.get? a=some o) -> φ h2
def HOk (H:Hp)(h:Heap):Prop:=∀ a o,H a=some o -> ObjOk P w H h a o
end
section
variable {P:Program}{w:World}{H H':Hp}{h h':Heap}{a:Addr}{o:HO}
theorem ObjOk.lt (x:ObjOk P w H h a o):a < h.objs.size:=by
 cases o with
 | lst xs=>obtain ⟨_,_,_,_,e⟩:=x; exact Heap.lt_size e
 | tup xs=>obtain ⟨_,_,_,p⟩:=x; exact p.lt
 | dK kvs=>obtain ⟨_,_,_,_,o,_,_,e,_⟩:=x; exact Heap.lt_size e
 | dT kvs=>obtain ⟨_,_,_,_,o,_,_,e,_⟩:=x; exact Heap.lt_size e
 | set S n=>obtain ⟨o,_,_,_,e,_⟩:=x; exact Heap.lt_size e
 | ins C dx fs=>obtain ⟨_,_,_,e,_⟩:=x; exact Heap.lt_size e
 | own y=>obtain ⟨_,e⟩:=x; exact Heap.lt_size e
 | xd fs=>obtain ⟨_,⟨_,_,_,e,_⟩,_⟩:=x; exact Heap.lt_size e
 | rng lo hi=>obtain ⟨_,_,_,e⟩:=x; exact Heap.lt_size e
 | frz ob u=>obtain ⟨e,_⟩:=x; exact Heap.lt_size e
 | tbl ps=>exact Heap.lt_size (show h.get? a=some _ from x)
 | met f y=>exact Heap.lt_size (show h.get? a=some _ from x)
 | ext φ=>obtain ⟨_,⟨_,e⟩,_⟩:=x; exact Heap.lt_size e
theorem Paired.mapP {α β:Type}{F G:α -> β -> Prop}:∀ {l₁:List α} {l₂:List β},Paired F l₁ l₂ -> (∀ a b,F a b -> G a b) -> Paired G l₁ l₂
 | _,_,.nil,_=>.nil
 | _,_,.cons r t,f=>.cons (f _ _ r) (Paired.mapP t f)
theorem ObjOk.stay (x:ObjOk P w H h a o)(k:∀ b u,(b=a \/ H b=some (.own a)) -> h.get? b=some u -> h'.get? b=some u)
  (ho:∀ b,H b=some (.own a) -> H' b=some (.own a)) (ht:∀ b xs,H b=some (.tup xs) -> H' b=some (.tup xs)):ObjOk P w H' h' a o:=by
 induction o with
 | lst xs=>obtain ⟨z,its,n,r,e⟩:=x; exact ⟨z,its,n,r,k _ _ (.inl rfl) e⟩
 | tup xs=>obtain ⟨z,its,r,ob,e,c⟩:=x; exact ⟨z,its,r,ob,k _ _ (.inl rfl) e,c⟩
 | dK kvs=>obtain ⟨z,y,vs,r,ob,es,ep,e,c⟩:=x; exact ⟨z,y,vs,r,ob,es,ep,k _ _ (.inl rfl) e,c⟩
 | dT kvs =>
  obtain ⟨z,y,xs,r,ob,es,ep,e,c⟩:=x
  exact ⟨z,y,xs,Paired.mapP r fun p q z=>⟨z.1,ht _ _ z.2.1,z.2.2⟩,ob,es,ep,k _ _ (.inl rfl) e,c⟩
 | set S n=>obtain ⟨ob,es,ep,t,e,c⟩:=x; exact ⟨ob,es,ep,t,k _ _ (.inl rfl) e,c⟩
 | ins C dx fs =>
  obtain ⟨d,z,ne,e,mA,⟨od,es,ep,e2,c⟩,r⟩:=x
  exact ⟨ho _ d,z,ne,k _ _ (.inl rfl) e,mA,⟨od,es,ep,k _ _ (.inr d) e2,c⟩,r⟩
 | own y=>obtain ⟨ob,e⟩:=x; exact ⟨ob,k _ _ (.inl rfl) e⟩
 | xd fs=>obtain ⟨mA,⟨od,es,ep,e,c⟩,r⟩:=x; exact ⟨mA,⟨od,es,ep,k _ _ (.inl rfl) e,c⟩,r⟩
 | rng lo hi=>obtain ⟨t,u,v,e⟩:=x; exact ⟨t,u,v,k _ _ (.inl rfl) e⟩
 | frz ob u ih=>obtain ⟨e,q⟩:=x; exact ⟨k _ _ (.inl rfl) e,ih q⟩
 | tbl ps =>
  have e:h.get? a=some { cls:=.none,data:=.fields ps }:=x
  show h'.get? a=some { cls:=.none,data:=.fields ps }
  exact k a _ (.inl rfl) e
 | met f y =>
  have e:h.get? a=some (PySem.W.methodObj (.ref f) (.ref y)):=x
  show h'.get? a=some (PySem.W.methodObj (.ref f) (.ref y))
  exact k a _ (.inl rfl) e
 | ext φ=>obtain ⟨p,⟨o,e⟩,st⟩:=x; exact ⟨st _ _ p fun o q=>k _ _ (.inl rfl) q,⟨o,k _ _ (.inl rfl) e⟩,st⟩
theorem HOk.lt (x:HOk P w H h)(e:H a=some o):a < h.objs.size:=(x a o e).lt
theorem HOk.fresh (x:HOk P w H h)(e:h.objs.size <= a):H a=none:=by
 cases q:H a with
 | none=>rfl
 | some u=>exact absurd (qJ (x.lt q) e) (zq _)
theorem HOk.kept (x:HOk P w H h)(k:∀ b u,h.get? b=some u -> h'.get? b=some u):HOk P w H h':=fun a o e =>
 (x a o e).stay (fun b u _ q=>k b u q) (fun _ q=>q) fun _ _ q=>q
theorem HOk.laid (x:HOk P w H h)(k:∀ b u,h.get? b=some u -> h'.get? b=some u)(hp:h.objs.size <= a)(new:ObjOk P w (upd H a o) h' a o):HOk P w (upd H a o) h':=fun b u e=>by
 have hn:=x.fresh hp
 by_cases hb:b=a
 ·subst hb; rw [zL] at e; cases e; exact new
 ·rw [upd_ne hb] at e
  exact (x b u e).stay (fun c v _ q=>k c v q) (fun c q=>by rw [upd_ne (ne_of_none q hn)]; exact q) fun c xs q=>by rw [upd_ne (ne_of_none q hn)]; exact q
end
def Rd (H:Hp)(a:Addr)(u:HO):Prop:=H a=some u \/ ∃ o,H a=some (.frz o u)
theorem Rd.ok {P:Program}{w:World}{H:Hp}{h:Heap}{a:Addr}{u:HO}(r:Rd H a u)(x:HOk P w H h):ObjOk P w H h a u:=by
 rcases r with r | ⟨o,r⟩
 ·exact x a u r
 ·obtain ⟨_,q⟩:=x a _ r
  exact q
def Mut:Option HO -> Prop
 | some (.lst _)=>True
 | some (.dK _)=>True
 | some (.dT _)=>True
 | some (.set _ _)=>True
 | some (.ins _ _ _)=>True
 | some (.ext _)=>True
 | _=>False
section
variable {P:Program}{w:World}{H:Hp}{h h':Heap}{x e:Addr}{o':HO}
theorem HOk.write (ok:HOk P w H h)(mu:Mut (H x))(he:e=x \/ H e=some (.own x))(k:∀ b u,b ≠ e -> h.get? b=some u -> h'.get? b=some u)(heo:∃ u,h'.get? e=some u)
  (new:ObjOk P w (upd H x o') h' x o'):HOk P w (upd H x o') h':=fun b u q=>by
 have nown:∀ c y,H c=some (.own y) -> c ≠ x:=fun c y r z=>by subst z; rw [r] at mu; exact mu
 have ntup:∀ c xs,H c=some (.tup xs) -> c ≠ x:=fun c xs r z=>by subst z; rw [r] at mu; exact mu
 by_cases hb:b=x
 ·subst hb; rw [zL] at q; cases q; exact new
 ·rw [upd_ne hb] at q
  by_cases hbe:b=e
  ·have q':H b=some (.own x):=by
    rcases he with z | z
    ·exact absurd (hbe.trans z) hb
    ·rw [hbe]; exact z
   rw [q] at q'; cases q'
   obtain ⟨v,hv⟩:=heo
   exact ⟨v,by rw [hbe]; exact hv⟩
  ·refine (ok b u q).stay (fun c v hc r=>k c v ?_ r) (fun c r=>by rw [upd_ne (nown c b r)]; exact r) fun c xs r=>by rw [upd_ne (ntup c xs r)]; exact r
   rcases hc with rfl | hc
   ·exact hbe
   ·rintro rfl
    rcases he with z | z
    ·exact nown c b hc z
    ·rw [hc] at z; cases z; exact hb rfl
end
structure Un (fs ex:List Addr) (H H':Hp) (h h':Heap):Prop where
 keep:∀ b o,h.get? b=some o -> H b=none -> b ∉ fs -> b ∉ ex -> h'.get? b=some o
 slot:∀ b o,h.get? b=some o -> H b=none -> b ∈ fs -> b ∉ ex -> ∃ sl,h'.get? b=some { o with slots:=sl }
 free:∀ b o,h.get? b=some o -> H b=none -> b ∉ ex -> H' b=none
 there:∀ b o,h.get? b=some o -> b ∉ ex -> ∃ o',h'.get? b=some o'
 tups:∀ b xs,H b=some (.tup xs) -> H' b=some (.tup xs)
 frzs:∀ b o u,H b=some (.frz o u) -> H' b=some (.frz o u)
 tbls:∀ b ps,H b=some (.tbl ps) -> ∃ more,H' b=some (.tbl (ps ++ more))
section
variable {fs fs' ex ex':List Addr}{H H1 H2:Hp}{h h1 h2 h':Heap}{a x e:Addr}{o:HO}
theorem Un.any (u:Un fs ex H H1 h h1){b:Addr}{ob:Obj}(q:h.get? b=some ob)(n:H b=none)(hx:b ∉ ex):∃ sl,h1.get? b=some { ob with slots:=sl }:=by
 by_cases hb:b ∈ fs
 ·exact u.slot b ob q n hb hx
 ·exact ⟨ob.slots,u.keep b ob q n hb hx⟩
theorem Un.kept (k:∀ b u,h.get? b=some u -> h'.get? b=some u):Un fs ex H H h h' :=
 ⟨fun b ob q _ _ _=>k b ob q,fun b ob q _ _ _=>⟨ob.slots,k b ob q⟩,fun _ _ _ n _=>n,fun b ob q _=>⟨ob,k b ob q⟩,fun _ _ q=>q,fun _ _ _ q=>q,fun _ ps q=>⟨#[],by rw [q]; simp⟩⟩
theorem Un.refl:Un fs ex H H h h:=Un.kept fun _ _ q=>q
theorem Un.laid (k:∀ b u,h.get? b=some u -> h'.get? b=some u)(hp:h.objs.size <= a)(hn:H a=none):Un fs ex H (upd H a o) h h' where
 keep:=fun b u q _ _ _=>k b u q
 slot:=fun b u q _ _ _=>⟨u.slots,k b u q⟩
 free:=fun b u q n _=>by rw [upd_ne (zN (qJ (Heap.lt_size q) hp))]; exact n
 there:=fun b u q _=>⟨u,k b u q⟩
 tups:=fun b xs q=>by rw [upd_ne (ne_of_none q hn)]; exact q
 frzs:=fun b u xs q=>by rw [upd_ne (ne_of_none q hn)]; exact q
 tbls:=fun b ps q=>⟨#[],by rw [upd_ne (ne_of_none q hn),q]; simp⟩
theorem Un.write (mu:Mut (H x))(he:e=x \/ H e=some (.own x))(k:∀ b u,b ≠ e -> h.get? b=some u -> h'.get? b=some u)(heo:∃ u,h'.get? e=some u):Un fs ex H (upd H x o) h h':=by
 have hx:∀ b,H b=none -> b ≠ x:=fun b n z=>by subst z; rw [n] at mu; exact mu
 have hb:∀ b,H b=none -> b ≠ e:=fun b n z=>by
  subst z
  rcases he with r | r
  ·exact hx b n r
  ·rw [n] at r; cases r
 have hm:∀ b u,H b=some u -> ¬ Mut (some u) -> b ≠ x:=fun b u q nm z=>by subst z; rw [q] at mu; exact nm mu
 refine ⟨fun b u q n _ _=>k b u (hb b n) q,fun b u q n _ _=>⟨u.slots,k b u (hb b n) q⟩,fun b u q n _=>by rw [upd_ne (hx b n)]; exact n,fun b u q _=>?_,
  fun b xs q=>by rw [upd_ne (hm b _ q fun z=>z)]; exact q,fun b u xs q=>by rw [upd_ne (hm b _ q fun z=>z)]; exact q,fun b ps q=>⟨#[],by rw [upd_ne (hm b _ q fun z=>z),q]; simp⟩⟩
 by_cases hbe:b=e
 ·subst hbe; exact heo
 ·exact ⟨u,k b u hbe q⟩
end
def trk (h:Heap)(H:Hp):List Addr:=(zy h.objs.size).filter fun a=>(H a).isSome
def hidT (h:Heap)(H:Hp):Heap:=PySem.W.hideAll h (trk h H)
theorem hidT_size (h:Heap)(H:Hp):(hidT h H).objs.size=h.objs.size:=PySem.W.hideAll_size _ _
theorem hidT_get {h:Heap}{H:Hp}{b:Addr}{o:Obj}(e:h.get? b=some o)(n:H b=none):(hidT h H).get? b=some o :=
 PySem.W.hideAll_get _ e fun hm=>by
  have q:(H b).isSome=true:=(List.mem_filter.mp hm).2
  rw [n] at q; simp at q
theorem of_hidT {h:Heap}{H:Hp}{b:Addr}{o:Obj}(e:(hidT h H).get? b=some o):h.get? b=some o /\ H b=none:=by
 have e':h.get? b=some o:=PySem.W.of_hideAll (trk h H) e
 refine ⟨e',?_⟩
 cases q:H b with
 | none=>rfl
 | some x =>
  have hm:b ∈ trk h H:=List.mem_filter.mpr ⟨List.mem_range.mpr (Heap.lt_size e'),by simp [q]⟩
  have z:(hidT h H).get? b=none:=PySem.W.hideAll_none (trk h H) hm
  rw [z] at e; cases e
def allNews (g h:Heap)(L:Addr):List (Addr × Obj):=(zy h.objs.size).filterMap fun a=>if a=L \/ (g.get? a).isSome=true then none else (h.get? a).map fun o=>(a,o)
def rest (g h:Heap)(L d:Addr):List (Addr × Obj):=(allNews g h L).filter fun p=>decide (p.1 ≠ d)
end L2
namespace L2
open PySem PySem.Spec PyProof.Rows
structure Mod (K:zA) (mg:Str -> Option Value) (base:Heap):Prop where
 kin:K.In base
 glob:base.Ns mainGlobals mg
 blt:∃ mb,base.Ns builtinsNs mb /\ ∀ x:Str,x ≠ "__name__" -> mb x=bootBuiltins x
 nolimit:base.NoLimit
structure Cx where
 prog:Program
 w:World
 K:zA
 mg:Str -> Option Value
 base:Heap
 A:Around
 N:List Str
 s₀:Shared
 H₀:Hp
 env:Env
 outer:List Env
 stack:List Env
 ex:List Addr
 fn:Str -> Bool
 calm:Bool
 pn:List (Addr × Obj)
 xe:Value -> Shared -> Prop
def frs (l:List Env):List Addr:=l.filterMap (·.frame)
abbrev Cx.fs (X:Cx):List Addr:=frs X.outer
def Vis (sc:Scope)(x:Str):Prop:=sc.names.lookup x=some .local \/ sc.names.lookup x=some .cell \/ sc.names.lookup x=some .free
def Loc (sc:Scope)(x:Str):Prop:=sc.names.lookup x=some .local \/ sc.names.lookup x=some .cell
def Look (env:Env)(h:Heap)(m:Str -> Option Value)(x:Str)(u:Value):Prop :=
 (env.kindOf x=some .local /\ m x=some u) \/ ((env.kindOf x=some .cell \/ env.kindOf x=some .free) /\ ∃ c,env.cells.lookup x=some c /\ h.IsCell c (some u))
structure Cx.Ok (X:Cx):Prop where
 mod:Mod X.K X.mg X.base
 kind:X.env.scope.kind = .function
 glob:X.env.globals=mainGlobals
 blt:X.env.builtins=builtinsNs
 above:X.s₀.heap.objs.size <= X.env.locals
 inj:∀ x y c,X.env.cells.lookup x=some c -> X.env.cells.lookup y=some c -> x=y
 has:∀ x,(X.env.kindOf x=some .cell \/ X.env.kindOf x=some .free) -> ∃ c,X.env.cells.lookup x=some c
 cab:∀ x c,X.fn x=true -> X.env.cells.lookup x=some c -> X.s₀.heap.objs.size <= c
 hd:X.calm=true -> X.A.handled=none
 frames:X.A.frames=some X.stack
 stk:X.stack=X.outer \/ (X.stack=X.env :: X.outer /\ X.env.frame=some X.env.locals)
 exf:∀ b ∈ X.ex,b ≠ X.env.locals /\ ∀ x c,X.env.cells.lookup x=some c -> c ≠ b
 bs:∀ b o,X.base.get? b=some o -> X.s₀.heap.get? b=some o /\ X.H₀ b=none
 bsz:X.base.objs.size <= X.s₀.heap.objs.size
 noex:∀ b o,X.base.get? b=some o -> b ∉ X.ex
 exfs:∀ b ∈ X.ex,b ∉ X.fs
 funs:X.s₀.heap.FunFrames X.base X.outer
 frf:∀ b ∈ X.fs,X.H₀ b=none
structure Inv (X:Cx) (pins:List (Addr × Obj)) (σ:List (Option V)) (H:Hp) (s:Shared):Prop where
 ok:X.Ok
 os:s.os=X.s₀.os
 bare:AllBare s.gens
 base:Un X.fs X.ex X.H₀ H X.s₀.heap s.heap
 loc:∃ m,s.heap.Ns X.env.locals m /\ ∀ (i:Nat) (x:Str) (v:V),X.N[i]? = some x -> σ[i]? = some (some v) -> Vis X.env.scope x -> ∃ u,RelV v u /\ Look X.env s.heap m x u
 cell:∀ x c,X.env.cells.lookup x=some c -> ∃ v,s.heap.IsCell c v
 free:H X.env.locals=none
 freeC:∀ x c,X.env.cells.lookup x=some c -> H c=none
 pin:∀ p ∈ X.pn ++ pins,s.heap.get? p.1=some p.2 /\ H p.1=none /\ p.1 ≠ X.env.locals /\ p.1 ∉ X.fs /\ ∀ v,p.2.data ≠ .cell v
 hok:HOk X.prog X.w H s.heap
 len:σ.length=X.N.length
section
variable {X:Cx}{pins:List (Addr × Obj)}{σ:List (Option V)}{H H':Hp}{s:Shared}{h':Heap}
theorem Cx.Ok.nofr (ok:X.Ok){b:Addr}{o:Obj}(e:X.base.get? b=some o):b ∉ X.fs:=fun hb=>by
 have:=(ok.funs.mem hb).1
 rw [e] at this; cases this
theorem Inv.bs (I:Inv X pins σ H s):∀ b o,X.base.get? b=some o -> s.heap.get? b=some o /\ H b=none:=fun b o e =>
 ⟨I.base.keep b o (I.ok.bs b o e).1 (I.ok.bs b o e).2 (I.ok.nofr e) (I.ok.noex b o e),I.base.free b o (I.ok.bs b o e).1 (I.ok.bs b o e).2 (I.ok.noex b o e)⟩
theorem Inv.bk (I:Inv X pins σ H s):∀ b o,X.base.get? b=some o -> s.heap.get? b=some o:=fun b o e=>(I.bs b o e).1
theorem Inv.mod (I:Inv X pins σ H s):Mod X.K X.mg X.base:=I.ok.mod
theorem Inv.kIn (I:Inv X pins σ H s):X.K.In s.heap:=I.ok.mod.kin.keeps I.bk
theorem Inv.lt (I:Inv X pins σ H s):X.env.locals < s.heap.objs.size:=let ⟨_,hn,_⟩:=I.loc; hn.lt
theorem Inv.sz (I:Inv X pins σ H s):X.s₀.heap.objs.size <= s.heap.objs.size:=zD I.ok.above (xH I.lt)
theorem Inv.nofs (I:Inv X pins σ H s){a:Addr}(h:s.heap.objs.size <= a):a ∉ X.fs:=fun hb=>by
 obtain ⟨_,o,ho,_⟩:=I.ok.funs.mem hb
 exact absurd (qJ (Heap.lt_size ho) (zD I.sz h)) (zq _)
theorem Inv.cne (I:Inv X pins σ H s):∀ x c,X.env.cells.lookup x=some c -> c ≠ X.env.locals:=fun x c e z=>by
 obtain ⟨v,o,ho,hd⟩:=I.cell x c e
 obtain ⟨m,⟨o',es,ep,ho',hd',_⟩,_⟩:=I.loc
 rw [z,ho'] at ho; cases ho; rw [hd'] at hd; cases hd
theorem Inv.funs (I:Inv X pins σ H s):s.heap.FunFrames X.base X.outer:=by
 have all:∀ (l:List Env),(∀ b ∈ frs l,b ∈ X.fs) -> X.s₀.heap.FunFrames X.base l -> s.heap.FunFrames X.base l:=by
  intro l
  induction l with
  | nil=>intro _ _; trivial
  | cons env r ih =>
   intro hs hl
   obtain ⟨hk,⟨L,o,hf,hn,ho,hd⟩,hr⟩:=hl
   have hL:L ∈ X.fs:=hs L (by unfold frs; rw [zx,hf]; exact zK)
   obtain ⟨sl,e⟩:=I.base.slot L o ho (I.ok.frf L hL) hL fun z=>I.ok.exfs L z hL
   exact ⟨hk,⟨L,_,hf,hn,e,hd⟩,ih (fun b hb=>hs b (by unfold frs; rw [zx,hf]; exact zO _ hb)) hr⟩
 exact all X.outer (fun _ hb=>hb) I.ok.funs
theorem Inv.stack (I:Inv X pins σ H s):s.heap.FunFrames X.base X.stack:=by
 rcases I.ok.stk with e | ⟨e,hf⟩
 ·rw [e]; exact I.funs
 ·rw [e]
  obtain ⟨m,hn,_⟩:=I.loc
  refine .cons (by rw [I.ok.kind]; decide) hf hn ?_ I.funs
  exact Heap.get?_none_of_le (zD I.ok.bsz I.ok.above)
theorem Inv.stkSub (I:Inv X pins σ H s):∀ b ∈ frs X.stack,b ∈ X.env.locals :: X.fs:=fun b hb=>by
 rcases I.ok.stk with e | ⟨e,hf⟩
 ·rw [e] at hb; exact zO _ hb
 ·rw [e] at hb
  unfold frs at hb
  rw [zx,hf] at hb
  exact hb
theorem Inv.stkFree (I:Inv X pins σ H s):∀ b ∈ frs X.stack,H b=none:=fun b hb=>by
 rcases zI.mp (I.stkSub b hb) with e | hb
 ·rw [e]; exact I.free
 ·obtain ⟨_,o,ho,_⟩:=I.ok.funs.mem hb
  exact I.base.free b o ho (I.ok.frf b hb) fun z=>I.ok.exfs b z hb
theorem Inv.step {g':Array GenState}{t':Nat}{d':Drawn}{ch:List Addr}(I:Inv X pins σ H s)
  (hch:∀ b ∈ ch,(b ∈ X.ex \/ X.s₀.heap.objs.size <= b) /\ b ≠ X.env.locals /\ (∀ x c,X.env.cells.lookup x=some c -> c ≠ b) /\ ∀ p ∈ X.pn ++ pins,p.1 ≠ b)
  (keep:∀ b o,b ≠ X.env.locals -> b ∉ X.fs -> b ∉ ch -> s.heap.get? b=some o -> H b=none -> h'.get? b=some o)
  (slot:∀ b o,b ≠ X.env.locals -> b ∈ X.fs -> b ∉ ch -> s.heap.get? b=some o -> H b=none -> ∃ sl,h'.get? b=some { o with slots:=sl }) (free:∀ b o,b ∉ ch -> s.heap.get? b=some o -> H b=none -> H' b=none)
  (there:∀ b o,b ∉ ch -> s.heap.get? b=some o -> ∃ o',h'.get? b=some o')
  (tups:∀ b xs,H b=some (.tup xs) -> H' b=some (.tup xs)) (frzs:∀ b o u,H b=some (.frz o u) -> H' b=some (.frz o u)) (tbls:∀ b ps,H b=some (.tbl ps) -> ∃ more,H' b=some (.tbl (ps ++ more)))
  (ns:∀ m,s.heap.Ns X.env.locals m -> h'.Ns X.env.locals m) (hok:HOk X.prog X.w H' h') (hg:AllBare g') :
  Inv X pins σ H' { s with heap:=h',gens:=g',drawn:=d',toks:=t' }:=by
 have neL:∀ b o,X.s₀.heap.get? b=some o -> b ≠ X.env.locals:=fun b o e=>zN (qJ (Heap.lt_size e) I.ok.above)
 have neC:∀ b o,X.s₀.heap.get? b=some o -> b ∉ X.ex -> b ∉ ch:=fun b o e hx hb=>by
  rcases (hch b hb).1 with z | z
  ·exact hx z
  ·exact absurd (qJ (Heap.lt_size e) z) (zq _)
 have cellK:∀ x c,X.env.cells.lookup x=some c -> ∀ v,s.heap.IsCell c v -> h'.IsCell c v:=fun x c e v ⟨o,ho,hd⟩=>by
  have nch:c ∉ ch:=fun z=>(hch c z).2.2.1 x c e rfl
  by_cases hc:c ∈ X.fs
  ·obtain ⟨sl,q⟩:=slot c o (I.cne x c e) hc nch ho (I.freeC x c e)
   exact ⟨_,q,hd⟩
  ·exact ⟨o,keep c o (I.cne x c e) hc nch ho (I.freeC x c e),hd⟩
 refine ⟨I.ok,I.os,hg,⟨fun b o e n hb hx=>?_,fun b o e n hb hx=>?_,fun b o e n hx=>?_,fun b o e hx=>?_,fun b xs e=>tups b xs (I.base.tups b xs e),fun b o xs e=>frzs b o xs (I.base.frzs b o xs e),fun b ps e=>?_⟩,?_,fun x c e=>?_,?_,fun x c e=>?_,fun p hp=>?_,hok,I.len⟩
 ·exact keep b o (neL b o e) hb (neC b o e hx) (I.base.keep b o e n hb hx) (I.base.free b o e n hx)
 ·obtain ⟨sl,e1⟩:=I.base.slot b o e n hb hx
  obtain ⟨sl',e2⟩:=slot b _ (neL b o e) hb (neC b o e hx) e1 (I.base.free b o e n hx)
  exact ⟨sl',e2⟩
 ·obtain ⟨o',e1⟩:=I.base.there b o e hx
  exact free b o' (neC b o e hx) e1 (I.base.free b o e n hx)
 ·obtain ⟨o',e1⟩:=I.base.there b o e hx
  exact there b o' (neC b o e hx) e1
 ·obtain ⟨m1,e1⟩:=I.base.tbls b ps e
  obtain ⟨m2,e2⟩:=tbls b _ e1
  exact ⟨m1 ++ m2,by rw [e2,Array.append_assoc]⟩
 ·obtain ⟨m,hn,hl⟩:=I.loc
  refine ⟨m,ns m hn,fun i x v e1 e2 e3=>?_⟩
  obtain ⟨u,r,l⟩:=hl i x v e1 e2 e3
  refine ⟨u,r,?_⟩
  rcases l with l | ⟨k,c,e,z⟩
  ·exact .inl l
  ·exact .inr ⟨k,c,e,cellK x c e _ z⟩
 ·obtain ⟨v,z⟩:=I.cell x c e
  exact ⟨v,cellK x c e v z⟩
 ·obtain ⟨m,⟨o,_,_,ho,_⟩,_⟩:=I.loc
  exact free _ o (fun z=>(hch _ z).2.1 rfl) ho I.free
 ·obtain ⟨v,o,ho,hd⟩:=I.cell x c e
  exact free c o (fun z=>(hch c z).2.2.1 x c e rfl) ho (I.freeC x c e)
 ·obtain ⟨e,n,ne,nf,d⟩:=I.pin p hp
  have nch:p.1 ∉ ch:=fun z=>(hch p.1 z).2.2.2 p hp rfl
  exact ⟨keep p.1 p.2 ne nf nch e n,free p.1 p.2 nch e n,ne,nf,d⟩
theorem Inv.un {t':Nat}(I:Inv X pins σ H s)(u:Un X.fs [] H H' s.heap h')(hok:HOk X.prog X.w H' h'):Inv X pins σ H' { s with heap:=h',toks:=t' }:=by
 obtain ⟨m,⟨o,es,ep,ho,r⟩,_⟩:=id I.loc
 obtain ⟨sl,hL⟩:=u.any ho I.free (by simp)
 exact I.step (g':=s.gens) (d':=s.drawn) (ch:=[]) (fun _ z=>nomatch z) (fun b o _ hb _ e n=>u.keep b o e n hb (by simp)) (fun b o _ hb _ e n=>u.slot b o e n hb (by simp)) (fun b o _ e n=>u.free b o e n (by simp)) (fun b o _ e=>u.there b o e (by simp)) u.tups u.frzs u.tbls (fun m' hm=>by
  obtain ⟨o',es',ep',ho',r'⟩:=hm
  rw [ho] at ho'; cases ho'
  exact ⟨_,es',ep',hL,r'⟩) hok I.bare
theorem Inv.call {g':Array GenState}{t':Nat}{d':Drawn}{ch:List Addr}(I:Inv X pins σ H s)(u:Un (frs X.stack) ch H H' s.heap h')(hok:HOk X.prog X.w H' h')(hg:AllBare g')
  (hch:∀ b ∈ ch,(b ∈ X.ex \/ X.s₀.heap.objs.size <= b) /\ b ≠ X.env.locals /\ (∀ x c,X.env.cells.lookup x=some c -> c ≠ b) /\ ∀ p ∈ X.pn ++ pins,p.1 ≠ b) :
  Inv X pins σ H' { s with heap:=h',gens:=g',drawn:=d',toks:=t' }:=by
 obtain ⟨m,⟨o,es,ep,ho,r⟩,_⟩:=id I.loc
 obtain ⟨sl,hL⟩:=u.any ho I.free fun z=>(hch _ z).2.1 rfl
 exact I.step (ch:=ch) hch (fun b o hL hb hc e n=>u.keep b o e n (fun z=>(zI.mp (I.stkSub b z)).elim hL hb) hc) (fun b o _ _ hc e n=>u.any e n hc) (fun b o hc e n=>u.free b o e n hc) (fun b o hc e=>u.there b o e hc) u.tups u.frzs u.tbls (fun m' hm=>by
  obtain ⟨o',es',ep',ho',r'⟩:=hm
  rw [ho] at ho'; cases ho'
  exact ⟨_,es',ep',hL,r'⟩) hok hg
theorem Inv.turned {t':Nat}{it:Addr}(I:Inv X pins σ H s)(k:∀ b o,b ≠ it -> s.heap.get? b=some o -> h'.get? b=some o)(hn:H it=none)(hL:it ≠ X.env.locals)
  (h1:it ∈ X.ex \/ X.s₀.heap.objs.size <= it) (h2:∀ x c,X.env.cells.lookup x=some c -> c ≠ it) (h3:∀ p ∈ X.pn ++ pins,p.1 ≠ it):Inv X pins σ H { s with heap:=h',toks:=t' }:=by
 have nit:∀ b u,H b=some u -> b ≠ it:=fun b u e z=>by rw [z,hn] at e; cases e
 refine I.step (g':=s.gens) (d':=s.drawn) (ch:=[it]) (fun b hb=>?_) (fun b o _ _ hc e _=>k b o (fun z=>hc (by simp [z])) e) (fun b o _ _ hc e _=>⟨o.slots,k b o (fun z=>hc (by simp [z])) e⟩) (fun _ _ _ _ n=>n)
  (fun b o hc e=>⟨o,k b o (fun z=>hc (by simp [z])) e⟩) (fun _ _ e=>e) (fun _ _ _ e=>e) (fun b ps e=>⟨#[],by rw [e]; simp⟩) (fun m hm=>?_) (fun b u e=>?_) I.bare
 ·have e:b=it:=by simpa using hb
  subst e
  exact ⟨h1,hL,h2,h3⟩
 ·obtain ⟨o,es,ep,ho,r⟩:=hm
  exact ⟨o,es,ep,k _ o (Ne.symm hL) ho,r⟩
 ·refine (I.hok b u e).stay (fun c v hc q=>k c v ?_ q) (fun _ q=>q) fun _ _ q=>q
  rcases hc with z | z
  ·rw [z]; exact nit b u e
  ·exact nit c _ z
theorem Inv.tok (I:Inv X pins σ H s)(t:Nat):Inv X pins σ H { s with toks:=t }:=I.un (h':=s.heap) (t':=t) Un.refl I.hok
theorem Inv.kept {t':Nat}(I:Inv X pins σ H s)(k:∀ b u,s.heap.get? b=some u -> h'.get? b=some u):Inv X pins σ H { s with heap:=h',toks:=t' }:=I.un (Un.kept k) (I.hok.kept k)
theorem Inv.laid {a:Addr}{o:HO}{t':Nat}(I:Inv X pins σ H s)(k:∀ b u,s.heap.get? b=some u -> h'.get? b=some u)(hp:s.heap.objs.size <= a)(new:ObjOk X.prog X.w (upd H a o) h' a o) :
  Inv X pins σ (upd H a o) { s with heap:=h',toks:=t' }:=I.un (Un.laid k hp (I.hok.fresh hp)) (I.hok.laid k hp new)
theorem Inv.write {x e:Addr}{o:HO}{t':Nat}(I:Inv X pins σ H s)(mu:Mut (H x))(he:e=x \/ H e=some (.own x))(k:∀ b u,b ≠ e -> s.heap.get? b=some u -> h'.get? b=some u)(heo:∃ u,h'.get? e=some u)
  (new:ObjOk X.prog X.w (upd H x o) h' x o):Inv X pins σ (upd H x o) { s with heap:=h',toks:=t' }:=I.un (Un.write mu he k heo) (I.hok.write mu he k heo new)
theorem Inv.pins_of {pins':List (Addr × Obj)}(I:Inv X pins σ H s)(h:∀ p ∈ pins',s.heap.get? p.1=some p.2 /\ H p.1=none /\ p.1 ≠ X.env.locals /\ p.1 ∉ X.fs /\ ∀ v,p.2.data ≠ .cell v):Inv X pins' σ H s :=
 ⟨I.ok,I.os,I.bare,I.base,I.loc,I.cell,I.free,I.freeC,fun p hp=>(zW.mp hp).elim (fun z=>I.pin p (List.mem_append_left _ z)) (h p),I.hok,I.len⟩
theorem nodup_ix {N:List Str}(hN:N.Nodup){i j:Nat}{x:Str}(a:N[i]? = some x)(b:N[j]? = some x):i=j:=by
 obtain ⟨h1,e1⟩:=qB.mp a
 obtain ⟨h2,e2⟩:=qB.mp b
 exact (List.getElem_inj hN).mp (e1.trans e2.symm)
theorem store_ok2 {M:Model}{A:Around}{E:Value -> Shared -> Prop}{i:Nat}{x:Str}{v:V}{u:Value}{Q:Unit -> Shared -> Prop}(I:Inv X pins σ H s)(hN:X.N.Nodup)(hi:X.N[i]? = some x)(hx:Loc X.env.scope x)(r:RelV v u)
  (h:∀ s',Inv X pins (σ.set i (some v)) H s' -> (∃ a,Heap.SameBut a s.heap s'.heap /\ (a=X.env.locals \/ X.env.cells.lookup x=some a)) -> Q () s') (hf:X.fn x=true \/ X.env.scope.names.lookup x=some .local:=by first | exact .inl rfl | exact .inr rfl | assumption):wpAny M A (storeName X.env x u) Q E s:=by
 obtain ⟨m,hn,hl⟩:=id I.loc
 have hcls:(X.env.scope.kind == .class || (X.env.scope.kind == .module && X.env.locals != X.env.globals))=false:=by rw [I.ok.kind]; rfl
 have hiσ:i < σ.length:=by rw [I.len]; exact (qB.mp hi).1
 have cne:=I.cne
 have tracked:∀ {a:Addr} {h':Heap},(∃ o,s.heap.get? a=some o /\ H a=none) -> Heap.SameBut a s.heap h' -> HOk X.prog X.w H h':=fun {a h'} ha hs b ob e=>by
  obtain ⟨_,_,hfree⟩:=ha
  refine (I.hok b ob e).stay (fun c w' hc q=>(hs.2 c ?_).trans q) (fun _ q=>q) fun _ _ q=>q
  rintro rfl
  rcases hc with rfl | hc
  ·rw [hfree] at e; cases e
  ·rw [hfree] at hc; cases hc
 rcases hx with hk | hk
 ·refine wpAny_storeName_local hk hn (fun h' hn' hs=>?_) hcls
  obtain ⟨oL,_,_,hoL,_⟩:=id hn
  refine h _ ⟨I.ok,I.os,I.bare,⟨fun b o e n hb hx=>?_,fun b o e n hb hx=>?_,I.base.free,fun b o e hx=>?_,I.base.tups,I.base.frzs,I.base.tbls⟩,⟨_,hn',fun j y v' e1 e2 e3=>?_⟩,fun y c e=>?_,I.free,I.freeC,fun p hp=>?_,tracked ⟨oL,hoL,I.free⟩ hs,by simpa using I.len⟩ ⟨_,hs,.inl rfl⟩
  ·exact (hs.2 b (zN (qJ (Heap.lt_size e) I.ok.above))).trans (I.base.keep b o e n hb hx)
  ·obtain ⟨sl,e1⟩:=I.base.slot b o e n hb hx
   exact ⟨sl,(hs.2 b (zN (qJ (Heap.lt_size e) I.ok.above))).trans e1⟩
  ·obtain ⟨o',e1⟩:=I.base.there b o e hx
   exact ⟨o',(hs.2 b (zN (qJ (Heap.lt_size e) I.ok.above))).trans e1⟩
  ·by_cases hj:j=i
   ·subst hj
    rw [hi] at e1; cases e1
    rw [List.getElem?_set_self hiσ] at e2
    cases e2
    exact ⟨u,r,.inl ⟨hk,by simp⟩⟩
   ·rw [List.getElem?_set_ne (Ne.symm hj)] at e2
    obtain ⟨u',r',q⟩:=hl j y v' e1 e2 e3
    refine ⟨u',r',?_⟩
    rcases q with ⟨k,e⟩ | ⟨k,c,e,z⟩
    ·refine .inl ⟨k,?_⟩
     have:y ≠ x:=fun e=>hj (nodup_ix hN e1 (e ▸ hi))
     simp [this,e]
    ·exact .inr ⟨k,c,e,z.sameBut hs (cne y c e)⟩
  ·obtain ⟨w',z⟩:=I.cell y c e
   exact ⟨w',z.sameBut hs (cne y c e)⟩
  ·obtain ⟨e,n,ne,nf,d⟩:=I.pin p hp
   exact ⟨(hs.2 p.1 ne).trans e,n,ne,nf,d⟩
 ·have hfn:X.fn x=true:=by
   rcases hf with z | z
   ·exact z
   ·rw [z] at hk; cases hk
  obtain ⟨c,hc⟩:=I.ok.has x (.inl hk)
  obtain ⟨w',z⟩:=I.cell x c hc
  refine wpAny_storeName_cell I.ok.kind hk hc z (fun h' hc' hs=>?_)
  obtain ⟨oc,hoc,hocd⟩:=id z
  refine h { s with heap:=h' } ⟨I.ok,I.os,I.bare,⟨fun b o e n hb hx=>?_,fun b o e n hb hx=>?_,I.base.free,fun b o e hx=>?_,I.base.tups,I.base.frzs,I.base.tbls⟩,⟨m,hn.sameBut hs (Ne.symm (cne x c hc)),fun j y v' e1 e2 e3=>?_⟩,fun y c' e=>?_,I.free,I.freeC,fun p hp=>?_,tracked ⟨oc,hoc,I.freeC x c hc⟩ hs,by simpa using I.len⟩ ⟨c,hs,.inr hc⟩
  ·exact (hs.2 b (zN (qJ (Heap.lt_size e) (I.ok.cab x c hfn hc)))).trans (I.base.keep b o e n hb hx)
  ·obtain ⟨sl,e1⟩:=I.base.slot b o e n hb hx
   exact ⟨sl,(hs.2 b (zN (qJ (Heap.lt_size e) (I.ok.cab x c hfn hc)))).trans e1⟩
  ·obtain ⟨o',e1⟩:=I.base.there b o e hx
   exact ⟨o',(hs.2 b (zN (qJ (Heap.lt_size e) (I.ok.cab x c hfn hc)))).trans e1⟩
  ·by_cases hj:j=i
   ·subst hj
    rw [hi] at e1; cases e1
    rw [List.getElem?_set_self hiσ] at e2
    cases e2
    exact ⟨u,r,.inr ⟨.inl hk,c,hc,hc'⟩⟩
   ·rw [List.getElem?_set_ne (Ne.symm hj)] at e2
    obtain ⟨u',r',q⟩:=hl j y v' e1 e2 e3
    refine ⟨u',r',?_⟩
    rcases q with q | ⟨k,c',e,z'⟩
    ·exact .inl q
    ·refine .inr ⟨k,c',e,z'.sameBut hs ?_⟩
     rintro rfl
     exact hj (nodup_ix hN e1 (I.ok.inj _ _ _ e hc ▸ hi))
  ·by_cases hcc:c'=c
   ·subst hcc; exact ⟨_,hc'⟩
   ·obtain ⟨w2,z2⟩:=I.cell y c' e
    exact ⟨w2,z2.sameBut hs hcc⟩
  ·obtain ⟨e,n,ne,nf,d⟩:=I.pin p hp
   refine ⟨(hs.2 p.1 ?_).trans e,n,ne,nf,d⟩
   intro q
   rw [q,hoc] at e
   have q':oc=p.2:=Option.some.inj e
   exact d w' (by rw [← q']; exact hocd)
theorem JD {M:Model}{A:Around}{E:Value -> Shared -> Prop}{i:Nat}{x:Str}{v:V}{u:Value}{Q:Unit -> Shared -> Prop}(I:Inv X pins σ H s)(hN:X.N.Nodup)(hi:X.N[i]? = some x)(hx:Loc X.env.scope x)(r:RelV v u)
  (h:∀ s',Inv X pins (σ.set i (some v)) H s' -> Q () s') (hf:X.fn x=true \/ X.env.scope.names.lookup x=some .local:=by first | exact .inl rfl | exact .inr rfl | assumption):wpAny M A (storeName X.env x u) Q E s :=
 store_ok2 I hN hi hx r (fun s' I' _=>h s' I') hf
theorem Inv.call' {s':Shared}{ch:List Addr}(I:Inv X pins σ H s)(ho:s'.os=s.os)(u:Un (frs X.stack) ch H H' s.heap s'.heap)(hok:HOk X.prog X.w H' s'.heap)(hg:AllBare s'.gens)
  (hch:∀ b ∈ ch,(b ∈ X.ex \/ X.s₀.heap.objs.size <= b) /\ b ≠ X.env.locals /\ (∀ x c,X.env.cells.lookup x=some c -> c ≠ b) /\ ∀ p ∈ X.pn ++ pins,p.1 ≠ b):Inv X pins σ H' s':=by
 obtain ⟨h',g',d',t',o'⟩:=s'
 have e:o'=s.os:=ho
 subst e
 exact I.call (g':=g') (t':=t') (d':=d') u hok hg hch
end
abbrev XK:=Value -> Option Addr -> Hp -> Prop
abbrev St:=List (Option V)
abbrev VK:=V -> Hp -> Prop
abbrev TE:=St -> Hp -> VK -> Prop
abbrev TT:=St -> Hp -> (Bool -> Hp -> Prop) -> Prop
abbrev TA:=St -> Hp -> (List V -> Hp -> Prop) -> Prop
structure Ends where
 nx:St -> Hp -> Prop
 rt:VK
 bk:St -> Hp -> Prop:=fun _ _=>False
 ct:St -> Hp -> Prop:=fun _ _=>False
abbrev TS:=Ends -> St -> Hp -> Prop
def EP (X:Cx)(pins:List (Addr × Obj))(σ:St)(Q:VK)(u:Value)(s':Shared):Prop:=∃ v H',Inv X pins σ H' s' /\ RelV v u /\ Q v H'
def TP (X:Cx)(pins:List (Addr × Obj))(σ:St)(Q:Bool -> Hp -> Prop)(b:Bool)(s':Shared):Prop:=∃ H',Inv X pins σ H' s' /\ Q b H'
def AP (X:Cx)(pins:List (Addr × Obj))(σ:St)(Q:List V -> Hp -> Prop)(us:List Value)(s':Shared):Prop:=∃ vs H',Inv X pins σ H' s' /\ Vals vs us /\ Q vs H'
def SP (X:Cx)(pins:List (Addr × Obj))(D:Ends)(f:Flow)(s':Shared):Prop :=
 match f with
 | .next=>∃ σ' H',Inv X pins σ' H' s' /\ D.nx σ' H'
 | .brk=>∃ σ' H',Inv X pins σ' H' s' /\ D.bk σ' H'
 | .cont=>∃ σ' H',Inv X pins σ' H' s' /\ D.ct σ' H'
 | .ret u=>∃ v σ' H',Inv X pins σ' H' s' /\ RelV v u /\ D.rt v H'
def PE (X:Cx)(e:Expr)(t:TE):Prop :=
 ∀ (pins:List (Addr × Obj)) (s:Shared) (σ:St) (H:Hp) (Q:VK),Inv X pins σ H s -> t σ H Q -> wpAny (model X.prog X.w) X.A (eval e X.env) (EP X pins σ Q) X.xe s
def PT (X:Cx)(e:Expr)(t:TT):Prop :=
 ∀ (pins:List (Addr × Obj)) (s:Shared) (σ:St) (H:Hp) (Q:Bool -> Hp -> Prop),Inv X pins σ H s -> t σ H Q -> wpAny (model X.prog X.w) X.A (isTrue e X.env (eval e X.env)) (TP X pins σ Q) X.xe s
def PW (X:Cx)(e:Expr)(t:TT):Prop :=
 ∀ (whole:Sem Value) (pins:List (Addr × Obj)) (s:Shared) (σ:St) (H:Hp) (Q:Bool -> Hp -> Prop),Inv X pins σ H s -> t σ H Q -> wpAny (model X.prog X.w) X.A (isTrue e X.env whole) (TP X pins σ Q) X.xe s
theorem PW.pt {X:Cx}{e:Expr}{t:TT}(h:PW X e t):PT X e t:=h _
def PA (X:Cx)(es:List Expr)(t:TA):Prop :=
 ∀ (pos:Pos) (pins:List (Addr × Obj)) (s:Shared) (σ:St) (H:Hp) (Q:List V -> Hp -> Prop),Inv X pins σ H s -> t σ H Q -> wpAny (model X.prog X.w) X.A (spliced (backTo pos (starEach es X.env))) (AP X pins σ Q) X.xe s
def PS (X:Cx)(st:Stmt)(t:TS):Prop :=
 ∀ (pins:List (Addr × Obj)) (s:Shared) (σ:St) (H:Hp) (D:Ends),Inv X pins σ H s -> t D σ H -> wpAny (model X.prog X.w) X.A (exec st X.env) (SP X pins D) X.xe s
def PSs (X:Cx)(st:List Stmt)(t:TS):Prop :=
 ∀ (pins:List (Addr × Obj)) (s:Shared) (σ:St) (H:Hp) (D:Ends),Inv X pins σ H s -> t D σ H -> wpAny (model X.prog X.w) X.A (execs st X.env) (SP X pins D) X.xe s
theorem thn {α:Type}{t:Sem α}{Q Q':α -> Shared -> Prop}{M:Model}{A:Around}{E:Value -> Shared -> Prop}{s:Shared}(h:wpAny M A t Q E s)(hQ:∀ a s,Q a s -> Q' a s):wpAny M A t Q' E s:=wpAny_mono h hQ fun _ _ x=>x
end L2
namespace L2
open PySem PySem.Spec PyProof.Rows
section
variable {X:Cx}
def tVar (i:Nat):TE:=fun σ H Q=>∃ v,σ[i]? = some (some v) /\ Q v H
def tC (v:V):TE:=fun _ H Q=>Q v H
theorem pe_var {i:Nat} {x:Str} {pos:Pos} (hN:X.N[i]? = some x) (hv:Vis X.env.scope x) (hd:(x == ("__debug__" : Str))=false:=by decide) (hcd:(x == ("__classdict__" : Str))=false:=by decide):PE X (.Name x pos) (tVar i):=by
 intro pins s σ H Q I h
 obtain ⟨v,e,h⟩:=h
 obtain ⟨m,hn,hl⟩:=I.loc
 obtain ⟨u,r,l⟩:=hl i x v hN e hv
 have fin:EP X pins σ Q u s:=⟨v,H,I,r,h⟩
 rcases l with ⟨hk,hm⟩ | ⟨hk,c,hc,hcell⟩
 ·exact wpAny_Name (wpAny_loadName_local I.ok.kind hk hn hm fin) hd
 ·rcases hk with hk | hk
  ·exact wpAny_Name (wpAny_loadName_cell I.ok.kind hk hc hcell fin) hd
  ·exact wpAny_Name (wpAny_loadName_free I.ok.kind hk hc hcell fin hcd) hd
theorem pe_int {i j pos}:PE X (.Constant (.int i) j pos) (tC (.int i)):=fun _ _ _ H _ I h=>wpAny_Constant_int ⟨.int i,H,I.tok _,⟨_,rfl⟩,h⟩
theorem pe_bl {b j pos}:PE X (.Constant (.bool b) j pos) (tC (.bl b)):=fun _ _ _ H _ I h=>Constant_bool ⟨.bl b,H,I,rfl,h⟩
theorem pe_non {j pos}:PE X (.Constant .none j pos) (tC .non):=fun _ _ _ H _ I h=>Constant_none ⟨.non,H,I,rfl,h⟩
theorem pe_str {x j pos}:PE X (.Constant (.str x) j pos) (tC (.str x)):=fun _ _ _ H _ I h=>Calls.Constant_str ⟨.str x,H,I.tok _,⟨_,rfl⟩,h⟩
def Gl (X:Cx)(x:Str):Prop:=X.env.kindOf x=some .globalImplicit
theorem Ju {E:Value -> Shared -> Prop}{pins:List (Addr × Obj)}{s:Shared}{σ:St}{H:Hp}{x:Str}{u:Value}{pos:Pos}{Q:Value -> Shared -> Prop}(I:Inv X pins σ H s)(hg:Gl X x)(hm:X.mg x=some u)(h:Q u s)
  (hd:(x == ("__debug__" : Str))=false:=by decide):wpAny (model X.prog X.w) X.A (eval (.Name x pos) X.env) Q E s :=
 Calls.Name_function_global I.ok.kind hg (Calls.loadGlobal_global (by rw [I.ok.glob]; exact I.mod.glob.keeps I.bk) hm h) hd
theorem j0 {E:Value -> Shared -> Prop}{pins:List (Addr × Obj)}{s:Shared}{σ:St}{H:Hp}{x:Str}{u:Value}{pos:Pos}{Q:Value -> Shared -> Prop}(I:Inv X pins σ H s)(hg:Gl X x)(hm:X.mg x=none)(hv:bootBuiltins x=some u)(h:Q u s)
  (hn:x ≠ "__name__":=by decide) (hd:(x == ("__debug__" : Str))=false:=by decide):wpAny (model X.prog X.w) X.A (eval (.Name x pos) X.env) Q E s:=by
 obtain ⟨mb,h1,h2⟩:=I.mod.blt
 exact Calls.Name_function_global I.ok.kind hg (Calls.loadGlobal_builtin (by rw [I.ok.glob]; exact I.mod.glob.keeps I.bk) hm (by rw [I.ok.blt]; exact h1.keeps I.bk) ((h2 x hn).trans hv) h) hd
theorem pe_glob {x:Str} {v:V} {u:Value} {pos:Pos} (hg:Gl X x) (hm:X.mg x=some u) (r:RelV v u) (hd:(x == ("__debug__" : Str))=false:=by decide):PE X (.Name x pos) (tC v) :=
 fun _ _ _ H _ I h=>Ju I hg hm ⟨v,H,I,r,h⟩ hd
theorem xh {x:Str} {v:V} {u:Value} {pos:Pos} (hg:Gl X x) (hm:X.mg x=none) (hv:bootBuiltins x=some u) (r:RelV v u) (hn:x ≠ "__name__":=by decide) (hd:(x == ("__debug__" : Str))=false:=by decide):PE X (.Name x pos) (tC v) :=
 fun _ _ _ H _ I h=>j0 I hg hm hv ⟨v,H,I,r,h⟩ hn hd
variable {a b:Expr}{ta tb:TE}{pos:Pos}
def PC (X:Cx)(op:CmpOp)(a b:Expr)(t:TE):Prop :=
 ∀ (pins:List (Addr × Obj)) (s:Shared) (σ:St) (H:Hp) (Q:VK),Inv X pins σ H s -> t σ H Q ->
  wpAny (model X.prog X.w) X.A (eval a X.env) (fun v s₁=>wpAny (model X.prog X.w) X.A (eval b X.env) (fun u s₂=>wpAny (model X.prog X.w) X.A (compareOp op v u) (EP X pins σ Q) X.xe s₂) X.xe s₁) X.xe s
theorem zv (b:Expr){op:CmpOp}(h:op ≠ .In)(h2:op ≠ .NotIn):behindInMarks op b=false:=by
 have e1:(op == CmpOp.In)=false:=by cases op <;> first | rfl | exact absurd rfl h
 have e2:(op == CmpOp.NotIn)=false:=by cases op <;> first | rfl | exact absurd rfl h2
 cases b <;> simp [behindInMarks,e1,e2]
def tIsN (ta:TE):TE:=fun σ H Q=>ta σ H fun x H1=>Q (.bl (decide (x = .non))) H1
def tNotN (ta:TE):TE:=fun σ H Q=>ta σ H fun x H1=>Q (.bl (!decide (x = .non))) H1
theorem RelV.none_iff {x:V}{v:Value}(r:RelV x v):(v == Value.none)=decide (x = .non):=by
 cases x with
 | non=>cases r; rfl
 | bl _=>cases r; rfl
 | int _=>obtain ⟨t,rfl⟩:=r; rfl
 | str _=>obtain ⟨t,rfl⟩:=r; rfl
 | byt _=>obtain ⟨t,rfl⟩:=r; rfl
 | flt _=>obtain ⟨t,rfl⟩:=r; rfl
 | ref _=>cases r; rfl
 | ty _=>cases r; rfl
theorem xJ {j pos'}(ha:PE X a ta):PC X .Is a (.Constant .none j pos') (tIsN ta):=by
 intro pins s σ H Q I h
 refine thn (ha pins s σ H _ I h) fun v s1 ⟨x,H1,I1,r1,q1⟩=>?_
 exact Constant_none (is_none_gen ⟨.bl _,H1,I1,by rw [r1.none_iff]; rfl,q1⟩)
theorem pc_notN {j pos'}(ha:PE X a ta):PC X .IsNot a (.Constant .none j pos') (tNotN ta):=by
 intro pins s σ H Q I h
 refine thn (ha pins s σ H _ I h) fun v s1 ⟨x,H1,I1,r1,q1⟩=>?_
 exact Constant_none (isnot_none_gen ⟨.bl _,H1,I1,by rw [r1.none_iff]; rfl,q1⟩)
def tB (t:TE):TT:=fun σ H Q=>t σ H fun x H1=>∃ c,x = .bl c /\ Q c H1
theorem pe_cmp {op:CmpOp}{t:TE}(h:PC X op a b t)(h1:behindInMarks op b=false:=by first | exact zv _ (by decide) (by decide) | rfl):PE X (.Compare a [op] [b] pos) t:=fun pins s σ H Q I hw=>wpAny_Compare1 (h pins s σ H Q I hw) h1
theorem yu {op:CmpOp}{t:TE}(h:PC X op a b t)(h1:behindInMarks op b=false:=by first | exact zv _ (by decide) (by decide) | rfl):PT X (.Compare a [op] [b] pos) (tB t):=by
 intro pins s σ H Q I hw
 refine wpAny_isTrue_Compare1 (thn (h pins s σ H _ I hw) fun v s1 h1=>thn h1 fun u s2 h2=>thn h2 fun c s3 ⟨x,H1,I1,r1,q1⟩=>?_) h1
 obtain ⟨d,rfl,q⟩:=q1
 cases r1
 exact wpAny_truthy_bool ⟨H1,I1,q⟩
theorem pt_val {e:Expr}{t:TE}(h:PE X e t)(he:∀ whole,isTrue e X.env whole=(do let v ← whole; standAt e.pos; holding [v] (truthy v)):=by intro _; rfl):PT X e (tB t):=by
 intro pins s σ H Q I hw
 refine isTrue_plain (thn (h pins s σ H _ I hw) fun v s1 ⟨x,H1,I1,r1,q1⟩=>?_) (he _)
 obtain ⟨d,rfl,q⟩:=q1
 cases r1
 exact wpAny_truthy_bool ⟨H1,I1,q⟩
variable {tA tB':TT}{rest:List Expr}
def tAnd (t u:TT):TT:=fun σ H Q=>t σ H fun c H1=>if c=true then u σ H1 Q else Q false H1
def tOr (t u:TT):TT:=fun σ H Q=>t σ H fun c H1=>if c=true then Q true H1 else u σ H1 Q
def tNot (t:TT):TT:=fun σ H Q=>t σ H fun c H1=>Q (!c) H1
theorem pw_and1 (ha:PT X a tA):PW X (.BoolOp .And [a] pos) tA:=by
 intro wh pins s σ H Q I h
 refine isTrue_and (thn (ha pins s σ H Q I h) fun c s1 e=>?_)
 cases c with
 | true=>exact isTrue_and_nil e
 | false=>exact e
theorem pw_or1 (ha:PT X a tA):PW X (.BoolOp .Or [a] pos) tA:=by
 intro wh pins s σ H Q I h
 refine isTrue_or (thn (ha pins s σ H Q I h) fun c s1 e=>?_)
 cases c with
 | false=>exact isTrue_or_nil e
 | true=>exact e
theorem pw_and (ha:PT X a tA)(hb:PW X (.BoolOp .And (b :: rest) pos) tB'):PW X (.BoolOp .And (a :: b :: rest) pos) (tAnd tA tB'):=by
 intro wh pins s σ H Q I h
 refine isTrue_and (thn (ha pins s σ H _ I h) fun c s1 ⟨H1,I1,q1⟩=>?_)
 cases c with
 | true=>exact hb wh pins s1 σ H1 Q I1 q1
 | false=>exact ⟨H1,I1,q1⟩
theorem pw_or (ha:PT X a tA)(hb:PW X (.BoolOp .Or (b :: rest) pos) tB'):PW X (.BoolOp .Or (a :: b :: rest) pos) (tOr tA tB'):=by
 intro wh pins s σ H Q I h
 refine isTrue_or (thn (ha pins s σ H _ I h) fun c s1 ⟨H1,I1,q1⟩=>?_)
 cases c with
 | true=>exact ⟨H1,I1,q1⟩
 | false=>exact hb wh pins s1 σ H1 Q I1 q1
theorem pt_not (ha:PT X a tA):PT X (.UnaryOp .Not a pos) (tNot tA):=by
 intro pins s σ H Q I h
 exact isTrue_not (ha pins s σ H (fun c H1=>Q (!c) H1) I h)
def tAndV (ta tb:TE):TE:=fun σ H Q=>ta σ H fun x H1=>∃ c,x = .bl c /\ if c=true then tb σ H1 Q else Q (.bl false) H1
def tOrV (ta tb:TE):TE:=fun σ H Q=>ta σ H fun x H1=>∃ c,x = .bl c /\ if c=true then Q (.bl true) H1 else tb σ H1 Q
def tNotV (ta:TE):TE:=fun σ H Q=>ta σ H fun x H1=>∃ c,x = .bl c /\ Q (.bl (!c)) H1
theorem j3 {op}{t:TE}(h:PE X a t):PE X (.BoolOp op [a] pos) t:=fun pins s σ H Q I hw=>BoolOp_one (h pins s σ H Q I hw)
theorem j4 (ha:PE X a ta)(hb:PE X (.BoolOp .And (b :: rest) pos) tb):PE X (.BoolOp .And (a :: b :: rest) pos) (tAndV ta tb):=by
 intro pins s σ H Q I h
 refine BoolOp_and (thn (ha pins s σ H _ I h) fun v s1 ⟨x,H1,I1,r1,q1⟩=>?_)
 obtain ⟨c,rfl,q1⟩:=q1
 cases r1
 refine wpAny_truthy_bool ?_
 cases c with
 | true=>exact hb pins s1 σ H1 Q I1 q1
 | false=>exact ⟨.bl false,H1,I1,rfl,q1⟩
theorem pe_or (ha:PE X a ta)(hb:PE X (.BoolOp .Or (b :: rest) pos) tb):PE X (.BoolOp .Or (a :: b :: rest) pos) (tOrV ta tb):=by
 intro pins s σ H Q I h
 refine BoolOp_or (thn (ha pins s σ H _ I h) fun v s1 ⟨x,H1,I1,r1,q1⟩=>?_)
 obtain ⟨c,rfl,q1⟩:=q1
 cases r1
 refine wpAny_truthy_bool ?_
 cases c with
 | false=>exact hb pins s1 σ H1 Q I1 q1
 | true=>exact ⟨.bl true,H1,I1,rfl,q1⟩
theorem pe_not (ha:PE X a ta):PE X (.UnaryOp .Not a pos) (tNotV ta):=by
 intro pins s σ H Q I h
 refine UnaryOp_ (thn (ha pins s σ H _ I h) fun v s1 ⟨x,H1,I1,r1,q1⟩=>?_)
 obtain ⟨c,rfl,q1⟩:=q1
 cases r1
 exact not_of (wpAny_truthy_bool ⟨.bl (!c),H1,I1,rfl,q1⟩)
def tIf (t:TT)(ta tb:TE):TE:=fun σ H Q=>t σ H fun c H1=>if c=true then ta σ H1 Q else tb σ H1 Q
theorem jP {c:Expr}(hc:PT X c tA)(ha:PE X a ta)(hb:PE X b tb):PE X (.IfExp c a b pos) (tIf tA ta tb):=by
 intro pins s σ H Q I h
 refine wpAny_IfExp (thn (hc pins s σ H _ I h) fun d s1 ⟨H1,I1,q1⟩=>?_)
 cases d with
 | true=>exact ha pins s1 σ H1 Q I1 q1
 | false=>exact hb pins s1 σ H1 Q I1 q1
end
end L2
namespace L2
open PySem PySem.Spec PyProof.Rows
def SqL (K:zA)(H:Hp)(a:Addr)(xs:List V):Prop :=
 Rd H a (.lst xs) \/
  ∃ (o:Obj) (its:Array Value) (n:Nat),K.lookup a=some o /\ o.cls = .type "list" /\ o.dict=none /\ o.data = .seq its n /\ its.size <= sizeLine /\ Vals xs its.toList
def SqT (K:zA)(H:Hp)(a:Addr)(xs:List V):Prop :=
 Rd H a (.tup xs) \/
  ∃ (o:Obj) (its:Array Value) (n:Nat),K.lookup a=some o /\ o.cls = .type "tuple" /\ o.data = .seq its n /\ its.size <= sizeLine /\ Vals xs its.toList
def absV:Value -> Option V
 | .none=>some .non
 | .bool b=>some (.bl b)
 | .int i _=>some (.int i)
 | .str x _=>some (.str x)
 | .bytes b _=>some (.byt b)
 | .float b _=>some (.flt b)
 | .ref a=>some (.ref a)
 | .type n=>some (.ty n)
 | _=>none
theorem RelV.abs {x:V}{u:Value}(r:RelV x u):absV u=some x:=by
 cases x with
 | non=>cases r; rfl
 | bl _=>cases r; rfl
 | int _=>obtain ⟨t,rfl⟩:=r; rfl
 | str _=>obtain ⟨t,rfl⟩:=r; rfl
 | byt _=>obtain ⟨t,rfl⟩:=r; rfl
 | flt _=>obtain ⟨t,rfl⟩:=r; rfl
 | ref _=>cases r; rfl
 | ty _=>cases r; rfl
theorem RelV.inj {x y:V}{u:Value}(r:RelV x u)(q:RelV y u):x=y:=Option.some.inj (r.abs.symm.trans q.abs)
theorem Vals.inj:∀ {xs ys:List V} {us:List Value},Vals xs us -> Vals ys us -> xs=ys
 | _,_,_,.nil,.nil=>rfl
 | _,_,_,.cons r t,.cons r' t'=>by rw [r.inj r',Vals.inj t t']
section
variable {X:Cx}{pins:List (Addr × Obj)}{σ:St}{H:Hp}{s:Shared}{a:Addr}{xs ys:List V}
theorem SqL.of {K:zA}(h:H a=some (.lst xs)):SqL K H a xs:=.inl (.inl h)
theorem SqT.of {K:zA}(h:H a=some (.tup xs)):SqT K H a xs:=.inl (.inl h)
theorem Inv.list (I:Inv X pins σ H s)(h:SqL X.K H a xs):∃ its:List Value,Vals xs its /\ PlainL s.heap a its.toArray /\ xs.length <= sizeLine:=by
 rcases h with h | ⟨o,its,n,hk,hc,hd,hs,hz,r⟩
 ·obtain ⟨z,its,n,r,e⟩:=h.ok I.hok
  exact ⟨its,r,⟨_,n,e,rfl,rfl,rfl⟩,z⟩
 ·refine ⟨its.toList,r,⟨o,n,I.kIn a o hk,hc,hd,by simpa using hs⟩,?_⟩
  have e:=r.length
  simp only [zj] at e
  omega
theorem Inv.tuple (I:Inv X pins σ H s)(h:SqT X.K H a xs):∃ its:List Value,Vals xs its /\ IsTup s.heap a its.toArray /\ xs.length <= sizeLine:=by
 rcases h with h | ⟨o,its,n,hk,hc,hs,hz,r⟩
 ·obtain ⟨z,its,r,p⟩:=h.ok I.hok
  exact ⟨its,r,p,z⟩
 ·refine ⟨its.toList,r,⟨o,I.kIn a o hk,hc,n,by simpa using hs⟩,?_⟩
  have e:=r.length
  simp only [zj] at e
  omega
theorem Inv.list_inj (I:Inv X pins σ H s)(h:SqL X.K H a xs)(h':SqL X.K H a ys):xs=ys:=by
 obtain ⟨its,r,⟨o,n,e,_,_,d⟩,_⟩:=I.list h
 obtain ⟨its',r',⟨o',n',e',_,_,d'⟩,_⟩:=I.list h'
 rw [e] at e'; cases e'
 rw [d] at d'
 injection d' with d1 _
 have:its=its':=by simpa using congrArg Array.toList d1
 subst this
 exact r.inj r'
theorem Inv.tuple_inj (I:Inv X pins σ H s)(h:SqT X.K H a xs)(h':SqT X.K H a ys):xs=ys:=by
 obtain ⟨its,r,⟨o,e,_,n,d⟩,_⟩:=I.tuple h
 obtain ⟨its',r',⟨o',e',_,n',d'⟩,_⟩:=I.tuple h'
 rw [e] at e'; cases e'
 rw [d] at d'
 injection d' with d1 _
 have:its=its':=by simpa using congrArg Array.toList d1
 subst this
 exact r.inj r'
end
abbrev Cx.wish (X:Cx) (E:Value -> Shared -> Prop):Cx:={ X with xe:=E }
abbrev Cx.nox (X:Cx):Cx:=X.wish fun _ _=>False
theorem Cx.Ok.wish {X:Cx}(ok:X.Ok)(E:Value -> Shared -> Prop):(X.wish E).Ok :=
 ⟨ok.mod,ok.kind,ok.glob,ok.blt,ok.above,ok.inj,ok.has,ok.cab,ok.hd,ok.frames,ok.stk,ok.exf,ok.bs,ok.bsz,ok.noex,ok.exfs,ok.funs,ok.frf⟩
theorem Cx.Ok.unwish {X:Cx}{E:Value -> Shared -> Prop}(ok:(X.wish E).Ok):X.Ok :=
 ⟨ok.mod,ok.kind,ok.glob,ok.blt,ok.above,ok.inj,ok.has,ok.cab,ok.hd,ok.frames,ok.stk,ok.exf,ok.bs,ok.bsz,ok.noex,ok.exfs,ok.funs,ok.frf⟩
section
variable {X:Cx}{pins:List (Addr × Obj)}{σ:St}{H:Hp}{s:Shared}{E:Value -> Shared -> Prop}
theorem Inv.wish (I:Inv X pins σ H s)(E:Value -> Shared -> Prop):Inv (X.wish E) pins σ H s:=⟨I.ok.wish E,I.os,I.bare,I.base,I.loc,I.cell,I.free,I.freeC,I.pin,I.hok,I.len⟩
theorem Inv.unwish (I:Inv (X.wish E) pins σ H s):Inv X pins σ H s:=⟨I.ok.unwish,I.os,I.bare,I.base,I.loc,I.cell,I.free,I.freeC,I.pin,I.hok,I.len⟩
theorem SP.unwish {D:Ends}{f:Flow}{s':Shared}(h:SP (X.wish E) pins D f s'):SP X pins D f s':=by
 cases f with
 | next=>obtain ⟨σ',H',I,q⟩:=h; exact ⟨σ',H',I.unwish,q⟩
 | brk=>obtain ⟨σ',H',I,q⟩:=h; exact ⟨σ',H',I.unwish,q⟩
 | cont=>obtain ⟨σ',H',I,q⟩:=h; exact ⟨σ',H',I.unwish,q⟩
 | ret u=>obtain ⟨v,σ',H',I,r,q⟩:=h; exact ⟨v,σ',H',I.unwish,r,q⟩
theorem PSs.nox {st:List Stmt}{t:TS}(h:PSs X.nox st t):PSs X st t:=fun pins s σ H D I hw =>
 wpAny_mono (h pins s σ H D (I.wish _) hw) (fun _ _ q=>q.unwish) fun _ _ z=>False.elim z
end
section
variable {X:Cx}{st:Stmt}{rest:List Stmt}{t u:TS}{e:Expr}{te:TE}{pos:Pos}
def tNext:TS:=fun D σ H=>D.nx σ H
def tSeq (t u:TS):TS:=fun D σ H=>t { D with nx:=u D } σ H
theorem pss_nil:PSs X [] tNext:=fun _ _ σ H _ I h=>wpAny_execs_nil ⟨σ,H,I,h⟩
theorem pss_cons (h1:PS X st t)(h2:PSs X rest u):PSs X (st :: rest) (tSeq t u):=by
 intro pins s σ H D I h
 refine wpAny_execs_cons (thn (h1 pins s σ H { D with nx:=u D } I h) fun f s1 q=>?_)
 cases f with
 | next =>
  obtain ⟨σ',H',I',q⟩:=q
  exact h2 pins s1 σ' H' D I' q
 | ret v=>exact q
 | brk=>exact q
 | cont=>exact q
theorem pss_one (h1:PS X st t):PSs X [st] t:=by
 intro pins s σ H D I h
 refine wpAny_execs_cons (thn (h1 pins s σ H D I h) fun f s1 q=>?_)
 cases f with
 | next=>exact wpAny_execs_nil q
 | ret v=>exact q
 | brk=>exact q
 | cont=>exact q
def tBreak:TS:=fun D σ H=>D.bk σ H
def tCont:TS:=fun D σ H=>D.ct σ H
theorem Inv.quiet {pins:List (Addr × Obj)}{σ:St}{H:Hp}{s:Shared}(I:Inv X pins σ H s):interactive X.env=false:=by simp [interactive,I.ok.kind]
def tDrop (te:TE):TS:=fun D σ H=>te σ H fun _ H1=>D.nx σ H1
theorem ps_expr (he:PE X e te)(hs:swapsWith e none pos.line X.env=pure false:=by rfl):PS X (.Expr e pos) (tDrop te):=by
 intro pins s σ H D I h
 exact wpAny_Expr_any (thn (he pins s σ H _ I h) fun v s1 ⟨x,H1,I1,r1,q1⟩=>⟨σ,H1,I1,q1⟩) I.quiet hs
def tRet (te:TE):TS:=fun D σ H=>te σ H D.rt
theorem ps_ret (he:PE X e te):PS X (.Return (some e) pos) (tRet te):=by
 intro pins s σ H D I h
 exact wpAny_Return_some (thn (he pins s σ H _ I h) fun v s1 ⟨x,H1,I1,r1,q1⟩=>⟨x,σ,H1,I1,r1,q1⟩)
def tRetN:TS:=fun D _ H=>D.rt .non H
def tIfS (c:TT)(t u:TS):TS:=fun D σ H=>c σ H fun b H1=>if b=true then t D σ H1 else u D σ H1
theorem ps_if {c:Expr}{a b:List Stmt}{tc:TT}(hc:PT X c tc)(ha:PSs X a t)(hb:PSs X b u):PS X (.If c a b pos) (tIfS tc t u):=by
 intro pins s σ H D I h
 refine wpAny_If (thn (hc pins s σ H _ I h) fun d s1 ⟨H1,I1,q1⟩=>?_)
 cases d with
 | true=>exact ha pins s1 σ H1 D I1 q1
 | false=>exact hb pins s1 σ H1 D I1 q1
end
abbrev TG:=V -> St -> Hp -> (St -> Hp -> Prop) -> Prop
abbrev TGs:=List V -> St -> Hp -> (St -> Hp -> Prop) -> Prop
def PG (X:Cx)(target:Expr)(t:TG):Prop :=
 ∀ (pins:List (Addr × Obj)) (s:Shared) (σ:St) (H:Hp) (v:V) (u:Value) (Q:St -> Hp -> Prop),Inv X pins σ H s -> RelV v u -> t v σ H Q ->
  wpAny (model X.prog X.w) X.A (assign target X.env u) (fun _ s'=>∃ σ' H',Inv X pins σ' H' s' /\ Q σ' H') X.xe s
def PGs (X:Cx)(ts:List Expr)(t:TGs):Prop :=
 ∀ (pins:List (Addr × Obj)) (s:Shared) (σ:St) (H:Hp) (vs:List V) (us:List Value) (Q:St -> Hp -> Prop),Inv X pins σ H s -> Vals vs us -> t vs σ H Q ->
  wpAny (model X.prog X.w) X.A (assignInOrder ((assignEach ts X.env).map (·.2)) us) (fun _ s'=>∃ σ' H',Inv X pins σ' H' s' /\ Q σ' H') X.xe s
abbrev TSet:=V -> V -> V -> Hp -> (Hp -> Prop) -> Prop
def PSet (X:Cx)(t:TSet):Prop :=
 ∀ (pins:List (Addr × Obj)) (s:Shared) (σ:St) (H:Hp) (o i v:V) (ov iv u:Value) (Q:Hp -> Prop),Inv X pins σ H s -> RelV o ov -> RelV i iv -> RelV v u -> t o i v H Q ->
  wpAny (model X.prog X.w) X.A (setItem ov iv u) (fun _ s'=>∃ H',Inv X pins σ H' s' /\ Q H') X.xe s
abbrev TIp:=V -> V -> Hp -> VK -> Prop
section
variable {X:Cx}{pos:Pos}
def jB (i:Nat):TG:=fun v σ H Q=>Q (σ.set i (some v)) H
theorem pg_name {i:Nat}{x:Str}(hN:X.N.Nodup)(hi:X.N[i]? = some x)(hx:Loc X.env.scope x)(hf:X.fn x=true \/ X.env.scope.names.lookup x=some .local:=by first | exact .inl rfl | exact .inr rfl | assumption):PG X (.Name x pos) (jB i):=by
 intro pins s σ H v u Q I r h
 exact wpAny_assign_Name (JD I hN hi hx r (fun s' I'=>⟨_,H,I',h⟩) hf)
def gNil:TGs:=fun vs σ H Q=>vs=[] /\ Q σ H
def gCons (t:TG)(u:TGs):TGs:=fun vs σ H Q=>∃ v r,vs=v :: r /\ t v σ H fun σ' H'=>u r σ' H' Q
theorem jW:PGs X [] gNil:=by
 intro pins s σ H vs us Q I r h
 obtain ⟨e,h⟩:=h
 subst e
 cases r
 exact assignInOrder_nil ⟨σ,H,I,h⟩
theorem zz {e:Expr}{es:List Expr}{t:TG}{u:TGs}(h1:PG X e t)(h2:PGs X es u)
  (hs:(assignEach (e :: es) X.env).map (·.2)=assign e X.env :: (assignEach es X.env).map (·.2):=by rfl):PGs X (e :: es) (gCons t u):=by
 intro pins s σ H vs us Q I r h
 obtain ⟨v,vr,e1,h⟩:=h
 subst e1
 cases r with
 | cons r rr =>
  rw [hs]
  refine assignInOrder_cons (thn (h1 pins s σ H _ _ _ I r h) fun _ s1 ⟨σ1,H1,I1,q1⟩=>?_)
  exact h2 pins s1 σ1 H1 _ _ Q I1 rr q1
def gTup (K:zA)(n:Nat)(t:TGs):TG:=fun v σ H Q=>∃ a xs,v = .ref a /\ SqT K H a xs /\ xs.length=n /\ t xs σ H Q
theorem pg_tup {es:List Expr}{k:Nat}{t:TGs}{n:Nat}(hc:X.calm=true)(h:PGs X es t)
  (hn:(assignEach es X.env).length=n:=by rfl) (hst:(assignEach es X.env).findIdx? (·.1)=none:=by rfl):PG X (.Tuple es k pos) (gTup X.K n t):=by
 intro pins s σ H v u Q I r hw
 obtain ⟨a,xs,e1,hq,hl,hw⟩:=hw
 subst e1
 cases r
 obtain ⟨its,rv,ht,hz⟩:=I.tuple hq
 refine assign_Tuple_tuple (I.ok.hd hc) ht (by simp [hn,← hl,rv.length]) hst fun h' hx=>?_
 have I1:Inv X pins σ H { s with heap:=h' }:=I.kept (t':=s.toks) fun b o e=>hx b o (zN (Heap.lt_size e)) e
 exact h pins _ σ H xs _ Q I1 (by simpa using rv) hw
def gSub (to ti:TE)(t:TSet):TG:=fun v σ H Q=>to σ H fun o H1=>ti σ H1 fun i H2=>t o i v H2 fun H3=>Q σ H3
theorem pg_sub {o i:Expr}{to ti:TE}{t:TSet}(ho:PE X o to)(hi:PE X i ti)(hs:PSet X t)
  (ha:∀ v,assign (.Subscript o i pos) X.env v=(do
   let ov ← holding [v] (eval o X.env)
   let iv ← holding [v,ov] (eval i X.env)
   standAt pos
   holding [v,ov,iv] (setItem ov iv v)
   release [v,ov,iv] []):=by intro _; rfl):PG X (.Subscript o i pos) (gSub to ti t):=by
 intro pins s σ H v u Q I r h
 rw [ha]
 refine wpAny_bind (wpAny_holding (thn (ho pins s σ H _ I h) fun ov s1 ⟨x,H1,I1,r1,q1⟩=>?_))
 refine wpAny_bind (wpAny_holding (thn (hi pins s1 σ H1 _ I1 q1) fun iv s2 ⟨y,H2,I2,r2,q2⟩=>?_))
 refine wpAny_bind (wpAny_standAt (wpAny_bind (wpAny_holding (thn (hs pins s2 σ H2 x y v ov iv u _ I2 r1 r2 r q2) fun _ s3 ⟨H3,I3,q3⟩=>?_))))
 exact wpAny_release ⟨σ,H3,I3,q3⟩
def tAsg (te:TE)(g:TG):TS:=fun D σ H=>te σ H fun x H1=>g x σ H1 D.nx
theorem ps_asg {tg e:Expr}{te:TE}{g:TG}(he:PE X e te)(hg:PG X tg g)(hs:swapsWithSole [tg] e pos.line X.env=pure false:=by rfl)(hw:swappedStores [tg] e X.env=pure none:=by rfl)
  (h1:(assignEach [tg] X.env).map (·.2)=[assign tg X.env]:=by rfl):PS X (.Assign [tg] e pos) (tAsg te g):=by
 intro pins s σ H D I h
 refine wpAny_Assign_stores (thn (he pins s σ H _ I h) fun v s1 ⟨x,H1,I1,r1,q1⟩=>?_) hs hw
 rw [h1]
 exact thn (hg pins s1 σ H1 x v _ I1 r1 q1) fun _ s2 q=>q
theorem ps_set {i:Nat}{x:Str}{e:Expr}{te:TE}{pos':Pos}(hN:X.N.Nodup)(hi:X.N[i]? = some x)(hx:Loc X.env.scope x)(he:PE X e te)(hs:swapsWith e (some (.Name x pos')) pos.line X.env=pure false:=by rfl)(hf:X.fn x=true \/ X.env.scope.names.lookup x=some .local:=by first | exact .inl rfl | exact .inr rfl | assumption) :
  PS X (.Assign [.Name x pos'] e pos) (tAsg te (jB i)):=by
 intro pins s σ H D I h
 refine wpAny_Assign_Name (thn (he pins s σ H _ I h) fun v s1 ⟨y,H1,I1,r1,q1⟩=>?_) hs
 exact JD I1 hN hi hx r1 (fun s2 I2=>⟨_,H1,I2,q1⟩) hf
def tAug (i:Nat)(te:TE)(ti:TIp):TS:=fun D σ H=>∃ x,σ[i]? = some (some x) /\ te σ H fun y H1=>ti x y H1 fun z H2=>D.nx (σ.set i (some z)) H2
def ipI (f:Int -> Int -> Int):TIp:=fun x y H Q=>∃ i j,x = .int i /\ y = .int j /\ Q (.int (f i j)) H
end
section
variable {X:Cx}{pos:Pos}
end
structure It where
 go:Nat -> Hp -> Prop
 yld:Nat -> Hp -> V -> Hp -> Prop
 stop:Nat -> Hp -> Prop
def FpOk (X:Cx)(pins:List (Addr × Obj))(H:Hp)(b:Addr):Prop :=
 H b=none /\ b ≠ X.env.locals /\ b ∉ X.fs /\ (b ∈ X.ex \/ X.s₀.heap.objs.size <= b) /\ (∀ x c,X.env.cells.lookup x=some c -> c ≠ b) /\ ∀ p ∈ X.pn ++ pins,p.1 ≠ b
theorem Inv.fpOk {X:Cx}{pins:List (Addr × Obj)}{σ:St}{H H':Hp}{s:Shared}{b:Addr}(I:Inv X pins σ H s)(hb:s.heap.objs.size <= b)(hn:H' b=none):FpOk X pins H' b:=by
 refine ⟨hn,zt (qJ I.lt hb),I.nofs hb,.inr (zD I.sz hb),fun x c e z=>?_,fun p hp z=>?_⟩
 ·obtain ⟨v,q⟩:=I.cell x c e
  exact absurd (qJ q.lt (by rw [z]; exact hb)) (zq _)
 ·exact absurd (qJ (Heap.lt_size (I.pin p hp).1) (by rw [z]; exact hb)) (zq _)
structure Turn (P:Program) (w:World) (K:zA) (tg:Expr) (J:It) (fp:List Addr) (it:Addr) (tn:Nat -> Heap -> Prop):Prop where
 mem:it ∈ fp
 obj:∀ i h,tn i h -> ∀ b ∈ fp,∃ o,h.get? b=some o /\ ∀ v,o.data ≠ .cell v
 keep:∀ i h h',tn i h -> (∀ b ∈ fp,∀ o,h.get? b=some o -> h'.get? b=some o) -> tn i h'
 item:∀ (X:Cx),X.prog=P -> X.w=w -> X.K=K -> X.calm=true -> ∀ (i:Nat) (pins:List (Addr × Obj)) (s:Shared) (σ:St) (H:Hp) (E:Value -> Shared -> Prop),Inv X pins σ H s -> (∀ b ∈ fp,FpOk X pins H b) -> tn i s.heap -> J.go i H ->
  wpAny (model P w) X.A (pyNext (.ref it)) (fun r s1=>∃ u,r=some u /\
   wpAny (model P w) X.A (letOwnedTupleGo tg (.ref it) u) (fun _ s2=>∃ x H',Inv X pins σ H' s2 /\ RelV x u /\ J.yld i H x H' /\ tn (i+1) s2.heap /\ ∀ b ∈ fp,H' b=none) E s1) E s
 done:∀ (X:Cx),X.prog=P -> X.w=w -> X.K=K -> X.calm=true -> ∀ (i:Nat) (pins:List (Addr × Obj)) (s:Shared) (σ:St) (H:Hp) (E:Value -> Shared -> Prop),Inv X pins σ H s -> (∀ b ∈ fp,FpOk X pins H b) -> tn i s.heap -> J.stop i H ->
  wpAny (model P w) X.A (pyNext (.ref it)) (fun r s1=>r=none /\ Inv X pins σ H s1) E s
 self:∀ (A:Around) (i:Nat) (s:Shared) (Q:Value -> Shared -> Prop) (E:Value -> Shared -> Prop),tn i s.heap -> Q (.ref it) s -> wpAny (model P w) A (pyIter (.ref it)) Q E s
abbrev TI:=St -> Hp -> (It -> Hp -> Prop) -> Prop
def PIE (X:Cx)(pins:List (Addr × Obj))(σ:St)(tg:Expr)(R:It -> Hp -> Prop)(itv:Value)(s2:Shared):Prop :=
 ∃ (it:Addr) (fp:List Addr) (tn:Nat -> Heap -> Prop) (J:It) (H':Hp),itv = .ref it /\ Inv X pins σ H' s2 /\ Turn X.prog X.w X.K tg J fp it tn /\ tn 0 s2.heap /\ (∀ b ∈ fp,FpOk X pins H' b) /\ R J H'
def PI (X:Cx)(tg iter:Expr)(wi:TI):Prop :=
 ∀ (pins:List (Addr × Obj)) (s:Shared) (σ:St) (H:Hp) (R:It -> Hp -> Prop),Inv X pins σ H s -> wi σ H R ->
  wpAny (model X.prog X.w) X.A (eval iter X.env) (fun v s1=>wpAny (model X.prog X.w) X.A (pyIter v) (PIE X pins σ tg R) X.xe s1) X.xe s
theorem go_of {M : Model}{A : Around}{E : Value → Shared → Prop}{s : Shared}{tg : Expr}{it : Addr}{u : Value}{o : Obj}{n : String}{vs : Array Value}{Q : Unit → Shared → Prop}(ho : s.heap.get? it = some o)(hc : o.cls = .type n)(hd : o.data = .fields vs)
    (hn : ["enumerate", "zip", "dict_itemiterator", "dict_reverseitemiterator", "odict_iterator", "itertools.zip_longest", "itertools.pairwise"].contains n = false) (hQ : Q () s) : wpAny M A (letOwnedTupleGo tg (.ref it) u) Q E s := by
  unfold letOwnedTupleGo
  cases tg <;> first
    | exact wpAny_pure hQ
    | (cases u <;> first
        | exact wpAny_pure hQ
        | (refine wpAny_bind (wpAny_load ho ?_)
           rw [hc, hd]
           show wpAny M A (if (["enumerate", "zip", "dict_itemiterator", "dict_reverseitemiterator", "odict_iterator", "itertools.zip_longest", "itertools.pairwise"].contains n && vs[0]? == some (rawInt _)) = true then _ else _) Q E s
           rw [if_neg (by intro h; rw [hn, Bool.false_and] at h; cases h)]
           exact wpAny_pure hQ))
def Itl (K:zA)(a:Addr):It :=
 ⟨fun i H=>∃ xs x,SqL K H a xs /\ xs[i]? = some x,fun i H x H'=>H'=H /\ ∀ xs,SqL K H a xs -> xs[i]? = some x,fun i H=>∃ xs,SqL K H a xs /\ xs.length <= i⟩
def Itt (K:zA)(a:Addr):It :=
 ⟨fun i H=>∃ xs x,SqT K H a xs /\ xs[i]? = some x,fun i H x H'=>H'=H /\ ∀ xs,SqT K H a xs -> xs[i]? = some x,fun i H=>∃ xs,SqT K H a xs /\ xs.length <= i⟩
def Itr (lo:Int)(n:Nat):It:=⟨fun i _=>i < n,fun i H x H'=>H'=H /\ x = .int (lo+i),fun i _=>n <= i⟩
theorem turn_list {P:Program}{w:World}{K:zA}{tg:Expr}(a it:Addr):Turn P w K tg (Itl K a) [it] it (fun i h=>h.IsListIter it a i) where
 mem:=by simp
 obj:=fun i h st b hb=>by
  have e:b=it:=by simpa using hb
  subst e
  obtain ⟨o,e,c,d⟩:=st
  exact ⟨o,e,fun v z=>by rw [d] at z; cases z⟩
 keep:=fun i h h' st k=>st.at fun o e=>k it (by simp) o e
 item:=by
  intro X hP hw hK hc i pins s σ H E I hf st hg
  subst hP hw hK
  obtain ⟨xs,x,hq,hx⟩:=hg
  obtain ⟨its,rv,p,hz⟩:=I.list hq
  obtain ⟨u,hu,ru⟩:=rv.get hx
  obtain ⟨f0,f1,f2,f3,f4,f5⟩:=hf it (by simp)
  refine wpAny_pyNext_list_item st p.isList (x:=u) (by simpa using hu) fun h' st' sb=>?_
  have I1:Inv X pins σ H { s with heap:=h' }:=I.turned (t':=s.toks) (fun b o hb e=>(sb.2 b hb).trans e) f0 f1 f3 f4 f5
  obtain ⟨o,e,c,d⟩:=id st'
  exact ⟨u,rfl,go_of (s:={ s with heap:=h' }) e c d (by decide) ⟨x,H,I1,ru,⟨rfl,fun ys hy=>by rw [I.list_inj hy hq]; exact hx⟩,st',fun b hb=>(hf b hb).1⟩⟩
 done:=by
  intro X hP hw hK hc i pins s σ H E I hf st hg
  subst hP hw hK
  obtain ⟨xs,hq,hx⟩:=hg
  obtain ⟨its,rv,p,hz⟩:=I.list hq
  obtain ⟨f0,f1,f2,f3,f4,f5⟩:=hf it (by simp)
  have hl:=rv.length
  exact wpAny_pyNext_list_end (I.ok.hd hc) st p.isList (by simp; omega) fun h' eb=>⟨rfl,I.turned (t':=s.toks) (fun b o hb e=>eb b o hb e) f0 f1 f3 f4 f5⟩
 self:=fun _ _ _ _ _ st h=>wpAny_pyIter_listiter st h
theorem turn_tuple {P:Program}{w:World}{K:zA}{tg:Expr}(a it:Addr):Turn P w K tg (Itt K a) [it] it (fun i h=>h.IsTupleIter it a i) where
 mem:=by simp
 obj:=fun i h st b hb=>by
  have e:b=it:=by simpa using hb
  subst e
  obtain ⟨o,e,c,d⟩:=st
  exact ⟨o,e,fun v z=>by rw [d] at z; cases z⟩
 keep:=fun i h h' st k=>st.at fun o e=>k it (by simp) o e
 item:=by
  intro X hP hw hK hc i pins s σ H E I hf st hg
  subst hP hw hK
  obtain ⟨xs,x,hq,hx⟩:=hg
  obtain ⟨its,rv,p,hz⟩:=I.tuple hq
  obtain ⟨u,hu,ru⟩:=rv.get hx
  obtain ⟨f0,f1,f2,f3,f4,f5⟩:=hf it (by simp)
  refine wpAny_pyNext_tuple_item st (show s.heap.IsTuple a its.toArray from p) (x:=u) (by simpa using hu) fun h' st' sb=>?_
  have I1:Inv X pins σ H { s with heap:=h' }:=I.turned (t':=s.toks) (fun b o hb e=>(sb.2 b hb).trans e) f0 f1 f3 f4 f5
  obtain ⟨o,e,c,d⟩:=id st'
  exact ⟨u,rfl,go_of (s:={ s with heap:=h' }) e c d (by decide) ⟨x,H,I1,ru,⟨rfl,fun ys hy=>by rw [I.tuple_inj hy hq]; exact hx⟩,st',fun b hb=>(hf b hb).1⟩⟩
 done:=by
  intro X hP hw hK hc i pins s σ H E I hf st hg
  subst hP hw hK
  obtain ⟨xs,hq,hx⟩:=hg
  obtain ⟨its,rv,p,hz⟩:=I.tuple hq
  obtain ⟨f0,f1,f2,f3,f4,f5⟩:=hf it (by simp)
  have hl:=rv.length
  exact wpAny_pyNext_tuple_end (I.ok.hd hc) st (show s.heap.IsTuple a its.toArray from p) (by simp; omega) fun h' eb=>⟨rfl,I.turned (t':=s.toks) (fun b o hb e=>eb b o hb e) f0 f1 f3 f4 f5⟩
 self:=fun _ _ _ _ _ st h=>wpAny_pyIter_tupleiter st h
theorem turn_range {P:Program}{w:World}{K:zA}{tg:Expr}(it:Addr)(lo:Int)(n:Nat):Turn P w K tg (Itr lo n) [it] it (fun i h=>IsRangeIter h it (lo+(i:Nat) * 1) ((n:Int) - (i:Nat)) 1) where
 mem:=by simp
 obj:=fun i h st b hb=>by
  have e:b=it:=by simpa using hb
  subst e
  exact ⟨_,st,fun v z=>by
   have z':Data.fields _=Data.cell v:=z
   cases z'⟩
 keep:=fun i h h' st k=>k it (by simp) _ st
 item:=by
  intro X hP hw hK hc i pins s σ H E I hf st hg
  subst hP hw hK
  obtain ⟨f0,f1,f2,f3,f4,f5⟩:=hf it (by simp)
  have W:=Walks.range (prog:=X.prog) (w:=X.w) (I.ok.hd hc) it lo 1 n
  refine W.item i s _ _ hg st fun v h' tk hv st' kk=>?_
  obtain ⟨t,rfl⟩:=hv
  have I1:Inv X pins σ H { s with heap:=h',toks:=tk }:=I.turned (fun b o hb e=>kk b o (by simpa using hb) e) f0 f1 f3 f4 f5
  refine ⟨_,rfl,go_of (s:={ s with heap:=h',toks:=tk }) (n:="range_iterator") st' rfl rfl (by decide) ⟨.int (lo+i),H,I1,⟨t,?_⟩,⟨rfl,rfl⟩,st',fun b hb=>(hf b hb).1⟩⟩
  rw [Int.mul_one]
 done:=by
  intro X hP hw hK hc i pins s σ H E I hf st hg
  subst hP hw hK
  obtain ⟨f0,f1,f2,f3,f4,f5⟩:=hf it (by simp)
  exact wpAny_pyNext_range_end (I.ok.hd hc) st (by have:n <= i:=hg; omega) fun h' eb=>⟨rfl,I.turned (t':=s.toks) (fun b o hb e=>eb b o hb e) f0 f1 f3 f4 f5⟩
 self:=fun _ _ _ _ _ st h=>wpAny_pyIter_rangeiter st h
end L2
namespace L2
open PySem PySem.Spec PyProof.Rows
section
variable {X:Cx}{tg:Expr}
def iList (K:zA)(tl:TE):TI:=fun σ H R=>tl σ H fun x H1=>∃ a,x = .ref a /\ (∃ xs,SqL K H1 a xs) /\ R (Itl K a) H1
def iTup (K:zA)(tl:TE):TI:=fun σ H R=>tl σ H fun x H1=>∃ a,x = .ref a /\ (∃ xs,SqT K H1 a xs) /\ R (Itt K a) H1
theorem pi_list {l:Expr}{tl:TE}(hl:PE X l tl):PI X tg l (iList X.K tl):=by
 intro pins s σ H R I h
 refine thn (hl pins s σ H _ I h) fun v s1 ⟨x,H1,I1,r1,q1⟩=>?_
 obtain ⟨a,e,⟨xs,hq⟩,q⟩:=q1
 subst e
 cases r1
 obtain ⟨its,rv,p,hz⟩:=I1.list hq
 refine wpAny_pyIter_list p.isList ?_
 refine ⟨s1.heap.objs.size,[s1.heap.objs.size],_,_,H1,rfl,I1.kept (t':=s1.toks) fun b o e=>Heap.get?_push_of_some _ e,turn_list a _,⟨_,Heap.get?_push_size _ rfl,rfl,rfl⟩,fun b hb=>?_,q⟩
 have e:b=s1.heap.objs.size:=by simpa using hb
 subst e
 exact I1.fpOk (zG _) (I1.hok.fresh (zG _))
theorem pi_tup {l:Expr}{tl:TE}(hl:PE X l tl):PI X tg l (iTup X.K tl):=by
 intro pins s σ H R I h
 refine thn (hl pins s σ H _ I h) fun v s1 ⟨x,H1,I1,r1,q1⟩=>?_
 obtain ⟨a,e,⟨xs,hq⟩,q⟩:=q1
 subst e
 cases r1
 obtain ⟨its,rv,p,hz⟩:=I1.tuple hq
 refine wpAny_pyIter_tuple (show s1.heap.IsTuple a its.toArray from p) ?_
 refine ⟨s1.heap.objs.size,[s1.heap.objs.size],_,_,H1,rfl,I1.kept (t':=s1.toks) fun b o e=>Heap.get?_push_of_some _ e,turn_tuple a _,⟨_,Heap.get?_push_size _ rfl,rfl,rfl⟩,fun b hb=>?_,q⟩
 have e:b=s1.heap.objs.size:=by simpa using hb
 subst e
 exact I1.fpOk (zG _) (I1.hok.fresh (zG _))
theorem range_it {pins:List (Addr × Obj)}{σ:St}{H:Hp}{s:Shared}{R:It -> Hp -> Prop}{E:Value -> Shared -> Prop}{lo hi:Int}{t u v:Tok}{tk:Nat}(I:Inv X pins σ H s)(h1:-(2 ^ 62) <= lo)(h2:lo < 2 ^ 62)(h3:-(2 ^ 62) <= hi)(h4:hi < 2 ^ 62)
  (q:R (Itr lo (hi - lo).toNat) H):wpAny (model X.prog X.w) X.A (pyIter (.ref s.heap.objs.size)) (PIE X pins σ tg R) E { s with heap:=s.heap.push { cls:=.type "range",data:=.fields #[.int lo t,.int hi u,.int 1 v] },toks:=tk }:=by
 refine wpAny_pyIter_range (IsRange.new ..) (small_one h1 h2 h3 h4) ?_
 have I1:Inv X pins σ H { s with heap:=s.heap.push { cls:=.type "range",data:=.fields #[.int lo t,.int hi u,.int 1 v] },toks:=tk }:=I.kept fun b o e=>Heap.get?_push_of_some _ e
 refine ⟨(s.heap.push { cls:=.type "range",data:=.fields #[.int lo t,.int hi u,.int 1 v] }).objs.size,[(s.heap.push { cls:=.type "range",data:=.fields #[.int lo t,.int hi u,.int 1 v] }).objs.size],_,_,H,rfl,
  I1.kept (t':=tk) fun b o e=>Heap.get?_push_of_some _ e,turn_range _ lo (hi - lo).toNat,?_,fun b hb=>?_,q⟩
 ·have e1:lo+((0:Nat):Int) * 1=lo:=by simp
  have e2:(((hi - lo).toNat:Nat):Int) - ((0:Nat):Int)=Builtin.Range.rangeSize lo hi 1:=by rw [rangeSize_one]; split <;> omega
  show IsRangeIter _ _ (lo+((0:Nat):Int) * 1) ((((hi - lo).toNat:Nat):Int) - ((0:Nat):Int)) 1
  rw [e1,e2]
  exact Heap.get?_push_size _ rfl
 ·have e:b=(s.heap.push { cls:=.type "range",data:=.fields #[.int lo t,.int hi u,.int 1 v] }).objs.size:=by simpa using hb
  subst e
  exact I1.fpOk (zG _) (I1.hok.fresh (zG _))
def iRng1 (ta:TA):TI:=fun σ H R=>ta σ H fun vs H1=>∃ j:Int,vs=[.int j] /\ -(2 ^ 62) <= j /\ j < 2 ^ 62 /\ R (Itr 0 j.toNat) H1
def iRng2 (ta:TA):TI:=fun σ H R=>ta σ H fun vs H1=>∃ i j:Int,vs=[.int i,.int j] /\ (-(2 ^ 62) <= i /\ i < 2 ^ 62 /\ -(2 ^ 62) <= j /\ j < 2 ^ 62) /\ R (Itr i (j - i).toNat) H1
theorem pi_range1 {a:Expr} {ta:TA} {p pos:Pos} (hg:Gl X "range") (hm:X.mg "range" = none) (ha:PA X [a] ta) (hs:starEach [a] X.env=[(false,eval a X.env)]:=by rfl):PI X tg (.Call (.Name "range" p) [a] [] pos) (iRng1 ta):=by
 intro pins s σ H R I h
 refine Call_ (j0 I hg hm boot_range (PyProof.Rows.callWith_type1 (thn (ha pos pins s σ H _ I h) fun us s1 ⟨vs,H1,I1,r1,q1⟩=>?_) hs rfl))
 obtain ⟨j,e,q1,q2,q⟩:=q1
 subst e
 cases r1 with
 | cons r rr =>
  cases rr
  obtain ⟨t,rfl⟩:=r
  exact call_range_1 (range_it I1 (by omega) (by omega) q1 q2 (by simpa using q))
theorem pi_range2 {a b:Expr} {ta:TA} {p pos:Pos} (hg:Gl X "range") (hm:X.mg "range" = none) (ha:PA X [a,b] ta) (hs:starEach [a,b] X.env=[(false,eval a X.env),(false,eval b X.env)]:=by rfl) (hs2:starEach [b] X.env=[(false,eval b X.env)]:=by rfl) :
  PI X tg (.Call (.Name "range" p) [a,b] [] pos) (iRng2 ta):=by
 intro pins s σ H R I h
 refine Call_ (j0 I hg hm boot_range (PyProof.Rows.callWith_type1 (thn (ha pos pins s σ H _ I h) fun us s1 ⟨vs,H1,I1,r1,q1⟩=>?_) (by rw [hs,hs2]) (by rw [hs2]; rfl)))
 obtain ⟨i,j,e,⟨q1,q2,q3,q4⟩,q⟩:=q1
 subst e
 cases r1 with
 | cons r rr =>
  cases rr with
  | cons r' rr =>
   cases rr
   obtain ⟨t,rfl⟩:=r
   obtain ⟨t',rfl⟩:=r'
   exact call_range_2 (range_it I1 q1 q2 q3 q4 q)
def tFor (wi:TI)(g:TG)(tb:TS):TS:=fun D σ H=>wi σ H fun J H1=>∃ W:Nat -> Nat -> St -> Hp -> Prop,(∃ m,W 0 m σ H1) /\ ∀ i m σ H,W i m σ H ->
 (J.stop i H /\ D.nx σ H) \/ (J.go i H /\ ∃ N:St -> Hp -> Prop,(∀ σ' H',N σ' H' -> ∃ m',m' < m /\ W (i+1) m' σ' H') /\ ∀ x H',J.yld i H x H' -> g x σ H' fun σ2 H2=>tb { D with nx:=N,ct:=N,bk:=D.nx } σ2 H2)
def zAL (fp:List Addr)(h:Heap):List (Addr × Obj):=fp.filterMap fun b=>(h.get? b).map fun o=>(b,o)
theorem xo {fp:List Addr}{h:Heap}{b:Addr}{o:Obj}(hb:b ∈ fp)(e:h.get? b=some o):(b,o) ∈ zAL fp h:=ji.mpr ⟨b,hb,by rw [e]; rfl⟩
theorem of_pinsAt {fp:List Addr}{h:Heap}{p:Addr × Obj}(hp:p ∈ zAL fp h):p.1 ∈ fp /\ h.get? p.1=some p.2:=by
 obtain ⟨b,hb,e⟩:=ji.mp hp
 cases q:h.get? b with
 | none=>rw [q] at e; cases e
 | some o =>
  rw [q] at e
  have e':(b,o)=p:=Option.some.inj e
  subst e'
  exact ⟨hb,q⟩
theorem Inv.pinned {pins:List (Addr × Obj)}{σ:St}{H:Hp}{s:Shared}{fp:List Addr}(I:Inv X pins σ H s)(hf:∀ b ∈ fp,FpOk X pins H b)(ho:∀ b ∈ fp,∃ o,s.heap.get? b=some o /\ ∀ v,o.data ≠ .cell v):Inv X (pins ++ zAL fp s.heap) σ H s :=
 I.pins_of fun p hp=>(zW.mp hp).elim (fun z=>I.pin p (qK _ z)) fun z=>by
  obtain ⟨hb,e⟩:=of_pinsAt z
  obtain ⟨f0,f1,f2,_⟩:=hf p.1 hb
  obtain ⟨o,e',d⟩:=ho p.1 hb
  rw [e] at e'; cases e'
  exact ⟨e,f0,f1,f2,d⟩
theorem Inv.unpinned {pins pl:List (Addr × Obj)}{σ:St}{H:Hp}{s:Shared}(I:Inv X (pins ++ pl) σ H s):Inv X pins σ H s:=I.pins_of fun p hp=>I.pin p (qK _ (List.mem_append_left _ hp))
theorem ps_for {iter:Expr}{body:List Stmt}{wi:TI}{g:TG}{tb:TS}{pos:Pos}(hp:PassesOwn (model X.prog X.w) X.A X.env X.xe)(hc:X.calm=true)(hi:PI X tg iter wi)(hg:PG X tg g)(hb:PSs X body tb)
  (hs:∀ x,foldedSetIterable iter X.env x=pure x:=by intro _; rfl):PS X (.For tg iter body [] pos) (tFor wi g tb):=by
 intro pins s σ H D I h
 refine wpAny_For (thn (hi pins s σ H _ I h) fun v s1 h1=>thn h1 fun itv s2 h2=>?_) hs
 obtain ⟨it,fp,tn,J,H2,e,I2,T,st2,f2,W,⟨m0,w0⟩,turn⟩:=h2
 subst e
 -- what stays true of the iterator's objects through the loop
 have stat:∀ {H':Hp},(∀ b ∈ fp,H' b=none) -> ∀ b ∈ fp,FpOk X pins H' b:=fun hn b hb=>⟨hn b hb,(f2 b hb).2⟩
 refine codeAny_forLoop_any (fun n s'=>∃ i σ' H',Inv X pins σ' H' s' /\ tn i s'.heap /\ (∀ b ∈ fp,H' b=none) /\ W i n σ' H') ?_ m0 ⟨0,σ,H2,I2,st2,fun b hb=>(f2 b hb).1,w0⟩
 rintro n s3 ⟨i,σ3,H3,I3,st3,fr3,w3⟩
 rcases turn i n σ3 H3 w3 with ⟨stop,qn⟩ | ⟨go,N,hN,step⟩
 ·refine wpAny_passesOwn hp (thn (T.done X rfl rfl rfl hc i pins s3 σ3 H3 X.xe I3 (stat fr3) st3 stop) fun r s4 ⟨hr,I4⟩=>?_)
  subst hr
  exact wpAny_execs_nil ⟨σ3,H3,I4,qn⟩
 ·refine wpAny_passesOwn hp (thn (T.item X rfl rfl rfl hc i pins s3 σ3 H3 X.xe I3 (stat fr3) st3 go) fun r s4 ⟨u,hr,h4⟩=>?_)
  subst hr
  refine wpAny_passesOwn hp (thn h4 fun _ s5 ⟨x,H5,I5,r5,y5,st5,fr5⟩=>?_)
  have I5':=I5.pinned (stat fr5) (T.obj _ _ st5)
  refine wpAny_passesOwn hp (thn (hg _ s5 σ3 H5 x u _ I5' r5 (step x H5 y5)) fun _ s6 ⟨σ6,H6,I6,q6⟩=>?_)
  refine wpAny_passesOwn hp (thn (hb _ s6 σ6 H6 _ I6 q6) fun f s7 q7=>?_)
  have again:∀ {σ7:St} {H7:Hp},Inv X (pins ++ zAL fp s5.heap) σ7 H7 s7 -> N σ7 H7 -> ∃ m,m < n /\ ∃ i σ' H',Inv X pins σ' H' s7 /\ tn i s7.heap /\ (∀ b ∈ fp,H' b=none) /\ W i m σ' H':=fun {σ7 H7} I7 n7=>by
   obtain ⟨m',hm,w7⟩:=hN σ7 H7 n7
   refine ⟨m',hm,i+1,σ7,H7,I7.unpinned,T.keep _ _ _ st5 fun b hb o e=>(I7.pin (b,o) (qK _ (qK _ (xo hb e)))).1,fun b hb=>?_,w7⟩
   obtain ⟨o,e,d⟩:=T.obj _ _ st5 b hb
   exact (I7.pin (b,o) (qK _ (qK _ (xo hb e)))).2.1
  cases f with
  | next=>obtain ⟨σ7,H7,I7,n7⟩:=q7; exact again I7 n7
  | cont=>obtain ⟨σ7,H7,I7,n7⟩:=q7; exact again I7 n7
  | brk=>obtain ⟨σ7,H7,I7,q7⟩:=q7; exact ⟨σ7,H7,I7.unpinned,q7⟩
  | ret v=>obtain ⟨x7,σ7,H7,I7,r7,q7⟩:=q7; exact ⟨x7,σ7,H7,I7.unpinned,r7,q7⟩
end
theorem for_list {K:zA}{a:Addr}{xs:List V}{g:TG}{tb:TS}{D:Ends}{σ:St}{H:Hp}(Pv:Nat -> St -> Hp -> Prop)(h0:Pv 0 σ H)(hl:∀ i σ H,i <= xs.length -> Pv i σ H -> SqL K H a xs)
  (hs:∀ i x σ H,xs[i]? = some x -> Pv i σ H -> g x σ H fun σ2 H2=>tb { D with nx:=Pv (i+1),ct:=Pv (i+1),bk:=D.nx } σ2 H2) (hd:∀ σ H,Pv xs.length σ H -> D.nx σ H) :
  ∃ W:Nat -> Nat -> St -> Hp -> Prop,(∃ m,W 0 m σ H) /\ ∀ i m σ H,W i m σ H ->
   ((Itl K a).stop i H /\ D.nx σ H) \/ ((Itl K a).go i H /\ ∃ N:St -> Hp -> Prop,(∀ σ' H',N σ' H' -> ∃ m',m' < m /\ W (i+1) m' σ' H') /\ ∀ x H',(Itl K a).yld i H x H' -> g x σ H' fun σ2 H2=>tb { D with nx:=N,ct:=N,bk:=D.nx } σ2 H2):=by
 refine ⟨fun i m σ H=>m=xs.length - i /\ i <= xs.length /\ Pv i σ H,⟨xs.length,by simp,yL _,h0⟩,?_⟩
 rintro i m σ H ⟨rfl,hi,p⟩
 have q:=hl i σ H hi p
 by_cases hlt:i < xs.length
 ·refine .inr ⟨⟨xs,xs[i],q,by simp [hlt]⟩,Pv (i+1),fun σ' H' p'=>⟨xs.length - (i+1),by omega,rfl,hlt,p'⟩,fun x H' y=>?_⟩
  obtain ⟨e,y⟩:=y
  subst e
  exact hs i x σ _ (y xs q) p
 ·have e:i=xs.length:=by omega
  subst e
  exact .inl ⟨⟨xs,q,zG _⟩,hd σ H p⟩
theorem for_tup {K:zA}{a:Addr}{xs:List V}{g:TG}{tb:TS}{D:Ends}{σ:St}{H:Hp}(Pv:Nat -> St -> Hp -> Prop)(h0:Pv 0 σ H)(hl:∀ i σ H,i <= xs.length -> Pv i σ H -> SqT K H a xs)
  (hs:∀ i x σ H,xs[i]? = some x -> Pv i σ H -> g x σ H fun σ2 H2=>tb { D with nx:=Pv (i+1),ct:=Pv (i+1),bk:=D.nx } σ2 H2) (hd:∀ σ H,Pv xs.length σ H -> D.nx σ H) :
  ∃ W:Nat -> Nat -> St -> Hp -> Prop,(∃ m,W 0 m σ H) /\ ∀ i m σ H,W i m σ H ->
   ((Itt K a).stop i H /\ D.nx σ H) \/ ((Itt K a).go i H /\ ∃ N:St -> Hp -> Prop,(∀ σ' H',N σ' H' -> ∃ m',m' < m /\ W (i+1) m' σ' H') /\ ∀ x H',(Itt K a).yld i H x H' -> g x σ H' fun σ2 H2=>tb { D with nx:=N,ct:=N,bk:=D.nx } σ2 H2):=by
 refine ⟨fun i m σ H=>m=xs.length - i /\ i <= xs.length /\ Pv i σ H,⟨xs.length,by simp,yL _,h0⟩,?_⟩
 rintro i m σ H ⟨rfl,hi,p⟩
 have q:=hl i σ H hi p
 by_cases hlt:i < xs.length
 ·refine .inr ⟨⟨xs,xs[i],q,by simp [hlt]⟩,Pv (i+1),fun σ' H' p'=>⟨xs.length - (i+1),by omega,rfl,hlt,p'⟩,fun x H' y=>?_⟩
  obtain ⟨e,y⟩:=y
  subst e
  exact hs i x σ _ (y xs q) p
 ·have e:i=xs.length:=by omega
  subst e
  exact .inl ⟨⟨xs,q,zG _⟩,hd σ H p⟩
theorem for_range {lo:Int}{n:Nat}{g:TG}{tb:TS}{D:Ends}{σ:St}{H:Hp}(Pv:Nat -> St -> Hp -> Prop)(h0:Pv 0 σ H)
  (hs:∀ i σ H,i < n -> Pv i σ H -> g (.int (lo+i)) σ H fun σ2 H2=>tb { D with nx:=Pv (i+1),ct:=Pv (i+1),bk:=D.nx } σ2 H2) (hd:∀ σ H,Pv n σ H -> D.nx σ H) :
  ∃ W:Nat -> Nat -> St -> Hp -> Prop,(∃ m,W 0 m σ H) /\ ∀ i m σ H,W i m σ H ->
   ((Itr lo n).stop i H /\ D.nx σ H) \/ ((Itr lo n).go i H /\ ∃ N:St -> Hp -> Prop,(∀ σ' H',N σ' H' -> ∃ m',m' < m /\ W (i+1) m' σ' H') /\ ∀ x H',(Itr lo n).yld i H x H' -> g x σ H' fun σ2 H2=>tb { D with nx:=N,ct:=N,bk:=D.nx } σ2 H2):=by
 refine ⟨fun i m σ H=>m=n - i /\ i <= n /\ Pv i σ H,⟨n,by simp,yL _,h0⟩,?_⟩
 rintro i m σ H ⟨rfl,hi,p⟩
 by_cases hlt:i < n
 ·refine .inr ⟨hlt,Pv (i+1),fun σ' H' p'=>⟨n - (i+1),by omega,rfl,hlt,p'⟩,fun x H' y=>?_⟩
  obtain ⟨e,y⟩:=y
  subst e y
  exact hs i σ _ hlt p
 ·have e:i=n:=by omega
  subst e
  exact .inl ⟨zG _,hd σ H p⟩
end L2
namespace L2
open PySem PySem.Spec PyProof.Rows
abbrev R2:=V -> V -> Hp -> VK -> Prop
def OpR (X:Cx)(f:Value -> Value -> Sem Value)(r:R2):Prop :=
 ∀ (pins:List (Addr × Obj)) (s:Shared) (σ:St) (H:Hp) (x y:V) (v u:Value) (Q:VK),Inv X pins σ H s -> RelV x v -> RelV y u -> r x y H Q ->
  wpAny (model X.prog X.w) X.A (f v u) (EP X pins σ Q) X.xe s
def UnR (X:Cx)(f:Value -> Sem Value)(r:V -> Hp -> VK -> Prop):Prop :=
 ∀ (pins:List (Addr × Obj)) (s:Shared) (σ:St) (H:Hp) (x:V) (v:Value) (Q:VK),Inv X pins σ H s -> RelV x v -> r x H Q ->
  wpAny (model X.prog X.w) X.A (f v) (EP X pins σ Q) X.xe s
def CallR (X:Cx)(f:Value)(r:List V -> Hp -> VK -> Prop):Prop :=
 ∀ (pins:List (Addr × Obj)) (s:Shared) (σ:St) (H:Hp) (xs:List V) (us:List Value) (Q:VK),Inv X pins σ H s -> Vals xs us -> r xs H Q ->
  wpAny (model X.prog X.w) X.A (call f us) (EP X pins σ Q) X.xe s
def tOp (r:R2)(ta tb:TE):TE:=fun σ H Q=>ta σ H fun x H1=>tb σ H1 fun y H2=>r x y H2 Q
def tUn (r:V -> Hp -> VK -> Prop)(ta:TE):TE:=fun σ H Q=>ta σ H fun x H1=>r x H1 Q
def rI (C:Int -> Int -> Prop)(g:Int -> Int -> V):R2:=fun x y H Q=>∃ i j,x = .int i /\ y = .int j /\ C i j /\ Q (g i j) H
def rI0 (g:Int -> Int -> V):R2:=fun x y H Q=>∃ i j,x = .int i /\ y = .int j /\ Q (g i j) H
def rU (g:Int -> V):V -> Hp -> VK -> Prop:=fun x H Q=>∃ i,x = .int i /\ Q (g i) H
section
variable {X:Cx}{a b c:Expr}{ta tb tc:TE}{pos:Pos}
theorem binT (ha:PE X a ta)(hb:PE X b tb){pins:List (Addr × Obj)}{s:Shared}{σ:St}{H:Hp}{R:V -> V -> Hp -> Prop}(I:Inv X pins σ H s)
  (h:ta σ H fun x H1=>tb σ H1 fun y H2=>R x y H2) {Q:Value -> Shared -> Prop} {f:Value -> Value -> Sem Value}
  (hf:∀ v u s2 x y H2,Inv X pins σ H2 s2 -> RelV x v -> RelV y u -> R x y H2 -> wpAny (model X.prog X.w) X.A (f v u) Q X.xe s2) :
  wpAny (model X.prog X.w) X.A (eval a X.env) (fun v s₁=>wpAny (model X.prog X.w) X.A (eval b X.env) (fun u s₂=>wpAny (model X.prog X.w) X.A (f v u) Q X.xe s₂) X.xe s₁) X.xe s:=by
 refine thn (ha pins s σ H _ I h) fun v s1 ⟨x,H1,I1,r1,q1⟩=>?_
 refine thn (hb pins s1 σ H1 _ I1 q1) fun u s2 ⟨y,H2,I2,r2,q2⟩=>?_
 exact hf v u s2 x y H2 I2 r1 r2 q2
theorem pe_op {op:Operator}{r:R2}(ho:OpR X (binaryOp op) r)(ha:PE X a ta)(hb:PE X b tb):PE X (.BinOp a op b pos) (tOp r ta tb):=by
 intro pins s σ H Q I h
 exact wpAny_BinOp (binT ha hb I h fun v u s2 x y H2 I2 rx ry q=>ho pins s2 σ H2 x y v u Q I2 rx ry q)
theorem pe_un {op:UnaryOp}{r:V -> Hp -> VK -> Prop}(ho:UnR X (unaryOp op) r)(ha:PE X a ta):PE X (.UnaryOp op a pos) (tUn r ta):=by
 intro pins s σ H Q I h
 exact UnaryOp_ (thn (ha pins s σ H _ I h) fun v s1 ⟨x,H1,I1,r1,q1⟩=>ho pins s1 σ H1 x v Q I1 r1 q1)
theorem opI {f:Value -> Value -> Sem Value}{C:Int -> Int -> Prop}{g:Int -> Int -> Int}
  (rule:∀ (i j:Int) (t u:Tok) (s:Shared) (Q:Value -> Shared -> Prop) (E:Value -> Shared -> Prop),C i j -> Q (.int (g i j) s.toks) { s with toks:=s.toks+1 } -> wpAny (model X.prog X.w) X.A (f (.int i t) (.int j u)) Q E s) :
  OpR X f (rI C fun i j=>.int (g i j)):=by
 intro pins s σ H x y v u Q I rx ry h
 obtain ⟨i,j,rfl,rfl,hc,q⟩:=h
 obtain ⟨t,rfl⟩:=rx
 obtain ⟨t',rfl⟩:=ry
 exact rule i j t t' s _ _ hc ⟨.int (g i j),H,I.tok _,⟨_,rfl⟩,q⟩
theorem opI0 {f:Value -> Value -> Sem Value}{g:Int -> Int -> Int}
  (rule:∀ (i j:Int) (t u:Tok) (s:Shared) (Q:Value -> Shared -> Prop) (E:Value -> Shared -> Prop),Q (.int (g i j) s.toks) { s with toks:=s.toks+1 } -> wpAny (model X.prog X.w) X.A (f (.int i t) (.int j u)) Q E s) :
  OpR X f (rI0 fun i j=>.int (g i j)):=by
 intro pins s σ H x y v u Q I rx ry h
 obtain ⟨i,j,rfl,rfl,q⟩:=h
 obtain ⟨t,rfl⟩:=rx
 obtain ⟨t',rfl⟩:=ry
 exact rule i j t t' s _ _ ⟨.int (g i j),H,I.tok _,⟨_,rfl⟩,q⟩
theorem opB0 {f:Value -> Value -> Sem Value}{g:Int -> Int -> Bool}
  (rule:∀ (i j:Int) (t u:Tok) (s:Shared) (Q:Value -> Shared -> Prop) (E:Value -> Shared -> Prop),Q (.bool (g i j)) s -> wpAny (model X.prog X.w) X.A (f (.int i t) (.int j u)) Q E s) :
  OpR X f (rI0 fun i j=>.bl (g i j)):=by
 intro pins s σ H x y v u Q I rx ry h
 obtain ⟨i,j,rfl,rfl,q⟩:=h
 obtain ⟨t,rfl⟩:=rx
 obtain ⟨t',rfl⟩:=ry
 exact rule i j t t' s _ _ ⟨.bl (g i j),H,I,rfl,q⟩
theorem two_pow_nn (k:Nat):(0:Int) <= 2 ^ k:=by
 rw [two_pow_cast]
 exact Int.natCast_nonneg _
theorem op_add:OpR X (binaryOp .Add) (rI0 fun i j=>.int (i+j)):=opI0 fun _ _ _ _ _ _ _ q=>add_int q
theorem JE:OpR X (binaryOp .Sub) (rI0 fun i j=>.int (i - j)):=opI0 fun _ _ _ _ _ _ _ q=>sub_int q
theorem op_mod:OpR X (binaryOp .Mod) (rI (fun _ j=>0 < j) fun i j=>.int (i % j)):=opI fun i j _ _ _ _ _ hc q=>by
 have h1:(0:Int) < j:=hc
 exact mod_int' (by omega) (by rw [Int.fmod_eq_emod_of_nonneg i (by omega)]; exact q)
theorem op_shr:OpR X (binaryOp .RShift) (rI (fun _ j=>0 <= j) fun i j=>.int (i / 2 ^ j.toNat)):=opI fun i j _ _ _ _ _ hc q =>
 rshift_int hc (by rw [Int.fdiv_eq_ediv_of_nonneg i (two_pow_nn _)]; exact q)
theorem unI {f:Value -> Sem Value}{g:Int -> Int}
  (rule:∀ (i:Int) (t:Tok) (s:Shared) (Q:Value -> Shared -> Prop) (E:Value -> Shared -> Prop),Q (.int (g i) s.toks) { s with toks:=s.toks+1 } -> wpAny (model X.prog X.w) X.A (f (.int i t)) Q E s) :
  UnR X f (rU fun i=>.int (g i)):=by
 intro pins s σ H x v Q I rx h
 obtain ⟨i,rfl,q⟩:=h
 obtain ⟨t,rfl⟩:=rx
 exact rule i t s _ _ ⟨.int (g i),H,I.tok _,⟨_,rfl⟩,q⟩
theorem un_neg:UnR X (unaryOp .USub) (rU fun i=>.int (-i)):=unI fun _ _ _ _ _ q=>neg_int q
end
def scal:V -> V -> Bool
 | .non,.non=>true | .non,.int _=>true | .int _,.non=>true | .non,.bl _=>true | .bl _,.non=>true | .non,.str _=>true | .str _,.non=>true
 | .int _,.int _=>true | .bl _,.bl _=>true | .str _,.str _=>true | .byt _,.byt _=>true
 | .int _,.str _=>true | .str _,.int _=>true | .bl _,.str _=>true | .str _,.bl _=>true
 | _,_=>false
def rEq:R2:=fun x y H Q=>scal x y=true /\ Q (.bl (decide (x=y))) H
def rNe:R2:=fun x y H Q=>scal x y=true /\ Q (.bl (!decide (x=y))) H
theorem dec_int {i j:Int}:decide (V.int i=V.int j)=(i == j):=by
 rw [xn]
 simp
theorem dec_bl {i j:Bool}:decide (V.bl i=V.bl j)=(i == j):=by
 rw [xn]
 simp
theorem dec_str {i j:Str}:decide (V.str i=V.str j)=(i == j):=by
 rw [xn]
 simp
theorem dec_byt {i j:Array UInt8}:decide (V.byt i=V.byt j)=(i.toList == j.toList):=by
 rw [xn]
 cases i
 cases j
 simp
section
variable {X:Cx}{a b c:Expr}{ta tb tc:TE}{pos:Pos}
theorem fin_bl {pins:List (Addr × Obj)}{σ:St}{H:Hp}{s:Shared}{Q:VK}{k k':Bool}(I:Inv X pins σ H s)(q:Q (.bl k) H)(e:k=k'):EP X pins σ Q (.bool k') s:=by
 subst e
 exact ⟨.bl k,H,I,rfl,q⟩
theorem op_eq:OpR X (compareOp .Eq) rEq:=by
 intro pins s σ H x y v u Q I rx ry h
 obtain ⟨hs,q⟩:=h
 cases x with
 | non =>
  cases rx
  cases y with
  | non=>cases ry; exact PySem.EqNone.eq_none_none (fin_bl I q (by simp))
  | bl j=>cases ry; exact PySem.EqNone.eq_none_bool (fin_bl I q (by simp))
  | int j=>obtain ⟨t',rfl⟩:=ry; exact PySem.EqNone.eq_none_int (fin_bl I q (by simp))
  | str j=>obtain ⟨t',rfl⟩:=ry; exact PySem.EqNone.eq_none_str (fin_bl I q (by simp))
  | _=>exact absurd (show false=true from hs) zQ
 | bl i =>
  cases rx
  cases y with
  | non=>cases ry; exact PySem.EqNone.eq_bool_none (fin_bl I q (by simp))
  | bl j=>cases ry; exact eq_bool (fin_bl I q dec_bl)
  | str j=>obtain ⟨t',rfl⟩:=ry; exact PySem.EqMixed.eq_bool_str (fin_bl I q (by simp))
  | _=>exact absurd (show false=true from hs) zQ
 | int i =>
  obtain ⟨t,rfl⟩:=rx
  cases y with
  | non=>cases ry; exact PySem.EqNone.eq_int_none (fin_bl I q (by simp))
  | int j=>obtain ⟨t',rfl⟩:=ry; exact eq_int (fin_bl I q dec_int)
  | str j=>obtain ⟨t',rfl⟩:=ry; exact PySem.EqMixed.eq_int_str (fin_bl I q (by simp))
  | _=>exact absurd (show false=true from hs) zQ
 | str i =>
  obtain ⟨t,rfl⟩:=rx
  cases y with
  | non=>cases ry; exact PySem.EqNone.eq_str_none (fin_bl I q (by simp))
  | bl j=>cases ry; exact PySem.EqMixed.eq_str_bool (fin_bl I q (by simp))
  | int j=>obtain ⟨t',rfl⟩:=ry; exact PySem.EqMixed.eq_str_int (fin_bl I q (by simp))
  | str j=>obtain ⟨t',rfl⟩:=ry; exact eq_str (fin_bl I q dec_str)
  | _=>exact absurd (show false=true from hs) zQ
 | byt i =>
  obtain ⟨t,rfl⟩:=rx
  cases y with
  | byt j=>obtain ⟨t',rfl⟩:=ry; exact PySem.W.eq_bytes (fin_bl I q dec_byt)
  | _=>exact absurd (show false=true from hs) zQ
 | _=>cases y <;> exact absurd (show false=true from hs) zQ
theorem op_ne:OpR X (compareOp .NotEq) rNe:=by
 intro pins s σ H x y v u Q I rx ry h
 obtain ⟨hs,q⟩:=h
 cases x with
 | non =>
  cases rx
  cases y with
  | non=>cases ry; exact PySem.EqNone.ne_none_none (fin_bl I q (by simp))
  | bl j=>cases ry; exact PySem.EqNone.ne_none_bool (fin_bl I q (by simp))
  | int j=>obtain ⟨t',rfl⟩:=ry; exact PySem.EqNone.ne_none_int (fin_bl I q (by simp))
  | str j=>obtain ⟨t',rfl⟩:=ry; exact PySem.EqNone.ne_none_str (fin_bl I q (by simp))
  | _=>exact absurd (show false=true from hs) zQ
 | bl i =>
  cases rx
  cases y with
  | non=>cases ry; exact PySem.EqNone.ne_bool_none (fin_bl I q (by simp))
  | bl j=>cases ry; exact ne_bool (fin_bl I q (congrArg not dec_bl))
  | str j=>obtain ⟨t',rfl⟩:=ry; exact PySem.EqMixed.ne_bool_str (fin_bl I q (by simp))
  | _=>exact absurd (show false=true from hs) zQ
 | int i =>
  obtain ⟨t,rfl⟩:=rx
  cases y with
  | non=>cases ry; exact PySem.EqNone.ne_int_none (fin_bl I q (by simp))
  | int j=>obtain ⟨t',rfl⟩:=ry; exact ne_int (fin_bl I q (congrArg not dec_int))
  | str j=>obtain ⟨t',rfl⟩:=ry; exact PySem.EqMixed.ne_int_str (fin_bl I q (by simp))
  | _=>exact absurd (show false=true from hs) zQ
 | str i =>
  obtain ⟨t,rfl⟩:=rx
  cases y with
  | non=>cases ry; exact PySem.EqNone.ne_str_none (fin_bl I q (by simp))
  | bl j=>cases ry; exact PySem.EqMixed.ne_str_bool (fin_bl I q (by simp))
  | int j=>obtain ⟨t',rfl⟩:=ry; exact PySem.EqMixed.ne_str_int (fin_bl I q (by simp))
  | str j=>obtain ⟨t',rfl⟩:=ry; exact ne_str (fin_bl I q (congrArg not dec_str))
  | _=>exact absurd (show false=true from hs) zQ
 | byt i =>
  obtain ⟨t,rfl⟩:=rx
  cases y with
  | byt j=>obtain ⟨t',rfl⟩:=ry; exact PySem.W.ne_bytes (fin_bl I q (congrArg not dec_byt))
  | _=>exact absurd (show false=true from hs) zQ
 | _=>cases y <;> exact absurd (show false=true from hs) zQ
theorem op_lt:OpR X (compareOp .Lt) (rI0 fun i j=>.bl (decide (i < j))):=opB0 fun _ _ _ _ _ _ _ q=>lt_int q
theorem op_le:OpR X (compareOp .LtE) (rI0 fun i j=>.bl (decide (i <= j))):=opB0 fun _ _ _ _ _ _ _ q=>le_int q
theorem op_gt:OpR X (compareOp .Gt) (rI0 fun i j=>.bl (decide (j < i))):=opB0 fun _ _ _ _ _ _ _ q=>gt_int q
theorem op_ge:OpR X (compareOp .GtE) (rI0 fun i j=>.bl (decide (j <= i))):=opB0 fun _ _ _ _ _ _ _ q=>ge_int q
theorem OpR.or {f:Value -> Value -> Sem Value}{r r':R2}(h:OpR X f r)(h':OpR X f r'):OpR X f (fun x y H Q=>r x y H Q \/ r' x y H Q):=by
 intro pins s σ H x y v u Q I rx ry q
 rcases q with q | q
 ·exact h pins s σ H x y v u Q I rx ry q
 ·exact h' pins s σ H x y v u Q I rx ry q
theorem nomark (b:Expr){op:CmpOp}(h:op ≠ .In:=by decide)(h2:op ≠ .NotIn:=by decide):behindInMarks op b=false:=by
 have e1:(op == CmpOp.In)=false:=by cases op <;> first | rfl | exact absurd rfl h
 have e2:(op == CmpOp.NotIn)=false:=by cases op <;> first | rfl | exact absurd rfl h2
 cases b <;> simp [behindInMarks,e1,e2]
theorem pe_cmpR {op:CmpOp}{r:R2}(ho:OpR X (compareOp op) r)(ha:PE X a ta)(hb:PE X b tb)(hm:behindInMarks op b=false):PE X (.Compare a [op] [b] pos) (tOp r ta tb):=by
 intro pins s σ H Q I h
 exact wpAny_Compare1 (binT ha hb I h fun v u s2 x y H2 I2 rx ry q=>ho pins s2 σ H2 x y v u Q I2 rx ry q) hm
def tTest (t:TE):TT:=fun σ H Q=>t σ H fun x H'=>∃ k,x = .bl k /\ Q k H'
theorem pt_cmpR {op:CmpOp}{r:R2}(ho:OpR X (compareOp op) r)(ha:PE X a ta)(hb:PE X b tb)(hm:behindInMarks op b=false):PT X (.Compare a [op] [b] pos) (tTest (tOp r ta tb)):=by
 intro pins s σ H Q I h
 refine wpAny_isTrue_Compare1 (thn (ha pins s σ H _ I h) fun v s1 ⟨x,H1,I1,r1,q1⟩=>thn (hb pins s1 σ H1 _ I1 q1) fun u s2 ⟨y,H2,I2,r2,q2⟩ =>
  thn (ho pins s2 σ H2 x y v u _ I2 r1 r2 q2) fun c s3 ⟨z,H3,I3,r3,k,e,q3⟩=>?_) hm
 subst e
 cases r3
 exact wpAny_truthy_bool ⟨H3,I3,q3⟩
def tChain (r r':R2)(ta tb tc:TE):TE:=fun σ H Q=>ta σ H fun x H1=>tb σ H1 fun y H2=>r x y H2 fun z H3=>∃ k,z = .bl k /\
 (if k=true then tc σ H3 fun w' H4=>r' y w' H4 Q else Q (.bl false) H3)
theorem pe_chain {op op':CmpOp}{r r':R2}(ho:OpR X (compareOp op) r)(ho':OpR X (compareOp op') r')(ha:PE X a ta)(hb:PE X b tb)(hc:PE X c tc)
  (hm:lastMarks [op,op'] [b,c]=false:=by with_unfolding_all rfl):PE X (.Compare a [op,op'] [b,c] pos) (tChain r r' ta tb tc):=by
 intro pins s σ H Q I h
 refine Compare_chain (thn (ha pins s σ H _ I h) fun v s1 ⟨x,H1,I1,r1,q1⟩=>chain_link (thn (hb pins s1 σ H1 _ I1 q1) fun u s2 ⟨y,H2,I2,r2,q2⟩ =>
  thn (ho pins s2 σ H2 x y v u _ I2 r1 r2 q2) fun d s3 ⟨z,H3,I3,r3,k,e,q3⟩=>?_)) hm
 subst e
 cases r3
 refine wpAny_truthy_bool ?_
 cases k with
 | false=>exact ite_ff ⟨.bl false,H3,I3,rfl,q3⟩
 | true=>exact ite_tt (chain_last (thn (hc pins s3 σ H3 _ I3 q3) fun w' s4 ⟨z',H4,I4,r4,q4⟩=>ho' pins s4 σ H4 y z' u w' Q I4 r2 r4 q4))
theorem pt_chain {op op':CmpOp}{r r':R2}(ho:OpR X (compareOp op) r)(ho':OpR X (compareOp op') r')(ha:PE X a ta)(hb:PE X b tb)(hc:PE X c tc)
  (hm:lastMarks [op,op'] [b,c]=false:=by with_unfolding_all rfl):PT X (.Compare a [op,op'] [b,c] pos) (tTest (tChain r r' ta tb tc)):=by
 intro pins s σ H Q I h
 refine isTrue_chain (thn (ha pins s σ H _ I h) fun v s1 ⟨x,H1,I1,r1,q1⟩=>test_link (thn (hb pins s1 σ H1 _ I1 q1) fun u s2 ⟨y,H2,I2,r2,q2⟩ =>
  thn (ho pins s2 σ H2 x y v u _ I2 r1 r2 q2) fun d s3 ⟨z,H3,I3,r3,k,e,q3⟩=>?_)) hm
 subst e
 cases r3
 refine wpAny_truthy_bool ?_
 cases k with
 | false =>
  obtain ⟨k',e',q'⟩:=q3
  cases e'
  exact ite_ff ⟨H3,I3,q'⟩
 | true =>
  refine ite_tt (test_last (thn (hc pins s3 σ H3 _ I3 q3) fun w' s4 ⟨z',H4,I4,r4,q4⟩=>thn (ho' pins s4 σ H4 y z' u w' _ I4 r2 r4 q4) fun d' s5 ⟨z2,H5,I5,r5,k2,e2,q5⟩=>?_))
  subst e2
  cases r5
  exact wpAny_truthy_bool ⟨H5,I5,q5⟩
theorem zAM:(sizeLine:Nat) < 2 ^ 63:=by rw [sizeLine_eq]; decide
theorem op_add_str:OpR X (binaryOp .Add) (fun x y H Q=>∃ i j,x = .str i /\ y = .str j /\ i.length+j.length <= sizeLine /\ Q (.str (i ++ j)) H):=by
 intro pins s σ H x y v u Q I rx ry h
 obtain ⟨i,j,rfl,rfl,hz,q⟩:=h
 obtain ⟨t,rfl⟩:=rx
 obtain ⟨t',rfl⟩:=ry
 exact add_str (fun t' tk=>⟨.str (i ++ j),H,I.tok _,⟨_,rfl⟩,q⟩) hz
theorem vals1 {x:V}{us:List Value}(r:Vals [x] us):∃ u,us=[u] /\ RelV x u:=by
 cases r with
 | cons r1 r2=>cases r2; exact ⟨_,rfl,r1⟩
theorem vals2 {x y:V}{us:List Value}(r:Vals [x,y] us):∃ u w',us=[u,w'] /\ RelV x u /\ RelV y w':=by
 cases r with
 | cons r1 r2 =>
  cases r2 with
  | cons r3 r4=>cases r4; exact ⟨_,_,rfl,r1,r3⟩
theorem call_abs:CallR X (.builtin "abs") (fun xs H Q=>∃ i,xs=[.int i] /\ Q (.int (if i < 0 then -i else i)) H):=by
 intro pins s σ H xs us Q I r h
 obtain ⟨i,rfl,q⟩:=h
 obtain ⟨u,rfl,t,rfl⟩:=vals1 r
 exact call_abs_int fun u tk=>⟨.int (if i < 0 then -i else i),H,I.tok _,⟨_,rfl⟩,q⟩
theorem call_min2 (hc:X.calm=true):CallR X (.builtin "min") (fun xs H Q=>∃ i j,xs=[.int i,.int j] /\ Q (.int (if j < i then j else i)) H):=by
 intro pins s σ H xs us Q I r h
 obtain ⟨i,j,rfl,q⟩:=h
 obtain ⟨u,w',rfl,⟨t,rfl⟩,⟨t',rfl⟩⟩:=vals2 r
 refine min_two_ints (I.ok.hd hc) fun h' tk k=>⟨_,H,I.kept k,?_,q⟩
 by_cases hj:j < i
 ·rw [if_pos hj,if_pos hj]; exact ⟨_,rfl⟩
 ·rw [if_neg hj,if_neg hj]; exact ⟨_,rfl⟩
theorem y3:CallR X (.type "int") (fun xs H Q=>(∃ i,xs=[.int i] /\ Q (.int i) H) \/ ∃ k,xs=[.bl k] /\ Q (.int (if k then 1 else 0)) H):=by
 intro pins s σ H xs us Q I r h
 rcases h with ⟨i,rfl,q⟩ | ⟨k,rfl,q⟩
 ·obtain ⟨u,rfl,t,rfl⟩:=vals1 r
  exact call_int_int ⟨.int i,H,I,⟨_,rfl⟩,q⟩
 ·obtain ⟨u,rfl,r1⟩:=vals1 r
  cases r1
  exact call_int_bool ⟨.int (if k then 1 else 0),H,I.tok _,⟨_,rfl⟩,q⟩
end
end L2
namespace L2
open PySem PySem.Spec PyProof.Rows
structure ObjM (h:Heap) (x dx C:Addr) (mA:Str -> Option Value):Prop where
 obj:h.get? x=some (PySem.W.instObj C dx)
 ns:h.Ns1 dx mA
 ne:dx ≠ x
theorem lookIn_ns {h:Heap}{dx:Addr}{mA:Str -> Option Value}(n:h.Ns1 dx mA):∃ od,h.get? dx=some od /\ ∀ name,PySem.W.lookIn name od=some (mA name):=by
 obtain ⟨o,es,ep,ho,hd,hk,_,hm⟩:=n
 refine ⟨o,ho,fun name=>?_⟩
 have e:=hm name
 unfold nsFind findBy at e
 rw [← Array.find?_toList] at e
 unfold PySem.W.lookIn
 rw [hd]
 dsimp only
 split
 ·rename_i y q
  rw [q] at e
  exact congrArg some e
 ·rename_i q
  rw [q] at e
  have a:es.toList.any (·.refKey)=false:=by
   rw [List.any_eq_false]
   intro y hy
   obtain ⟨z,t,hkey⟩:=hk y (Array.mem_toList_iff.mp hy)
   simp [DictEntry.refKey,hkey]
  have a':¬ es.toList.any (·.refKey)=true:=by rw [a]; exact zQ
  rw [if_neg a']
  exact congrArg some e
theorem ObjM.look {h:Heap}{x dx C:Addr}{mA:Str -> Option Value}(I:ObjM h x dx C mA):∃ od,PySem.W.InstAt h x (PySem.W.instObj C dx) C (some od) /\ ∀ name,PySem.W.lookIn name od=some (mA name) :=
 let ⟨od,ho,hl⟩:=lookIn_ns I.ns
 ⟨od,⟨I.obj,rfl,rfl,ho⟩,hl⟩
section
variable {prog:Program}{w:World}{A:Around}{E:Value -> Shared -> Prop}{s:Shared}{K:zA}{x dx C f:Addr}{mA:Str -> Option Value}{name:Str}{v:Value}
end
theorem RelO.some_of {v:V}{o:Option Value}(r:RelO (some v) o):∃ u,o=some u /\ RelV v u:=by
 cases o with
 | none=>exact (show False from r).elim
 | some u=>exact ⟨u,rfl,r⟩
theorem handed_of {v:V}{u:Value}(r:RelV v u):PySem.W.handedIn u=true:=by
 cases v with
 | non=>cases (show u=Value.none from r); rfl
 | bl b=>cases (show u=Value.bool b from r); rfl
 | int i=>obtain ⟨t,e⟩:=(show ∃ t,u=Value.int i t from r); cases e; rfl
 | str x=>obtain ⟨t,e⟩:=(show ∃ t,u=Value.str x t from r); cases e; rfl
 | byt b=>obtain ⟨t,e⟩:=(show ∃ t,u=Value.bytes b t from r); cases e; rfl
 | flt b=>obtain ⟨t,e⟩:=(show ∃ t,u=Value.float b t from r); cases e; rfl
 | ref a=>cases (show u=Value.ref a from r); rfl
 | ty n=>cases (show u=Value.type n from r); rfl
section
variable {P:Program}{w:World}{H H':Hp}{h h':Heap}{a C dx:Addr}{fs fs':List (Str × V)}
theorem ins_get (hok:HOk P w H h)(e:H a=some (.ins C dx fs)):∃ mA,ObjM h a dx C mA /\ (∀ f,RelO (fs.lookup f) (mA f)) /\ PySem.Within mA (fs.map (·.1)) /\ fs.length <= 1000 /\ H dx=some (.own a):=by
 obtain ⟨d,z,ne,ob,mA,n,r,q⟩:=(show ObjOk P w H h a (.ins C dx fs) from hok a _ e)
 exact ⟨mA,⟨ob,n,ne⟩,r,q,z,d⟩
end
structure Cls (K:zA) (C:Addr):Prop where
 pg:PySem.W.plainGet K C Str.empty=true
 hd:PySem.W.hasDictIn K C=true
 po:PySem.W.plainOver K C=true
 sa:yN K (.ref C) "__setattr__" = some (some (.builtin "object.__setattr__"))
theorem Cls.get {K:zA}{C:Addr}(c:Cls K C)(f:Str):PySem.W.plainGet K C f=true:=c.pg
section
variable {X:Cx}{pins:List (Addr × Obj)}{σ:St}{H:Hp}{s:Shared}{a C dx:Addr}{fs:List (Str × V)}{f:Str}{v:V}{A:Around}{E:Value -> Shared -> Prop}
theorem attr_of {prog:Program}{w:World}{env:Env}{e:Expr}{f:Str}{pos:Pos}{s:Shared}{Q:Value -> Shared -> Prop}(hb:attributeBase e f env (eval e env)=eval e env)
  (h:wpAny (model prog w) A (eval e env) (fun o s₁=>wpAny (model prog w) A (getAttr o f true) Q E s₁) E s):wpAny (model prog w) A (eval (.Attribute e f pos) env) Q E s :=
 Attribute_any_ h (by rw [arm_eval_Attribute,hb])
end
section
variable {X:Cx}{o e value:Expr}{f:Str}{pos pos' tpos:Pos}{ta tv:TE}
end
section
variable {X:Cx}{pins:List (Addr × Obj)}{σ:St}{H:Hp}{s:Shared}{A:Around}{E:Value -> Shared -> Prop}{Q:Value -> Shared -> Prop}{c:Value}{b:Bool}
inductive TyOf (K:zA) (H:Hp):V -> Value -> Prop where
 | non:TyOf K H .non (.type "NoneType")
 | bl (x:Bool):TyOf K H (.bl x) (.type "bool")
 | int (i:Int):TyOf K H (.int i) (.type "int")
 | str (x:Str):TyOf K H (.str x) (.type "str")
 | flt (x:UInt64):TyOf K H (.flt x) (.type "float")
 | lst {a:Addr} {xs:List V} (e:H a=some (.lst xs)):TyOf K H (.ref a) (.type "list")
 | frz {a:Addr} {o:Obj} {xs:List V} (e:H a=some (.frz o (.lst xs))):TyOf K H (.ref a) (.type "list")
 | tup {a:Addr} {xs:List V} (e:H a=some (.tup xs)):TyOf K H (.ref a) (.type "tuple")
 | dK {a:Addr} {kvs:List (Key × V)} (e:H a=some (.dK kvs)):TyOf K H (.ref a) (.type "dict")
 | dT {a:Addr} {kvs:List (List Key × V)} (e:H a=some (.dT kvs)):TyOf K H (.ref a) (.type "dict")
 | ins {a C dx:Addr} {fs:List (Str × V)} (e:H a=some (.ins C dx fs)) (cl:Cls K C) (ha:yN K (.ref C) "__class__" = some (some (.builtin "object.__class__")))
   (hn:PySem.W.specialIn K (.builtin "object.__class__") "__get__" = some (some (.builtin "getset_descriptor.__get__"))) (htk:PySem.W.takesIn K (.builtin "object.__class__")=some true)
   (hm:PySem.W.mroIn K C (.type "object")=some true):TyOf K H (.ref a) (.ref C)
theorem isinst_ok {x:V}{u t:Value}(I:Inv X pins σ H s)(rx:RelV x u)(ty:TyOf X.K H x t)(e:zX X.K t c=some b)(h:∀ tk,Q (.bool b) { s with toks:=tk }) :
  wpAny (model X.prog X.w) A (call (.builtin "isinstance") [u,c]) Q E s:=by
 cases ty with
 | non=>cases (show u=Value.none from rx); exact yC PySem.W.kitx_none I.kIn True.intro e (fun z=>nomatch z) h
 | bl y=>cases (show u=Value.bool y from rx); exact yC PySem.W.kitx_bool I.kIn True.intro e (fun z=>nomatch z) h
 | int i=>obtain ⟨t,q⟩:=(show ∃ t,u=Value.int i t from rx); cases q; exact yC PySem.W.kitx_int I.kIn True.intro e (fun z=>nomatch z) h
 | str y=>obtain ⟨t,q⟩:=(show ∃ t,u=Value.str y t from rx); cases q; exact yC PySem.W.kitx_str I.kIn True.intro e (fun z=>nomatch z) h
 | flt y=>obtain ⟨t,q⟩:=(show ∃ t,u=Value.float y t from rx); cases q; exact yC PySem.W.kitx_float I.kIn True.intro e (fun z=>nomatch z) h
 | @lst a xs ea =>
  cases (show u=Value.ref a from rx)
  obtain ⟨_,_,n,_,h1⟩:=(show ObjOk X.prog X.w H s.heap a (.lst xs) from I.hok a _ ea)
  exact yC PySem.W.kitx_list I.kIn ⟨_,h1,rfl⟩ e (fun z=>nomatch z) h
 | @frz a ob xs ea =>
  cases (show u=Value.ref a from rx)
  obtain ⟨_,_,_,n,_,h1⟩:=(show ObjOk X.prog X.w H s.heap a (.frz ob (.lst xs)) from I.hok a _ ea)
  exact yC PySem.W.kitx_list I.kIn ⟨_,h1,rfl⟩ e (fun z=>nomatch z) h
 | @tup a xs ea =>
  cases (show u=Value.ref a from rx)
  obtain ⟨_,_,_,p⟩:=(show ObjOk X.prog X.w H s.heap a (.tup xs) from I.hok a _ ea)
  obtain ⟨o,h1,h2,_⟩:=p
  exact yC PySem.W.kitx_tuple I.kIn ⟨o,h1,h2⟩ e (fun z=>nomatch z) h
 | @dK a kvs ea =>
  cases (show u=Value.ref a from rx)
  obtain ⟨_,_,vs,_,p⟩:=(show ObjOk X.prog X.w H s.heap a (.dK kvs) from I.hok a _ ea)
  obtain ⟨o,es,ep,h1,h2,_⟩:=p
  exact yC PySem.W.kitx_dict I.kIn ⟨o,h1,h2.1⟩ e (fun z=>nomatch z) h
 | @dT a kvs ea =>
  cases (show u=Value.ref a from rx)
  obtain ⟨_,_,xs,_,o,es,ep,h1,h2,_⟩:=(show ObjOk X.prog X.w H s.heap a (.dT kvs) from I.hok a _ ea)
  exact yC PySem.W.kitx_dict I.kIn ⟨o,h1,h2.1⟩ e (fun z=>nomatch z) h
 | @ins a C dx fs ea cl ha hn htk hm =>
  cases (show u=Value.ref a from rx)
  obtain ⟨mA,O,_⟩:=ins_get I.hok ea
  obtain ⟨od,J,_⟩:=O.look
  exact yC (PySem.W.kitx_own (cl.get _) cl.hd ha hn htk hm) I.kIn J e (fun z=>nomatch z) h
end
end L2
namespace L2
open PySem PySem.Spec PyProof.Rows
structure Room (k:Nat) (A:Around):Prop where
 hd:A.handled=none
 dp:A.depth+3 * k+5 < recursionLimit
 un:A.units+16 * k+200 < cLine
theorem Room.mono {j k:Nat}{A:Around}(r:Room k A)(h:j <= k):Room j A:=⟨r.hd,by have:=r.dp; omega,by have:=r.un; omega⟩
theorem Room.deeper {k:Nat}{A:Around}(r:Room (k+1) A)(env:Env):Room k (A.deeper env) :=
 ⟨r.hd,by have:=r.dp; show A.depth+1+3 * k+5 < _; omega,by have:=r.un; show A.units+3+16 * k+200 < _; omega⟩
theorem make_depth {A:Around}{C:Addr}{us:List Value}{kw:List (Str × Value)}:(A.under (.builtin "type.__call__" ⟨.ref C :: us,kw⟩)).depth=A.depth+1:=by
 first | rfl | simp [Around.under,Code.weight,Code.isCreation,Code.isGuard,Code.isCaller,Code.frames,Code.isFrame,guardIds]
theorem make_units {A:Around}{C:Addr}{us:List Value}{kw:List (Str × Value)}:(A.under (.builtin "type.__call__" ⟨.ref C :: us,kw⟩)).units=A.units+1:=by
 first | rfl | simp [Around.under,Code.cUnits,Code.frames,Code.isFrame]
theorem Room.make {k:Nat}{A:Around}(r:Room (k+1) A)(C:Addr)(us:List Value)(kw:List (Str × Value)):Room k (A.under (.builtin "type.__call__" ⟨.ref C :: us,kw⟩)) :=
 ⟨r.hd,by have:=r.dp; rw [make_depth]; omega,by have:=r.un; rw [make_units]; omega⟩
theorem Room.depth {k:Nat}{A:Around}(r:Room k A):A.depth < recursionLimit:=by have:=r.dp; omega
theorem Room.units {k:Nat}{A:Around}(r:Room k A):A.units+64 < cLine:=by have:=r.un; omega
def tNil:TA:=fun _ H Q=>Q [] H
def tCons (ta:TE)(tr:TA):TA:=fun σ H Q=>ta σ H fun x H1=>tr σ H1 fun xs H2=>Q (x :: xs) H2
section
variable {X:Cx}{e:Expr}{es:List Expr}{te:TE}{t:TA}{pos:Pos}
theorem pa_nil:PA X [] tNil:=fun _ _ _ _ H Q I h=>Calls.spliced_nil ⟨[],H,I,.nil,h⟩
theorem pa_cons (ha:PE X e te)(hr:PA X es t)(hs:starEach (e :: es) X.env=(false,eval e X.env) :: starEach es X.env:=by rfl):PA X (e :: es) (tCons te t):=by
 intro pos pins s σ H Q I h
 rw [hs]
 show wpAny _ _ (spliced ((false,eval e X.env) :: backTo pos (starEach es X.env))) _ _ s
 refine Calls.spliced_cons (thn (ha pins s σ H _ I h) fun u s1 ⟨x,H1,I1,r1,q1⟩=>?_)
 exact thn (hr pos pins s1 σ H1 _ I1 q1) fun us s2 ⟨xs,H2,I2,r2,q2⟩=>⟨x :: xs,H2,I2,.cons r1 r2,q2⟩
def tTup (t:TA):TE:=fun σ H Q=>t σ H fun xs H1=>xs.length <= sizeLine /\ ∀ p,H1 p=none -> Q (.ref p) (upd H1 p (.tup xs))
def tLst (t:TA):TE:=fun σ H Q=>t σ H fun xs H1=>xs.length <= sizeLine /\ ∀ p,H1 p=none -> Q (.ref p) (upd H1 p (.lst xs))
theorem pe_tup {x1}(h:PA X es t):PE X (.Tuple es x1 pos) (tTup t):=by
 intro pins s σ H Q I hq
 refine wpAny_Tuple_spliced (thn (h pos pins s σ H _ I hq) fun us s1 ⟨xs,H1,I1,r,z,q⟩=>⟨by rw [← r.length]; exact z,?_⟩)
 have hf:H1 s1.heap.objs.size=none:=I1.hok.fresh (zG _)
 refine ⟨.ref s1.heap.objs.size,upd H1 s1.heap.objs.size (.tup xs),I1.laid (t':=s1.toks) (fun b u e=>Heap.get?_push_of_some _ e) (zG _) ?_,rfl,q _ hf⟩
 exact ⟨z,us,r,⟨_,Heap.get?_push_size _ rfl,rfl,_,rfl⟩⟩
theorem pe_lst (h:PA X es t):PE X (.List es pos) (tLst t):=by
 intro pins s σ H Q I hq
 refine wpAny_List_spliced (thn (h pos pins s σ H _ I hq) fun us s1 ⟨xs,H1,I1,r,z,q⟩=>⟨by rw [← r.length]; exact z,?_⟩)
 have hf:H1 s1.heap.objs.size=none:=I1.hok.fresh (zG _)
 refine ⟨.ref s1.heap.objs.size,upd H1 s1.heap.objs.size (.lst xs),I1.laid (t':=s1.toks) (fun b u e=>Heap.get?_push_of_some _ e) (zG _) ?_,rfl,q _ hf⟩
 exact ⟨z,us,0,r,Heap.get?_push_size _ rfl⟩
end
abbrev Sp:=List V -> Hp -> VK -> XK -> Prop
abbrev CXT:=List Env -> Hp -> Shared -> XK -> Value -> Shared -> Prop
structure Env0 (P:Program) (w:World) (K:zA) (mg:Str -> Option Value) (base:Heap) (A:Around) (outer:List Env) (s:Shared) (H:Hp):Prop where
 frames:A.frames=some outer
 mod:Mod K mg base
 bs:∀ b o,base.get? b=some o -> s.heap.get? b=some o /\ H b=none
 bsz:base.objs.size <= s.heap.objs.size
 funs:s.heap.FunFrames base outer
 frf:∀ b ∈ frs outer,H b=none
 hok:HOk P w H s.heap
 bare:AllBare s.gens
def CE (outer:List Env)(P:Program)(w:World)(H:Hp)(s:Shared)(Q:VK)(u:Value)(s':Shared):Prop :=
 ∃ v H',s'.os=s.os /\ AllBare s'.gens /\ Un (frs outer) [] H H' s.heap s'.heap /\ HOk P w H' s'.heap /\ RelV v u /\ Q v H'
def CR (CX:CXT)(outer:List Env)(P:Program)(w:World)(H:Hp)(s:Shared)(Q:VK)(E:XK)(r:Result)(s':Shared):Prop :=
 match r with
 | .ok (.ret u)=>CE outer P w H s Q u s'
 | .ok _=>False
 | .error e=>CX outer H s E e s'
structure FnOk (P:Program) (w:World) (K:zA) (mg:Str -> Option Value) (base:Heap) (CX:CXT) (k:Nat) (f:Addr) (fd:FuncData) (ps:List Str) (sp:Sp):Prop where
 len:∀ vs H Q E,sp vs H Q E -> vs.length=ps.length
 run:∀ (A:Around) (outer:List Env) (s:Shared) (H:Hp) (args:Args) (us:List Value) (vs:List V) (Q:VK) (E:XK),Room k A -> Env0 P w K mg base A outer s H -> BindsTo s fd args (ps.zip us) -> Vals vs us -> sp vs H Q E ->
  codeAny (model P w) A (.call (.ref f) args) (CR CX outer P w H s Q E) s
theorem FnOk.mono {P:Program}{w:World}{K:zA}{mg:Str -> Option Value}{base:Heap}{CX:CXT}{j k:Nat}{f:Addr}{fd:FuncData}{ps:List Str}{sp:Sp}(F:FnOk P w K mg base CX j f fd ps sp)(h:j <= k) :
  FnOk P w K mg base CX k f fd ps sp:=⟨F.len,fun A outer s H args us vs Q E hr=>F.run A outer s H args us vs Q E (hr.mono h)⟩
theorem FnOk.imp {P:Program}{w:World}{K:zA}{mg:Str -> Option Value}{base:Heap}{CX:CXT}{k:Nat}{f:Addr}{fd:FuncData}{ps:List Str}{sp sp':Sp}(F:FnOk P w K mg base CX k f fd ps sp)
  (h:∀ vs H Q E,sp' vs H Q E -> sp vs H Q E):FnOk P w K mg base CX k f fd ps sp' :=
 ⟨fun vs H Q E q=>F.len vs H Q E (h _ _ _ _ q),fun A outer s H args us vs Q E hr he hb hv hs=>F.run A outer s H args us vs Q E hr he hb hv (h _ _ _ _ hs)⟩
theorem Env0.make {P:Program}{w:World}{K:zA}{mg:Str -> Option Value}{base:Heap}{A:Around}{outer:List Env}{s:Shared}{H:Hp}(e:Env0 P w K mg base A outer s H)(C:Addr)(us:List Value)(kw:List (Str × Value)) :
  Env0 P w K mg base (A.under (.builtin "type.__call__" ⟨.ref C :: us,kw⟩)) outer s H:=⟨by first | exact e.frames | (simpa [Around.under,Code.envs,Code.isFrame,pushEnvs] using e.frames),e.mod,e.bs,e.bsz,e.funs,e.frf,e.hok,e.bare⟩
section
variable {X:Cx}{pins:List (Addr × Obj)}{σ:St}{H:Hp}{s s':Shared}
theorem Inv.env0 (I:Inv X pins σ H s):Env0 X.prog X.w X.K X.mg X.base X.A X.stack s H :=
 ⟨I.ok.frames,I.ok.mod,I.bs,zD I.ok.bsz I.sz,I.stack,I.stkFree,I.hok,I.bare⟩
theorem Inv.after {Q:VK}{u:Value}(I:Inv X pins σ H s)(h:CE X.stack X.prog X.w H s Q u s'):EP X pins σ Q u s':=by
 obtain ⟨v,H',os,bare,un,hok,r,q⟩:=h
 obtain ⟨hh,g,d,t,os'⟩:=s'
 obtain rfl:os'=s.os:=os
 exact ⟨v,H',I.call (h':=hh) (g':=g) (d':=d) (t':=t) (ch:=[]) un hok bare (fun b z=>absurd z (by simp)),r,q⟩
end
def tCall (sp:Sp)(dvs:List V)(E:XK)(t:TA):TE:=fun σ H Q=>t σ H fun vs H1=>sp (vs ++ dvs) H1 Q E
def Binds (K:zA)(fd:FuncData)(ps:List Str)(ds:List Value):Prop :=
 ∀ (s:Shared) (us:List Value),K.In s.heap -> (us ++ ds).length=ps.length -> BindsTo s fd ⟨us,[]⟩ (ps.zip (us ++ ds))
theorem Binds.all {K:zA}{fd:FuncData}{ps:List Str}(h:∀ us:List Value,us.length=ps.length -> bindArgs fd ⟨us,[]⟩=pure (ps.zip us)):Binds K fd ps []:=fun s us _ hl=>by
 rw [yQ] at hl ⊢
 exact .of_eq (h us hl)
def Passes (CX:CXT)(X:Cx)(E:XK):Prop:=∀ (pins:List (Addr × Obj)) (σ:St) (H:Hp) (s:Shared) (e:Value) (s':Shared),Inv X pins σ H s -> CX X.stack H s E e s' -> X.xe e s'
section
variable {X:Cx}{CX:CXT}{k:Nat}{f C:Addr}{fd:FuncData}{ps:List Str}{sp:Sp}{dvs:List V}{ds:List Value}{E:XK}{x m:Str}{p pos apos:Pos}{e o:Expr}{es:List Expr}{ta:TE}{t:TA}
theorem run_fn {pins:List (Addr × Obj)}{σ:St}{H:Hp}{s:Shared}{Q:VK}{us:List Value}{vs:List V}(F:FnOk X.prog X.w X.K X.mg X.base CX k f fd ps sp)(hr:Room k X.A)(hb:Binds X.K fd ps ds)(hd:Vals dvs ds)(hx:Passes CX X E)
  (I:Inv X pins σ H s) (r:Vals vs us) (h:sp (vs ++ dvs) H Q E):wpAny (model X.prog X.w) X.A (call (.ref f) us) (EP X pins σ Q) X.xe s:=by
 have r2:Vals (vs ++ dvs) (us ++ ds):=r.append hd
 have hl:(us ++ ds).length=ps.length:=by rw [← r2.length]; exact F.len _ _ _ _ h
 refine wpAny_call (codeAny_mono (F.run X.A X.stack s H ⟨us,[]⟩ (us ++ ds) (vs ++ dvs) Q E hr I.env0 (hb s us I.kIn hl) r2 h) fun r s' hq=>?_)
 cases r with
 | error e=>exact hx pins σ H s e s' I hq
 | ok fl =>
  cases fl with
  | ret u=>exact I.after hq
  | next=>exact False.elim hq
  | brk=>exact False.elim hq
  | cont=>exact False.elim hq
theorem pe_call (F:FnOk X.prog X.w X.K X.mg X.base CX k f fd ps sp)(hr:Room k X.A)(hg:Gl X x)(hm:X.mg x=some (.ref f))(hk:zF X.K (.ref f)=true)(hb:Binds X.K fd ps ds)(hd:Vals dvs ds)(hx:Passes CX X E)
  (ha:PA X (e :: es) t) (hdb:(x == ("__debug__" : Str))=false:=by decide) (he:starEach (e :: es) X.env=(false,eval e X.env) :: starEach es X.env:=by rfl) (hpl:(backTo pos (starEach es X.env)).any (·.1)=false:=by rfl) :
  PE X (.Call (.Name x p) (e :: es) [] pos) (tCall sp dvs E t):=by
 intro pins s σ H Q I h
 refine wpAny_Call_Name_kw (Ju I hg hm ?_ hdb)
 refine PySem.W.callWith_K (h₀:=X.base) I.ok.mod.kin hk (thn (ha pos pins s σ H _ I h) fun us s1 ⟨vs,H1,I1,r,q⟩=>⟨I1.kIn,?_⟩) he hpl
 exact run_fn F hr hb hd hx I1 r q
end
section
variable {X:Cx}{CX:CXT}{k:Nat}{f C:Addr}{fd:FuncData}{ps ks:List Str}{sp:Sp}{E:XK}{x m:Str}{p pos apos kpos:Pos}{e o:Expr}{es:List Expr}{kws:List Keyword}{te ta:TE}{t tk:TA}{nm:Option Str}
variable {g:List Value -> List Value -> List Value}{gV:List V -> List V -> List V}
end
structure FnScope (N P:List Str) (sc:Scope):Prop where
 kind:sc.kind = .function
 co:sc.isCoroutine=false
 gen:sc.isGenerator=false
 nd:N.Nodup
 pre:N.take P.length=P
 par:∀ x ∈ P,sc.names.lookup x=some .local \/ sc.names.lookup x=some .cell
 nofree:∀ y ∈ sc.names,y.2 ≠ .free
theorem bindL_out {kindOf:Str -> Option NameKind}{x:Str}:∀ {binds:List (Str × Value)} {m:Str -> Option Value},(∀ v,(x,v) ∉ binds) -> bindL kindOf binds m x=m x
 | [],_,_=>rfl
 | (n,v) :: r,m,h=>by
  unfold bindL
  rw [bindL_out fun w hw=>h w (zO _ hw)]
  split
  ·have:x ≠ n:=by rintro rfl; exact h v zK
   simp [this]
  ·rfl
theorem bindC_out {kindOf:Str -> Option NameKind}{x:Str}:∀ {binds:List (Str × Value)} {m:Str -> Option Value},(∀ v,(x,v) ∉ binds) -> bindC kindOf binds m x=m x
 | [],_,_=>rfl
 | (n,v) :: r,m,h=>by
  unfold bindC
  rw [bindC_out fun w hw=>h w (zO _ hw)]
  split
  ·rfl
  ·have:x ≠ n:=by rintro rfl; exact h v zK
   simp [this]
theorem bindL_get {kindOf:Str -> Option NameKind}{x:Str}{v:Value}:∀ {P:List Str} {vs:List Value} {i:Nat} {m:Str -> Option Value},P.Nodup -> P[i]? = some x -> vs[i]? = some v -> kindOf x=some .local ->
  bindL kindOf (P.zip vs) m x=some v
 | [],_,_,_,_,h,_,_=>by simp at h
 | _ :: _,[],_,_,_,_,h,_=>by simp at h
 | p :: P,w :: vs,0,m,nd,h1,h2,hk=>by
  simp at h1 h2; subst h1; subst h2
  show bindL kindOf ((p,w) :: P.zip vs) m p=_
  unfold bindL
  rw [bindL_out fun v hv=>(List.nodup_cons.mp nd).1 (List.of_mem_zip hv).1,if_pos hk]
  simp
 | p :: P,w :: vs,i+1,m,nd,h1,h2,hk=>by
  show bindL kindOf ((p,w) :: P.zip vs) m x=_
  unfold bindL
  exact bindL_get (i:=i) (List.nodup_cons.mp nd).2 (by simpa using h1) (by simpa using h2) hk
theorem bindC_get {kindOf:Str -> Option NameKind}{x:Str}{v:Value}:∀ {P:List Str} {vs:List Value} {i:Nat} {m:Str -> Option Value},P.Nodup -> P[i]? = some x -> vs[i]? = some v -> kindOf x ≠ some .local ->
  bindC kindOf (P.zip vs) m x=some v
 | [],_,_,_,_,h,_,_=>by simp at h
 | _ :: _,[],_,_,_,_,h,_=>by simp at h
 | p :: P,w :: vs,0,m,nd,h1,h2,hk=>by
  simp at h1 h2; subst h1; subst h2
  show bindC kindOf ((p,w) :: P.zip vs) m p=_
  unfold bindC
  rw [bindC_out fun v hv=>(List.nodup_cons.mp nd).1 (List.of_mem_zip hv).1,if_neg hk]
  simp
 | p :: P,w :: vs,i+1,m,nd,h1,h2,hk=>by
  show bindC kindOf ((p,w) :: P.zip vs) m x=_
  unfold bindC
  exact bindC_get (i:=i) (List.nodup_cons.mp nd).2 (by simpa using h1) (by simpa using h2) hk
def zp (N:List Str)(vs:List V):St:=vs.map some ++ qQ (N.length - vs.length) none
def cxOf (CX:CXT)(P:Program)(w:World)(K:zA)(mg:Str -> Option Value)(base:Heap)(N:List Str)(qual:Str)(scope:Scope)(f:Addr)(cd:Value)(A:Around)(outer:List Env)(s:Shared)(H:Hp)(E:XK):Cx where
 prog:=P
 w:=w
 K:=K
 mg:=mg
 base:=base
 A:=A.deeper (envOfC qual scope s.heap.objs.size f cd)
 N:=N
 s₀:=s
 H₀:=H
 env:=envOfC qual scope s.heap.objs.size f cd
 outer:=outer
 stack:=envOfC qual scope s.heap.objs.size f cd :: outer
 ex:=[]
 calm:=true
 fn:=fun _=>true
 pn:=[]
 xe:=fun e s'=>wpAny (model P w) (A.deeper (envOfC qual scope s.heap.objs.size f cd)) (leaving (envOfC qual scope s.heap.objs.size f cd) e) (fun _ s''=>CX outer H s E e s'') (fun e' s''=>CX outer H s E e' s'') s'
theorem cell_has {sc:Scope}{n:Nat}{x:Str}(h:sc.names.lookup x=some .cell):∃ c,(cellsFrom n sc.names []).lookup x=some c:=by
 have q:=PySem.W.cellsFrom_some sc.names n [] (.inl h)
 exact Option.isSome_iff_exists.mp q
theorem inv_start {CX:CXT}{P:Program}{w:World}{K:zA}{mg:Str -> Option Value}{base:Heap}{N ps:List Str}{qual:Str}{scope:Scope}{f:Addr}{cd:Value}{A:Around}{outer:List Env}{s s1:Shared}{H:Hp}{E:XK}{us:List Value}{vs:List V}
  (S:FnScope N ps scope) (hd:A.handled=none) (e0:Env0 P w K mg base A outer s H) (hl:vs.length=ps.length) (r:Vals vs us)
  (x:InCallC s s.heap.objs.size (bindL (envOfC qual scope s.heap.objs.size f cd).kindOf (ps.zip us) fun _=>none) (cellsFrom (s.heap.objs.size+1) scope.names []) (bindC (envOfC qual scope s.heap.objs.size f cd).kindOf (ps.zip us) fun _=>none) s1) :
  Inv (cxOf CX P w K mg base N qual scope f cd A outer s H E) [] (zp N vs) H s1:=by
 have hpl:ps.length <= N.length:=by have:=congrArg List.length S.pre; rw [qO] at this; omega
 obtain ⟨h1,tk,rfl,hk⟩:=x.done
 have noA:∀ b:Addr,b ∉ (cxOf CX P w K mg base N qual scope f cd A outer s H E).ex:=fun b z=>absurd (show b ∈ ([]:List Addr) from z) (by simp)
 refine ⟨⟨e0.mod,S.kind,rfl,rfl,zG _,fun y z c h1 h2=>?_,fun y hy=>?_,fun y c _ h=>?_,fun _=>hd,Around.frames_deeper e0.frames,.inr ⟨rfl,rfl⟩,fun b z=>absurd z (noA b),e0.bs,e0.bsz,fun b _ _=>noA b,fun b z=>absurd z (noA b),e0.funs,e0.frf⟩,
  rfl,e0.bare,Un.kept hk,⟨_,x.toInCall.ns,fun i y v h1 h2 h3=>?_⟩,fun y c h=>⟨_,x.cell y c h⟩,e0.hok.fresh (zG _),fun y c h=>?_,fun p hp=>absurd (show p ∈ ([]:List (Addr × Obj)) from hp) (by simp),e0.hok.kept hk,?_⟩
 ·exact name_of_addr x.apart (PySem.mem_of_lookup h1) (PySem.mem_of_lookup h2)
 ·have hy:scope.names.lookup y=some .cell \/ scope.names.lookup y=some .free:=hy
  rcases hy with hy | hy
  ·exact cell_has hy
  ·exact absurd rfl (S.nofree _ (PySem.mem_of_lookup hy))
 ·exact xH (x.above y c (PySem.mem_of_lookup h))
 ·have hi:i < vs.length:=by
   unfold zp at h2
   by_cases hi:i < vs.length
   ·exact hi
   ·rw [qG (by simpa using hi)] at h2
    rw [List.getElem?_replicate] at h2
    split at h2 <;> cases h2
  have ha:vs[i]? = some v:=by
   unfold zp at h2
   rw [qH (by simpa using hi),qI] at h2
   cases e:vs[i]? with
   | none=>rw [e] at h2; cases h2
   | some a=>rw [e] at h2; cases h2; rfl
  obtain ⟨u,hu,rv⟩:=r.get ha
  have hp:ps[i]? = some y:=by
   rw [← S.pre,List.getElem?_take_of_lt (by omega)]; exact h1
  have ndP:ps.Nodup:=by rw [← S.pre]; exact S.nd.sublist (List.take_sublist _ _)
  refine ⟨u,rv,?_⟩
  rcases S.par y (qE hp) with k | k
  ·exact .inl ⟨k,bindL_get ndP hp hu k⟩
  ·obtain ⟨c,e⟩:=cell_has (n:=s.heap.objs.size+1) k
   refine .inr ⟨.inl k,c,e,?_⟩
   have q:=x.cell y c e
   rw [bindC_get ndP hp hu (by show scope.names.lookup y ≠ _; rw [k]; decide)] at q
   exact q
 ·exact e0.hok.fresh (xH (x.above y c (PySem.mem_of_lookup h)))
 ·unfold zp
  show _=N.length
  rw [qF,qC,qL]
  omega
theorem fn_of {CX:CXT}{P:Program}{w:World}{K:zA}{mg:Str -> Option Value}{base:Heap}{k:Nat}{f:Addr}{name qual:Str}{params:Arguments}{body:List Stmt}{scope:Scope}{dV kV doc pm cdv ct oc:Value}{an od:Option Addr}
  {osl:Array (Option Value)} {N ps:List Str} {sp:Sp} (lk:K.lookup f=some ⟨oc,od,.func (zM name qual params body scope dV kV doc pm an cdv ct),osl⟩) (hcd:zJ K cdv qual=true) (S:FnScope N ps scope)
  (len:∀ vs H Q E,sp vs H Q E -> vs.length=ps.length)
  (hbody:∀ (A:Around) (outer:List Env) (s:Shared) (H:Hp) (vs:List V) (Q:VK) (E:XK),Room k (A.deeper (envOfC qual scope s.heap.objs.size f cdv)) -> sp vs H Q E ->
   ∃ t,PSs (cxOf CX P w K mg base N qual scope f cdv A outer s H E) body t /\ t { nx:=fun _ H'=>Q .non H',rt:=Q } (zp N vs) H) :
  FnOk P w K mg base CX (k+1) f (zM name qual params body scope dV kV doc pm an cdv ct) ps sp:=by
 refine ⟨len,fun A outer s H args us vs Q E hr e0 hb r hsp=>?_⟩
 have hl:=len _ _ _ _ hsp
 have KX:K.In s.heap:=e0.mod.kin.keeps fun b o e=>(e0.bs b o e).1
 have lim:s.heap.NoLimit:=e0.mod.nolimit.keeps fun b o e=>(e0.bs b o e).1
 have hkind:∀ y ∈ ps.zip us,scope.names.lookup y.1=some .local \/ (scope.names.lookup y.1=some .cell /\ ((cellsFrom (s.heap.objs.size+1) scope.names []).lookup y.1).isSome=true):=fun ⟨n,v⟩ hy=>by
  rcases S.par n (List.of_mem_zip hy).1 with q | q
  ·exact .inl q
  ·exact .inr ⟨q,PySem.W.cellsFrom_some _ _ _ (.inl q)⟩
 refine codeAny_call_function hr.depth (KX _ _ lk) rfl S.co S.gen rfl (PySem.W.codeRec_of KX hcd) (hb _ _ _ _ ?_)
 refine wpAny_newFunctionEnv_cells S.kind hkind fun env he s1 x=>?_
 subst he
 refine ⟨lim.keeps x.toInCall.keep,codeAny_func ?_⟩
 obtain ⟨t,ht,hq⟩:=hbody A outer s H vs Q E (hr.deeper _) hsp
 have I:Inv (cxOf CX P w K mg base N qual scope f cdv A outer s H E) [] (zp N vs) H s1:=inv_start S hr.hd e0 hl r x
 refine wpAny_mono (ht [] s1 (zp N vs) H _ I hq) (fun fl s' hs=>?_) fun e s' hs=>hs
 have fin:∀ {σ':St} {H':Hp} {v:V} {u:Value},Inv (cxOf CX P w K mg base N qual scope f cdv A outer s H E) [] σ' H' s' -> RelV v u -> Q v H' -> CE outer P w H s Q u s' :=
  fun {σ' H' v u} J rv q=>⟨v,H',J.os,J.bare,J.base,J.hok,rv,q⟩
 cases fl with
 | ret u =>
  obtain ⟨v,σ',H',J,rv,q⟩:=hs
  exact fin J rv q
 | next =>
  obtain ⟨σ',H',J,q⟩:=hs
  exact fin (v:=V.non) (u:=Value.none) J rfl q
 | brk =>
  obtain ⟨_,_,_,q⟩:=hs
  exact False.elim q
 | cont =>
  obtain ⟨_,_,_,q⟩:=hs
  exact False.elim q
end L2
namespace L2
open PySem PySem.Spec PyProof.Rows
section
variable {X:Cx}{x:Str}{p pos:Pos}{e:Expr}{es:List Expr}{t:TA}{id T:String}{r:List V -> Hp -> VK -> Prop}
def tCB (r:List V -> Hp -> VK -> Prop)(t:TA):TE:=fun σ H Q=>t σ H fun vs H1=>r vs H1 Q
theorem pe_callB (hc:CallR X (.builtin id) r) (hg:Gl X x) (hm:X.mg x=none) (hv:bootBuiltins x=some (.builtin id)) (ha:PA X (e :: es) t) (hn:x ≠ "__name__":=by decide) (hdb:(x == ("__debug__" : Str))=false:=by decide)
  (he:starEach (e :: es) X.env=(false,eval e X.env) :: starEach es X.env:=by rfl) (hpl:(backTo pos (starEach es X.env)).any (·.1)=false:=by rfl):PE X (.Call (.Name x p) (e :: es) [] pos) (tCB r t):=by
 intro pins s σ H Q I h
 refine wpAny_Call_Name_kw (j0 I hg hm hv ?_ hn hdb)
 exact PyProof.Rows.callWith_builtin1 (thn (ha pos pins s σ H _ I h) fun us s1 ⟨vs,H1,I1,r1,q1⟩=>hc pins s1 σ H1 vs us Q I1 r1 q1) he hpl
theorem zr (hc:CallR X (.type T) r) (hg:Gl X x) (hm:X.mg x=none) (hv:bootBuiltins x=some (.type T)) (ha:PA X (e :: es) t) (hn:x ≠ "__name__":=by decide) (hdb:(x == ("__debug__" : Str))=false:=by decide)
  (he:starEach (e :: es) X.env=(false,eval e X.env) :: starEach es X.env:=by rfl) (hpl:(backTo pos (starEach es X.env)).any (·.1)=false:=by rfl):PE X (.Call (.Name x p) (e :: es) [] pos) (tCB r t):=by
 intro pins s σ H Q I h
 refine wpAny_Call_Name_kw (j0 I hg hm hv ?_ hn hdb)
 exact PyProof.Rows.callWith_type1 (thn (ha pos pins s σ H _ I h) fun us s1 ⟨vs,H1,I1,r1,q1⟩=>hc pins s1 σ H1 vs us Q I1 r1 q1) he hpl
end
end L2
namespace HT
open PySem PyProof.Rows
section
open PySem.SeqAt
open PySem.AutoSeq1 (wpAny_loadPart')
open PySem.MeetsSeq PySem.MeetsSeq2 PySem.MeetsSeq3
end
section
variable {prog:Program}{w:World}{A:Around}{E:Value -> Shared -> Prop}{s:Shared}
theorem cat_tup {t b:Addr}{vs ws:List Value}{Q:Value -> Shared -> Prop}(ht:IsTup s.heap t vs.toArray)(hb:IsTup s.heap b ws.toArray)(hv:vs ≠ [])
  (h1:ws=[] -> Q (.ref t) s) (h2:ws ≠ [] -> Q (.ref s.heap.objs.size) { s with heap:=s.heap.push { cls:=.type "tuple",data:=.seq (vs ++ ws).toArray } })
  (hsz:vs.length+ws.length <= sizeLine):wpAny (model prog w) A (binaryOp .Add (.ref t) (.ref b)) Q E s:=by
 obtain ⟨⟨cls,dd,data,sl⟩,ho,hc,n,hd⟩:=id ht
 obtain ⟨⟨cls2,dd2,data2,sl2⟩,ho2,hc2,n2,hd2⟩:=id hb
 simp only at hc hd hc2 hd2
 subst hc hd hc2 hd2
 have e:vs.toArray ++ ws.toArray=(vs ++ ws).toArray:=by simp
 by_cases hw:ws=[]
 ·exact concat_meets ⟨_,ho,rfl⟩ ⟨_,ho2,rfl⟩ noFill_tuple_add seq_tuple_add PySem.F.slot_tuple_add PySem.F.entry_tuple_add (PySem.F.args_tuple_add_2 _ _)
   (tuple_addW1 t b vs.toArray ws.toArray n n2 dd dd2 sl sl2 (by simpa using hv) (by simp [hw])) ⟨ho,ho2,h1 hw⟩
 ·refine concat_meets ⟨_,ho,rfl⟩ ⟨_,ho2,rfl⟩ noFill_tuple_add seq_tuple_add PySem.F.slot_tuple_add PySem.F.entry_tuple_add (PySem.F.args_tuple_add_2 _ _)
   (tuple_addW2 t b vs.toArray ws.toArray n n2 dd dd2 sl sl2 (by simpa using hv) (by simpa using hw) (by rw [qM,qM]; exact hsz)) ⟨ho,ho2,?_⟩
  rw [e]
  exact h2 hw
def sIx (n d:Nat):Option Int -> Nat
 | none=>d
 | some v=>if v < 0 then (v+(n:Int)).toNat else min v.toNat n
end
end HT
namespace L2
open PySem PySem.Spec PyProof.Rows
abbrev TO:=St -> Hp -> (Option Int -> Hp -> Prop) -> Prop
def PO (X:Cx)(e:Option Expr)(t:TO):Prop :=
 ∀ (pins:List (Addr × Obj)) (s:Shared) (σ:St) (H:Hp) (Q:Option Int -> Hp -> Prop),Inv X pins σ H s -> t σ H Q ->
  wpAny (model X.prog X.w) X.A (evalPart e X.env) (fun u s'=>∃ o H',Inv X pins σ H' s' /\ IsPart u o /\ Q o H') X.xe s
def tNoPart:TO:=fun _ H Q=>Q none H
def tPart (t:TE):TO:=fun σ H Q=>t σ H fun x H1=>∃ i,x = .int i /\ Q (some i) H1
section
variable {X:Cx}{e:Expr}{te:TE}{lo hi:Option Expr}{tl th:TO}{pos p2:Pos}
theorem y4:PO X none tNoPart:=by
 intro pins s σ H Q I h
 rw [evalPart_none]
 exact wpAny_pure ⟨none,H,I,.none,h⟩
theorem y6 (h:PE X e te):PO X (some e) (tPart te):=by
 intro pins s σ H Q I hw
 rw [evalPart_some]
 refine thn (h pins s σ H _ I hw) fun u s1 ⟨x,H1,I1,r1,q1⟩=>?_
 obtain ⟨i,rfl,q⟩:=q1
 obtain ⟨t,rfl⟩:=r1
 exact ⟨some i,H1,I1,.int i t,q⟩
def SlR (X:Cx)(r:V -> Option Int -> Option Int -> Hp -> VK -> Prop):Prop :=
 ∀ (pins:List (Addr × Obj)) (s:Shared) (σ:St) (H:Hp) (x:V) (v vl vu:Value) (lo hi:Option Int) (sl:Addr) (Q:VK),Inv X pins σ H s -> RelV x v -> s.heap.IsSliceOf sl vl vu .none -> IsPart vl lo -> IsPart vu hi -> r x lo hi H Q ->
  ∃ T id,typeLookup (.type T) "__getitem__" = pure (some (.builtin id)) /\ s.TypeIs v T /\ wpAny (model X.prog X.w) X.A (getItem v (.ref sl)) (EP X pins σ Q) X.xe s
def tSl (r:V -> Option Int -> Option Int -> Hp -> VK -> Prop)(te:TE)(tl th:TO):TE:=fun σ H Q=>te σ H fun x H1=>tl σ H1 fun l H2=>th σ H2 fun u H3=>r x l u H3 Q
theorem yc {r:V -> Option Int -> Option Int -> Hp -> VK -> Prop}(hr:SlR X r)(he:PE X e te)(hl:PO X lo tl)(hu:PO X hi th):PE X (.Subscript e (.Slice lo hi none p2) pos) (tSl r te tl th):=by
 intro pins s σ H Q I h
 refine Subscript_ (thn (he pins s σ H _ I h) fun v s1 ⟨x,H1,I1,r1,q1⟩=>?_)
 refine wpAny_Slice (thn (hl pins s1 σ H1 _ I1 q1) fun vl s2 ⟨l,H2,I2,pl,q2⟩=>thn (hu pins s2 σ H2 _ I2 q2) fun vu s3 ⟨u,H3,I3,pu,q3⟩=>?_)
 rw [evalPart_none]
 refine wpAny_pure ?_
 have I4:Inv X pins σ H3 { s3 with heap:=s3.heap.push { cls:=.type "slice",data:=.fields #[vl,vu,.none] } }:=I3.kept (t':=s3.toks) fun b ob q=>Heap.get?_push_of_some _ q
 obtain ⟨T,id,hT,ht,hg⟩:=hr pins { s3 with heap:=s3.heap.push { cls:=.type "slice",data:=.fields #[vl,vu,.none] } } σ H3 x v vl vu l u s3.heap.objs.size Q I4 r1 (Heap.IsSliceOf.new ..) pl pu q3
 show wpAny (model X.prog X.w) X.A (subscriptTail e (.Slice lo hi none p2) v (.ref s3.heap.objs.size)) (EP X pins σ Q) X.xe { s3 with heap:=s3.heap.push { cls:=.type "slice",data:=.fields #[vl,vu,.none] } }
 exact tail_any (ops:=[.ref s3.heap.objs.size,v]) ht hT hg (by with_unfolding_all rfl)
def cutV (xs:List V)(lo hi:Option Int):List V:=(xs.drop (HT.sIx xs.length 0 lo)).take (HT.sIx xs.length xs.length hi - HT.sIx xs.length 0 lo)
theorem cutV_length (xs:List V)(lo hi:Option Int):(cutV xs lo hi).length <= xs.length:=by
 unfold cutV
 rw [qO,jM]
 omega
def rCatT (K:zA):R2:=fun x y H Q=>∃ a b xs ys,x = .ref a /\ y = .ref b /\ SqT K H a xs /\ SqT K H b ys /\ xs ≠ [] /\ xs.length+ys.length <= sizeLine /\
 (ys=[] -> Q (.ref a) H) /\ (ys ≠ [] -> ∀ p,H p=none -> Q (.ref p) (upd H p (.tup (xs ++ ys))))
theorem Vals.nil_iff {xs:List V}{us:List Value}(r:Vals xs us):us=[] ↔ xs=[]:=by
 cases r with
 | nil=>simp
 | cons _ _=>simp
theorem op_catT:OpR X (binaryOp .Add) (rCatT X.K):=by
 intro pins s σ H x y v u Q I rx ry h
 obtain ⟨a,b,xs,ys,rfl,rfl,ha,hb,hx,hz,q1,q2⟩:=h
 cases rx
 cases ry
 obtain ⟨its,r1,p1,_⟩:=I.tuple ha
 obtain ⟨its2,r2,p2,_⟩:=I.tuple hb
 refine HT.cat_tup p1 p2 (fun z=>hx (r1.nil_iff.mp z)) (fun z=>⟨.ref a,H,I,rfl,q1 (r2.nil_iff.mp z)⟩) (fun z=>?_) (by rw [← r1.length,← r2.length]; exact hz)
 refine ⟨.ref s.heap.objs.size,_,I.laid (t':=s.toks) (o:=.tup (xs ++ ys)) (fun b ob q=>Heap.get?_push_of_some _ q) (zG _) ?_,rfl,q2 (fun w=>z (r2.nil_iff.mpr w)) _ (I.hok.fresh (zG _))⟩
 exact ⟨by rw [qF]; exact hz,_,r1.append r2,IsTup.new _ _⟩
end
end L2
namespace L2
open PySem PySem.Spec PyProof.Rows
def ixN (n:Nat)(i:Int):Option Nat:=if 0 <= i then (if i < n then some i.toNat else none) else if -(n:Int) <= i then some (i+n).toNat else none
def atI {α:Type}(xs:List α)(i:Int):Option α:=(ixN xs.length i).bind fun j=>xs[j]?
theorem ixN_seq {n:Nat}{i:Int}{j:Nat}(h:ixN n i=some j):seqIndex? i n=some j /\ j < n /\ -(n:Int) <= i /\ i < n:=by
 unfold ixN at h
 by_cases h0:0 <= i
 ·rw [if_pos h0] at h
  by_cases h1:i < n
  ·rw [if_pos h1] at h
   have e:i.toNat=j:=Option.some.inj h
   exact ⟨by rw [seqIndex_of h0 h1,e],by omega,by omega,h1⟩
  ·rw [if_neg h1] at h; cases h
 ·rw [if_neg h0] at h
  by_cases h1:-(n:Int) <= i
  ·rw [if_pos h1] at h
   have e:(i+n).toNat=j:=Option.some.inj h
   exact ⟨by rw [seqIndex_neg (by omega) h1,e],by omega,h1,by omega⟩
  ·rw [if_neg h1] at h; cases h
theorem atI_get {α:Type}{xs:List α}{i:Int}{v:α}(h:atI xs i=some v):∃ j,seqIndex? i xs.length=some j /\ xs[j]? = some v /\ j < xs.length /\ -(xs.length:Int) <= i /\ i < xs.length:=by
 unfold atI at h
 cases e:ixN xs.length i with
 | none=>rw [e] at h; cases h
 | some j =>
  rw [e] at h
  obtain ⟨h1,h2,h3,h4⟩:=ixN_seq e
  exact ⟨j,h1,h,h2,h3,h4⟩
theorem y7 {α:Type}{xs:List α}{j:Nat}{v:α}(h:xs[j]? = some v):atI xs (j:Int)=some v:=by
 have hj:j < xs.length:=(qB.mp h).1
 have e:ixN xs.length (j:Int)=some j:=by
  unfold ixN
  rw [if_pos (by omega),if_pos (by omega)]; simp
 unfold atI; rw [e]; exact h
def PlainIx (b:Expr):Prop:=∀ o i,subscripted b false o i=operate [o,i] (getItem o i)
def IxR (X:Cx)(r:R2):Prop :=
 ∀ (value slice:Expr) (pins:List (Addr × Obj)) (s:Shared) (σ:St) (H:Hp) (x y:V) (v u:Value) (Q:VK),Inv X pins σ H s -> RelV x v -> RelV y u -> r x y H Q ->
  subscripted slice false v u=operate [v,u] (getItem v u) -> wpAny (model X.prog X.w) X.A (subscriptTail value slice v u) (EP X pins σ Q) X.xe s
def MtR (X:Cx)(id:String)(r:V -> List V -> Hp -> VK -> Prop):Prop :=
 ∀ (pins:List (Addr × Obj)) (s:Shared) (σ:St) (H:Hp) (x:V) (xs:List V) (v:Value) (us:List Value) (Q:VK),Inv X pins σ H s -> RelV x v -> Vals xs us -> r x xs H Q ->
  wpAny (model X.prog X.w) X.A (call (.builtin id) (v :: us)) (EP X pins σ Q) X.xe s
section
variable {X:Cx}{a b:Expr}{ta tb:TE}{pos:Pos}
theorem pe_ix {r:R2}(hr:IxR X r)(ha:PE X a ta)(hb:PE X b tb)(hs:PlainIx b):PE X (.Subscript a b pos) (tOp r ta tb):=by
 intro pins s σ H Q I h
 exact Subscript_ (binT ha hb I h fun v u s2 x y H2 I2 rx ry q=>hr a b pins s2 σ H2 x y v u Q I2 rx ry q (hs _ _))
def rIxL (K:zA):R2:=fun x y H Q=>∃ p xs i v,x = .ref p /\ y = .int i /\ SqL K H p xs /\ atI xs i=some v /\ Q v H
def rIxT (K:zA):R2:=fun x y H Q=>∃ p xs i v,x = .ref p /\ y = .int i /\ SqT K H p xs /\ atI xs i=some v /\ Q v H
def rIxS:R2:=fun x y H Q=>∃ z i c,x = .str z /\ y = .int i /\ z.length <= sizeLine /\ atI z.cps.toList i=some c /\ Q (.str ⟨#[c]⟩) H
theorem ix_list:IxR X (rIxL X.K):=by
 intro value slice pins s σ H x y v u Q I rx ry h hs
 obtain ⟨p,xs,i,z,rfl,rfl,hq,he,q⟩:=h
 cases rx
 obtain ⟨t,rfl⟩:=ry
 obtain ⟨its,r,pl,hz⟩:=I.list hq
 obtain ⟨j,h1,h2,h3,h4,h5⟩:=atI_get he
 obtain ⟨w,ew,rw'⟩:=r.get h2
 have hl:=r.length
 have hn:=zAM
 have fin:EP X pins σ Q w s:=⟨z,H,I,rw',q⟩
 by_cases h0:0 <= i
 ·have hj:i.toNat=j:=by
   rw [seqIndex_of h0 h5] at h1
   exact Option.some.inj h1
  exact item_listR pl.isList h0 (by omega) (by rw [hj]; simpa using ew) fin hs
 ·have hj:(i+(its.toArray.size:Int)).toNat=j:=by
   rw [seqIndex_neg (by omega) h4] at h1
   rw [qM,← hl]
   exact Option.some.inj h1
  exact subscriptTail_builtinR (x:=w) pl.isList.typeIs slot_list_getitem.lookup
   (wpAny_getItem_list_neg (Q:=fun r s'=>r=w /\ EP X pins σ Q r s') pl.isList (by omega) (by rw [qM] <;> omega) (by omega) (by rw [hj]; simpa using ew) ⟨rfl,fin⟩) hs
theorem ix_tup:IxR X (rIxT X.K):=by
 intro value slice pins s σ H x y v u Q I rx ry h hs
 obtain ⟨p,xs,i,z,rfl,rfl,hq,he,q⟩:=h
 cases rx
 obtain ⟨t,rfl⟩:=ry
 obtain ⟨its,r,pl,hz⟩:=I.tuple hq
 obtain ⟨j,h1,h2,h3,h4,h5⟩:=atI_get he
 obtain ⟨w,ew,rw'⟩:=r.get h2
 have hl:=r.length
 have hn:=zAM
 have fin:EP X pins σ Q w s:=⟨z,H,I,rw',q⟩
 exact subscriptTail_builtinR (x:=w) pl.typeIs slot_tuple_getitem.lookup
  (getItem_tuple (j:=j) (Q:=fun r s'=>r=w /\ EP X pins σ Q r s') pl (by omega) (by omega) (by rw [qM,← hl]; exact h1) (by simpa using ew) ⟨rfl,fin⟩) hs
theorem ix_str:IxR X rIxS:=by
 intro value slice pins s σ H x y v u Q I rx ry h hs
 obtain ⟨z,i,c,rfl,rfl,hz,he,q⟩:=h
 obtain ⟨t,rfl⟩:=rx
 obtain ⟨t',rfl⟩:=ry
 obtain ⟨j,h1,h2,h3,h4,h5⟩:=atI_get he
 have hl:z.cps.toList.length=z.length:=by simp [Str.length]
 rw [hl] at h1 h4 h5
 have hn:=zAM
 exact tail_any (typeIs_str s z t) slot_str_getitem.lookup (getItem_str (c:=c) (by
  have e1:decide (i < -(2 ^ 63:Int))=false:=decide_eq_false (by omega)
  have e2:decide (i ≥ 2 ^ 63)=false:=decide_eq_false (by omega)
  rw [e1,e2,jf]) (by rw [h1]; simpa using h2) ⟨.str ⟨#[c]⟩,H,I.tok _,⟨_,rfl⟩,q⟩) hs
theorem mapSeq_set (its:List Value)(n j:Nat)(u:Value):Obj.mapSeq (·.setIfInBounds j u) { cls:=.type "list",data:=.seq its.toArray n } = { cls:=.type "list",data:=.seq (its.set j u).toArray n }:=by
 simp [Obj.mapSeq]
theorem Inv.lst {pins:List (Addr × Obj)}{σ:St}{H:Hp}{s:Shared}{p:Addr}{xs:List V}(I:Inv X pins σ H s)(h:H p=some (.lst xs)) :
  ∃ (its:List Value) (n:Nat),Vals xs its /\ s.heap.get? p=some { cls:=.type "list",data:=.seq its.toArray n } /\ xs.length <= sizeLine:=by
 obtain ⟨z,its,n,r,e⟩:=I.hok p _ h
 exact ⟨its,n,r,e,z⟩
theorem Inv.lstUpd {pins:List (Addr × Obj)}{σ:St}{H:Hp}{s:Shared}{p:Addr}{xs ys:List V}{its its':List Value}{n n':Nat}{f:Obj -> Obj}(I:Inv X pins σ H s)(h:H p=some (.lst xs))
  (ho:s.heap.get? p=some { cls:=.type "list",data:=.seq its.toArray n }) (hf:f { cls:=.type "list",data:=.seq its.toArray n } = { cls:=.type "list",data:=.seq its'.toArray n' }) (r:Vals ys its') (hz:ys.length <= sizeLine) (t:Nat) :
  Inv X pins σ (upd H p (.lst ys)) { s with heap:=s.heap.update p f,toks:=t }:=by
 have e:(s.heap.update p f).get? p=some { cls:=.type "list",data:=.seq its'.toArray n' }:=by
  rw [Heap.get?_update_self f ho (by rw [hf] <;> rfl),hf]
 refine I.write (x:=p) (e:=p) (by rw [h]; trivial) (.inl rfl) (fun b u hb q=>(Heap.get?_update_other _ _ (Ne.symm hb)).trans q) ⟨_,e⟩ ?_
 exact ⟨hz,its',n',r,e⟩
def rSetL:V -> V -> V -> Hp -> (Hp -> Prop) -> Prop:=fun o i v H Q=>∃ p xs k j,o = .ref p /\ i = .int k /\ H p=some (.lst xs) /\ ixN xs.length k=some j /\ Q (upd H p (.lst (xs.set j v)))
theorem set_list:PSet X rSetL:=by
 intro pins s σ H o i v ov iv u Q I ro ri rv h
 obtain ⟨p,xs,k,j,rfl,rfl,hp,hj,q⟩:=h
 cases ro
 obtain ⟨t,rfl⟩:=ri
 obtain ⟨its,n,r,ho,hz⟩:=I.lst hp
 obtain ⟨h1,h2,h3,h4⟩:=ixN_seq hj
 have hl:=r.length
 have hn:=zAM
 have I':Inv X pins σ (upd H p (.lst (xs.set j v))) { s with heap:=s.heap.update p (Obj.mapSeq (·.setIfInBounds j u)) } :=
  I.lstUpd hp ho (mapSeq_set its n j u) (r.set rv j) (by rw [List.length_set]; exact hz) s.toks
 by_cases h0:0 <= k
 ·have hk:k.toNat=j:=by
   rw [seqIndex_of h0 h4] at h1
   exact Option.some.inj h1
  exact PySem.W.ki_setAt ho h0 (by omega) (by rw [qM,← hl]; exact h4) (by rw [hk]; exact ⟨_,I',q⟩)
 ·have hk:(k+(its.toArray.size:Int)).toNat=j:=by
   rw [seqIndex_neg (by omega) h3] at h1
   rw [qM,← hl]
   exact Option.some.inj h1
  exact PySem.W.ki_setBack ho (by omega) (by rw [qM,← hl]; exact h3) (by omega) (by rw [hk]; exact ⟨_,I',q⟩)
theorem slice_bounds (lo hi:Option Int)(n:Nat):(sliceBounds lo hi none n).1=((HT.sIx n 0 lo:Nat):Int) /\ (sliceBounds lo hi none n).2.1=((HT.sIx n n hi:Nat):Int) /\ (sliceBounds lo hi none n).2.2=1:=by
 refine ⟨?_,?_,rfl⟩
 ·cases lo with
  | none=>simp [sliceBounds,HT.sIx]
  | some i =>
   simp only [sliceBounds,HT.sIx,Option.getD_none,show (1:Int) > 0 by decide,if_true]
   by_cases h:i < 0
   ·simp only [h,if_true] <;> omega
   ·simp only [h,if_false] <;> omega
 ·cases hi with
  | none=>simp [sliceBounds,HT.sIx]
  | some i =>
   simp only [sliceBounds,HT.sIx,Option.getD_none,show (1:Int) > 0 by decide,if_true]
   by_cases h:i < 0
   ·simp only [h,if_true] <;> omega
   ·simp only [h,if_false] <;> omega
theorem slicePick_cut (its:List Value)(lo hi:Option Int):slicePick its.toArray lo hi none=((its.drop (HT.sIx its.length 0 lo)).take (HT.sIx its.length its.length hi - HT.sIx its.length 0 lo)).toArray:=by
 obtain ⟨h1,h2,h3⟩:=slice_bounds lo hi its.toArray.size
 unfold slicePick
 rw [h1,h2,h3]
 simp only [sliceRange_one,pick_run,qM] <;> rfl
def rSlL (K:zA):V -> Option Int -> Option Int -> Hp -> VK -> Prop:=fun x lo hi H Q=>∃ a xs,x = .ref a /\ SqL K H a xs /\ ∀ p,H p=none -> Q (.ref p) (upd H p (.lst (cutV xs lo hi)))
theorem sl_list:SlR X (rSlL X.K):=by
 intro pins s σ H x v vl vu lo hi sl Q I rx hs pl pu h
 obtain ⟨a,xs,rfl,hx,q⟩:=h
 cases rx
 obtain ⟨its,r,ht,hz⟩:=I.list hx
 have hlen:=r.length
 refine ⟨"list",_,slot_list_getitem.lookup,ht.isList.typeIs,?_⟩
 refine wpAny_getItem_list_slice ht.isList hs pl pu .none (by simp) ?_ (by rw [qM] <;> omega)
 rw [slicePick_cut,← hlen]
 refine ⟨.ref s.heap.objs.size,_,I.laid (t':=s.toks) (o:=.lst (cutV xs lo hi)) (fun b ob q=>Heap.get?_push_of_some _ q) (zG _) ?_,rfl,q _ (I.hok.fresh (zG _))⟩
 exact ⟨zD (cutV_length xs lo hi) hz,_,0,(r.drop (HT.sIx xs.length 0 lo)).take (HT.sIx xs.length xs.length hi - HT.sIx xs.length 0 lo),Heap.get?_push_size _ rfl⟩
def yw:V -> Bool
 | .non=>true
 | .bl _=>true
 | .int _=>true
 | .str _=>true
 | _=>false
def eqV:V -> V -> Bool
 | .non,.non=>true
 | .bl a,.bl b=>a == b
 | .bl a,.int b=>(if a then 1 else 0) == b
 | .int a,.bl b=>a == (if b then 1 else 0)
 | .int a,.int b=>a == b
 | .str a,.str b=>a == b
 | _,_=>false
theorem eqAt_V {A:Around}{s:Shared}{y x:V}{u v:Value}(ry:RelV y u)(rx:RelV x v)(fy:yw y=true)(fx:yw x=true):SeqAt.EqAt A s u v (eqV y x):=by
 cases y with
 | non =>
  cases ry
  cases x with
  | non=>cases rx; exact SeqAt.EqAt.same _
  | bl b=>cases rx; exact SeqAt.EqAt.none_bool b
  | int b=>obtain ⟨t,rfl⟩:=rx; exact SeqAt.EqAt.none_int b t
  | str b=>obtain ⟨t,rfl⟩:=rx; exact SeqAt.EqAt.none_str b t
  | _=>exact absurd (show false=true from fx) zQ
 | bl a =>
  cases ry
  cases x with
  | non=>cases rx; exact SeqAt.EqAt.bool_none a
  | bl b=>cases rx; exact SeqAt.EqAt.bool_bool a b
  | int b=>obtain ⟨t,rfl⟩:=rx; exact SeqAt.EqAt.bool_int a b t
  | str b=>obtain ⟨t,rfl⟩:=rx; exact SeqAt.EqAt.bool_str a b t
  | _=>exact absurd (show false=true from fx) zQ
 | int a =>
  obtain ⟨t',rfl⟩:=ry
  cases x with
  | non=>cases rx; exact SeqAt.EqAt.int_none a t'
  | bl b=>cases rx; exact SeqAt.EqAt.int_bool a t' b
  | int b=>obtain ⟨t,rfl⟩:=rx; exact SeqAt.EqAt.int_int a t' b t
  | str b=>obtain ⟨t,rfl⟩:=rx; exact SeqAt.EqAt.int_str a t' b t
  | _=>exact absurd (show false=true from fx) zQ
 | str a =>
  obtain ⟨t',rfl⟩:=ry
  cases x with
  | non=>cases rx; exact SeqAt.EqAt.str_none a t'
  | bl b=>cases rx; exact SeqAt.EqAt.str_bool a t' b
  | int b=>obtain ⟨t,rfl⟩:=rx; exact SeqAt.EqAt.str_int a t' b t
  | str b=>obtain ⟨t,rfl⟩:=rx; exact SeqAt.EqAt.str_str a t' b t
  | _=>exact absurd (show false=true from fx) zQ
 | _=>exact absurd (show false=true from fy) zQ
def eqU (x:V)(u:Value):Bool:=match u with
 | .none=>eqV .non x
 | .bool b=>eqV (.bl b) x
 | .int i _=>eqV (.int i) x
 | .str z _=>eqV (.str z) x
 | _=>false
theorem eqU_of {x y:V}{u:Value}(r:RelV y u)(f:yw y=true):eqU x u=eqV y x:=by
 cases y with
 | non=>cases r; rfl
 | bl b=>cases r; rfl
 | int i=>obtain ⟨t,rfl⟩:=r; rfl
 | str z=>obtain ⟨t,rfl⟩:=r; rfl
 | _=>exact absurd (show false=true from f) zQ
theorem Jv {x:V}:∀ {xs:List V} {us:List Value},Vals xs us -> xs.all yw=true -> us.any (eqU x)=xs.any fun y=>eqV y x
 | _,_,.nil,_=>rfl
 | y :: xs,u :: us,.cons r t,f=>by
  rw [je,zB] at f
  rw [yW,yW,eqU_of r f.1,Jv t f.2]
theorem JF {A:Around}{s:Shared}{x:V}{v:Value}(rx:RelV x v)(fx:yw x=true):∀ {xs:List V} {us:List Value},Vals xs us -> xs.all yw=true -> ∀ u ∈ us,SeqAt.EqAt A s u v (eqU x u)
 | _,_,.nil,_=>fun u hu=>by cases hu
 | y :: xs,u :: us,.cons r t,f=>fun u' hu=>by
  rw [je,zB] at f
  rcases zI.mp hu with rfl | hu
  ·rw [eqU_of r f.1]; exact eqAt_V r rx f.1 fx
  ·exact JF rx fx t f.2 u' hu
def inV (x:V)(xs:List V):Bool:=xs.any fun y=>eqV y x
def rIn (K:zA)(neg:Bool):R2:=fun x y H Q=>∃ p xs,y = .ref p /\ (SqL K H p xs \/ SqT K H p xs) /\ yw x=true /\ xs.all yw=true /\ Q (.bl (if neg then !inV x xs else inV x xs)) H
theorem zAN:OpR X (compareOp .In) (rIn X.K false):=by
 intro pins s σ H x y v u Q I rx ry h
 obtain ⟨p,xs,rfl,hq,fx,fs,q⟩:=h
 cases ry
 rcases hq with hq | hq
 ·obtain ⟨its,r,pl,hz⟩:=I.list hq
  refine SeqAt.in_listAt (eqU x) pl.isList (fun w hw=>JF rx fx r fs w (by simpa using hw)) ⟨.bl _,H,I,rfl,?_⟩
  rw [show its.toArray.any (eqU x)=its.any (eqU x) by simp,Jv r fs]
  exact q
 ·obtain ⟨its,r,pl,hz⟩:=I.tuple hq
  refine SeqAt.in_tupleAt (eqU x) pl (fun w hw=>JF rx fx r fs w (by simpa using hw)) ⟨.bl _,H,I,rfl,?_⟩
  rw [show its.toArray.any (eqU x)=its.any (eqU x) by simp,Jv r fs]
  exact q
theorem op_notIn_seq:OpR X (compareOp .NotIn) (rIn X.K true):=by
 intro pins s σ H x y v u Q I rx ry h
 obtain ⟨p,xs,rfl,hq,fx,fs,q⟩:=h
 cases ry
 rcases hq with hq | hq
 ·obtain ⟨its,r,pl,hz⟩:=I.list hq
  refine SeqAt.notIn_listAt (eqU x) pl.isList (fun w hw=>JF rx fx r fs w (by simpa using hw)) ⟨.bl _,H,I,rfl,?_⟩
  rw [show its.toArray.any (eqU x)=its.any (eqU x) by simp,Jv r fs]
  exact q
 ·obtain ⟨its,r,pl,hz⟩:=I.tuple hq
  refine SeqAt.notIn_tupleAt (eqU x) pl (fun w hw=>JF rx fx r fs w (by simpa using hw)) ⟨.bl _,H,I,rfl,?_⟩
  rw [show its.toArray.any (eqU x)=its.any (eqU x) by simp,Jv r fs]
  exact q
theorem call_len_seq:CallR X (.builtin "len") (fun xs H Q=>∃ p ys,xs=[.ref p] /\ (SqL X.K H p ys \/ SqT X.K H p ys) /\ Q (.int ys.length) H):=by
 intro pins s σ H xs us Q I r h
 obtain ⟨p,ys,rfl,hq,q⟩:=h
 obtain ⟨u,rfl,rx⟩:=vals1 r
 cases rx
 have hn:=zAM
 rcases hq with hq | hq
 ·obtain ⟨its,r',pl,hz⟩:=I.list hq
  have hlen:=r'.length
  exact Calls.call_len_list pl.isList (by simp only [qM] <;> omega) ⟨.int ys.length,H,I.tok _,⟨s.toks+1,by rw [qM,hlen]⟩,q⟩
 ·obtain ⟨its,r',pl,hz⟩:=I.tuple hq
  have hlen:=r'.length
  exact len_tuple pl (by simp only [qM] <;> omega) ⟨.int ys.length,H,I.tok _,⟨s.toks+1,by rw [qM,hlen]⟩,q⟩
theorem jD:CallR X (.builtin "len") (fun xs H Q=>∃ z,xs=[.str z] /\ z.length <= sizeLine /\ Q (.int z.length) H):=by
 intro pins s σ H xs us Q I r h
 obtain ⟨z,rfl,hz,q⟩:=h
 obtain ⟨u,rfl,t,rfl⟩:=vals1 r
 have hn:=zAM
 exact len_str (by omega) ⟨.int z.length,H,I.tok _,⟨_,rfl⟩,q⟩
theorem Ji:CallR X (.type "tuple") (fun xs H Q=>∃ p ys,xs=[.ref p] /\ ((SqL X.K H p ys /\ ∀ l,H l=none -> Q (.ref l) (upd H l (.tup ys))) \/ (SqT X.K H p ys /\ Q (.ref p) H))):=by
 intro pins s σ H xs us Q I r h
 obtain ⟨p,ys,rfl,h⟩:=h
 obtain ⟨u,rfl,rx⟩:=vals1 r
 cases rx
 rcases h with ⟨hq,q⟩ | ⟨hq,q⟩
 ·obtain ⟨its,r',pl,hz⟩:=I.list hq
  have hlen:=r'.length
  refine call_tuple_list pl.isList (fun h' kp=>?_) (by simp only [qM] <;> omega)
  have I1:Inv X pins σ H { s with heap:=h' }:=I.kept (t':=s.toks) kp
  have I2:Inv X pins σ (upd H h'.objs.size (.tup ys)) { s with heap:=h'.push { cls:=.type "tuple",data:=.seq its.toArray } } :=
   I1.laid (t':=s.toks) (fun b o e=>Heap.get?_push_of_some _ e) (zG _) (show ObjOk X.prog X.w _ _ _ (.tup ys) from ⟨hz,its,r',IsTup.new _ _⟩)
  exact ⟨.ref h'.objs.size,_,I2,rfl,q _ (I1.hok.fresh (zG _))⟩
 ·obtain ⟨its,r',pl,hz⟩:=I.tuple hq
  exact call_tuple_same pl ⟨.ref p,H,I,rfl,q⟩
def tyV (K:zA)(T:String)(x:V)(H:Hp):Prop:=match x with
 | .str _=>T = "str"
 | .int _=>T = "int"
 | .ref p=>(T = "list" /\ ∃ xs,SqL K H p xs) \/ (T = "tuple" /\ ∃ o,K.lookup p=some o /\ o.cls = .type "tuple" /\ o.dict=none) \/
   (T = "dict" /\ ((∃ kvs,H p=some (.dK kvs)) \/ ∃ kvs,H p=some (.dT kvs))) \/ (T = "set" /\ ∃ S n,H p=some (.set S n))
 | _=>False
theorem tyV_is {pins:List (Addr × Obj)}{σ:St}{H:Hp}{s:Shared}{T:String}{x:V}{v:Value}(I:Inv X pins σ H s)(r:RelV x v)(ty:tyV X.K T x H) :
  s.TypeIs v T /\ ∀ a,v = .ref a -> ∃ ob,s.heap.get? a=some ob /\ ob.dict=none:=by
 cases x with
 | str z =>
  obtain ⟨t,rfl⟩:=r
  cases (show T = "str" from ty)
  exact ⟨typeIs_str s z t,fun _ e=>nomatch e⟩
 | int i =>
  obtain ⟨t,rfl⟩:=r
  cases (show T = "int" from ty)
  exact ⟨typeIs_int s i t,fun _ e=>nomatch e⟩
 | ref p =>
  cases r
  rcases ty with ⟨rfl,xs,hq⟩ | ⟨rfl,o,hk,hc,hd⟩ | ⟨rfl,hk⟩ | ⟨rfl,S,n,hk⟩
  ·obtain ⟨its,_,pl,_⟩:=I.list hq
   refine ⟨pl.isList.typeIs,fun a e=>?_⟩
   cases e
   obtain ⟨o,n,e,c,hd,_⟩:=pl
   exact ⟨o,e,hd⟩
  ·refine ⟨⟨o,I.kIn p o hk,hc⟩,fun a e=>?_⟩
   cases e
   exact ⟨o,I.kIn _ o hk,hd⟩
  ·have z:∃ o,s.heap.get? p=some o /\ o.ExactDict:=by
    rcases hk with ⟨kvs,hk⟩ | ⟨kvs,hk⟩
    ·obtain ⟨_,_,_,_,o,_,_,e,ex,_⟩:=I.hok p _ hk
     exact ⟨o,e,ex⟩
    ·obtain ⟨_,_,_,_,o,_,_,e,ex,_⟩:=I.hok p _ hk
     exact ⟨o,e,ex⟩
   obtain ⟨o,e,ex⟩:=z
   refine ⟨⟨o,e,ex.1⟩,fun a e2=>?_⟩
   cases e2
   exact ⟨o,e,ex.2.1⟩
  ·obtain ⟨o,_,_,_,e,ex,_⟩:=I.hok p _ hk
   refine ⟨⟨o,e,ex.1⟩,fun a e2=>?_⟩
   cases e2
   exact ⟨o,e,ex.2.1⟩
 | _=>exact False.elim ty
def tBM0 (K:zA)(T:String)(r:V -> List V -> Hp -> VK -> Prop)(to:TE):TE:=fun σ H Q=>to σ H fun x H1=>tyV K T x H1 /\ r x [] H1 Q
def tBM (K:zA)(T:String)(r:V -> List V -> Hp -> VK -> Prop)(to:TE)(t:TA):TE:=fun σ H Q=>to σ H fun x H1=>tyV K T x H1 /\ t σ H1 fun xs H2=>r x xs H2 Q
variable {o e:Expr}{es:List Expr}{to:TE}{t:TA}{name:Str}{apos cpos:Pos}{T id:String}{r:V -> List V -> Hp -> VK -> Prop}
theorem pe_bm (pa:PlainAttrs T) (slot:Slot T name id) (hty:typeOf (.builtin id)=pure (.type "method_descriptor")) (hm:MtR X id r) (ho:PE X o to) (ha:PA X (e :: es) t)
  (hbase:attributeBase o name X.env (eval o X.env)=eval o X.env:=by rfl)
  (hfew:((backTo cpos (starEach (e :: es) X.env)).all (fun x=>!x.1) && (backToKw cpos (keywordEach [] X.env)).all (fun x=>x.1.isSome)
   && decide ((e :: es).length+([]:List Keyword).length+(if ([]:List Keyword).isEmpty then 0 else 1) < 30))=true:=by rfl)
  (hline:(apos.endLine == cpos.line)=true:=by rfl) (hs:starEach (e :: es) X.env=(false,eval e X.env) :: starEach es X.env:=by rfl) (hplain:(backTo cpos (starEach es X.env)).any (·.1)=false:=by rfl) :
  PE X (.Call (.Attribute o name apos) (e :: es) [] cpos) (tBM X.K T r to t):=by
 intro pins s σ H Q I h
 refine wpAny_Call_method_late hbase hfew hline rfl (thn (ho pins s σ H _ I h) fun v s1 ⟨x,H1,I1,r1,ty,q1⟩=>?_)
 obtain ⟨h1,h2⟩:=tyV_is I1 r1 ty
 refine ⟨T,id,pa,slot,hty,h1,h2,?_⟩
 have hA:=ha cpos pins s1 σ H1 _ I1 q1
 rw [hs] at hA ⊢
 refine Calls.callWith_builtin (by show (false || (backTo cpos (starEach es X.env)).any (·.1))=false; rw [hplain] <;> rfl) (Calls.evalArgs_plain ?_)
 exact thn hA fun us s2 ⟨vs,H2,I2,r2,q2⟩=>hm pins s2 σ H2 x vs v us Q I2 r1 r2 q2
end
end L2
namespace L2
open PySem PySem.Spec PyProof.Rows
def MtM (X:Cx)(id:String)(r:V -> List V -> Hp -> VK -> Prop):Prop :=
 ∀ (pins:List (Addr × Obj)) (s:Shared) (σ:St) (H:Hp) (x:V) (xs:List V) (v:Value) (us:List Value) (Q:VK),Inv X pins σ H s -> RelV x v -> Vals xs us -> r x xs H Q ->
  wpAny (model X.prog X.w) X.A (call (.builtin id) (v :: us)) (EP X pins σ Q) X.xe s
theorem Vals.one:∀ {x:V} {us:List Value},Vals [x] us -> ∃ u,us=[u] /\ RelV x u
 | _,_,.cons r .nil=>⟨_,rfl,r⟩
theorem Vals.two:∀ {x y:V} {us:List Value},Vals [x,y] us -> ∃ u v,us=[u,v] /\ RelV x u /\ RelV y v
 | _,_,_,.cons r (.cons q .nil)=>⟨_,_,rfl,r,q⟩
section
variable {X:Cx}{pins:List (Addr × Obj)}{σ:St}{H:Hp}{s:Shared}{l b:Addr}{xs ys zs:List V}
theorem Inv.lset {its its':List Value}{n:Nat}{f:Array Value -> Array Value}{t':Nat}(I:Inv X pins σ H s)(hH:H l=some (.lst xs))
  (e:s.heap.get? l=some { cls:=.type "list",data:=.seq its.toArray n }) (hf:f its.toArray=its'.toArray) (hv:Vals ys its') (hz:ys.length <= sizeLine) :
  Inv X pins σ (upd H l (.lst ys)) { s with heap:=s.heap.update l (Obj.mapSeq f),toks:=t' }:=by
 have q:=PySem.IsL.update e f
 rw [hf] at q
 refine I.write (x:=l) (e:=l) (by rw [hH]; exact trivial) (.inl rfl) (fun b' u hb hu=>(Heap.get?_update_other s.heap (Obj.mapSeq f) (Ne.symm hb)).trans hu) ⟨_,q⟩ ?_
 exact ⟨hz,its',_,hv,q⟩
theorem Inv.lnew {its:List Value}{t':Nat}(I:Inv X pins σ H s)(hv:Vals ys its)(hz:ys.length <= sizeLine) :
  Inv X pins σ (upd H s.heap.objs.size (.lst ys)) { s with heap:=s.heap.push { cls:=.type "list",data:=.seq its.toArray },toks:=t' } :=
 I.laid (fun _ _ q=>Heap.get?_push_of_some _ q) (zG _) ⟨hz,its,0,hv,Heap.get?_push_size _ rfl⟩
theorem Inv.fresh (I:Inv X pins σ H s):H s.heap.objs.size=none:=I.hok.fresh (zG _)
theorem Inv.lstM (I:Inv X pins σ H s)(hH:H l=some (.lst xs)):xs.length <= sizeLine /\ ∃ (its:List Value) (n:Nat),Vals xs its /\ xs.length=its.length /\ s.heap.get? l=some { cls:=.type "list",data:=.seq its.toArray n }:=by
 obtain ⟨z,its,n,r,e⟩:=I.hok l _ hH
 exact ⟨z,its,n,r,r.length,e⟩
end
section
variable {X:Cx}
def rAppend:V -> List V -> Hp -> VK -> Prop:=fun x vs H Q=>∃ l xs y,x = .ref l /\ vs=[y] /\ H l=some (.lst xs) /\ xs.length < sizeLine /\ Q .non (upd H l (.lst (xs ++ [y])))
theorem mt_append:MtM X "list.append" rAppend:=by
 intro pins s σ H x vs v us Q I rx rv h
 obtain ⟨l,xs,y,rfl,rfl,hH,hz,q⟩:=h
 cases rx
 obtain ⟨u,rfl,ru⟩:=rv.one
 obtain ⟨z,its,n,r,hl,e⟩:=I.lstM hH
 refine call_meets F.slot_list_append ⟨_,e,rfl⟩ F.entry_list_append (F.args_list_append_2 _ _) (PySem.list_append l its.toArray n u (by rw [qM]; omega)) ⟨e,?_⟩
 refine ⟨.non,_,I.lset (its':=its ++ [u]) hH e (by simp) (r.append (.cons ru .nil)) ?_,rfl,q⟩
 rw [qF,yI]
 omega
def rExtend:V -> List V -> Hp -> VK -> Prop:=fun x vs H Q=>∃ l b xs zs,x = .ref l /\ vs=[.ref b] /\ H l=some (.lst xs) /\ H b=some (.lst zs) /\ xs.length+zs.length <= sizeLine /\ Q .non (upd H l (.lst (xs ++ zs)))
def rPop:V -> List V -> Hp -> VK -> Prop:=fun x vs H Q=>∃ l xs y,x = .ref l /\ vs=[] /\ H l=some (.lst xs) /\ xs[xs.length - 1]? = some y /\ Q y (upd H l (.lst xs.dropLast))
def rReverse:V -> List V -> Hp -> VK -> Prop:=fun x vs H Q=>∃ l xs,x = .ref l /\ vs=[] /\ H l=some (.lst xs) /\ Q .non (upd H l (.lst xs.reverse))
def rClear:V -> List V -> Hp -> VK -> Prop:=fun x vs H Q=>∃ l xs,x = .ref l /\ vs=[] /\ H l=some (.lst xs) /\ Q .non (upd H l (.lst []))
def rCat:R2:=fun x y H Q=>∃ l b xs zs,x = .ref l /\ y = .ref b /\ H l=some (.lst xs) /\ H b=some (.lst zs) /\ xs.length+zs.length <= sizeLine /\ ∀ p,H p=none -> Q (.ref p) (upd H p (.lst (xs ++ zs)))
end
section
variable {prog:Program}{w:World}{A:Around}{E:Value -> Shared -> Prop}{s:Shared}
end
section
variable {X:Cx}
end
end L2
namespace L2
open PySem PySem.Spec PyProof.Rows
section
variable {κ:Type}[DecidableEq κ]
def valV (kvs:List (κ × V))(k:κ):Option V:=(kvs.find? fun kv=>decide (kv.1=k)).map (·.2)
def putK (kvs:List (κ × V))(k:κ)(v:V):List (κ × V) :=
 if (kvs.any fun kv=>decide (kv.1=k))=true then kvs.map (fun kv=>if kv.1=k then (kv.1,v) else kv) else kvs ++ [(k,v)]
theorem Jw {p:κ × V}{r:List (κ × V)}{k:κ}(e:p.1=k):valV (p :: r) k=some p.2:=by simp [valV,List.find?_cons,e]
theorem Jx {p:κ × V}{r:List (κ × V)}{k:κ}(e:¬ p.1=k):valV (p :: r) k=valV r k:=by simp [valV,List.find?_cons,e]
theorem valV_any (k:κ):∀ kvs:List (κ × V),(kvs.any fun kv=>decide (kv.1=k))=(valV kvs k).isSome
 | []=>rfl
 | p :: r=>by
  rw [yW]
  by_cases e:p.1=k
  ·simp only [Jw e,decide_eq_true e,Bool.true_or,Option.isSome_some]
  ·rw [Jx e,decide_eq_false e,yX]; exact valV_any k r
end
section
variable {P:Program}{w:World}{H:Hp}{h:Heap}{a:Addr}
end
section
variable {X:Cx}{pins:List (Addr × Obj)}{σ:St}{H:Hp}{s:Shared}{a:Addr}{y v:V}{u r:Value}{o:Option V}{A:Around}{E:Value -> Shared -> Prop}
end
section
variable {X:Cx}{pins:List (Addr × Obj)}{σ:St}{H:Hp}{s:Shared}{a:Addr}{kvs:List (Key × V)}{k:Key}{u:Value}{A:Around}{E:Value -> Shared -> Prop}
end
section
variable {X:Cx}{o i e value:Expr}{pos pos' tpos:Pos}{td ty tv:TE}
end
def tDNewK:TE:=fun _ H Q=>∀ p,H p=none -> Q (.ref p) (upd H p (.dK []))
section
variable {X:Cx}{pos:Pos}
end
def zAO:List (TE × TE) -> St -> Hp -> (List (V × V) -> Hp -> Prop) -> Prop
 | [],_,H,Q=>Q [] H
 | (tk,tv) :: r,σ,H,Q=>tk σ H fun x H1=>tv σ H1 fun y H2=>zAO r σ H2 fun ps H3=>Q ((x,y) :: ps) H3
def mergeK (kvs more:List (Key × V)):List (Key × V):=more.foldl (fun acc kv=>putK acc kv.1 kv.2) kvs
def tDisp (trs:List (TE × TE)):TE:=fun σ H Q=>∀ p,H p=none -> zAO trs σ (upd H p (.dK [])) fun ps H2=>H2 p=some (.dK []) /\ ∃ kvs:List (Key × V),ps=kvs.map (fun kv=>(kV kv.1,kv.2)) /\ kvs.length <= 15 /\ Q (.ref p) (upd H2 p (.dK (mergeK [] kvs)))
structure M1 (X:Cx) (o:Expr) (m:Str) (apos:Pos) (e:Expr) (cpos:Pos):Prop where
 base:attributeBase o m X.env (eval o X.env)=eval o X.env
 few:((backTo cpos (starEach [e] X.env)).all (fun x=>!x.1) && (backToKw cpos (keywordEach [] X.env)).all (fun x=>x.1.isSome)
  && decide (([e]:List Expr).length+([]:List Keyword).length+(if ([]:List Keyword).isEmpty then 0 else 1) < 30))=true
 line:(apos.endLine == cpos.line)=true
 trees:backTo cpos (starEach [e] X.env)=[(false,eval e X.env)]
section
variable {X:Cx}{pins:List (Addr × Obj)}{σ:St}{H:Hp}{s:Shared}{a:Addr}{y d:V}{u r:Value}{o:Option V}{A:Around}{E:Value -> Shared -> Prop}
end
section
variable {X:Cx}{o e f:Expr}{apos cpos:Pos}{td ty tx:TE}
end
section
variable {X:Cx}{pins:List (Addr × Obj)}{σ:St}{H:Hp}{s:Shared}{a:Addr}{kvs:List (Key × V)}{A:Around}{E:Value -> Shared -> Prop}
end
section
variable {X:Cx}{pins:List (Addr × Obj)}{σ:St}{H:Hp}{s:Shared}{a:Addr}{y:V}{u:Value}{A:Around}{E:Value -> Shared -> Prop}
end
end L2
namespace Att
open PySem PySem.W PySem.Calls PyProof.Rows
theorem zAn {P:Params}{h:Heap}:∀ (ns:List Int) (vs:List Value),WellAll P h vs (ns.map WData.int) -> IntsAre vs ns:=by
 intro ns
 induction ns with
 | nil =>
  intro vs w
  rw [yo] at w
  cases w
  exact .nil
 | cons n ns ih =>
  intro vs w
  rw [zU] at w
  cases w with
  | cons a b =>
   cases a
   exact .cons _ _ (ih _ b)
theorem script_of {l:OpenLaw}{n:Nat}(hn:l.most=some n){P:Params}{h:Heap}{args:List WData}{vals:List Value}
  (hpre:l.row.toRowW.claim.pre args=true) (hwl:WellAll P h vals args) :
  ∃ a vs ns,vals=[Value.ref a] /\ args=[WData.list (ns.map WData.int)] /\ h.get? a=some { cls:=.type "list",data:=.seq vs.toArray } /\ IntsAre vs ns /\ ns.length <= n:=by
 have hsh:WShape.hasAll [] args [.list .int]=true:=(pre_splitW hpre).1
 have hc:l.pre.holds [] { args:=args } = true:=(pre_splitW hpre).2
 obtain ⟨d,r,rfl,h1,h2⟩:=hasAllW_cons hsh
 obtain rfl:=hasAllW_nil h2
 obtain ⟨xs,rfl,h3⟩:=hasW_list h1
 obtain ⟨ns,rfl⟩:=items_int h3
 have hlen:ns.length <= n:=by
  unfold OpenLaw.pre at hc
  have h4:(WTm.not (.lt (.lit (.int (n:Int))) (.len (.arg 0)))).holds [] { args:=[.list (ns.map .int)] } = true:=by
   have h4:=(holds_andW hc).1
   rw [hn] at h4
   exact h4
  have h5:=condW_of h4 (w_not (w_lt w_lit (w_len_list (w_arg rfl))))
  rw [qC] at h5
  refine Nat.le_of_not_lt fun q=>?_
  have q':(n:Int) < ((ns.length:Nat):Int):=by omega
  first
   | (rw [decide_eq_true q'] at h5; exact absurd h5 (by decide))
   | (simp at h5; omega)
 cases hwl with
 | cons w1 w2 =>
  cases w2
  cases w1 with
  | list ho hall=>exact ⟨_,_,ns,rfl,rfl,ho,zAn ns _ hall,hlen⟩
theorem post_true (l:OpenLaw)(args:List WData):l.row.toRowW.claim.post args (.bool true) args=true :=
 postW_of (r:=l.row.toRowW) (X:=(true == true))
  (show WShape.has [] (.bool true) .bool=true by first | rfl | decide | simp [WShape.has,WShape.arms,WShape.armsAll])
  (show (WTm.eq .res (.lit (.bool true))).value [] { args:=args,res:=some (.bool true),after:=args } = some (.bool (true == true)) from w_eq_bool (w_res rfl) w_lit) rfl
theorem attach_call {l:OpenLaw}{n:Nat}{q:Program}{loose:List Str}{XP:(Str -> Option Value) -> Heap -> Prop}{YP:World -> Heap -> Prop}{d:DefRec}
  (hn:l.most=some n) (hdf:d.params.defaults=[])
  (call:∀ (w:World) (s₀ s₁:Shared) (mg mb:Str -> Option Value) (fa:Addr) (o:Obj) (pm cd doc:Value) (a:Addr) (vs:List Value) (ns:List Int),
   Ground q loose [] XP w s₀ mg mb s₁.heap -> YP w s₁.heap ->
   s₁.heap.get? fa=some o -> o.data = .func (docDef d.name d.params d.body d.scope pm cd doc) -> s₁.heap.CodeRec cd d.name -> mg d.name=some (.ref fa) ->
   s₁.heap.get? a=some { cls:=.type "list",data:=.seq vs.toArray } -> IntsAre vs ns -> ns.length <= n -> s₁.gens = #[] ->
   codeAny (model l.prog w) callerA (.call (.ref fa) ⟨[.ref a],[]⟩) (fun r s'=>r = .ok (.ret (.bool true)) /\ OldK s₁.heap s'.heap /\ s'.os=s₁.os /\ AllBare s'.gens) s₁) :
  WalkO q loose XP YP l.row.toRowW d [] (fun f vs=>PySem.call f vs):=by
 intro w s₀ s₁ mg mb G Y fa o pm cd doc dV kV ho hd hcd hD hmg hg args vals as hpre hlay hrd hwl hlo
 obtain rfl:dV = .none:=Dflts.none hD hdf
 obtain rfl:kV = .none:=Dflts.noKw hD
 obtain ⟨a,vs,ns,rfl,rfl,hobj,hints,hlen⟩:=script_of hn hpre hwl
 refine enter_call (codeAny_mono (call w s₀ s₁ mg mb fa o pm cd doc a vs ns G Y ho (fd_plain hd) hcd hmg hobj hints hlen hg) fun r s' hq=>?_)
 obtain ⟨rfl,h2,h3,h4⟩:=hq
 exact ⟨.inl ⟨.bool true,.bool true,[],rfl,fun _=>rfl,.bool true,post_true l _,fun _=>⟨List.Pairwise.nil,fun _ hm=>(nomatch hm)⟩⟩,h2,h3,h4⟩
section
variable {prog:Program}{w:World}{A:Around}{E:Value -> Shared -> Prop}{s:Shared}{K:Frag}
end
end Att
namespace L2
open PySem PySem.Spec PyProof.Rows
theorem vals_ints:∀ {vs:List Value} {ns:List Int},IntsAre vs ns -> Vals (ns.map V.int) vs
 | _,_,.nil=>.nil
 | _,_,.cons n t h=>.cons ⟨t,rfl⟩ (vals_ints h)
def Only (H:Hp):Prop:=∀ b,H b=none \/ ∃ o xs,H b=some (.frz o (.lst xs))
theorem law_call {P:Program}{w:World}{K:zA}{mg mb:Str -> Option Value}{CX:CXT}{k:Nat}{fa a:Addr}{fd:FuncData}{x:Str}{sp:Sp}{s₁:Shared}{vs:List Value}{ns:List Int}
  (KX:K.In s₁.heap) (hns:s₁.heap.Ns mainGlobals mg) (hb:s₁.heap.Ns builtinsNs mb) (hbb:∀ x:Str,x ≠ "__name__" -> mb x=bootBuiltins x) (hlim:s₁.heap.NoLimit) (hg:s₁.gens = #[])
  (ha:s₁.heap.get? a=some { cls:=.type "list",data:=.seq vs.toArray }) (hi:IntsAre vs ns) (hl:ns.length <= sizeLine) (hr:Room k callerA)
  (F:∀ base:Heap,K.In base -> base.Ns mainGlobals mg -> FnOk P w K mg base CX k fa fd [x] sp) (hbind:∀ (s:Shared) (u:Value),BindsTo s fd ⟨[u],[]⟩ [(x,u)])
  (hsp:∀ H:Hp,Only H -> SqL K H a (ns.map V.int) -> sp [.ref a] H (fun v _=>v = .bl true) fun _ _ _=>False)
  (hCX:∀ H e s',CX [] H s₁ (fun _ _ _=>False) e s' -> False) :
  codeAny (model P w) callerA (.call (.ref fa) ⟨[.ref a],[]⟩) (fun r s'=>r = .ok (.ret (.bool true)) /\ OldK s₁.heap s'.heap /\ s'.os=s₁.os /\ AllBare s'.gens) s₁:=by
 have rv:=vals_ints hi
 have lenV:=hi.length
 -- from an abstract heap in which nothing but the script may be tracked
 have core:∀ H:Hp,Only H -> SqL K H a (ns.map V.int) -> HOk P w H s₁.heap -> (∀ b,H b ≠ none -> b=a) -> (H a ≠ none -> K.lookup a=none) ->
   codeAny (model P w) callerA (.call (.ref fa) ⟨[.ref a],[]⟩) (fun r s'=>r = .ok (.ret (.bool true)) /\ OldK s₁.heap s'.heap /\ s'.os=s₁.os /\ AllBare s'.gens) s₁:=by
  intro H hO hS hok hA hK
  have base_of:∀ {b:Addr} {o:Obj},s₁.heap.get? b=some o -> H b=none -> (hidT s₁.heap H).get? b=some o:=fun e n=>hidT_get e n
  have noA:∀ {b:Addr} {o:Obj} {es:Array DictEntry} {ep:Nat},s₁.heap.get? b=some o -> o.data = .dict es ep -> H b=none:=fun {b o es ep} e d=>by
   cases q:H b with
   | none=>rfl
   | some u =>
    have e':b=a:=hA b (by rw [q]; simp)
    subst e'
    rw [ha] at e; cases e
    have d':Data.seq vs.toArray _=Data.dict es ep:=d
    cases d'
  have nsK:∀ {b:Addr} {m:Str -> Option Value},s₁.heap.Ns b m -> (hidT s₁.heap H).Ns b m:=fun {b m} ⟨o,es,ep,e,d,r⟩=>⟨o,es,ep,base_of e (noA e d),d,r⟩
  have hKb:K.In (hidT s₁.heap H):=fun b o e=>base_of (KX b o e) (by
   cases q:H b with
   | none=>rfl
   | some u =>
    have e':b=a:=hA b (by rw [q]; simp)
    subst e'
    rw [hK (by rw [q]; simp)] at e; cases e)
  have hM:Mod K mg (hidT s₁.heap H):=⟨hKb,nsK hns,⟨mb,nsK hb,hbb⟩,let ⟨mc,h1,h2⟩:=hlim; ⟨mc,nsK h1,h2⟩⟩
  have e0:Env0 P w K mg (hidT s₁.heap H) callerA [] s₁ H:=⟨rfl,hM,fun b o e=>of_hidT e,Nat.le_of_eq (hidT_size _ _),trivial,fun b hb=>absurd (show b ∈ ([]:List Addr) from hb) (by simp),hok,.of_eq hg⟩
  refine codeAny_mono ((F _ hKb (nsK hns)).run callerA [] s₁ H ⟨[.ref a],[]⟩ [.ref a] [.ref a] _ _ hr e0 (hbind s₁ (.ref a)) (.cons rfl .nil) (hsp H hO hS)) fun r s' h=>?_
  cases r with
  | error e=>exact (hCX H e s' h).elim
  | ok fl =>
   cases fl with
   | next=>exact False.elim h
   | brk=>exact False.elim h
   | cont=>exact False.elim h
   | ret u =>
    obtain ⟨v,H',os,bare,un,hok',r',q⟩:=h
    have q':v = .bl true:=q
    subst q'
    obtain rfl:u=Value.bool true:=r'
    refine ⟨rfl,OldK.of_keep fun b o e=>?_,os,bare⟩
    cases q:H b with
    | none=>exact un.keep b o e q (by intro z; exact absurd (show b ∈ ([]:List Addr) from z) (by simp)) (by simp)
    | some u =>
     rcases hO b with z | ⟨ob,xs,z⟩
     ·rw [q] at z; cases z
     ·have z2:=un.frzs b ob _ z
      obtain ⟨e1,_⟩:=hok b _ z
      obtain ⟨e2,_⟩:=hok' b _ z2
      rw [e] at e1; cases e1
      exact e2
 cases hk:K.lookup a with
 | some o =>
  -- the script is one of the module's own objects
  have e:=KX a o hk
  rw [ha] at e
  cases e
  refine core (fun _=>none) (fun _=>.inl rfl) (.inr ⟨_,vs.toArray,_,hk,rfl,rfl,rfl,by rw [qM,lenV]; exact hl,by simpa using rv⟩) (fun b u z=>by have z':(none:Option HO)=some u:=z; cases z') (fun b z=>absurd rfl z) fun z=>absurd rfl z
 | none =>
  refine core (fun b=>if b=a then some (.frz { cls:=.type "list",data:=.seq vs.toArray } (.lst (ns.map V.int))) else none) (fun b=>?_) (.inl (.inr ⟨{ cls:=.type "list",data:=.seq vs.toArray },if_pos rfl⟩)) (fun b u z=>?_) (fun b z=>?_) fun _=>hk
  ·by_cases hb:b=a
   ·exact .inr ⟨_,_,if_pos hb⟩
   ·exact .inl (if_neg hb)
  ·by_cases hb:b=a
   ·have z':=(if_pos hb).symm.trans z
    cases z'
    subst hb
    exact ⟨ha,by rw [qC]; exact hl,vs,_,rv,ha⟩
   ·have z':=(if_neg hb).symm.trans z
    cases z'
  ·by_cases hb:b=a
   ·exact hb
   ·exact absurd (if_neg hb) z
end L2
namespace L2
open PySem PySem.Spec PyProof.Rows
theorem walk_of {l:PySem.W.OpenLaw}{n k:Nat}{q:Program}{loose:List Str}{XP:(Str -> Option Value) -> Heap -> Prop}{YP:World -> Heap -> Prop}{d:DefRec}{K:Params -> zA}{CX:World -> CXT}{sp:World -> Sp}{x:Str}
  (hn:l.most=some n) (hn2:n <= sizeLine) (hdf:d.params.defaults=[]) (hr:Room k callerA)
  (hY:∀ (w:World) (h:Heap),YP w h -> (K w.params).In h)
  (F:∀ (w:World) (mg:Str -> Option Value) (fa:Addr) (h:Heap),(K w.params).In h -> h.Ns mainGlobals mg -> mg d.name=some (.ref fa) ->
   ∃ fd:FuncData,(∀ (s:Shared) (u:Value),BindsTo s fd ⟨[u],[]⟩ [(x,u)]) /\
    ∀ base:Heap,(K w.params).In base -> base.Ns mainGlobals mg -> FnOk l.prog w (K w.params) mg base (CX w) k fa fd [x] (sp w))
  (hsp:∀ (w:World) (H:Hp) (a:Addr) (ns:List Int),ns.length <= n -> Only H -> SqL (K w.params) H a (ns.map V.int) -> sp w [.ref a] H (fun v _=>v = .bl true) fun _ _ _=>False)
  (hCX:∀ (w:World) (H:Hp) (s:Shared) (e:Value) (s':Shared),CX w [] H s (fun _ _ _=>False) e s' -> False) :
  PySem.W.WalkO q loose XP YP l.row.toRowW d [] (fun f vs=>PySem.call f vs):=by
 refine Att.attach_call hn hdf fun w s₀ s₁ mg mb fa o pm cd doc a vs ns G Y ho hd hcd hmg hobj hints hlen hg=>?_
 have KX:=hY w _ Y
 obtain ⟨fd,hb,hF⟩:=F w mg fa _ KX G.T.g hmg
 exact law_call KX G.T.g G.T.b G.T.builtins G.T.nolimit hg hobj hints (zD hlen hn2) hr hF hb (fun H hO hS=>hsp w H a ns hlen hO hS) fun H e s'=>hCX w H s₁ e s'
end L2
namespace L2
open PySem PySem.Spec PyProof.Rows
def inClass (s:Stmt)(j:Nat):Stmt:=match s with
 | .ClassDef _ _ _ body _ _ _ _ _ _ _=>body.getD j (.Pass ⟨0,0,0,0⟩)
 | _=>.Pass ⟨0,0,0,0⟩
def za (s:Stmt):Arguments:=match s with
 | .FunctionDef _ a _ _ _ _ _ _ _ _=>a
 | _=>{ posonlyargs:=[],args:=[],vararg:=none,kwonlyargs:=[],kw_defaults:=[],kwarg:=none,defaults:=[] }
def zZ (s:Stmt):List Stmt:=match s with
 | .FunctionDef _ _ b _ _ _ _ _ _ _=>b
 | _=>[]
def zE (s:Stmt):Scope:=match s with
 | .FunctionDef _ _ _ _ _ _ sc _ _ _=>sc
 | _=>{ kind:=.function,names:=[],isGenerator:=false,isCoroutine:=false }
abbrev CX0:CXT:=fun _ _ _ _ _ _=>False
abbrev E0:XK:=fun _ _ _=>False
theorem pass0 {X:Cx}:Passes CX0 X E0:=fun _ _ _ _ _ _ _ h=>h.elim
structure Fun (K:zA) (x qual:Str) (st:Stmt) (f:Addr) (fd:FuncData):Prop where
 ex:∃ (oc:Value) (od:Option Addr) (kV doc pm:Value) (an:Option Addr) (cdv ct:Value) (osl:Array (Option Value)),
  fd=zM x qual (za st) (zZ st) (zE st) .none kV doc pm an cdv ct /\ K.lookup f=some ⟨oc,od,.func fd,osl⟩ /\ zJ K cdv qual=true
 kp:zF K (.ref f)=true
section
variable {P:Program}{w:World}{K:zA}{mg:Str -> Option Value}{base:Heap}
theorem Fun.ok {x qual:Str}{st:Stmt}{f:Addr}{fd:FuncData}{N ps:List Str}{k:Nat}{sp:Sp}(F:Fun K x qual st f fd)(S:FnScope N ps (zE st))(len:∀ vs H Q E,sp vs H Q E -> vs.length=ps.length)
  (hbody:∀ (cdv:Value) (A:Around) (outer:List Env) (s:Shared) (H:Hp) (vs:List V) (Q:VK) (E:XK),Room k (A.deeper (envOfC qual (zE st) s.heap.objs.size f cdv)) -> sp vs H Q E ->
   ∃ t,PSs (cxOf CX0 P w K mg base N qual (zE st) f cdv A outer s H E).nox (zZ st) t /\ t { nx:=fun _ H'=>Q .non H',rt:=Q } (zp N vs) H):FnOk P w K mg base CX0 (k+1) f fd ps sp:=by
 obtain ⟨oc,od,kV,doc,pm,an,cdv,ct,osl,rfl,lk,hcd⟩:=F.ex
 refine fn_of lk hcd S len fun A outer s H vs Q E hr hsp=>?_
 obtain ⟨t,h,q⟩:=hbody cdv A outer s H vs Q E hr hsp
 exact ⟨t,h.nox,q⟩
theorem Fun.binds {x qual:Str}{st:Stmt}{f:Addr}{fd:FuncData}{ps:List Str}(F:Fun K x qual st f fd)
  (h:∀ (kV doc pm:Value) (an:Option Addr) (cdv ct:Value) (us:List Value),us.length=ps.length -> bindArgs (zM x qual (za st) (zZ st) (zE st) .none kV doc pm an cdv ct) ⟨us,[]⟩=pure (ps.zip us)):Binds K fd ps []:=by
 obtain ⟨oc,od,kV,doc,pm,an,cdv,ct,osl,rfl,lk,hcd⟩:=F.ex
 exact .all (h kV doc pm an cdv ct)
theorem zo {x qual:Str}{st:Stmt}{f:Addr}{oc:Value}{od an:Option Addr}{osl:Array (Option Value)}{kV doc pm cdv ct:Value}(l:K.lookup f=some ⟨oc,od,.func (zM x qual (za st) (zZ st) (zE st) .none kV doc pm an cdv ct),osl⟩)
  (c:zJ K cdv qual=true) (k:zF K (.ref f)=true):Fun K x qual st f (zM x qual (za st) (zZ st) (zE st) .none kV doc pm an cdv ct):=⟨⟨oc,od,kV,doc,pm,an,cdv,ct,osl,rfl,l,c⟩,k⟩
end
theorem small1000 {n:Nat}(h:n <= 1000):n < sizeLine:=yB h (by decide)
section
variable {X:Cx}
theorem pv (i:Nat) {x:Str} {pos:Pos} (hN:X.N[i]? = some x:=by rfl) (hv:Vis X.env.scope x:=by first | exact Or.inl rfl | exact Or.inr (Or.inl rfl) | exact Or.inr (Or.inr rfl)) (hd:(x == ("__debug__" : Str))=false:=by decide)
  (hcd:(x == ("__classdict__" : Str))=false:=by decide):PE X (.Name x pos) (tVar i):=pe_var hN hv hd hcd
end
theorem y8 {c A B:Prop}[Decidable c](h1:c -> A)(h2:¬ c -> B):if c then A else B:=by
 by_cases h:c
 ·rw [if_pos h]
  exact h1 h
 ·rw [if_neg h]
  exact h2 h
def Same (H H':Hp):Prop:=∀ b o,H b=some o -> H' b=some o
theorem Same.refl (H:Hp):Same H H:=fun _ _ h=>h
theorem Same.trans {H H1 H2:Hp}(a:Same H H1)(b:Same H1 H2):Same H H2:=fun c o h=>b c o (a c o h)
theorem Same.free {H H':Hp}(e:Same H H'){l:Addr}(h:H' l=Option.none):H l=Option.none:=by
 cases q:H l with
 | none=>rfl
 | some o =>
  rw [e l o q] at h
  cases h
theorem Same.seq {K:zA}{H H':Hp}{a:Addr}{xs:List V}(e:Same H H')(h:SqL K H a xs):SqL K H' a xs:=by
 rcases h with (h | ⟨o,h⟩) | h
 ·exact .inl (.inl (e _ _ h))
 ·exact .inl (.inr ⟨o,e _ _ h⟩)
 ·exact .inr h
end L2
namespace L2
open PySem PySem.Spec PyProof.Rows
section
variable {X:Cx}
end
end L2
namespace L2
open PySem PySem.Spec PyProof.Rows
section
variable {κ:Type}[DecidableEq κ]
end
end L2
namespace L2
open PySem PySem.Spec PyProof.Rows
section
variable {σ:St}{H:Hp}{Q:VK}{D:Ends}
theorem w_var {i:Nat}:tVar i σ H Q = ∃ v,σ[i]? = some (some v) /\ Q v H:=rfl
theorem w_C {v:V}:tC v σ H Q=Q v H:=rfl
theorem w_op {r:R2}{ta tb:TE}:tOp r ta tb σ H Q=ta σ H fun x H1=>tb σ H1 fun y H2=>r x y H2 Q:=rfl
theorem w_un {r:V -> Hp -> VK -> Prop}{ta:TE}:tUn r ta σ H Q=ta σ H fun x H1=>r x H1 Q:=rfl
theorem w_rI {C:Int -> Int -> Prop}{g:Int -> Int -> V}{i j:Int}:rI C g (.int i) (.int j) H Q=(C i j /\ Q (g i j) H) :=
 propext ⟨fun ⟨a,b,e1,e2,c,q⟩=>by cases e1; cases e2; exact ⟨c,q⟩,fun ⟨c,q⟩=>⟨i,j,rfl,rfl,c,q⟩⟩
theorem w_rI0 {g:Int -> Int -> V}{i j:Int}:rI0 g (.int i) (.int j) H Q=Q (g i j) H :=
 propext ⟨fun ⟨a,b,e1,e2,q⟩=>by cases e1; cases e2; exact q,fun q=>⟨i,j,rfl,rfl,q⟩⟩
theorem w_rU {g:Int -> V}{i:Int}:rU g (.int i) H Q=Q (g i) H :=
 propext ⟨fun ⟨a,e1,q⟩=>by cases e1; exact q,fun q=>⟨i,rfl,q⟩⟩
theorem w_eqI {i j:Int}:rEq (.int i) (.int j) H Q=Q (.bl (decide (i=j))) H :=
 propext (by
  have e:decide (V.int i=V.int j)=decide (i=j):=by by_cases h:i=j <;> simp [h]
  unfold rEq; rw [e]; exact ⟨fun h=>h.2,fun h=>⟨rfl,h⟩⟩)
theorem w_neI {i j:Int}:rNe (.int i) (.int j) H Q=Q (.bl (!decide (i=j))) H :=
 propext (by
  have e:decide (V.int i=V.int j)=decide (i=j):=by by_cases h:i=j <;> simp [h]
  unfold rNe; rw [e]; exact ⟨fun h=>h.2,fun h=>⟨rfl,h⟩⟩)
theorem w_seq {t u:TS}:tSeq t u D σ H=t { D with nx:=u D } σ H:=rfl
theorem w_next:tNext D σ H=D.nx σ H:=rfl
theorem w_break:tBreak D σ H=D.bk σ H:=rfl
theorem w_cont:tCont D σ H=D.ct σ H:=rfl
theorem w_ifS {c:TT}{t u:TS}:tIfS c t u D σ H=c σ H fun b H1=>if b=true then t D σ H1 else u D σ H1:=rfl
theorem w_ret {te:TE}:tRet te D σ H=te σ H D.rt:=rfl
theorem w_retN:tRetN D σ H=D.rt .non H:=rfl
theorem w_drop {te:TE}:tDrop te D σ H=te σ H fun _ H1=>D.nx σ H1:=rfl
theorem w_asg {te:TE}{g:TG}:tAsg te g D σ H=te σ H fun x H1=>g x σ H1 D.nx:=rfl
theorem jE {i:Nat}{v:V}{R:St -> Hp -> Prop}:jB i v σ H R=R (σ.set i (some v)) H:=rfl
theorem w_gSub {to ti:TE}{t:TSet}{v:V}{R:St -> Hp -> Prop}:gSub to ti t v σ H R=to σ H fun o H1=>ti σ H1 fun i H2=>t o i v H2 fun H3=>R σ H3:=rfl
theorem w_test {t:TE}{R:Bool -> Hp -> Prop}:tTest t σ H R=t σ H fun x H'=>∃ k,x = .bl k /\ R k H':=rfl
theorem w_B {t:TE}{R:Bool -> Hp -> Prop}:tB t σ H R=t σ H fun x H'=>∃ k,x = .bl k /\ R k H':=rfl
theorem w_and {t u:TT}{R:Bool -> Hp -> Prop}:tAnd t u σ H R=t σ H fun c H1=>if c=true then u σ H1 R else R false H1:=rfl
theorem w_or {t u:TT}{R:Bool -> Hp -> Prop}:tOr t u σ H R=t σ H fun c H1=>if c=true then R true H1 else u σ H1 R:=rfl
theorem w_not {t:TT}{R:Bool -> Hp -> Prop}:tNot t σ H R=t σ H fun c H1=>R (!c) H1:=rfl
theorem w_andV {ta tb:TE}:tAndV ta tb σ H Q=ta σ H fun x H1=>∃ c,x = .bl c /\ if c=true then tb σ H1 Q else Q (.bl false) H1:=rfl
theorem w_orV {ta tb:TE}:tOrV ta tb σ H Q=ta σ H fun x H1=>∃ c,x = .bl c /\ if c=true then Q (.bl true) H1 else tb σ H1 Q:=rfl
theorem w_notV {ta:TE}:tNotV ta σ H Q=ta σ H fun x H1=>∃ c,x = .bl c /\ Q (.bl (!c)) H1:=rfl
theorem w_if {t:TT}{ta tb:TE}:tIf t ta tb σ H Q=t σ H fun c H1=>if c=true then ta σ H1 Q else tb σ H1 Q:=rfl
theorem w_call {sp:Sp}{dvs:List V}{E:XK}{t:TA}:tCall sp dvs E t σ H Q=t σ H fun vs H1=>sp (vs ++ dvs) H1 Q E:=rfl
theorem w_nil {R:List V -> Hp -> Prop}:tNil σ H R=R [] H:=rfl
theorem w_cons {ta:TE}{tr:TA}{R:List V -> Hp -> Prop}:tCons ta tr σ H R=ta σ H fun x H1=>tr σ H1 fun xs H2=>R (x :: xs) H2:=rfl
theorem w_CB {r:List V -> Hp -> VK -> Prop}{t:TA}:tCB r t σ H Q=t σ H fun vs H1=>r vs H1 Q:=rfl
theorem w_lst {t:TA}:tLst t σ H Q=t σ H fun xs H1=>xs.length <= sizeLine /\ ∀ p,H1 p=none -> Q (.ref p) (upd H1 p (.lst xs)):=rfl
theorem w_tup {t:TA}:tTup t σ H Q=t σ H fun xs H1=>xs.length <= sizeLine /\ ∀ p,H1 p=none -> Q (.ref p) (upd H1 p (.tup xs)):=rfl
theorem w_isN {ta:TE}:tIsN ta σ H Q=ta σ H fun x H1=>Q (.bl (decide (x = .non))) H1:=rfl
theorem w_notN {ta:TE}:tNotN ta σ H Q=ta σ H fun x H1=>Q (.bl (!decide (x = .non))) H1:=rfl
theorem w_chain {r r':R2}{ta tb tc:TE}:tChain r r' ta tb tc σ H Q=(ta σ H fun x H1=>tb σ H1 fun y H2=>r x y H2 fun z H3=>∃ k,z = .bl k /\
 if k=true then tc σ H3 fun w H4=>r' y w H4 Q else Q (.bl false) H3):=by first | rfl | (unfold tChain; rfl)
end
section
variable {X:Cx}{st:Stmt}{rest:List Stmt}{t u:TS}
def tMid (t u:TS):TS:=fun D σ H=>∃ mid:St -> Hp -> Prop,t { D with nx:=mid } σ H /\ ∀ σ' H',mid σ' H' -> u D σ' H'
theorem pss_mid (h1:PS X st t)(h2:PSs X rest u):PSs X (st :: rest) (tMid t u):=by
 intro pins s σ H D I h
 obtain ⟨mid,q,k⟩:=h
 refine wpAny_execs_cons (thn (h1 pins s σ H { D with nx:=mid } I q) fun f s1 q=>?_)
 cases f with
 | next =>
  obtain ⟨σ',H',I',q⟩:=q
  exact h2 pins s1 σ' H' D I' (k _ _ q)
 | ret v=>exact q
 | brk=>exact q
 | cont=>exact q
end
structure Cal (P:Program) (w:World) (K:zA) (mg:Str -> Option Value) (base:Heap) (k:Nat) (x:Str) (ps:List Str) (sp:Sp):Prop where
 ex:∃ (f:Addr) (fd:FuncData),FnOk P w K mg base CX0 k f fd ps sp /\ mg x=some (.ref f) /\ zF K (.ref f)=true /\ Binds K fd ps []
theorem Cal.mono {P:Program}{w:World}{K:zA}{mg:Str -> Option Value}{base:Heap}{j k:Nat}{x:Str}{ps:List Str}{sp:Sp}(C:Cal P w K mg base j x ps sp)(h:j <= k):Cal P w K mg base k x ps sp:=by
 obtain ⟨f,fd,a,b,c,d⟩:=C.ex
 exact ⟨f,fd,a.mono h,b,c,d⟩
theorem Cal.imp {P:Program}{w:World}{K:zA}{mg:Str -> Option Value}{base:Heap}{k:Nat}{x:Str}{ps:List Str}{sp sp':Sp}(C:Cal P w K mg base k x ps sp)(h:∀ vs H Q E,sp' vs H Q E -> sp vs H Q E):Cal P w K mg base k x ps sp':=by
 obtain ⟨f,fd,a,b,c,d⟩:=C.ex
 exact ⟨f,fd,a.imp h,b,c,d⟩
section
variable {X:Cx}{k:Nat}{x:Str}{ps:List Str}{sp:Sp}{e:Expr}{es:List Expr}{t:TA}{p pos:Pos}
theorem pe_cal (C:Cal X.prog X.w X.K X.mg X.base k x ps sp) (hr:Room k X.A) (hg:Gl X x) (ha:PA X (e :: es) t) (hd:(x == ("__debug__" : Str))=false:=by decide)
  (he:starEach (e :: es) X.env=(false,eval e X.env) :: starEach es X.env:=by rfl) (hpl:(backTo pos (starEach es X.env)).any (·.1)=false:=by rfl):PE X (.Call (.Name x p) (e :: es) [] pos) (tCall sp [] E0 t):=by
 obtain ⟨f,fd,a,b,c,d⟩:=C.ex
 exact pe_call a hr hg b c d .nil pass0 ha hd he hpl
end
theorem Jy {i:Int}{n:Nat}(h:i.natAbs < 2 ^ n):Builtin.Int.intBits i <= n:=by
 unfold Builtin.Int.intBits
 split
 ·exact yL _
 ·rename_i h0
  have hp:i.natAbs ≠ 0:=by
   intro z
   exact h0 (by simpa using z)
  have:i.natAbs.log2 < n:=(Nat.log2_lt hp).mpr h
  omega
def CShl (i j:Int):Prop:=0 <= j /\ j <= 1000000 /\ Builtin.Int.intBits i <= 1000000
def CDivB (i j:Int):Prop:=0 < j /\ j.natAbs.log2 < 9000
section
variable {X:Cx}
theorem JP:OpR X (binaryOp .LShift) (rI CShl fun i j=>.int (i * 2 ^ j.toNat)):=opI fun i j _ _ _ _ _ hc q=>lshift_int hc.1 (by have h1:=hc.2.1; have h2:=hc.2.2; omega) q
theorem yR:OpR X (binaryOp .Mult) (rI IntMulOk fun i j=>.int (i * j)):=opI fun _ _ _ _ _ _ _ hc q=>mul_int q hc
theorem op_fdivB:OpR X (binaryOp .FloorDiv) (rI CDivB fun i j=>.int (i / j)):=opI fun i j _ _ _ _ _ hc q=>by
 have e:i / j=i.fdiv j:=(Int.fdiv_eq_ediv_of_nonneg i (Int.le_of_lt hc.1)).symm
 rw [e] at q
 exact floordiv_int (by have:=hc.1; omega) q (.inl (PyProof.noPylong_of_log2 hc.2))
def rIsI (K:zA):List V -> Hp -> VK -> Prop:=fun xs H Q=>∃ x T t b,xs=[x,.ty T] /\ TyOf K H x t /\ zX K t (.type T)=some b /\ Q (.bl b) H
theorem x4:CallR X (.builtin "isinstance") (rIsI X.K):=by
 intro pins s σ H xs us Q I r h
 obtain ⟨x,T,t,b,rfl,ty,e,q⟩:=h
 obtain ⟨u1,u2,rfl,r1,r2⟩:=Vals.two r
 cases r2
 exact isinst_ok I r1 ty e fun tk=>⟨.bl b,H,I.tok _,rfl,q⟩
end
theorem x5 {i j:Int}(h1:-(2 ^ 64) < i)(h2:i < 2 ^ 64):IntMulOk i j:=.of_left (intBits_le_64 h1 h2)
theorem mul_r {i j:Int}(h1:-(2 ^ 64) < j)(h2:j < 2 ^ 64):IntMulOk i j:=.of_right (intBits_le_64 h1 h2)
theorem kit_same {K:zA}(T:String):zX K (.type T) (.type T)=some true:=by unfold zX; rw [if_pos (by simp)]
theorem kit_int_bool {K:zA}:zX K (.type "int") (.type "bool")=some false:=by first | rfl | decide +kernel | (unfold zX PySem.W.kitCls; decide +kernel)
theorem kit_bool_int {K:zA}:zX K (.type "bool") (.type "int")=some true:=by first | rfl | decide +kernel
theorem kit_non_int {K:zA}:zX K (.type "NoneType") (.type "int")=some false:=by first | rfl | decide +kernel
theorem kit_str_int {K:zA}:zX K (.type "str") (.type "int")=some false:=by first | rfl | decide +kernel
theorem kit_tuple_int {K:zA}:zX K (.type "tuple") (.type "int")=some false:=by first | rfl | decide +kernel
end L2
namespace L2
open PySem PySem.Spec PyProof.Rows
theorem bo_len:bootBuiltins "len" = some (.builtin "len"):=by decide +kernel
theorem bo_abs:bootBuiltins "abs" = some (.builtin "abs"):=by decide +kernel
theorem bo_min:bootBuiltins "min" = some (.builtin "min"):=by decide +kernel
theorem bo_all:bootBuiltins "all" = some (.builtin "all"):=by decide +kernel
theorem bo_any:bootBuiltins "any" = some (.builtin "any"):=by decide +kernel
theorem zw:bootBuiltins "isinstance" = some (.builtin "isinstance"):=by decide +kernel
theorem xi:bootBuiltins "int" = some (.type "int"):=by decide +kernel
theorem bo_bool:bootBuiltins "bool" = some (.type "bool"):=by decide +kernel
theorem bo_list:bootBuiltins "list" = some (.type "list"):=by decide +kernel
theorem jk:bootBuiltins "tuple" = some (.type "tuple"):=by decide +kernel
theorem Jn:bootBuiltins "str" = some (.type "str"):=by decide +kernel
theorem bo_zip:bootBuiltins "zip" = some (.type "zip"):=by decide +kernel
def CPowB (i j:Int):Prop:=0 <= j /\ j <= 1000000 /\ -(2 ^ 64) < i /\ i < 2 ^ 64
section
variable {X:Cx}
theorem Jz:OpR X (binaryOp .Pow) (rI CPowB fun i j=>.int (i ^ j.toNat)):=opI fun i j _ _ _ _ _ hc q=>pow_int_small hc.1 hc.2.1 (by have h1:=hc.2.2.1; have h2:=hc.2.2.2; omega) q
end
theorem w_shl1 {j:Int}:CShl 1 j=(0 <= j /\ j <= 1000000):=propext ⟨fun h=>⟨h.1,h.2.1⟩,fun h=>⟨h.1,h.2,zD (Jy (n:=1) (by decide)) (by decide)⟩⟩
theorem divB {i j:Int}(h:0 < j)(h2:j < 2 ^ 64):CDivB i j:=⟨h,by
 have e:j.natAbs < 2 ^ 64:=by omega
 have e2:j.natAbs ≠ 0:=by omega
 have:=(Nat.log2_lt e2).mpr e
 omega⟩
section
variable {P:Program}{w:World}{K:zA}{mg:Str -> Option Value}{base:Heap}
theorem yD {x qual:Str}{st:Stmt}{N ps:List Str}{k:Nat}{sp:Sp}(T:∃ (f:Addr) (fd:FuncData),Fun K x qual st f fd /\ mg x=some (.ref f) /\ Binds K fd ps [])(S:FnScope N ps (zE st))(len:∀ vs H Q E,sp vs H Q E -> vs.length=ps.length)
  (hbody:∀ (f:Addr) (cdv:Value) (A:Around) (outer:List Env) (s:Shared) (H:Hp) (vs:List V) (Q:VK) (E:XK),Room k (A.deeper (envOfC qual (zE st) s.heap.objs.size f cdv)) -> sp vs H Q E ->
   ∃ t,PSs (cxOf CX0 P w K mg base N qual (zE st) f cdv A outer s H E).nox (zZ st) t /\ t { nx:=fun _ H'=>Q .non H',rt:=Q } (zp N vs) H):Cal P w K mg base (k+1) x ps sp:=by
 obtain ⟨f,fd,F,m,b⟩:=T
 exact ⟨f,fd,F.ok S len fun cdv A outer s H vs Q E hr h=>hbody f cdv A outer s H vs Q E hr h,m,F.kp,b⟩
end
def Chg (p:Addr)(H H':Hp):Prop:=∀ b o,b ≠ p -> H b=some o -> H' b=some o
theorem Chg.trans {p:Addr}{H H1 H2:Hp}(a:Chg p H H1)(b:Chg p H1 H2):Chg p H H2:=fun c o n h=>b c o n (a c o n h)
theorem Same.chg {p:Addr}{H H':Hp}(h:Same H H'):Chg p H H':=fun b o _ q=>h b o q
theorem Chg.upd {p:Addr}{H:Hp}(o:HO):Chg p H (upd H p o):=fun b u n q=>by rw [upd_ne n]; exact q
theorem zV {H:Hp}{p:Addr}(h:H p=none)(o:HO):Same H (upd H p o):=fun b u q=>by rw [upd_ne (ne_of_none q h)]; exact q
def Scr (K:zA)(H:Hp)(a:Addr)(ns:List Int):Prop :=
 (∃ o,H a=some (.frz o (.lst (ns.map V.int)))) \/ (∃ (o:Obj) (its:Array Value) (n:Nat),K.lookup a=some o /\ o.cls = .type "list" /\ o.dict=none /\ o.data = .seq its n /\ its.size <= sizeLine /\ Vals (ns.map V.int) its.toList)
section
variable {K:zA}{H H':Hp}{a p:Addr}{ns:List Int}
theorem Scr.sq (h:Scr K H a ns):SqL K H a (ns.map V.int):=by
 rcases h with h | h
 ·exact .inl (.inr h)
 ·exact .inr h
theorem scr_of (hO:Only H)(hS:SqL K H a (ns.map V.int)):Scr K H a ns:=by
 rcases hS with (h | h) | h
 ·rcases hO a with z | ⟨o,xs,z⟩
  ·rw [z] at h; cases h
  ·rw [z] at h; cases h
 ·exact .inl h
 ·exact .inr h
end
def spLaw (K:zA):Sp:=fun vs H Q _=>∃ (a:Addr) (ns:List Int),vs=[.ref a] /\ Scr K H a ns /\ ns.length <= 63 /\ ∀ H',Q (.bl true) H'
theorem atI_int {ns:List Int}{i:Int}(h0:0 <= i)(h1:i < (ns.length:Int)):∃ v:Int,atI (ns.map V.int) i=some (.int v) /\ ns[i.toNat]? = some v:=by
 have hk:i.toNat < ns.length:=by omega
 have e:i=((i.toNat:Nat):Int):=by omega
 have q:atI (ns.map V.int) ((i.toNat:Nat):Int)=some (.int ns[i.toNat]):=y7 (by rw [qI,qA hk] <;> rfl)
 rw [← e] at q
 exact ⟨ns[i.toNat],q,qA hk⟩
def Feed (H:Hp)(p:Addr)(c:Int):Prop:=∃ g m st:Int,H p=some (.lst [.int g,.int m,.int st]) /\ 0 <= g /\ 0 <= m /\ m < 2147483423 /\ 0 <= st /\ st <= c
theorem Feed.mono {H:Hp}{p:Addr}{c d:Int}(h:Feed H p c)(l:c <= d):Feed H p d:=by
 obtain ⟨g,m,st,a,b,c,d,e,f⟩:=h
 exact ⟨g,m,st,a,b,c,d,e,by omega⟩
theorem Feed.same {H H':Hp}{p:Addr}{c:Int}(h:Feed H p c)(s:Same H H'):Feed H' p c:=by
 obtain ⟨g,m,st,a,r⟩:=h
 exact ⟨g,m,st,s _ _ a,r⟩
theorem Feed.lst {H:Hp}{p:Addr}{c:Int}(h:Feed H p c):∃ xs,H p=some (.lst xs):=by
 obtain ⟨g,m,st,a,r⟩:=h
 exact ⟨_,a⟩
def spFeed (K:zA):Sp:=fun vs H Q _=>∃ (a:Addr) (ns:List Int) (k:Int),vs=[.ref a,.int k] /\ Scr K H a ns /\ ns.length <= 63 /\ 0 <= k /\ k <= 1000 /\
 ∀ p H',H p=none -> Same H H' -> Feed H' p 0 -> Q (.ref p) H'
def lim:Nat -> Int
 | 0=>11
 | n+1=>1000000 * (lim n - 1)
def spTakeN (n:Nat):Sp:=fun vs H Q _=>∃ (p:Addr) (m c:Int),vs=[.ref p,.int m] /\ Feed H p c /\ c <= 1000000000 - 2 ^ n /\ 0 < n /\ n <= 10 /\ 1 <= m /\ m <= lim n /\
 ∀ (r:Int) H',0 <= r -> r < m -> Feed H' p (c+2 ^ n) -> Chg p H H' -> Q (.int r) H'
def spTake:Sp:=fun vs H Q _=>∃ (p:Addr) (m c:Int),vs=[.ref p,.int m] /\ Feed H p c /\ c <= 900000000 /\ 1 <= m /\ m <= 10 ^ 60 /\
 ∀ (r:Int) H',0 <= r -> r < m -> Feed H' p (c+1024) -> Chg p H H' -> Q (.int r) H'
def rIxM:R2:=fun x y H Q=>∃ p xs i v,x = .ref p /\ y = .int i /\ H p=some (.lst xs) /\ atI xs i=some v /\ Q v H
def jl:R2:=fun x y H Q=>∃ p xs i v,x = .ref p /\ y = .int i /\ H p=some (.tup xs) /\ atI xs i=some v /\ Q v H
section
variable {X:Cx}
theorem IxR.mono {r r':R2}(h:IxR X r)(m:∀ x y H Q,r' x y H Q -> r x y H Q):IxR X r':=fun va sl pins s σ H x y v u Q I rx ry q hs=>h va sl pins s σ H x y v u Q I rx ry (m _ _ _ _ q) hs
theorem ix_M:IxR X rIxM:=ix_list.mono fun x y H Q ⟨p,xs,i,v,e1,e2,h,a,q⟩=>⟨p,xs,i,v,e1,e2,SqL.of h,a,q⟩
theorem ix_U:IxR X jl:=ix_tup.mono fun x y H Q ⟨p,xs,i,v,e1,e2,h,a,q⟩=>⟨p,xs,i,v,e1,e2,SqT.of h,a,q⟩
theorem CallR.mono {f:Value}{r r':List V -> Hp -> VK -> Prop}(h:CallR X f r)(m:∀ xs H Q,r' xs H Q -> r xs H Q):CallR X f r':=fun pins s σ H xs us Q I rx q=>h pins s σ H xs us Q I rx (m _ _ _ q)
theorem call_lenM:CallR X (.builtin "len") (fun xs H Q=>∃ p ys,xs=[.ref p] /\ H p=some (.lst ys) /\ Q (.int ys.length) H):=call_len_seq.mono fun xs H Q ⟨p,ys,e,h,q⟩=>⟨p,ys,e,.inl (SqL.of h),q⟩
theorem call_lenS:CallR X (.builtin "len") (fun xs H Q=>∃ p ys,xs=[.ref p] /\ SqL X.K H p ys /\ Q (.int ys.length) H):=call_len_seq.mono fun xs H Q ⟨p,ys,e,h,q⟩=>⟨p,ys,e,.inl h,q⟩
end
section
variable {H:Hp}{Q:VK}
theorem w_ixM {p:Addr}{i:Int}:rIxM (.ref p) (.int i) H Q = ∃ xs,H p=some (.lst xs) /\ ∃ v,atI xs i=some v /\ Q v H :=
 propext ⟨fun ⟨p',xs,i',v,e1,e2,h,a,q⟩=>by cases e1; cases e2; exact ⟨xs,h,v,a,q⟩,fun ⟨xs,h,v,a,q⟩=>⟨p,xs,i,v,rfl,rfl,h,a,q⟩⟩
theorem w_ixU {p:Addr}{i:Int}:jl (.ref p) (.int i) H Q = ∃ xs,H p=some (.tup xs) /\ ∃ v,atI xs i=some v /\ Q v H :=
 propext ⟨fun ⟨p',xs,i',v,e1,e2,h,a,q⟩=>by cases e1; cases e2; exact ⟨xs,h,v,a,q⟩,fun ⟨xs,h,v,a,q⟩=>⟨p,xs,i,v,rfl,rfl,h,a,q⟩⟩
theorem w_ixL {K:zA}{p:Addr}{i:Int}:rIxL K (.ref p) (.int i) H Q = ∃ xs,SqL K H p xs /\ ∃ v,atI xs i=some v /\ Q v H :=
 propext ⟨fun ⟨p',xs,i',v,e1,e2,h,a,q⟩=>by cases e1; cases e2; exact ⟨xs,h,v,a,q⟩,fun ⟨xs,h,v,a,q⟩=>⟨p,xs,i,v,rfl,rfl,h,a,q⟩⟩
theorem w_setL {p:Addr}{k:Int}{v:V}{R:Hp -> Prop}:rSetL (.ref p) (.int k) v H R = ∃ xs,H p=some (.lst xs) /\ ∃ j,ixN xs.length k=some j /\ R (upd H p (.lst (xs.set j v))) :=
 propext ⟨fun ⟨p',xs,k',j,e1,e2,h,a,q⟩=>by cases e1; cases e2; exact ⟨xs,h,j,a,q⟩,fun ⟨xs,h,j,a,q⟩=>⟨p,xs,k,j,rfl,rfl,h,a,q⟩⟩
end
theorem at_0 {α:Type}{a:α}{l:List α}:atI (a :: l) 0=some a:=y7 (j:=0) rfl
theorem at_1 {α:Type}{a b:α}{l:List α}:atI (a :: b :: l) 1=some b:=y7 (j:=1) rfl
theorem at_2 {α:Type}{a b c:α}{l:List α}:atI (a :: b :: c :: l) 2=some c:=y7 (j:=2) rfl
theorem at_3 {α:Type}{a b c d:α}{l:List α}:atI (a :: b :: c :: d :: l) 3=some d:=y7 (j:=3) rfl
theorem ixN_0 {n:Nat}:ixN (n+1) 0=some 0:=by unfold ixN; rw [if_pos (Int.le_refl 0),if_pos (by omega)]; rfl
theorem ixN_1 {n:Nat}:ixN (n+1+1) 1=some 1:=by unfold ixN; rw [if_pos (by decide),if_pos (by omega)]; rfl
theorem ixN_2 {n:Nat}:ixN (n+1+1+1) 2=some 2:=by unfold ixN; rw [if_pos (by decide),if_pos (by omega)]; rfl
section
variable {CX:CXT}{P:Program}{w:World}{K:zA}{mg:Str -> Option Value}{base:Heap}{N:List Str}{qual:Str}{scope:Scope}{f:Addr}{cd:Value}{A:Around}{outer:List Env}{s:Shared}{H:Hp}{E:XK}
theorem w_cxK:(cxOf CX P w K mg base N qual scope f cd A outer s H E).K=K:=rfl
end
theorem zg {n:Nat}(h:n <= 1000):n <= sizeLine:=xH (small1000 h)
theorem sl_1:(0+1 <= sizeLine)=True:=eq_true (zg (by decide))
theorem sl_2:(0+1+1 <= sizeLine)=True:=eq_true (zg (by decide))
theorem sl_3:(0+1+1+1 <= sizeLine)=True:=eq_true (zg (by decide))
theorem sl_4:(0+1+1+1+1 <= sizeLine)=True:=eq_true (zg (by decide))
theorem sl_5:(0+1+1+1+1+1 <= sizeLine)=True:=eq_true (zg (by decide))
theorem sl_6:(0+1+1+1+1+1+1 <= sizeLine)=True:=eq_true (zg (by decide))
theorem sl_7:(0+1+1+1+1+1+1+1 <= sizeLine)=True:=eq_true (zg (by decide))
theorem sl_8:(0+1+1+1+1+1+1+1+1 <= sizeLine)=True:=eq_true (zg (by decide))
theorem sl_0:(0 <= sizeLine)=True:=eq_true (zg (by decide))
theorem J0 {H:Hp}{p:Addr}{g m st c:Int}(hg:0 <= g)(h0:0 <= m)(h1:m < 2147483423)(s0:0 <= st)(s1:st <= c):Feed (upd H p (.lst [.int g,.int m,.int st])) p c:=⟨g,m,st,zL,hg,h0,h1,s0,s1⟩
theorem divq {g m:Int}(hg:0 <= g)(hm:0 < m):0 <= g / m:=Int.ediv_nonneg hg (Int.le_of_lt hm)
theorem modq {g m:Int}(hm:0 < m):0 <= g % m /\ g % m < m:=⟨Int.emod_nonneg _ (by omega),Int.emod_lt_of_pos _ hm⟩
theorem two_pow {n:Nat}:(1:Int) <= 2 ^ n /\ (2:Int) ^ (n+1)=2 ^ n+2 ^ n:=by
 constructor
 ·have:=Int.pow_pos (n:=2) (m:=n) (by decide)
  omega
 ·rw [Int.pow_succ]; omega
theorem lim_ge:∀ n,11 <= lim n /\ (0 < n -> 10000000 <= lim n)
 | 0=>⟨by decide,fun h=>by omega⟩
 | n+1=>by
  have h:=(lim_ge n).1
  have e:lim (n+1)=1000000 * (lim n - 1):=rfl
  exact ⟨by omega,fun _=>by omega⟩
def ForR (lo:Int)(n:Nat)(g:TG)(tb:TS)(D:Ends)(σ:St)(H:Hp):Prop:=∃ W:Nat -> Nat -> St -> Hp -> Prop,(∃ m,W 0 m σ H) /\ ∀ i m σ H,W i m σ H ->
 ((Itr lo n).stop i H /\ D.nx σ H) \/ ((Itr lo n).go i H /\ ∃ N:St -> Hp -> Prop,(∀ σ' H',N σ' H' -> ∃ m',m' < m /\ W (i+1) m' σ' H') /\ ∀ x H',(Itr lo n).yld i H x H' -> g x σ H' fun σ2 H2=>tb { D with nx:=N,ct:=N,bk:=D.nx } σ2 H2)
def ForL (K:zA)(a:Addr)(g:TG)(tb:TS)(D:Ends)(σ:St)(H:Hp):Prop:=∃ W:Nat -> Nat -> St -> Hp -> Prop,(∃ m,W 0 m σ H) /\ ∀ i m σ H,W i m σ H ->
 ((Itl K a).stop i H /\ D.nx σ H) \/ ((Itl K a).go i H /\ ∃ N:St -> Hp -> Prop,(∀ σ' H',N σ' H' -> ∃ m',m' < m /\ W (i+1) m' σ' H') /\ ∀ x H',(Itl K a).yld i H x H' -> g x σ H' fun σ2 H2=>tb { D with nx:=N,ct:=N,bk:=D.nx } σ2 H2)
def ForT (K:zA)(a:Addr)(g:TG)(tb:TS)(D:Ends)(σ:St)(H:Hp):Prop:=∃ W:Nat -> Nat -> St -> Hp -> Prop,(∃ m,W 0 m σ H) /\ ∀ i m σ H,W i m σ H ->
 ((Itt K a).stop i H /\ D.nx σ H) \/ ((Itt K a).go i H /\ ∃ N:St -> Hp -> Prop,(∀ σ' H',N σ' H' -> ∃ m',m' < m /\ W (i+1) m' σ' H') /\ ∀ x H',(Itt K a).yld i H x H' -> g x σ H' fun σ2 H2=>tb { D with nx:=N,ct:=N,bk:=D.nx } σ2 H2)
section
variable {σ:St}{H:Hp}{D:Ends}{g:TG}{tb:TS}{K:zA}{a:Addr}
theorem w_for1 {ta:TA}:tFor (iRng1 ta) g tb D σ H=(ta σ H fun vs H1=>∃ j:Int,vs=[.int j] /\ -(2 ^ 62) <= j /\ j < 2 ^ 62 /\ ForR 0 j.toNat g tb D σ H1):=rfl
theorem w_forL {tl:TE}:tFor (iList K tl) g tb D σ H=(tl σ H fun x H1=>∃ a,x = .ref a /\ (∃ xs,SqL K H1 a xs) /\ ForL K a g tb D σ H1):=rfl
theorem w_forT {tl:TE}:tFor (iTup K tl) g tb D σ H=(tl σ H fun x H1=>∃ a,x = .ref a /\ (∃ xs,SqT K H1 a xs) /\ ForT K a g tb D σ H1):=rfl
theorem forR {lo:Int}{n:Nat}(Pv:Nat -> St -> Hp -> Prop)(h0:Pv 0 σ H)
  (hs:∀ i σ H (N:St -> Hp -> Prop),i < n -> Pv i σ H -> (∀ σ' H',Pv (i+1) σ' H' -> N σ' H') -> g (.int (lo+i)) σ H fun σ2 H2=>tb { D with nx:=N,ct:=N,bk:=D.nx } σ2 H2) (hd:∀ σ H,Pv n σ H -> D.nx σ H):ForR lo n g tb D σ H :=
 for_range Pv h0 (fun i σ H h p=>hs i σ H _ h p fun _ _ q=>q) hd
theorem forL {xs:List V}(Pv:Nat -> St -> Hp -> Prop)(h0:Pv 0 σ H)(hl:∀ i σ H,i <= xs.length -> Pv i σ H -> SqL K H a xs)
  (hs:∀ i x σ H (N:St -> Hp -> Prop),xs[i]? = some x -> Pv i σ H -> (∀ σ' H',Pv (i+1) σ' H' -> N σ' H') -> g x σ H fun σ2 H2=>tb { D with nx:=N,ct:=N,bk:=D.nx } σ2 H2) (hd:∀ σ H,Pv xs.length σ H -> D.nx σ H):ForL K a g tb D σ H:=for_list Pv h0 hl (fun i x σ H h p=>hs i x σ H _ h p fun _ _ q=>q) hd
theorem forT {xs:List V}(Pv:Nat -> St -> Hp -> Prop)(h0:Pv 0 σ H)(hl:∀ i σ H,i <= xs.length -> Pv i σ H -> SqT K H a xs)
  (hs:∀ i x σ H (N:St -> Hp -> Prop),xs[i]? = some x -> Pv i σ H -> (∀ σ' H',Pv (i+1) σ' H' -> N σ' H') -> g x σ H fun σ2 H2=>tb { D with nx:=N,ct:=N,bk:=D.nx } σ2 H2) (hd:∀ σ H,Pv xs.length σ H -> D.nx σ H):ForT K a g tb D σ H:=for_tup Pv h0 hl (fun i x σ H h p=>hs i x σ H _ h p fun _ _ q=>q) hd
end
theorem jm {H:Hp}{p:Addr}{m c:Int}{Q:VK}{E:XK}(hF:Feed H p c)(hc:c <= 900000000)(h1:1 <= m)(h2:m <= 10 ^ 60)
  (q:∀ (r:Int) H',0 <= r -> r < m -> Feed H' p (c+1024) -> Chg p H H' -> Q (.int r) H'):spTake [.ref p,.int m] H Q E:=⟨p,m,c,rfl,hF,hc,h1,h2,q⟩
theorem Feed.ne {H:Hp}{p q:Addr}{c:Int}(hF:Feed H p c)(hq:H q=none):q ≠ p:=by
 obtain ⟨xs,h⟩:=hF.lst
 exact (ne_of_none h hq).symm
theorem shl_ok {n s:Int}{k:Nat}(h0:0 <= s)(h1:s <= 1000000)(h:n.natAbs < 2 ^ k)(hk:k <= 1000000):CShl n s:=⟨h0,h1,zD (Jy h) hk⟩
theorem abs_div {n:Int}{k:Nat}{d:Int}(hd:0 < d)(h:n.natAbs < 2 ^ k):(n / d).natAbs < 2 ^ k:=by
 refine yB ?_ h
 have e1:n / d <= (n.natAbs:Int):=by
  rcases Int.lt_or_le n 0 with z | z
  ·have:=Int.ediv_neg_of_neg_of_pos z hd
   omega
  ·have:=Int.ediv_le_self d z
   omega
 have e2:-(n.natAbs:Int) <= n / d:=by
  rcases Int.lt_or_le n 0 with z | z
  ·have h1:n <= n / d:=by
    refine Int.le_ediv_of_mul_le hd ?_
    have:n * d <= n * 1:=Int.mul_le_mul_of_nonpos_left (Int.le_of_lt z) hd
    omega
   omega
  ·have:=Int.ediv_nonneg z (Int.le_of_lt hd)
   omega
 omega
theorem mid_of {t u:TS}{D:Ends}{σ:St}{H:Hp}(M:St -> Hp -> Prop)(h1:∀ N:St -> Hp -> Prop,(∀ σ H,M σ H -> N σ H) -> t { D with nx:=N } σ H)(h2:∀ σ H,M σ H -> u D σ H):tMid t u D σ H:=⟨M,h1 M fun _ _ q=>q,h2⟩
section
variable {K:zA}{H:Hp}{Q:VK}
theorem j5 {x:V}{T:String}{t:Value}{b:Bool}(ty:TyOf K H x t)(u:∀ t',TyOf K H x t' -> t'=t)(k:zX K t (.type T)=some b):rIsI K [x,.ty T] H Q=Q (.bl b) H :=
 propext ⟨fun ⟨x',T',t',b',e,ty',k',q⟩=>by
  cases e
  rw [u _ ty',k] at k'
  cases k'
  exact q,fun q=>⟨x,T,t,b,rfl,ty,k,q⟩⟩
theorem kit_non_bool:zX K (.type "NoneType") (.type "bool")=some false:=by first | rfl | decide +kernel
theorem kit_str_bool:zX K (.type "str") (.type "bool")=some false:=by first | rfl | decide +kernel
theorem w_isI_ii {i:Int}:rIsI K [.int i,.ty "int"] H Q=Q (.bl true) H:=j5 (.int i) (fun _ h=>by cases h; rfl) (kit_same _)
theorem J1 {i:Int}:rIsI K [.int i,.ty "bool"] H Q=Q (.bl false) H:=j5 (.int i) (fun _ h=>by cases h; rfl) kit_int_bool
theorem w_isI_bi {i:Bool}:rIsI K [.bl i,.ty "int"] H Q=Q (.bl true) H:=j5 (.bl i) (fun _ h=>by cases h; rfl) kit_bool_int
theorem w_isI_bb {i:Bool}:rIsI K [.bl i,.ty "bool"] H Q=Q (.bl true) H:=j5 (.bl i) (fun _ h=>by cases h; rfl) (kit_same _)
theorem w_isI_ni:rIsI K [.non,.ty "int"] H Q=Q (.bl false) H:=j5 .non (fun _ h=>by cases h; rfl) kit_non_int
theorem w_isI_nb:rIsI K [.non,.ty "bool"] H Q=Q (.bl false) H:=j5 .non (fun _ h=>by cases h; rfl) kit_non_bool
theorem w_isI_si {x:Str}:rIsI K [.str x,.ty "int"] H Q=Q (.bl false) H:=j5 (.str x) (fun _ h=>by cases h; rfl) kit_str_int
theorem w_isI_sb {x:Str}:rIsI K [.str x,.ty "bool"] H Q=Q (.bl false) H:=j5 (.str x) (fun _ h=>by cases h; rfl) kit_str_bool
end
theorem J2 (k:Nat):(0:Int) < 2 ^ k:=Int.pow_pos (by decide)
theorem ediv_iff {n d:Int}:n / d * d=n ↔ d ∣ n:=⟨fun h=>⟨n / d,by rw [Int.mul_comm]; exact h.symm⟩,fun h=>Int.ediv_mul_cancel h⟩
end L2
namespace L2
open PySem PySem.Spec PyProof.Rows
def yd (scope:Scope)(env:Env):List (Str × Addr):=(scope.names.filterMap fun x=>if x.2 == .free then (env.cells.lookup x.1).map fun c=>(x.1,c) else none).reverse
theorem Jj {scope:Scope}{env:Env}(h:∀ x ∈ scope.names,x.2 = .free -> ∃ c,env.cells.lookup x.1=some c):closureFor scope env=pure (yd scope env):=by
 unfold closureFor yd
 have all:∀ (l:List (Str × NameKind)) (acc:List (Str × Addr)),(∀ x ∈ l,x.2 = .free -> ∃ c,env.cells.lookup x.1=some c) ->
   (forIn l acc fun x r=>(match x with | (name,kind)=>if (kind == .free)=true then do let a ← cellOf env name; pure (ForInStep.yield ((name,a) :: r)) else pure (ForInStep.yield r):Sem (ForInStep (List (Str × Addr))))) =
    pure ((l.filterMap fun x=>if x.2 == .free then (env.cells.lookup x.1).map fun c=>(x.1,c) else none).reverse ++ acc):=by
  intro l
  induction l with
  | nil=>intro acc _; simp
  | cons x r ih =>
   intro acc hx
   obtain ⟨n,k⟩:=x
   have hr:∀ y ∈ r,y.2 = .free -> ∃ c,env.cells.lookup y.1=some c:=fun y hy=>hx y (zO _ hy)
   by_cases hk:k = .free
   ·subst hk
    obtain ⟨c,hc⟩:=hx (n,.free) zK rfl
    have e1:cellOf env n=pure c:=by unfold cellOf; rw [show env.cells.lookup n=some c from hc]
    simp only [List.forIn_cons,beq_self_eq_true,if_true,e1,pure_bind,zx]
    rw [ih _ hr]
    simp [show env.cells.lookup n=some c from hc]
   ·have hb:(k == NameKind.free)=false:=by simpa using hk
    simp only [List.forIn_cons,hb,yJ,if_false,pure_bind,zx]
    rw [ih _ hr]
 have:=all scope.names [] h
 rw [yQ] at this
 simp only [bind_pure]
 first | exact this | (rw [this]) | (simpa using this)
theorem mem_clos {scope:Scope}{env:Env}{x:Str}{c:Addr}(h:(yd scope env).lookup x=some c):env.cells.lookup x=some c:=by
 have m:=PySem.mem_of_lookup h
 unfold yd at m
 rw [List.mem_reverse,ji] at m
 obtain ⟨y,hy,e⟩:=m
 split at e
 ·cases q:env.cells.lookup y.1 with
  | none=>rw [q] at e; cases e
  | some d =>
   rw [q] at e
   simp only [Option.map_some,Option.some.injEq,Prod.mk.injEq] at e
   rw [← e.1,q,e.2]
 ·cases e
theorem j6 {α:Type}:∀ {l:List (Str × α)} {x:Str} {c:α},(x,c) ∈ l -> ∃ d,l.lookup x=some d
 | (k,v) :: r,x,c,h=>by
  rw [xc]
  cases hb:x == k with
  | true=>exact ⟨v,rfl⟩
  | false =>
   rcases zI.mp h with e | e
   ·injection e with e1 e2
    subst e1
    simp at hb
   ·exact j6 e
theorem J3 {scope:Scope}{env:Env}{x:Str}{c:Addr}(h:(x,NameKind.free) ∈ scope.names)(hc:env.cells.lookup x=some c):(yd scope env).lookup x=some c:=by
 have m:(x,c) ∈ yd scope env:=by
  unfold yd
  rw [List.mem_reverse,ji]
  exact ⟨(x,.free),h,by simp [hc]⟩
 obtain ⟨d,hd⟩:=j6 m
 have:=mem_clos hd
 rw [hc] at this
 rw [hd,← this]
theorem ye {env:Env}:∀ {names:List (Str × NameKind)} {x:Str} {k:NameKind},
  (names.map fun (n,k)=>if (k == NameKind.free && env.scope.kind == .function && env.kindOf n == some .cell) then (n,NameKind.cell) else (n,k)).lookup x=some k ->
  ∃ k0,names.lookup x=some k0 /\ (k0=k \/ (k0 = .free /\ k = .cell))
 | [],_,_,h=>by simp at h
 | (n,k) :: r,x,k',h=>by
  simp only [zU] at h
  by_cases hc:(k == NameKind.free && env.scope.kind == .function && env.kindOf n == some .cell)=true
  ·rw [if_pos hc,xc] at h
   rw [xc]
   cases hb:x == n with
   | true =>
    rw [hb] at h
    simp only [Option.some.injEq] at h
    refine ⟨k,rfl,.inr ⟨?_,h.symm⟩⟩
    simp only [zB,beq_iff_eq] at hc
    exact hc.1.1
   | false =>
    rw [hb] at h
    exact ye h
  ·rw [if_neg hc,xc] at h
   rw [xc]
   cases hb:x == n with
   | true =>
    rw [hb] at h
    simp only [Option.some.injEq] at h
    exact ⟨k,rfl,.inl h⟩
   | false =>
    rw [hb] at h
    exact ye h
theorem x6 {prog:Program}{w:World}{A:Around}{R:Result -> Shared -> Prop}{s:Shared}{elt target iter:Expr}{ifs:List Expr}{scope:Scope}{pos:Pos}{it acc:Value}{env:Env}(I:Nat -> Shared -> Prop)
  (turn:∀ n s,I n s -> wpAny (model prog w) A (pyNext it) (fun r s₁=>match r with
   | none=>R (.ok .next) s₁
   | some v=>wpAny (model prog w) A (letOwnedTupleGo target it v) (fun _ s₁'=>wpAny (model prog w) A (assign target env v) (fun _ s₂ =>
     wpAny (model prog w) A (forIn ifs true fun c r=>if r=true then do let ok ← isTrue c env (eval c env); pure (ForInStep.yield ok) else pure (ForInStep.yield r)) (fun ok s₃ =>
      if ok=true then wpAny (model prog w) A (eval elt env) (fun x s₄ =>
       wpAny (model prog w) A (call (.builtin "list.append") [acc,x]) (fun _ s₅=>∃ m,m < n /\ I m s₅) (fun _ _=>False) s₄) (fun _ _=>False) s₃
      else ∃ m,m < n /\ I m s₃) (fun _ _=>False) s₂) (fun _ _=>False) s₁') (fun _ _=>False) s₁) (fun _ _=>False) s)
  (n:Nat) (h:I n s) :
  codeAny (model prog w) A (.compLoop (.ListComp elt [⟨target,iter,ifs,0⟩] scope pos) 0 it acc env) R s:=by
 refine codeAny_loop rfl I (fun n s hI=>?_) n h
 show wpAny _ A ((compTurn (.ListComp elt [⟨target,iter,ifs,0⟩] scope pos) 0 it acc env).onRaise (fun x=>do noteFrame x env; theTreesLotGoes x)) _ _ s
 refine wpAny_noted ?_
 rw [compTurn_list]
 refine wpAny_bind (wpAny_standAt (wpAny_bind (wpAny_mono (turn n s hI) (fun r s₁ h₁=>?_) fun _ _ h'=>h'.elim)))
 cases r with
 | none=>exact wpAny_pure h₁
 | some v =>
  refine wpAny_bind (wpAny_mono h₁ (fun _ s₁' h₁'=>?_) fun _ _ h'=>h'.elim)
  refine wpAny_bind (wpAny_mono h₁' (fun _ s₂ h₂=>wpAny_bind (wpAny_mono h₂ (fun ok s₃ h₃=>?_) fun _ _ h'=>h'.elim)) fun _ _ h'=>h'.elim)
  cases ok with
  | false=>exact wpAny_pure ⟨rfl,h₃⟩
  | true =>
   exact wpAny_bind (wpAny_bind (wpAny_mono h₃ (fun x s₄ h₄=>wpAny_bind (wpAny_mono h₄ (fun _ s₅ h₅=>wpAny_pure (wpAny_pure ⟨rfl,h₅⟩)) fun _ _ h'=>h'.elim)) fun _ _ h'=>h'.elim))
def PN (X:Cx)(ifs:List Expr)(t:TT):Prop :=
 ∀ (pins:List (Addr × Obj)) (s:Shared) (σ:St) (H:Hp) (Q:Bool -> Hp -> Prop),Inv X pins σ H s -> t σ H Q ->
  wpAny (model X.prog X.w) X.A (forIn ifs true fun c r=>if r=true then do let ok ← isTrue c X.env (eval c X.env); pure (ForInStep.yield ok) else pure (ForInStep.yield r)) (TP X pins σ Q) X.xe s
def tYes:TT:=fun _ H Q=>Q true H
section
variable {X:Cx}
theorem yf:PN X [] tYes:=fun _ _ σ H Q I h=>wpAny_pure ⟨H,I,h⟩
theorem pn_one {c:Expr}{t:TT}(h:PT X c t):PN X [c] t:=by
 intro pins s σ H Q I q
 refine PySem.wpAny_tests_one (h pins s σ H Q I q)
end
def zAP (X:Cx)(N:List Str)(scope:Scope)(C:Addr)(s:Shared)(H:Hp)(fp:List Addr):Cx :=
 { X with N:=N,s₀:=s,H₀:=H,env:=compEnvC scope (yd scope X.env) C X.env,outer:=X.stack,stack:=X.stack,ex:=fp,fn:=fun _=>false,pn:=[],xe:=fun _ _=>False }
structure CompBody (X:Cx) (tg:Expr) (ifs:List Expr) (elt:Expr) (g:TG) (tt:TT) (te:TE):Prop where
 tg:PG X tg g
 tt:PN X ifs tt
 te:PE X elt te
def scB (sc xsc:Scope):Bool:=(sc.kind == .function) && sc.names.all fun x=>(x.2 != .cell) && (x.2 != .local || sc.names.lookup x.1 == some .local) && (x.2 != .free || (xsc.names.lookup x.1 == some .cell) || (xsc.names.lookup x.1 == some .free))
def capB (cs:List Nat)(ns XN:List Str)(sc xsc:Scope):Bool:=(cs.zip ns).all fun p=>(XN[p.1]? == some p.2) && (sc.names.lookup p.2 == some .free) && (xsc.names.lookup p.2 != some .local)
def jX (nt:Nat)(cs:List Nat)(σ:St):St:=qQ nt none ++ cs.map fun c=>(σ[c]?).join
def JG (wi:TI)(nt:Nat)(cs:List Nat)(g:TG)(tt:TT)(te:TE):TE:=fun σ H Q=>wi σ H fun J H1=>∀ acc,H1 acc=none ->
 ∃ W:Nat -> Nat -> List V -> St -> Hp -> Prop,(∃ m,W 0 m [] (jX nt cs σ) (upd H1 acc (.lst []))) /\ ∀ i m ys σ' H',W i m ys σ' H' -> H' acc=some (.lst ys) /\
  ((J.stop i H' /\ Q (.ref acc) H') \/ (J.go i H' /\ ys.length < sizeLine /\ ∃ N:List V -> St -> Hp -> Prop,(∀ zs σ2 H2,N zs σ2 H2 -> ∃ m',m' < m /\ W (i+1) m' zs σ2 H2) /\
   ∀ x H2,J.yld i H' x H2 -> g x σ' H2 fun σ3 H3=>tt σ3 H3 fun b H4=>if b=true then te σ3 H4 fun y H5=>H5 acc=some (.lst ys) /\ N (ys ++ [y]) σ3 (upd H5 acc (.lst (ys ++ [y]))) else N ys σ3 H4))
section
variable {X:Cx}
theorem compCx_inv {pins:List (Addr × Obj)}{σ:St}{H:Hp}{s:Shared}{N:List Str}{scope:Scope}{nt:Nat}{cs:List Nat}{fp:List Addr}{h1:Heap}{tk:Nat}(I:Inv X pins σ H s)
  (hsc:scB scope X.env.scope=true) (hcap:capB cs (N.drop nt) X.N scope X.env.scope=true) (hlen:N.length=nt+cs.length)
  (hf:∀ b ∈ fp,FpOk X pins H b) (hfl:∀ b ∈ fp,b < s.heap.objs.size) (hn:h1.Ns s.heap.objs.size fun _=>none) (hk:∀ b o,s.heap.get? b=some o -> h1.get? b=some o) :
  Inv (zAP X N scope s.heap.objs.size s H fp) [] (jX nt cs σ) H { s with heap:=h1,toks:=tk }:=by
 unfold scB at hsc
 rw [zB] at hsc
 obtain ⟨hkd,hall⟩:=hsc
 have hkd:scope.kind = .function:=by simpa using hkd
 rw [zf] at hall
 have nocell:∀ x ∈ scope.names,x.2 ≠ .cell:=fun x hx e=>by have:=hall x hx; rw [e] at this; simp at this
 have free2:∀ x,(x,NameKind.free) ∈ scope.names -> X.env.kindOf x=some .cell \/ X.env.kindOf x=some .free:=fun x hx=>by
  have:=hall _ hx
  simp only [bne_self_eq_false,yX,zB,xE,beq_iff_eq] at this
  exact this.2
 have kinds:∀ x,((zAP X N scope s.heap.objs.size s H fp).env.kindOf x=some .cell \/ (zAP X N scope s.heap.objs.size s H fp).env.kindOf x=some .free) -> (x,NameKind.free) ∈ scope.names:=fun x hx=>by
  have q:∃ k,(relabel scope X.env).names.lookup x=some k /\ (k = .cell \/ k = .free):=by
   rcases hx with e | e
   ·exact ⟨_,e,.inl rfl⟩
   ·exact ⟨_,e,.inr rfl⟩
  obtain ⟨k,e,hk'⟩:=q
  obtain ⟨k0,e0,r⟩:=ye e
  have m:=PySem.mem_of_lookup e0
  rcases r with r | ⟨r,_⟩
  ·subst r
   rcases hk' with z | z
   ·exact absurd z (nocell _ m)
   ·rw [z] at m; exact m
  ·rw [r] at m; exact m
 have cellOf:∀ x c,(yd scope X.env).lookup x=some c -> X.env.cells.lookup x=some c:=fun x c e=>mem_clos e
 have clt:∀ x c,X.env.cells.lookup x=some c -> c < s.heap.objs.size:=fun x c e=>by
  obtain ⟨v,q⟩:=I.cell x c e
  exact q.lt
 refine ⟨⟨I.ok.mod,?_,I.ok.glob,I.ok.blt,zG _,?_,?_,?_,I.ok.hd,I.ok.frames,.inl rfl,?_,?_,?_,?_,?_,?_,?_⟩,rfl,I.bare,Un.kept hk,⟨_,hn,?_⟩,?_,?_,?_,?_,I.hok.kept hk,?_⟩
 ·show (relabel scope X.env).kind=_
  exact hkd
 ·intro x y c e1 e2
  exact I.ok.inj x y c (cellOf x c e1) (cellOf y c e2)
 ·intro x hx
  have m:=kinds x hx
  obtain ⟨c,hc⟩:=I.ok.has x (free2 x m)
  exact ⟨c,J3 m hc⟩
 ·intro x c z
  cases z
 ·intro b hb
  obtain ⟨f0,f1,f2,f3,f4,f5⟩:=hf b hb
  exact ⟨zN (hfl b hb),fun x c e=>f4 x c (cellOf x c e)⟩
 ·intro b o e
  exact I.bs b o e
 ·exact zD I.ok.bsz I.sz
 ·intro b o e hb
  obtain ⟨f0,f1,f2,f3,f4,f5⟩:=hf b hb
  rcases f3 with z | z
  ·exact I.ok.noex b o e z
  ·exact absurd (qJ (Heap.lt_size (I.ok.bs b o e).1) z) (zq _)
 ·intro b hb hs
  obtain ⟨f0,f1,f2,f3,f4,f5⟩:=hf b hb
  rcases zI.mp (I.stkSub b hs) with z | z
  ·exact f1 z
  ·exact f2 z
 ·exact I.stack
 ·exact I.stkFree
 ·intro i x v e1 e2 _
  have hi:nt <= i:=by
   refine Nat.le_of_not_lt fun z=>?_
   unfold jX at e2
   rw [qH (by simpa using z),List.getElem?_replicate,if_pos z] at e2
   cases e2
  unfold jX at e2
  rw [qG (by simpa using hi),qL,qI] at e2
  cases q:cs[i - nt]? with
  | none=>rw [q] at e2; cases e2
  | some c =>
   rw [q] at e2
   simp only [Option.map_some,Option.some.injEq] at e2
   have e3:σ[c]? = some (some v):=by
    cases z:σ[c]? with
    | none=>rw [z] at e2; cases e2
    | some o=>rw [z] at e2; exact congrArg some e2
   unfold capB at hcap
   rw [zf] at hcap
   have e4:(N.drop nt)[i - nt]? = some x:=by
    rw [List.getElem?_drop,show nt+(i - nt)=i by omega]
    exact e1
   have m:(c,x) ∈ cs.zip (N.drop nt):=by
    have:(cs.zip (N.drop nt))[i - nt]? = some (c,x):=by rw [List.getElem?_zip_eq_some]; exact ⟨q,e4⟩
    exact qE this
   have hm:=hcap _ m
   simp only [zB,beq_iff_eq,bne_iff_ne,ne_eq] at hm
   obtain ⟨⟨h1',h2'⟩,h3'⟩:=hm
   have hlk:scope.names.lookup x=some .free:=h2'
   have h2':(x,NameKind.free) ∈ scope.names:=PySem.mem_of_lookup hlk
   obtain ⟨mm,hmm,hl⟩:=I.loc
   have vis:Vis X.env.scope x:=.inr (free2 x h2')
   obtain ⟨u,r,l⟩:=hl c x v h1' e3 vis
   rcases l with ⟨z,_⟩ | ⟨z,d,hd,hcell⟩
   ·exact absurd z h3'
   ·refine ⟨u,r,.inr ⟨?_,d,J3 h2' hd,?_⟩⟩
    ·-- its kind in the block
     have isf:∃ k,(relabel scope X.env).names.lookup x=some k:=by
      have:∃ k',(x,k') ∈ (relabel scope X.env).names:=by
       unfold relabel
       by_cases cc:(X.env.scope.kind == .function && X.env.kindOf x == some .cell)=true
       ·refine ⟨.cell,qP.mpr ⟨(x,.free),h2',?_⟩⟩
        simp only [zB] at cc
        simp [cc.1,cc.2]
       ·refine ⟨.free,qP.mpr ⟨(x,.free),h2',?_⟩⟩
        simp only [zB] at cc
        have cc':¬ ((NameKind.free == NameKind.free && X.env.scope.kind == .function && X.env.kindOf x == some .cell)=true):=by
         simp only [beq_self_eq_true,xL,zB]
         exact cc
        show (if (NameKind.free == NameKind.free && X.env.scope.kind == .function && X.env.kindOf x == some .cell)=true then (x,NameKind.cell) else (x,NameKind.free))=(x,NameKind.free)
        rw [if_neg cc']
      obtain ⟨k',hk'⟩:=this
      exact j6 hk'
     obtain ⟨k,ek⟩:=isf
     obtain ⟨k0,e0,rr⟩:=ye ek
     rcases rr with rr | ⟨_,rr⟩
     ·subst rr
      rw [hlk] at e0
      cases e0
      exact .inr ek
     ·subst rr
      exact .inl ek
    ·obtain ⟨o,ho,hd'⟩:=hcell
     exact ⟨o,hk _ _ ho,hd'⟩
 ·intro x c e
  obtain ⟨v,o,ho,hd⟩:=I.cell x c (cellOf x c e)
  exact ⟨v,o,hk _ _ ho,hd⟩
 ·exact I.hok.fresh (zG _)
 ·intro x c e
  exact I.freeC x c (cellOf x c e)
 ·intro p hp
  cases hp
 ·show (jX nt cs σ).length=N.length
  unfold jX
  rw [qF,qL,qC,hlen]
theorem un_same {fs ex:List Addr}{H H':Hp}{h h1 h':Heap}{C:Addr}(u:Un fs ex H H' h h1)(hs:Heap.SameBut C h1 h')(hC:h.objs.size <= C):Un fs ex H H' h h' where
 keep:=fun b o e n hb hx=>(hs.2 b (zN (qJ (Heap.lt_size e) hC))).trans (u.keep b o e n hb hx)
 slot:=fun b o e n hb hx=>by
  obtain ⟨sl,q⟩:=u.slot b o e n hb hx
  exact ⟨sl,(hs.2 b (zN (qJ (Heap.lt_size e) hC))).trans q⟩
 free:=u.free
 there:=fun b o e hx=>by
  obtain ⟨o',q⟩:=u.there b o e hx
  exact ⟨o',(hs.2 b (zN (qJ (Heap.lt_size e) hC))).trans q⟩
 tups:=u.tups
 frzs:=u.frzs
 tbls:=u.tbls
theorem hok_same {P:Program}{w:World}{H:Hp}{h h':Heap}{C:Addr}(x:HOk P w H h)(hs:Heap.SameBut C h h')(hC:H C=none):HOk P w H h':=fun b u e =>
 (x b u e).stay (fun c v hc q=>(hs.2 c (fun z=>by
  subst z
  rcases hc with z | z
  ·subst z; rw [hC] at e; cases e
  ·rw [hC] at z; cases z)).trans q) (fun _ q=>q) fun _ _ q=>q
theorem yE {tg iter elt:Expr}{ifs:List Expr}{scope:Scope}{pos:Pos}{wi:TI}{N:List Str}{nt:Nat}{cs:List Nat}{g:TG}{tt:TT}{te:TE}(hc:X.calm=true)(hi:PI X tg iter wi)
  (hb:N.Nodup -> ∀ (C:Addr) (s:Shared) (H:Hp) (fp:List Addr),CompBody (zAP X N scope C s H fp) tg ifs elt g tt te)
  (hnd:N.Nodup) (hsc:scB scope X.env.scope=true) (hcap:capB cs (N.drop nt) X.N scope X.env.scope=true) (hlen:N.length=nt+cs.length)
  (hs:∀ x,foldedSetIterable iter X.env x=pure x):PE X (.ListComp elt [⟨tg,iter,ifs,0⟩] scope pos) (JG wi nt cs g tt te):=by
 intro pins s σ H Q I h
 have hsc':=hsc
 unfold scB at hsc'
 rw [zB] at hsc'
 obtain ⟨hkd,hall⟩:=hsc'
 have hkd:scope.kind = .function:=by simpa using hkd
 rw [zf] at hall
 have nocell:∀ x ∈ scope.names,x.2 ≠ .cell:=fun x hx e=>by have:=hall x hx; rw [e] at this; simp at this
 have hnames:∀ x ∈ scope.names,x.2 = .local -> scope.names.lookup x.1=some .local:=fun x hx e=>by
  have:=hall x hx
  rw [e] at this
  simp only [bne_self_eq_false,yX,zB,beq_iff_eq] at this
  exact this.1.2
 have hclos:closureFor scope X.env=pure (yd scope X.env):=Jj fun x hx e=>by
  have:=hall x hx
  rw [e] at this
  simp only [bne_self_eq_false,yX,zB,xE,beq_iff_eq] at this
  exact I.ok.has x.1 this.2
 rw [eval_ListComp]
 refine wpAny_comprehension_free (use:=none) rfl hs hclos hkd hnames (thn (hi pins s σ H _ I h) fun v s1 h1=>thn h1 fun itv s2 h2=>?_)
 obtain ⟨it,fp,tn,J,H2,e,I2,T,st2,f2,hR⟩:=h2
 subst e
 refine wpAny_newObj_type (wpAny_newFunctionEnv nocell (by intro y hy; simp at hy) (fun h3 hn3 hs3=>?_) hkd)
 have fr:=I2.fresh
 have I3:Inv X pins σ (upd H2 s2.heap.objs.size (.lst [])) { s2 with heap:=s2.heap.push { cls:=.type "list",data:=.seq ([]:List Value).toArray },toks:=s2.toks }:=I2.lnew .nil (zg (by decide))
 obtain ⟨W,⟨m0,w0⟩,turn⟩:=hR _ fr
 generalize hacc:s2.heap.objs.size=acc at *
 generalize hsx:({ s2 with heap:=s2.heap.push { cls:=.type "list",data:=.seq ([]:List Value).toArray },toks:=s2.toks }:Shared)=sx at *
 have hC:sx.heap.objs.size=acc+1:=by rw [← hsx,← hacc]; exact Heap.size_push _ _
 have fpl:∀ b ∈ fp,b < acc:=fun b hb=>by
  obtain ⟨o,ho,_⟩:=T.obj _ _ st2 b hb
  rw [← hacc]
  exact Heap.lt_size ho
 have f3:∀ b ∈ fp,FpOk X pins (upd H2 acc (.lst [])) b:=fun b hb=>by
  obtain ⟨f0,f1⟩:=f2 b hb
  exact ⟨by rw [upd_ne (zN (fpl b hb))]; exact f0,f1⟩
 have keep3:∀ b o,sx.heap.get? b=some o -> h3.get? b=some o:=fun b o e=>by
  have hne:b ≠ sx.heap.objs.size:=zN (Heap.lt_size e)
  exact (hs3.2 b hne).trans (Heap.get?_push_of_some _ e)
 have IC:Inv (zAP X N scope sx.heap.objs.size sx (upd H2 acc (.lst [])) fp) [] (jX nt cs σ) (upd H2 acc (.lst [])) { sx with heap:=h3,toks:=sx.toks+([]:List (Str × Value)).length } :=
  compCx_inv I3 hsc hcap hlen f3 (fun b hb=>by rw [hC]; exact xG (fpl b hb)) (by simpa using hn3) keep3
 have hn3':H2 acc=none:=fr
 generalize hXC:zAP X N scope sx.heap.objs.size sx (upd H2 acc (.lst [])) fp=XC at IC
 have ctxP:XC.prog=X.prog:=by rw [← hXC]; rfl
 have ctxW:XC.w=X.w:=by rw [← hXC]; rfl
 have ctxK:XC.K=X.K:=by rw [← hXC]; rfl
 have ctxA:XC.A=X.A:=by rw [← hXC]; rfl
 have ctxC:XC.calm=true:=by rw [← hXC]; exact hc
 have ctxX:XC.xe=fun _ _=>False:=by rw [← hXC]; rfl
 have ctxE:XC.env=compEnvC scope (yd scope X.env) sx.heap.objs.size X.env:=by rw [← hXC]; rfl
 have body:CompBody XC tg ifs elt g tt te:=by rw [← hXC]; exact hb hnd _ _ _ _
 have st3:tn 0 h3:=T.keep _ _ _ st2 fun b hb o e=>keep3 b o (by rw [← hsx]; exact Heap.get?_push_of_some _ e)
 have stat:∀ {H':Hp},(∀ b ∈ fp,H' b=none) -> ∀ b ∈ fp,FpOk XC [] H' b:=fun hn b hb=>by
  obtain ⟨f0,f1,f2',f3',f4,f5⟩:=f3 b hb
  refine ⟨hn b hb,?_,?_,.inl (by rw [← hXC]; exact hb),fun x c e=>?_,fun p hp=>?_⟩
  ·rw [ctxE]
   exact zN (by rw [hC]; exact xG (fpl b hb))
  ·rw [← hXC]
   intro z
   rcases zI.mp (I3.stkSub b z) with z | z
   ·exact f1 z
   ·exact f2' z
  ·rw [ctxE] at e
   exact f4 x c (mem_clos e)
  ·rw [← hXC] at hp
   cases hp
 have fin:∀ {σ':St} {H':Hp} {s':Shared},Inv XC [] σ' H' s' -> Q (.ref acc) H' -> compPost (model X.prog X.w) X.A X.xe none (EP X pins σ Q) (.ref acc) sx.heap.objs.size (.ok .next) s':=by
  intro σ' H' s' J' q
  obtain ⟨m,hm,_⟩:=J'.loc
  have hfree:=J'.free
  rw [ctxE] at hm hfree
  refine ⟨m,hm,fun h' hs'=>⟨.ref acc,H',?_,rfl,q⟩⟩
  have u:=J'.base
  rw [← hXC] at u
  have ok:=J'.hok
  rw [ctxP,ctxW] at ok
  have os:=J'.os
  rw [← hXC] at os
  refine I3.call' (s':={ s' with heap:=h' }) os (un_same u hs' (zG _)) (hok_same ok hs' hfree) J'.bare fun b hb=>?_
  obtain ⟨f0,f1,f2',f3',f4,f5⟩:=f3 b hb
  exact ⟨f3',f1,f4,f5⟩
 have loop:codeAny (model X.prog X.w) X.A (.compLoop (.ListComp elt [⟨tg,iter,ifs,0⟩] scope pos) 0 (.ref it) (.ref acc) XC.env) (compPost (model X.prog X.w) X.A X.xe none (EP X pins σ Q) (.ref acc) sx.heap.objs.size)
   { sx with heap:=h3,toks:=sx.toks+([]:List (Str × Value)).length }:=by
  rw [← ctxP,← ctxW,← ctxA]
  refine x6 (fun n s'=>∃ i ys σ' H',Inv XC [] σ' H' s' /\ tn i s'.heap /\ (∀ b ∈ fp,H' b=none) /\ W i n ys σ' H') ?_ m0 ⟨0,[],_,_,IC,st3,fun b hb=>(f3 b hb).1,w0⟩
  rintro n s3 ⟨i,ys,σ3,H3,I3',st3',fr3,w3⟩
  have T':=T
  rw [← ctxP,← ctxW,← ctxK] at T'
  obtain ⟨hacc3,alt⟩:=turn i n ys σ3 H3 w3
  rcases alt with ⟨stop,qn⟩ | ⟨go,hsz,NN,hNN,step⟩
  ·refine thn (T'.done XC rfl rfl rfl ctxC i [] s3 σ3 H3 _ I3' (stat fr3) st3' stop) fun r s4 ⟨hr,I4⟩=>?_
   subst hr
   rw [ctxP,ctxW,ctxA]
   exact fin I4 qn
  ·refine thn (T'.item XC rfl rfl rfl ctxC i [] s3 σ3 H3 _ I3' (stat fr3) st3' go) fun r s4 ⟨u,hr,h4⟩=>?_
   subst hr
   refine thn h4 fun _ s5 ⟨x,H5,I5,r5,y5,st5,fr5⟩=>?_
   have I5':=I5.pinned (stat fr5) (T'.obj _ _ st5)
   have a1:=body.tg _ s5 σ3 H5 x u _ I5' r5 (step x H5 y5)
   rw [ctxX] at a1
   refine thn a1 fun _ s6 ⟨σ6,H6,I6,q6⟩=>?_
   have a2:=body.tt _ s6 σ6 H6 _ I6 q6
   rw [ctxX] at a2
   refine thn a2 fun b s7 ⟨H7,I7,q7⟩=>?_
   have again:∀ {s8:Shared} {σ7:St} {H7:Hp} {zs:List V},Inv XC ([] ++ zAL fp s5.heap) σ7 H7 s8 -> NN zs σ7 H7 -> ∃ m,m < n /\ ∃ i ys σ' H',Inv XC [] σ' H' s8 /\ tn i s8.heap /\ (∀ b ∈ fp,H' b=none) /\ W i m ys σ' H':=fun {s8 σ7 H7 zs} I7 n7=>by
    obtain ⟨m',hm,w7⟩:=hNN zs σ7 H7 n7
    refine ⟨m',hm,i+1,zs,σ7,H7,I7.unpinned,T'.keep _ _ _ st5 fun b hb o e=>(I7.pin (b,o) (qK _ (qK _ (xo hb e)))).1,fun b hb=>?_,w7⟩
    obtain ⟨o,e,d⟩:=T'.obj _ _ st5 b hb
    exact (I7.pin (b,o) (qK _ (qK _ (xo hb e)))).2.1
   cases b with
   | false =>
    rw [if_neg zQ] at q7 ⊢
    exact again I7 q7
   | true =>
    rw [if_pos rfl] at q7 ⊢
    have a3:=body.te _ s7 σ6 H7 _ I7 q7
    rw [ctxX] at a3
    refine thn a3 fun xv s8 ⟨y,H8,I8,r8,q8⟩=>?_
    obtain ⟨hl8,n8⟩:=q8
    have a4:=mt_append (X:=XC) _ s8 σ6 H8 (.ref acc) [y] (.ref acc) [xv] (fun _ H9=>NN (ys ++ [y]) σ6 H9) I8 rfl (.cons r8 .nil) ⟨acc,ys,y,rfl,rfl,hl8,hsz,n8⟩
    rw [ctxX] at a4
    refine thn a4 fun _ s9 ⟨_,H9,I9,_,q9⟩=>?_
    exact again I9 q9
 rw [ctxE] at loop
 exact codeAny_compStart_list loop (T.self X.A 0 _ _ _ st3 loop)
end
end L2
namespace L2
open PySem PySem.Spec PyProof.Rows
inductive Dt where
 | f (x:V)
 | l (xs:List Dt)
 | t (xs:List Dt)
mutual
def Is (K:zA)(H:Hp)(x:V):Dt -> Prop
 | .f y=>x=y /\ yw y=true
 | .l ds=>∃ p xs,x = .ref p /\ SqL K H p xs /\ IsL K H xs ds
 | .t ds=>∃ p xs,x = .ref p /\ SqT K H p xs /\ IsL K H xs ds
def IsL (K:zA)(H:Hp)(xs:List V):List Dt -> Prop
 | []=>xs=[]
 | d :: ds=>∃ x r,xs=x :: r /\ Is K H x d /\ IsL K H r ds
end
mutual
def deq:Dt -> Dt -> Bool
 | .f x,.f y=>eqV x y
 | .l xs,.l ys=>xp xs ys
 | .t xs,.t ys=>xp xs ys
 | _,_=>false
def xp:List Dt -> List Dt -> Bool
 | [],[]=>true
 | x :: xs,y :: ys=>deq x y && xp xs ys
 | _,_=>false
end
mutual
def dep:Dt -> Nat
 | .f _=>0
 | .l xs=>depL xs+1
 | .t xs=>depL xs+1
def depL:List Dt -> Nat
 | []=>0
 | d :: ds=>max (dep d) (depL ds)
end
theorem IsL.len {K:zA}{H:Hp}:∀ {ds:List Dt} {xs:List V},IsL K H xs ds -> xs.length=ds.length
 | [],xs,h=>by rw [IsL] at h; subst h; rfl
 | d :: ds,xs,h=>by
  rw [IsL] at h
  obtain ⟨x,r,rfl,_,h⟩:=h
  rw [zP,zP,IsL.len h]
theorem IsL.get {K:zA}{H:Hp}:∀ {ds:List Dt} {xs:List V} {j:Nat} {x:V},IsL K H xs ds -> xs[j]? = some x -> ∃ d,ds[j]? = some d /\ Is K H x d
 | [],xs,j,x,h,e=>by rw [IsL] at h; subst h; simp at e
 | d :: ds,xs,j,x,h,e=>by
  rw [IsL] at h
  obtain ⟨y,r,rfl,hy,h⟩:=h
  cases j with
  | zero=>simp at e; subst e; exact ⟨d,rfl,hy⟩
  | succ j=>exact IsL.get (j:=j) h (by simpa using e)
theorem depL_mem {ds:List Dt}:∀ {d:Dt} {j:Nat},ds[j]? = some d -> dep d <= depL ds:=by
 induction ds with
 | nil=>intro d j e; simp at e
 | cons a r ih =>
  intro d j e
  rw [depL]
  cases j with
  | zero=>simp at e; subst e; omega
  | succ j=>have:=ih (d:=d) (j:=j) (by simpa using e); omega
mutual
theorem J4:∀ (d:Dt) {K:zA} {H:Hp} {x:V},Is K H x d -> deq d d=true
 | .f y,K,H,x,h=>by
  rw [Is] at h
  rw [deq]
  have hy:=h.2
  cases y <;> first | (simp [eqV]; done) | (exact absurd hy (by decide)) | (cases hy)
 | .l ds,K,H,x,h=>by
  rw [Is] at h
  obtain ⟨p,xs,_,_,h⟩:=h
  rw [deq]
  exact zAQ ds h
 | .t ds,K,H,x,h=>by
  rw [Is] at h
  obtain ⟨p,xs,_,_,h⟩:=h
  rw [deq]
  exact zAQ ds h
theorem zAQ:∀ (ds:List Dt) {K:zA} {H:Hp} {xs:List V},IsL K H xs ds -> xp ds ds=true
 | [],_,_,_,_=>by rw [xp]
 | d :: ds,K,H,xs,h=>by
  rw [IsL] at h
  obtain ⟨y,r,_,hy,h⟩:=h
  rw [xp,J4 d hy,zAQ ds h]
  rfl
end
theorem deqL_get:∀ {ds es:List Dt},xp ds es=(decide (ds.length=es.length) && (zy ds.length).all fun j=>match ds[j]?,es[j]? with | some d,some e=>deq d e | _,_=>false)
 | [],[]=>by simp [xp]
 | [],e :: es=>by simp [xp]
 | d :: ds,[]=>by simp [xp]
 | d :: ds,e :: es=>by
  rw [xp,deqL_get]
  have r:zy (d :: ds).length=0 :: (zy ds.length).map (· + 1):=by rw [zP,List.range_succ_eq_map]
  rw [r,je,List.all_map]
  simp only [jy,zP,Nat.add_right_cancel_iff]
  have c:((fun j=>match (d :: ds)[j]?,(e :: es)[j]? with | some d,some e=>deq d e | _,_=>false) ∘ fun x=>x+1)=(fun j=>match ds[j]?,es[j]? with | some d,some e=>deq d e | _,_=>false):=by
   funext j
   simp
  rw [c]
  cases deq d e <;> cases decide (ds.length=es.length) <;> rfl
section
variable {X:Cx}{pins:List (Addr × Obj)}{σ:St}{H:Hp}{s:Shared}
mutual
theorem Is.inj:∀ (d:Dt) {e:Dt} {x:V},Inv X pins σ H s -> Is X.K H x d -> Is X.K H x e -> (∀ p xs ys,SqL X.K H p xs -> ¬ SqT X.K H p ys) -> d=e
 | .f y,e,x,I,h,h',hk=>by
  rw [Is] at h
  obtain ⟨rfl,hy⟩:=h
  cases e with
  | f z=>rw [Is] at h'; rw [h'.1]
  | l ds=>rw [Is] at h'; obtain ⟨p,xs,e,_⟩:=h'; subst e; cases hy
  | t ds=>rw [Is] at h'; obtain ⟨p,xs,e,_⟩:=h'; subst e; cases hy
 | .l ds,e,x,I,h,h',hk=>by
  rw [Is] at h
  obtain ⟨p,xs,rfl,hs,h⟩:=h
  cases e with
  | f z=>rw [Is] at h'; obtain ⟨e,hz⟩:=h'; subst e; cases hz
  | l es =>
   rw [Is] at h'
   obtain ⟨q,ys,e,hs',h'⟩:=h'
   cases e
   rw [I.list_inj hs' hs] at h'
   rw [IsL.inj ds I h h' hk]
  | t es =>
   rw [Is] at h'
   obtain ⟨q,ys,e,hs',h'⟩:=h'
   cases e
   exact absurd hs' (hk _ _ _ hs)
 | .t ds,e,x,I,h,h',hk=>by
  rw [Is] at h
  obtain ⟨p,xs,rfl,hs,h⟩:=h
  cases e with
  | f z=>rw [Is] at h'; obtain ⟨e,hz⟩:=h'; subst e; cases hz
  | l es =>
   rw [Is] at h'
   obtain ⟨q,ys,e,hs',h'⟩:=h'
   cases e
   exact absurd hs (hk _ _ _ hs')
  | t es =>
   rw [Is] at h'
   obtain ⟨q,ys,e,hs',h'⟩:=h'
   cases e
   rw [I.tuple_inj hs' hs] at h'
   rw [IsL.inj ds I h h' hk]
theorem IsL.inj:∀ (ds:List Dt) {es:List Dt} {xs:List V},Inv X pins σ H s -> IsL X.K H xs ds -> IsL X.K H xs es -> (∀ p xs ys,SqL X.K H p xs -> ¬ SqT X.K H p ys) -> ds=es
 | [],es,xs,I,h,h',hk=>by
  rw [IsL] at h
  subst h
  cases es with
  | nil=>rfl
  | cons e es=>rw [IsL] at h'; obtain ⟨_,_,e,_⟩:=h'; cases e
 | d :: ds,es,xs,I,h,h',hk=>by
  rw [IsL] at h
  obtain ⟨y,r,rfl,hy,h⟩:=h
  cases es with
  | nil=>rw [IsL] at h'; cases h'
  | cons e es =>
   rw [IsL] at h'
   obtain ⟨y',r',e1,hy',h'⟩:=h'
   cases e1
   rw [Is.inj d I hy hy' hk,IsL.inj ds I h h' hk]
end
theorem Inv.apart (I:Inv X pins σ H s):∀ p xs ys,SqL X.K H p xs -> ¬ SqT X.K H p ys:=fun p xs ys h h'=>by
 obtain ⟨its,_,⟨o,n,e,c,_⟩,_⟩:=I.list h
 obtain ⟨its',_,⟨o',e',c',_⟩,_⟩:=I.tuple h'
 rw [e] at e'
 cases e'
 rw [c] at c'
 exact absurd c' (by decide)
theorem eqAt_F {x:V}(e:Dt){A:Around}{y:V}{u v:Value}(hu:A.units < cLine)(I:Inv X pins σ H s)(fx:yw x=true)(hy:Is X.K H y e)(rx:RelV x u)(ry:RelV y v):SeqAt.EqAt A s u v (deq (.f x) e):=by
 cases e with
 | f y' =>
  rw [Is] at hy
  obtain ⟨rfl,fy⟩:=hy
  rw [deq]
  exact eqAt_V rx ry fx fy
 | l ds =>
  rw [Is] at hy
  obtain ⟨p,ys,rfl,hs,_⟩:=hy
  cases ry
  obtain ⟨its,_,pl,_⟩:=I.list hs
  have hl:=pl.isList
  rw [show deq (.f x) (.l ds)=false by rw [deq]; all_goals (intros; simp_all)]
  cases x with
  | non=>cases rx; exact SeqAt.EqAt.none_list hl hu
  | bl b=>cases rx; exact SeqAt.EqAt.bool_list b hl hu
  | int i=>obtain ⟨t,rfl⟩:=rx; exact SeqAt.EqAt.int_list i t hl hu
  | str z=>obtain ⟨t,rfl⟩:=rx; exact SeqAt.EqAt.str_list z t hl hu
  | _=>cases fx
 | t ds =>
  rw [Is] at hy
  obtain ⟨p,ys,rfl,hs,_⟩:=hy
  cases ry
  obtain ⟨its,_,pl,_⟩:=I.tuple hs
  have hl:s.heap.IsTuple p its.toArray:=pl
  rw [show deq (.f x) (.t ds)=false by rw [deq]; all_goals (intros; simp_all)]
  cases x with
  | non=>cases rx; exact SeqAt.EqAt.none_tuple hl hu
  | bl b=>cases rx; exact SeqAt.EqAt.bool_tuple b hl hu
  | int i=>obtain ⟨t,rfl⟩:=rx; exact SeqAt.EqAt.int_tuple i t hl hu
  | str z=>obtain ⟨t,rfl⟩:=rx; exact SeqAt.EqAt.str_tuple z t hl hu
  | _=>cases fx
def deqAt (ds es:List Dt)(j:Nat):Bool:=match ds[j]?,es[j]? with | some d,some e=>deq d e | _,_=>false
theorem elems {n:Nat}{A:Around}(ih:∀ (d e:Dt) {A:Around} {x y:V} {u v:Value},dep d <= n -> A.units+n < cLine -> Inv X pins σ H s -> Is X.K H x d -> Is X.K H y e -> RelV x u -> RelV y v -> SeqAt.EqAt A s u v (deq d e))(hu:A.units+(n+1) < cLine)(I:Inv X pins σ H s)
  {ds es:List Dt} {xs ys:List V} {its its':List Value} (hd:depL ds <= n) (hx:IsL X.K H xs ds) (hy:IsL X.K H ys es) (rx:Vals xs its) (ry:Vals ys its') :
  ∀ j (h1:j < its.toArray.size) (h2:j < its'.toArray.size),SeqAt.EqAt A.in1 s its.toArray[j] its'.toArray[j] (deqAt ds es j):=by
 intro j h1 h2
 have l1:=rx.length
 have l2:=ry.length
 have k1:j < xs.length:=by simpa [l1] using h1
 have k2:j < ys.length:=by simpa [l2] using h2
 obtain ⟨d,e1,q1⟩:=hx.get (qA k1)
 obtain ⟨e,e2,q2⟩:=hy.get (qA k2)
 obtain ⟨u,hu',ru⟩:=rx.get (qA k1)
 obtain ⟨v,hv',rv⟩:=ry.get (qA k2)
 have f1:its.toArray[j]=u:=by
  have:its[j]? = some its.toArray[j]:=by simp
  rw [hu'] at this
  exact (Option.some.inj this).symm
 have f2:its'.toArray[j]=v:=by
  have:its'[j]? = some its'.toArray[j]:=by simp
  rw [hv'] at this
  exact (Option.some.inj this).symm
 rw [f1,f2]
 unfold deqAt
 rw [e1,e2]
 exact ih d e (zD (depL_mem e1) hd) (by rw [Around.in1_units]; omega) I q1 q2 ru rv
theorem JQ {ds es:List Dt}(h:ds.length=es.length):(zy ds.length).all (deqAt ds es)=xp ds es:=by
 rw [deqL_get,decide_eq_true h,xL]
 rfl
theorem JR {ds es:List Dt}(h:ds.length ≠ es.length):xp ds es=false:=by
 rw [deqL_get,decide_eq_false h,Bool.false_and]
theorem rcAt_D:∀ (n:Nat) (d e:Dt) {A:Around} {x y:V} {u v:Value},dep d <= n -> A.units+n < cLine -> Inv X pins σ H s -> Is X.K H x d -> Is X.K H y e -> RelV x u -> RelV y v -> SeqAt.EqAt A s u v (deq d e) /\ (∀ p,x = .ref p -> SeqAt.RcAt A s u v (deq d e))
 | n,.f x',e,A,x,y,u,v,hn,hu,I,hx,hy,rx,ry=>by
  rw [Is] at hx
  obtain ⟨rfl,fx⟩:=hx
  exact ⟨eqAt_F e (by omega) I fx hy rx ry,fun p e=>by subst e; cases fx⟩
 | 0,.l ds,e,A,x,y,u,v,hn,hu,I,hx,hy,rx,ry=>by rw [dep] at hn; omega
 | 0,.t ds,e,A,x,y,u,v,hn,hu,I,hx,hy,rx,ry=>by rw [dep] at hn; omega
 | n+1,.l ds,e,A,x,y,u,v,hn,hu,I,hx,hy,rx,ry=>by
  rw [dep] at hn
  have hx0:=hx
  rw [Is] at hx
  obtain ⟨p,xs,rfl,hs,hxs⟩:=hx
  cases rx
  obtain ⟨its,rv,pl,_⟩:=I.list hs
  have hl:=pl.isList
  have hu':A.units < cLine:=by omega
  have ih:=fun (d e:Dt) {A:Around} {x y:V} {u v:Value} (a:dep d <= n) (b:A.units+n < cLine) (c:Inv X pins σ H s) (f:Is X.K H x d) (g:Is X.K H y e) (h:RelV x u) (i:RelV y v)=>(rcAt_D n d e a b c f g h i).1
  cases e with
  | f y' =>
   rw [Is] at hy
   obtain ⟨rfl,fy⟩:=hy
   rw [show deq (.l ds) (.f y)=false by rw [deq]; all_goals (intros; simp_all)]
   cases y with
   | non=>cases ry; exact ⟨SeqAt.EqAt.list_none hl hu',fun _ _=>SeqAt.RcAt.list_none hl hu'⟩
   | bl b=>cases ry; exact ⟨SeqAt.EqAt.list_bool b hl hu',fun _ _=>SeqAt.RcAt.list_bool b hl hu'⟩
   | int i=>obtain ⟨t,rfl⟩:=ry; exact ⟨SeqAt.EqAt.list_int i t hl hu',fun _ _=>SeqAt.RcAt.list_int i t hl hu'⟩
   | str z=>obtain ⟨t,rfl⟩:=ry; exact ⟨SeqAt.EqAt.list_str z t hl hu',fun _ _=>SeqAt.RcAt.list_str z t hl hu'⟩
   | _=>cases fy
  | l es =>
   have hy0:=hy
   rw [Is] at hy
   obtain ⟨q,ys,rfl,hs',hys⟩:=hy
   cases ry
   obtain ⟨its',rv',pl',_⟩:=I.list hs'
   have hl':=pl'.isList
   have e1:its.toArray.size=ds.length:=by rw [qM,← rv.length,hxs.len]
   have e2:its'.toArray.size=es.length:=by rw [qM,← rv'.length,hys.len]
   have rc:SeqAt.RcAt A s (.ref p) (.ref q) (deq (.l ds) (.l es)):=by
    rw [deq]
    by_cases hz:ds.length=es.length
    ·have:=SeqAt.RcAt.lists hl hl' (by omega) hu' (elems ih hu I (by omega) hxs hys rv rv')
     rw [e1,JQ hz] at this
     exact this
    ·rw [JR hz]
     exact SeqAt.RcAt.lists_lengths hl hl' (by rw [bne_iff_ne]; omega) hu'
   refine ⟨?_,fun _ _=>rc⟩
   by_cases hpq:p=q
   ·subst hpq
    have:=Is.inj _ I hx0 hy0 I.apart
    rw [← this,J4 _ hx0]
    exact SeqAt.EqAt.same _
   ·exact SeqAt.EqAt.of_refs hpq rc
  | t es =>
   rw [Is] at hy
   obtain ⟨q,ys,rfl,hs',hys⟩:=hy
   cases ry
   obtain ⟨its',rv',pl',_⟩:=I.tuple hs'
   have hl':s.heap.IsTuple q its'.toArray:=pl'
   rw [show deq (.l ds) (.t es)=false by rw [deq]; all_goals (intros; simp_all)]
   exact ⟨SeqAt.EqAt.list_tuple hl hl' hu',fun _ _=>SeqAt.RcAt.list_tuple hl hl' hu'⟩
 | n+1,.t ds,e,A,x,y,u,v,hn,hu,I,hx,hy,rx,ry=>by
  rw [dep] at hn
  have hx0:=hx
  rw [Is] at hx
  obtain ⟨p,xs,rfl,hs,hxs⟩:=hx
  cases rx
  obtain ⟨its,rv,pl,_⟩:=I.tuple hs
  have hl:s.heap.IsTuple p its.toArray:=pl
  have hu':A.units < cLine:=by omega
  have ih:=fun (d e:Dt) {A:Around} {x y:V} {u v:Value} (a:dep d <= n) (b:A.units+n < cLine) (c:Inv X pins σ H s) (f:Is X.K H x d) (g:Is X.K H y e) (h:RelV x u) (i:RelV y v)=>(rcAt_D n d e a b c f g h i).1
  cases e with
  | f y' =>
   rw [Is] at hy
   obtain ⟨rfl,fy⟩:=hy
   rw [show deq (.t ds) (.f y)=false by rw [deq]; all_goals (intros; simp_all)]
   cases y with
   | non=>cases ry; exact ⟨SeqAt.EqAt.tuple_none hl hu',fun _ _=>SeqAt.RcAt.tuple_none hl hu'⟩
   | bl b=>cases ry; exact ⟨SeqAt.EqAt.tuple_bool b hl hu',fun _ _=>SeqAt.RcAt.tuple_bool b hl hu'⟩
   | int i=>obtain ⟨t,rfl⟩:=ry; exact ⟨SeqAt.EqAt.tuple_int i t hl hu',fun _ _=>SeqAt.RcAt.tuple_int i t hl hu'⟩
   | str z=>obtain ⟨t,rfl⟩:=ry; exact ⟨SeqAt.EqAt.tuple_str z t hl hu',fun _ _=>SeqAt.RcAt.tuple_str z t hl hu'⟩
   | _=>cases fy
  | l es =>
   rw [Is] at hy
   obtain ⟨q,ys,rfl,hs',hys⟩:=hy
   cases ry
   obtain ⟨its',rv',pl',_⟩:=I.list hs'
   have hl':=pl'.isList
   rw [show deq (.t ds) (.l es)=false by rw [deq]; all_goals (intros; simp_all)]
   exact ⟨SeqAt.EqAt.tuple_list hl hl' hu',fun _ _=>SeqAt.RcAt.tuple_list hl hl' hu'⟩
  | t es =>
   have hy0:=hy
   rw [Is] at hy
   obtain ⟨q,ys,rfl,hs',hys⟩:=hy
   cases ry
   obtain ⟨its',rv',pl',_⟩:=I.tuple hs'
   have hl':s.heap.IsTuple q its'.toArray:=pl'
   have e1:its.toArray.size=ds.length:=by rw [qM,← rv.length,hxs.len]
   have e2:its'.toArray.size=es.length:=by rw [qM,← rv'.length,hys.len]
   have rc:SeqAt.RcAt A s (.ref p) (.ref q) (deq (.t ds) (.t es)):=by
    rw [deq]
    have:=SeqAt.RcAt.tuples hl hl' hu' (elems ih hu I (by omega) hxs hys rv rv')
    rw [e1,e2] at this
    by_cases hz:ds.length=es.length
    ·rw [← hz,Nat.min_self,JQ hz,beq_self_eq_true,Bool.and_true] at this
     exact this
    ·rw [JR hz]
     have:(ds.length == es.length)=false:=by simpa using hz
     simp_all
   refine ⟨?_,fun _ _=>rc⟩
   by_cases hpq:p=q
   ·subst hpq
    have:=Is.inj _ I hx0 hy0 I.apart
    rw [← this,J4 _ hx0]
    exact SeqAt.EqAt.same _
   ·exact SeqAt.EqAt.of_refs hpq rc
end
def rEqD (K:zA):R2:=fun x y H Q=>∃ p d e,x = .ref p /\ Is K H x d /\ Is K H y e /\ dep d <= 50 /\ Q (.bl (deq d e)) H
def rNeD (K:zA):R2:=fun x y H Q=>∃ p d e,x = .ref p /\ Is K H x d /\ Is K H y e /\ dep d <= 50 /\ Q (.bl (!deq d e)) H
section
variable {X:Cx}
theorem op_eqD {k:Nat}(hr:Room k X.A):OpR X (compareOp .Eq) (rEqD X.K):=by
 intro pins s σ H x y v u Q I rx ry h
 obtain ⟨p,d,e,rfl,hx,hy,hd,q⟩:=h
 have:=(rcAt_D 50 d e (A:=X.A) hd (by have:=hr.units; omega) I hx hy rx ry).2 p rfl
 exact this X.prog X.w X.xe _ ⟨.bl _,H,I,rfl,q⟩
end
end L2
namespace L2
open PySem PySem.Spec PyProof.Rows
section
variable {X:Cx}{pins:List (Addr × Obj)}{σ:St}{H:Hp}{s:Shared}
theorem ih50 (n:Nat)(d e:Dt){A:Around}{x y:V}{u v:Value}(a:dep d <= n)(b:A.units+n < cLine)(c:Inv X pins σ H s)(f:Is X.K H x d)(g:Is X.K H y e)(h:RelV x u)(i:RelV y v):SeqAt.EqAt A s u v (deq d e):=(rcAt_D n d e a b c f g h i).1
theorem neAt_D (n:Nat)(d e:Dt){A:Around}{p:Addr}{y:V}{v:Value}(hn:dep d <= n+1)(hu:A.units+(n+1) < cLine)(I:Inv X pins σ H s)(hx:Is X.K H (.ref p) d)(hy:Is X.K H y e)(ry:RelV y v):SeqAt.RcNeAt A s (.ref p) v (!deq d e):=by
 have hu':A.units < cLine:=by omega
 cases d with
 | f x=>rw [Is] at hx; obtain ⟨e,hz⟩:=hx; subst e; cases hz
 | l ds =>
  rw [dep] at hn
  rw [Is] at hx
  obtain ⟨p',xs,e0,hs,hxs⟩:=hx
  cases e0
  obtain ⟨its,rv,pl,_⟩:=I.list hs
  have hl:=pl.isList
  cases e with
  | f y' =>
   rw [Is] at hy
   obtain ⟨rfl,fy⟩:=hy
   rw [show deq (.l ds) (.f y)=false by rw [deq]; all_goals (intros; simp_all)]
   cases y with
   | non=>cases ry; exact SeqAt.RcNeAt.list_none hl hu'
   | bl b=>cases ry; exact SeqAt.RcNeAt.list_bool b hl hu'
   | int i=>obtain ⟨t,rfl⟩:=ry; exact SeqAt.RcNeAt.list_int i t hl hu'
   | str z=>obtain ⟨t,rfl⟩:=ry; exact SeqAt.RcNeAt.list_str z t hl hu'
   | _=>cases fy
  | l es =>
   rw [Is] at hy
   obtain ⟨q,ys,rfl,hs',hys⟩:=hy
   cases ry
   obtain ⟨its',rv',pl',_⟩:=I.list hs'
   have hl':=pl'.isList
   have e1:its.toArray.size=ds.length:=by rw [qM,← rv.length,hxs.len]
   have e2:its'.toArray.size=es.length:=by rw [qM,← rv'.length,hys.len]
   rw [deq]
   by_cases hz:ds.length=es.length
   ·have:=SeqAt.RcNeAt.lists hl hl' (by omega) hu' (elems (ih50 n) hu I (by omega) hxs hys rv rv')
    rw [e1,JQ hz] at this
    exact this
   ·rw [JR hz]
    exact SeqAt.RcNeAt.lists_lengths hl hl' (by rw [bne_iff_ne]; omega) hu'
  | t es =>
   rw [Is] at hy
   obtain ⟨q,ys,rfl,hs',hys⟩:=hy
   cases ry
   obtain ⟨its',rv',pl',_⟩:=I.tuple hs'
   have hl':s.heap.IsTuple q its'.toArray:=pl'
   rw [show deq (.l ds) (.t es)=false by rw [deq]; all_goals (intros; simp_all)]
   exact SeqAt.RcNeAt.list_tuple hl hl' hu'
 | t ds =>
  rw [dep] at hn
  rw [Is] at hx
  obtain ⟨p',xs,e0,hs,hxs⟩:=hx
  cases e0
  obtain ⟨its,rv,pl,_⟩:=I.tuple hs
  have hl:s.heap.IsTuple p its.toArray:=pl
  cases e with
  | f y' =>
   rw [Is] at hy
   obtain ⟨rfl,fy⟩:=hy
   rw [show deq (.t ds) (.f y)=false by rw [deq]; all_goals (intros; simp_all)]
   cases y with
   | non=>cases ry; exact SeqAt.RcNeAt.tuple_none hl hu'
   | bl b=>cases ry; exact SeqAt.RcNeAt.tuple_bool b hl hu'
   | int i=>obtain ⟨t,rfl⟩:=ry; exact SeqAt.RcNeAt.tuple_int i t hl hu'
   | str z=>obtain ⟨t,rfl⟩:=ry; exact SeqAt.RcNeAt.tuple_str z t hl hu'
   | _=>cases fy
  | l es =>
   rw [Is] at hy
   obtain ⟨q,ys,rfl,hs',hys⟩:=hy
   cases ry
   obtain ⟨its',rv',pl',_⟩:=I.list hs'
   have hl':=pl'.isList
   rw [show deq (.t ds) (.l es)=false by rw [deq]; all_goals (intros; simp_all)]
   exact SeqAt.RcNeAt.tuple_list hl hl' hu'
  | t es =>
   rw [Is] at hy
   obtain ⟨q,ys,rfl,hs',hys⟩:=hy
   cases ry
   obtain ⟨its',rv',pl',_⟩:=I.tuple hs'
   have hl':s.heap.IsTuple q its'.toArray:=pl'
   have e1:its.toArray.size=ds.length:=by rw [qM,← rv.length,hxs.len]
   have e2:its'.toArray.size=es.length:=by rw [qM,← rv'.length,hys.len]
   rw [deq]
   have:=SeqAt.RcNeAt.tuples hl hl' hu' (elems (ih50 n) hu I (by omega) hxs hys rv rv')
   rw [e1,e2] at this
   by_cases hz:ds.length=es.length
   ·rw [← hz,Nat.min_self,JQ hz,beq_self_eq_true,Bool.and_true] at this
    exact this
   ·rw [JR hz]
    have:(ds.length == es.length)=false:=by simpa using hz
    simp_all
end
section
variable {X:Cx}
theorem op_neD {k:Nat}(hr:Room k X.A):OpR X (compareOp .NotEq) (rNeD X.K):=by
 intro pins s σ H x y v u Q I rx ry h
 obtain ⟨p,d,e,rfl,hx,hy,hd,q⟩:=h
 cases rx
 have:=neAt_D 50 d e (A:=X.A) (by omega) (by have:=hr.units; omega) I hx hy ry
 exact this X.prog X.w X.xe _ ⟨.bl _,H,I,rfl,q⟩
end
theorem isL_flat {K:zA}{H:Hp}:∀ {xs:List V},xs.all yw=true -> IsL K H xs (xs.map Dt.f)
 | [],_=>by rw [yo,IsL]
 | x :: r,h=>by
  rw [je,zB] at h
  rw [zU,IsL]
  exact ⟨x,r,rfl,by rw [Is]; exact ⟨rfl,h.1⟩,isL_flat h.2⟩
theorem is_lst {K:zA}{H:Hp}{p:Addr}{xs:List V}(h:SqL K H p xs)(f:xs.all yw=true):Is K H (.ref p) (.l (xs.map Dt.f)):=by rw [Is]; exact ⟨p,xs,rfl,h,isL_flat f⟩
theorem is_tup {K:zA}{H:Hp}{p:Addr}{xs:List V}(h:SqT K H p xs)(f:xs.all yw=true):Is K H (.ref p) (.t (xs.map Dt.f)):=by rw [Is]; exact ⟨p,xs,rfl,h,isL_flat f⟩
theorem zAR:∀ {xs:List V},depL (xs.map Dt.f)=0
 | []=>by rw [yo,depL]
 | x :: r=>by rw [zU,depL,zAR,dep]; rfl
theorem dep_l {xs:List V}:dep (.l (xs.map Dt.f))=1:=by rw [dep,zAR]
theorem dep_t {xs:List V}:dep (.t (xs.map Dt.f))=1:=by rw [dep,zAR]
theorem flat_ints (ns:List Int):(ns.map V.int).all yw=true:=by rw [List.all_map]; simp [yw]
theorem deqL_ints:∀ (ns ms:List Int),xp ((ns.map V.int).map Dt.f) ((ms.map V.int).map Dt.f)=decide (ns=ms)
 | [],[]=>by simp [xp]
 | [],m :: ms=>by simp [xp]
 | n :: ns,[]=>by simp [xp]
 | n :: ns,m :: ms=>by
  rw [zU,zU,zU,zU,xp,deqL_ints ns ms,deq]
  by_cases h1:n=m <;> by_cases h2:ns=ms <;> simp [eqV,h1,h2]
theorem deq_tints (ns ms:List Int):deq (.t ((ns.map V.int).map Dt.f)) (.t ((ms.map V.int).map Dt.f))=decide (ns=ms):=by rw [deq,deqL_ints]
theorem eqTI {K:zA}{H:Hp}{p q:Addr}{ns ms:List Int}{Q:VK}(h1:SqT K H p (ns.map V.int))(h2:SqT K H q (ms.map V.int))(h:Q (.bl (decide (ns=ms))) H):rEqD K (.ref p) (.ref q) H Q :=
 ⟨p,_,_,rfl,is_tup h1 (flat_ints _),is_tup h2 (flat_ints _),by rw [dep_t]; decide,by rw [deq_tints]; exact h⟩
def yn (J:It)(nt:Nat)(cs:List Nat)(g:TG)(tt:TT)(te:TE)(σ:St)(H1:Hp)(Q:VK):Prop:=∀ acc,H1 acc=none ->
 ∃ W:Nat -> Nat -> List V -> St -> Hp -> Prop,(∃ m,W 0 m [] (jX nt cs σ) (upd H1 acc (.lst []))) /\ ∀ i m ys σ' H',W i m ys σ' H' -> H' acc=some (.lst ys) /\
  ((J.stop i H' /\ Q (.ref acc) H') \/ (J.go i H' /\ ys.length < sizeLine /\ ∃ N:List V -> St -> Hp -> Prop,(∀ zs σ2 H2,N zs σ2 H2 -> ∃ m',m' < m /\ W (i+1) m' zs σ2 H2) /\
   ∀ x H2,J.yld i H' x H2 -> g x σ' H2 fun σ3 H3=>tt σ3 H3 fun b H4=>if b=true then te σ3 H4 fun y H5=>H5 acc=some (.lst ys) /\ N (ys ++ [y]) σ3 (upd H5 acc (.lst (ys ++ [y]))) else N ys σ3 H4))
section
variable {K:zA}{σ:St}{H:Hp}{Q:VK}{nt:Nat}{cs:List Nat}{g:TG}{tt:TT}{te:TE}{a:Addr}
theorem w_compL {tl:TE}:JG (iList K tl) nt cs g tt te σ H Q=(tl σ H fun x H1=>∃ a,x = .ref a /\ (∃ xs,SqL K H1 a xs) /\ yn (Itl K a) nt cs g tt te σ H1 Q):=rfl
theorem w_compT {tl:TE}:JG (iTup K tl) nt cs g tt te σ H Q=(tl σ H fun x H1=>∃ a,x = .ref a /\ (∃ xs,SqT K H1 a xs) /\ yn (Itt K a) nt cs g tt te σ H1 Q):=rfl
theorem w_comp1 {ta:TA}:JG (iRng1 ta) nt cs g tt te σ H Q=(ta σ H fun vs H1=>∃ j:Int,vs=[.int j] /\ -(2 ^ 62) <= j /\ j < 2 ^ 62 /\ yn (Itr 0 j.toNat) nt cs g tt te σ H1 Q):=rfl
theorem w_yes {R:Bool -> Hp -> Prop}:tYes σ H R=R true H:=rfl
def yY (cs:List Nat)(σ:St):St:=cs.map fun c=>(σ[c]?).join
theorem JS {J:It}{xs:List V}(f:V -> Option V)(hz:xs.length <= sizeLine)
  (hJ:∀ H',Same H H' -> (∀ i,i < xs.length -> J.go i H') /\ (∀ i x H2,J.yld i H' x H2 -> H2=H' /\ (i < xs.length -> xs[i]? = some x)) /\ J.stop xs.length H')
  (hb:∀ x H' (R:Option V -> Hp -> Prop),x ∈ xs -> Same H H' -> R (f x) H' -> tt (some x :: yY cs σ) H' fun b H4=>if b=true then te (some x :: yY cs σ) H4 fun y H5=>R (some y) H5 else R none H4)
  (hd:∀ acc,H acc=none -> Q (.ref acc) (upd H acc (.lst (xs.filterMap f)))):yn J 1 cs (jB 0) tt te σ H Q:=by
 intro acc hn
 have sm:∀ ys,Same H (upd H acc (.lst ys)):=fun ys=>zV hn _
 refine ⟨fun i m ys σ' H'=>m=xs.length - i /\ i <= xs.length /\ (∃ o,σ'=o :: yY cs σ) /\ ys=(xs.take i).filterMap f /\ H'=upd H acc (.lst ys),⟨_,rfl,yL _,⟨none,rfl⟩,by simp,rfl⟩,?_⟩
 rintro i m ys σ' H' ⟨rfl,hi,⟨o,rfl⟩,hys,rfl⟩
 refine ⟨zL,?_⟩
 have hl:ys.length <= i:=by
  rw [hys]
  exact zD (List.length_filterMap_le _ _) (by rw [qO]; omega)
 by_cases hlt:i < xs.length
 ·refine .inr ⟨(hJ _ (sm ys)).1 i hlt,by omega,fun zs σ2 H2=>(∃ o,σ2=o :: yY cs σ) /\ zs=(xs.take (i+1)).filterMap f /\ H2=upd H acc (.lst zs),fun zs σ2 H2 ⟨q1,q2,q3⟩=>⟨xs.length - (i+1),by omega,rfl,hlt,q1,q2,q3⟩,fun x H2 y=>?_⟩
  obtain ⟨e,hx⟩:=(hJ _ (sm ys)).2.1 i x H2 y
  have hx:=hx hlt
  subst e
  show tt (some x :: yY cs σ) _ _
  have tk:xs.take (i+1)=xs.take i ++ [x]:=by rw [x9,hx]; rfl
  refine hb x _ (fun o H5=>match o with | some y=>H5 acc=some (.lst ys) /\ (∃ o,some x :: yY cs σ = o :: yY cs σ) /\ ys ++ [y]=(xs.take (i+1)).filterMap f /\ upd H5 acc (.lst (ys ++ [y]))=upd H acc (.lst (ys ++ [y])) | none=>(∃ o,some x :: yY cs σ = o :: yY cs σ) /\ ys=(xs.take (i+1)).filterMap f /\ H5=upd H acc (.lst ys)) (qE hx) (sm ys) ?_
  cases hf:f x with
  | none =>
   refine ⟨⟨_,rfl⟩,?_,rfl⟩
   rw [tk,List.filterMap_append,← hys]
   simp [hf]
  | some y =>
   refine ⟨zL,⟨_,rfl⟩,?_,upd_upd⟩
   rw [tk,List.filterMap_append,← hys]
   simp [hf]
 ·have e:i=xs.length:=by omega
  subst e
  rw [xb] at hys
  subst hys
  exact .inl ⟨(hJ _ (sm _)).2.2,hd acc hn⟩
theorem zAS {xs:List V}(h:SqL K H a xs)(hz:xs.length <= sizeLine)(f:V -> Option V)
  (hb:∀ x H' (R:Option V -> Hp -> Prop),x ∈ xs -> Same H H' -> R (f x) H' -> tt (some x :: yY cs σ) H' fun b H4=>if b=true then te (some x :: yY cs σ) H4 fun y H5=>R (some y) H5 else R none H4)
  (hd:∀ acc,H acc=none -> Q (.ref acc) (upd H acc (.lst (xs.filterMap f)))):yn (Itl K a) 1 cs (jB 0) tt te σ H Q :=
 JS f hz (fun H' s=>by
  have h':=s.seq h
  exact ⟨fun i hi=>⟨xs,xs[i],h',by simp [hi]⟩,fun i x H2 y=>⟨y.1,fun _=>y.2 xs h'⟩,⟨xs,h',zG _⟩⟩) hb hd
theorem Same.seqT {K:zA}{H H':Hp}{a:Addr}{xs:List V}(e:Same H H')(h:SqT K H a xs):SqT K H' a xs:=by
 rcases h with (h | ⟨o,h⟩) | h
 ·exact .inl (.inl (e _ _ h))
 ·exact .inl (.inr ⟨o,e _ _ h⟩)
 ·exact .inr h
theorem comp_T {xs:List V}(h:SqT K H a xs)(hz:xs.length <= sizeLine)(f:V -> Option V)
  (hb:∀ x H' (R:Option V -> Hp -> Prop),x ∈ xs -> Same H H' -> R (f x) H' -> tt (some x :: yY cs σ) H' fun b H4=>if b=true then te (some x :: yY cs σ) H4 fun y H5=>R (some y) H5 else R none H4)
  (hd:∀ acc,H acc=none -> Q (.ref acc) (upd H acc (.lst (xs.filterMap f)))):yn (Itt K a) 1 cs (jB 0) tt te σ H Q :=
 JS f hz (fun H' s=>by
  have h':=s.seqT h
  exact ⟨fun i hi=>⟨xs,xs[i],h',by simp [hi]⟩,fun i x H2 y=>⟨y.1,fun _=>y.2 xs h'⟩,⟨xs,h',zG _⟩⟩) hb hd
def rngV (lo:Int)(n:Nat):List V:=(zy n).map fun (i:Nat)=>V.int (lo+(i:Int))
theorem rngV_get {lo:Int}{n i:Nat}(h:i < n):(rngV lo n)[i]? = some (.int (lo+i)):=by unfold rngV; rw [qI,List.getElem?_range h]; rfl
theorem jn {lo:Int}{n:Nat}:(rngV lo n).length=n:=by unfold rngV; rw [qC,List.length_range]
theorem comp_R {lo:Int}{n:Nat}(hz:n <= sizeLine)(f:V -> Option V)
  (hb:∀ x H' (R:Option V -> Hp -> Prop),x ∈ rngV lo n -> Same H H' -> R (f x) H' -> tt (some x :: yY cs σ) H' fun b H4=>if b=true then te (some x :: yY cs σ) H4 fun y H5=>R (some y) H5 else R none H4)
  (hd:∀ acc,H acc=none -> Q (.ref acc) (upd H acc (.lst ((rngV lo n).filterMap f)))):yn (Itr lo n) 1 cs (jB 0) tt te σ H Q :=
 JS (xs:=rngV lo n) f (by rw [jn]; exact hz) (fun H' s=>by
  rw [jn]
  exact ⟨fun i hi=>hi,fun i x H2 y=>⟨y.1,fun hi=>by rw [rngV_get hi,y.2]⟩,zG _⟩) hb hd
end
end L2
namespace L2
open PySem PySem.Spec PyProof.Rows
section
variable {X:Cx}
theorem Jo:∀ {bs:List Bool} {us:List Value},Vals (bs.map V.bl) us -> us=bs.map Value.bool
 | [],_,h=>by cases h; rfl
 | b :: r,_,h=>by
  cases h with
  | cons q t =>
   cases q
   rw [Jo t]
   rfl
theorem zAi {prog:Program}{w:World}{A:Around}{bs:List Bool}:TruthOf prog w A (fun i v=>(bs.map Value.bool).toArray[i]? = some v) (fun i=>bs.getD i true):=by
 intro i v s Q E h hq
 rw [List.getElem?_toArray,qI] at h
 cases e:bs[i]? with
 | none=>rw [e] at h; cases h
 | some b =>
  rw [e] at h
  cases h
  have:bs.getD i true=b:=by simp [List.getD,e]
  exact wpAny_truthy_bool (by rw [← this]; exact hq)
theorem all_getD:∀ (bs:List Bool),(zy bs.length).all (fun i=>bs.getD i true)=bs.all id
 | []=>rfl
 | b :: r=>by
  rw [zP,List.range_succ_eq_map,je,List.all_map,je]
  have:((fun i=>(b :: r).getD i true) ∘ Nat.succ)=fun i=>r.getD i true:=by funext i; simp [List.getD]
  rw [this,all_getD r]
  rfl
theorem any_getD:∀ (bs:List Bool),(zy bs.length).any (fun i=>bs.getD i true)=bs.any id
 | []=>rfl
 | b :: r=>by
  rw [zP,List.range_succ_eq_map,yW,List.any_map,yW]
  have:((fun i=>(b :: r).getD i true) ∘ Nat.succ)=fun i=>r.getD i true:=by funext i; simp [List.getD]
  rw [this,any_getD r]
  rfl
def rAll:List V -> Hp -> VK -> Prop:=fun xs H Q=>∃ (p:Addr) (bs:List Bool),xs=[.ref p] /\ H p=some (.lst (bs.map V.bl)) /\ Q (.bl (bs.all id)) H
def rAny:List V -> Hp -> VK -> Prop:=fun xs H Q=>∃ (p:Addr) (bs:List Bool),xs=[.ref p] /\ H p=some (.lst (bs.map V.bl)) /\ Q (.bl (bs.any id)) H
theorem walk_list {pins:List (Addr × Obj)}{σ:St}{H:Hp}{s:Shared}{p:Addr}{xs:List V}(hc:X.calm=true)(I:Inv X pins σ H s)(hp:H p=some (.lst xs)){Q:Value -> Shared -> Prop}{E:Value -> Shared -> Prop}
  (h:∀ (its:List Value),Vals xs its -> ∀ s2:Shared,s2.heap.IsListIter s.heap.objs.size p 0 /\ s2.heap.IsList p its.toArray -> (∀ b ∈ [s.heap.objs.size,p],b < s2.heap.objs.size) -> p ≠ s.heap.objs.size -> Walks X.prog X.w X.A.in1 s.heap.objs.size [s.heap.objs.size,p] [s.heap.objs.size] its.toArray.size (fun i v=>its.toArray[i]? = some v) (fun i h=>h.IsListIter s.heap.objs.size p i /\ h.IsList p its.toArray) ->
   (∀ h' tk,(∀ b o,b ∉ [s.heap.objs.size] -> s2.heap.get? b=some o -> h'.get? b=some o) -> Inv X pins σ H { s2 with heap:=h',toks:=tk }) -> Q (.ref s.heap.objs.size) s2):wpAny (model X.prog X.w) X.A.in1 (pyIter (.ref p)) Q E s:=by
 obtain ⟨its,rv,pl,_⟩:=I.list (SqL.of hp)
 have hlt:p < s.heap.objs.size:=I.hok.lt hp
 refine wpAny_pyIter_list pl.isList (h its rv _ ⟨⟨_,Heap.get?_push_size _ rfl,rfl,rfl⟩,pl.isList.push _⟩ (fun b hb=>?_) (zN hlt) (Walks.list (A:=X.A.in1) (I.ok.hd hc) _ p (zN hlt) its.toArray) fun h' tk hk=>?_)
 ·show b < (s.heap.push _).objs.size
  rw [Heap.size_push]
  rcases zI.mp hb with e | e
  ·rw [e]; exact Nat.lt_succ_self _
  ·have:b=p:=by simpa using e
   rw [this]; exact xG hlt
 ·exact I.kept (h':=h') (t':=tk) fun b o e=>hk b o (by simpa using zN (Heap.lt_size e)) (Heap.get?_push_of_some _ e)
theorem call_all (hc:X.calm=true):CallR X (.builtin "all") rAll:=by
 intro pins s σ H xs us Q I r h
 obtain ⟨p,bs,rfl,hp,q⟩:=h
 obtain ⟨u,rfl,ru⟩:=Vals.one r
 cases ru
 refine call_all_walk (walk_list hc I hp fun its rv s2 st hfp hne W hI=>?_)
 have e:=Jo rv
 subst e
 refine ⟨_,_,_,_,_,_,_,rfl,W,st,zAi,fun h' tk hk=>⟨.bl (bs.all id),H,hI h' tk hk,?_,q⟩⟩
 have:(bs.map Value.bool).toArray.size=bs.length:=by simp
 rw [this,all_getD]
 rfl
theorem call_any (hc:X.calm=true):CallR X (.builtin "any") rAny:=by
 intro pins s σ H xs us Q I r h
 obtain ⟨p,bs,rfl,hp,q⟩:=h
 obtain ⟨u,rfl,ru⟩:=Vals.one r
 cases ru
 refine call_any_walk (walk_list hc I hp fun its rv s2 st hfp hne W hI=>?_)
 have e:=Jo rv
 subst e
 refine ⟨_,_,_,_,_,_,_,rfl,W,st,zAi,fun h' tk hk=>⟨.bl (bs.any id),H,hI h' tk hk,?_,q⟩⟩
 have:(bs.map Value.bool).toArray.size=bs.length:=by simp
 rw [this,any_getD]
 rfl
def rBits:V -> List V -> Hp -> VK -> Prop:=fun x vs H Q=>∃ i,x = .int i /\ vs=[] /\ Q (.int (Builtin.Int.intBits i:Nat)) H
theorem w_rBits {i:Int}{H:Hp}{Q:VK}:rBits (.int i) [] H Q=Q (.int (Builtin.Int.intBits i:Nat)) H:=propext ⟨fun ⟨j,e,_,q⟩=>by cases e; exact q,fun q=>⟨i,rfl,rfl,q⟩⟩
theorem w_tyInt {K:zA}{i:Int}{H:Hp}:tyV K "int" (.int i) H=True:=eq_true (by first | exact rfl | (unfold tyV; rfl) | (unfold tyV; simp))
end
section
variable {K:zA}{σ:St}{H:Hp}{Q:VK}
theorem w_bm {T:String}{r:V -> List V -> Hp -> VK -> Prop}{to:TE}{t:TA}:tBM K T r to t σ H Q=(to σ H fun x H1=>tyV K T x H1 /\ t σ H1 fun xs H2=>r x xs H2 Q):=rfl
theorem w_bm0 {T:String}{r:V -> List V -> Hp -> VK -> Prop}{to:TE}:tBM0 K T r to σ H Q=(to σ H fun x H1=>tyV K T x H1 /\ r x [] H1 Q):=rfl
theorem w_append {l:Addr}{y:V}:rAppend (.ref l) [y] H Q = ∃ xs,H l=some (.lst xs) /\ xs.length < sizeLine /\ Q .non (upd H l (.lst (xs ++ [y]))) :=
 propext ⟨fun ⟨l',xs,y',e1,e2,h,z,q⟩=>by cases e1; cases e2; exact ⟨xs,h,z,q⟩,fun ⟨xs,h,z,q⟩=>⟨l,xs,y,rfl,rfl,h,z,q⟩⟩
theorem xQ {l:Addr}{xs:List V}(h:H l=some (.lst xs)):tyV K "list" (.ref l) H:=by
 first | exact .inl ⟨rfl,_,SqL.of h⟩ | (unfold tyV; exact .inl ⟨rfl,_,SqL.of h⟩)
end
end L2
namespace L2
open PySem PySem.Spec PyProof.Rows PySem.W
end L2
namespace L2
open PySem PySem.Spec PyProof.Rows
def gTupM (n:Nat)(t:TGs):TG:=fun v σ H Q=>∃ a xs,v = .ref a /\ H a=some (.tup xs) /\ xs.length=n /\ t xs σ H Q
theorem jY {X:Cx}{es:List Expr}{k:Nat}{t:TGs}{pos:Pos}(n:Nat)(hc:X.calm=true)(h:PGs X es t)(hn:(assignEach es X.env).length=n:=by rfl)(hst:(assignEach es X.env).findIdx? (·.1)=none:=by rfl):PG X (.Tuple es k pos) (gTupM n t):=by
 intro pins s σ H v u Q I r hw
 obtain ⟨a,xs,e1,hq,hl,hw⟩:=hw
 exact pg_tup (X:=X) (n:=n) hc h hn hst pins s σ H v u Q I r ⟨a,xs,e1,SqT.of hq,hl,hw⟩
section
variable {K:zA}{σ:St}{H:Hp}{Q:VK}{R:St -> Hp -> Prop}
theorem J5 {n:Nat}{t:TGs}{a:Addr}:gTupM n t (.ref a) σ H R = ∃ xs,H a=some (.tup xs) /\ xs.length=n /\ t xs σ H R :=
 propext ⟨fun ⟨a',xs,e,h,l,q⟩=>by cases e; exact ⟨xs,h,l,q⟩,fun ⟨xs,h,l,q⟩=>⟨a,xs,rfl,h,l,q⟩⟩
theorem j7 {t:TG}{u:TGs}{v:V}{r:List V}:gCons t u (v :: r) σ H R=t v σ H fun σ' H'=>u r σ' H' R :=
 propext ⟨fun ⟨v',r',e,q⟩=>by cases e; exact q,fun q=>⟨v,r,rfl,q⟩⟩
theorem w_gNil:gNil [] σ H R=R σ H:=propext ⟨fun ⟨_,q⟩=>q,fun q=>⟨rfl,q⟩⟩
theorem in_tup {x:V}{t:Addr}{xs:List V}{neg:Bool}(h:H t=some (.tup xs))(fx:yw x=true)(fs:xs.all yw=true)(q:Q (.bl (if neg then !inV x xs else inV x xs)) H):rIn K neg x (.ref t) H Q:=⟨t,xs,rfl,.inr (SqT.of h),fx,fs,q⟩
end
end L2
namespace L2
open PySem PySem.Spec PyProof.Rows
def rDG:R2:=fun x y H Q=>∃ a k,x = .ref a /\ y=kV k /\ ∃ kvs,H a=some (.dK kvs) /\ ∃ v,valV kvs k=some v /\ Q v H
def rDP:V -> V -> V -> Hp -> (Hp -> Prop) -> Prop:=fun x y v H R=>∃ a k,x = .ref a /\ y=kV k /\ ∃ kvs,H a=some (.dK kvs) /\ kvs.length < sizeLine /\ R (upd H a (.dK (putK kvs k v)))
def sDP (td ty tv:TE):TS:=fun D σ H=>tv σ H fun v H1=>td σ H1 fun x H2=>ty σ H2 fun y H3=>rDP x y v H3 fun H4=>D.nx σ H4
def rDI (neg:Bool):R2:=fun y x H Q=>∃ a k,x = .ref a /\ y=kV k /\ ∃ kvs,H a=some (.dK kvs) /\ Q (.bl (if neg then !(valV kvs k).isSome else (valV kvs k).isSome)) H
section
variable {X:Cx}{o i e value:Expr}{pos pos' tpos:Pos}{td ty tv:TE}
end
section
variable {σ:St}{H:Hp}{Q:VK}{D:Ends}{a:Addr}{v:V}{R:Hp -> Prop}
theorem kV_s {k:Key}{x:Str}:(V.str x=kV k)=(k = .inr x):=propext ⟨fun e=>by cases k <;> cases e; rfl,fun e=>by subst e; rfl⟩
theorem kV_i {k:Key}{x:Int}:(V.int x=kV k)=(k = .inl x):=propext ⟨fun e=>by cases k <;> cases e; rfl,fun e=>by subst e; rfl⟩
theorem w_dgS {x:Str}:rDG (.ref a) (.str x) H Q = ∃ kvs,H a=some (.dK kvs) /\ ∃ v,valV kvs (.inr x)=some v /\ Q v H :=
 propext ⟨fun ⟨a',k,e1,e2,q⟩=>by cases e1; rw [kV_s] at e2; subst e2; exact q,fun q=>⟨a,.inr x,rfl,rfl,q⟩⟩
theorem w_dgI {x:Int}:rDG (.ref a) (.int x) H Q = ∃ kvs,H a=some (.dK kvs) /\ ∃ v,valV kvs (.inl x)=some v /\ Q v H :=
 propext ⟨fun ⟨a',k,e1,e2,q⟩=>by cases e1; rw [kV_i] at e2; subst e2; exact q,fun q=>⟨a,.inl x,rfl,rfl,q⟩⟩
theorem w_sDP {td ty tv:TE}:sDP td ty tv D σ H=(tv σ H fun v H1=>td σ H1 fun x H2=>ty σ H2 fun y H3=>rDP x y v H3 fun H4=>D.nx σ H4):=rfl
theorem w_dpS {x:Str}:rDP (.ref a) (.str x) v H R = ∃ kvs,H a=some (.dK kvs) /\ kvs.length < sizeLine /\ R (upd H a (.dK (putK kvs (.inr x) v))) :=
 propext ⟨fun ⟨a',k,e1,e2,q⟩=>by cases e1; rw [kV_s] at e2; subst e2; exact q,fun q=>⟨a,.inr x,rfl,rfl,q⟩⟩
theorem w_dpI {x:Int}:rDP (.ref a) (.int x) v H R = ∃ kvs,H a=some (.dK kvs) /\ kvs.length < sizeLine /\ R (upd H a (.dK (putK kvs (.inl x) v))) :=
 propext ⟨fun ⟨a',k,e1,e2,q⟩=>by cases e1; rw [kV_i] at e2; subst e2; exact q,fun q=>⟨a,.inl x,rfl,rfl,q⟩⟩
theorem w_dII {neg:Bool}{x:Int}:rDI neg (.int x) (.ref a) H Q = ∃ kvs,H a=some (.dK kvs) /\ Q (.bl (if neg then !(valV kvs (.inl x)).isSome else (valV kvs (.inl x)).isSome)) H :=
 propext ⟨fun ⟨a',k,e1,e2,q⟩=>by cases e1; rw [kV_i] at e2; subst e2; exact q,fun q=>⟨a,.inl x,rfl,rfl,q⟩⟩
theorem w_disp {trs:List (TE × TE)}:tDisp trs σ H Q = ∀ p,H p=none -> zAO trs σ (upd H p (.dK [])) fun ps H2=>H2 p=some (.dK []) /\ ∃ kvs:List (Key × V),ps=kvs.map (fun kv=>(kV kv.1,kv.2)) /\ kvs.length <= 15 /\ Q (.ref p) (upd H2 p (.dK (mergeK [] kvs))):=rfl
end
def JH (a:Addr)(at_ l:Int):List (Key × V):=[(.inr "script",.ref a),(.inr "at",.int at_),(.inr "left",.int l)]
theorem pen_s {a:Addr}{t l:Int}:valV (JH a t l) (.inr "script")=some (.ref a):=by unfold JH; rw [Jw rfl]
theorem key_sa:¬ (Sum.inr "script" : Key)=(Sum.inr "at" : Key):=by decide
theorem key_sl:¬ (Sum.inr "script" : Key)=(Sum.inr "left" : Key):=by decide
theorem key_al:¬ (Sum.inr "at" : Key)=(Sum.inr "left" : Key):=by decide
theorem pen_a {a:Addr}{t l:Int}:valV (JH a t l) (.inr "at")=some (.int t):=by unfold JH; rw [Jx key_sa,Jw rfl]
theorem pen_l {a:Addr}{t l:Int}:valV (JH a t l) (.inr "left")=some (.int l):=by unfold JH; rw [Jx key_sl,Jx key_al,Jw rfl]
theorem pen_len {a:Addr}{t l:Int}:((JH a t l).length < sizeLine)=True:=eq_true (qJ (by decide:3 < 1000) (zg (by decide)))
theorem pen_pa {a:Addr}{t l x:Int}:putK (JH a t l) (.inr "at") (.int x)=JH a x l:=by
 unfold putK
 rw [valV_any,pen_a]
 rfl
theorem pen_pl {a:Addr}{t l x:Int}:putK (JH a t l) (.inr "left") (.int x)=JH a t x:=by
 unfold putK
 rw [valV_any,pen_l]
 rfl
end L2
namespace L2
open PySem PySem.Spec PyProof.Rows
def Itv (K:zA)(a:Addr)(n:Nat):It :=
 ⟨fun i H=>i < n /\ ∃ xs,SqL K H a xs /\ xs.length=n,fun i H x H'=>H'=H /\ ∀ xs,SqL K H a xs -> xs.length=n -> xs[n - 1 - i]? = some x,fun i H=>i=n⟩
def iRev (K:zA)(ta:TA):TI:=fun σ H R=>ta σ H fun vs H1=>∃ a xs,vs=[.ref a] /\ SqL K H1 a xs /\ R (Itv K a xs.length) H1
def ForV (K:zA)(a:Addr)(n:Nat)(g:TG)(tb:TS)(D:Ends)(σ:St)(H:Hp):Prop:=∃ W:Nat -> Nat -> St -> Hp -> Prop,(∃ m,W 0 m σ H) /\ ∀ i m σ H,W i m σ H ->
 ((Itv K a n).stop i H /\ D.nx σ H) \/ ((Itv K a n).go i H /\ ∃ N:St -> Hp -> Prop,(∀ σ' H',N σ' H' -> ∃ m',m' < m /\ W (i+1) m' σ' H') /\ ∀ x H',(Itv K a n).yld i H x H' -> g x σ H' fun σ2 H2=>tb { D with nx:=N,ct:=N,bk:=D.nx } σ2 H2)
section
variable {σ:St}{H:Hp}{D:Ends}{g:TG}{tb:TS}{K:zA}{a:Addr}
theorem w_forV {ta:TA}:tFor (iRev K ta) g tb D σ H=(ta σ H fun vs H1=>∃ a xs,vs=[.ref a] /\ SqL K H1 a xs /\ ForV K a xs.length g tb D σ H1):=rfl
end
end L2
namespace L2
open PySem
def fs (n:Int):Int:=if n % 2=0 then 0 else 2 - n % 4
def nafF:Nat -> Int -> List Int
 | 0,_=>[]
 | k+1,n=>if n=0 then [] else fs n :: nafF k ((n - fs n) / 2)
def naf (n:Int):List Int:=nafF n.natAbs n
def val:List Int -> Int
 | []=>0
 | d :: r=>d+2 * val r
end L2
namespace L2
open PySem PySem.Spec PyProof.Rows
def wt (ds:List Int):Nat:=(ds.filter fun d=>decide (d ≠ 0)).length
theorem yz {α β:Type}(f:α -> β)(xs:List α):xs.filterMap (fun x=>some (f x))=xs.map f:=by
 induction xs with
 | nil=>rfl
 | cons x r ih=>rw [zx,ih]; rfl
end L2
namespace L2
open PySem
theorem Jp {n:Nat}(h:n <= 100000):n <= sizeLine:=zD h (by decide)
theorem yg {H H':Hp}{r:Addr}{o:HO}(h:H r=none)(s:Same H H'):Same H (upd H' r o):=fun b u q=>by rw [upd_ne (ne_of_none q h)]; exact s b u q
def shV (n s:Int):V:=if 0 <= s then .int (n * 2 ^ s.toNat) else if n / 2 ^ (-s).toNat * 2 ^ (-s).toNat=n then .int (n / 2 ^ (-s).toNat) else .non
def On2 (vs:List V)(P:Int -> Int -> Prop):Prop:=∃ i j,vs=[.int i,.int j] /\ P i j
theorem w_On2 {i j:Int}{P:Int -> Int -> Prop}:On2 [.int i,.int j] P=P i j:=propext ⟨fun ⟨i',j',e,q⟩=>by cases e; exact q,fun q=>⟨i,j,rfl,q⟩⟩
section
variable {σ:St}{H:Hp}{D:Ends}{g:TG}{tb:TS}{K:zA}{Q:VK}{nt:Nat}{cs:List Nat}{tt:TT}{te:TE}
theorem w_for2b {ta:TA}:tFor (iRng2 ta) g tb D σ H=(ta σ H fun vs H1=>On2 vs fun i j=>(-(2 ^ 62) <= i /\ i < 2 ^ 62 /\ -(2 ^ 62) <= j /\ j < 2 ^ 62) /\ ForR i (j - i).toNat g tb D σ H1):=rfl
theorem w_comp2b {ta:TA}:JG (iRng2 ta) nt cs g tt te σ H Q=(ta σ H fun vs H1=>On2 vs fun i j=>(-(2 ^ 62) <= i /\ i < 2 ^ 62 /\ -(2 ^ 62) <= j /\ j < 2 ^ 62) /\ yn (Itr i (j - i).toNat) nt cs g tt te σ H1 Q):=rfl
end
end L2
namespace L2
open PySem
abbrev wn (n:Int):Nat:=wt (naf n)
theorem w_neB {a b:Bool}{H:Hp}{Q:VK}:rNe (.bl a) (.bl b) H Q=Q (.bl (!decide (a=b))) H :=
 propext (by
  have e:decide (V.bl a=V.bl b)=decide (a=b):=by by_cases h:a=b <;> simp [h]
  unfold rNe; rw [e]; exact ⟨fun h=>h.2,fun h=>⟨rfl,h⟩⟩)
theorem w_eqB {a b:Bool}{H:Hp}{Q:VK}:rEq (.bl a) (.bl b) H Q=Q (.bl (decide (a=b))) H :=
 propext (by
  have e:decide (V.bl a=V.bl b)=decide (a=b):=by by_cases h:a=b <;> simp [h]
  unfold rEq; rw [e]; exact ⟨fun h=>h.2,fun h=>⟨rfl,h⟩⟩)
end L2
namespace L2
open PySem
abbrev SS:=List (Int × Int) × List Int
def stp (m:Int)(s:SS)(o:Int):SS:=if (s.1.lookup o).isSome=false /\ (if o < 0 then -o else o) < 200 then (s.1 ++ [(o,m)],s.2 ++ [o]) else s
def kin (m n:Int)(s:SS)(k:Nat):SS:=stp m (stp m s (n+1 * 2 ^ k)) (n - 1 * 2 ^ k)
end L2
namespace L2
open PySem PySem.Spec PyProof.Rows
section
variable {prog:Program}{w:World}{A:Around}{R:Result -> Shared -> Prop}{I S:Addr}{fp wr:List Addr}{n:Nat}{P:Nat -> Value -> Prop}{St:Nat -> Heap -> Prop}{bt:Nat -> Nat -> Bool}{d:Value}
end
section
variable {prog:Program}{w:World}{A:Around}{E:Value -> Shared -> Prop}{s:Shared}{d x:Value}
end
def mz:List Int -> Int
 | []=>0
 | x :: r=>if mz r < x then x else mz r
section
variable {X:Cx}{e:Expr}{es:List Expr}{kws:List Keyword}{t tk:TA}{p pos:Pos}
def tMaxD (t tk:TA):TE:=fun σ H Q=>t σ H fun vs H1=>tk σ H1 fun zs H2=>∃ (p:Addr) (ns:List Int),vs=[.ref p] /\ zs=[.int 0] /\ H2 p=some (.lst (ns.map V.int)) /\ (∀ n ∈ ns,0 <= n) /\ Q (.int (mz ns)) H2
end
section
variable {K:zA}{σ:St}{H:Hp}{Q:VK}
theorem w_maxD {t tk:TA}:tMaxD t tk σ H Q=t σ H fun vs H1=>tk σ H1 fun zs H2=>∃ (p:Addr) (ns:List Int),vs=[.ref p] /\ zs=[.int 0] /\ H2 p=some (.lst (ns.map V.int)) /\ (∀ n ∈ ns,0 <= n) /\ Q (.int (mz ns)) H2:=rfl
theorem w_sl {r:V -> Option Int -> Option Int -> Hp -> VK -> Prop}{te:TE}{tl th:TO}:tSl r te tl th σ H Q=te σ H fun x H1=>tl σ H1 fun l H2=>th σ H2 fun u H3=>r x l u H3 Q:=rfl
theorem w_noPart {R:Option Int -> Hp -> Prop}:tNoPart σ H R=R none H:=rfl
theorem w_part {t:TE}{R:Option Int -> Hp -> Prop}:tPart t σ H R=t σ H fun x H1=>∃ i,x = .int i /\ R (some i) H1:=rfl
theorem w_slL {a:Addr}{lo hi:Option Int}:rSlL K (.ref a) lo hi H Q = ∃ xs,SqL K H a xs /\ ∀ p,H p=none -> Q (.ref p) (upd H p (.lst (cutV xs lo hi))) :=
 propext ⟨fun ⟨a',xs,e,h,q⟩=>by cases e; exact ⟨xs,h,q⟩,fun ⟨xs,h,q⟩=>⟨a,xs,rfl,h,q⟩⟩
def liI (g:Int -> Int):V -> Option V:=fun x=>match x with
 | .int n=>some (.int (g n))
 | _=>none
theorem J6 (g:Int -> Int):∀ (ns:List Int),(ns.map V.int).filterMap (liI g)=(ns.map g).map V.int
 | []=>rfl
 | n :: r=>by
  rw [zU,List.filterMap_cons_some (f:=liI g) (a:=V.int n) (b:=V.int (g n)) rfl,J6 g r]
  rfl
end
def halN (c:Int):Nat:=if c > 1 then Builtin.Int.intBits (c - 1) else 0
def ld (ns:List Int):Int:=mz (ns.map fun n=>((halN (wn n:Nat):Nat):Int))
end L2
namespace L2
open PySem PySem.Spec PyProof.Rows
section
variable {σ:St}{H:Hp}{Q:VK}{D:Ends}
theorem w_aug {i:Nat}{te:TE}{ti:TIp}:tAug i te ti D σ H = ∃ x,σ[i]? = some (some x) /\ te σ H fun y H1=>ti x y H1 fun z H2=>D.nx (σ.set i (some z)) H2:=rfl
theorem w_ipI {f:Int -> Int -> Int}{i j:Int}:ipI f (.int i) (.int j) H Q=Q (.int (f i j)) H:=propext ⟨fun ⟨_,_,e1,e2,q⟩=>by cases e1; cases e2; exact q,fun q=>⟨i,j,rfl,rfl,q⟩⟩
theorem w_dnK:tDNewK σ H Q = ∀ p,H p=none -> Q (.ref p) (upd H p (.dK [])):=rfl
end
structure Dd where
 g:Int
 a:Nat
 s:Nat
 b:Nat
 t:Nat
def dnum (ns:List Int)(d:Dd):Int:=ns.getD d.a 0 * 2 ^ d.s+d.g * (ns.getD d.b 0 * 2 ^ d.t)
def ev (ds:List Dd):List Int:=ds.foldl (fun ns d=>ns ++ [dnum ns d]) [1]
theorem snoc_ind {α:Type}{p:List α -> Prop}(h0:p [])(hs:∀ xs x,p xs -> p (xs ++ [x]))(xs:List α):p xs:=by
 have:p xs.reverse.reverse:=by
  generalize xs.reverse=ys
  induction ys with
  | nil=>exact h0
  | cons y r ih=>rw [List.reverse_cons]; exact hs _ _ ih
 rwa [List.reverse_reverse] at this
def CT0 (K:zA)(t:Addr):Prop:=∃ (o:Obj) (its:Array Value) (n:Nat),K.lookup t=some o /\ o.cls = .type "tuple" /\ o.data = .seq its n /\ its.size <= sizeLine /\ Vals [.int 0,.int 0,.int 0] its.toList
theorem CT0.sq {K:zA}{t:Addr}(h:CT0 K t)(H:Hp):SqT K H t [.int 0,.int 0,.int 0]:=.inr h
section
variable {X:Cx}
def rIsT (K:zA):List V -> Hp -> VK -> Prop:=fun xs H Q=>∃ p ys,xs=[.ref p,.ty "tuple"] /\ SqT K H p ys /\ Q (.bl true) H
theorem call_isT:CallR X (.builtin "isinstance") (rIsT X.K):=by
 intro pins s σ H xs us Q I r h
 obtain ⟨p,ys,rfl,hq,q⟩:=h
 obtain ⟨u,w',rfl,ru,rw'⟩:=vals2 r
 cases (show u=Value.ref p from ru)
 cases (show w'=Value.type "tuple" from rw')
 obtain ⟨its,r',pl,hz⟩:=I.tuple hq
 obtain ⟨o,h1,h2,_⟩:=pl
 exact yC PySem.W.kitx_tuple I.kIn ⟨o,h1,h2⟩ (kit_same _) (fun z=>nomatch z) fun tk=>⟨.bl true,H,I.tok _,rfl,q⟩
end
section
variable {K:zA}{H:Hp}{Q:VK}
theorem w_ixT {p:Addr}{i:Int}:rIxT K (.ref p) (.int i) H Q = ∃ xs,SqT K H p xs /\ ∃ v,atI xs i=some v /\ Q v H :=
 propext ⟨fun ⟨p',xs,i',v,e1,e2,h,a,q⟩=>by cases e1; cases e2; exact ⟨xs,h,v,a,q⟩,fun ⟨xs,h,v,a,q⟩=>⟨p,xs,i,v,rfl,rfl,h,a,q⟩⟩
theorem w_eqS {x y:Str}:rEq (.str x) (.str y) H Q=Q (.bl (decide (x=y))) H :=
 propext (by
  have e:decide (V.str x=V.str y)=decide (x=y):=by by_cases h:x=y <;> simp [h]
  unfold rEq
  rw [e]
  exact ⟨fun h=>h.2,fun h=>⟨rfl,h⟩⟩)
end
end L2
namespace L2
open PySem PySem.Spec PyProof.Rows
theorem Inv.turnedL {X:Cx}{pins:List (Addr × Obj)}{σ:St}{H:Hp}{s:Shared}{h':Heap}{t':Nat}(ch:List Addr)(I:Inv X pins σ H s)(k:∀ b o,b ∉ ch -> s.heap.get? b=some o -> h'.get? b=some o)(hf:∀ b ∈ ch,FpOk X pins H b):Inv X pins σ H { s with heap:=h',toks:=t' }:=by
 have nit:∀ b u,H b=some u -> b ∉ ch:=fun b u e z=>by rw [(hf b z).1] at e; cases e
 refine I.step (g':=s.gens) (d':=s.drawn) (ch:=ch) (fun b hb=>?_) (fun b o _ _ hc e _=>k b o hc e) (fun b o _ _ hc e _=>⟨o.slots,k b o hc e⟩) (fun _ _ _ _ n=>n)
  (fun b o hc e=>⟨o,k b o hc e⟩) (fun _ _ e=>e) (fun _ _ _ e=>e) (fun b ps e=>⟨#[],by rw [e]; simp⟩) (fun m hm=>?_) (fun b u e=>?_) I.bare
 ·obtain ⟨f0,f1,f2,f3,f4,f5⟩:=hf b hb
  exact ⟨f3,f1,f4,f5⟩
 ·obtain ⟨o,es,ep,ho,r⟩:=hm
  exact ⟨o,es,ep,k _ o (fun z=>(hf _ z).2.1 rfl) ho,r⟩
 ·refine (I.hok b u e).stay (fun c v hc q=>k c v ?_ q) (fun _ q=>q) fun _ _ q=>q
  rcases hc with z | z
  ·rw [z]; exact nit b u e
  ·exact nit c _ z
theorem zAj {h:Heap}{b:Addr}{o o':Obj}(n:b ≠ h.objs.size)(e:(h.push o').get? b=some o):h.get? b=some o:=by
 rw [Heap.get?_push_ne h b o' n] at e
 exact e
def Itz (K : zA)(a b : Addr) : It :=
  ⟨fun i H => ∃ xs ys, SqL K H a xs ∧ SqL K H b ys ∧ i < xs.length ∧ i < ys.length,
   fun i H x H' => ∃ T u v, x = .ref T ∧ H T = none ∧ H' = upd H T (.tup [u, v]) ∧ (∀ xs, SqL K H a xs → xs[i]? = some u) ∧ (∀ ys, SqL K H b ys → ys[i]? = some v),
   fun i H => ∃ xs ys, SqL K H a xs ∧ SqL K H b ys ∧ (xs.length ≤ i ∨ ys.length ≤ i)⟩
def tnZ (z TI TO i1 i2 a b:Addr)(i:Nat)(h:Heap):Prop:=IsZip h z TI TO .none /\ IsPair h TI (.ref i1) (.ref i2) /\ (∃ x y,IsPair h TO x y) /\ h.IsListIter i1 a i /\ h.IsListIter i2 b i
theorem turn_zip {P:Program}{w:World}{K:zA}{elts:List Expr}{x1:Nat}{pos:Pos}{z TI TO i1 i2 a b:Addr}(D:ZipApart z TI TO i1 i2 a b):Turn P w K (.Tuple elts x1 pos) (Itz K a b) [z,TI,TO,i1,i2] z (tnZ z TI TO i1 i2 a b) where
 mem:=by simp
 obj:=fun i h st c hc=>by
  obtain ⟨t1,t2,⟨x0,y0,t3⟩,⟨o4,e4,c4,d4⟩,⟨o5,e5,c5,d5⟩⟩:=st
  simp only [zI,zR,or_false] at hc
  rcases hc with e | e | e | e | e <;> subst e
  ·exact ⟨_,t1,fun v q=>by cases q⟩
  ·exact ⟨_,t2,fun v q=>by cases q⟩
  ·exact ⟨_,t3,fun v q=>by cases q⟩
  ·exact ⟨o4,e4,fun v q=>by rw [d4] at q; cases q⟩
  ·exact ⟨o5,e5,fun v q=>by rw [d5] at q; cases q⟩
 keep:=fun i h h' st k=>by
  obtain ⟨t1,t2,⟨x0,y0,t3⟩,t4,t5⟩:=st
  exact ⟨k z (by simp) _ t1,k TI (by simp) _ t2,⟨x0,y0,k TO (by simp) _ t3⟩,t4.at fun o e=>k i1 (by simp) o e,t5.at fun o e=>k i2 (by simp) o e⟩
 item:=by
  intro X hP hw hK hc i pins s σ H E I hf st hg
  subst hP hw hK
  obtain ⟨xs,ys,hq,hq2,hi,hi2⟩:=hg
  obtain ⟨its,rv,p,hz⟩:=I.list hq
  obtain ⟨its2,rv2,p2,hz2⟩:=I.list hq2
  obtain ⟨u,hu,ru⟩:=rv.get (qA hi)
  obtain ⟨v,hv,rv'⟩:=rv2.get (qA hi2)
  obtain ⟨t1,t2,⟨x0,y0,t3⟩,t4,t5⟩:=st
  have hl1:z < s.heap.objs.size:=Heap.lt_size t1
  have hl3:TO < s.heap.objs.size:=Heap.lt_size t3
  have hl2:TI < s.heap.objs.size:=Heap.lt_size t2
  have hl4:i1 < s.heap.objs.size:=by obtain ⟨o,e,_⟩:=t4; exact Heap.lt_size e
  have hl5:i2 < s.heap.objs.size:=by obtain ⟨o,e,_⟩:=t5; exact Heap.lt_size e
  refine wpAny_pyNext_zip_item D t1 t2 t3 t4 t5 p.isList p2.isList (x:=u) (y:=v) (by simpa using hu) (by simpa using hv) fun h' a1 a2 a3 a4 a5 a6 a7=>⟨_,rfl,?_⟩
  refine wpAny_letOwnedTupleGo_zip a1 fun h2 b1 b2=>?_
  have hT0:H s.heap.objs.size=none:=I.hok.fresh (zG _)
  have I1:Inv X pins σ (upd H s.heap.objs.size (.tup [xs[i],ys[i]])) { s with heap:=s.heap.push { cls:=.type "tuple",data:=.seq [u,v].toArray } } :=
   I.laid (t':=s.toks) (fun b o e=>Heap.get?_push_of_some _ e) (zG _) (show ObjOk X.prog X.w _ _ _ (.tup [xs[i],ys[i]]) from ⟨zg (by show 2 <= 1000; decide),[u,v],.cons ru (.cons rv' .nil),IsTup.new _ _⟩)
  have fpk:∀ c ∈ [z,TI,TO,i1,i2],c ≠ s.heap.objs.size:=fun c hc=>by
   simp only [zI,zR,or_false] at hc
   rcases hc with e | e | e | e | e <;> subst e <;> exact zN (by assumption)
  have fp2:∀ c ∈ [z,TI,TO,i1,i2],FpOk X pins (upd H s.heap.objs.size (.tup [xs[i],ys[i]])) c:=fun c hc=>by
   obtain ⟨f0,f⟩:=hf c hc
   exact ⟨by rw [upd_ne (fpk c hc)]; exact f0,f⟩
  have I2:Inv X pins σ (upd H s.heap.objs.size (.tup [xs[i],ys[i]])) { s with heap:=h2 }:=by
   refine Inv.turnedL (s:={ s with heap:=s.heap.push { cls:=.type "tuple",data:=.seq [u,v].toArray } }) (t':=s.toks) (h':=h2) [z,TO,i1,i2] I1 (fun b o hb e=>?_) (fun c hc=>fp2 c (by simp only [zI,zR,or_false] at hc ⊢; rcases hc with e | e | e | e <;> simp [e]))
   simp only [zI,zR,or_false,not_or] at hb
   obtain ⟨n1,n2,n3,n4⟩:=hb
   refine (b2.2 b n1).trans ?_
   by_cases hT:b=s.heap.objs.size
   ·subst hT
    rw [Heap.get?_push_size _ rfl] at e
    rw [← e]
    exact a5
   ·exact a7 b o n1 n2 n3 n4 (zAj hT e)
  have t4':h2.IsListIter i1 a (i+1):=a3.at fun o e=>(b2.2 _ D.i1z).trans e
  have t5':h2.IsListIter i2 b (i+1):=a4.at fun o e=>(b2.2 _ D.i2z).trans e
  refine ⟨.ref s.heap.objs.size,_,I2,rfl,⟨_,xs[i],ys[i],rfl,hT0,rfl,fun zs h=>?_,fun zs h=>?_⟩,⟨b1,(b2.2 _ D.TIz).trans (a7 TI _ D.TIz D.TITO D.TIi1 D.TIi2 t2),⟨_,_,(b2.2 _ D.TOz).trans a2⟩,t4',t5'⟩,fun c hc=>(fp2 c hc).1⟩
  ·rw [I.list_inj h hq]; exact qA hi
  ·rw [I.list_inj h hq2]; exact qA hi2
 done:=by
  intro X hP hw hK hc i pins s σ H E I hf st hg
  subst hP hw hK
  obtain ⟨xs,ys,hq,hq2,hend⟩:=hg
  obtain ⟨its,rv,p,hz⟩:=I.list hq
  obtain ⟨its2,rv2,p2,hz2⟩:=I.list hq2
  obtain ⟨t1,t2,⟨x0,y0,t3⟩,t4,t5⟩:=st
  refine wpAny_pyNext_zip_end (I.ok.hd hc) D t1 t2 t3 t4 t5 p.isList p2.isList ?_ fun h' a7=>⟨rfl,?_⟩
  ·rcases hend with e | e
   ·left; simp [← rv.length,e]
   ·right; simp [← rv2.length,e]
  ·refine Inv.turnedL (t':=s.toks) (h':=h') [z,TO,i1,i2] I (fun b o hb e=>?_) (fun c hc=>hf c (by simp only [zI,zR,or_false] at hc ⊢; rcases hc with e | e | e | e <;> simp [e]))
   simp only [zI,zR,or_false,not_or] at hb
   obtain ⟨n1,n2,n3,n4⟩:=hb
   exact a7 b o n1 n2 n3 n4 e
 self:=fun _ _ _ _ _ st h=>wpAny_pyIter_zip st.1 h
def iZip (K:zA)(ta:TA):TI:=fun σ H R=>ta σ H fun vs H1=>∃ a b xs ys,vs=[.ref a,.ref b] /\ SqL K H1 a xs /\ SqL K H1 b ys /\ R (Itz K a b) H1
theorem pi_zip {X:Cx} {elts:List Expr} {x1:Nat} {tpos:Pos} {a b:Expr} {ta:TA} {p pos:Pos} (hg:Gl X "zip") (hm:X.mg "zip" = none) (ha:PA X [a,b] ta) (hs:starEach [a,b] X.env=(false,eval a X.env) :: starEach [b] X.env:=by rfl) (hpl:(backTo pos (starEach [b] X.env)).any (·.1)=false:=by rfl) :
  PI X (.Tuple elts x1 tpos) (.Call (.Name "zip" p) [a,b] [] pos) (iZip X.K ta):=by
 intro pins s σ H R I h
 refine Call_ (j0 I hg hm bo_zip (PyProof.Rows.callWith_type1 (thn (ha pos pins s σ H _ I h) fun us s1 ⟨vs,H1,I1,r1,q1⟩=>?_) hs hpl))
 obtain ⟨l1,l2,xs,ys,e,hq,hq2,q⟩:=q1
 subst e
 obtain ⟨u1,u2,rfl,ru1,ru2⟩:=vals2 r1
 cases (show u1=Value.ref l1 from ru1)
 cases (show u2=Value.ref l2 from ru2)
 obtain ⟨its,rv,pl,hz⟩:=I1.list hq
 obtain ⟨its2,rv2,pl2,hz2⟩:=I1.list hq2
 have lt1:l1 < s1.heap.objs.size:=by obtain ⟨o,e,_⟩:=pl.isList; exact Heap.lt_size e
 have lt2:l2 < s1.heap.objs.size:=by obtain ⟨o,e,_⟩:=pl2.isList; exact Heap.lt_size e
 refine call_zip_2 pl.isList pl2.isList fun h' z1 z2 z3 z4 z5 z6 z7=>?_
 have I2:Inv X pins σ H1 { s1 with heap:=h' }:=I1.kept (t':=s1.toks) z7
 refine wpAny_pyIter_zip z1 ?_
 have D:ZipApart (s1.heap.objs.size+4) (s1.heap.objs.size+2) (s1.heap.objs.size+3) s1.heap.objs.size (s1.heap.objs.size+1) l1 l2:=by
  have q1:@LT.lt Nat _ l1 s1.heap.objs.size:=lt1
  have q2:@LT.lt Nat _ l2 s1.heap.objs.size:=lt2
  constructor <;> (show ¬ @Eq Nat _ _; omega)
 refine ⟨s1.heap.objs.size+4,_,_,_,H1,rfl,I2,turn_zip D,⟨z1,z2,⟨_,_,z3⟩,z4,z5⟩,fun c hc=>?_,q⟩
 have hle:s1.heap.objs.size <= c:=by
  simp only [zI,zR,or_false] at hc
  show (s1.heap.objs.size:Nat) <= c
  rcases hc with e | e | e | e | e <;> subst e <;> (show @LE.le Nat _ _ _; omega)
 exact I1.fpOk hle (I1.hok.fresh hle)
end L2
namespace L2
open PySem PySem.Spec PyProof.Rows
theorem bo_enumerate:bootBuiltins "enumerate" = some (.type "enumerate"):=by decide +kernel
def Ite (K : zA)(a : Addr) : It :=
  ⟨fun i H => ∃ xs, SqL K H a xs ∧ i < xs.length,
   fun i H x H' => ∃ T u, x = .ref T ∧ H T = none ∧ H' = upd H T (.tup [.int (i : Int), u]) ∧ (∀ xs, SqL K H a xs → xs[i]? = some u),
   fun i H => ∃ xs, SqL K H a xs ∧ xs.length ≤ i⟩
theorem turn_enum {P:Program}{w:World}{K:zA}{elts:List Expr}{x1:Nat}{pos:Pos}{e it a:Addr}(hne:e ≠ it):Turn P w K (.Tuple elts x1 pos) (Ite K a) [e,it] e (fun i h=>(∃ old,IsEnum h e it (i:Int) old) /\ h.IsListIter it a i) where
 mem:=by simp
 obj:=fun i h st c hc=>by
  obtain ⟨⟨old,t1⟩,⟨o2,e2,c2,d2⟩⟩:=st
  simp only [zI,zR,or_false] at hc
  rcases hc with z | z <;> subst z
  ·exact ⟨_,t1,fun v q=>by cases q⟩
  ·exact ⟨o2,e2,fun v q=>by rw [d2] at q; cases q⟩
 keep:=fun i h h' st k=>by
  obtain ⟨⟨old,t1⟩,t2⟩:=st
  exact ⟨⟨old,k e (by simp) _ t1⟩,t2.at fun o z=>k it (by simp) o z⟩
 item:=by
  intro X hP hw hK hc i pins s σ H E I hf st hg
  subst hP hw hK
  obtain ⟨xs,hq,hi⟩:=hg
  obtain ⟨its,rv,p,hz⟩:=I.list hq
  obtain ⟨u,hu,ru⟩:=rv.get (qA hi)
  obtain ⟨⟨old,t1⟩,t2⟩:=st
  have hl1:e < s.heap.objs.size:=Heap.lt_size t1
  have hl2:it < s.heap.objs.size:=by obtain ⟨o,z,_⟩:=t2; exact Heap.lt_size z
  refine wpAny_pyNext_enum_item t1 t2 p.isList (x:=u) (by simpa using hu) hne fun h' a1 a2 a3 a4 a5=>⟨_,rfl,?_⟩
  refine wpAny_letOwnedTupleGo_enum (s:={ s with heap:=h',toks:=s.toks+1 }) a1 fun h2 b1 b2=>?_
  have hT0:H s.heap.objs.size=none:=I.hok.fresh (zG _)
  have I1:Inv X pins σ (upd H s.heap.objs.size (.tup [.int (i:Int),xs[i]])) { s with heap:=s.heap.push { cls:=.type "tuple",data:=.seq [Value.int (i:Int) s.toks,u].toArray } } :=
   I.laid (t':=s.toks) (fun b o z=>Heap.get?_push_of_some _ z) (zG _) (show ObjOk X.prog X.w _ _ _ (.tup [.int (i:Int),xs[i]]) from ⟨zg (by show 2 <= 1000; decide),[Value.int (i:Int) s.toks,u],.cons ⟨_,rfl⟩ (.cons ru .nil),IsTup.new _ _⟩)
  have fpk:∀ c ∈ [e,it],c ≠ s.heap.objs.size:=fun c hc=>by
   simp only [zI,zR,or_false] at hc
   rcases hc with z | z <;> subst z <;> exact zN (by assumption)
  have fp2:∀ c ∈ [e,it],FpOk X pins (upd H s.heap.objs.size (.tup [.int (i:Int),xs[i]])) c:=fun c hc=>by
   obtain ⟨f0,f⟩:=hf c hc
   exact ⟨by rw [upd_ne (fpk c hc)]; exact f0,f⟩
  have I2:Inv X pins σ (upd H s.heap.objs.size (.tup [.int (i:Int),xs[i]])) { s with heap:=h2,toks:=s.toks+1 }:=by
   refine Inv.turnedL (s:={ s with heap:=s.heap.push { cls:=.type "tuple",data:=.seq [Value.int (i:Int) s.toks,u].toArray } }) (t':=s.toks+1) (h':=h2) [e,it] I1 (fun b o hb z=>?_) fp2
   simp only [zI,zR,or_false,not_or] at hb
   obtain ⟨n1,n2⟩:=hb
   refine (b2.2 b n1).trans ?_
   by_cases hT:b=s.heap.objs.size
   ·subst hT
    rw [Heap.get?_push_size _ rfl] at z
    rw [← z]
    exact a3
   ·exact a5 b o n1 n2 (zAj hT z)
  have e1:((i:Int)+1)=((i+1:Nat):Int):=by omega
  rw [e1] at b1
  refine ⟨.ref s.heap.objs.size,_,I2,rfl,⟨_,xs[i],rfl,hT0,rfl,fun zs h=>?_⟩,⟨⟨_,b1⟩,a2.at fun o z=>(b2.2 _ hne.symm).trans z⟩,fun c hc=>(fp2 c hc).1⟩
  rw [I.list_inj h hq]; exact qA hi
 done:=by
  intro X hP hw hK hc i pins s σ H E I hf st hg
  subst hP hw hK
  obtain ⟨xs,hq,hend⟩:=hg
  obtain ⟨its,rv,p,hz⟩:=I.list hq
  obtain ⟨⟨old,t1⟩,t2⟩:=st
  refine wpAny_pyNext_enum_end (I.ok.hd hc) t1 t2 p.isList (by simp [← rv.length,hend]) fun h' a7=>⟨rfl,?_⟩
  refine Inv.turnedL (t':=s.toks) (h':=h') [it] I (fun b o hb z=>a7 b o (by simpa using hb) z) (fun c hc=>hf c (by simp only [zI,zR,or_false] at hc ⊢; exact .inr hc))
 self:=fun _ i s _ _ st h=>by
  obtain ⟨⟨old,t1⟩,t2⟩:=st
  exact wpAny_pyIter_enum t1 h
def iEnum (K:zA)(ta:TA):TI:=fun σ H R=>ta σ H fun vs H1=>∃ a xs,vs=[.ref a] /\ SqL K H1 a xs /\ R (Ite K a) H1
theorem pi_enum {X:Cx} {elts:List Expr} {x1:Nat} {tpos:Pos} {a:Expr} {ta:TA} {p pos:Pos} (hg:Gl X "enumerate") (hm:X.mg "enumerate" = none) (ha:PA X [a] ta) (hs:starEach [a] X.env=[(false,eval a X.env)]:=by rfl) :
  PI X (.Tuple elts x1 tpos) (.Call (.Name "enumerate" p) [a] [] pos) (iEnum X.K ta):=by
 intro pins s σ H R I h
 refine Call_ (j0 I hg hm bo_enumerate (PyProof.Rows.callWith_type1 (thn (ha pos pins s σ H _ I h) fun us s1 ⟨vs,H1,I1,r1,q1⟩=>?_) hs rfl))
 obtain ⟨l1,xs,e,hq,q⟩:=q1
 subst e
 obtain ⟨u1,rfl,ru1⟩:=vals1 r1
 cases (show u1=Value.ref l1 from ru1)
 obtain ⟨its,rv,pl,hz⟩:=I1.list hq
 refine call_enumerate_list pl.isList fun h' z1 z2 z3 z4=>?_
 have I2:Inv X pins σ H1 { s1 with heap:=h' }:=I1.kept (t':=s1.toks) z4
 refine wpAny_pyIter_enum z1 ?_
 refine ⟨s1.heap.objs.size+1,_,_,_,H1,rfl,I2,turn_enum (by show ¬ @Eq Nat _ _; omega),⟨⟨_,z1⟩,z2⟩,fun c hc=>?_,q⟩
 have hle:s1.heap.objs.size <= c:=by
  simp only [zI,zR,or_false] at hc
  rcases hc with z | z <;> subst z <;> (show @LE.le Nat _ _ _; omega)
 exact I1.fpOk hle (I1.hok.fresh hle)
section
variable {K:zA}{σ:St}{H:Hp}{Q:VK}
theorem J7 {J:It}{nt:Nat}{cs:List Nat}{g:TG}{tt:TT}{te:TE}(n:Nat)(Pv:Addr -> Nat -> List V -> Hp -> Prop)(hz:n <= sizeLine)
  (hgo:∀ acc i ys H',i < n -> Pv acc i ys H' -> J.go i H') (hst:∀ acc ys H',Pv acc n ys H' -> J.stop n H')
  (h0:∀ acc,H acc=none -> Pv acc 0 [] (upd H acc (.lst []))) (hacc:∀ acc i ys H',Pv acc i ys H' -> H' acc=some (.lst ys) /\ ys.length <= i)
  (hs:∀ acc i ys H' (ts:St) x H2 (N:List V -> St -> Hp -> Prop),H acc=none -> i < n -> Pv acc i ys H' -> J.yld i H' x H2 -> ts.length=nt -> (∀ zs (ts':St) H3,ts'.length=nt -> Pv acc (i+1) zs H3 -> N zs (ts' ++ yY cs σ) H3) ->
   g x (ts ++ yY cs σ) H2 fun σ3 H3=>tt σ3 H3 fun b H4=>if b=true then te σ3 H4 fun y H5=>H5 acc=some (.lst ys) /\ N (ys ++ [y]) σ3 (upd H5 acc (.lst (ys ++ [y]))) else N ys σ3 H4)
  (hd:∀ acc ys H',H acc=none -> Pv acc n ys H' -> Q (.ref acc) H'):yn J nt cs g tt te σ H Q:=by
 intro acc hn
 refine ⟨fun i m ys σ' H'=>m=n - i /\ i <= n /\ (∃ ts:St,ts.length=nt /\ σ'=ts ++ yY cs σ) /\ Pv acc i ys H',⟨_,rfl,yL _,⟨qQ nt none,qL,rfl⟩,h0 acc hn⟩,?_⟩
 rintro i m ys σ' H' ⟨rfl,hi,⟨ts,hts,rfl⟩,p⟩
 obtain ⟨ha,hl⟩:=hacc acc i ys H' p
 refine ⟨ha,?_⟩
 by_cases hlt:i < n
 ·refine .inr ⟨hgo acc i ys H' hlt p,by omega,fun zs σ2 H2=>(∃ ts:St,ts.length=nt /\ σ2=ts ++ yY cs σ) /\ Pv acc (i+1) zs H2,fun zs σ2 H2 ⟨q1,q2⟩=>⟨n - (i+1),by omega,rfl,hlt,q1,q2⟩,fun x H2 y=>?_⟩
  exact hs acc i ys H' ts x H2 (fun zs σ2 H2=>(∃ ts:St,ts.length=nt /\ σ2=ts ++ yY cs σ) /\ Pv acc (i+1) zs H2) hn hlt p y hts fun zs ts' H3 h1 h2=>⟨⟨ts',h1,rfl⟩,h2⟩
 ·have e:i=n:=by omega
  subst e
  exact .inl ⟨hst acc ys H' p,hd acc ys H' hn p⟩
theorem w_compE {ta:TA}{nt:Nat}{cs:List Nat}{g:TG}{tt:TT}{te:TE}:JG (iEnum K ta) nt cs g tt te σ H Q=(ta σ H fun vs H1=>∃ a xs,vs=[.ref a] /\ SqL K H1 a xs /\ yn (Ite K a) nt cs g tt te σ H1 Q):=rfl
theorem w_compZ {ta:TA}{nt:Nat}{cs:List Nat}{g:TG}{tt:TT}{te:TE}:JG (iZip K ta) nt cs g tt te σ H Q=(ta σ H fun vs H1=>∃ a b xs ys,vs=[.ref a,.ref b] /\ SqL K H1 a xs /\ SqL K H1 b ys /\ yn (Itz K a b) nt cs g tt te σ H1 Q):=rfl
end
def Itr3 (lo c:Int)(n:Nat):It:=⟨fun i _=>i < n,fun i H x H'=>H'=H /\ x = .int (lo+i * c),fun i _=>n <= i⟩
def stepN (lo hi c:Int):Nat:=(Builtin.Range.rangeSize lo hi c).toNat
def iRng3 (ta:TA):TI:=fun σ H R=>ta σ H fun vs H1=>∃ i j c:Int,vs=[.int i,.int j,.int c] /\ (0 <= i /\ i < 2 ^ 31 /\ -1 <= j /\ j < 2 ^ 31 /\ c=2) /\ R (Itr3 i c (stepN i j c)) H1
def ForR3 (lo c:Int)(n:Nat)(g:TG)(tb:TS)(D:Ends)(σ:St)(H:Hp):Prop:=∃ W:Nat -> Nat -> St -> Hp -> Prop,(∃ m,W 0 m σ H) /\ ∀ i m σ H,W i m σ H ->
 ((Itr3 lo c n).stop i H /\ D.nx σ H) \/ ((Itr3 lo c n).go i H /\ ∃ N:St -> Hp -> Prop,(∀ σ' H',N σ' H' -> ∃ m',m' < m /\ W (i+1) m' σ' H') /\ ∀ x H',(Itr3 lo c n).yld i H x H' -> g x σ H' fun σ2 H2=>tb { D with nx:=N,ct:=N,bk:=D.nx } σ2 H2)
section
variable {σ:St}{H:Hp}{D:Ends}{g:TG}{tb:TS}{lo c:Int}{n:Nat}
theorem w_for3 {ta:TA}:tFor (iRng3 ta) g tb D σ H=(ta σ H fun vs H1=>∃ i j c:Int,vs=[.int i,.int j,.int c] /\ (0 <= i /\ i < 2 ^ 31 /\ -1 <= j /\ j < 2 ^ 31 /\ c=2) /\ ForR3 i c (stepN i j c) g tb D σ H1):=rfl
end
end L2
namespace L2
open PySem PySem.Spec
theorem get_snoc {α:Type}{xs:List α}{x y:α}{i:Nat}(h:(xs ++ [x])[i]? = some y):(i < xs.length /\ xs[i]? = some y) \/ (i=xs.length /\ y=x):=by
 by_cases hi:i < xs.length
 ·rw [qH hi] at h
  exact .inl ⟨hi,h⟩
 ·rw [qG (by omega)] at h
  have hz:i - xs.length=0:=by
   cases hk:i - xs.length with
   | zero=>rfl
   | succ m=>rw [hk] at h; simp at h
  rw [hz] at h
  cases h
  exact .inr ⟨by omega,rfl⟩
theorem abs_le_of {a b:Int}{m n:Nat}{g h:Int}(hg:g=1 \/ g = -1)(hh:h=1 \/ h = -1)(ha:a.natAbs <= m)(hb:b.natAbs <= n):(g * a+h * b).natAbs <= m+n:=by
 rcases hg with e | e <;> rcases hh with e2 | e2 <;> subst e <;> subst e2 <;> omega
end L2
namespace L2
open PySem PySem.Spec PyProof.Rows
def gTupK (K:zA)(n:Nat)(t:TGs):TG:=gTup K n t
section
variable {K:zA}{σ:St}{H:Hp}{R:St -> Hp -> Prop}
theorem w_gTupK {n:Nat}{t:TGs}{a:Addr}:gTupK K n t (.ref a) σ H R = ∃ xs,SqT K H a xs /\ xs.length=n /\ t xs σ H R :=
 propext ⟨fun ⟨a',xs,e,h,l,q⟩=>by cases e; exact ⟨xs,h,l,q⟩,fun ⟨xs,h,l,q⟩=>⟨a,xs,rfl,h,l,q⟩⟩
end
end L2
namespace L2
open PySem PySem.Spec PyProof.Rows
section
variable {X:Cx}{pins:List (Addr × Obj)}{σ:St}{H:Hp}{s:Shared}{p:Addr}{xs:List V}
def gLst (n:Nat)(t:TGs):TG:=fun v σ H Q=>∃ a xs,v = .ref a /\ H a=some (.lst xs) /\ xs.length=n /\ t xs σ H Q
end
section
variable {σ:St}{H:Hp}{R:St -> Hp -> Prop}
theorem w_gLst {n:Nat}{t:TGs}{a:Addr}:gLst n t (.ref a) σ H R = ∃ xs,H a=some (.lst xs) /\ xs.length=n /\ t xs σ H R :=
 propext ⟨fun ⟨a',xs,e,h,l,q⟩=>by cases e; exact ⟨xs,h,l,q⟩,fun ⟨xs,h,l,q⟩=>⟨a,xs,rfl,h,l,q⟩⟩
end
def ForE (K:zA)(a:Addr)(g:TG)(tb:TS)(D:Ends)(σ:St)(H:Hp):Prop:=∃ W:Nat -> Nat -> St -> Hp -> Prop,(∃ m,W 0 m σ H) /\ ∀ i m σ H,W i m σ H ->
 ((Ite K a).stop i H /\ D.nx σ H) \/ ((Ite K a).go i H /\ ∃ N:St -> Hp -> Prop,(∀ σ' H',N σ' H' -> ∃ m',m' < m /\ W (i+1) m' σ' H') /\ ∀ x H',(Ite K a).yld i H x H' -> g x σ H' fun σ2 H2=>tb { D with nx:=N,ct:=N,bk:=D.nx } σ2 H2)
section
variable {K:zA}{σ:St}{H:Hp}{D:Ends}{g:TG}{tb:TS}{a:Addr}
theorem w_forE {ta:TA}:tFor (iEnum K ta) g tb D σ H=(ta σ H fun vs H1=>∃ a xs,vs=[.ref a] /\ SqL K H1 a xs /\ ForE K a g tb D σ H1):=rfl
theorem forE {xs:List V}(Pv:Nat -> St -> Hp -> Prop)(h0:Pv 0 σ H)(hl:∀ i σ H,i <= xs.length -> Pv i σ H -> SqL K H a xs)
  (hs:∀ i x T σ H (N:St -> Hp -> Prop),xs[i]? = some x -> H T=none -> Pv i σ H -> (∀ σ' H',Pv (i+1) σ' H' -> N σ' H') -> g (.ref T) σ (upd H T (.tup [.int (i:Int),x])) fun σ2 H2=>tb { D with nx:=N,ct:=N,bk:=D.nx } σ2 H2)
  (hd:∀ σ H,Pv xs.length σ H -> D.nx σ H):ForE K a g tb D σ H:=by
 refine ⟨fun i m σ H=>m=xs.length - i /\ i <= xs.length /\ Pv i σ H,⟨_,rfl,yL _,h0⟩,?_⟩
 rintro i m σ H ⟨rfl,hi,p⟩
 have q:=hl i σ H hi p
 by_cases hlt:i < xs.length
 ·refine .inr ⟨⟨xs,q,hlt⟩,Pv (i+1),fun σ' H' p'=>⟨xs.length - (i+1),by omega,rfl,hlt,p'⟩,fun x H' y=>?_⟩
  obtain ⟨T,u,rfl,hT,rfl,hu⟩:=y
  exact hs i u T σ H (Pv (i+1)) (hu xs q) hT p fun _ _ z=>z
 ·have e:i=xs.length:=by omega
  subst e
  exact .inl ⟨⟨xs,q,zG _⟩,hd σ H p⟩
end
end L2
namespace L2
open PySem PySem.Spec
def spLower:Sp:=fun vs H Q _=>∃ (l:Addr) (xs:List Int),vs=[.ref l] /\ H l=some (.lst (xs.map V.int)) /\ xs.length <= 100 /\ ∀ (f:Int) H',0 <= f -> f <= 40 -> (∀ x ∈ xs,(2:Int) ^ f.toNat ∣ x) -> Same H H' -> Q (.int f) H'
def mvI (s n:Int):Int:=n * 2 ^ (if 0 > s then (0:Int) else s).toNat / 2 ^ (if 0 > 0 - s then (0:Int) else 0 - s).toNat
def spLMoved:Sp:=fun vs H Q _=>∃ (l:Addr) (xs:List Int) (s:Int),vs=[.ref l,.int s] /\ H l=some (.lst (xs.map V.int)) /\ xs.length <= 100 /\ (∀ x ∈ xs,x.natAbs < 2 ^ 9000) /\ -40 <= s /\ s <= 40 /\ ∀ r H',H r=none -> Same H H' -> H' r=some (.lst ((xs.map (mvI s)).map V.int)) -> Q (.ref r) H'
end L2
namespace L2
open PySem PySem.Spec
structure Wd where
 w:Str
 a:Nat
 s:Int
 b:Nat
 t:Int
structure Go where
 th:Nat
 sh:Int
 sg:Int
def xM (d:Wd):List V:=[.str d.w,.int d.a,.int d.s,.int d.b,.int d.t]
def gTp (g:Go):List V:=[.int g.th,.int g.sh,.int g.sg]
structure HTs {α:Type} (f:α -> List V) (H:Hp) (vs:List V) (xs:List α):Prop where
 len:vs.length=xs.length
 at_:∀ (k:Nat) (x:α),xs[k]? = some x -> ∃ p:Addr,vs[k]? = some (.ref p) /\ H p=some (.tup (f x))
section
variable {α:Type}{f:α -> List V}{H H':Hp}{vs us:List V}{xs:List α}{l:Addr}
theorem HTs.same (h:HTs f H vs xs)(s:Same H H'):HTs f H' vs xs:=⟨h.len,fun k d e=>by
 obtain ⟨x,e1,e2⟩:=h.at_ k d e
 exact ⟨x,e1,s _ _ e2⟩⟩
theorem HTs.chgL (h:HTs f H vs xs)(hl:H l=some (.lst us))(c:Chg l H H'):HTs f H' vs xs:=⟨h.len,fun k d e=>by
 obtain ⟨x,e1,e2⟩:=h.at_ k d e
 exact ⟨x,e1,c _ _ (Jh e2 hl (by intro z; cases z)) e2⟩⟩
theorem HTs.snoc {x:α}{p:Addr}(h:HTs f H vs xs)(hx:H p=some (.tup (f x))):HTs f H (vs ++ [.ref p]) (xs ++ [x]):=by
 refine ⟨by simp [h.len],fun k e he=>?_⟩
 rcases get_snoc he with ⟨hk,z⟩ | ⟨hk,rfl⟩
 ·obtain ⟨y,e1,e2⟩:=h.at_ k e z
  exact ⟨y,by rw [qH (by rw [h.len]; exact hk)]; exact e1,e2⟩
 ·refine ⟨p,?_,hx⟩
  rw [qG (by rw [h.len]; omega),h.len,hk,Nat.sub_self]
  rfl
theorem hts_nil:HTs f H [] []:=⟨rfl,fun k d h=>by simp at h⟩
end
structure HRs (H:Hp) (ex:List Addr) (vs:List V) (rs:List (List Int)):Prop where
 len:vs.length=rs.length
 at_:∀ (k:Nat) (r:List Int),rs[k]? = some r -> ∃ p:Addr,vs[k]? = some (.ref p) /\ H p=some (.lst (r.map V.int)) /\ ∀ e ∈ ex,p ≠ e
section
variable {H H':Hp}{ex:List Addr}{vs:List V}{rs:List (List Int)}{l:Addr}
theorem HRs.same (h:HRs H ex vs rs)(s:Same H H'):HRs H' ex vs rs:=⟨h.len,fun k d e=>by
 obtain ⟨x,e1,e2,e3⟩:=h.at_ k d e
 exact ⟨x,e1,s _ _ e2,e3⟩⟩
theorem HRs.chg (h:HRs H ex vs rs)(hl:l ∈ ex)(c:Chg l H H'):HRs H' ex vs rs:=⟨h.len,fun k d e=>by
 obtain ⟨x,e1,e2,e3⟩:=h.at_ k d e
 exact ⟨x,e1,c _ _ (e3 l hl) e2,e3⟩⟩
theorem HRs.new (h:HRs H ex vs rs)(hl:H l=none):HRs H (l :: ex) vs rs:=⟨h.len,fun k d e=>by
 obtain ⟨x,e1,e2,e3⟩:=h.at_ k d e
 refine ⟨x,e1,e2,fun z hz=>?_⟩
 rcases zI.mp hz with e | e
 ·subst e; exact ne_of_none e2 hl
 ·exact e3 z e⟩
theorem HRs.snoc {r:List Int}{p:Addr}(h:HRs H ex vs rs)(hx:H p=some (.lst (r.map V.int)))(he:∀ e ∈ ex,p ≠ e):HRs H ex (vs ++ [.ref p]) (rs ++ [r]):=by
 refine ⟨by simp [h.len],fun k e he2=>?_⟩
 rcases get_snoc he2 with ⟨hk,z⟩ | ⟨hk,rfl⟩
 ·obtain ⟨y,e1,e2⟩:=h.at_ k e z
  exact ⟨y,by rw [qH (by rw [h.len]; exact hk)]; exact e1,e2⟩
 ·refine ⟨p,?_,hx,he⟩
  rw [qG (by rw [h.len]; omega),h.len,hk,Nat.sub_self]
  rfl
theorem hrs_nil:HRs H ex [] []:=⟨rfl,fun k d h=>by simp at h⟩
end
def RB (b:Nat)(rs:List (List Int)):Prop:=∀ r ∈ rs,r.length <= 12 /\ ∀ n ∈ r,n.natAbs <= 2 ^ b
theorem RB.snoc {b c:Nat}{rs:List (List Int)}{r:List Int}(h:RB b rs)(hc:b <= c)(hl:r.length <= 12)(hr:∀ n ∈ r,n.natAbs <= 2 ^ c):RB c (rs ++ [r]):=fun q hq=>by
 rcases zW.mp hq with z | z
 ·exact ⟨(h q z).1,fun n hn=>zD ((h q z).2 n hn) (qN (by decide) hc)⟩
 ·rw [zn.mp z]; exact ⟨hl,hr⟩
theorem mvI_bound {s n:Int}{b:Nat}(h0:-40 <= s)(h1:s <= 40)(h:n.natAbs <= 2 ^ b):(mvI s n).natAbs <= 2 ^ (b+40):=by
 unfold mvI
 generalize hj:(if 0 > s then (0:Int) else s).toNat=j
 have hj40:j <= 40:=by rw [← hj]; split <;> omega
 generalize (if 0 > 0 - s then (0:Int) else 0 - s).toNat=k
 have p:=J2 k
 have h2:(n * 2 ^ j).natAbs <= 2 ^ (b+40):=by
  rw [Int.natAbs_mul,Int.natAbs_pow]
  refine zD (Nat.mul_le_mul h (qN (by decide) hj40:2 ^ j <= 2 ^ 40)) ?_
  rw [← Nat.pow_add]
  exact zG _
 generalize n * 2 ^ j=x at h2
 refine zD ?_ h2
 have:(x / 2 ^ k).natAbs <= x.natAbs:=Int.natAbs_ediv_le_natAbs x (2 ^ k)
 exact this
structure WebOk (ins:Nat) (ds:List Wd) (gs:List Go):Prop where
 i1:1 <= ins
 i2:ins <= 12
 dk:∀ (k:Nat) (d:Wd),ds[k]? = some d -> d.a < ins+k /\ d.b < ins+k /\ (d.w = "sum" \/ d.w = "less")
 gk:∀ g ∈ gs,g.th < ins+ds.length
 dl:ds.length <= 60
 gl:gs.length <= 12
end L2
namespace L2
open PySem PySem.Spec PyProof.Rows
theorem cf_mem:∀ (names:List (Str × NameKind)) (n:Nat) (acc:List (Str × Addr)) (p:Str × Addr),p ∈ cellsFrom n names acc -> p ∈ acc \/ ((p.1,NameKind.cell) ∈ names /\ n <= p.2)
 | [],_,_,_,h=>.inl h
 | (y,k) :: r,n,acc,p,h=>by
  unfold cellsFrom at h
  by_cases hk:(k == .cell)=true
  ·rw [if_pos hk] at h
   have ek:k = .cell:=by simpa using hk
   subst ek
   rcases cf_mem r (n+1) _ p h with z | ⟨z,l⟩
   ·rcases zI.mp z with e | e
    ·subst e
     exact .inr ⟨zK,zG _⟩
    ·exact .inl e
   ·exact .inr ⟨zO _ z,yF l⟩
  ·rw [if_neg hk] at h
   rcases cf_mem r n acc p h with z | ⟨z,l⟩
   ·exact .inl z
   ·exact .inr ⟨zO _ z,l⟩
theorem cf_inj:∀ (names:List (Str × NameKind)) (n lo:Nat) (acc:List (Str × Addr)),lo <= n -> (∀ p ∈ acc,(p.2:Nat) < n) -> (∀ (x y:Str) (c:Addr),(x,c) ∈ acc -> (y,c) ∈ acc -> lo <= c -> x=y) ->
  ∀ (x y:Str) (c:Addr),(x,c) ∈ cellsFrom n names acc -> (y,c) ∈ cellsFrom n names acc -> lo <= c -> x=y
 | [],_,_,_,_,_,hi,x,y,c,h1,h2,l=>hi x y c h1 h2 l
 | (z,k) :: r,n,lo,acc,hl,hn,hi,x,y,c,h1,h2,l=>by
  unfold cellsFrom at h1 h2
  by_cases hk:(k == .cell)=true
  ·rw [if_pos hk] at h1 h2
   refine cf_inj r (n+1) lo _ (Nat.le_succ_of_le hl) (fun p hp=>?_) (fun x y c a b l=>?_) x y c h1 h2 l
   ·rcases zI.mp hp with e | e
    ·subst e; exact Nat.lt_succ_self _
    ·exact xG (hn p e)
   ·rcases zI.mp a with e | e <;> rcases zI.mp b with e' | e'
    ·rw [(Prod.mk.inj e).1,(Prod.mk.inj e').1]
    ·have:=hn _ e'
     rw [(Prod.mk.inj e).2] at this
     exact absurd this (zq _)
    ·have:=hn _ e
     rw [(Prod.mk.inj e').2] at this
     exact absurd this (zq _)
    ·exact hi x y c e e' l
  ·rw [if_neg hk] at h1 h2
   exact cf_inj r n lo acc hl hn hi x y c h1 h2 l
theorem cf_keep {x:Str}{c:Addr}:∀ (names:List (Str × NameKind)) (n:Nat) (acc:List (Str × Addr)),acc.lookup x=some c -> (x,NameKind.cell) ∉ names -> (cellsFrom n names acc).lookup x=some c
 | [],_,_,h,_=>h
 | (y,k) :: r,n,acc,h,hm=>by
  unfold cellsFrom
  have hr:(x,NameKind.cell) ∉ r:=fun z=>hm (zO _ z)
  by_cases hk:(k == .cell)=true
  ·rw [if_pos hk]
   have ek:k = .cell:=by simpa using hk
   subst ek
   refine cf_keep r (n+1) _ ?_ hr
   rw [xc]
   have hne:(x == y)=false:=by
    cases e:x == y with
    | false=>rfl
    | true=>rw [beq_iff_eq.mp e] at hm; exact absurd zK hm
   rw [hne]
   exact h
  ·rw [if_neg hk]
   exact cf_keep r n acc h hr
theorem cf_new:∀ (names:List (Str × NameKind)) (h:Heap) (acc:List (Str × Addr)) (p:Str × Addr),p ∈ cellsFrom h.objs.size names acc -> p ∈ acc \/ (pushCells h names).IsCell p.2 none
 | [],_,_,_,h=>.inl h
 | (y,k) :: r,h,acc,p,hp=>by
  unfold cellsFrom at hp
  unfold pushCells
  by_cases hk:(k == .cell)=true
  ·rw [if_pos hk] at hp ⊢
   have:=cf_new r (h.push { cls:=.type "cell",data:=.cell none }) ((y,h.objs.size) :: acc) p (by rw [Heap.size_push]; exact hp)
   rcases this with z | z
   ·rcases zI.mp z with e | e
    ·subst e
     exact .inr ⟨_,pushCells_keeps r _ _ _ (Heap.get?_push_size _ rfl),rfl⟩
    ·exact .inl e
   ·exact .inr z
  ·rw [if_neg hk] at hp ⊢
   exact cf_new r h acc p hp
theorem jo {scope:Scope}{env:Env}{x:Str}{c:Addr}(m:(x,c) ∈ yd scope env):env.cells.lookup x=some c /\ (x,NameKind.free) ∈ scope.names:=by
 unfold yd at m
 rw [List.mem_reverse,ji] at m
 obtain ⟨⟨n,k⟩,hy,e⟩:=m
 split at e
 ·rename_i hk
  have hk:k = .free:=by simpa using hk
  subst hk
  cases q:env.cells.lookup n with
  | none=>rw [q] at e; cases e
  | some d =>
   rw [q] at e
   simp only [Option.map_some,Option.some.injEq,Prod.mk.injEq] at e
   rw [← e.1,q,e.2]
   exact ⟨rfl,hy⟩
 ·cases e
def compEnvK (scope:Scope)(cl:List (Str × Addr))(C:Addr)(env:Env):Env :=
 { scope:=relabel scope env,locals:=C,globals:=env.globals,cells:=cellsFrom (C+1) scope.names cl,qual:=env.qual,func:=none,code:=env.code,frame:=env.frame,builtins:=env.builtins }
def nfeH (h:Heap)(names:List (Str × NameKind)):Heap:=pushCells (h.push { cls:=.type "dict",data:=.dict #[] }) names
theorem nfe_cells {M:Model}{A:Around}{E:Value -> Shared -> Prop}{s:Shared}{scope:Scope}{globals:Addr}{cl:List (Str × Addr)}{qual:Str}{env:Env}{Q:Env -> Shared -> Prop}
  (hQ:Q { scope:=scope,locals:=s.heap.objs.size,globals:=globals,cells:=cellsFrom (s.heap.objs.size+1) scope.names cl,qual:=qual,func:=none,code:=env.code,frame:=env.frame,builtins:=env.builtins } { s with heap:=nfeH s.heap scope.names }) :
  wpAny M A (newFunctionEnv scope globals cl [] qual none .none (some env)) Q E s:=by
 simp only [newFunctionEnv,Option.isSome_some,if_true]
 refine wpAny_bind (wpAny_alloc ?_)
 refine wpAny_bind (wpAny_layCells _ (fun name kind cells=>by cases hkc:kind == NameKind.cell <;> simp [hkc]) _ _ _ _ ?_)
 rw [show ({ s with heap:=s.heap.push { cls:=.type "dict",data:=.dict #[] } }:Shared).heap.objs.size=s.heap.objs.size+1 from Heap.size_push ..]
 rw [List.forIn_nil]
 exact wpAny_bind (wpAny_pure (wpAny_pure hQ))
def xz (X:Cx)(N:List Str)(scope:Scope)(C:Addr)(s:Shared)(H:Hp)(fp:List Addr):Cx :=
 { X with N:=N,s₀:=s,H₀:=H,env:=compEnvK scope (yd scope X.env) C X.env,outer:=X.stack,stack:=X.stack,ex:=fp,fn:=fun x=>scope.names.lookup x == some .cell,pn:=[],xe:=fun _ _=>False }
def scC (sc xsc:Scope):Bool:=(sc.kind == .function) && sc.names.all fun x=>(x.2 != .cell || sc.names.lookup x.1 == some .cell) && (x.2 != .local || sc.names.lookup x.1 == some .local) && (x.2 != .free || ((sc.names.lookup x.1 == some .free) && ((xsc.names.lookup x.1 == some .cell) || (xsc.names.lookup x.1 == some .free))))
section
variable {X:Cx}
theorem compCxC_inv {pins:List (Addr × Obj)}{σ:St}{H:Hp}{s:Shared}{N:List Str}{scope:Scope}{nt:Nat}{cs:List Nat}{fp:List Addr}{tk:Nat}(I:Inv X pins σ H s)
  (hsc:scC scope X.env.scope=true) (hcap:capB cs (N.drop nt) X.N scope X.env.scope=true) (hlen:N.length=nt+cs.length)
  (hf:∀ b ∈ fp,FpOk X pins H b) (hfl:∀ b ∈ fp,b < s.heap.objs.size) :
  Inv (xz X N scope s.heap.objs.size s H fp) [] (jX nt cs σ) H { s with heap:=nfeH s.heap scope.names,toks:=tk }:=by
 have hk:∀ b o,s.heap.get? b=some o -> (nfeH s.heap scope.names).get? b=some o:=fun b o e=>pushCells_keeps _ _ b o (Heap.get?_push_of_some _ e)
 have hn:(nfeH s.heap scope.names).Ns s.heap.objs.size fun _=>none:=(Heap.Ns.new s.heap (.type "dict")).keeps (pushCells_keeps _ _)
 unfold scC at hsc
 rw [zB] at hsc
 obtain ⟨hkd,hall⟩:=hsc
 have hkd:scope.kind = .function:=by simpa using hkd
 rw [zf] at hall
 have cellL:∀ x,(x,NameKind.cell) ∈ scope.names -> scope.names.lookup x=some .cell:=fun x hx=>by
  have:=hall _ hx
  simp only [bne_self_eq_false,yX,zB,beq_iff_eq] at this
  exact this.1.1
 have freeL:∀ x,(x,NameKind.free) ∈ scope.names -> scope.names.lookup x=some .free:=fun x hx=>by
  have:=hall _ hx
  simp only [bne_self_eq_false,yX,zB,beq_iff_eq] at this
  exact this.2.1
 have free2:∀ x,(x,NameKind.free) ∈ scope.names -> X.env.kindOf x=some .cell \/ X.env.kindOf x=some .free:=fun x hx=>by
  have:=hall _ hx
  simp only [bne_self_eq_false,yX,zB,xE,beq_iff_eq] at this
  exact this.2.2
 have kinds:∀ x,((xz X N scope s.heap.objs.size s H fp).env.kindOf x=some .cell \/ (xz X N scope s.heap.objs.size s H fp).env.kindOf x=some .free) -> scope.names.lookup x=some .cell \/ (x,NameKind.free) ∈ scope.names:=fun x hx=>by
  have q:∃ k,(relabel scope X.env).names.lookup x=some k /\ (k = .cell \/ k = .free):=by
   rcases hx with e | e
   ·exact ⟨_,e,.inl rfl⟩
   ·exact ⟨_,e,.inr rfl⟩
  obtain ⟨k,e,hk'⟩:=q
  obtain ⟨k0,e0,r⟩:=ye e
  have m:=PySem.mem_of_lookup e0
  rcases r with r | ⟨r,_⟩
  ·subst r
   rcases hk' with z | z
   ·rw [z] at e0; exact .inl e0
   ·rw [z] at m; exact .inr m
  ·rw [r] at m; exact .inr m
 have clt:∀ x c,X.env.cells.lookup x=some c -> c < s.heap.objs.size:=fun x c e=>by
  obtain ⟨v,q⟩:=I.cell x c e
  exact q.lt
 -- a cell of the block: one of the caller's,or one of its own
 have two:∀ x c,(xz X N scope s.heap.objs.size s H fp).env.cells.lookup x=some c -> (X.env.cells.lookup x=some c /\ (x,NameKind.free) ∈ scope.names) \/ ((x,NameKind.cell) ∈ scope.names /\ s.heap.objs.size+1 <= c /\ (nfeH s.heap scope.names).IsCell c none):=fun x c e=>by
  have m:=PySem.mem_of_lookup e
  rcases cf_mem _ _ _ _ m with z | ⟨z,l⟩
  ·exact .inl (jo z)
  ·refine .inr ⟨z,l,?_⟩
   have m':(x,c) ∈ cellsFrom (s.heap.push { cls:=.type "dict",data:=.dict #[] }).objs.size scope.names (yd scope X.env):=by rw [Heap.size_push]; exact m
   rcases cf_new _ _ _ _ m' with q | q
   ·have:=clt x c (jo q).1
    exact absurd (qJ this (yF l)) (zq _)
   ·exact q
 refine ⟨⟨I.ok.mod,?_,I.ok.glob,I.ok.blt,zG _,?_,?_,?_,I.ok.hd,I.ok.frames,.inl rfl,?_,?_,?_,?_,?_,?_,?_⟩,rfl,I.bare,Un.kept hk,⟨_,hn,?_⟩,?_,?_,?_,?_,I.hok.kept hk,?_⟩
 ·show (relabel scope X.env).kind=_
  exact hkd
 ·intro x y c e1 e2
  rcases two x c e1 with ⟨a,_⟩ | ⟨_,a,_⟩ <;> rcases two y c e2 with ⟨b,_⟩ | ⟨_,b,_⟩
  ·exact I.ok.inj x y c a b
  ·exact absurd (qJ (clt x c a) (yF b)) (zq _)
  ·exact absurd (qJ (clt y c b) (yF a)) (zq _)
  ·refine cf_inj scope.names (s.heap.objs.size+1) (s.heap.objs.size+1) (yd scope X.env) (zG _) (fun p hp=>xG (clt p.1 p.2 (jo hp).1)) (fun x y c h1 h2 l=>?_) x y c (PySem.mem_of_lookup e1) (PySem.mem_of_lookup e2) a
   exact absurd (qJ (clt x c (jo h1).1) (yF l)) (zq _)
 ·intro x hx
  rcases kinds x hx with m | m
  ·exact Option.isSome_iff_exists.mp (PySem.W.cellsFrom_some scope.names (s.heap.objs.size+1) (yd scope X.env) (.inl m))
  ·obtain ⟨c,hc⟩:=I.ok.has x (free2 x m)
   exact Option.isSome_iff_exists.mp (PySem.W.cellsFrom_some scope.names (s.heap.objs.size+1) (yd scope X.env) (.inr (by rw [J3 m hc]; rfl)))
 ·intro x c z e
  have z:scope.names.lookup x=some .cell:=by simpa [xz] using z
  rcases two x c e with ⟨_,m⟩ | ⟨_,l,_⟩
  ·have:=freeL x m
   rw [z] at this
   cases this
  ·exact yF l
 ·intro b hb
  obtain ⟨f0,f1,f2,f3,f4,f5⟩:=hf b hb
  refine ⟨zN (hfl b hb),fun x c e=>?_⟩
  rcases two x c e with ⟨a,_⟩ | ⟨_,l,_⟩
  ·exact f4 x c a
  ·exact fun z=>absurd (qJ (hfl b hb) (yF (z ▸ l))) (zq _)
 ·intro b o e
  exact I.bs b o e
 ·exact zD I.ok.bsz I.sz
 ·intro b o e hb
  obtain ⟨f0,f1,f2,f3,f4,f5⟩:=hf b hb
  rcases f3 with z | z
  ·exact I.ok.noex b o e z
  ·exact absurd (qJ (Heap.lt_size (I.ok.bs b o e).1) z) (zq _)
 ·intro b hb hs
  obtain ⟨f0,f1,f2,f3,f4,f5⟩:=hf b hb
  rcases zI.mp (I.stkSub b hs) with z | z
  ·exact f1 z
  ·exact f2 z
 ·exact I.stack
 ·exact I.stkFree
 ·intro i x v e1 e2 _
  have hi:nt <= i:=by
   refine Nat.le_of_not_lt fun z=>?_
   unfold jX at e2
   rw [qH (by simpa using z),List.getElem?_replicate,if_pos z] at e2
   cases e2
  unfold jX at e2
  rw [qG (by simpa using hi),qL,qI] at e2
  cases q:cs[i - nt]? with
  | none=>rw [q] at e2; cases e2
  | some c =>
   rw [q] at e2
   simp only [Option.map_some,Option.some.injEq] at e2
   have e3:σ[c]? = some (some v):=by
    cases z:σ[c]? with
    | none=>rw [z] at e2; cases e2
    | some o=>rw [z] at e2; exact congrArg some e2
   unfold capB at hcap
   rw [zf] at hcap
   have e4:(N.drop nt)[i - nt]? = some x:=by
    rw [List.getElem?_drop,show nt+(i - nt)=i by omega]
    exact e1
   have m:(c,x) ∈ cs.zip (N.drop nt):=by
    have:(cs.zip (N.drop nt))[i - nt]? = some (c,x):=by rw [List.getElem?_zip_eq_some]; exact ⟨q,e4⟩
    exact qE this
   have hm:=hcap _ m
   simp only [zB,beq_iff_eq,bne_iff_ne,ne_eq] at hm
   obtain ⟨⟨h1',h2'⟩,h3'⟩:=hm
   have hlk:scope.names.lookup x=some .free:=h2'
   have h2':(x,NameKind.free) ∈ scope.names:=PySem.mem_of_lookup hlk
   have nocell:(x,NameKind.cell) ∉ scope.names:=fun z=>by
    have:=cellL x z
    rw [hlk] at this
    cases this
   obtain ⟨mm,hmm,hl⟩:=I.loc
   have vis:Vis X.env.scope x:=.inr (free2 x h2')
   obtain ⟨u,r,l⟩:=hl c x v h1' e3 vis
   rcases l with ⟨z,_⟩ | ⟨z,d,hd,hcell⟩
   ·exact absurd z h3'
   ·refine ⟨u,r,.inr ⟨?_,d,cf_keep _ _ _ (J3 h2' hd) nocell,?_⟩⟩
    ·have isf:∃ k,(relabel scope X.env).names.lookup x=some k:=by
      have:∃ k',(x,k') ∈ (relabel scope X.env).names:=by
       unfold relabel
       by_cases cc:(X.env.scope.kind == .function && X.env.kindOf x == some .cell)=true
       ·refine ⟨.cell,qP.mpr ⟨(x,.free),h2',?_⟩⟩
        simp only [zB] at cc
        simp [cc.1,cc.2]
       ·refine ⟨.free,qP.mpr ⟨(x,.free),h2',?_⟩⟩
        simp only [zB] at cc
        have cc':¬ ((NameKind.free == NameKind.free && X.env.scope.kind == .function && X.env.kindOf x == some .cell)=true):=by
         simp only [beq_self_eq_true,xL,zB]
         exact cc
        show (if (NameKind.free == NameKind.free && X.env.scope.kind == .function && X.env.kindOf x == some .cell)=true then (x,NameKind.cell) else (x,NameKind.free))=(x,NameKind.free)
        rw [if_neg cc']
      obtain ⟨k',hk'⟩:=this
      exact j6 hk'
     obtain ⟨k,ek⟩:=isf
     obtain ⟨k0,e0,rr⟩:=ye ek
     rcases rr with rr | ⟨_,rr⟩
     ·subst rr
      rw [hlk] at e0
      cases e0
      exact .inr ek
     ·subst rr
      exact .inl ek
    ·obtain ⟨o,ho,hd'⟩:=hcell
     exact ⟨o,hk _ _ ho,hd'⟩
 ·intro x c e
  rcases two x c e with ⟨a,_⟩ | ⟨_,_,a⟩
  ·obtain ⟨v,o,ho,hd⟩:=I.cell x c a
   exact ⟨v,o,hk _ _ ho,hd⟩
  ·exact ⟨none,a⟩
 ·exact I.hok.fresh (zG _)
 ·intro x c e
  rcases two x c e with ⟨a,_⟩ | ⟨_,l,_⟩
  ·exact I.freeC x c a
  ·exact I.hok.fresh (yF l)
 ·intro p hp
  cases hp
 ·show (jX nt cs σ).length=N.length
  unfold jX
  rw [qF,qL,qC,hlen]
theorem compC_core {use:Option (Value -> Sem Unit)}{QQ:Value -> Shared -> Prop}{ipos:Pos}{tg iter elt:Expr}{ifs:List Expr}{scope:Scope}{pos:Pos}{wi:TI}{N:List Str}{nt:Nat}{cs:List Nat}{g:TG}{tt:TT}{te:TE}(hc:X.calm=true)(hi:PI X tg iter wi)
  (hb:N.Nodup -> ∀ (C:Addr) (s:Shared) (H:Hp) (fp:List Addr),CompBody (xz X N scope C s H fp) tg ifs elt g tt te)
  (hnd:N.Nodup) (hsc:scC scope X.env.scope=true) (hcap:capB cs (N.drop nt) X.N scope X.env.scope=true) (hlen:N.length=nt+cs.length)
  (hs:∀ x,foldedSetIterable iter X.env x=pure x) {pins:List (Addr × Obj)} {s:Shared} {σ:St} {H:Hp} {Q:V -> Hp -> Prop} (I:Inv X pins σ H s) (h:JG wi nt cs g tt te σ H Q)
  (hfin:∀ {acc:Addr} {fp:List Addr} {HX:Hp} {sx:Shared} {σ':St} {H':Hp} {s':Shared},Inv X pins σ HX sx -> (∀ b ∈ fp,FpOk X pins HX b) -> Inv (xz X N scope sx.heap.objs.size sx HX fp) [] σ' H' s' -> Q (.ref acc) H' -> compPost (model X.prog X.w) X.A X.xe use QQ (.ref acc) sx.heap.objs.size (.ok .next) s') :
  wpAny (model X.prog X.w) X.A (comprehension (.ListComp elt [⟨tg,iter,ifs,0⟩] scope pos) scope X.env ipos (newList []) false (eval iter X.env) use) QQ X.xe s:=by
 have hsc':=hsc
 unfold scC at hsc'
 rw [zB] at hsc'
 obtain ⟨hkd,hall⟩:=hsc'
 have hkd:scope.kind = .function:=by simpa using hkd
 rw [zf] at hall
 have hnames:∀ x ∈ scope.names,x.2 = .local -> scope.names.lookup x.1=some .local:=fun x hx e=>by
  have:=hall x hx
  rw [e] at this
  simp only [bne_self_eq_false,yX,zB,beq_iff_eq] at this
  exact this.1.2
 have hclos:closureFor scope X.env=pure (yd scope X.env):=Jj fun x hx e=>by
  have:=hall x hx
  rw [e] at this
  simp only [bne_self_eq_false,yX,zB,xE,beq_iff_eq] at this
  exact I.ok.has x.1 this.2.2
 refine wpAny_comprehension_free (use:=use) rfl hs hclos hkd hnames (thn (hi pins s σ H _ I h) fun v s1 h1=>thn h1 fun itv s2 h2=>?_)
 obtain ⟨it,fp,tn,J,H2,e,I2,T,st2,f2,hR⟩:=h2
 subst e
 refine wpAny_newObj_type (nfe_cells ?_)
 have fr:=I2.fresh
 have I3:Inv X pins σ (upd H2 s2.heap.objs.size (.lst [])) { s2 with heap:=s2.heap.push { cls:=.type "list",data:=.seq ([]:List Value).toArray },toks:=s2.toks }:=I2.lnew .nil (zg (by decide))
 obtain ⟨W,⟨m0,w0⟩,turn⟩:=hR _ fr
 generalize hacc:s2.heap.objs.size=acc at *
 generalize hsx:({ s2 with heap:=s2.heap.push { cls:=.type "list",data:=.seq ([]:List Value).toArray },toks:=s2.toks }:Shared)=sx at *
 have hC:sx.heap.objs.size=acc+1:=by rw [← hsx,← hacc]; exact Heap.size_push _ _
 have fpl:∀ b ∈ fp,b < acc:=fun b hb=>by
  obtain ⟨o,ho,_⟩:=T.obj _ _ st2 b hb
  rw [← hacc]
  exact Heap.lt_size ho
 have f3:∀ b ∈ fp,FpOk X pins (upd H2 acc (.lst [])) b:=fun b hb=>by
  obtain ⟨f0,f1⟩:=f2 b hb
  exact ⟨by rw [upd_ne (zN (fpl b hb))]; exact f0,f1⟩
 have keep3:∀ b o,sx.heap.get? b=some o -> (nfeH sx.heap scope.names).get? b=some o:=fun b o e=>pushCells_keeps _ _ b o (Heap.get?_push_of_some _ e)
 have hn3:(nfeH sx.heap scope.names).Ns sx.heap.objs.size fun _=>none:=(Heap.Ns.new sx.heap (.type "dict")).keeps (pushCells_keeps _ _)
 have IC:Inv (xz X N scope sx.heap.objs.size sx (upd H2 acc (.lst [])) fp) [] (jX nt cs σ) (upd H2 acc (.lst [])) { sx with heap:=nfeH sx.heap scope.names,toks:=sx.toks } :=
  compCxC_inv (tk:=sx.toks) I3 hsc hcap hlen f3 (fun b hb=>by rw [hC]; exact xG (fpl b hb))
 have hn3':H2 acc=none:=fr
 generalize hXC:xz X N scope sx.heap.objs.size sx (upd H2 acc (.lst [])) fp=XC at IC
 have ctxP:XC.prog=X.prog:=by rw [← hXC]; rfl
 have ctxW:XC.w=X.w:=by rw [← hXC]; rfl
 have ctxK:XC.K=X.K:=by rw [← hXC]; rfl
 have ctxA:XC.A=X.A:=by rw [← hXC]; rfl
 have ctxC:XC.calm=true:=by rw [← hXC]; exact hc
 have ctxX:XC.xe=fun _ _=>False:=by rw [← hXC]; rfl
 have ctxE:XC.env=compEnvK scope (yd scope X.env) sx.heap.objs.size X.env:=by rw [← hXC]; rfl
 have body:CompBody XC tg ifs elt g tt te:=by rw [← hXC]; exact hb hnd _ _ _ _
 have st3:tn 0 (nfeH sx.heap scope.names):=T.keep _ _ _ st2 fun b hb o e=>keep3 b o (by rw [← hsx]; exact Heap.get?_push_of_some _ e)
 have stat:∀ {H':Hp},(∀ b ∈ fp,H' b=none) -> ∀ b ∈ fp,FpOk XC [] H' b:=fun hn b hb=>by
  obtain ⟨f0,f1,f2',f3',f4,f5⟩:=f3 b hb
  refine ⟨hn b hb,?_,?_,.inl (by rw [← hXC]; exact hb),fun x c e=>?_,fun p hp=>?_⟩
  ·rw [ctxE]
   exact zN (by rw [hC]; exact xG (fpl b hb))
  ·rw [← hXC]
   intro z
   rcases zI.mp (I3.stkSub b z) with z | z
   ·exact f1 z
   ·exact f2' z
  ·rw [ctxE] at e
   rcases cf_mem _ _ _ _ (PySem.mem_of_lookup e) with z | ⟨_,z⟩
   ·exact f4 x c (jo z).1
   ·have h9:=fpl b hb
    have z:sx.heap.objs.size+1 <= c:=z
    rw [hC] at z
    exact zt (qJ h9 (yF (yF z)))
  ·rw [← hXC] at hp
   cases hp
 have fin:∀ {σ':St} {H':Hp} {s':Shared},Inv XC [] σ' H' s' -> Q (.ref acc) H' -> compPost (model X.prog X.w) X.A X.xe use QQ (.ref acc) sx.heap.objs.size (.ok .next) s':=fun {σ' H' s'} J' q=>hfin I3 f3 (by rw [hXC]; exact J') q
 have loop:codeAny (model X.prog X.w) X.A (.compLoop (.ListComp elt [⟨tg,iter,ifs,0⟩] scope pos) 0 (.ref it) (.ref acc) XC.env) (compPost (model X.prog X.w) X.A X.xe use QQ (.ref acc) sx.heap.objs.size)
   { sx with heap:=nfeH sx.heap scope.names,toks:=sx.toks }:=by
  rw [← ctxP,← ctxW,← ctxA]
  refine x6 (fun n s'=>∃ i ys σ' H',Inv XC [] σ' H' s' /\ tn i s'.heap /\ (∀ b ∈ fp,H' b=none) /\ W i n ys σ' H') ?_ m0 ⟨0,[],_,_,IC,st3,fun b hb=>(f3 b hb).1,w0⟩
  rintro n s3 ⟨i,ys,σ3,H3,I3',st3',fr3,w3⟩
  have T':=T
  rw [← ctxP,← ctxW,← ctxK] at T'
  obtain ⟨hacc3,alt⟩:=turn i n ys σ3 H3 w3
  rcases alt with ⟨stop,qn⟩ | ⟨go,hsz,NN,hNN,step⟩
  ·refine thn (T'.done XC rfl rfl rfl ctxC i [] s3 σ3 H3 _ I3' (stat fr3) st3' stop) fun r s4 ⟨hr,I4⟩=>?_
   subst hr
   rw [ctxP,ctxW,ctxA]
   exact fin I4 qn
  ·refine thn (T'.item XC rfl rfl rfl ctxC i [] s3 σ3 H3 _ I3' (stat fr3) st3' go) fun r s4 ⟨u,hr,h4⟩=>?_
   subst hr
   refine thn h4 fun _ s5 ⟨x,H5,I5,r5,y5,st5,fr5⟩=>?_
   have I5':=I5.pinned (stat fr5) (T'.obj _ _ st5)
   have a1:=body.tg _ s5 σ3 H5 x u _ I5' r5 (step x H5 y5)
   rw [ctxX] at a1
   refine thn a1 fun _ s6 ⟨σ6,H6,I6,q6⟩=>?_
   have a2:=body.tt _ s6 σ6 H6 _ I6 q6
   rw [ctxX] at a2
   refine thn a2 fun b s7 ⟨H7,I7,q7⟩=>?_
   have again:∀ {s8:Shared} {σ7:St} {H7:Hp} {zs:List V},Inv XC ([] ++ zAL fp s5.heap) σ7 H7 s8 -> NN zs σ7 H7 -> ∃ m,m < n /\ ∃ i ys σ' H',Inv XC [] σ' H' s8 /\ tn i s8.heap /\ (∀ b ∈ fp,H' b=none) /\ W i m ys σ' H':=fun {s8 σ7 H7 zs} I7 n7=>by
    obtain ⟨m',hm,w7⟩:=hNN zs σ7 H7 n7
    refine ⟨m',hm,i+1,zs,σ7,H7,I7.unpinned,T'.keep _ _ _ st5 fun b hb o e=>(I7.pin (b,o) (qK _ (qK _ (xo hb e)))).1,fun b hb=>?_,w7⟩
    obtain ⟨o,e,d⟩:=T'.obj _ _ st5 b hb
    exact (I7.pin (b,o) (qK _ (qK _ (xo hb e)))).2.1
   cases b with
   | false =>
    rw [if_neg zQ] at q7 ⊢
    exact again I7 q7
   | true =>
    rw [if_pos rfl] at q7 ⊢
    have a3:=body.te _ s7 σ6 H7 _ I7 q7
    rw [ctxX] at a3
    refine thn a3 fun xv s8 ⟨y,H8,I8,r8,q8⟩=>?_
    obtain ⟨hl8,n8⟩:=q8
    have a4:=mt_append (X:=XC) _ s8 σ6 H8 (.ref acc) [y] (.ref acc) [xv] (fun _ H9=>NN (ys ++ [y]) σ6 H9) I8 rfl (.cons r8 .nil) ⟨acc,ys,y,rfl,rfl,hl8,hsz,n8⟩
    rw [ctxX] at a4
    refine thn a4 fun _ s9 ⟨_,H9,I9,_,q9⟩=>?_
    exact again I9 q9
 rw [ctxE] at loop
 exact codeAny_compStart_list loop (T.self X.A 0 _ _ _ st3 loop)
theorem zAk {y:Str}{py spos:Pos}{ix:Nat}{tg iter elt:Expr}{ifs:List Expr}{scope:Scope}{pos:Pos}{wi:TI}{N:List Str}{nt:Nat}{cs:List Nat}{g:TG}{tt:TT}{te:TE}(hc:X.calm=true)(hi:PI X tg iter wi)
  (hb:N.Nodup -> ∀ (C:Addr) (s:Shared) (H:Hp) (fp:List Addr),CompBody (xz X N scope C s H fp) tg ifs elt g tt te)
  (hnd:N.Nodup) (hsc:scC scope X.env.scope=true) (hcap:capB cs (N.drop nt) X.N scope X.env.scope=true) (hlen:N.length=nt+cs.length)
  (hs:∀ x,foldedSetIterable iter X.env x=pure x) (hN:X.N.Nodup) (hix:X.N[ix]? = some y) (hy:Loc X.env.scope y) (hf:X.fn y=true \/ X.env.scope.names.lookup y=some .local)
  (hsw:swapsWith (.ListComp elt [⟨tg,iter,ifs,0⟩] scope pos) (some (.Name y py)) spos.line X.env=pure true):PS X (.Assign [.Name y py] (.ListComp elt [⟨tg,iter,ifs,0⟩] scope pos) spos) (tAsg (JG wi nt cs g tt te) (jB ix)):=by
 intro pins s σ H D I h
 rw [exec_Assign_Name_used _ _ _ _ hsw]
 refine wpAny_bind (wpAny_standAt (wpAny_bind ?_))
 show wpAny _ X.A (do let _ ← comprehension (.ListComp elt [⟨tg,iter,ifs,0⟩] scope pos) scope X.env _ (newList []) false (eval iter X.env) (some (assign (.Name y py) X.env))) _ _ s
 refine wpAny_bind (wpAny_mono (compC_core (use:=some (assign (.Name y py) X.env)) (QQ:=fun _ s'=>SP X pins D .next s') hc hi hb hnd hsc hcap hlen hs I h fun {acc fp HX sx σ' H' s'} I3 f3 J' q=>?_) (fun _ s' hq=>wpAny_pure (wpAny_pure hq)) fun _ _ e=>e)
 obtain ⟨m,hm,_⟩:=J'.loc
 have IX:Inv X pins σ H' s':=I3.call' J'.os J'.base J'.hok J'.bare fun b hb=>by
  obtain ⟨f0,f1,f2',f3',f4,f5⟩:=f3 b hb
  exact ⟨f3',f1,f4,f5⟩
 have hCL:sx.heap.objs.size ≠ X.env.locals:=zt I3.lt
 have hCc:∀ x c,X.env.cells.lookup x=some c -> c ≠ sx.heap.objs.size:=fun x c e=>by
  obtain ⟨v,z⟩:=I3.cell x c e
  exact zN z.lt
 have hCp:∀ p ∈ X.pn ++ pins,p.1 ≠ sx.heap.objs.size:=fun p hp=>zN (Heap.lt_size (I3.pin p hp).1)
 show wpAny _ X.A (assign (.Name y py) X.env (.ref acc)) _ _ s'
 refine wpAny_assign_Name (store_ok2 IX hN hix hy (v:=.ref acc) rfl (fun s'' I'' ⟨a,hsb,ha⟩=>?_) hf)
 have hCa:sx.heap.objs.size ≠ a:=fun z=>by
  rcases ha with e | e
  ·exact hCL (z.trans e)
  ·exact hCc _ _ e z.symm
 refine ⟨m,hm.sameBut hsb hCa,fun h' hs'=>⟨_,H',?_,q⟩⟩
 exact I''.turned (t':=s''.toks) (fun b o hb e=>(hs'.2 b hb).trans e) J'.free hCL (.inr I3.sz) hCc hCp
end
end L2
namespace L2
open PySem PySem.Spec
theorem Chg.updN {p q:Addr}{H H':Hp}{o:HO}(c:Chg p H H')(h:H q=none):Chg p H (L2.upd H' q o):=fun b u n e=>by rw [upd_ne (ne_of_none e h)]; exact c b u n e
theorem Chg.new {p q:Addr}{H H':Hp}(c:Chg p H H')(n:q ≠ p)(h:H' q=none):H q=none:=by
 cases e:H q with
 | none=>rfl
 | some o=>rw [c q o n e] at h; cases h
section
variable {K:zA}{σ:St}{H:Hp}{Q:VK}{cs:List Nat}{te:TE}
theorem comp_zip {r1 r2:Addr}{us vs:List V}(h1:SqL K H r1 us)(h2:SqL K H r2 vs)(hl:vs.length=us.length)(hz:us.length <= 1000)(zs:List V)(hzl:zs.length=us.length)
  (hb:∀ (i:Nat) (x y z:V) H' (R:VK),us[i]? = some x -> vs[i]? = some y -> zs[i]? = some z -> Same H H' -> R z H' -> te ([some x,some y] ++ yY cs σ) H' R)
  (hd:∀ acc H',H acc=none -> Same H H' -> H' acc=some (.lst zs) -> Q (.ref acc) H') :
  yn (Itz K r1 r2) 2 cs (gTupM 2 (gCons (jB 0) (gCons (jB 1) gNil))) tYes te σ H Q:=by
 refine J7 us.length (fun acc i ws H'=>Same H H' /\ H' acc=some (.lst ws) /\ ws=zs.take i) (zg hz) ?_ ?_ ?_ ?_ ?_ ?_
 ·rintro acc i ws H' hi ⟨s,_,_⟩
  exact ⟨_,_,s.seq h1,s.seq h2,hi,by omega⟩
 ·rintro acc ws H' ⟨s,_,_⟩
  exact ⟨_,_,s.seq h1,s.seq h2,.inl (zG _)⟩
 ·intro acc ha
  exact ⟨zV ha _,zL,rfl⟩
 ·rintro acc i ws H' ⟨s,ha,rfl⟩
  exact ⟨ha,by rw [qO]; omega⟩
 ·rintro acc i ws H' ts x H2 N hn hi ⟨s,ha,rfl⟩ ⟨T,u,v,rfl,hT,rfl,e1,e2⟩ hts hN
  have hu:=e1 _ (s.seq h1)
  have hv:=e2 _ (s.seq h2)
  obtain ⟨z,hzi⟩:∃ z,zs[i]? = some z:=⟨_,qA (by omega)⟩
  obtain ⟨t0,t1,rfl⟩:∃ t0 t1,ts=[t0,t1]:=by
   match ts,hts with
   | [a,b],_=>exact ⟨a,b,rfl⟩
  rw [J5]
  refine ⟨[u,v],zL,rfl,?_⟩
  rw [j7,jE,j7,jE,w_gNil,w_yes,if_pos rfl]
  have sT:=zV hT (.tup [u,v])
  refine hb i u v z _ _ hu hv hzi (s.trans sT) ?_
  have tk:zs.take (i+1)=zs.take i ++ [z]:=by rw [x9,hzi]; rfl
  refine ⟨sT _ _ ha,hN _ [some u,some v] _ rfl ⟨yg hn (s.trans sT),zL,tk.symm⟩⟩
 ·rintro acc ws H' hn ⟨s,ha,rfl⟩
  refine hd acc H' hn s ?_
  rw [ha,zm (by omega)]
theorem comp_rows {n:Nat}(hz:n <= 1000)(row:Nat -> List Int)(ex:List Addr)(hex:∀ e ∈ ex,H e ≠ none)
  (hb:∀ (i:Nat) H' (R:VK),i < n -> Same H H' -> (∀ r H5,H' r=none -> Same H' H5 -> H5 r=some (.lst ((row i).map V.int)) -> R (.ref r) H5) -> te (some (.int (0+(i:Int))) :: yY cs σ) H' R)
  (hd:∀ acc ys H',H acc=none -> Same H H' -> H' acc=some (.lst ys) -> HRs H' (acc :: ex) ys ((zy n).map row) -> Q (.ref acc) H') :
  yn (Itr 0 n) 1 cs (jB 0) tYes te σ H Q:=by
 refine J7 n (fun acc i ws H'=>Same H H' /\ H acc=none /\ H' acc=some (.lst ws) /\ HRs H' (acc :: ex) ws ((zy i).map row)) (zg hz) ?_ ?_ ?_ ?_ ?_ ?_
 ·rintro acc i ws H' hi _
  exact hi
 ·rintro acc ws H' _
  exact zG _
 ·intro acc ha
  exact ⟨zV ha _,ha,zL,hrs_nil⟩
 ·rintro acc i ws H' ⟨s,_,ha,hr⟩
  exact ⟨ha,by rw [hr.len,qC,List.length_range]; exact zG _⟩
 ·rintro acc i ws H' ts x H2 N hn hi ⟨s,hn',ha,hr⟩ ⟨rfl,rfl⟩ hts hN
  obtain ⟨t0,rfl⟩:∃ t0,ts=[t0]:=by
   match ts,hts with
   | [a],_=>exact ⟨a,rfl⟩
  rw [jE,w_yes,if_pos rfl]
  refine hb i _ _ hi s fun r H5 hr0 s5 h5=>?_
  refine ⟨s5 _ _ ha,hN _ [_] _ rfl ⟨yg hn (s.trans s5),hn,zL,?_⟩⟩
  have hra:r ≠ acc:=(ne_of_none ha hr0).symm
  have ne:∀ e ∈ acc :: ex,r ≠ e:=fun e he=>by
   rcases zI.mp he with z | z
   ·subst z; exact hra
   ·cases hh:H e with
    | none=>exact absurd hh (hex e z)
    | some o=>exact (ne_of_none (s _ _ hh) hr0).symm
  have h2:HRs (upd H5 acc (.lst (ws ++ [.ref r]))) (acc :: ex) (ws ++ [.ref r]) ((zy i).map row ++ [row i]):=by
   refine HRs.snoc ((hr.same s5).chg zK (Chg.upd _)) ?_ ne
   rw [upd_ne hra]; exact h5
  rw [List.range_succ,xm]
  exact h2
 ·rintro acc ws H' hn ⟨s,_,ha,hr⟩
  exact hd acc ws H' hn s ha hr
end
def yb (n i:Nat):List Int:=(zy n).map fun k=>if k=i then 1 else 0
def unV (i:Nat):V -> Option V:=fun x=>match x with
 | .int k=>some (.int (if k=(i:Int) then 1 else 0))
 | _=>none
theorem unV_map (n i:Nat):(rngV 0 n).filterMap (unV i)=(yb n i).map V.int:=by
 unfold rngV yb
 rw [List.map_map,jj]
 rw [show (unV i ∘ fun (k:Nat)=>V.int (0+(k:Int)))=fun k=>some ((V.int ∘ fun k=>if k=i then 1 else 0) k) from ?_,yz]
 funext k
 show some (V.int (if 0+(k:Int)=(i:Int) then 1 else 0))=some (V.int (if k=i then 1 else 0))
 by_cases h:k=i
 ·subst h; rw [if_pos (by omega),if_pos rfl]
 ·rw [if_neg (by omega),if_neg h]
theorem JI (n i:Nat):(yb n i).length=n:=by unfold yb; rw [qC,List.length_range]
theorem unitRow_bound {n i:Nat}{x:Int}(h:x ∈ yb n i):x=0 \/ x=1:=by
 unfold yb at h
 obtain ⟨k,_,rfl⟩:=qP.mp h
 by_cases e:k=i
 ·rw [if_pos e]; exact .inr rfl
 ·rw [if_neg e]; exact .inl rfl
end L2
namespace L2
open PySem PySem.Spec
theorem zAT {ns:List Int}{i:Nat}{x:V}(h:(ns.map V.int)[i]? = some x):∃ n,ns[i]? = some n /\ x=V.int n:=by
 rw [qI] at h
 cases e:ns[i]? with
 | none=>rw [e] at h; cases h
 | some n=>rw [e] at h; exact ⟨n,rfl,(Option.some.inj h).symm⟩
structure WI (H:Hp) (p:Addr) (ins:Nat) (tb dl:Addr) (k:Nat) (vs us:List V) (rs:List (List Int)) (ds:List Wd) (H':Hp):Prop where
 tbl:H' tb=some (.lst vs)
 hrs:HRs H' [dl,tb,p] vs rs
 rl:rs.length=ins+k
 rb:RB (41 * k) rs
 rw_:∀ r ∈ rs,r.length=ins
 dll:H' dl=some (.lst us)
 hds:HTs xM H' us ds
 dlen:ds.length=k
 dk:∀ (j:Nat) (d:Wd),ds[j]? = some d -> d.a < ins+j /\ d.b < ins+j /\ (d.w = "sum" \/ d.w = "less")
 chg:Chg p H H'
 ntb:H tb=none
 ndl:H dl=none
 tp:tb ≠ p
 dp:dl ≠ p
 td:tb ≠ dl
theorem HRs.sub {H:Hp}{ex ex':List Addr}{vs:List V}{rs:List (List Int)}(h:HRs H ex vs rs)(s:∀ e ∈ ex',e ∈ ex):HRs H ex' vs rs:=⟨h.len,fun k r e=>by
 obtain ⟨p,e1,e2,e3⟩:=h.at_ k r e
 exact ⟨p,e1,e2,fun z hz=>e3 z (s z hz)⟩⟩
structure WG (H:Hp) (p:Addr) (ins:Nat) (tb dl gl:Addr) (k:Nat) (vs us os:List V) (rs:List (List Int)) (ds:List Wd) (gs:List Go) (H':Hp):Prop where
 wi:WI H p ins tb dl k vs us rs ds H'
 hrs:HRs H' [gl,dl,tb,p] vs rs
 gll:H' gl=some (.lst os)
 hgs:HTs gTp H' os gs
 gk:∀ g ∈ gs,g.th < ins+k
 ngl:H gl=none
 gp:gl ≠ p
 gd:gl ≠ dl
 gt:gl ≠ tb
theorem WG.app {H:Hp}{p:Addr}{ins:Nat}{tb dl gl:Addr}{k:Nat}{vs us os:List V}{rs:List (List Int)}{ds:List Wd}{gs:List Go}{H':Hp}(h:WG H p ins tb dl gl k vs us os rs ds gs H'){x:Addr}{g:Go}
  (hx:H' x=some (.tup (gTp g))) (hg:g.th < ins+k):WG H p ins tb dl gl k vs us (os ++ [.ref x]) rs ds (gs ++ [g]) (upd H' gl (.lst (os ++ [.ref x]))):=by
 have C:Chg gl H' (upd H' gl (.lst (os ++ [.ref x]))):=Chg.upd _
 have nx:x ≠ gl:=Jh hx h.gll (by intro z; cases z)
 have r1:=h.hrs.chg (l:=gl) (by simp) C
 have w1:WI H p ins tb dl k vs us rs ds (upd H' gl (.lst (os ++ [.ref x]))) :=
  { h.wi with tbl:=C _ _ h.gt.symm h.wi.tbl,hrs:=r1.sub (by intro e he; exact zO _ he),dll:=C _ _ h.gd.symm h.wi.dll,hds:=h.wi.hds.chgL h.gll C,chg:=h.wi.chg.updN h.ngl }
 refine ⟨w1,r1,zL,(h.hgs.chgL h.gll C).snoc (by rw [upd_ne nx]; exact hx),fun e he=>?_,h.ngl,h.gp,h.gd,h.gt⟩
 rcases zW.mp he with z | z
 ·exact h.gk e z
 ·rw [zn.mp z]; exact hg
end L2
namespace L2
open PySem PySem.Spec
structure Wb (H:Hp) (w dl gl:Addr) (ins:Nat) (us:List V) (ds:List Wd) (os:List V) (gs:List Go):Prop where
 tup:H w=some (.tup [.int ins,.ref dl,.ref gl])
 dll:H dl=some (.lst us)
 hds:HTs xM H us ds
 gll:H gl=some (.lst os)
 hgs:HTs gTp H os gs
theorem Wb.same {H H':Hp}{w dl gl:Addr}{ins:Nat}{us:List V}{ds:List Wd}{os:List V}{gs:List Go}(h:Wb H w dl gl ins us ds os gs)(s:Same H H'):Wb H' w dl gl ins us ds os gs :=
 ⟨s _ _ h.tup,s _ _ h.dll,h.hds.same s,s _ _ h.gll,h.hgs.same s⟩
def sgW (w:Str):Int:=if w = "less" then -1 else 1
inductive Rch (ins:Nat) (ds:List Wd) (gs:List Go):Nat -> Prop
 | root {g:Go}:g ∈ gs -> g.sg ≠ 0 -> Rch ins ds gs g.th
 | fst {k:Nat} {d:Wd}:ds[k]? = some d -> Rch ins ds gs (ins+k) -> Rch ins ds gs d.a
 | snd {k:Nat} {d:Wd}:ds[k]? = some d -> Rch ins ds gs (ins+k) -> Rch ins ds gs d.b
end L2
namespace L2
open PySem PySem.Spec
section
variable {H:Hp}{Q:VK}
theorem w_pop {l:Addr}:rPop (.ref l) [] H Q = ∃ xs y,H l=some (.lst xs) /\ xs[xs.length - 1]? = some y /\ Q y (upd H l (.lst xs.dropLast)) :=
 propext ⟨fun ⟨l',xs,y,e,_,h,g,q⟩=>by cases e; exact ⟨xs,y,h,g,q⟩,fun ⟨xs,y,h,g,q⟩=>⟨l,xs,y,rfl,rfl,h,g,q⟩⟩
theorem w_extend {l b:Addr}:rExtend (.ref l) [.ref b] H Q = ∃ xs zs,H l=some (.lst xs) /\ H b=some (.lst zs) /\ xs.length+zs.length <= sizeLine /\ Q .non (upd H l (.lst (xs ++ zs))) :=
 propext ⟨fun ⟨l',b',xs,zs,e,e2,h⟩=>by cases e; cases e2; exact ⟨xs,zs,h⟩,fun ⟨xs,zs,h⟩=>⟨l,b,xs,zs,rfl,rfl,h⟩⟩
theorem zAU {l:Addr}:rReverse (.ref l) [] H Q = ∃ xs,H l=some (.lst xs) /\ Q .non (upd H l (.lst xs.reverse)) :=
 propext ⟨fun ⟨l',xs,e,_,h⟩=>by cases e; exact ⟨xs,h⟩,fun ⟨xs,h⟩=>⟨l,xs,rfl,rfl,h⟩⟩
theorem w_clear {l:Addr}:rClear (.ref l) [] H Q = ∃ xs,H l=some (.lst xs) /\ Q .non (upd H l (.lst [])) :=
 propext ⟨fun ⟨l',xs,e,_,h⟩=>by cases e; exact ⟨xs,h⟩,fun ⟨xs,h⟩=>⟨l,xs,rfl,rfl,h⟩⟩
theorem w_cat {l b:Addr}:rCat (.ref l) (.ref b) H Q = ∃ xs zs,H l=some (.lst xs) /\ H b=some (.lst zs) /\ xs.length+zs.length <= sizeLine /\ ∀ p,H p=none -> Q (.ref p) (upd H p (.lst (xs ++ zs))) :=
 propext ⟨fun ⟨l',b',xs,zs,e,e2,h⟩=>by cases e; cases e2; exact ⟨xs,zs,h⟩,fun ⟨xs,zs,h⟩=>⟨l,b,xs,zs,rfl,rfl,h⟩⟩
end
section
variable {X:Cx}
end
section
variable {K:zA}{σ:St}{H:Hp}{Q:VK}{cs:List Nat}{tt:TT}{te:TE}
end
def fr (ms:List Nat):Nat -> Nat
 | 0=>0
 | n+1=>(if n ∈ ms then 0 else 1)+fr ms n
theorem hts_isL {α:Type}{f:α -> List V}{K:zA}{H:Hp}(hf:∀ a,(f a).all yw=true):∀ {xs:List α} {vs:List V},HTs f H vs xs -> IsL K H vs (xs.map fun a=>.t ((f a).map Dt.f))
 | [],vs,h=>by
  have:vs=[]:=yG h.len
  subst this
  rw [yo,IsL]
 | a :: r,vs,h=>by
  obtain ⟨p,h1,h2⟩:=h.at_ 0 a rfl
  cases vs with
  | nil=>cases h1
  | cons v vs =>
   cases h1
   rw [zU,IsL]
   refine ⟨_,_,rfl,is_tup (SqT.of h2) (hf a),hts_isL hf ⟨by have:=h.len; simpa using this,fun k x hx=>?_⟩⟩
   exact h.at_ (k+1) x hx
def webDt (ins:Nat)(ds:List Wd)(gs:List Go):Dt:=.t [.f (.int ins),.l (ds.map fun d=>.t ((xM d).map Dt.f)),.l (gs.map fun g=>.t ((gTp g).map Dt.f))]
theorem zAV {α:Type}{f:α -> List V}:∀ (xs:List α),depL (xs.map fun a=>.t ((f a).map Dt.f)) <= 1
 | []=>by rw [yo,depL]; decide
 | a :: r=>by
  rw [zU,depL,dep_t]
  have:=zAV (f:=f) r
  omega
theorem dep_web (ins:Nat)(ds:List Wd)(gs:List Go):dep (webDt ins ds gs) <= 50:=by
 unfold webDt
 have h1:=zAV (f:=xM) ds
 have h2:=zAV (f:=gTp) gs
 rw [dep,depL,depL,depL,depL,dep,dep,dep]
 omega
end L2
namespace L2
open PySem PySem.Spec PyProof.Rows
abbrev ZX (h:Heap) (z TI TO a:Addr) (f:Bool):Prop:=h.get? z=some { cls:=.type "zip",dict:=none,data:=.fields #[rawInt a,.bool f,.bool false,.ref TI,.ref TO],slots:=#[] }
section
variable {prog:Program}{w:World}{A:Around}{E:Value -> Shared -> Prop}{s:Shared}
theorem zx_draw {z TI TO i1 i2 l1 l2:Addr}{k:Nat}{xs ys:Array Value}{x y:Value}{Q:Value -> Shared -> Prop}{f:Bool}{a:Addr}(D:ZipApart z TI TO i1 i2 l1 l2)
  (hz:ZX s.heap z TI TO a f) {oa:Obj} (hoa:s.heap.get? a=some oa) (haz:a ≠ z) (hTI:IsPair s.heap TI (.ref i1) (.ref i2))
  (h1:s.heap.IsListIter i1 l1 k) (h2:s.heap.IsListIter i2 l2 k) (hl1:s.heap.IsList l1 xs) (hl2:s.heap.IsList l2 ys) (hx:xs[k]? = some x) (hy:ys[k]? = some y)
  (hQ:∀ h',ZX h' z TI TO a true -> h'.IsListIter i1 l1 (k+1) -> h'.IsListIter i2 l2 (k+1) -> IsPair h' s.heap.objs.size x y -> h'.objs.size=s.heap.objs.size+1 ->
   (∀ c o,c ≠ z -> c ≠ i1 -> c ≠ i2 -> s.heap.get? c=some o -> h'.get? c=some o) -> Q (.ref s.heap.objs.size) { s with heap:=h' }) :
  wpAny (model prog w) A (Builtin.«zip.__next__» ⟨[.ref z],[]⟩) (fun fin s'=>∃ v,fin = .done (.ret v) /\ Q v s') E s:=by
 show wpAny _ A (do let two ← field (.ref z) 2; _) _ _ s
 refine wpAny_bind (wpAny_field hz rfl (x:=Value.bool false) rfl (wpAny_bind (wpAny_field hz rfl (x:=Value.ref TI) rfl (wpAny_bind (wpAny_seqItems hTI rfl ?_)))))
 have own:∀ (R:Bool -> Shared -> Prop),(∀ h₁,ZX h₁ z TI TO a true -> Heap.SameBut z s.heap h₁ -> R false { s with heap:=h₁ }) -> wpAny (model prog w) A (Builtin.SmallTypes.ownedTupleIsFree (.ref z)) R E s:=by
  intro R hR
  unfold Builtin.SmallTypes.ownedTupleIsFree
  refine wpAny_bind (wpAny_field hz rfl (x:=rawInt a) rfl ?_)
  show wpAny _ A (do let o ← loadIfAlive ((a:Int).toNat); _) _ _ s
  rw [zb]
  refine wpAny_bind (PySem.W.kdx_alive hoa ?_)
  simp only [Option.isNone_some,yJ,if_false]
  refine wpAny_bind (wpAny_field hz rfl (x:=Value.bool f) rfl ?_)
  cases f with
  | true =>
   rw [if_neg (by decide)]
   exact wpAny_bind (wpAny_pure (wpAny_pure (hR s.heap hz (Heap.SameBut.refl _ _))))
  | false =>
   rw [if_pos (by decide)]
   exact wpAny_bind (wpAny_setField_rec hz (by simp) fun h₁ e₁ b₁=>wpAny_pure (hR h₁ e₁ b₁))
 show wpAny _ A (do let b ← Builtin.SmallTypes.ownedTupleIsFree (.ref z); _) _ _ s
 refine wpAny_bind (own _ fun h₁ hz₁ hs₁=>?_)
 simp only [yJ,if_false,List.forIn_toArray,List.forIn_cons,List.forIn_nil]
 refine wpAny_bind (wpAny_bind (wpAny_bind (wpAny_holding ?_)))
 show wpAny _ A (do let got ← Builtin.SmallTypes.nextOf (.ref i1); _) _ _ _
 refine wpAny_bind (wpAny_nextOf_list_item (h1.extBut hs₁.extBut D.i1z) (hl1.extBut hs₁.extBut D.l1z) hx fun h₂ p₂ hs₂=>wpAny_pure (wpAny_pure ?_))
 refine wpAny_bind (wpAny_bind (wpAny_holding ?_))
 show wpAny _ A (do let got ← Builtin.SmallTypes.nextOf (.ref i2); _) _ _ _
 refine wpAny_bind (wpAny_nextOf_list_item ((h2.extBut hs₁.extBut D.i2z).extBut hs₂.extBut D.i12.symm) ((hl2.extBut hs₁.extBut D.l2z).extBut hs₂.extBut D.l2i1) hy fun h₃ p₃ hs₃=>wpAny_pure (wpAny_pure (wpAny_pure ?_)))
 refine wpAny_bind (wpAny_newTuple (hsz:=zg (by show 2 <= 1000; decide)) (wpAny_pure ⟨_,rfl,?_⟩))
 have sz:h₃.objs.size=s.heap.objs.size:=by rw [hs₃.1,hs₂.1,hs₁.1]
 have hz₃:ZX h₃ z TI TO a true:=hs₃.extBut _ _ D.i2z.symm (hs₂.extBut _ _ D.i1z.symm hz₁)
 have p₂':h₃.IsListIter i1 l1 (k+1):=p₂.extBut hs₃.extBut D.i12
 show Q (.ref h₃.objs.size) _
 have up:∀ c o,c ≠ z -> c ≠ i1 -> c ≠ i2 -> s.heap.get? c=some o -> (h₃.push { cls:=.type "tuple",data:=.seq #[x,y] }).get? c=some o:=fun c o c1 c2 c3 e=>Heap.get?_push_of_some _ (hs₃.extBut _ _ c3 (hs₂.extBut _ _ c2 (hs₁.extBut _ _ c1 e)))
 have last:=hQ (h₃.push { cls:=.type "tuple",data:=.seq #[x,y] }) (Heap.get?_push_of_some _ hz₃) (p₂'.at fun o e=>Heap.get?_push_of_some _ e) (p₃.at fun o e=>Heap.get?_push_of_some _ e) (by rw [← sz]; exact Heap.get?_push_size _ rfl) (by rw [Heap.size_push,sz]) up
 rw [sz]
 exact last
theorem zx_stop {z TI TO i1 i2 l1 l2:Addr}{k:Nat}{xs:Array Value}{Q:Fin -> Shared -> Prop}{f:Bool}{a:Addr}(hh:A.handled=none)(D:ZipApart z TI TO i1 i2 l1 l2)
  (hz:ZX s.heap z TI TO a f) {oa:Obj} (hoa:s.heap.get? a=some oa) (haz:a ≠ z) (hTI:IsPair s.heap TI (.ref i1) (.ref i2))
  (h1:s.heap.IsListIter i1 l1 k) (hl1:s.heap.IsList l1 xs) (hx:xs[k]? = none)
  (hE:∀ h' e,(∀ c o,c ≠ z -> c ≠ i1 -> s.heap.get? c=some o -> h'.get? c=some o) -> (∃ o,h'.get? e=some o /\ o.cls = .type "StopIteration") -> E (.ref e) { s with heap:=h' }) :
  wpAny (model prog w) A (Builtin.«zip.__next__» ⟨[.ref z],[]⟩) Q E s:=by
 show wpAny _ A (do let two ← field (.ref z) 2; _) _ _ s
 refine wpAny_bind (wpAny_field hz rfl (x:=Value.bool false) rfl (wpAny_bind (wpAny_field hz rfl (x:=Value.ref TI) rfl (wpAny_bind (wpAny_seqItems hTI rfl ?_)))))
 have own:∀ (R:Bool -> Shared -> Prop),(∀ h₁,ZX h₁ z TI TO a true -> Heap.SameBut z s.heap h₁ -> R false { s with heap:=h₁ }) -> wpAny (model prog w) A (Builtin.SmallTypes.ownedTupleIsFree (.ref z)) R E s:=by
  intro R hR
  unfold Builtin.SmallTypes.ownedTupleIsFree
  refine wpAny_bind (wpAny_field hz rfl (x:=rawInt a) rfl ?_)
  show wpAny _ A (do let o ← loadIfAlive ((a:Int).toNat); _) _ _ s
  rw [zb]
  refine wpAny_bind (PySem.W.kdx_alive hoa ?_)
  simp only [Option.isNone_some,yJ,if_false]
  refine wpAny_bind (wpAny_field hz rfl (x:=Value.bool f) rfl ?_)
  cases f with
  | true =>
   rw [if_neg (by decide)]
   exact wpAny_bind (wpAny_pure (wpAny_pure (hR s.heap hz (Heap.SameBut.refl _ _))))
  | false =>
   rw [if_pos (by decide)]
   exact wpAny_bind (wpAny_setField_rec hz (by simp) fun h₁ e₁ b₁=>wpAny_pure (hR h₁ e₁ b₁))
 show wpAny _ A (do let b ← Builtin.SmallTypes.ownedTupleIsFree (.ref z); _) _ _ s
 refine wpAny_bind (own _ fun h₁ hz₁ hs₁=>?_)
 simp only [yJ,if_false,List.forIn_toArray,List.forIn_cons,List.forIn_nil]
 refine wpAny_bind (wpAny_bind (wpAny_bind (wpAny_holding ?_)))
 show wpAny _ A (do let got ← Builtin.SmallTypes.nextOf (.ref i1); _) _ _ _
 exact wpAny_bind (wpAny_nextOf_list_end hh (h1.extBut hs₁.extBut D.i1z) (hl1.extBut hs₁.extBut D.l1z) hx fun h₂ e hs₂ he=>hE h₂ e (fun c o c1 c2 q=>hs₂ _ _ c2 (hs₁.extBut _ _ c1 q)) he)
def ZSt (h:Heap)(z TI TO i1 i2 l1 l2 S:Addr)(k:Nat):Prop :=
 IsPair h TI (.ref i1) (.ref i2) /\ h.IsListIter i1 l1 k /\ h.IsListIter i2 l2 k /\ ((k=0 /\ IsZip h z TI TO .none /\ ∃ x y,IsPair h TO x y) \/ ∃ a f oa,ZX h z TI TO a f /\ h.get? a=some oa /\ a ≠ z /\ a ≠ S /\ a ≠ i1 /\ a ≠ i2)
theorem ZSt.keep {h h':Heap}{z TI TO i1 i2 l1 l2 S:Addr}{k:Nat}(st:ZSt h z TI TO i1 i2 l1 l2 S k)(hk:∀ b o,b ≠ S -> h.get? b=some o -> h'.get? b=some o)(n:z ≠ S /\ TI ≠ S /\ TO ≠ S /\ i1 ≠ S /\ i2 ≠ S):ZSt h' z TI TO i1 i2 l1 l2 S k:=by
 obtain ⟨a,b,c,d⟩:=st
 obtain ⟨n1,n2,n3,n4,n5⟩:=n
 refine ⟨hk _ _ n2 a,b.at fun o e=>hk _ o n4 e,c.at fun o e=>hk _ o n5 e,?_⟩
 rcases d with ⟨e,d1,x,y,d2⟩ | ⟨a,f,oa,d1,d2,d3,d4,d5⟩
 ·exact .inl ⟨e,hk _ _ n1 d1,x,y,hk _ _ n3 d2⟩
 ·exact .inr ⟨a,f,oa,hk _ _ n1 d1,hk _ _ d4 d2,d3,d4,d5⟩
theorem zst_item {z TI TO i1 i2 l1 l2 S:Addr}{k:Nat}{xs ys:Array Value}{x y:Value}{Q:Option Value -> Shared -> Prop}(D:ZipApart z TI TO i1 i2 l1 l2)(hS:S < s.heap.objs.size)(st:ZSt s.heap z TI TO i1 i2 l1 l2 S k)
  (hl1:s.heap.IsList l1 xs) (hl2:s.heap.IsList l2 ys) (hx:xs[k]? = some x) (hy:ys[k]? = some y)
  (hQ:∀ h',ZSt h' z TI TO i1 i2 l1 l2 S (k+1) -> IsPair h' s.heap.objs.size x y -> h'.objs.size=s.heap.objs.size+1 ->
   (∀ c o,c ≠ z -> c ≠ TO -> c ≠ i1 -> c ≠ i2 -> s.heap.get? c=some o -> h'.get? c=some o) -> Q (some (.ref s.heap.objs.size)) { s with heap:=h' }) :
  wpAny (model prog w) A (pyNext (.ref z)) Q E s:=by
 obtain ⟨tI,p1,p2,d⟩:=st
 have j1:i1 < s.heap.objs.size:=by obtain ⟨_,e,_⟩:=p1; exact Heap.lt_size e
 have j2:i2 < s.heap.objs.size:=by obtain ⟨_,e,_⟩:=p2; exact Heap.lt_size e
 rcases d with ⟨rfl,d1,u,v,d2⟩ | ⟨a,f,oa,d1,d2,d3,d4,d5,d6⟩
 ·refine wpAny_pyNext_zip_item D d1 tI d2 p1 p2 hl1 hl2 hx hy fun h' a1 a2 a3 a4 a5 a6 a7=>hQ h' ⟨a7 _ _ D.TIz D.TITO D.TIi1 D.TIi2 tI,a3,a4,.inr ⟨_,false,_,a1,a5,zt (Heap.lt_size d1),zt hS,zt j1,zt j2⟩⟩ a5 a6 a7
 ·have hT:s.TypeIs (.ref z) "zip":=⟨_,d1,rfl⟩
  unfold pyNext
  refine wpAny_bind (wpAny_attempt (wpAny_callSpecial?_slot (name:=Str.ofString "__next__") hT F.slot_zip_next (wpAny_call_entry F.slot_zip_next hT F.entry_zip_next (zx_draw D d1 d2 d3 tI p1 p2 hl1 hl2 hx hy fun h' a1 a2 a3 a4 a5 a6=>wpAny_pure ?_) (F.args_zip_next_1 _))))
  exact hQ h' ⟨a6 _ _ D.TIz D.TIi1 D.TIi2 tI,a2,a3,.inr ⟨a,true,oa,a1,a6 _ _ d3 d5 d6 d2,d3,d4,d5,d6⟩⟩ a4 a5 fun c o c1 _ c3 c4 e=>a6 c o c1 c3 c4 e
theorem zst_end {z TI TO i1 i2 l1 l2 S:Addr}{k:Nat}{xs ys:Array Value}{Q:Option Value -> Shared -> Prop}(hh:A.handled=none)(D:ZipApart z TI TO i1 i2 l1 l2)(st:ZSt s.heap z TI TO i1 i2 l1 l2 S k)
  (hl1:s.heap.IsList l1 xs) (hl2:s.heap.IsList l2 ys) (hx:xs[k]? = none)
  (hQ:∀ h',(∀ c o,c ≠ z -> c ≠ TO -> c ≠ i1 -> c ≠ i2 -> s.heap.get? c=some o -> h'.get? c=some o) -> Q none { s with heap:=h' }) :
  wpAny (model prog w) A (pyNext (.ref z)) Q E s:=by
 obtain ⟨tI,p1,p2,d⟩:=st
 rcases d with ⟨rfl,d1,u,v,d2⟩ | ⟨a,f,oa,d1,d2,d3,d4,d5,d6⟩
 ·exact wpAny_pyNext_zip_end hh D d1 tI d2 p1 p2 hl1 hl2 (.inl hx) hQ
 ·have hT:s.TypeIs (.ref z) "zip":=⟨_,d1,rfl⟩
  unfold pyNext
  refine wpAny_bind (wpAny_attempt (wpAny_callSpecial?_slot (name:=Str.ofString "__next__") hT F.slot_zip_next (wpAny_call_entry F.slot_zip_next hT F.entry_zip_next (zx_stop hh D d1 d2 d3 tI p1 hl1 hx fun h' e hk he=>?_) (F.args_zip_next_1 _))))
  obtain ⟨o,ho,hc⟩:=he
  exact wpAny_bind (wpAny_isInstance (T:="StopIteration") (b:=true) ⟨o,ho,hc⟩ isSubtype_stop (wpAny_pure (hQ _ fun c o c1 _ c3 _ e=>hk c o c1 c3 e)))
structure ZG (xs ys:Array Value) (lo:Addr) (h:Heap) (as:List Addr):Prop where
 above:∀ a ∈ as,lo < a
 nd:as.Pairwise (· < ·)
 pair:∀ (j:Nat) (a:Addr),as[j]? = some a -> ∃ x y,xs[j]? = some x /\ ys[j]? = some y /\ IsPair h a x y
theorem ZG.lt {xs ys:Array Value}{lo a:Addr}{h:Heap}{as:List Addr}(g:ZG xs ys lo h as)(ha:a ∈ as):a < h.objs.size:=by
 obtain ⟨j,hj⟩:=List.mem_iff_getElem?.mp ha
 obtain ⟨x,y,_,_,e⟩:=g.pair j a hj
 exact Heap.lt_size e
end
section
variable {prog:Program}{w:World}{A:Around}{s:Shared}{R:Result -> Shared -> Prop}{xs ys:Array Value}{z TI TO i1 i2 l1 l2 S lo:Addr}
theorem zl_loop (hh:A.handled=none)(D:ZipApart z TI TO i1 i2 l1 l2)(nS:z ≠ S /\ TI ≠ S /\ TO ≠ S /\ i1 ≠ S /\ i2 ≠ S)(ls:l1 ≠ S /\ l2 ≠ S)(hlo:S <= lo /\ z <= lo /\ TO <= lo /\ i1 <= lo /\ i2 <= lo)(hlen:ys.size=xs.size)(hz:xs.size <= sizeLine)(res:Value){g₀:Heap}
  (fin:∀ h' tk acc c as,(∀ b o,b ≠ S -> b ≠ z -> b ≠ TO -> b ≠ i1 -> b ≠ i2 -> g₀.get? b=some o -> h'.get? b=some o) -> h'.get? S=some { cls:=.type "list",dict:=none,data:=.seq acc c,slots:=#[] } -> as.length=xs.size -> ZG xs ys lo h' as -> acc.toList=as.map Value.ref -> R (.ok (.ret res)) { s with heap:=h',toks:=tk }) :
  ∀ (n k:Nat) (h:Heap) (tk c:Nat) (acc:Array Value) (as:List Addr),xs.size - k=n -> k <= xs.size -> ZSt h z TI TO i1 i2 l1 l2 S k -> h.IsList l1 xs -> h.IsList l2 ys -> (∀ b o,b ≠ S -> b ≠ z -> b ≠ TO -> b ≠ i1 -> b ≠ i2 -> g₀.get? b=some o -> h.get? b=some o) ->
   h.get? S=some { cls:=.type "list",dict:=none,data:=.seq acc c,slots:=#[] } -> acc.toList=as.map Value.ref -> as.length=k -> ZG xs ys lo h as -> lo < h.objs.size -> codeAny (model prog w) A (.builtin "list.extend.loop" ⟨[.ref S,.ref z,res],[]⟩) R { s with heap:=h,toks:=tk }:=by
 obtain ⟨zS,iS,oS,aS,bS⟩:=nS
 obtain ⟨lo0,lo1,lo2,lo3,lo4⟩:=hlo
 have five:∀ {a:Addr},lo < a -> a ≠ S /\ a ≠ z /\ a ≠ TO /\ a ≠ i1 /\ a ≠ i2:=fun {a} h =>
  ⟨zt (yB lo0 h),zt (yB lo1 h),zt (yB lo2 h),zt (yB lo3 h),zt (yB lo4 h)⟩
 intro n
 induction n with
 | zero =>
  intro k h tk c acc as e1 e2 st p1 p2 hk hS ha hl G hs
  refine codeAny_builtin PySem.F.entry_extend_loop (by
   rw [Around.under_plainId jU _]
   show wpAny _ A.in1 (do let r ← pyNext (.ref z); _) _ _ _
   refine wpAny_bind (zst_end (s:={ s with heap:=h,toks:=tk }) (A:=A.in1) hh D st p1 p2 (Array.getElem?_eq_none (by omega)) fun h' k'=>?_)
   refine wpAny_pure (fin h' tk acc c as (fun b o b1 b2 b3 b4 b5 e=>k' b o b2 b3 b4 b5 (hk b o b1 b2 b3 b4 b5 e)) (k' S _ zS.symm oS.symm aS.symm bS.symm hS) (by omega) ⟨G.above,G.nd,fun j a hj=>?_⟩ ha)
   obtain ⟨x,y,q1,q2,q3⟩:=G.pair j a hj
   obtain ⟨f1,f2,f3,f4,f5⟩:=five (G.above a (qE hj))
   exact ⟨x,y,q1,q2,k' a _ f2 f3 f4 f5 q3⟩)
 | succ n ih =>
  intro k h tk c acc as e1 e2 st p1 p2 hk hS ha hl G hs
  have hlt:k < xs.size:=by omega
  have asz:acc.size=k:=by rw [← zj,ha,qC,hl]
  refine codeAny_builtin PySem.F.entry_extend_loop (by
   rw [Around.under_plainId jU _]
   show wpAny _ A.in1 (do let r ← pyNext (.ref z); _) _ _ _
   refine wpAny_bind (zst_item (s:={ s with heap:=h,toks:=tk }) (S:=S) D (Heap.lt_size hS) st p1 p2 (yT hlt) (yT (by omega)) fun h' st' pr sz k'=>?_)
   dsimp only at pr sz k' ⊢
   have hS':=k' S _ zS.symm oS.symm aS.symm bS.symm hS
   have up:∀ b o,b ≠ S -> h'.get? b=some o -> (h'.update S (Obj.mapSeq (·.push (Value.ref h.objs.size)))).get? b=some o:=fun b o nb e=>(Heap.get?_update_other _ _ nb.symm).trans e
   show wpAny _ A.in1 (do updateSeq S (·.push (Value.ref h.objs.size)); _) _ _ _
   have ne0:=five hs
   refine wpAny_bind (wpAny_updateSeq hS' rfl (wpAny_pure ⟨plainId_quiet jU _,ih (k+1) _ tk _ (acc.push (Value.ref h.objs.size)) (as ++ [h.objs.size]) (by omega) hlt (st'.keep up ⟨zS,iS,oS,aS,bS⟩)
    (p1.at fun o e=>up _ o ls.1 (k' _ o D.l1z D.l1TO D.l1i1 D.l1i2 e)) (p2.at fun o e=>up _ o ls.2 (k' _ o D.l2z D.l2TO D.l2i1 D.l2i2 e)) (fun b o b1 b2 b3 b4 b5 e=>up b o b1 (k' b o b2 b3 b4 b5 (hk b o b1 b2 b3 b4 b5 e)))
    (Heap.get?_update_self _ hS' rfl) (by rw [Array.toList_push,ha,xm]; rfl) (by rw [qF,hl]; rfl) ⟨?_,?_,?_⟩ ?_⟩) (by rw [asz]; omega) (by show (acc.push (Value.ref h.objs.size)).size <= sizeLine+1; rw [Array.size_push,asz]; omega))
   ·intro a hm
    rcases zW.mp hm with q | q
    ·exact G.above a q
    ·rw [zn.mp q]; exact hs
   ·refine List.pairwise_append.mpr ⟨G.nd,List.pairwise_singleton _ _,fun a q b r=>?_⟩
    rw [zn.mp r]
    exact G.lt q
   ·intro j a hj
    rcases get_snoc hj with ⟨_,q⟩ | ⟨q,r⟩
    ·obtain ⟨x,y,q1,q2,q3⟩:=G.pair j a q
     obtain ⟨f1,f2,f3,f4,f5⟩:=five (G.above a (qE q))
     exact ⟨x,y,q1,q2,up a _ f1 (k' a _ f2 f3 f4 f5 q3)⟩
    ·subst r
     rw [q,hl]
     exact ⟨_,_,yT hlt,yT (by omega),up _ _ ne0.1 pr⟩
   ·exact Nat.lt_trans hs (Heap.lt_size (up _ _ ne0.1 pr)))
end
theorem zip_nolen:typeLookup (.type "zip") "__len__" = pure none:=by rw [typeLookup_type,builtinLookup_eq_fast]; kernel_rfl
theorem zip_nohint:typeLookup (.type "zip") "__length_hint__" = pure none:=by rw [typeLookup_type,builtinLookup_eq_fast]; kernel_rfl
section
variable {prog:Program}{w:World}{A:Around}{E:Value -> Shared -> Prop}{s:Shared}{xs ys:Array Value}{z TI TO i1 i2 l1 l2:Addr}
theorem zl_call {Q:Value -> Shared -> Prop}(hh:A.handled=none)(D:ZipApart z TI TO i1 i2 l1 l2)(hz0:IsZip s.heap z TI TO .none)(hTI:IsPair s.heap TI (.ref i1) (.ref i2))(hTO:∃ x y,IsPair s.heap TO x y)(h1:s.heap.IsListIter i1 l1 0)(h2:s.heap.IsListIter i2 l2 0)(hl1:s.heap.IsList l1 xs)(hl2:s.heap.IsList l2 ys)
  (hlen:ys.size=xs.size) (hz:xs.size <= sizeLine)
  (hQ:∀ h' tk acc c as,(∀ b o,b ≠ z -> b ≠ TO -> b ≠ i1 -> b ≠ i2 -> s.heap.get? b=some o -> h'.get? b=some o) -> h'.get? s.heap.objs.size=some { cls:=.type "list",dict:=none,data:=.seq acc c,slots:=#[] } -> as.length=xs.size -> ZG xs ys s.heap.objs.size h' as -> acc.toList=as.map Value.ref -> Q (.ref s.heap.objs.size) { s with heap:=h',toks:=tk }) :
  wpAny (model prog w) A (call (.type "list") [.ref z]) Q E s:=by
 have lz:z < s.heap.objs.size:=Heap.lt_size hz0
 have lT:TI < s.heap.objs.size:=Heap.lt_size hTI
 have lO:TO < s.heap.objs.size:=by obtain ⟨_,_,e⟩:=hTO; exact Heap.lt_size e
 have l1':i1 < s.heap.objs.size:=by obtain ⟨_,e,_⟩:=h1; exact Heap.lt_size e
 have l2':i2 < s.heap.objs.size:=by obtain ⟨_,e,_⟩:=h2; exact Heap.lt_size e
 have ll1:l1 < s.heap.objs.size:=by obtain ⟨_,e,_⟩:=hl1; exact Heap.lt_size e
 have ll2:l2 < s.heap.objs.size:=by obtain ⟨_,e,_⟩:=hl2; exact Heap.lt_size e
 refine callType_codes (Q₁:=fun obj s₁=>obj = .ref s.heap.objs.size /\ s₁ = { s with heap:=s.heap.push { cls:=.type "list",data:=.seq #[] } }) PySem.F.called_list (PySem.F.typeCall_list_1 _) PySem.F.entry_list_init (code_list_new _ ⟨rfl,rfl⟩) fun obj s₁ e=>?_
 obtain ⟨rfl,rfl⟩:=e
 have hS:(s.heap.push { cls:=.type "list",data:=.seq #[] }).get? s.heap.objs.size=some { cls:=.type "list",data:=.seq #[] }:=Heap.get?_push_size _ rfl
 generalize hSS:s.heap.objs.size=S at *
 have hk0:∀ b o,s.heap.get? b=some o -> (s.heap.push { cls:=.type "list",data:=.seq #[] }).get? b=some o:=fun b o e=>Heap.get?_push_of_some _ e
 have hsz0:(s.heap.push { cls:=.type "list",data:=.seq #[] }).objs.size=S+1:=by rw [Heap.size_push,hSS]
 generalize s.heap.push { cls:=.type "list",data:=.seq #[] } = g at hS hk0 hsz0
 have run:∀ (h:Heap) (c₁ tk:Nat),(∀ b o,b ≠ S -> g.get? b=some o -> h.get? b=some o) -> h.get? S=some { cls:=.type "list",data:=.seq #[] c₁ } ->
   codeAny (model prog w) A.in1 (.builtin "list.extend.loop" ⟨[.ref S,.ref z,.none],[]⟩) (wants (fun r s₂=>r=Value.none /\ Q (.ref S) s₂) E) { s with heap:=h,toks:=tk }:=by
  intro h c₁ tk k' hS₁
  have hv:∀ b o,s.heap.get? b=some o -> h.get? b=some o:=fun b o e=>k' b o (zN (by rw [← hSS]; exact Heap.lt_size e)) (hk0 b o e)
  obtain ⟨u,v,hTO⟩:=hTO
  refine zl_loop (A:=A.in1) (s:=s) (g₀:=s.heap) (lo:=S) hh D ⟨zN lz,zN lT,zN lO,zN l1',zN l2'⟩ ⟨zN ll1,zN ll2⟩ ⟨zG _,xH lz,xH lO,xH l1',xH l2'⟩ hlen hz .none
   (fun h' tk' acc c as k2 hS2 hl hG ha=>⟨rfl,hQ h' tk' acc c as (fun b o b1 b2 b3 b4 e=>k2 b o (zN (by rw [← hSS]; exact Heap.lt_size e)) b1 b2 b3 b4 e) hS2 hl hG ha⟩)
   xs.size 0 h tk c₁ #[] [] (Nat.sub_zero _) (yL _) ⟨hv _ _ hTI,h1.at fun o e=>hv _ o e,h2.at fun o e=>hv _ o e,.inl ⟨rfl,hv _ _ hz0,u,v,hv _ _ hTO⟩⟩ (hl1.at fun o e=>hv _ o e) (hl2.at fun o e=>hv _ o e) (fun b o _ _ _ _ _ e=>hv b o e) hS₁ rfl rfl
   ⟨(fun _ q=>nomatch q),List.Pairwise.nil,(fun j a q=>by simp at q)⟩ (Heap.lt_size hS₁)
 refine ⟨⟨_,hS,rfl⟩,PySem.F.args_list_init_2 _ _,?_⟩
 show wpAny _ A.in1.in1 (do let was ← Builtin.List.listItems (.ref S); _) _ _ _
 refine wpAny_bind (by
  unfold Builtin.List.listItems
  refine wpAny_bind (wpAny_seqItems hS rfl (wpAny_pure ?_))
  show wpAny _ A.in1.in1 (do updateSeq S (fun _=>#[]); _) _ _ _
  refine wpAny_bind (wpAny_updateSeq hS rfl (wpAny_bind (wpAny_letGo ?_)))
  have hS₂:=Heap.get?_update_self (Obj.mapSeq fun _=>(#[]:Array Value)) hS rfl
  have k2:∀ b o,b ≠ S -> g.get? b=some o -> (g.update S (Obj.mapSeq fun _=>(#[]:Array Value))).get? b=some o:=fun b o nb e=>(Heap.get?_update_other _ _ nb.symm).trans e
  generalize g.update S (Obj.mapSeq fun _=>(#[]:Array Value))=g2 at hS₂ k2
  show wpAny _ A.in1.in1 (Builtin.List.listExtendWith (.ref S) (.ref z) .none) _ _ _
  have hz2:IsZip g2 z TI TO .none:=k2 _ _ (zN lz) (hk0 _ _ hz0)
  have hT2:Shared.TypeIs { s with heap:=g2 } (.ref z) "zip":=⟨_,hz2,rfl⟩
  unfold Builtin.List.listExtendWith
  refine wpAny_bind (wpAny_typeOf (T:="zip") hT2 ?_)
  rw [show Builtin.List.listSameRef (.ref S) (.ref z)=false by simp [Builtin.List.listSameRef,zt lz]]
  simp only [show (Value.type "zip" == Value.type "list")=false by decide,show (Value.type "zip" == Value.type "tuple")=false by decide,jf,yJ,if_false]
  refine wpAny_bind (wpAny_pyIter_zip hz2 (wpAny_bind (wpAny_holding ?_)))
  unfold Builtin.List.listLengthHint
  refine wpAny_bind (wpAny_specialOf hT2 zip_nolen ?_)
  show wpAny _ A.in1.in1 (do let x ← specialOf (Value.ref z) (Str.ofString "__length_hint__"); _) _ _ _
  refine wpAny_bind (wpAny_specialOf hT2 zip_nohint (wpAny_pure ?_))
  show wpAny _ A.in1.in1 (do rule "list.extend.makes-room"; _) _ _ _
  refine wpAny_bind (wpAny_rule (wpAny_bind ?_))
  show wpAny _ A.in1.in1 (do updateSeq S (·.push .none); _) _ _ _
  refine wpAny_bind (wpAny_updateSeq hS₂ rfl ?_)
  have hS₃:=Heap.get?_update_self (Obj.mapSeq (·.push Value.none)) hS₂ rfl
  refine wpAny_updateSeq (hz:=by seq_fits) hS₃ rfl (wpAny_pure ⟨plainId_quiet jU _,run _ _ s.toks (fun b o nb e=>?_) (Heap.get?_update_self (Obj.mapSeq (·.pop)) hS₃ rfl)⟩)
  exact (Heap.get?_update_other _ _ nb.symm).trans ((Heap.get?_update_other _ _ nb.symm).trans (k2 b o nb e)))
end
def lay (H New:Hp):Hp:=fun b=>match New b with
 | some o=>some o
 | none=>H b
theorem lay_some {H New:Hp}{b:Addr}{o:HO}(h:New b=some o):lay H New b=some o:=by unfold lay; rw [h]
theorem lay_none {H New:Hp}{b:Addr}(h:New b=none):lay H New b=H b:=by unfold lay; rw [h]
theorem JT {H New:Hp}{b:Addr}{o:HO}(hn:∀ c u,New c=some u -> H c=none)(h:H b=some o):lay H New b=some o:=by
 cases e:New b with
 | none=>rw [lay_none e]; exact h
 | some u=>rw [hn b u e] at h; cases h
theorem Inv.laidN {X:Cx}{pins:List (Addr × Obj)}{σ:St}{H New:Hp}{s:Shared}{h':Heap}{t':Nat}(I:Inv X pins σ H s)(k:∀ b u,s.heap.get? b=some u -> h'.get? b=some u)
  (hn:∀ b o,New b=some o -> s.heap.objs.size <= b /\ ObjOk X.prog X.w (lay H New) h' b o):Inv X pins σ (lay H New) { s with heap:=h',toks:=t' }:=by
 have old:∀ c u,New c=some u -> H c=none:=fun c u e=>I.hok.fresh (hn c u e).1
 have fresh:∀ b o,s.heap.get? b=some o -> New b=none:=fun b o e=>by
  cases q:New b with
  | none=>rfl
  | some u=>exact absurd (qJ (Heap.lt_size e) (hn b u q).1) (zq _)
 refine I.un ⟨fun b o e _ _ _=>k b o e,fun b o e _ _ _=>⟨o.slots,k b o e⟩,fun b o e n _=>by rw [lay_none (fresh b o e)]; exact n,fun b o e _=>⟨o,k b o e⟩,fun b xs e=>JT old e,fun b o u e=>JT old e,fun b ps e=>⟨#[],by rw [Array.append_empty]; exact JT old e⟩⟩ (fun b o e=>?_)
 cases q:New b with
 | some u =>
  rw [lay_some q] at e
  have e':=Option.some.inj e
  subst e'
  exact (hn _ _ q).2
 | none =>
  rw [lay_none q] at e
  exact (I.hok b o e).stay (fun c v _ z=>k c v z) (fun c z=>JT old z) fun c xs z=>JT old z
def jg:List Addr -> List (List V) -> Hp
 | a :: as,p :: ps=>fun b=>if b=a then some (.tup p) else jg as ps b
 | _,_=>fun _=>none
theorem zAp:∀ {as:List Addr} {ps:List (List V)} {j:Nat} {a:Addr} {p:List V},as.Pairwise (· < ·) -> as[j]? = some a -> ps[j]? = some p -> jg as ps a=some (.tup p)
 | c :: as,q :: ps,0,a,p,_,h1,h2=>by
  cases h1
  cases h2
  unfold jg
  rw [if_pos rfl]
 | c :: as,q :: ps,j+1,a,p,nd,h1,h2=>by
  have h1':as[j]? = some a:=h1
  have lt:=(List.pairwise_cons.mp nd).1 a (qE h1')
  unfold jg
  rw [if_neg (zt lt)]
  exact zAp (List.pairwise_cons.mp nd).2 h1' h2
theorem zAW:∀ {as:List Addr} {ps:List (List V)} {b:Addr} {o:HO},jg as ps b=some o -> ∃ (j:Nat) (p:List V),as[j]? = some b /\ ps[j]? = some p /\ o = .tup p
 | [],ps,b,o,h=>by cases h
 | c :: as,[],b,o,h=>by cases h
 | c :: as,q :: ps,b,o,h=>by
  unfold jg at h
  by_cases e:b=c
  ·rw [if_pos e] at h
   cases h
   subst e
   exact ⟨0,q,rfl,rfl,rfl⟩
  ·rw [if_neg e] at h
   obtain ⟨j,p,h1,h2,h3⟩:=zAW h
   exact ⟨j+1,p,h1,h2,h3⟩
def tLZ (K:zA)(ta:TA):TE:=fun σ H Q=>ta σ H fun vs H1=>∃ a b us ws,vs=[.ref a,.ref b] /\ SqL K H1 a us /\ SqL K H1 b ws /\ ws.length=us.length /\ us.length <= 1000 /\
 ∀ l zs H',H1 l=none -> Same H1 H' -> H' l=some (.lst zs) -> zs.length=us.length -> (∀ (k:Nat) (x y:V),us[k]? = some x -> ws[k]? = some y -> ∃ t:Addr,zs[k]? = some (.ref t) /\ H' t=some (.tup [x,y])) -> Q (.ref l) H'
theorem w_LZ {K:zA}{ta:TA}{σ:St}{H:Hp}{Q:VK}:tLZ K ta σ H Q=(ta σ H fun vs H1=>∃ a b us ws,vs=[.ref a,.ref b] /\ SqL K H1 a us /\ SqL K H1 b ws /\ ws.length=us.length /\ us.length <= 1000 /\
 ∀ l zs H',H1 l=none -> Same H1 H' -> H' l=some (.lst zs) -> zs.length=us.length -> (∀ (k:Nat) (x y:V),us[k]? = some x -> ws[k]? = some y -> ∃ t:Addr,zs[k]? = some (.ref t) /\ H' t=some (.tup [x,y])) -> Q (.ref l) H'):=rfl
theorem vals_refs:∀ (as:List Addr),Vals (as.map V.ref) (as.map Value.ref)
 | []=>.nil
 | a :: r=>.cons rfl (vals_refs r)
theorem pe_listzip {X:Cx} (K:zA) {a b:Expr} {ta:TA} {p q pos pos2:Pos} (hc:X.calm=true) (hg:Gl X "list") (hm:X.mg "list" = none) (hg2:Gl X "zip") (hm2:X.mg "zip" = none) (ha:PA X [a,b] ta) (hK:X.K=K:=by rfl)
  (hs:starEach [a,b] X.env=(false,eval a X.env) :: starEach [b] X.env:=by rfl) (hpl:(backTo pos2 (starEach [b] X.env)).any (·.1)=false:=by rfl)
  (he:starEach [.Call (.Name "zip" q) [a,b] [] pos2] X.env=(false,eval (.Call (.Name "zip" q) [a,b] [] pos2) X.env) :: starEach [] X.env:=by rfl) (hpl2:(backTo pos (starEach [] X.env)).any (·.1)=false:=by rfl) :
  PE X (.Call (.Name "list" p) [.Call (.Name "zip" q) [a,b] [] pos2] [] pos) (tLZ K ta):=by
 subst hK
 intro pins s σ H Q I h
 refine Call_ (j0 I hg hm bo_list (PyProof.Rows.callWith_type1 ?_ he hpl2))
 rw [he]
 show wpAny _ _ (spliced ((false,eval (.Call (.Name "zip" q) [a,b] [] pos2) X.env) :: backTo pos (starEach [] X.env))) _ _ s
 refine Calls.spliced_cons (Call_ (j0 I hg2 hm2 bo_zip (PyProof.Rows.callWith_type1 (thn (ha pos2 pins s σ H _ I h) fun us s1 ⟨vs,H1,I1,r1,q1⟩=>?_) hs hpl)))
 obtain ⟨a1,b1,us1,ws1,e,hq1,hq2,hlen,hz,fin⟩:=q1
 subst e
 obtain ⟨u1,u2,rfl,ru1,ru2⟩:=Vals.two r1
 cases ru1
 cases ru2
 obtain ⟨its1,rv1,pl1,hz1⟩:=I1.list hq1
 obtain ⟨its2,rv2,pl2,hz2⟩:=I1.list hq2
 have b1':a1 < s1.heap.objs.size:=by obtain ⟨_,e,_⟩:=pl1.isList; exact Heap.lt_size e
 have b2':b1 < s1.heap.objs.size:=by obtain ⟨_,e,_⟩:=pl2.isList; exact Heap.lt_size e
 refine call_zip_2 pl1.isList pl2.isList fun h' z1 z2 z3 z4 z5 zs zk=>?_
 show wpAny _ _ (spliced (backTo pos (starEach [] X.env))) _ _ _
 refine Calls.spliced_nil ?_
 have D:=zipApart_new b1' b2'
 refine zl_call (I.ok.hd hc) D z1 z2 ⟨_,_,z3⟩ z4 z5 (pl1.isList.at fun o e=>zk _ o e) (pl2.isList.at fun o e=>zk _ o e) ?_ ?_ fun h2 tk acc c as k2 hS hl G hacc=>?_
 ·rw [qM,qM,← rv1.length,← rv2.length]; exact hlen
 ·rw [qM,← rv1.length]; exact hz1
 have hS':h2.get? h'.objs.size=some { cls:=.type "list",data:=.seq acc c }:=hS
 have k2':∀ b o,s1.heap.get? b=some o -> h2.get? b=some o:=fun b o e=>by
  have lt:=Heap.lt_size e
  exact k2 b o (zN (qJ lt (Nat.le_add_right _ 4))) (zN (qJ lt (Nat.le_add_right _ 3))) (zN lt) (zN (qJ lt (Nat.le_add_right _ 1))) (zk b o e)
 have ael:as.length=us1.length:=by rw [hl,qM,← rv1.length]
 have above:∀ b ∈ as,h'.objs.size < b:=G.above
 have lo1:s1.heap.objs.size <= h'.objs.size:=by rw [zs]; exact Nat.le_add_right _ 5
 have eacc:acc=(as.map Value.ref).toArray:=by rw [← hacc,Array.toArray_toList]
 have nL:∀ b,b ∈ as -> b ≠ h'.objs.size:=fun b hb=>zt (above b hb)
 have gt:∀ (k:Nat) (x y:V),us1[k]? = some x -> ws1[k]? = some y -> ∃ t:Addr,(as.map V.ref)[k]? = some (.ref t) /\ as[k]? = some t /\ jg as (xk (fun x y=>[x,y]) us1 ws1) t=some (.tup [x,y]):=fun k x y e1 e2=>by
  have hk:k < as.length:=by rw [ael]; exact (qB.mp e1).1
  have hk':as[k]? = some as[k]:=qA hk
  refine ⟨as[k],by rw [qI,hk']; rfl,hk',zAp G.nd hk' ?_⟩
  rw [yV,e1,e2]
 have IN:=I1.laidN (New:=fun b=>if b=h'.objs.size then some (.lst (as.map V.ref)) else jg as (xk (fun x y=>[x,y]) us1 ws1) b) (t':=tk) k2' (fun b o e=>by
  by_cases eb:b=h'.objs.size
  ·subst eb
   have e':some (HO.lst (as.map V.ref))=some o:=by rw [← e]; exact (if_pos rfl).symm
   cases e'
   refine ⟨lo1,by rw [qC,ael]; exact hz1,as.map Value.ref,c,vals_refs as,?_⟩
   rw [hS',eacc]
  ·have e':jg as (xk (fun x y=>[x,y]) us1 ws1) b=some o:=by rw [← e]; exact (if_neg eb).symm
   obtain ⟨j,p,h1,h2',rfl⟩:=zAW e'
   obtain ⟨x,y,q1,q2,q3⟩:=G.pair j b h1
   have hj:j < us1.length:=by rw [← ael]; exact (qB.mp h1).1
   have u1:us1[j]? = some us1[j]:=qA hj
   have u2:ws1[j]? = some (ws1[j]'(by omega)):=qA _
   obtain ⟨v1,g1,f1⟩:=rv1.get u1
   obtain ⟨v2,g2,f2⟩:=rv2.get u2
   rw [List.getElem?_toArray,g1] at q1
   rw [List.getElem?_toArray,g2] at q2
   cases q1
   cases q2
   rw [yV,u1,u2] at h2'
   cases h2'
   exact ⟨zD lo1 (xH (above b (qE h1))),zg (by show 2 <= 1000; decide),[_,_],.cons f1 (.cons f2 .nil),_,q3,rfl,_,rfl⟩)
 refine ⟨.ref h'.objs.size,_,IN,rfl,fin h'.objs.size (as.map V.ref) _ (I1.hok.fresh lo1) (fun b o e=>?_) ?_ (by rw [qC,ael]) fun k x y e1 e2=>?_⟩
 ·refine JT (fun b o e=>I1.hok.fresh ?_) e
  by_cases eb:b=h'.objs.size
  ·rw [eb]; exact lo1
  ·have e':jg as (xk (fun x y=>[x,y]) us1 ws1) b=some o:=by rw [← e]; exact (if_neg eb).symm
   obtain ⟨j,p,h1,_⟩:=zAW e'
   exact zD lo1 (xH (above b (qE h1)))
 ·exact lay_some (if_pos rfl)
 ·obtain ⟨t,e3,e4,e5⟩:=gt k x y e1 e2
  exact ⟨t,e3,lay_some ((if_neg (nL t (qE e4))).trans e5)⟩
end L2
namespace L2
open PySem PySem.Spec
def rowD (rs:List (List Int))(d:Wd):List Int:=xk (fun x y=>mvI d.s x+sgW d.w * mvI d.t y) (rs.getD d.a []) (rs.getD d.b [])
def rowsW (ins:Nat)(ds:List Wd):List (List Int):=ds.foldl (fun rs d=>rs ++ [rowD rs d]) ((zy ins).map (yb ins))
theorem jQ (ins:Nat)(ds:List Wd)(d:Wd):rowsW ins (ds ++ [d])=rowsW ins ds ++ [rowD (rowsW ins ds) d]:=by unfold rowsW; rw [List.foldl_append]; rfl
theorem jp (ins:Nat)(ds:List Wd):(rowsW ins ds).length=ins+ds.length:=by
 refine snoc_ind (p:=fun ds=>(rowsW ins ds).length=ins+ds.length) ?_ (fun xs x ih=>?_) ds
 ·unfold rowsW; simp
 ·rw [jQ,qF,ih]; simp; omega
theorem rowsW_pre (ins:Nat)(ds new:List Wd){k:Nat}{r:List Int}(h:(rowsW ins ds)[k]? = some r):(rowsW ins (ds ++ new))[k]? = some r:=by
 refine snoc_ind (p:=fun new=>(rowsW ins (ds ++ new))[k]? = some r) (by rw [yQ]; exact h) (fun xs x ih=>?_) new
 rw [← List.append_assoc,jQ,qH (qB.mp ih).1]
 exact ih
theorem yx {α:Type}{xs:List α}{k:Nat}{x d:α}(h:xs[k]? = some x):xs.getD k d=x:=by rw [qD,h]; rfl
def Dv (s:Int)(r:List Int):Prop:=s < 0 -> ∀ x ∈ r,(2:Int) ^ (-s).toNat ∣ x
def Sh (s:Int)(r:List Int):Prop:=-40 <= s /\ s <= 40 /\ Dv s r
def ShOk (ins:Nat)(ds:List Wd):Prop:=∀ (k:Nat) (d:Wd),ds[k]? = some d -> d.a < ins+k /\ d.b < ins+k /\ Sh d.s ((rowsW ins ds).getD d.a []) /\ Sh d.t ((rowsW ins ds).getD d.b [])
theorem JU (ins:Nat)(ds:List Wd)(d:Wd){j:Nat}(h:j < ins+ds.length):(rowsW ins (ds ++ [d])).getD j []=(rowsW ins ds).getD j []:=by
 have hj:j < (rowsW ins ds).length:=by rw [jp]; exact h
 have e:=qA hj
 rw [yx e,yx (rowsW_pre ins ds [d] e)]
theorem ShOk.snoc {ins:Nat}{ds:List Wd}{d:Wd}(h:ShOk ins ds)(h1:d.a < ins+ds.length)(h2:d.b < ins+ds.length)(h3:Sh d.s ((rowsW ins ds).getD d.a []))(h4:Sh d.t ((rowsW ins ds).getD d.b [])):ShOk ins (ds ++ [d]):=fun k e he=>by
 rcases get_snoc he with ⟨hk,z⟩ | ⟨hk,rfl⟩
 ·obtain ⟨a,b,c,f⟩:=h k e z
  rw [JU ins ds d (by omega),JU ins ds d (by omega)]
  exact ⟨a,b,c,f⟩
 ·rw [JU ins ds _ h1,JU ins ds _ h2,hk]
  exact ⟨h1,h2,h3,h4⟩
def GoOk (ins:Nat)(ds:List Wd)(gs:List Go):Prop:=∀ g ∈ gs,g=⟨0,0,0⟩ \/ ((g.sg=1 \/ g.sg = -1) /\ Sh g.sh ((rowsW ins ds).getD g.th []))
structure FWeb (ins:Nat) (ds:List Wd) (gs:List Go):Prop where
 ok:WebOk ins ds gs
 sh:ShOk ins ds
 go:GoOk ins ds gs
 rb:RB (41 * ds.length) (rowsW ins ds)
 wd:∀ r ∈ rowsW ins ds,r.length=ins
theorem WI.stepL {H:Hp}{p:Addr}{ins:Nat}{tb dl:Addr}{k:Nat}{vs us xs:List V}{rs:List (List Int)}{ds:List Wd}{H' H'':Hp}(h:WI H p ins tb dl k vs us rs ds H')(hp:H' p=some (.lst xs))(C:Chg p H' H''):WI H p ins tb dl k vs us rs ds H'' :=
 { h with tbl:=C _ _ h.tp h.tbl,hrs:=h.hrs.chg (by simp) C,dll:=C _ _ h.dp h.dll,hds:=h.hds.chgL hp C,chg:=h.chg.trans C }
structure FI (H:Hp) (p:Addr) (ins:Nat) (tb dl:Addr) (k:Nat) (vs us:List V) (ds:List Wd) (H':Hp):Prop where
 wi:WI H p ins tb dl k vs us (rowsW ins ds) ds H'
 sh:ShOk ins ds
theorem FI.step {H:Hp}{p:Addr}{c:Int}{ins:Nat}{tb dl:Addr}{k:Nat}{vs us:List V}{ds:List Wd}{H' H'':Hp}(h:FI H p ins tb dl k vs us ds H')(F:Feed H' p c)(C:Chg p H' H''):FI H p ins tb dl k vs us ds H'':=by
 obtain ⟨xs,hp⟩:=F.lst
 exact ⟨h.wi.stepL hp C,h.sh⟩
theorem zAX {H':Hp}{ex:List Addr}{vs:List V}{rs:List (List Int)}(h:HRs H' ex vs rs){j:Nat}(hj:j < rs.length):∃ (l:Addr) (r:List Int),rs[j]? = some r /\ atI vs (j:Int)=some (.ref l) /\ H' l=some (.lst (r.map V.int)) /\ r ∈ rs /\ ∀ e ∈ ex,l ≠ e:=by
 obtain ⟨l,e1,e2,e3⟩:=h.at_ j _ (qA hj)
 exact ⟨l,rs[j],qA hj,y7 e1,e2,yM hj,e3⟩
theorem FI.app {H:Hp}{p:Addr}{ins:Nat}{tb dl:Addr}{k:Nat}{vs us:List V}{ds:List Wd}{H' H1 H3:Hp}(h:FI H p ins tb dl k vs us ds H')(hi:ins <= 12){d:Wd}{x:Addr}(s1:Same H' H1)(hx:H1 x=some (.tup (xM d)))
  (s3:Same (upd H1 dl (.lst (us ++ [.ref x]))) H3) {l:Addr} (hl:H3 l=some (.lst ((rowD (rowsW ins ds) d).map V.int))) (nl:(upd H1 dl (.lst (us ++ [.ref x]))) l=none) (lp:l ≠ p) (h1:d.a < ins+k) (h2:d.b < ins+k) (hw:d.w = "sum" \/ d.w = "less")
  (h3:Sh d.s ((rowsW ins ds).getD d.a [])) (h4:Sh d.t ((rowsW ins ds).getD d.b [])) (hr:(rowD (rowsW ins ds) d).length=ins) (hb:∀ x ∈ rowD (rowsW ins ds) d,x.natAbs <= 2 ^ (41 * (k+1))) :
  FI H p ins tb dl (k+1) (vs ++ [.ref l]) (us ++ [.ref x]) (ds ++ [d]) (upd H3 tb (.lst (vs ++ [.ref l]))):=by
 have wi:=h.wi
 have d1:=s1 _ _ wi.dll
 have t1:=s1 _ _ wi.tbl
 have t2:(upd H1 dl (.lst (us ++ [.ref x]))) tb=some (.lst vs):=by rw [upd_ne wi.td]; exact t1
 have t3:=s3 _ _ t2
 have d3:=s3 dl _ zL
 have ltb:l ≠ tb:=(ne_of_none t2 nl).symm
 have ldl:l ≠ dl:=by
  intro z
  rw [z,zL] at nl
  cases nl
 have r3:HRs H3 [dl,tb,p] vs (rowsW ins ds):=((wi.hrs.same s1).chg (l:=dl) (by simp) (Chg.upd _)).same s3
 have nx:x ≠ dl:=Jh hx d1 (by intro z; cases z)
 have hd2:HTs xM (upd H1 dl (.lst (us ++ [.ref x]))) (us ++ [.ref x]) (ds ++ [d]):=((wi.hds.same s1).chgL d1 (Chg.upd _)).snoc (by rw [upd_ne nx]; exact hx)
 have hd3:=(hd2.same s3).chgL t3 (Chg.upd (.lst (vs ++ [.ref l])))
 have dlen:(ds ++ [d]).length=k+1:=by simp [wi.dlen]
 refine ⟨⟨zL,?_,?_,?_,?_,?_,hd3,dlen,fun j e he=>?_,?_,wi.ntb,wi.ndl,wi.tp,wi.dp,wi.td⟩,h.sh.snoc (by rw [wi.dlen]; exact h1) (by rw [wi.dlen]; exact h2) h3 h4⟩
 ·rw [jQ]
  refine (r3.chg (l:=tb) (by simp) (Chg.upd _)).snoc (by rw [upd_ne ltb]; exact hl) fun e he=>?_
  simp only [zI,zR,or_false] at he
  rcases he with z | z | z <;> subst z <;> assumption
 ·rw [jp,dlen]
 ·rw [jQ]
  exact wi.rb.snoc (by omega) (by omega) hb
 ·intro q hq
  rw [jQ] at hq
  rcases zW.mp hq with z | z
  ·exact wi.rw_ q z
  ·rw [zn.mp z]; exact hr
 ·rw [upd_ne wi.td.symm]; exact d3
 ·rcases get_snoc he with ⟨hj,z⟩ | ⟨hj,rfl⟩
  ·exact wi.dk j e z
  ·rw [hj,wi.dlen]; exact ⟨h1,h2,hw⟩
 ·exact Chg.updN (((wi.chg.trans s1.chg).updN wi.ndl).trans s3.chg) wi.ntb
theorem rowD_bound {rs:List (List Int)}{d:Wd}{k ins:Nat}(h:RB (41 * k) rs)(hw:∀ r ∈ rs,r.length=ins)(ha:d.a < rs.length)(hb:d.b < rs.length)(s0:-40 <= d.s)(s1:d.s <= 40)(t0:-40 <= d.t)(t1:d.t <= 40) :
  (rowD rs d).length=ins /\ ∀ x ∈ rowD rs d,x.natAbs <= 2 ^ (41 * (k+1)):=by
 have ea:=yx (d:=[]) (qA ha)
 have eb:=yx (d:=[]) (qA hb)
 have ma:=yM ha
 have mb:=yM hb
 unfold rowD
 rw [ea,eb]
 refine ⟨by rw [jV,hw _ ma,hw _ mb]; omega,fun x hx=>?_⟩
 obtain ⟨i,hi⟩:=jC hx
 rw [yV] at hi
 cases h1:rs[d.a][i]? with
 | none=>rw [h1] at hi; cases hi
 | some u =>
  cases h2:rs[d.b][i]? with
  | none=>rw [h1,h2] at hi; cases hi
  | some v =>
   rw [h1,h2] at hi
   cases hi
   have b1:=mvI_bound s0 s1 ((h _ ma).2 u (qE h1))
   have b2:=mvI_bound t0 t1 ((h _ mb).2 v (qE h2))
   have pw:2 ^ (41 * (k+1))=2 ^ (41 * k+40)+2 ^ (41 * k+40):=by
    rw [show 41 * (k+1)=41 * k+40+1 by omega,Nat.pow_succ]; omega
   rw [pw]
   have hg:sgW d.w=1 \/ sgW d.w = -1:=by
    unfold sgW
    split
    ·exact .inr rfl
    ·exact .inl rfl
   have:=abs_le_of (g:=1) (h:=sgW d.w) (.inl rfl) hg b1 b2
   rw [Int.one_mul] at this
   exact this
section
variable {K:zA}{σ:St}{H:Hp}{Q:VK}{cs:List Nat}{te:TE}
theorem comp_pairs {l:Addr}{zs:List V}{xs ys:List Int}(hl:H l=some (.lst zs))(hlen:zs.length=xs.length)(hlen2:ys.length=xs.length)(hz:xs.length <= 1000)
  (ht:∀ (k:Nat) (x y:Int),xs[k]? = some x -> ys[k]? = some y -> ∃ t:Addr,zs[k]? = some (.ref t) /\ H t=some (.tup [.int x,.int y])) (f:Int -> Int -> Int)
  (hb:∀ x y H' (R:VK),Same H H' -> R (.int (f x y)) H' -> te ([some (.int x),some (.int y)] ++ yY cs σ) H' R)
  (hd:∀ acc H',H acc=none -> Same H H' -> H' acc=some (.lst ((xk f xs ys).map V.int)) -> Q (.ref acc) H') :
  yn (Itl K l) 2 cs (gTupM 2 (gCons (jB 0) (gCons (jB 1) gNil))) tYes te σ H Q:=by
 refine J7 xs.length (fun acc i ws H'=>Same H H' /\ H' acc=some (.lst ws) /\ ws=((xk f xs ys).take i).map V.int) (zg hz) ?_ ?_ ?_ ?_ ?_ ?_
 ·rintro acc i ws H' hi ⟨s,_,_⟩
  exact ⟨zs,zs[i]'(by omega),SqL.of (s _ _ hl),qA _⟩
 ·rintro acc ws H' ⟨s,_,_⟩
  exact ⟨zs,SqL.of (s _ _ hl),by omega⟩
 ·intro acc ha
  exact ⟨zV ha _,zL,rfl⟩
 ·rintro acc i ws H' ⟨s,ha,rfl⟩
  exact ⟨ha,by rw [qC,qO]; omega⟩
 ·rintro acc i ws H' ts v H2 N hn hi ⟨s,ha,hws⟩ y hts hN
  obtain ⟨e,hx0⟩:=y
  have hx:=hx0 zs (SqL.of (s _ _ hl))
  clear hx0
  subst e
  have e1:xs[i]? = some xs[i]:=qA hi
  have e2:ys[i]? = some (ys[i]'(by omega)):=qA _
  obtain ⟨t,q1,q2⟩:=ht i _ _ e1 e2
  generalize xs[i]=x at e1 q2
  generalize (ys[i]'(by omega))=y at e2 q2
  rw [hx] at q1
  cases q1
  obtain ⟨t0,t1,rfl⟩:∃ t0 t1,ts=[t0,t1]:=by
   match ts,hts with
   | [a,b],_=>exact ⟨a,b,rfl⟩
  rw [J5]
  refine ⟨_,s _ _ q2,rfl,?_⟩
  rw [j7,jE,j7,jE,w_gNil,w_yes,if_pos rfl]
  refine hb x y _ _ s ⟨ha,hN _ [_,_] _ rfl ⟨yg hn s,zL,?_⟩⟩
  have ez:(xk f xs ys)[i]? = some (f x y):=by rw [yV,e1,e2]
  rw [x9,ez,xm,← hws]
  rfl
 ·rintro acc ws H' hn ⟨s,ha,hws⟩
  rw [zm (by rw [jV]; omega)] at hws
  subst hws
  exact hd acc H' hn s ha
end
def spFShift:Sp:=fun vs H Q _=>∃ (p l:Addr) (c:Int) (xs:List Int),vs=[.ref p,.ref l] /\ Feed H p c /\ c <= 800000000 /\ H l=some (.lst (xs.map V.int)) /\ xs.length <= 100 /\ l ≠ p /\
 ∀ (r:Int) H',Sh r xs -> Feed H' p (c+2048) -> Chg p H H' -> Q (.int r) H'
theorem mvI_up {s n:Int}(h:0 <= s):mvI s n=n * 2 ^ s.toNat:=by
 unfold mvI
 rw [if_neg (by omega)]
 by_cases z:0 > 0 - s
 ·rw [if_pos z]; simp
 ·rw [if_neg z,show s=0 by omega]; simp
theorem J8 {s n:Int}(h:s < 0):mvI s n=n / 2 ^ (-s).toNat:=by
 unfold mvI
 rw [if_pos (by omega),if_neg (by omega),show (0 - s) = -s by omega]
 simp
structure FG (H:Hp) (p:Addr) (ins:Nat) (tb dl gl:Addr) (k:Nat) (vs us os:List V) (ds:List Wd) (gs:List Go) (H':Hp):Prop where
 wg:WG H p ins tb dl gl k vs us os (rowsW ins ds) ds gs H'
 sh:ShOk ins ds
 go:GoOk ins ds gs
theorem FG.step {H:Hp}{p:Addr}{c:Int}{ins:Nat}{tb dl gl:Addr}{k:Nat}{vs us os:List V}{ds:List Wd}{gs:List Go}{H' H'':Hp}(h:FG H p ins tb dl gl k vs us os ds gs H')(F:Feed H' p c)(C:Chg p H' H''):FG H p ins tb dl gl k vs us os ds gs H'':=by
 obtain ⟨xs,hp⟩:=F.lst
 exact ⟨{ h.wg with wi:=h.wg.wi.stepL hp C,hrs:=h.wg.hrs.chg (by simp) C,gll:=C _ _ h.wg.gp h.wg.gll,hgs:=h.wg.hgs.chgL hp C },h.sh,h.go⟩
theorem FG.app {H:Hp}{p:Addr}{ins:Nat}{tb dl gl:Addr}{k:Nat}{vs us os:List V}{ds:List Wd}{gs:List Go}{H':Hp}(h:FG H p ins tb dl gl k vs us os ds gs H'){x:Addr}{g:Go}
  (hx:H' x=some (.tup (gTp g))) (hg:g.th < ins+k) (hs:g=⟨0,0,0⟩ \/ ((g.sg=1 \/ g.sg = -1) /\ Sh g.sh ((rowsW ins ds).getD g.th []))):FG H p ins tb dl gl k vs us (os ++ [.ref x]) ds (gs ++ [g]) (upd H' gl (.lst (os ++ [.ref x]))):=by
 refine ⟨h.wg.app hx hg,h.sh,fun e he=>?_⟩
 rcases zW.mp he with z | z
 ·exact h.go e z
 ·rw [zn.mp z]; exact hs
end L2
namespace L2
open PySem PySem.Spec
def iT (r:List Int):List V:=r.map V.int
theorem shV_mv {n s:Int}{r:List Int}(hn:n ∈ r)(h:Dv s r):shV n s = .int (mvI s n):=by
 unfold shV
 by_cases z:0 <= s
 ·rw [if_pos z,mvI_up z]
 ·rw [if_neg z,J8 (by omega),if_pos (ediv_iff.mpr (h (by omega) n hn))]
def shRV (s:Int):V -> Option V:=fun x=>match x with
 | .int n=>some (shV n s)
 | _=>none
theorem shRV_map {s:Int}{r:List Int}(h:Dv s r):(r.map V.int).filterMap (shRV s)=(r.map (mvI s)).map V.int:=by
 rw [jj,List.map_map]
 have e:(r.filterMap (shRV s ∘ V.int))=r.map fun n=>shV n s:=yz (fun n=>shV n s) r
 rw [e]
 exact List.map_congr_left fun x hx=>shV_mv hx h
section
variable {K:zA}{σ:St}{H:Hp}{Q:VK}{cs:List Nat}{te:TE}
theorem comp_tups {J:It}{α:Type}{f:α -> List V}{xs:List V}(zs:List α)(hzl:zs.length=xs.length)(hz:xs.length <= 1000)
  (hJ:∀ H',Same H H' -> (∀ i,i < xs.length -> J.go i H') /\ (∀ i x H2,J.yld i H' x H2 -> H2=H' /\ (i < xs.length -> xs[i]? = some x)) /\ J.stop xs.length H')
  (hb:∀ (i:Nat) x z H' (R:VK),xs[i]? = some x -> zs[i]? = some z -> Same H H' -> (∀ r H5,H' r=none -> Same H' H5 -> H5 r=some (.tup (f z)) -> R (.ref r) H5) -> te (some x :: yY cs σ) H' R)
  (hd:∀ acc ys H',H acc=none -> Same H H' -> H' acc=some (.lst ys) -> HTs f H' ys zs -> Q (.ref acc) H') :
  yn J 1 cs (jB 0) tYes te σ H Q:=by
 refine J7 xs.length (fun acc i ws H'=>Same H H' /\ H' acc=some (.lst ws) /\ HTs f H' ws (zs.take i)) (zg hz) ?_ ?_ ?_ ?_ ?_ ?_
 ·rintro acc i ws H' hi ⟨s,_,_⟩
  exact (hJ _ s).1 i hi
 ·rintro acc ws H' ⟨s,_,_⟩
  exact (hJ _ s).2.2
 ·intro acc ha
  exact ⟨zV ha _,zL,hts_nil⟩
 ·rintro acc i ws H' ⟨s,ha,ht⟩
  exact ⟨ha,by rw [ht.len,qO]; omega⟩
 ·rintro acc i ws H' ts v H2 N hn hi ⟨s,ha,ht⟩ y hts hN
  obtain ⟨e,hx⟩:=(hJ _ s).2.1 i v H2 y
  have hx:=hx hi
  subst e
  obtain ⟨t0,rfl⟩:∃ t0,ts=[t0]:=by
   match ts,hts with
   | [a],_=>exact ⟨a,rfl⟩
  have hz':zs[i]? = some (zs[i]'(by omega)):=qA _
  generalize (zs[i]'(by omega))=z at hz'
  rw [jE,w_yes,if_pos rfl]
  refine hb i v z _ _ hx hz' s fun r H5 hr s5 h5=>?_
  have ha5:=s5 _ _ ha
  refine ⟨ha5,hN _ [_] _ rfl ⟨yg hn (s.trans s5),zL,?_⟩⟩
  have tk:zs.take (i+1)=zs.take i ++ [z]:=by rw [x9,hz']; rfl
  rw [tk]
  exact ((ht.same s5).chgL ha5 (Chg.upd _)).snoc (by rw [upd_ne (Jh h5 ha5 (by intro z; cases z))]; exact h5)
 ·rintro acc ws H' hn ⟨s,ha,ht⟩
  rw [zm (by omega)] at ht
  exact hd acc ws H' hn s ha ht
theorem it_R {n:Nat}{H':Hp}:(∀ i,i < (rngV 0 n).length -> (Itr 0 n).go i H') /\ (∀ i x H2,(Itr 0 n).yld i H' x H2 -> H2=H' /\ (i < (rngV 0 n).length -> (rngV 0 n)[i]? = some x)) /\ (Itr 0 n).stop (rngV 0 n).length H':=by
 rw [jn]
 exact ⟨fun i hi=>hi,fun i x H2 y=>⟨y.1,fun hi=>by rw [rngV_get hi,y.2]⟩,zG _⟩
end
def spInRow:Sp:=fun vs H Q _=>∃ (n i:Nat),vs=[.int n,.int i] /\ n <= 100 /\ ∀ r H',H r=none -> Same H H' -> H' r=some (.tup (iT (yb n i))) -> Q (.ref r) H'
def spInRows:Sp:=fun vs H Q _=>∃ (n:Nat),vs=[.int n] /\ n <= 100 /\ ∀ r ys H',H r=none -> Same H H' -> H' r=some (.lst ys) -> HTs iT H' ys ((zy n).map (yb n)) -> Q (.ref r) H'
theorem tup_of {H':Hp}{ys:List V}{rs:List (List Int)}(h:HTs iT H' ys rs){j:Nat}(hj:j < rs.length):∃ (l:Addr),atI ys (j:Int)=some (.ref l) /\ H' l=some (.tup (iT (rs.getD j []))) /\ rs.getD j [] ∈ rs:=by
 obtain ⟨l,e1,e2⟩:=h.at_ j _ (qA hj)
 rw [yx (qA hj)]
 exact ⟨l,y7 e1,e2,yM hj⟩
theorem zAl {ins:Nat}{ds:List Wd}{i j:Nat}(hi:i <= ds.length)(hj:j < ins+i):(rowsW ins (ds.take i)).getD j []=(rowsW ins ds).getD j []:=by
 have hl:j < (rowsW ins (ds.take i)).length:=by rw [jp,qO]; omega
 have e:=qA hl
 have e2:=rowsW_pre ins (ds.take i) (ds.drop i) e
 rw [List.take_append_drop] at e2
 rw [yx e,yx e2]
end L2
namespace L2
open PySem PySem.Spec
end L2
namespace L2
open PySem PySem.Spec
section
variable {α:Type}{f:α -> List V}{K:zA}{H:Hp}{l l':Addr}{ys ys':List V}{xs:List α}{Q:VK}
end
end L2
namespace L2
open PySem PySem.Spec PyProof.Rows
def tLR (ta:TA):TE:=fun σ H Q=>ta σ H fun vs H1=>∃ j:Nat,vs=[.int (j:Int)] /\ j <= 1000 /\ ∀ l H',H1 l=none -> Same H1 H' -> H' l=some (.lst (rngV 0 j)) -> Q (.ref l) H'
theorem w_LR {ta:TA}{σ:St}{H:Hp}{Q:VK}:tLR ta σ H Q=(ta σ H fun vs H1=>∃ j:Nat,vs=[.int (j:Int)] /\ j <= 1000 /\ ∀ l H',H1 l=none -> Same H1 H' -> H' l=some (.lst (rngV 0 j)) -> Q (.ref l) H'):=rfl
def iRngD (ta:TA):TI:=fun σ H R=>ta σ H fun vs H1=>∃ i:Int,vs=[.int i,.int (-1),.int (-1)] /\ (-1 <= i /\ i < 2 ^ 31) /\ R (Itr3 i (-1) (i+1).toNat) H1
theorem w_forD {σ:St}{H:Hp}{D:Ends}{g:TG}{tb:TS}{ta:TA}:tFor (iRngD ta) g tb D σ H=(ta σ H fun vs H1=>∃ i:Int,vs=[.int i,.int (-1),.int (-1)] /\ (-1 <= i /\ i < 2 ^ 31) /\ ForR3 i (-1) (i+1).toNat g tb D σ H1):=rfl
section
variable {K:zA}{σ:St}{H:Hp}{Q:VK}{cs:List Nat}{te:TE}
end
end L2
namespace L2
open PySem PySem.Spec PyProof.Rows
section
variable {prog:Program}{w:World}{A:Around}{E:Value -> Shared -> Prop}{s:Shared}
end
section
variable {prog:Program}{w:World}{A:Around}{E:Value -> Shared -> Prop}{s:Shared}
end
def Itzt (K : zA)(a b : Addr) : It :=
  ⟨fun i H => ∃ xs ys, SqT K H a xs ∧ SqT K H b ys ∧ i < xs.length ∧ i < ys.length,
   fun i H x H' => ∃ T u v, x = .ref T ∧ H T = none ∧ H' = upd H T (.tup [u, v]) ∧ (∀ xs, SqT K H a xs → xs[i]? = some u) ∧ (∀ ys, SqT K H b ys → ys[i]? = some v),
   fun i H => ∃ xs ys, SqT K H a xs ∧ SqT K H b ys ∧ (xs.length ≤ i ∨ ys.length ≤ i)⟩
def iZip2 (K:zA)(ta:TA):TI:=fun σ H R=>ta σ H fun vs H1=>∃ a b xs ys,vs=[.ref a,.ref b] /\ ((SqL K H1 a xs /\ SqL K H1 b ys /\ R (Itz K a b) H1) \/ (SqT K H1 a xs /\ SqT K H1 b ys /\ R (Itzt K a b) H1))
theorem w_compZ2 {K:zA}{σ:St}{H:Hp}{Q:VK}{ta:TA}{nt:Nat}{cs:List Nat}{g:TG}{tt:TT}{te:TE}:JG (iZip2 K ta) nt cs g tt te σ H Q=(ta σ H fun vs H1=>∃ a b xs ys,vs=[.ref a,.ref b] /\ ((SqL K H1 a xs /\ SqL K H1 b ys /\ yn (Itz K a b) nt cs g tt te σ H1 Q) \/ (SqT K H1 a xs /\ SqT K H1 b ys /\ yn (Itzt K a b) nt cs g tt te σ H1 Q))):=rfl
end L2
namespace L2
open PySem PySem.Spec PyProof.Rows
structure Gt (ins:Nat) (ds:List Wd) (gs:List Go) (i:Nat) (ms:List Nat):Prop where
 sd:∀ x ∈ ms,Rch ins ds gs x
 rt:∀ g ∈ gs,g.sg ≠ 0 -> g.th ∈ ms
 cl:∀ k d,ds[k]? = some d -> ds.length <= k+i -> ins+k ∈ ms -> d.a ∈ ms /\ d.b ∈ ms
 ln:ms.length <= gs.length+2 * i
def kp (bs:List Bool)(ins j:Nat):Prop:=j < ins \/ bs[j]? = some true
instance (bs:List Bool) (ins j:Nat):Decidable (kp bs ins j):=by unfold kp; infer_instance
section
variable {ins:Nat}{ds:List Wd}{gs:List Go}{bs:List Bool}
end
section
variable {K:zA}{σ:St}{H:Hp}{Q:VK}{cs:List Nat}{te:TE}
end
end L2
namespace L2
open PySem PySem.Spec PyProof.Rows
def TrX (h:Heap)(e:Addr)(C:Value)(d:Option Addr)(T:Addr):Prop :=
 ∃ oe vs oT ts,h.get? e=some oe /\ oe.cls=C /\ oe.dict=d /\ oe.data = .fields vs /\ vs[1]? = some (.ref T) /\ T ≠ e /\ h.get? T=some oT /\ oT.data = .fields ts /\ ts[3]? = some .none
def NwX (h:Heap)(e:Addr)(C:Value)(d:Option Addr):Prop:=∃ oe vs,h.get? e=some oe /\ oe.cls=C /\ oe.dict=d /\ oe.data = .fields vs /\ vs[1]? = some .none
structure Lv (fr:List Addr) (e:Addr) (C:Value) (d:Option Addr) (T:Option Addr) (h h':Heap):Prop where
 keep:∀ b o,b ∉ fr -> b ≠ e -> some b ≠ T -> h.get? b=some o -> h'.get? b=some o
 slot:∀ b o,b ∈ fr -> h.get? b=some o -> ∃ sl,h'.get? b=some { o with slots:=sl }
 exc:TrX h' e C d h.objs.size
section
variable {M:Model}{A:Around}{E:Value -> Shared -> Prop}{s:Shared}{base:Heap}{env:Env}{outer:List Env}{L e:Addr}{oe:Obj}{vs:Array Value}{Q:Unit -> Shared -> Prop}
theorem lv_entry {head:Value}{hadNext:Bool}(hfr:A.frames=some (env :: outer))(hl:s.heap.FunFrames base (env :: outer))(hf:env.frame=some L)
  (he:s.heap.get? e=some oe) (hd:oe.data = .fields vs) (hsz:1 < vs.size)
  (h:∀ h',Lv ((env :: outer).filterMap (·.frame)) e oe.cls oe.dict none s.heap h' -> Q () { s with heap:=h' }) :
  wpAny M A (do let a ← frameOf env; let pl ← entryPlaceOf L hadNext; let b ← EntryCells.newEntry head a .none (rawInt L) .none pl; setField (.ref e) 1 b) (fun _ s'=>wpAny M A (setFlight (.ref e) none) Q E s') E s:=by
 have hene:e ∉ (env :: outer).filterMap (·.frame):=fun hm=>by
  obtain ⟨_,o,ho,hnf⟩:=hl.mem hm
  rw [he] at ho; injection ho with ho; subst ho; exact hnf vs hd
 refine wpAny_bind (wpAny_frameOf_fun hfr hl hf fun h1 s1=>?_)
 refine wpAny_bind (wpAny_entryPlaceOf fun pl hpl=>?_)
 unfold EntryCells.newEntry newFields
 refine wpAny_bind (wpAny_newObj_type ?_ (hpl.sizeOk5 _ _ _ _ _))
 have e1:h1.get? e=some oe:=(s1.2.1 e hene).trans he
 generalize hob:({ cls:=.type "traceback",dict:=none,data:=.fields ([head,.ref L,.none,rawInt L,.none] ++ (if pl.isEmpty then qQ 6 Value.none else pl)).toArray }:Obj)=ob
 have e2:=Heap.get?_push_of_some (h:=h1) ob e1
 refine wpAny_setField e2 hd hsz ?_
 have hTe:h1.objs.size ≠ e:=zt (Heap.lt_size e1)
 have d3:=Obj.data_mapFields hd (·.setIfInBounds 1 (Value.ref h1.objs.size))
 have e3:=Heap.get?_update_self (Obj.mapFields (·.setIfInBounds 1 (Value.ref h1.objs.size))) e2 (Obj.isFreed_of_fields d3)
 have hobd:ob.data = .fields ([head,.ref L,.none,rawInt L,.none] ++ (if pl.isEmpty then qQ 6 Value.none else pl)).toArray:=by rw [← hob]
 have T3:=(Heap.get?_update_other (h1.push ob) (Obj.mapFields (·.setIfInBounds 1 (Value.ref h1.objs.size))) (Ne.symm hTe)).trans (Heap.get?_push_size h1 (by rw [← hob]; rfl))
 unfold setFlight
 refine wpAny_bind (wpAny_field e3 d3 (x:=.ref h1.objs.size) (by simp [hsz]) ?_)
 rw [if_pos (show (Value.ref h1.objs.size != Value.none)=true from by simp)]
 refine wpAny_setField T3 hobd (by simp only [qM,qF,zP,jh] <;> omega) (h _ ?_)
 have keep:∀ b o,b ≠ e -> h1.get? b=some o -> (((h1.push ob).update e (Obj.mapFields (·.setIfInBounds 1 (Value.ref h1.objs.size)))).update h1.objs.size (Obj.mapFields (·.setIfInBounds 3 ((none:Option Addr).elim Value.none fun f=>rawInt f)))).get? b=some o:=fun b o hbe hb=>by
  have hbT:h1.objs.size ≠ b:=zt (Heap.lt_size hb)
  rw [Heap.get?_update_other _ _ hbT,Heap.get?_update_other _ _ (Ne.symm hbe)]
  exact Heap.get?_push_of_some _ hb
 refine ⟨fun b o hb hbe _ hg=>keep b o hbe ((s1.2.1 b hb).trans hg),fun b o hb hg=>?_,?_⟩
 ·obtain ⟨sl,hs⟩:=s1.2.2 b o hg
  exact ⟨sl,keep b _ (fun z=>hene (z ▸ hb)) hs⟩
 ·rw [← s1.1]
  refine ⟨_,_,_,_,?_,Obj.cls_mapFields _ _,?_,d3,by simp [hsz],hTe,Heap.get?_update_self _ T3 (Obj.isFreed_of_fields (Obj.data_mapFields hobd _)),Obj.data_mapFields hobd _,by first | (simp; done) | (rcases hpl with rfl | ⟨_,_,_,_,_,_,_,rfl⟩ <;> simp)⟩
  ·rw [Heap.get?_update_other _ _ hTe]; exact e3
  ·obtain ⟨oc,od,dt,sl⟩:=oe
   cases hd
   rfl
theorem lv_first {C:Value}{d:Option Addr}(hfr:A.frames=some (env :: outer))(hl:s.heap.FunFrames base (env :: outer))(hf:env.frame=some L)(he:NwX s.heap e C d)
  (h:∀ h',Lv ((env :: outer).filterMap (·.frame)) e C d none s.heap h' -> Q () { s with heap:=h' }):wpAny M A (leaving env (.ref e)) Q E s:=by
 obtain ⟨oe,vs,he,rfl,rfl,hd,h1⟩:=he
 unfold leaving noteFrame
 simp only [hf]
 refine wpAny_bind (wpAny_bind (wpAny_field he hd h1 ?_))
 rw [if_neg (by decide)]
 exact lv_entry hfr hl hf he hd (yy.mp h1).1 h
theorem lv_nextN {C:Value}{d:Option Addr}{T:Addr}(hfr:A.frames=some (env :: outer))(hl:s.heap.FunFrames base (env :: outer))(hf:env.frame=some L)(ht:TrX s.heap e C d T)
  (h:∀ h',Lv ((env :: outer).filterMap (·.frame)) e C d (some T) s.heap h' -> Q () { s with heap:=h' }):wpAny M A (noteFrame (.ref e) env) (fun _ s'=>wpAny M A (setFlight (.ref e) none) Q E s') E s:=by
 obtain ⟨oe,vs,oT,ts,he,rfl,rfl,hd,h1,hTe,hT,hdT,h3⟩:=ht
 unfold noteFrame
 simp only [hf]
 refine wpAny_bind (wpAny_field he hd h1 ?_)
 rw [if_pos (show (Value.ref T != Value.none)=true from by simp)]
 refine wpAny_bind (wpAny_field hT hdT h3 ?_)
 rw [if_neg (show ¬ ((Value.none == rawInt L)=true) from by simp [rawInt])]
 refine wpAny_bind (wpAny_setField hT hdT (yy.mp h3).1 ?_)
 have other:∀ b,b ≠ T -> (s.heap.update T (Obj.mapFields (·.setIfInBounds 3 Value.none))).get? b=s.heap.get? b:=fun b hb=>Heap.get?_update_other _ _ (Ne.symm hb)
 have noT:∀ b o,s.heap.get? b=some o -> (∀ vs,o.data ≠ .fields vs) -> b ≠ T:=fun b o hb hnf q=>by
  rw [q,hT] at hb; injection hb with hb; subst hb; exact hnf ts hdT
 have frT:∀ b ∈ (env :: outer).filterMap (·.frame),b ≠ T:=fun b hb=>by
  obtain ⟨_,o,ho,hnf⟩:=hl.mem hb
  exact noT b o ho hnf
 refine lv_entry hfr (hl.of_keeps fun b o hb hnf=>⟨o,(other b (noT b o hb hnf)).trans hb,rfl⟩) hf ((other e (Ne.symm hTe)).trans he) hd (yy.mp h1).1 fun h' z=>h h' ⟨fun b o hb hbe hbT hg=>?_,fun b o hb hg=>?_,?_⟩
 ·exact z.keep b o hb hbe (by simp) ((other b (fun q=>hbT (by rw [q]))).trans hg)
 ·exact z.slot b o hb ((other b (frT b hb)).trans hg)
 ·have:=z.exc
  rw [Heap.size_update] at this
  exact this
end
def CXe (P:Program)(w:World)(base:Heap):CXT:=fun outer H s E e s'=>∃ (x T:Addr) (C:Value) (d:Option Addr) (H':Hp),e = .ref x /\ s'.os=s.os /\ AllBare s'.gens /\ Un (frs outer) [] H H' s.heap s'.heap /\ HOk P w H' s'.heap /\
 TrX s'.heap x C d T /\ s.heap.get? x=none /\ s.heap.get? T=none /\ H' x=none /\ H' T=none /\ E C d H'
def Raises (X:Cx)(E:XK):Prop:=∀ (pins:List (Addr × Obj)) (σ:St) (H:Hp) (s:Shared) (e:Addr) (C:Value) (d:Option Addr),Inv X pins σ H s -> NwX s.heap e C d -> H e=none -> X.s₀.heap.get? e=none -> E C d H -> X.xe (.ref e) s
section
variable {P:Program}{w:World}{K:zA}{mg:Str -> Option Value}{base:Heap}{N:List Str}{qual:Str}{scope:Scope}{f:Addr}{cd:Value}{A:Around}{outer:List Env}{s:Shared}{H:Hp}{E:XK}
theorem leave_ok {pins:List (Addr × Obj)}{σ:St}{H':Hp}{s':Shared}{h':Heap}{x:Addr}{C:Value}{d:Option Addr}{To:Option Addr}
  (I:Inv (cxOf (CXe P w base) P w K mg base N qual scope f cd A outer s H E) pins σ H' s') (l:Lv ((envOfC qual scope s.heap.objs.size f cd :: outer).filterMap (·.frame)) x C d To s'.heap h')
  (hx:s.heap.get? x=none) (hn:H' x=none) (hT:∀ T,To=some T -> s.heap.get? T=none /\ H' T=none) (he:E C d H'):CXe P w base outer H s E (.ref x) { s' with heap:=h' }:=by
 have st:(cxOf (CXe P w base) P w K mg base N qual scope f cd A outer s H E).stack=envOfC qual scope s.heap.objs.size f cd :: outer:=rfl
 have inS:∀ b,b ∈ (envOfC qual scope s.heap.objs.size f cd :: outer).filterMap (·.frame) -> b=s.heap.objs.size \/ b ∈ frs outer:=fun b hb=>by
  have:=I.stkSub b hb
  exact zI.mp this
 have oldS:∀ b o,s.heap.get? b=some o -> b ∉ frs outer -> b ∉ (envOfC qual scope s.heap.objs.size f cd :: outer).filterMap (·.frame):=fun b o e hb z=>by
  rcases inS b z with q | q
  ·exact absurd (Heap.lt_size e) (by rw [q]; exact zq _)
  ·exact hb q
 have ltx:∀ b o,s.heap.get? b=some o -> b ≠ x:=fun b o e z=>by rw [z,hx] at e; cases e
 have ltT:∀ b o,s.heap.get? b=some o -> some b ≠ To:=fun b o e z=>by rw [(hT b z.symm).1] at e; cases e
 have sub:∀ b,b ∈ frs outer -> b ∈ (envOfC qual scope s.heap.objs.size f cd :: outer).filterMap (·.frame):=fun b hb=>by
  rw [zx]
  split
  ·exact hb
  ·exact zO _ hb
 refine ⟨x,s'.heap.objs.size,C,d,H',rfl,I.os,I.bare,⟨fun b o e n hb hx'=>?_,fun b o e n hb hx'=>?_,fun b o e n hx'=>I.base.free b o e n hx',fun b o e hx'=>?_,I.base.tups,I.base.frzs,I.base.tbls⟩,fun b u q=>?_,l.exc,hx,Heap.get?_none_of_le I.sz,hn,I.hok.fresh (zG _),he⟩
 ·exact l.keep b o (oldS b o e hb) (ltx b o e) (ltT b o e) (I.base.keep b o e n hb hx')
 ·obtain ⟨sl,e1⟩:=I.base.slot b o e n hb hx'
  obtain ⟨sl2,e2⟩:=l.slot b _ (sub b hb) e1
  exact ⟨sl2,e2⟩
 ·obtain ⟨o',e1⟩:=I.base.there b o e hx'
  by_cases hb:b ∈ (envOfC qual scope s.heap.objs.size f cd :: outer).filterMap (·.frame)
  ·obtain ⟨sl,e2⟩:=l.slot b o' hb e1
   exact ⟨_,e2⟩
  ·exact ⟨o',l.keep b o' hb (ltx b o e) (ltT b o e) e1⟩
 ·have trk:∀ c v,H' c=some v -> c ∉ (envOfC qual scope s.heap.objs.size f cd :: outer).filterMap (·.frame) /\ c ≠ x /\ some c ≠ To:=fun c v e=>by
   refine ⟨fun z=>?_,fun z=>?_,fun z=>?_⟩
   ·have:=I.stkFree c z
    rw [e] at this
    cases this
   ·rw [z,hn] at e
    cases e
   ·rw [(hT c z.symm).2] at e
    cases e
  refine (I.hok b u q).stay (fun c v hc e=>?_) (fun _ z=>z) fun _ _ z=>z
  have tc:∃ v,H' c=some v:=by
   rcases hc with z | z
   ·rw [z]; exact ⟨_,q⟩
   ·exact ⟨_,z⟩
  obtain ⟨v',hv⟩:=tc
  obtain ⟨n1,n2,n3⟩:=trk c v' hv
  exact l.keep c v n1 n2 n3 e
theorem raises_of:Raises (cxOf (CXe P w base) P w K mg base N qual scope f cd A outer s H E) E:=by
 intro pins σ H' s' e C d I hw hn hs he
 exact lv_first (base:=base) (L:=s.heap.objs.size) I.ok.frames I.stack rfl hw fun h' l=>leave_ok I l hs hn (fun T z=>by cases z) he
end
structure CalX (P:Program) (w:World) (K:zA) (mg:Str -> Option Value) (base:Heap) (k:Nat) (x:Str) (ps:List Str) (sp:Sp):Prop where
 ex:∃ (f:Addr) (fd:FuncData),FnOk P w K mg base (CXe P w base) k f fd ps sp /\ mg x=some (.ref f) /\ zF K (.ref f)=true /\ Binds K fd ps []
section
variable {X:Cx}{k:Nat}{x:Str}{ps:List Str}{sp:Sp}{e:Expr}{es:List Expr}{t:TA}{p pos:Pos}{E:XK}
end
section
variable {P:Program}{w:World}{K:zA}{mg:Str -> Option Value}{base:Heap}
theorem mkCalX {x qual:Str}{st:Stmt}{N ps:List Str}{k:Nat}{sp:Sp}(T:∃ (f:Addr) (fd:FuncData),Fun K x qual st f fd /\ mg x=some (.ref f) /\ Binds K fd ps [])(S:FnScope N ps (zE st))(len:∀ vs H Q E,sp vs H Q E -> vs.length=ps.length)
  (hbody:∀ (f:Addr) (cdv:Value) (A:Around) (outer:List Env) (s:Shared) (H:Hp) (vs:List V) (Q:VK) (E:XK),Room k (A.deeper (envOfC qual (zE st) s.heap.objs.size f cdv)) -> sp vs H Q E ->
   ∃ t,PSs (cxOf (CXe P w base) P w K mg base N qual (zE st) f cdv A outer s H E) (zZ st) t /\ t { nx:=fun _ H'=>Q .non H',rt:=Q } (zp N vs) H):CalX P w K mg base (k+1) x ps sp:=by
 obtain ⟨f,fd,F,m,b⟩:=T
 obtain ⟨oc,od,kV,doc,pm,an,cdv,ct,osl,rfl,lk,hcd⟩:=F.ex
 exact ⟨f,_,fn_of lk hcd S len fun A outer s H vs Q E hr hsp=>hbody f cdv A outer s H vs Q E hr hsp,m,F.kp,b⟩
end
end L2
namespace L2
open PySem PySem.Spec PyProof.Rows
theorem exc_obj {K:zA}{h:Heap}{C:Addr}{bmB:List Value}{newId:String}(X:K.In h)(q:PySem.W.excIn K C bmB newId=true) :
  ∃ bm N nm q bs hdct sn sub ab col dd k0 k1 k2 k3 k5 mN,h.get? C=some (excClassObj nm q C N bs bm hdct sn sub ab col dd k0 k1 k2 k3 k5 newId) /\ h.Ns N mN /\ mN "__init__" = none /\ OwnTail h bmB bm:=by
 unfold PySem.W.excIn at q
 split at q
 ·rename_i dd cd sl ho
  split at q
  ·rename_i C' bm k0 k1 k2 k3 n k5 hm hs
   simp only [zB,beq_iff_eq,xI] at q
   obtain ⟨⟨⟨⟨⟨rfl,rfl⟩,hdel⟩,ht⟩,hok⟩,hni⟩:=q
   obtain ⟨nm,bs,mro,ns,qn,hd,sn,sub,ab,col,del⟩:=cd
   dsimp only at hm hdel hok hni
   subst hm hdel
   have hsl:sl = #[k0,k1,k2,k3,some (.builtin n),k5]:=by
    obtain ⟨l⟩:=sl
    simp only at hs
    rw [hs]
   subst hsl
   exact ⟨bm,ns,nm,qn,bs,hd,sn,sub,ab,col,dd,k0,k1,k2,k3,k5,_,X _ _ ho,.of_isNs (PySem.W.isNs_of_in X hok),PySem.W.nsMap_none_of_in X hok hni,PySem.W.tail_of_in X ht⟩
  ·cases q
 ·cases q
section
variable {M:Model}{A:Around}{E:Value -> Shared -> Prop}
theorem exc_match {h:Heap}{g:Array GenState}{d:Drawn}{t:Nat}{os:OsState}{e:Addr}{oe:Obj}{Q:Bool -> Shared -> Prop}
  {nm q:Str} {C N:Addr} {bs bm:List Value} {hdct:Bool} {sn:List Str} {sub:List Value} {ab:Bool} {col:Option Bool} {dd:Option Addr} {k0 k1 k2 k3 k5:Option Value} {newId:String}
  {nm' q':Str} {B N':Addr} {bs' bm':List Value} {hdct':Bool} {sn':List Str} {sub':List Value} {ab':Bool} {col':Option Bool} {dd':Option Addr} {k0' k1' k2' k3' k5':Option Value} {newId':String}
  (hC:h.get? C=some (excClassObj nm q C N bs bm hdct sn sub ab col dd k0 k1 k2 k3 k5 newId)) (hB:h.get? B=some (excClassObj nm' q' B N' bs' bm' hdct' sn' sub' ab' col' dd' k0' k1' k2' k3' k5' newId'))
  (he:h.get? e=some oe) (hcls:oe.cls = .ref C) (hbase:bm'.contains (.type "BaseException")=true) (hq:Q ((Value.ref C :: bm).contains (.ref B)) ⟨h,g,d,t,os⟩):wpAny M A (excMatches (.ref e) (.ref B)) Q E ⟨h,g,d,t,os⟩:=by
 have hcB:(Value.ref B :: bm').contains (.type "BaseException")=true:=by rw [List.contains_cons,hbase,Bool.or_true]
 have f:=tc_notTuple
 unfold excMatches
 repeat (first | (with_reducible refine wpAny_loadPart_at he ?_; rw [hcls]) | with_reducible refine wpAny_loadPart_at hB ?_ | (with_reducible refine wpAny_isSubtype_exc hB ?_; rw [hcB]) | with_reducible refine wpAny_isSubtype_exc hC ?_ | wp_step)
 cases hb:(Value.ref C :: bm).contains (.ref B) <;> (rw [hb] at hq; first | exact hq | (wp_walk; exact hq))
end
end L2
namespace L2
open PySem PySem.Spec PyProof.Rows
def XP (X:Cx)(pins:List (Addr × Obj))(σ:St)(E:XK)(e:Value)(s':Shared):Prop:=∃ (x T:Addr) (C:Value) (d:Option Addr) (H':Hp),e = .ref x /\ Inv X pins σ H' s' /\ TrX s'.heap x C d T /\
 (X.s₀.heap.get? x=none /\ X.s₀.heap.get? T=none) /\ (∀ p ∈ X.pn ++ pins,p.1 ≠ x /\ p.1 ≠ T) /\ H' x=none /\ H' T=none /\ E C d H'
abbrev TX:=St -> Hp -> VK -> XK -> Prop
def PEx (X:Cx)(e:Expr)(t:TX):Prop :=
 ∀ (pins:List (Addr × Obj)) (s:Shared) (σ:St) (H:Hp) (Q:VK) (E:XK),Inv X pins σ H s -> t σ H Q E -> wpAny (model X.prog X.w) X.A (eval e X.env) (EP X pins σ Q) (XP X pins σ E) s
def xCall (sp:Sp)(t:TA):TX:=fun σ H Q E=>t σ H fun vs H1=>sp vs H1 Q E
theorem pex_call {X:Cx} {k:Nat} {x:Str} {ps:List Str} {sp:Sp} {e:Expr} {es:List Expr} {t:TA} {p pos:Pos} (C:CalX X.prog X.w X.K X.mg X.base k x ps sp) (hr:Room k X.A) (hex:∀ b,b ∉ X.ex) (hg:Gl X x) (ha:PA X.nox (e :: es) t) (hd:(x == ("__debug__" : Str))=false:=by decide)
  (he:starEach (e :: es) X.env=(false,eval e X.env) :: starEach es X.env:=by rfl) (hpl:(backTo pos (starEach es X.env)).any (·.1)=false:=by rfl):PEx X (.Call (.Name x p) (e :: es) [] pos) (xCall sp t):=by
 obtain ⟨f,fd,F,hm,hk,hb⟩:=C.ex
 intro pins s σ H Q E I h
 refine wpAny_Call_Name_kw (Ju I hg hm ?_ hd)
 refine PySem.W.callWith_K (h₀:=X.base) I.ok.mod.kin hk (wpAny_mono (ha pos pins s σ H _ (I.wish _) h) (fun us s1 ⟨vs,H1,I1,r,q⟩=>⟨I1.kIn,?_⟩) fun _ _ z=>False.elim z) he hpl
 have I1:=I1.unwish
 have hl:us.length=ps.length:=by rw [← r.length]; exact F.len _ _ _ _ q
 have hbt:=hb s1 us I1.kIn (by rw [yQ]; exact hl)
 rw [yQ] at hbt
 refine wpAny_call (codeAny_mono (F.run X.A X.stack s1 H1 ⟨us,[]⟩ us vs Q E hr I1.env0 hbt r q) fun r s' hq=>?_)
 cases r with
 | error er =>
  obtain ⟨x',T,C',d,H',rfl,os,bare,un,hok,tr,hx,hT,nx,nT,hE⟩:=hq
  have old:∀ {y:Addr},s1.heap.get? y=none -> X.s₀.heap.get? y=none:=fun {y} hy=>by
   cases z:X.s₀.heap.get? y with
   | none=>rfl
   | some o =>
    obtain ⟨o',e'⟩:=I1.base.there y o z (hex y)
    rw [hy] at e'
    cases e'
  refine ⟨x',T,C',d,H',rfl,I1.call' os un hok bare (fun b z=>absurd z (by simp)),tr,⟨old hx,old hT⟩,fun p' hp=>⟨fun z=>?_,fun z=>?_⟩,nx,nT,hE⟩
  ·have:=(I1.pin p' hp).1
   rw [z,hx] at this
   cases this
  ·have:=(I1.pin p' hp).1
   rw [z,hT] at this
   cases this
 | ok fl =>
  cases fl with
  | ret u=>exact I1.after hq
  | next=>exact False.elim hq
  | brk=>exact False.elim hq
  | cont=>exact False.elim hq
structure LvK (fr:List Addr) (e:Addr) (T:Addr) (h h':Heap):Prop where
 keep:∀ b o,b ∉ fr -> b ≠ e -> some b ≠ some T -> h.get? b=some o -> h'.get? b=some o
 slot:∀ b o,b ∈ fr -> h.get? b=some o -> ∃ sl,h'.get? b=some { o with slots:=sl }
theorem Lv.k {fr:List Addr}{e T:Addr}{C:Value}{d:Option Addr}{h h':Heap}(l:Lv fr e C d (some T) h h'):LvK fr e T h h':=⟨l.keep,l.slot⟩
theorem inv_noted {X:Cx}{pins:List (Addr × Obj)}{σ:St}{H:Hp}{s:Shared}{h':Heap}{x T:Addr}{C:Value}{d:Option Addr}(I:Inv X pins σ H s)(tr:TrX s.heap x C d T)(l:LvK (frs X.stack) x T s.heap h')(ox:X.s₀.heap.get? x=none)(oT:X.s₀.heap.get? T=none)
  (np:∀ p ∈ X.pn ++ pins,p.1 ≠ x /\ p.1 ≠ T) (nx:H x=none) (nT:H T=none):Inv X pins σ H { s with heap:=h' }:=by
 obtain ⟨oe,vs,oT',ts,he,_,_,hd,_,_,hT,hdT,_⟩:=tr
 have inS:∀ b,b ∈ frs X.stack -> b=X.env.locals \/ b ∈ X.fs:=fun b hb=>zI.mp (I.stkSub b hb)
 have nxl:∀ b o,X.s₀.heap.get? b=some o -> b ≠ x /\ some b ≠ some T:=fun b o e=>⟨fun z=>(by rw [z,ox] at e; cases e),fun z=>(by cases z; rw [oT] at e; cases e)⟩
 have neL:∀ b o,X.s₀.heap.get? b=some o -> b ≠ X.env.locals:=fun b o e=>zN (qJ (Heap.lt_size e) I.ok.above)
 have any:∀ b o,(∀ vs,o.data ≠ .fields vs) -> s.heap.get? b=some o -> ∃ sl,h'.get? b=some { o with slots:=sl }:=fun b o hnf e=>by
  by_cases hb:b ∈ frs X.stack
  ·exact l.slot b o hb e
  ·refine ⟨o.slots,l.keep b o hb (fun z=>?_) (fun z=>?_) e⟩
   ·rw [z,he] at e; cases e; exact hnf _ hd
   ·cases z; rw [hT] at e; cases e; exact hnf _ hdT
 have cellK:∀ c v,s.heap.IsCell c v -> h'.IsCell c v:=fun c v ⟨o,ho,hdd⟩=>by
  obtain ⟨sl,e⟩:=any c o (fun vs z=>by rw [hdd] at z; cases z) ho
  exact ⟨_,e,hdd⟩
 refine ⟨I.ok,I.os,I.bare,⟨fun b o e n hb hx'=>?_,fun b o e n hb hx'=>?_,fun b o e n hx'=>I.base.free b o e n hx',fun b o e hx'=>?_,I.base.tups,I.base.frzs,I.base.tbls⟩,?_,fun y c e=>?_,I.free,I.freeC,fun p hp=>?_,fun b u q=>?_,I.len⟩
 ·exact l.keep b o (fun z=>(inS b z).elim (neL b o e) hb) (nxl b o e).1 (nxl b o e).2 (I.base.keep b o e n hb hx')
 ·obtain ⟨sl,e1⟩:=I.base.slot b o e n hb hx'
  by_cases z:b ∈ frs X.stack
  ·obtain ⟨sl2,e2⟩:=l.slot b _ z e1
   exact ⟨sl2,e2⟩
  ·exact ⟨sl,l.keep b _ z (nxl b o e).1 (nxl b o e).2 e1⟩
 ·obtain ⟨o',e1⟩:=I.base.there b o e hx'
  by_cases z:b ∈ frs X.stack
  ·obtain ⟨sl2,e2⟩:=l.slot b _ z e1
   exact ⟨_,e2⟩
  ·exact ⟨_,l.keep b _ z (nxl b o e).1 (nxl b o e).2 e1⟩
 ·obtain ⟨m,⟨o,es,ep,ho,hdd,r⟩,hv⟩:=I.loc
  obtain ⟨sl,e⟩:=any _ o (fun vs z=>by rw [hdd] at z; cases z) ho
  refine ⟨m,⟨_,es,ep,e,hdd,r⟩,fun i y v h1 h2 h3=>?_⟩
  obtain ⟨u,ru,lk⟩:=hv i y v h1 h2 h3
  refine ⟨u,ru,?_⟩
  rcases lk with z | ⟨z,c,e1,e2⟩
  ·exact .inl z
  ·exact .inr ⟨z,c,e1,cellK c _ e2⟩
 ·obtain ⟨v,hv⟩:=I.cell y c e
  exact ⟨v,cellK c v hv⟩
 ·obtain ⟨e,n,ne,nf,dd⟩:=I.pin p hp
  exact ⟨l.keep _ _ (fun z=>(inS _ z).elim ne nf) (np p hp).1 (fun z=>(np p hp).2 (Option.some.inj z)) e,n,ne,nf,dd⟩
 ·refine (I.hok b u q).stay (fun c v hc e=>?_) (fun _ z=>z) fun _ _ z=>z
  have tc:∃ v,H c=some v:=by
   rcases hc with z | z
   ·rw [z]; exact ⟨_,q⟩
   ·exact ⟨_,z⟩
  obtain ⟨v',hv⟩:=tc
  refine l.keep c v (fun z=>?_) (fun z=>?_) (fun z=>?_) e
  ·have:=I.stkFree c z
   rw [hv] at this
   cases this
  ·rw [z,nx] at hv
   cases hv
  ·cases z
   rw [nT] at hv
   cases hv
def ExcAt (x:Addr)(C:Value)(d:Option Addr)(h:Heap):Prop:=∃ o,h.get? x=some o /\ o.cls=C /\ o.dict=d /\ ∃ vs,o.data = .fields vs
def Exc (x:Addr)(C:Value)(d:Option Addr):HO:=.ext (ExcAt x C d)
theorem inv_track {X:Cx}{pins:List (Addr × Obj)}{σ:St}{H:Hp}{s:Shared}{x T:Addr}{C:Value}{d:Option Addr}(I:Inv X pins σ H s)(tr:TrX s.heap x C d T)(ox:X.s₀.heap.get? x=none)(np:∀ p ∈ X.pn ++ pins,p.1 ≠ x)(nx:H x=none) :
  Inv X pins σ (upd H x (Exc x C d)) s:=by
 obtain ⟨oe,vs,oT',ts,he,hc,hdi,hd,_,_,hT,hdT,_⟩:=tr
 have nof:∀ b o,s.heap.get? b=some o -> (∀ vs,o.data ≠ .fields vs) -> b ≠ x:=fun b o e hnf z=>by rw [z,he] at e; cases e; exact hnf _ hd
 refine ⟨I.ok,I.os,I.bare,⟨I.base.keep,I.base.slot,fun b o e n hx'=>?_,I.base.there,fun b xs q=>?_,fun b o u q=>?_,fun b ps q=>?_⟩,I.loc,I.cell,?_,fun y c e=>?_,fun p hp=>?_,fun b u q=>?_,I.len⟩
 ·rw [upd_ne (fun z=>by rw [z,ox] at e; cases e)]; exact I.base.free b o e n hx'
 ·have:=I.base.tups b xs q
  rw [upd_ne (fun z=>by rw [z,nx] at this; cases this)]; exact this
 ·have:=I.base.frzs b o u q
  rw [upd_ne (fun z=>by rw [z,nx] at this; cases this)]; exact this
 ·obtain ⟨more,this⟩:=I.base.tbls b ps q
  exact ⟨more,by rw [upd_ne (fun z=>by rw [z,nx] at this; cases this)]; exact this⟩
 ·obtain ⟨m,⟨o,es,ep,ho,hdd,r⟩,hv⟩:=I.loc
  rw [upd_ne (nof _ o ho fun vs z=>by rw [hdd] at z; cases z)]
  exact I.free
 ·obtain ⟨v,o,ho,hdd⟩:=I.cell y c e
  rw [upd_ne (nof _ o ho fun vs z=>by rw [hdd] at z; cases z)]
  exact I.freeC y c e
 ·obtain ⟨e,n,ne,nf,dd⟩:=I.pin p hp
  exact ⟨e,by rw [upd_ne (np p hp)]; exact n,ne,nf,dd⟩
 ·by_cases z:b=x
  ·subst z
   rw [zL] at q
   cases q
   exact ⟨⟨oe,he,hc,hdi,vs,hd⟩,⟨oe,he⟩,fun h1 h2 ⟨o,e1,e2⟩ k=>⟨o,k o e1,e2⟩⟩
  ·rw [upd_ne z] at q
   refine (I.hok b u q).stay (fun c v _ e=>e) (fun c q'=>?_) fun c xs q'=>?_
   ·rw [upd_ne (fun z=>by rw [z,nx] at q'; cases q')]; exact q'
   ·rw [upd_ne (fun z=>by rw [z,nx] at q'; cases q')]; exact q'
theorem flight_ok {M:Model}{A:Around}{E:Value -> Shared -> Prop}{s:Shared}{Q:Unit -> Shared -> Prop}{x T:Addr}{C:Value}{d:Option Addr}(tr:TrX s.heap x C d T)
  (h:∀ h',(∀ b,b ≠ T -> h'.get? b=s.heap.get? b) -> TrX h' x C d T -> Q () { s with heap:=h' }):wpAny M A (setFlight (.ref x) none) Q E s:=by
 obtain ⟨oe,vs,oT,ts,he,hc,hdi,hd,h1,hTe,hT,hdT,h3⟩:=tr
 unfold setFlight
 refine wpAny_bind (wpAny_field he hd h1 ?_)
 rw [if_pos (show (Value.ref T != Value.none)=true from by simp)]
 refine wpAny_setField hT hdT (yy.mp h3).1 (h _ (fun b hb=>Heap.get?_update_other _ _ (Ne.symm hb)) ?_)
 refine ⟨oe,vs,_,_,(Heap.get?_update_other _ _ hTe).trans he,hc,hdi,hd,h1,hTe,Heap.get?_update_self _ hT (Obj.isFreed_of_fields (Obj.data_mapFields hdT _)),Obj.data_mapFields hdT _,?_⟩
 have:=(yy.mp h3).1
 simp [this]
def susp (X:Cx)(e:Addr):Cx:={ X with A:=X.A.mark (some (.ref e)),calm:=false,xe:=fun _ _=>False }
theorem Inv.susp {X:Cx}{pins:List (Addr × Obj)}{σ:St}{H:Hp}{s:Shared}(I:Inv X pins σ H s)(e:Addr):Inv (susp X e) pins σ H s :=
 have ok:=I.ok
 ⟨⟨ok.mod,ok.kind,ok.glob,ok.blt,ok.above,ok.inj,ok.has,ok.cab,(fun z=>by cases z),ok.frames,ok.stk,ok.exf,ok.bs,ok.bsz,ok.noex,ok.exfs,ok.funs,ok.frf⟩,I.os,I.bare,I.base,I.loc,I.cell,I.free,I.freeC,I.pin,I.hok,I.len⟩
theorem Inv.unsusp {X:Cx}{pins:List (Addr × Obj)}{σ:St}{H:Hp}{s:Shared}{e:Addr}(ok:X.Ok)(I:Inv (L2.susp X e) pins σ H s):Inv X pins σ H s :=
 ⟨ok,I.os,I.bare,I.base,I.loc,I.cell,I.free,I.freeC,I.pin,I.hok,I.len⟩
theorem JV {X:Cx}{pins:List (Addr × Obj)}{σ:St}{H:Hp}{s:Shared}{M:Model}{A:Around}{E:Value -> Shared -> Prop}{i:Nat}{n:Str}{pos:Pos}{Q:Unit -> Shared -> Prop}(I:Inv X pins σ H s)(hN:X.N.Nodup)(hi:X.N[i]? = some n)(hl:X.env.kindOf n=some .local)
  (hloc:X.env.scope.names.lookup n=some .local) (h:∀ s',Inv X pins (σ.set i none) H s' -> Q () s'):wpAny M A (do bindName X.env n .none; unbindBehindTheSuite X.env n pos) Q E s:=by
 refine wpAny_bind (wpAny_bindName (JD I hN hi (.inl hloc) (v:=.non) (u:=.none) rfl (fun s1 I1=>?_) (.inr hloc)))
 obtain ⟨m,hn,hv⟩:=I1.loc
 have hil:i < σ.length:=by
  rw [I.len]
  exact (qB.mp hi).1
 obtain ⟨u,ru,lk⟩:=hv i n .non hi (by rw [List.getElem?_set_self hil]) (.inl hloc)
 have hm:∃ u,m n=some u:=by
  rcases lk with ⟨_,z⟩ | ⟨z,_⟩
  ·exact ⟨_,z⟩
  ·rw [hl] at z
   rcases z with z | z <;> cases z
 obtain ⟨u,hm⟩:=hm
 unfold unbindBehindTheSuite
 refine wpAny_onRaise ?_
 refine wpAny_unbindName_local hl hn hm (by rw [I.ok.kind]; rfl) fun h' u' hn' hs=>h _ ?_
 have hL:=hn
 obtain ⟨oL,esL,epL,hoL,hdL,_⟩:=hL
 obtain ⟨oL',esL',epL',hoL',hdL',_⟩:=id hn'
 have neL:∀ b o,X.s₀.heap.get? b=some o -> b ≠ X.env.locals:=fun b o e=>zN (qJ (Heap.lt_size e) I.ok.above)
 have cellK:∀ c v,s1.heap.IsCell c v -> h'.IsCell c v:=fun c v ⟨o,ho,hdd⟩=>by
  refine ⟨o,(hs.2 c fun z=>?_).trans ho,hdd⟩
  rw [z,hoL] at ho
  cases ho
  rw [hdL] at hdd
  cases hdd
 refine ⟨I1.ok,I1.os,I1.bare,⟨fun b o e n hb hx'=>(hs.2 b (neL b o e)).trans (I1.base.keep b o e n hb hx'),fun b o e n hb hx'=>?_,fun b o e n hx'=>I1.base.free b o e n hx',fun b o e hx'=>?_,I1.base.tups,I1.base.frzs,I1.base.tbls⟩,⟨_,hn',fun j y v h1 h2 h3=>?_⟩,fun y c e=>?_,I1.free,I1.freeC,fun p hp=>?_,fun b u q=>?_,?_⟩
 ·obtain ⟨sl,e1⟩:=I1.base.slot b o e n hb hx'
  exact ⟨sl,(hs.2 b (neL b o e)).trans e1⟩
 ·obtain ⟨o',e1⟩:=I1.base.there b o e hx'
  exact ⟨o',(hs.2 b (neL b o e)).trans e1⟩
 ·have hji:j ≠ i:=fun z=>by
   subst z
   rw [List.getElem?_set_self hil] at h2
   cases h2
  have hyn:y ≠ n:=fun z=>by
   subst z
   obtain ⟨a1,a2⟩:=qB.mp h1
   obtain ⟨b1,b2⟩:=qB.mp hi
   exact hji ((List.getElem_inj hN).mp (a2.trans b2.symm))
  rw [List.getElem?_set_ne (Ne.symm hji)] at h2
  obtain ⟨u2,ru2,lk2⟩:=hv j y v h1 (by rw [List.getElem?_set_ne (Ne.symm hji)]; exact h2) h3
  refine ⟨u2,ru2,?_⟩
  rcases lk2 with ⟨z1,z2⟩ | ⟨z,c,e1,e2⟩
  ·exact .inl ⟨z1,by show (if y=n then u' else m y)=_; rw [if_neg hyn]; exact z2⟩
  ·exact .inr ⟨z,c,e1,cellK c _ e2⟩
 ·obtain ⟨v,hv⟩:=I1.cell y c e
  exact ⟨v,cellK c v hv⟩
 ·obtain ⟨e,n,ne,nf,dd⟩:=I1.pin p hp
  exact ⟨(hs.2 _ ne).trans e,n,ne,nf,dd⟩
 ·refine (I1.hok b u q).stay (fun c v hc e=>?_) (fun _ z=>z) fun _ _ z=>z
  have tc:∃ v,H c=some v:=by
   rcases hc with z | z
   ·rw [z]; exact ⟨_,q⟩
   ·exact ⟨_,z⟩
  obtain ⟨v',hv'⟩:=tc
  refine (hs.2 c fun z=>?_).trans e
  rw [z,I1.free] at hv'
  cases hv'
 ·rw [List.length_set]; exact I.len
end L2
namespace L2
open PySem PySem.Spec PyProof.Rows
abbrev TSX:=Ends -> XK -> St -> Hp -> Prop
def PSx (X:Cx)(st:List Stmt)(t:TSX):Prop :=
 ∀ (pins:List (Addr × Obj)) (s:Shared) (σ:St) (H:Hp) (D:Ends) (E:XK),Inv X pins σ H s -> t D E σ H -> wpAny (model X.prog X.w) X.A (execs st X.env) (SP X pins D) (XP X pins σ E) s
def subIn (K:zA)(c B:Addr):Bool:=match K.lookup c with
 | some ⟨_,_,.cls cd,_⟩=>cd.mro.contains (.ref B)
 | _=>false
theorem sub_of {K:zA}{h:Heap}{c B:Addr}{nm q:Str}{N:Addr}{bs bm:List Value}{hdct:Bool}{sn:List Str}{sub:List Value}{ab:Bool}{col:Option Bool}{dd:Option Addr}{k0 k1 k2 k3 k5:Option Value}{newId:String}
  (X:K.In h) (hC:h.get? c=some (excClassObj nm q c N bs bm hdct sn sub ab col dd k0 k1 k2 k3 k5 newId)) (e:subIn K c B=true):(Value.ref c :: bm).contains (.ref B)=true:=by
 unfold subIn at e
 split at e
 ·rename_i ho
  have:=X _ _ ho
  rw [hC] at this
  cases this
  exact e
 ·cases e
def hEnds (D:Ends)(i:Nat):Ends:={ nx:=fun σ H=>D.nx (σ.set i none) H,rt:=D.rt,bk:=fun σ H=>D.bk (σ.set i none) H,ct:=fun σ H=>D.ct (σ.set i none) H }
end L2
namespace L2
open PySem PySem.Spec PyProof.Rows
section
variable {prog:Program}{w:World}{A:Around}{E:Value -> Shared -> Prop}{s:Shared}{K:zA}{x D:Addr}{o:Obj}
end
def excK (K:zA)(D:Addr):Bool:=yN K (.ref D) "__getattribute__" == some (some (.builtin "BaseException.__getattribute__")) && yN K (.ref D) "__getattr__" == some none && (PySem.W.clsIn K D).isSome &&
 yN K (.ref D) "__class__" == some (some (.builtin "object.__class__")) && PySem.W.mroIn K D (.type "object") == some true && PySem.W.subIn K (.ref D) (.type "BaseException") == some true
end L2
namespace L2
open PySem PySem.Spec PyProof.Rows
theorem PS.nox {X:Cx}{st:Stmt}{t:TS}(h:PS X.nox st t):PS X st t:=fun pins s σ H D I hw =>
 wpAny_mono (h pins s σ H D (I.wish _) hw) (fun _ _ q=>q.unwish) fun _ _ z=>False.elim z
end L2
namespace L2
open PySem PySem.Spec
end L2
namespace L2
open PySem PySem.Spec
end L2
namespace L2
open PySem PySem.Spec
end L2
namespace L2
open PySem PySem.Spec
end L2
namespace L2
open PySem PySem.Spec
end L2
namespace L2
open PySem PySem.Spec PyProof PyProof.Rows
section
variable {P:Program}{w:World}{A:Around}{E:Value -> Shared -> Prop}{s:Shared}
end
section
variable {X:Cx}
end
end L2
namespace L2
open PySem PySem.Spec
section
variable {K:zA}{σ:St}{H:Hp}{D:Ends}{g:TG}{tb:TS}{a b:Addr}
end
section
variable {K:zA}{σ:St}{H:Hp}{Q:VK}{cs:List Nat}{te:TE}
end
end L2
namespace L2
open PySem PySem.Spec
section
variable {g:Int -> Int -> Int -> Int -> Int}{z:Int}
end
section
variable {g:Int -> Int -> Int -> Int -> Int}{z:Int}
end
end L2
namespace L2
open PySem PySem.Spec
end L2
namespace L2
open PySem PySem.Spec
section
variable {K:zA}{σ:St}{H:Hp}{Q:VK}{cs:List Nat}{te:TE}
end
end L2
namespace L2
open PySem PySem.Spec PyProof.Rows
section
variable {prog:Program}{w:World}{A:Around}{E:Value -> Shared -> Prop}{s:Shared}
end
section
variable {prog:Program}{w:World}{A:Around}{E:Value -> Shared -> Prop}{s:Shared}
end
section
variable {K:zA}{σ:St}{H:Hp}{D:Ends}{g:TG}{tb:TS}{a b c:Addr}
end
end L2
namespace L2
open PySem PySem.Spec
end L2
namespace L2
open PySem PySem.Spec PyProof PyProof.Rows
section
variable {prog:Program}{w:World}{A:Around}{E:Value -> Shared -> Prop}{s:Shared}
end
section
variable {prog:Program}{w:World}{A:Around}{E:Value -> Shared -> Prop}{s:Shared}
end
section
variable {K:zA}{σ:St}{H:Hp}{Q:VK}{cs:List Nat}{te:TE}
end
section
variable {X:Cx}
end
end L2
namespace L2
open PySem PySem.Spec
def Lies (w x:Int):Prop:=-(2 ^ (w - 1).toNat) <= x /\ x < 2 ^ (w - 1).toNat
instance (w x:Int):Decidable (Lies w x):=by unfold Lies; infer_instance
end L2
namespace L2
open PySem PySem.Spec
end L2
namespace L2
open PySem PySem.Spec
end L2
namespace L2
open PySem PySem.Spec
theorem zY {t u:TS}{D:Ends}{σ:St}{H:Hp}(h:∀ R:TS,R=u -> tSeq t R D σ H):tSeq t u D σ H:=h u rfl
theorem seq_inG {g:TG}{x:V}{t u:TS}{D:Ends}{σ:St}{H:Hp}(h:∀ R:TS,R=u -> g x σ H fun σ2 H2=>tSeq t R D σ2 H2):g x σ H fun σ2 H2=>tSeq t u D σ2 H2:=h u rfl
theorem zT {R u:TS}{D:Ends}{σ:St}{H:Hp}(e:R=u)(h:u D σ H):R D σ H:=by rw [e]; exact h
end L2
namespace L2
open PySem PySem.Spec
section
variable {K:zA}{σ:St}{H:Hp}{Q:VK}{cs:List Nat}{te:TE}
end
end L2
namespace L2
open PySem PySem.Spec
section
variable {K:zA}{σ:St}{H:Hp}{Q:VK}{cs:List Nat}{te:TE}
end
end L2
namespace L2
open PySem PySem.Spec PyProof.Rows
theorem sqT_chg {K:zA}{H H':Hp}{l p:Addr}{xs ys:List V}(h:SqT K H p xs)(hl:H l=some (.lst ys))(C:Chg l H H'):SqT K H' p xs:=by
 rcases h with (h | ⟨o,h⟩) | h
 ·exact .inl (.inl (C _ _ (Jh h hl (by intro z; cases z)) h))
 ·exact .inl (.inr ⟨o,C _ _ (Jh h hl (by intro z; cases z)) h⟩)
 ·exact .inr h
end L2
namespace L2
open PySem PySem.Spec PyProof.Rows
section
variable {H H':Hp}{x dl gl:Addr}{ins:Nat}{us:List V}{ds:List Wd}{os:List V}{gs:List Go}
end
section
variable {α:Type}{f:α -> List V}{H0 H H':Hp}{p dl:Addr}{us:List V}{ds:List α}
end
section
variable {H:Hp}{w:Str}{a b d1 g1 d2 g2:Addr}{i1 i2:Nat}{u1 u2:List V}{s1 s2:List Wd}{o1 o2:List V}{t1 t2:List Go}{Q:VK}{E:XK}
end
end L2
namespace L2
open PySem PySem.Spec PyProof.Rows
section
variable {I ins l m:Nat}{f:Nat -> Nat}{ds0 ds:List Wd}{gs0 gs:List Go}
end
end L2
namespace L2
open PySem PySem.Spec PyProof.Rows
structure HKs {α:Type} (K:zA) (f:α -> List V) (H:Hp) (vs:List V) (xs:List α):Prop where
 len:vs.length=xs.length
 at_:∀ (k:Nat) (x:α),xs[k]? = some x -> ∃ p:Addr,vs[k]? = some (.ref p) /\ SqT K H p (f x)
section
variable {α:Type}{K:zA}{f:α -> List V}{H H':Hp}{vs us:List V}{xs:List α}{l:Addr}
theorem HTs.hk (h:HTs f H vs xs):HKs K f H vs xs:=⟨h.len,fun k x e=>by
 obtain ⟨p,e1,e2⟩:=h.at_ k x e
 exact ⟨p,e1,SqT.of e2⟩⟩
theorem HKs.same (h:HKs K f H vs xs)(s:Same H H'):HKs K f H' vs xs:=⟨h.len,fun k d e=>by
 obtain ⟨x,e1,e2⟩:=h.at_ k d e
 exact ⟨x,e1,s.seqT e2⟩⟩
theorem HKs.chgL (h:HKs K f H vs xs)(hl:H l=some (.lst us))(c:Chg l H H'):HKs K f H' vs xs:=⟨h.len,fun k d e=>by
 obtain ⟨x,e1,e2⟩:=h.at_ k d e
 exact ⟨x,e1,sqT_chg e2 hl c⟩⟩
theorem HKs.snoc {x:α}{p:Addr}(h:HKs K f H vs xs)(hx:SqT K H p (f x)):HKs K f H (vs ++ [.ref p]) (xs ++ [x]):=by
 refine ⟨by simp [h.len],fun k e he=>?_⟩
 rcases get_snoc he with ⟨hk,z⟩ | ⟨hk,rfl⟩
 ·obtain ⟨y,e1,e2⟩:=h.at_ k e z
  exact ⟨y,by rw [qH (by rw [h.len]; exact hk)]; exact e1,e2⟩
 ·refine ⟨p,?_,hx⟩
  rw [qG (by rw [h.len]; omega),h.len,hk,Nat.sub_self]
  rfl
end
structure WbK (K:zA) (H:Hp) (w dl gl:Addr) (ins:Nat) (us:List V) (ds:List Wd) (os:List V) (gs:List Go):Prop where
 tup:H w=some (.tup [.int ins,.ref dl,.ref gl])
 dll:H dl=some (.lst us)
 hds:HTs xM H us ds
 gll:H gl=some (.lst os)
 hgs:HKs K gTp H os gs
theorem Wb.wk {K:zA}{H:Hp}{w dl gl:Addr}{ins:Nat}{us:List V}{ds:List Wd}{os:List V}{gs:List Go}(h:Wb H w dl gl ins us ds os gs):WbK K H w dl gl ins us ds os gs:=⟨h.tup,h.dll,h.hds,h.gll,h.hgs.hk⟩
theorem WbK.same {K:zA}{H H':Hp}{w dl gl:Addr}{ins:Nat}{us:List V}{ds:List Wd}{os:List V}{gs:List Go}(h:WbK K H w dl gl ins us ds os gs)(s:Same H H'):WbK K H' w dl gl ins us ds os gs :=
 ⟨s _ _ h.tup,s _ _ h.dll,h.hds.same s,s _ _ h.gll,h.hgs.same s⟩
def sT (n:Nat):List V:=[.int n,.int 0,.int 1]
end L2
namespace L2
open PySem PySem.Spec PyProof.Rows
theorem vals_mem:∀ {xs:List V} {us:List Value},Vals xs us -> ∀ u ∈ us,∃ x ∈ xs,RelV x u
 | _,_,.nil,u,h=>by cases h
 | y :: xs,v :: us,.cons r t,u,h=>by
  rcases zI.mp h with rfl | h
  ·exact ⟨y,zK,r⟩
  ·obtain ⟨x,hx,e⟩:=vals_mem t u h
   exact ⟨x,zO _ hx,e⟩
section
variable {X:Cx}
end
section
variable {K:zA}{σ:St}{H:Hp}{Q:VK}{cs:List Nat}{te:TE}
end
end L2
namespace L2
open PySem PySem.Spec PyProof.Rows
theorem hks_isL {α:Type}{f:α -> List V}{K:zA}{H:Hp}(hf:∀ a,(f a).all yw=true):∀ {xs:List α} {vs:List V},HKs K f H vs xs -> IsL K H vs (xs.map fun a=>.t ((f a).map Dt.f))
 | [],vs,h=>by
  have:vs=[]:=yG h.len
  subst this
  rw [yo,IsL]
 | a :: r,vs,h=>by
  obtain ⟨p,h1,h2⟩:=h.at_ 0 a rfl
  cases vs with
  | nil=>cases h1
  | cons v vs =>
   cases h1
   rw [zU,IsL]
   refine ⟨_,_,rfl,is_tup h2 (hf a),hks_isL hf ⟨by have:=h.len; simpa using this,fun k x hx=>?_⟩⟩
   exact h.at_ (k+1) x hx
theorem WbK.is {K:zA}{H:Hp}{w dl gl:Addr}{ins:Nat}{us:List V}{ds:List Wd}{os:List V}{gs:List Go}(h:WbK K H w dl gl ins us ds os gs):Is K H (.ref w) (webDt ins ds gs):=by
 unfold webDt
 rw [Is]
 refine ⟨w,_,rfl,SqT.of h.tup,?_⟩
 rw [IsL]
 refine ⟨_,_,rfl,by rw [Is]; exact ⟨rfl,rfl⟩,?_⟩
 rw [IsL]
 refine ⟨_,_,rfl,?_,?_⟩
 ·rw [Is]
  exact ⟨dl,us,rfl,SqL.of h.dll,hts_isL (fun _=>rfl) h.hds⟩
 ·rw [IsL]
  refine ⟨_,_,rfl,?_,by rw [IsL]⟩
  rw [Is]
  exact ⟨gl,os,rfl,SqL.of h.gll,hks_isL (fun _=>rfl) h.hgs⟩
theorem ne_webK {K:zA}{H:Hp}{w dl gl w' dl' gl':Addr}{ins:Nat}{us us':List V}{ds:List Wd}{os os':List V}{gs:List Go}{Q:VK}(h:WbK K H w dl gl ins us ds os gs)(h':WbK K H w' dl' gl' ins us' ds os' gs)(q:Q (.bl false) H):rNeD K (.ref w) (.ref w') H Q :=
 ⟨w,_,_,rfl,h.is,h'.is,dep_web _ _ _,by rw [J4 _ (h.is (K:=K))]; exact q⟩
section
variable {c:Bool}{i1 i2:Nat}{s1 s2:List Wd}{t1 t2:List Go}
end
section
variable {K:zA}{σ:St}{H:Hp}{Q:VK}{cs:List Nat}{te:TE}
end
end L2
namespace L2
open PySem PySem.Spec PyProof.Rows
end L2
namespace L2
open PySem PySem.Spec PyProof.Rows
section
variable {prog:Program}{w:World}{A:Around}{E:Value -> Shared -> Prop}{s:Shared}
end
end L2
namespace L2
open PySem PySem.Spec PyProof.Rows
section
variable {prog:Program}{w:World}{A:Around}{E:Value -> Shared -> Prop}{s:Shared}
end
section
variable {prog:Program}{w:World}{A:Around}{R:Result -> Shared -> Prop}{I:Addr}{fp wr:List Addr}{G:Array GenState -> Array GenState -> Prop}{P:Nat -> Value -> Prop}{St:Nat -> Shared -> Prop}
end
section
variable {prog:Program}{w:World}{A:Around}{E:Value -> Shared -> Prop}{s:Shared}
end
end L2
namespace L2
open PySem PySem.Spec PyProof.Rows
section
variable {prog:Program}{w:World}{A:Around}{E:Value -> Shared -> Prop}{s:Shared}{it S:Addr}{f:Value}{i n ep:Nat}{es:Array (Int × Value)}{t:SetTable}
end
end L2
namespace L2
open PySem PySem.Spec PyProof.Rows
section
variable {prog:Program}{w:World}{A:Around}{E:Value -> Shared -> Prop}{s:Shared}{S:Addr}{i ep:Nat}{es:Array (Int × Value)}{t:SetTable}{ks:List Int}
end
end L2
namespace L2
open PySem PySem.Spec PyProof.Rows
section
variable {prog:Program}{w:World}{A:Around}{E:Value -> Shared -> Prop}{s:Shared}{S it:Addr}{ep:Nat}{es:Array (Int × Value)}{t:SetTable}{ks:List Int}
end
end L2
namespace L2
open PySem PySem.Spec PyProof.Rows
section
variable {prog:Program}{w:World}{A:Around}{E:Value -> Shared -> Prop}{s:Shared}{T:String}{r:Addr}{C:Nat -> (Nat -> Value -> Prop) -> Prop}{OK:Heap -> Prop}
end
section
variable {X:Cx}
end
end L2
namespace L2
open PySem PySem.Spec PyProof.Rows
section
variable {X:Cx}
end
end L2
namespace L2
open PySem PySem.Spec PyProof.Rows
section
variable {X:Cx}
end
end L2
namespace L2
open PySem PySem.Spec PyProof.Rows
section
variable {ins:Nat}{ds:List Wd}
end
section
variable {ins:Nat}{ds:List Wd}{j lo:Nat}{far:List Int}
end
end L2
namespace L2
open PySem PySem.Spec PyProof.Rows
section
variable {K:zA}{σ:St}{H:Hp}{Q:VK}{cs:List Nat}{te:TE}
end
end L2
namespace L2
open PySem PySem.Spec PyProof.Rows
section
variable {K:zA}{σ:St}{H:Hp}{Q:VK}{cs:List Nat}{tt:TT}{te:TE}
end
end L2
namespace L2
open PySem PySem.Spec PyProof.Rows
def tFrz (te:TE):TE:=fun σ H Q=>te σ H fun x H1=>∃ d kvs,x = .ref d /\ H1 d=some (.dK kvs) /\ ∀ o,Q x (upd H1 d (.frz o (.dK kvs)))
theorem w_frz {te:TE}{σ:St}{H:Hp}{Q:VK}:tFrz te σ H Q=(te σ H fun x H1=>∃ d kvs,x = .ref d /\ H1 d=some (.dK kvs) /\ ∀ o,Q x (upd H1 d (.frz o (.dK kvs)))):=rfl
section
variable {X:Cx}
def ItD (d:Addr)(o:Obj)(kvs:List (Key × V)):It :=
 ⟨fun i H=>H d=some (.frz o (.dK kvs)) /\ i < kvs.length,fun i H x H'=>H'=H /\ (kvs.map fun q=>kV q.1)[i]? = some x,fun i H=>H d=some (.frz o (.dK kvs)) /\ kvs.length <= i⟩
def iDict (tl:TE):TI:=fun σ H R=>tl σ H fun x H1=>∃ d o kvs,x = .ref d /\ H1 d=some (.frz o (.dK kvs)) /\ R (ItD d o kvs) H1
end
end L2
namespace L2
open PySem PySem.Spec PyProof.Rows
def pm (some_:List Int)(h:Int):List Int:=some_.flatMap fun r=>[h+r,h - r]
end L2
namespace L2
open PySem PySem.Spec PyProof.Rows
section
variable {K:zA}{σ:St}{H:Hp}{Q:VK}{cs:List Nat}{te:TE}
end
end L2
namespace L2
open PySem PySem.Spec PyProof.Rows
def vRef:Value -> Bool
 | .ref _=>true
 | _=>false
def excOnly (l:List Value):Bool:=l.dropWhile vRef == [.type "ValueError",.type "Exception",.type "BaseException",.type "object"]
theorem exc_cases {l:List Value}(e:excOnly l=true):(∃ c r,l = .ref c :: r /\ excOnly r=true) \/ l=[.type "ValueError",.type "Exception",.type "BaseException",.type "object"]:=by
 cases l with
 | nil=>simp [excOnly] at e
 | cons a r =>
  by_cases h:vRef a=true
  ·refine .inl ?_
   cases a <;> first | (exact absurd (show false=true from h) zQ) | skip
   exact ⟨_,r,rfl,by unfold excOnly at e ⊢; rwa [List.dropWhile_cons_of_pos h] at e⟩
  ·unfold excOnly at e
   rw [List.dropWhile_cons_of_neg h] at e
   exact .inr (beq_iff_eq.mp e)
theorem exc_refuse (self:Value):∀ {l:List Value},excOnly l=true -> refuseLoop self "__setattr__" l=pure ():=by
 intro l
 induction l with
 | nil=>intro e; simp [excOnly] at e
 | cons a r ih =>
  intro e
  rcases exc_cases e with ⟨c,r',h1,h2⟩ | h
  ·cases h1
   rw [refuseLoop_ref]
   exact ih h2
  ·rw [h]
   exact PySem.F.store_ValueError.passes self
theorem exc_obj_in:∀ {l:List Value},excOnly l=true -> l.contains (.type "object")=true:=by
 intro l
 induction l with
 | nil=>intro e; simp [excOnly] at e
 | cons a r ih =>
  intro e
  rcases exc_cases e with ⟨c,r',h1,h2⟩ | h
  ·cases h1
   rw [List.contains_cons,ih h2,Bool.or_true]
  ·rw [h]
   rfl
section
variable {prog:Program}{w:World}{A:Around}{E:Value -> Shared -> Prop}{s:Shared}{K:zA}{x C dx:Addr}{ox:Obj}{name:Str}{v:Value}
def excOver (K:zA)(C:Addr):Bool:=(PySem.W.clsIn K C).any fun cd=>excOnly cd.mro
theorem osa_exc {od:Option Obj}{tk:Tok}{R:Result -> Shared -> Prop}(X:K.In s.heap)(I:PySem.W.InstAt s.heap x ox C od)(hp:excOver K C=true)(ht:PySem.W.takerIn K C name=some none)
  (h:∀ b,wpAny (model prog w) A.in1 (Builtin.ObjectAttr.storeInOwnDict (.ref x) (.ref C) (.str name tk) name v b)
   (fun fin s'=>match fin with | .done f=>R (.ok f) s' | .again c'=>c'.quiet=true /\ codeAny (model prog w) A c' R s') (fun e s'=>R (.error e) s') s) :
  codeAny (model prog w) A (.call (.builtin "object.__setattr__") ⟨[.ref x,.str name tk,v],[]⟩) R s:=by
 have SF:=PySem.F.store_object
 obtain ⟨cd,hc,ho⟩:=PySem.W.any_some hp
 have ne:cd.mro.isEmpty=false:=by cases q:cd.mro with | nil=>rw [q] at ho; cases ho | cons _ _=>rfl
 have sub:PySem.W.Looks (model prog w) s.heap (isInstance (.ref x) (.type "object")) true:=I.type.andThen (PySem.W.looks_mroIn X (by unfold PySem.W.mroIn; rw [hc,Option.bind_some,if_neg (by rw [ne]; decide),exc_obj_in ho]))
 refine codeAny_call_builtin SF.slot.plain SF.entry (@PySem.W.check_slot (model prog w) _ _ s "object.__setattr__" "object" "__setattr__" (.ref x) [.str name tk,v] [] _ SF.kind SF.split sub (SF.args (.ref x) (.str name tk) v) ?_)
 obtain ⟨attr,ha,hr⟩:=yK.mp ht
 have hm:PySem.W.Looks (model prog w) s.heap (mroOf (.ref C)) cd.mro:=(PySem.W.looks_clsIn X hc).andThen .now
 have L3:PySem.W.Looks (model prog w) s.heap (Builtin.ObjectAttr.storeTaker? attr) none:=by
  cases attr with
  | none=>cases hr; exact .now
  | some a =>
   obtain ⟨b,hb,hh⟩:=Option.map_eq_some_iff.mp hr
   refine (PySem.W.looks_takesIn X hb).andThen ?_
   cases b
   ·exact .now
   ·cases hh
 rw [PySem.W.osa_eq,refuse_eq]
 refine wpAny_bind (wpAny_bind (I.type.here (wpAny_bind (hm.here ?_))))
 rw [exc_refuse _ ho]
 refine wpAny_pure (wpAny_bind (I.type.here (wpAny_bind ((PySem.W.looks_findIn X ha).here (wpAny_bind (L3.here ?_))))))
 exact h _
theorem set_exc {Q:Unit -> Shared -> Prop} (X:K.In s.heap) (I:PySem.W.InstAt s.heap x ox C none) (hdn:ox.dict=none) (hs:yN K (.ref C) "__setattr__" = some (some (.builtin "object.__setattr__"))) (hp:excOver K C=true)
  (ht:PySem.W.takerIn K C name=some none) (hh:PySem.W.hasDictIn K C=true)
  (h:∀ h' tk,h'.get? x=some { ox with dict:=some s.heap.objs.size } -> h'.Ns1 s.heap.objs.size (fun y=>if y=name then some v else none) -> (∀ b o,b ≠ x -> s.heap.get? b=some o -> h'.get? b=some o) -> Q () { s with heap:=h',toks:=tk }) :
  wpAny (model prog w) A (setAttr (.ref x) name v) Q E s:=by
 refine PySem.W.set_plain X I hs (osa_exc (s:={ s with toks:=s.toks+1 }) X I hp ht fun b=>?_)
 obtain ⟨cd,hc,hd'⟩:=PySem.W.any_some hh
 have hx:=I.at_
 have hcls:=I.cls
 have hno:=I.no
 obtain ⟨hh',g,d,t,os⟩:=s
 obtain ⟨oc,odi,oda,osl⟩:=ox
 dsimp only at hdn hcls hx
 subst hdn hcls
 have hncl:∀ c,oda ≠ .cls c:=fun c z=>by subst z; cases hno
 refine wpAny_bind (wpAny_pure (wpAny_bind (wpAny_bind (wpAny_loadPart hx (wpAny_bind (PySem.W.Looks.here (s:=⟨hh',g,d,t+1,os⟩) (PySem.W.looks_clsIn X hc) ?_))))))
 rw [hd']
 have hxs:x ≠ hh'.objs.size:=zN (Heap.lt_size hx)
 have hx1:(hh'.push { cls:=.type "dict",data:=.dict #[] }).get? x=some { cls:=.ref C,dict:=none,data:=oda,slots:=osl }:=Heap.get?_push_of_some _ hx
 rw [if_neg (show ¬ (!true)=true by decide)]
 dsimp only
 rw [if_neg (by simp [typeHasDict])]
 split
 ·exact absurd rfl (hncl _)
 refine wpAny_bind (wpAny_alloc' ?_)
 refine wpAny_bind (wpAny_update' hx1 ?_)
 refine wpAny_pure ?_
 have hgd:((hh'.push { cls:=.type "dict",data:=.dict #[] }).update x fun o=>{ cls:=o.cls,dict:=some hh'.objs.size,data:=o.data,slots:=o.slots }).get? hh'.objs.size
   = some { cls:=.type "dict",data:=.dict #[] }:=(Heap.get?_update_ne _ _ _ _ hxs.symm).trans (Heap.get?_push_at rfl rfl)
 have hnd:((hh'.push { cls:=.type "dict",data:=.dict #[] }).update x fun o=>{ cls:=o.cls,dict:=some hh'.objs.size,data:=o.data,slots:=o.slots }).Ns hh'.objs.size (fun _=>none) :=
  ⟨_,#[],_,hgd,rfl,fun e he=>absurd he (by simp),fun _=>rfl⟩
 show wpAny _ _ (Builtin.ObjectAttr.storeInDict hh'.objs.size (.str name _) name v) _ _ _
 unfold Builtin.ObjectAttr.storeInDict Builtin.ObjectAttr.newKeyGuard
 refine wpAny_bind (wpAny_pure (wpAny_bind (wpAny_nsSet1 (Heap.Ns1.of_empty hnd) fun h' hn' hs'=>?_)))
 obtain ⟨oD,esD,epD,hoD,hdD,hcD⟩:=hn'.count (Within.cons name v Within.nil)
 refine wpAny_bind (wpAny_lookBehind hoD (by rw [hdD]; exact pastItsLine_dict (zD hcD (by rw [zP,jh,sizeLine_eq]; omega))) ?_)
 refine wpAny_pure (h h' _ ?_ hn' fun b o hb e=>?_)
 ·refine (hs'.2 x hxs).trans (Heap.get?_update_self _ hx1 ?_)
  have hfr:=(Heap.get?_some_iff.mp hx).2
  cases oda <;> first | rfl | exact hfr
 ·exact (hs'.2 b (zN (Heap.lt_size e))).trans ((Heap.get?_update_ne _ _ _ _ hb).trans (Heap.get?_push_of_some _ e))
theorem get_exc {expr:Bool} {Q:Value -> Shared -> Prop} {od:Option Obj} (X:K.In s.heap) (I:PySem.W.InstAt s.heap x ox C od) (hga:yN K (.ref C) "__getattribute__" = some (some (.builtin "BaseException.__getattribute__"))) (hgt:yN K (.ref C) "__getattr__" = some none)
  (hB:PySem.W.subIn K (.ref C) (.type "BaseException")=some true) (hf:PySem.W.findObj K C od name=some (.value v)) (hh:PySem.W.handedIn v=true) (h:Q v { s with toks:=s.toks+1 }):wpAny (model prog w) A (getAttr (.ref x) name expr) Q E s:=by
 obtain ⟨hh',g,d,t,os⟩:=s
 have L0:=I.type (M:=model prog w)
 have L1:=PySem.W.looks_findIn (M:=model prog w) X hga
 have L2:=PySem.W.looks_findIn (M:=model prog w) X hgt
 have LF:=PySem.W.looks_find (M:=model prog w) X I hf
 unfold getAttr getAttrBy
 refine wpAny_bind (wpAny_mkText (wpAny_holding (wpAny_bind (L0.at (wpAny_bind (L1.at ?_))))))
 show wpAny _ _ (getAttrByItsOwn _ _ _ _ _ _) _ _ _
 unfold getAttrByItsOwn hookBefore
 have hx0:(expr && onTheHeap (Value.builtin "BaseException.__getattribute__"))=false:=by cases expr <;> rfl
 have f3:=PySem.F.attr_ValueError.ga.bind (.ref x)
 simp only [hx0]
 repeat (any_goals (first | assumption | with_reducible refine L2.at ?_ | with_reducible refine L0.at ?_ | wp_step))
 have LB:=PySem.W.looks_subIn (M:=model prog w) X hB
 have hk:builtinKind "BaseException.__getattribute__" = some .slot:=by decide +kernel
 have hsplit:splitId "BaseException.__getattribute__" = some ("BaseException","__getattribute__"):=by decide +kernel
 have ha:=PySem.F.args_bexc_ga (.ref x) (Value.str name t)
 refine codeAny_call_builtin PySem.F.attr_ValueError.ga.plain PySem.F.entry_bexc_ga ?_
 show wpAny _ _ (checkBuiltinCall "BaseException.__getattribute__" ⟨[.ref x,Value.str name t],[]⟩) _ _ _
 simp only [checkBuiltinCall,hk,hsplit]
 refine wpAny_bind ?_
 unfold isInstance
 repeat (any_goals (first | assumption | with_reducible refine L0.at ?_ | with_reducible refine LB.at ?_ | with_reducible refine LF.at ?_ | wp_step))
 show wpAny _ _ (handedOut v) _ _ _
 rw [PySem.W.handedOut_of hh]
 exact wpAny_pure h
end
section
variable {prog:Program}{w:World}{A:Around}{E:Value -> Shared -> Prop}{h:Heap}{g:Array GenState}{d:Drawn}{t:Nat}{os:OsState}
variable {nm q:Str}{C N:Addr}{bs bm bmB:List Value}{hdct:Bool}{sn:List Str}{sub:List Value}{ab:Bool}{col:Option Bool}{dd:Option Addr}{k0 k1 k2 k3 k5:Option Value}{B newId initId:String}
def xT (C t:Addr)(d:Option Addr):Obj:={ cls:=.ref C,dict:=d,data:=.fields #[.ref t,.none,.none,.none,.bool false,.none] }
theorem zAq (F:ExcBaseFacts B newId initId bmB)(T:OwnTail h bmB bm){mN:Str -> Option Value}{rest:List Value}{fI:Addr}{oI:Obj}{Q:Fin -> Shared -> Prop}
  (hC:h.get? C=some (excClassObj nm q C N bs bm hdct sn sub ab col dd k0 k1 k2 k3 k5 newId)) (hn:h.Ns N mN) (hi:mN "__init__" = some (.ref fI)) (hfI:h.get? fI=some oI) (hfc:oI.cls = .type "function")
  (hq:wpAny (model prog w) A (call (.ref fI) (.ref (h.objs.size+1) :: rest)) (fun r s'=>r = .none /\ Q (.done (.ret (.ref (h.objs.size+1)))) s') E
   ⟨(h.push { cls:=.type "tuple",data:=.seq rest.toArray }).push (xT C h.objs.size none),g,d,t,os⟩) (hrest:rest.length <= sizeLine:=by size_fits) :
  wpAny (model prog w) A (Builtin.«type.__call__» ⟨.ref C :: rest,[]⟩) Q E ⟨h,g,d,t,os⟩:=by
 repeat (first | with_reducible refine wpAny_loadPart_at hC ?_ | with_reducible refine wpAny_madeBy_exc hC ?_ | wp_step)
 refine codeAny_call_builtin_code (Code.quiet_builtin _ F.quiet) (wpAny_check_new_subT F T hC ?_)
 refine codeAny_exc_new_subT F T hC ?_ hrest
 show wpAny _ _ _ _ _ _
 have keep:∀ b o,h.get? b=some o -> ((h.push { cls:=.type "tuple",data:=.seq rest.toArray }).push (xT C h.objs.size none)).get? b=some o:=fun b o e=>Heap.get?_push_of_some _ (Heap.get?_push_of_some _ e)
 have hC₁:=keep _ _ hC
 have hn₁:=hn.keeps keep
 have hfI₁:=keep _ _ hfI
 have T₁:=T.keeps keep
 have hget:((h.push { cls:=.type "tuple",data:=.seq rest.toArray }).push (xT C h.objs.size none)).get? (h.objs.size+1)=some (xT C h.objs.size none):=by
  unfold xT
  heap_get
 have hcC:(Value.ref C :: bm).contains (.ref C)=true:=by simp
 change wpAny _ _ _ _ _ ⟨(h.push { cls:=.type "tuple",data:=.seq rest.toArray }).push (xT C h.objs.size none),g,d,t,os⟩
 generalize ((h.push { cls:=.type "tuple",data:=.seq rest.toArray }).push (xT C h.objs.size none))=h1 at hC₁ hn₁ hfI₁ T₁ hget hq ⊢
 unfold isInstance
 have hcls:(xT C h.objs.size none).cls = .ref C:=rfl
 repeat (first | (with_reducible refine wpAny_loadPart_at hget ?_; rw [hcls]) | (with_reducible refine wpAny_isSubtype_exc hC₁ ?_; rw [hcC]) | wp_step)
 show wpAny _ _ (typeLookup (.ref C) _) _ _ _
 refine wpAny_typeLookup_tail hC₁ hn₁ T₁ F.mroIs F.init.lookup ?_
 rw [hi]
 refine wpAny_holding (wpAny_bind ?_)
 unfold bindSpecial
 refine wpAny_bind (wpAny_typeOf (T:="function") ⟨_,hfI₁,hfc⟩ ?_)
 rw [if_pos (by decide)]
 refine wpAny_pure (wpAny_bind (wpAny_mono hq (fun r s' hr=>?_) fun _ _ x=>x))
 obtain ⟨rfl,hQ⟩:=hr
 wp_walk
 exact hQ
theorem call_excI (F:ExcBaseFacts B newId initId bmB)(T:OwnTail h bmB bm){mN:Str -> Option Value}{rest:List Value}{fI:Addr}{oI:Obj}{Q:Value -> Shared -> Prop}
  (hC:h.get? C=some (excClassObj nm q C N bs bm hdct sn sub ab col dd k0 k1 k2 k3 k5 newId)) (hn:h.Ns N mN) (hi:mN "__init__" = some (.ref fI)) (hfI:h.get? fI=some oI) (hfc:oI.cls = .type "function")
  (hq:wpAny (model prog w) (A.under (.builtin "type.__call__" ⟨.ref C :: rest,[]⟩)) (call (.ref fI) (.ref (h.objs.size+1) :: rest)) (fun r s'=>r = .none /\ Q (.ref (h.objs.size+1)) s') E
   ⟨(h.push { cls:=.type "tuple",data:=.seq rest.toArray }).push (xT C h.objs.size none),g,d,t,os⟩) (hrest:rest.length <= sizeLine:=by size_fits) :
  wpAny (model prog w) A (call (.ref C) rest) Q E ⟨h,g,d,t,os⟩:=by
 have f1:=tc_lookup
 have f2:=tc_bind (.ref C)
 have hT:(⟨h,g,d,t,os⟩:Shared).TypeIs (.ref C) "type":=⟨_,hC,rfl⟩
 refine wpAny_call (codeAny_of_tree ?_)
 show wpAny _ _ (callAny (.ref C) _) _ _ _
 repeat (any_goals (first | assumption | with_reducible refine wpAny_loadPart_at hC ?_ | wp_step))
 refine ⟨rfl,?_⟩
 refine codeAny_call_builtin_at (Code.quiet_builtin _ (by decide +kernel)) entry_typeCall (wpAny_check_type_call_sub hC (zAq (hrest:=hrest) F T hC hn hi hfI hfc ?_))
 exact hq
end
end L2
namespace L2
open PySem PySem.Spec PyProof.Rows
def ExN (e C t:Addr)(d:Option Addr):HO:=.ext fun h=>h.get? e=some (xT C t d)
theorem ExN.ok {P:Program}{w:World}{H:Hp}{h:Heap}{e C t:Addr}{d:Option Addr}(g:h.get? e=some (xT C t d)):ObjOk P w H h e (ExN e C t d):=⟨g,⟨_,g⟩,fun h1 h2 q k=>k _ q⟩
def excF (o:Obj)(C:Addr)(newId:String):Bool:=o.cls == .type "type" && o.slots.size == 6 && o.slots[4]? == some (some (.builtin newId)) && (match o.data with | .cls cd=>cd.mro.head? == some (.ref C) && !cd.hasDel | _=>false)
def excI (K:zA)(C:Addr)(bmB:List Value)(newId:String)(fI:Addr):Bool:=match K.lookup C with
 | some o=>excF o C newId && (match o.data with | .cls cd=>PySem.W.tailIn K bmB cd.mro.tail && PySem.W.nsOkIn K cd.ns && zC K cd.ns "__init__" == some (some (.ref fI)) | _=>false)
 | none=>false
theorem ns_some_of {K:zA}{h:Heap}{N:Addr}{mg:Str -> Option Value}{n:Str}{v:Value}(X:K.In h)(G:h.Ns N mg)(e:zC K N n=some (some v)):mg n=some v:=by
 obtain ⟨o,es,ep,ho,hd,_,hf⟩:=G
 unfold zC at e
 split at e
 ·rename_i c d es' n' sl q
  have z:=(X _ _ q).symm.trans ho
  have z':=Option.some.inj z
  subst z'
  cases hd
  split at e
  ·rename_i en he
   cases e
   rw [← hf]
   unfold nsFind findBy
   rw [← Array.find?_toList,he]
   rfl
  ·split at e <;> cases e
 ·cases e
theorem J9 {K:zA}{h:Heap}{C:Addr}{bmB:List Value}{newId:String}{fI:Addr}(X:K.In h)(q:excI K C bmB newId fI=true) :
  ∃ bm N nm q bs hdct sn sub ab col dd k0 k1 k2 k3 k5 mN,h.get? C=some (excClassObj nm q C N bs bm hdct sn sub ab col dd k0 k1 k2 k3 k5 newId) /\ h.Ns N mN /\ mN "__init__" = some (.ref fI) /\ OwnTail h bmB bm:=by
 unfold excI at q
 split at q
 ·rename_i o ho
  obtain ⟨oc,od,dt,sl⟩:=o
  cases dt <;> first | (simp [excF] at q; done) | skip
  rename_i cd
  simp only [excF,zB,beq_iff_eq,xI] at q
  obtain ⟨⟨⟨⟨h1,h2⟩,h3⟩,h4,h5⟩,⟨h6,h7⟩,h8⟩:=q
  obtain ⟨nm,bs,mro,ns,qn,hd,sn,sub,ab,col,del⟩:=cd
  dsimp only at h1 h2 h3 h4 h5 h6 h7 h8
  subst h1 h5
  cases mro with
  | nil=>cases h4
  | cons m bm =>
   cases h4
   obtain ⟨l⟩:=sl
   match l,h2,h3 with
   | [k0,k1,k2,k3,k4,k5],_,h3 =>
    cases h3
    have hn:h.Ns ns _:=.of_isNs (PySem.W.isNs_of_in X h7)
    exact ⟨bm,ns,nm,qn,bs,hd,sn,sub,ab,col,od,k0,k1,k2,k3,k5,_,X _ _ ho,hn,ns_some_of X hn h8,PySem.W.tail_of_in X h6⟩
 ·cases q
def setX (K:zA)(C:Addr)(f:Str):Bool:=yN K (.ref C) "__setattr__" == some (some (.builtin "object.__setattr__")) && excOver K C && PySem.W.takerIn K C f == some none && PySem.W.hasDictIn K C && yN K (.ref C) f == some none
def delH (H:Hp)(x:Addr):Hp:=fun b=>if b=x then none else H b
theorem zAY {H:Hp}{x:Addr}:delH H x x=none:=by unfold delH; rw [if_pos rfl]
theorem zAA {H:Hp}{x b:Addr}(h:b ≠ x):delH H x b=H b:=by unfold delH; rw [if_neg h]
section
variable {X:Cx}{pins:List (Addr × Obj)}{σ:St}{H:Hp}{s:Shared}{x C t:Addr}{f:Str}
theorem Inv.untrack {φ:Heap -> Prop}(I:Inv X pins σ H s)(hx:H x=some (.ext φ)):Inv X pins σ (delH H x) s:=by
 have ne:∀ b o,H b=some o -> (∀ ψ,o ≠ .ext ψ) -> delH H x b=some o:=fun b o e n=>by
  rw [zAA (fun z=>by rw [z,hx] at e; cases e; exact n _ rfl)]
  exact e
 have fr:∀ b,H b=none -> delH H x b=none:=fun b e=>by
  by_cases z:b=x
  ·rw [z]; exact zAY
  ·rw [zAA z]; exact e
 refine ⟨I.ok,I.os,I.bare,⟨I.base.keep,I.base.slot,fun b o e n hb=>fr b (I.base.free b o e n hb),I.base.there,fun b xs e=>ne b _ (I.base.tups b xs e) (fun ψ z=>by cases z),fun b o u e=>ne b _ (I.base.frzs b o u e) (fun ψ z=>by cases z),fun b ps e=>?_⟩,I.loc,I.cell,fr _ I.free,fun y c e=>fr _ (I.freeC y c e),fun p hp=>?_,fun b u e=>?_,I.len⟩
 ·obtain ⟨more,h⟩:=I.base.tbls b ps e
  exact ⟨more,ne b _ h (fun ψ z=>by cases z)⟩
 ·obtain ⟨h1,h2,h3⟩:=I.pin p hp
  exact ⟨h1,fr _ h2,h3⟩
 ·by_cases z:b=x
  ·rw [z,zAY] at e
   cases e
  ·rw [zAA z] at e
   exact (I.hok b u e).stay (fun c v _ q=>q) (fun c q=>ne c _ q (fun ψ z=>by cases z)) fun c xs q=>ne c _ q (fun ψ z=>by cases z)
theorem Inv.exSet {h':Heap}{t':Nat}{y:V}{u:Value}(I:Inv X pins σ H s)(hx:H x=some (ExN x C t none))(g:h'.get? x=some (xT C t (some s.heap.objs.size)))(hn:h'.Ns1 s.heap.objs.size (fun z=>if z=f then some u else none))(ry:RelV y u)
  (k:∀ b o,b ≠ x -> s.heap.get? b=some o -> h'.get? b=some o):Inv X pins σ (upd (upd H x (ExN x C t (some s.heap.objs.size))) s.heap.objs.size (.xd [(f,y)])) { s with heap:=h',toks:=t' }:=by
 have dn:H s.heap.objs.size=none:=I.hok.fresh (zG _)
 have xd:x ≠ s.heap.objs.size:=fun z=>by rw [z,dn] at hx; cases hx
 have ne:∀ b o,H b=some o -> (∀ ψ,o ≠ .ext ψ) -> upd (upd H x (ExN x C t (some s.heap.objs.size))) s.heap.objs.size (.xd [(f,y)]) b=some o:=fun b o e n=>by
  rw [upd_ne (fun z=>by rw [z,dn] at e; cases e),upd_ne (fun z=>by rw [z,hx] at e; cases e; exact n _ rfl)]
  exact e
 have nx:∀ b o,H b=some o -> (∀ ψ,o ≠ .ext ψ) -> b ≠ x:=fun b o e n z=>by rw [z,hx] at e; cases e; exact n _ rfl
 refine I.un ⟨fun b o e n hb _=>k b o (fun z=>by rw [z,hx] at n; cases n) e,fun b o e n hb _=>⟨o.slots,k b o (fun z=>by rw [z,hx] at n; cases n) e⟩,fun b o e n _=>?_,fun b o e _=>?_,fun b xs e=>ne b _ e (fun ψ z=>by cases z),fun b o u e=>ne b _ e (fun ψ z=>by cases z),fun b ps e=>⟨#[],by rw [Array.append_empty]; exact ne b _ e (fun ψ z=>by cases z)⟩⟩ (fun b o e=>?_)
 ·rw [upd_ne (zN (Heap.lt_size e)),upd_ne (fun z=>by rw [z,hx] at n; cases n)]
  exact n
 ·by_cases z:b=x
  ·rw [z]; exact ⟨_,g⟩
  ·exact ⟨o,k b o z e⟩
 ·by_cases z:b=s.heap.objs.size
  ·subst z
   rw [zL] at e
   cases e
   refine ⟨_,hn,fun q=>?_⟩
   show RelO (List.lookup q [(f,y)]) (if q=f then some u else none)
   rw [xc]
   by_cases hq:q=f
   ·rw [if_pos hq,beq_iff_eq.mpr hq]; exact ry
   ·rw [if_neg hq,beq_eq_false_iff_ne.mpr hq]; trivial
  ·rw [upd_ne z] at e
   by_cases z2:b=x
   ·subst z2
    rw [zL] at e
    cases e
    exact ExN.ok g
   ·rw [upd_ne z2] at e
    refine (I.hok b o e).stay (fun c v hc q=>k c v ?_ q) (fun c q=>ne c _ q (fun ψ z=>by cases z)) fun c xs q=>ne c _ q (fun ψ z=>by cases z)
    rcases hc with rfl | hc
    ·exact z2
    ·exact nx c _ hc (fun ψ z=>by cases z)
end
def sFldX (K:zA)(ta tv:TE)(f:Str):TS:=fun D σ H=>tv σ H fun y H1=>ta σ H1 fun x H2=>∃ a C t,x = .ref a /\ H2 a=some (ExN a C t none) /\ setX K C f=true /\ ∀ d,H2 d=none -> D.nx σ (upd (upd H2 a (ExN a C t (some d))) d (.xd [(f,y)]))
theorem ps_fldX {X:Cx}{o value:Expr}{f:Str}{pos pos':Pos}{ta tv:TE}(ha:PE X o ta)(hv:PE X value tv)(hs:swapsWith value (some (.Attribute o f pos')) pos.line X.env=pure false:=by rfl):PS X (.Assign [.Attribute o f pos'] value pos) (sFldX X.K ta tv f):=by
 intro pins s σ H D I h
 refine plainObj_wpAny_Assign_Attribute (thn (hv pins s σ H _ I h) fun u s1 ⟨y,H1,I1,ry,q⟩=>thn (ha pins s1 σ H1 _ I1 q) fun ov s2 ⟨x,H2,I2,rx,a,C,t,ex,ea,hk,q2⟩=>?_) hs
 subst ex
 obtain rfl:ov=Value.ref a:=rx
 unfold setX at hk
 simp only [zB,beq_iff_eq] at hk
 obtain ⟨⟨⟨⟨k1,k2⟩,k3⟩,k4⟩,k5⟩:=hk
 have g:s2.heap.get? a=some (xT C t none):=(I2.hok a _ ea).1
 refine set_exc (ox:=xT C t none) I2.kIn ⟨g,rfl,rfl,trivial⟩ rfl k1 k2 k3 k4 fun h' tk g' n' k'=>?_
 exact ⟨σ,_,I2.exSet ea g' n' ry k',q2 _ (I2.hok.fresh (zG _))⟩
def spXI (C:Addr)(f:Str):Sp:=fun vs H Q _=>∃ x t y,vs=[.ref x,y] /\ H x=some (ExN x C t none) /\ ∀ d,H d=none -> Q .non (upd (upd H x (ExN x C t (some d))) d (.xd [(f,y)]))
end L2
namespace L2
open PySem PySem.Spec PyProof.Rows
section
variable {M:Model}{A:Around}{E:Value -> Shared -> Prop}{env:Env}
variable {nm q:Str}{C N:Addr}{bs bm:List Value}{hdct:Bool}{sn:List Str}{sub:List Value}{ab:Bool}{col:Option Bool}{dd:Option Addr}{k0 k1 k2 k3 k5:Option Value}{newId:String}
theorem raise_exc {s:Shared} {x:Sem Value} {Q:Flow -> Shared -> Prop} (hbase:bm.contains (.type "BaseException")=true) (hh:A.handled=none)
  (h:wpAny M A x (fun v s₁=>∃ e t d,v = .ref e /\ s₁.heap.get? C=some (excClassObj nm q C N bs bm hdct sn sub ab col dd k0 k1 k2 k3 k5 newId) /\ s₁.heap.get? e=some (xT C t d) /\ E (.ref e) s₁) E s) :
  wpAny M A (raiseStmt env (some x) none) Q E s:=by
 have hcB:(Value.ref C :: bm).contains (.type "BaseException")=true:=by rw [List.contains_cons,hbase,Bool.or_true]
 unfold raiseStmt
 refine wpAny_bind (wpAny_mono h (fun v s₁ h₁=>?_) fun _ _ x=>x)
 obtain ⟨e,t,d,rfl,hC,he,hE⟩:=h₁
 obtain ⟨hp,g,dr,tk,os⟩:=s₁
 unfold xT at he
 repeat (first | with_reducible refine wpAny_loadPart_at he ?_ | with_reducible refine wpAny_loadPart_at hC ?_ | (with_reducible refine wpAny_isSubtype_exc hC ?_; rw [hcB]) | wp_step)
 exact wpAny_raiseNew_none hh hE
end
structure XCls (P:Program) (w:World) (K:zA) (mg:Str -> Option Value) (base:Heap) (C:Addr) (f:Str):Prop where
 ex:∃ (fI:Addr) (fd:FuncData),FnOk P w K mg base CX0 1 fI fd ["self",f] (spXI C f) /\ Binds K fd ["self",f] [] /\ PySem.W.isFn K (.ref fI)=true /\ excI K C [.type "ValueError",.type "Exception",.type "BaseException",.type "object"] "ValueError.__new__" fI=true
 kp:zF K (.ref C)=true
section
variable {X:Cx}{C:Addr}{f:Str}
theorem run_makeX {pins:List (Addr × Obj)}{σ:St}{H:Hp}{s:Shared}{v:V}{u:Value}{R:Value -> Shared -> Prop}(M:XCls X.prog X.w X.K X.mg X.base C f)(hr:Room 2 X.A)(I:Inv X pins σ H s)(r:RelV v u)
  (h:∀ x t d H2 s',s.heap.objs.size <= x -> H x=none -> H d=none -> x ≠ d -> H2=upd (upd (upd H x (ExN x C t none)) x (ExN x C t (some d))) d (.xd [(f,v)]) -> Inv X pins σ H2 s' -> R (.ref x) s') :
  wpAny (model X.prog X.w) X.A (call (.ref C) [u]) R X.xe s:=by
 obtain ⟨fI,fd,F,hb,hfn,q⟩:=M.ex
 obtain ⟨bm,N,nm,qn,bs,hdct,sn,sub,ab,col,dd,k0,k1,k2,k3,k5,mN,hC,hN,hi,T⟩:=J9 I.kIn q
 obtain ⟨oI,hoI,hcI⟩:∃ oI,X.K.lookup fI=some oI /\ oI.cls = .type "function":=by
  unfold PySem.W.isFn PySem.W.typeIn at hfn
  obtain ⟨o,h1,h2⟩:=Option.map_eq_some_iff.mp (beq_iff_eq.mp hfn)
  exact ⟨o,h1,h2⟩
 have hfI:=I.kIn _ _ hoI
 obtain ⟨hh,g,d,tk,os⟩:=s
 refine call_excI PySem.F.excBase_ValueError T hC hN hi hfI hcI ?_
 have I2:Inv X pins σ (upd H (hh.objs.size+1) (ExN (hh.objs.size+1) C hh.objs.size none)) ⟨(hh.push { cls:=.type "tuple",data:=.seq [u].toArray }).push (xT C hh.objs.size none),g,d,tk,os⟩ :=
  I.laid (t':=tk) (fun b o e=>Heap.get?_push_of_some _ (Heap.get?_push_of_some _ e)) (Nat.le_succ _) (ExN.ok (by
   have:=Heap.get?_push_size (hh.push { cls:=.type "tuple",data:=.seq [u].toArray }) (o:=xT C hh.objs.size none) rfl
   rwa [Heap.size_push] at this))
 have nx:H (hh.objs.size+1)=none:=I.hok.fresh (Nat.le_succ _)
 have r2:Vals [V.ref (hh.objs.size+1),v] [Value.ref (hh.objs.size+1),u]:=.cons rfl (.cons r .nil)
 have hbt:=hb _ [Value.ref (hh.objs.size+1),u] I2.kIn rfl
 rw [yQ] at hbt
 refine wpAny_call (codeAny_mono (F.run _ X.stack _ _ ⟨[Value.ref (hh.objs.size+1),u],[]⟩ [Value.ref (hh.objs.size+1),u] _ (fun v' H2=>v' = .non /\ ∃ d,H d=none /\ hh.objs.size+1 ≠ d /\ H2=upd (upd (upd H (hh.objs.size+1) (ExN (hh.objs.size+1) C hh.objs.size none)) (hh.objs.size+1) (ExN (hh.objs.size+1) C hh.objs.size (some d))) d (.xd [(f,v)])) E0 (hr.make C [u] [])
  (I2.env0.make C [u] []) hbt r2 ⟨_,_,v,rfl,zL,fun d hd=>?_⟩) fun rr s' hq'=>?_)
 ·have ned:hh.objs.size+1 ≠ d:=fun z=>by rw [← z,zL] at hd; cases hd
  rw [upd_ne ned.symm] at hd
  exact ⟨rfl,d,hd,ned,rfl⟩
 cases rr with
 | error e=>exact False.elim hq'
 | ok fl =>
  cases fl with
  | ret u' =>
   obtain ⟨v',H',I3,rv,ev,d,hd,ned,e2⟩:=I2.after hq'
   subst ev
   exact ⟨rv,h _ _ d H' s' (Nat.le_succ _) nx hd ned e2 I3⟩
  | next=>exact False.elim hq'
  | brk=>exact False.elim hq'
  | cont=>exact False.elim hq'
theorem eval_makeX {pins:List (Addr × Obj)}{σ:St}{H:Hp}{s:Shared}{R:Value -> Shared -> Prop}{x:Str}{e:Expr}{ta:TA}{p pos:Pos}(M:XCls X.prog X.w X.K X.mg X.base C f)(hr:Room 2 X.A)(hg:Gl X x)(hm:X.mg x=some (.ref C))(ha:PA X [e] ta)(I:Inv X pins σ H s)
  {Pr:V -> Hp -> Prop} (h:ta σ H fun vs H1=>∃ v,vs=[v] /\ Pr v H1)
  (hP:∀ v H1,Pr v H1 -> ∀ x t d H2 s',X.s₀.heap.get? x=none -> H1 x=none -> H1 d=none -> x ≠ d -> H2=upd (upd (upd H1 x (ExN x C t none)) x (ExN x C t (some d))) d (.xd [(f,v)]) -> Inv X pins σ H2 s' -> R (.ref x) s')
  (hdb:(x == ("__debug__" : Str))=false) (hs:starEach [e] X.env=(false,eval e X.env) :: starEach [] X.env) (hpl:(backTo pos (starEach [] X.env)).any (·.1)=false) :
  wpAny (model X.prog X.w) X.A (eval (.Call (.Name x p) [e] [] pos) X.env) R X.xe s:=by
 refine wpAny_Call_Name_kw (Ju I hg hm ?_ hdb)
 refine PySem.W.callWith_K (h₀:=X.base) I.ok.mod.kin M.kp (thn (ha pos pins s σ H _ I h) fun us s1 ⟨vs,H1,I1,r,v,ev,q⟩=>⟨I1.kIn,?_⟩) hs hpl
 subst ev
 cases r with
 | cons r1 r2 =>
  cases r2
  exact run_makeX M hr I1 r1 fun x t d H2 s' lo n1 n2 n3 e2 I2=>hP v H1 q x t d H2 s' (Heap.get?_none_of_le (zD I1.sz lo)) n1 n2 n3 e2 I2
theorem made_facts {H1 H2:Hp}{x t d:Addr}{v:V}(n1:H1 x=none)(n2:H1 d=none)(n3:x ≠ d)(e:H2=upd (upd (upd H1 x (ExN x C t none)) x (ExN x C t (some d))) d (.xd [(f,v)])):H2 x=some (ExN x C t (some d)) /\ H2 d=some (.xd [(f,v)]) /\ Same H1 H2:=by
 subst e
 refine ⟨by rw [upd_ne n3,zL],zL,fun b o h=>?_⟩
 rw [upd_ne (ne_of_none h n2),upd_ne (ne_of_none h n1),upd_ne (ne_of_none h n1)]
 exact h
def JW (E:XK)(C:Addr)(f:Str)(ta:TA):TS:=fun _ σ H=>ta σ H fun vs H1=>∃ v,vs=[v] /\ ∀ d H',H1 d=none -> Same H1 H' -> H' d=some (.xd [(f,v)]) -> E (.ref C) (some d) H'
theorem w_raiseI {E:XK}{ta:TA}{D:Ends}{σ:St}{H:Hp}:JW E C f ta D σ H=(ta σ H fun vs H1=>∃ v,vs=[v] /\ ∀ d H',H1 d=none -> Same H1 H' -> H' d=some (.xd [(f,v)]) -> E (.ref C) (some d) H'):=rfl
theorem ps_raiseI {E:XK} {x:Str} {np cpos pos:Pos} {e:Expr} {ta:TA} (hE:Raises X E) {k:Nat} (M:XCls X.prog X.w X.K X.mg X.base C f) (hr0:Room k X.A) (hc:X.calm=true) (hg:Gl X x) (hm:X.mg x=some (.ref C)) (ha:PA X [e] ta) (hk2:2 <= k:=by decide) (hd:(x == ("__debug__" : Str))=false:=by decide)
  (hs:starEach [e] X.env=(false,eval e X.env) :: starEach [] X.env:=by rfl) (hpl:(backTo cpos (starEach [] X.env)).any (·.1)=false:=by rfl) :
  PS X (.Raise (some (.Call (.Name x np) [e] [] cpos)) none pos) (JW E C f ta):=by
 have hr:=hr0.mono hk2
 intro pins s σ H D I h
 obtain ⟨fI,fd,F,hb,hfn,q⟩:=M.ex
 obtain ⟨bm,N,nm,qn,bs,hdct,sn,sub,ab,col,dd,k0,k1,k2,k3,k5,mN,hC,hN,hi,T⟩:=J9 I.ok.mod.kin q
 have hbase:=T.hasType PySem.F.excBase_ValueError.hasBase
 have ev:wpAny (model X.prog X.w) X.A (eval (.Call (.Name x np) [e] [] cpos) X.env) (fun v s₁=>∃ e t d,v = .ref e /\ s₁.heap.get? C=some (excClassObj nm qn C N bs bm hdct sn sub ab col dd k0 k1 k2 k3 k5 "ValueError.__new__") /\ s₁.heap.get? e=some (xT C t d) /\ X.xe (.ref e) s₁) X.xe s:=by
  refine eval_makeX M hr hg hm ha I h (fun v H1 hP x t d H2 s' ox n1 n2 n3 e2 I2=>?_) hd hs hpl
  obtain ⟨f1,f2,f3⟩:=made_facts n1 n2 n3 e2
  have g:s'.heap.get? x=some (xT C t (some d)):=(I2.hok x _ f1).1
  refine ⟨x,t,some d,rfl,I2.bk _ _ hC,g,?_⟩
  refine hE pins σ (delH H2 x) s' x (.ref C) (some d) (I2.untrack f1) ⟨_,_,g,rfl,rfl,rfl,rfl⟩ zAY ox (hP d _ n2 (fun b o hb=>?_) ?_)
  ·rw [zAA (ne_of_none hb n1)]
   exact f3 b o hb
  ·rw [zAA n3.symm]
   exact f2
 rw [arm_exec_Raise]
 refine wpAny_bind (wpAny_standAt (raise_exc hbase (I.ok.hd hc) (wpAny_bind (wpAny_mono ev (fun v s₃ h₃=>wpAny_bind (wpAny_standAt (wpAny_pure h₃))) fun _ _ x=>x))))
end
end L2
namespace L2
open PySem PySem.Spec PyProof.Rows
def ExCls (K:zA)(c:Addr):Prop:=(∃ bmB newId,PySem.W.excIn K c bmB newId=true) \/ ∃ bmB newId f,excI K c bmB newId f=true
theorem ExCls.obj {K:zA}{h:Heap}{C:Addr}(e:ExCls K C)(X:K.In h):∃ bm N nm q bs hdct sn sub ab col dd k0 k1 k2 k3 k5 newId,h.get? C=some (excClassObj nm q C N bs bm hdct sn sub ab col dd k0 k1 k2 k3 k5 newId):=by
 rcases e with ⟨_,_,q⟩ | ⟨_,_,_,q⟩
 ·obtain ⟨bm,N,nm,q,bs,hdct,sn,sub,ab,col,dd,k0,k1,k2,k3,k5,mN,hC,_⟩:=exc_obj X q
  exact ⟨_,_,_,_,_,_,_,_,_,_,_,_,_,_,_,_,_,hC⟩
 ·obtain ⟨bm,N,nm,q,bs,hdct,sn,sub,ab,col,dd,k0,k1,k2,k3,k5,mN,hC,_⟩:=J9 X q
  exact ⟨_,_,_,_,_,_,_,_,_,_,_,_,_,_,_,_,_,hC⟩
theorem XCls.cls {P:Program}{w:World}{K:zA}{mg:Str -> Option Value}{base:Heap}{C:Addr}{f:Str}(M:XCls P w K mg base C f):ExCls K C:=by
 obtain ⟨fI,fd,F,hb,hfn,q⟩:=M.ex
 exact .inr ⟨_,_,_,q⟩
def tTryB (K:zA)(tb:TSX)(B:Addr)(i:Nat)(th:TS):TS:=fun D σ H =>
 tb D (fun C d H'=>∃ c,C = .ref c /\ ExCls K c /\ subIn K c B=true /\ ∀ x,H' x=none -> th (hEnds D i) (σ.set i (some (.ref x))) (upd H' x (Exc x C d))) σ H
theorem w_tryB {K:zA}{tb:TSX}{B:Addr}{i:Nat}{th:TS}{D:Ends}{σ:St}{H:Hp}:tTryB K tb B i th D σ H=(tb D (fun C d H'=>∃ c,C = .ref c /\ ExCls K c /\ subIn K c B=true /\ ∀ x,H' x=none -> th (hEnds D i) (σ.set i (some (.ref x))) (upd H' x (Exc x C d))) σ H):=rfl
def xSet (i:Nat)(te:TX):TSX:=fun D E σ H=>te σ H (fun v H'=>D.nx (σ.set i (some v)) H') E
theorem psx_set {X:Cx}{i:Nat}{x:Str}{e:Expr}{te:TX}{pos pos':Pos}(hN:X.N.Nodup)(hi:X.N[i]? = some x)(hx:Loc X.env.scope x)(he:PEx X e te)(hs:swapsWith e (some (.Name x pos')) pos.line X.env=pure false:=by rfl)(hf:X.fn x=true \/ X.env.scope.names.lookup x=some .local:=by first | exact .inl rfl | exact .inr rfl | assumption) :
  PSx X [.Assign [.Name x pos'] e pos] (xSet i te):=by
 intro pins s σ H D E I h
 refine wpAny_execs_cons (wpAny_Assign_Name (thn (he pins s σ H _ E I h) fun v s1 ⟨y,H1,I1,r1,q1⟩=>?_) hs)
 exact JD I1 hN hi hx r1 (fun s2 I2=>wpAny_execs_nil ⟨_,H1,I2,q1⟩) hf
section
variable {prog:Program}{w:World}{A:Around}{E:Value -> Shared -> Prop}{s:Shared}{K:zA}{x D:Addr}{o:Obj}{od:Option Obj}
end
def tFldE (K:zA)(ta:TE)(f:Str):TE:=fun σ H Q=>ta σ H fun x H1=>∃ a C d fs v,x = .ref a /\ H1 a=some (Exc a (.ref C) (some d)) /\ H1 d=some (.xd fs) /\ excK K C=true /\ setX K C f=true /\ fs.lookup f=some v /\ Q v H1
theorem w_fldE {K:zA}{ta:TE}{f:Str}{σ:St}{H:Hp}{Q:VK}:tFldE K ta f σ H Q=(ta σ H fun x H1=>∃ a C d fs v,x = .ref a /\ H1 a=some (Exc a (.ref C) (some d)) /\ H1 d=some (.xd fs) /\ excK K C=true /\ setX K C f=true /\ fs.lookup f=some v /\ Q v H1):=rfl
theorem pe_fldE {X:Cx}{e:Expr}{f:Str}{pos:Pos}{ta:TE}(he:PE X e ta)(hb:attributeBase e f X.env (eval e X.env)=eval e X.env:=by rfl):PE X (.Attribute e f pos) (tFldE X.K ta f):=by
 intro pins s σ H Q I h
 refine attr_of hb (thn (he pins s σ H _ I h) fun u s1 ⟨x,H1,I1,rx,a,C,d,fs,v,ex,ea,ed,hk,hs,l,q⟩=>?_)
 subst ex
 obtain rfl:u=Value.ref a:=rx
 unfold excK at hk
 unfold setX at hs
 simp only [zB,beq_iff_eq] at hk hs
 obtain ⟨⟨⟨⟨⟨hga,hgt⟩,hc⟩,ha⟩,hm⟩,hB⟩:=hk
 obtain ⟨⟨⟨⟨k1,k2⟩,k3⟩,k4⟩,k5⟩:=hs
 obtain ⟨⟨o,e1,c1,dd,vs,hd⟩,_⟩:=I1.hok a _ ea
 obtain ⟨mA,hn,hr⟩:=I1.hok d _ ed
 obtain ⟨od,ho,hl⟩:=lookIn_ns hn
 obtain ⟨u,hu,ru⟩:=RelO.some_of (v:=v) (o:=mA f) (by rw [← l]; exact hr f)
 have J:PySem.W.InstAt s1.heap a o C (some od):=⟨e1,c1,by unfold PySem.W.notCls; rw [hd],by rw [dd]; exact ho⟩
 refine get_exc I1.kIn J hga hgt hB (PySem.W.findObj_own k4 k5 rfl (by rw [hl,hu])) (handed_of ru) ⟨v,H1,I1.tok _,ru,q⟩
end L2
namespace L2
open PySem PySem.Spec PyProof.Rows
section
variable {α:Type}{p:α -> Bool}{l:List α}{i:Nat}{x:α}
end
section
variable {K:zA}{σ:St}{H:Hp}{Q:VK}{cs:List Nat}{te:TE}
end
section
variable {K:zA}{σ:St}{H:Hp}{Q:VK}{cs:List Nat}{te:TE}
end
end L2
namespace L2
open PySem PySem.Spec PyProof.Rows
def ExB (K:zA)(B:Addr):Prop:=∃ bmB,bmB.contains (.type "BaseException")=true /\ ((∃ newId,PySem.W.excIn K B bmB newId=true) \/ ∃ newId f,excI K B bmB newId f=true)
theorem ExB.obj {K:zA}{h:Heap}{C:Addr}(e:ExB K C)(X:K.In h):∃ bm N nm q bs hdct sn sub ab col dd k0 k1 k2 k3 k5 newId,h.get? C=some (excClassObj nm q C N bs bm hdct sn sub ab col dd k0 k1 k2 k3 k5 newId) /\ bm.contains (.type "BaseException")=true:=by
 obtain ⟨bmB,hb,⟨_,q⟩ | ⟨_,_,q⟩⟩:=e
 ·obtain ⟨bm,N,nm,q,bs,hdct,sn,sub,ab,col,dd,k0,k1,k2,k3,k5,mN,hC,_,_,T⟩:=exc_obj X q
  exact ⟨_,_,_,_,_,_,_,_,_,_,_,_,_,_,_,_,_,hC,T.hasType hb⟩
 ·obtain ⟨bm,N,nm,q,bs,hdct,sn,sub,ab,col,dd,k0,k1,k2,k3,k5,mN,hC,_,_,T⟩:=J9 X q
  exact ⟨_,_,_,_,_,_,_,_,_,_,_,_,_,_,_,_,_,hC,T.hasType hb⟩
theorem XCls.exb {P:Program}{w:World}{K:zA}{mg:Str -> Option Value}{base:Heap}{C:Addr}{f:Str}(M:XCls P w K mg base C f):ExB K C:=by
 obtain ⟨fI,fd,F,hb,hfn,q⟩:=M.ex
 exact ⟨_,by decide +kernel,.inr ⟨_,_,q⟩⟩
theorem ps_tryM {X:Cx}{body:List Stmt}{tb:TSX}{xB n:Str}{B:Addr}{i:Nat}{b₀:Stmt}{suite:List Stmt}{th:TS}{np hpos pos:Pos}(hb:PSx X body tb)(hB:ExB X.K B)
  (hg:Gl X xB) (hm:X.mg xB=some (.ref B)) (hN:X.N.Nodup) (hi:X.N[i]? = some n) (hl:X.env.kindOf n=some .local) (hloc:X.env.scope.names.lookup n=some .local) (hst:X.stack=X.env :: X.outer) {L:Addr} (hf:X.env.frame=some L)
  (hs:∀ e,PSs (susp X e) (b₀ :: suite) th) (hd:(xB == ("__debug__" : Str))=false:=by decide) :
  PS X (.Try body [.ExceptHandler (some (.Name xB np)) (some n) (b₀ :: suite) hpos] [] [] pos) (tTryB X.K tb B i th):=by
 intro pins s σ H D I h
 refine wpAny_Try_except (wpAny_mono (hb pins s σ H D _ I h) (fun f s1 q=>?_) fun e s1 q=>?_)
 ·cases f with
  | next=>exact wpAny_execs_nil q
  | ret v=>exact q
  | brk=>exact q
  | cont=>exact q
 obtain ⟨x,T,C,d,H',rfl,I1,tr,⟨ox,oT⟩,np',nx,nT,c,rfl,hC0,hsub,hE⟩:=q
 have hfr:X.A.frames=some (X.env :: X.outer):=by rw [I1.ok.frames,hst]
 have hfun:s1.heap.FunFrames X.base (X.env :: X.outer):=by rw [← hst]; exact I1.stack
 refine lv_nextN hfr hfun hf tr fun h' l=>?_
 have hfrs:(X.env :: X.outer).filterMap (·.frame)=frs X.stack:=by rw [hst]; rfl
 rw [hfrs] at l
 have I2:=inv_noted I1 tr l.k ox oT np' nx nT
 have tr2:=l.exc
 have oT2:X.s₀.heap.get? s1.heap.objs.size=none:=Heap.get?_none_of_le I1.sz
 have nT2:H' s1.heap.objs.size=none:=I1.hok.fresh (zG _)
 have np2:∀ p ∈ X.pn ++ pins,p.1 ≠ x /\ p.1 ≠ s1.heap.objs.size:=fun p hp=>⟨(np' p hp).1,zN (Heap.lt_size (I1.pin p hp).1)⟩
 refine wpAny_handleBy_cons (codeAny_handlers_test (Ju (X:=susp X x) (I2.susp x) hg hm ?_ hd)) (by intro q; cases q)
 obtain ⟨bm,N,nm,q,bs,hdct,sn,sub,ab,col,dd,k0,k1,k2,k3,k5,newC,hC⟩:=hC0.obj I2.kIn
 obtain ⟨bm',N',nm',q',bs',hdct',sn',sub',ab',col',dd',k0',k1',k2',k3',k5',newB,hBo,hbb⟩:=hB.obj I2.kIn
 obtain ⟨oe,vs,oT',ts,he,hcls,_,hdd,_,hTe,hTo,hdT,_⟩:=id tr2
 refine exc_match hC hBo he hcls hbb ?_
 rw [sub_of I2.kIn hC hsub]
 show codeAny _ _ _ _ _
 refine codeAny_handlers_suite_as (flight_ok tr2 fun h3 k3 tr3=>?_)
 have I3:Inv X pins σ H' { s1 with heap:=h3 }:=by
  refine inv_noted (s:={ s1 with heap:=h' }) (h':=h3) I2 tr2 ⟨fun b o _ _ hbT e=>(k3 b fun z=>hbT (by rw [z])).trans e,fun b o hbf e=>⟨o.slots,(k3 b fun z=>?_).trans e⟩⟩ ox oT2 np2 nx nT2
  subst z
  obtain ⟨_,o',ho',hnf⟩:=I2.stack.mem hbf
  rw [hTo] at ho'
  cases ho'
  exact hnf _ hdT
 have I4:=inv_track I3 tr3 ox (fun p hp=>(np' p hp).1) nx
 refine JD (X:=X) I4 hN hi (.inl hloc) (v:=.ref x) (u:=.ref x) rfl (fun s4 I5=>?_) (.inr hloc)
 refine wpAny_mono (hs x pins s4 _ _ (hEnds D i) (I5.susp x) (hE x nx)) (fun f s5 q=>?_) fun _ _ z=>False.elim z
 show wpAny _ _ _ _ _ _
 have ok:=I.ok
 cases f with
 | next =>
  obtain ⟨σ',H2,I6,q⟩:=q
  exact JV (I6.unsusp ok) hN hi hl hloc fun s7 I7=>⟨_,_,I7,q⟩
 | brk =>
  obtain ⟨σ',H2,I6,q⟩:=q
  exact JV (I6.unsusp ok) hN hi hl hloc fun s7 I7=>⟨_,_,I7,q⟩
 | cont =>
  obtain ⟨σ',H2,I6,q⟩:=q
  exact JV (I6.unsusp ok) hN hi hl hloc fun s7 I7=>⟨_,_,I7,q⟩
 | ret u =>
  obtain ⟨v,σ',H2,I6,r,q⟩:=q
  exact JV (I6.unsusp ok) hN hi hl hloc fun s7 I7=>⟨_,_,_,I7,r,q⟩
end L2
namespace L2
open PySem PySem.Spec PyProof.Rows PySem.W
section
variable {key:Nat -> Int}{n:Nat}{p q:Array Nat}
end
end L2
namespace L2
open PySem PySem.Spec PyProof.Rows PySem.W
section
variable {prog:Program}{w:World}{A:Around}{E:Value -> Shared -> Prop}{s:Shared}{vs:List Value}{ks:List Int}
end
end L2
namespace L2
open PySem PySem.Spec PyProof.Rows PySem.W
section
variable {K:zA}{σ:St}{H:Hp}{Q:VK}{cs:List Nat}{te:TE}
end
end L2
namespace L2
open PySem PySem.Spec PyProof.Rows
end L2
namespace L2
open PySem PySem.Spec PyProof.Rows
section
variable {X:Cx}{pos:Pos}
end
end L2
namespace L2
open PySem PySem.Spec PyProof.Rows
end L2
namespace L2
open PySem PySem.Spec PyProof.Rows
end L2
namespace L2
open PySem PySem.Spec PyProof.Rows
section
variable {K:zA}{σ:St}{H:Hp}{Q:VK}{cs:List Nat}{te:TE}{tt:TT}
end
end L2
namespace L2
open PySem PySem.Spec PyProof.Rows
def Sh4 (s:Int)(r:List Int):Prop:=-4000 <= s /\ s <= 4000 /\ Dv s r
theorem Sh.s4 {s:Int}{r:List Int}(h:Sh s r):Sh4 s r:=⟨by have:=h.1; omega,by have:=h.2.1; omega,h.2.2⟩
section
variable {ins m:Nat}{s1 s2:List Wd}{t1 t2:List Go}
end
end L2
namespace L2
open PySem PySem.Spec PyProof.Rows
section
variable {K:zA}{σ:St}{H:Hp}{Q:VK}{cs:List Nat}{te:TE}
end
section
variable {K:zA}{σ:St}{H:Hp}{Q:VK}{cs:List Nat}{te:TE}
end
end L2
namespace L2
open PySem PySem.Spec PyProof.Rows
end L2
namespace L2
open PySem PySem.Spec PyProof.Rows
end L2
namespace L2
open PySem PySem.Spec PyProof.Rows
theorem mvI_bd {s n:Int}{b c:Nat}(h0:0 <= s)(h1:s.toNat <= c)(h:n.natAbs <= 2 ^ b):(mvI s n).natAbs <= 2 ^ (b+c):=by
 rw [mvI_up h0,Int.natAbs_mul,Int.natAbs_pow,Nat.pow_add]
 exact Nat.mul_le_mul h (qN (by decide) h1)
section
variable {ins:Nat}{ds:List Wd}{gs:List Go}{μ:List Int}{B:Int}
end
section
variable {ins:Nat}{ds:List Wd}{gs:List Go}{μ:List Int}{B:Int}
end
end L2
namespace L2
open PySem PySem.Spec PyProof.Rows
section
variable {α:Type}{K:zA}{f:α -> List V}{H H':Hp}{vs us:List V}{xs:List α}{l:Addr}
end
section
variable {K:zA}{σ:St}{H:Hp}{Q:VK}{cs:List Nat}{te:TE}
end
end L2
namespace L2
open PySem PySem.Spec PyProof.Rows
section
variable {H:Hp}{p dl gl a:Addr}{ins k n j:Nat}{us os:List V}{ds:List Wd}{gs:List Go}{H' H'':Hp}{c:Int}
end
end L2
namespace L2
open PySem PySem.Spec PyProof.Rows
section
variable {K:zA}{σ:St}{H:Hp}{Q:VK}{cs:List Nat}{tt:TT}
end
end L2
namespace L2
open PySem PySem.Spec PyProof.Rows
section
variable {K:zA}{σ:St}{H:Hp}{Q:VK}{cs:List Nat}{te:TE}
end
end L2
namespace L2
open PySem PySem.Spec PyProof.Rows
def Cell (H:Hp)(v:V):Prop:=yw v=true \/ ∃ p,v = .ref p /\ ((∃ xs,H p=some (.lst xs)) \/ ∃ xs,H p=some (.tup xs))
theorem Cell.same {H H':Hp}{v:V}(h:Cell H v)(s:Same H H'):Cell H' v:=by
 rcases h with h | ⟨p,e,⟨xs,h⟩ | ⟨xs,h⟩⟩
 ·exact .inl h
 ·exact .inr ⟨p,e,.inl ⟨xs,s _ _ h⟩⟩
 ·exact .inr ⟨p,e,.inr ⟨xs,s _ _ h⟩⟩
def isWh:V -> Bool
 | .int _=>true
 | _=>false
theorem kit_lst_int {K:zA}:zX K (.type "list") (.type "int")=some false:=by kernel_rfl
theorem cell_int {K:zA}{H:Hp}{v:V}{Q:VK}(h:Cell H v)(q1:isWh v=false -> (∀ b,v ≠ .bl b) -> Q (.bl false) H)(q2:(∃ b,v = .bl b) -> Q (.bl true) H)(q3:isWh v=true -> Q (.bl true) H):rIsI K [v,.ty "int"] H Q:=by
 rcases h with h | ⟨p,rfl,⟨xs,h⟩ | ⟨xs,h⟩⟩
 ·cases v with
  | non=>exact ⟨_,_,_,_,rfl,.non,kit_non_int,q1 rfl (fun b z=>by cases z)⟩
  | bl b=>exact ⟨_,_,_,_,rfl,.bl b,kit_bool_int,q2 ⟨b,rfl⟩⟩
  | int i=>exact ⟨_,_,_,_,rfl,.int i,kit_same _,q3 rfl⟩
  | str x=>exact ⟨_,_,_,_,rfl,.str x,kit_str_int,q1 rfl (fun b z=>by cases z)⟩
  | _=>cases h
 ·exact ⟨_,_,_,_,rfl,.lst h,kit_lst_int,q1 rfl (fun b z=>by cases z)⟩
 ·exact ⟨_,_,_,_,rfl,.tup h,kit_tuple_int,q1 rfl (fun b z=>by cases z)⟩
def spIsWh:Sp:=fun vs H Q _=>∃ v:V,vs=[v] /\ Cell H v /\ Q (.bl (isWh v)) H
def btw (v:V)(lo hi:Int):Bool:=match v with
 | .int n=>decide (lo <= n /\ n <= hi)
 | _=>false
theorem btw_int {v:V}{lo hi:Int}(h:btw v lo hi=true):∃ x:Int,v = .int x /\ lo <= x /\ x <= hi:=by
 cases v with
 | int n=>exact ⟨n,rfl,of_decide_eq_true h⟩
 | _=>cases h
def spBtw:Sp:=fun vs H Q _=>∃ (v:V) (lo hi:Int),vs=[v,.int lo,.int hi] /\ Cell H v /\ Q (.bl (btw v lo hi)) H
def dvB (s:Int)(r:List Int):Bool:=decide (0 <= s) || r.all fun n=>decide (n % 2 ^ (-s).toNat=0)
theorem dvB_iff {s:Int}{r:List Int}:dvB s r=true ↔ Dv s r:=by
 unfold dvB Dv
 rw [xE,decide_eq_true_eq,zf]
 constructor
 ·rintro (h | h) z x hx
  ·omega
  ·exact Int.dvd_of_emod_eq_zero (of_decide_eq_true (h x hx))
 ·intro h
  by_cases z:0 <= s
  ·exact .inl z
  ·exact .inr fun x hx=>decide_eq_true (Int.emod_eq_zero_of_dvd (h (by omega) x hx))
theorem zAZ {s:Int}:∀ r:List Int,(r.map V.int).filterMap (shRV s)=r.map fun n=>shV n s
 | []=>rfl
 | a :: r=>by
  rw [zU,zx,zU,← zAZ r]
  rfl
theorem shV_flat (n s:Int):yw (shV n s)=true:=by
 unfold shV
 split
 ·rfl
 ·split <;> rfl
theorem shV_non {n s:Int}:shV n s = .non ↔ ¬ (s < 0 -> (2:Int) ^ (-s).toNat ∣ n):=by
 unfold shV
 by_cases z:0 <= s
 ·rw [if_pos z]
  refine ⟨fun h=>?_,fun h=>?_⟩
  ·cases h
  ·exact absurd (fun y=>absurd y (by omega)) h
 ·rw [if_neg z]
  by_cases y:n / 2 ^ (-s).toNat * 2 ^ (-s).toNat=n
  ·rw [if_pos y]
   refine ⟨fun h=>?_,fun h=>?_⟩
   ·cases h
   ·exact absurd (fun _=>(⟨n / 2 ^ (-s).toNat,by rw [Int.mul_comm]; exact y.symm⟩:(2:Int) ^ (-s).toNat ∣ n)) h
  ·rw [if_neg y]
   exact ⟨fun _ h=>y (Int.ediv_mul_cancel (h (by omega))),fun _=>rfl⟩
theorem none_in {s:Int}{r:List Int}:inV .non (r.map fun n=>shV n s) = !dvB s r:=by
 cases h:dvB s r with
 | true =>
  have d:=dvB_iff.mp h
  unfold inV
  rw [Bool.not_true,List.any_eq_false]
  intro y hy
  obtain ⟨n,hn,rfl⟩:=qP.mp hy
  have:shV n s ≠ .non:=fun z=>shV_non.mp z fun y=>d y n hn
  cases e:shV n s with
  | non=>exact absurd e this
  | _=>intro z; cases z
 | false =>
  unfold inV
  rw [Bool.not_false,jO]
  have nd:¬ Dv s r:=fun d=>by rw [dvB_iff.mpr d] at h; cases h
  unfold Dv at nd
  have:∃ n ∈ r,¬ (s < 0 -> (2:Int) ^ (-s).toNat ∣ n):=yS fun c=>nd fun z x hx=>yS fun e=>c ⟨x,hx,fun f=>e (f z)⟩
  obtain ⟨n,hn,e⟩:=this
  exact ⟨shV n s,qP.mpr ⟨n,hn,rfl⟩,by rw [shV_non.mpr e]; decide⟩
def xF (rs:List (List Int))(a s:V):Bool:=btw a 0 ((rs.length:Int) - 1) && btw s (-4000) 4000 && (match a,s with
 | .int x,.int y=>dvB y (rs.getD x.toNat [])
 | _,_=>false)
def inC (a b:Str):V -> Bool
 | .str z=>decide (z=a \/ z=b)
 | _=>false
def rInC (K:zA):R2:=fun x y H Q=>∃ p a b,y = .ref p /\ SqT K H p [.str a,.str b] /\ Cell H x /\ Q (.bl (inC a b x)) H
theorem op_inC {X:Cx}{k:Nat}(hr:Room k X.A):OpR X (compareOp .In) (rInC X.K):=by
 intro pins s σ H x y v u Q I rx ry h
 obtain ⟨p,a,b,rfl,hq,hc,q⟩:=h
 cases ry
 have hu:X.A.in1.units < cLine:=by
  have:=hr.units
  show X.A.units+1 < cLine
  omega
 rcases hc with fx | ⟨c,rfl,hc⟩
 ·have R:=zAN (X:=X) pins s σ H x (.ref p) v _ Q I rx rfl ⟨p,_,rfl,.inr hq,fx,rfl,?_⟩
  ·exact R
  ·rw [if_neg (by decide)]
   have e:inV x [.str a,.str b]=inC a b x:=by
    cases x with
    | str z =>
     unfold inV
     rw [yW,yW,List.any_nil,jf]
     show (decide (a=z) || decide (b=z))=decide (z=a \/ z=b)
     rw [← Bool.decide_or]
     exact decide_eq_decide.mpr ⟨fun h=>h.imp Eq.symm Eq.symm,fun h=>h.imp Eq.symm Eq.symm⟩
    | _=>first | rfl | cases fx
   rw [e]
   exact q
 ·obtain ⟨its,r,pl,hz⟩:=I.tuple hq
  cases rx
  refine SeqAt.in_tupleAt (fun _=>false) pl (fun w hw=>?_) ⟨.bl _,H,I,rfl,?_⟩
  ·obtain ⟨z,hz1,rz⟩:=vals_mem r w (by simpa using hw)
   have:∃ t,z = .str t:=by
    rcases zI.mp hz1 with e | e
    ·exact ⟨a,e⟩
    ·exact ⟨b,zn.mp e⟩
   obtain ⟨t,rfl⟩:=this
   obtain ⟨tk,rfl⟩:=rz
   rcases hc with ⟨xs,hc⟩ | ⟨xs,hc⟩
   ·obtain ⟨its2,_,pl2,_⟩:=I.list (SqL.of hc)
    exact SeqAt.EqAt.str_list t tk pl2.isList hu
   ·obtain ⟨its2,_,pl2,_⟩:=I.tuple (SqT.of hc)
    exact SeqAt.EqAt.str_tuple t tk pl2 hu
  ·rw [show its.toArray.any (fun _=>false)=false by simp]
   exact q
def Itm (K:zA)(H:Hp)(v:V):Option (List V) -> Prop
 | some c=>∃ p,v = .ref p /\ SqT K H p c /\ ∀ u ∈ c,Cell H u
 | none=>yw v=true \/ ∃ p xs,v = .ref p /\ H p=some (.lst xs)
theorem Itm.same {K:zA}{H H':Hp}{v:V}:∀ {o:Option (List V)},Itm K H v o -> Same H H' -> Itm K H' v o
 | some _,⟨p,e,h,hc⟩,s=>⟨p,e,s.seqT h,fun u hu=>(hc u hu).same s⟩
 | none,.inl h,_=>.inl h
 | none,.inr ⟨p,xs,e,h⟩,s=>.inr ⟨p,xs,e,s _ _ h⟩
def yU (rs:List (List Int)):Option (List V) -> Bool
 | some [w,a,s,b,t]=>inC (Str.ofString "sum") (Str.ofString "less") w && xF rs a s && xF rs b t
 | _=>false
def xg (rs:List (List Int)):Option (List V) -> Bool
 | some [a,s,g]=>(isWh a && isWh s && isWh g) && (decide ([a,s,g]=[.int 0,.int 0,.int 0]) || (inV g [.int 1,.int (-1)] && xF rs a s))
 | _=>false
end L2
namespace L2
open PySem PySem.Spec PyProof.Rows
def rIsTC (K:zA):List V -> Hp -> VK -> Prop:=fun xs H Q=>rIsT K xs H Q \/ rIsI K xs H Q
theorem JX {X:Cx}:CallR X (.builtin "isinstance") (rIsTC X.K):=fun pins s σ H xs us Q I r h=>h.elim (fun z=>call_isT pins s σ H xs us Q I r z) (fun z=>x4 pins s σ H xs us Q I r z)
theorem kit_non_tup {K:zA}:zX K (.type "NoneType") (.type "tuple")=some false:=by kernel_rfl
theorem kit_bl_tup {K:zA}:zX K (.type "bool") (.type "tuple")=some false:=by kernel_rfl
theorem kit_int_tup {K:zA}:zX K (.type "int") (.type "tuple")=some false:=by kernel_rfl
theorem kit_str_tup {K:zA}:zX K (.type "str") (.type "tuple")=some false:=by kernel_rfl
theorem kit_lst_tup {K:zA}:zX K (.type "list") (.type "tuple")=some false:=by kernel_rfl
theorem itm_tup {K:zA}{H:Hp}{v:V}{Q:VK}:∀ {c:Option (List V)},Itm K H v c -> Q (.bl c.isSome) H -> rIsTC K [v,.ty "tuple"] H Q
 | some c,⟨p,e,h,_⟩,q=>by
  subst e
  exact .inl ⟨p,c,rfl,h,q⟩
 | none,.inl h,q=>by
  refine .inr ?_
  cases v with
  | non=>exact ⟨_,_,_,_,rfl,.non,kit_non_tup,q⟩
  | bl b=>exact ⟨_,_,_,_,rfl,.bl b,kit_bl_tup,q⟩
  | int i=>exact ⟨_,_,_,_,rfl,.int i,kit_int_tup,q⟩
  | str x=>exact ⟨_,_,_,_,rfl,.str x,kit_str_tup,q⟩
  | _=>cases h
 | none,.inr ⟨p,xs,e,h⟩,q=>by
  subst e
  exact .inr ⟨_,_,_,_,rfl,.lst h,kit_lst_tup,q⟩
theorem x8 {v:V}(h:isWh v=true):∃ x,v = .int x:=by
 cases v with
 | int x=>exact ⟨x,rfl⟩
 | _=>cases h
theorem zAB {rs:List (List Int)}{w a s b t:V}:yU rs (some [w,a,s,b,t])=(inC (Str.ofString "sum") (Str.ofString "less") w && xF rs a s && xF rs b t):=rfl
theorem JJ {rs:List (List Int)}{a s g:V}:xg rs (some [a,s,g])=((isWh a && isWh s && isWh g) && (decide ([a,s,g]=[.int 0,.int 0,.int 0]) || (inV g [.int 1,.int (-1)] && xF rs a s))):=rfl
theorem partB_iff {rs:List (List Int)}{a s:V}:xF rs a s=true ↔ ∃ (k:Nat) (y:Int),a = .int k /\ s = .int y /\ k < rs.length /\ Sh4 y (rs.getD k []):=by
 constructor
 ·intro h
  unfold xF at h
  rw [zB,zB] at h
  obtain ⟨⟨h1,h2⟩,h3⟩:=h
  obtain ⟨x,rfl,x0,x1⟩:=btw_int h1
  obtain ⟨y,rfl,y0,y1⟩:=btw_int h2
  obtain ⟨k,rfl⟩:∃ k:Nat,x=(k:Int):=⟨x.toNat,by omega⟩
  exact ⟨k,y,rfl,rfl,by omega,y0,y1,dvB_iff.mp h3⟩
 ·rintro ⟨k,y,rfl,rfl,hk,y0,y1,d⟩
  unfold xF
  rw [zB,zB]
  exact ⟨⟨decide_eq_true ⟨by omega,by omega⟩,decide_eq_true ⟨y0,y1⟩⟩,dvB_iff.mpr d⟩
theorem deedB_iff {rs:List (List Int)}{c:Option (List V)}:yU rs c=true ↔ ∃ d:Wd,c=some (xM d) /\ (d.w = "sum" \/ d.w = "less") /\ d.a < rs.length /\ d.b < rs.length /\ Sh4 d.s (rs.getD d.a []) /\ Sh4 d.t (rs.getD d.b []):=by
 constructor
 ·intro h
  unfold yU at h
  split at h
  ·rename_i w a s b t
   rw [zB,zB] at h
   obtain ⟨⟨h1,h2⟩,h3⟩:=h
   obtain ⟨k,y,rfl,rfl,k1,k2⟩:=partB_iff.mp h2
   obtain ⟨m,z,rfl,rfl,m1,m2⟩:=partB_iff.mp h3
   cases w with
   | str x=>exact ⟨⟨x,k,y,m,z⟩,rfl,of_decide_eq_true h1,k1,m1,k2,m2⟩
   | _=>cases h1
  ·cases h
 ·rintro ⟨d,rfl,hw,h1,h2,h3,h4⟩
  unfold yU xM
  rw [zB,zB]
  exact ⟨⟨decide_eq_true hw,partB_iff.mpr ⟨_,_,rfl,rfl,h1,h3⟩⟩,partB_iff.mpr ⟨_,_,rfl,rfl,h2,h4⟩⟩
def spSecond (K:zA):Sp:=fun vs H Q _=>∃ (x:Addr) (d:Wd),vs=[.ref x] /\ SqT K H x (xM d) /\ Q (.int (sgW d.w)) H
theorem shV_map4 {s:Int}{r:List Int}(h:Dv s r):(r.map fun n=>shV n s)=(r.map (mvI s)).map V.int:=by rw [← shRV_map h,zAZ]
def rowC (rs:List (List Int)):Option (List V) -> List Int
 | some [.str w,.int a,.int s,.int b,.int t]=>rowD rs ⟨w,a.toNat,s,b.toNat,t⟩
 | _=>[]
theorem rowC_w {rs:List (List Int)}{d:Wd}:rowC rs (some (xM d))=rowD rs d:=by
 show rowD rs ⟨d.w,((d.a:Nat):Int).toNat,d.s,((d.b:Nat):Int).toNat,d.t⟩=_
 rw [zb,zb]
def rows0 (n:Nat):List (List Int):=(zy n).map (yb n)
def rowsC (n:Nat)(cs:List (Option (List V))):List (List Int):=cs.foldl (fun rs c=>rs ++ [rowC rs c]) (rows0 n)
theorem j8 (n:Nat)(cs:List (Option (List V)))(c:Option (List V)):rowsC n (cs ++ [c])=rowsC n cs ++ [rowC (rowsC n cs) c]:=by unfold rowsC; rw [List.foldl_append]; rfl
theorem zAa (n:Nat)(cs:List (Option (List V))):(rowsC n cs).length=n+cs.length:=by
 refine snoc_ind (p:=fun cs=>(rowsC n cs).length=n+cs.length) ?_ (fun xs x ih=>?_) cs
 ·unfold rowsC rows0; simp
 ·rw [j8,qF,ih]; simp; omega
theorem zAr {n:Nat}{cs:List (Option (List V))}{i:Nat}{c:Option (List V)}(h:cs[i]? = some c):rowsC n (cs.take (i+1))=rowsC n (cs.take i) ++ [rowC (rowsC n (cs.take i)) c]:=by
 rw [List.take_succ,h,Option.toList_some,j8]
def jZ (n:Nat)(cs:List (Option (List V)))(k:Nat):Bool:=yU (rowsC n (cs.take k)) (cs.getD k none)
def goodO (n:Nat)(cs os:List (Option (List V)))(k:Nat):Bool:=decide (k < 12) && xg (rowsC n cs) (os.getD k none)
theorem JK {n:Nat}{cs:List (Option (List V))}{k:Nat}{c:Option (List V)}(h:cs[k]? = some c):jZ n cs k=yU (rowsC n (cs.take k)) c:=by
 unfold jZ
 rw [qD,h]
 rfl
theorem zAC {n:Nat}{cs os:List (Option (List V))}{k:Nat}{c:Option (List V)}(h:os[k]? = some c):goodO n cs os k=(decide (k < 12) && xg (rowsC n cs) c):=by
 unfold goodO
 rw [qD,h]
 rfl
def FBad (g:Nat -> Bool)(m k:Nat):Prop:=k < m /\ g k=false /\ ∀ j,j < k -> g j=true
def WPlc (n:Nat)(cs os:List (Option (List V))):Option Nat -> Prop
 | none=>(∀ j,j < cs.length -> jZ n cs j=true) /\ ∀ j,j < os.length -> goodO n cs os j=true
 | some m=>FBad (jZ n cs) cs.length m \/ ((∀ j,j < cs.length -> jZ n cs j=true) /\ ∃ k,m=cs.length+k /\ FBad (goodO n cs os) os.length k)
theorem rowD_len {rs:List (List Int)}{d:Wd}{n:Nat}(hw:∀ r ∈ rs,r.length=n)(ha:d.a < rs.length)(hb:d.b < rs.length):(rowD rs d).length=n:=by
 have e1:rs.getD d.a [] ∈ rs:=by rw [qD,qA ha]; exact yM ha
 have e2:rs.getD d.b [] ∈ rs:=by rw [qD,qA hb]; exact yM hb
 unfold rowD
 rw [jV,hw _ e1,hw _ e2]
 simp
theorem zAD {n:Nat}{cs:List (Option (List V))}:∀ {k:Nat},k <= cs.length -> (∀ j,j < k -> jZ n cs j=true) -> ∀ r ∈ rowsC n (cs.take k),r.length=n
 | 0,_,_,r,hr=>by
  have:r ∈ rows0 n:=hr
  unfold rows0 at this
  obtain ⟨i,_,rfl⟩:=qP.mp this
  unfold yb
  simp
 | k+1,hk,hg,r,hr=>by
  have hk':k < cs.length:=by omega
  have e:=qA hk'
  generalize cs[k]=c at e
  have ih:=zAD (k:=k) (by omega) (fun j hj=>hg j (by omega))
  rw [zAr e] at hr
  rcases zW.mp hr with h | h
  ·exact ih r h
  ·have g:=hg k (by omega)
   rw [JK e] at g
   obtain ⟨d,rfl,_,h1,h2,_,_⟩:=deedB_iff.mp g
   rw [zn.mp h,rowC_w]
   exact rowD_len ih h1 h2
end L2
namespace L2
open PySem PySem.Spec PyProof.Rows
section
variable {prog:Program}{w:World}{A:Around}{E:Value -> Shared -> Prop}{s:Shared}
end
theorem pe_fldK (K:zA){X:Cx}{n f:Str}{np pos:Pos}{i:Nat}(h:PE X (.Name n np) (tVar i))(hK:X.K=K:=by rfl):PE X (.Attribute (.Name n np) f pos) (tFldE K (tVar i) f):=by
 subst hK
 exact pe_fldE h rfl
end L2
namespace L2
open PySem PySem.Spec PyProof.Rows
theorem kit_non_str {K:zA}:zX K (.type "NoneType") (.type "str")=some false:=by kernel_rfl
theorem kit_bl_str {K:zA}:zX K (.type "bool") (.type "str")=some false:=by kernel_rfl
theorem kit_int_str {K:zA}:zX K (.type "int") (.type "str")=some false:=by kernel_rfl
theorem kit_lst_str {K:zA}:zX K (.type "list") (.type "str")=some false:=by kernel_rfl
theorem kit_tup_str {K:zA}:zX K (.type "tuple") (.type "str")=some false:=by kernel_rfl
theorem cell_str {K:zA}{H:Hp}{v:V}{Q:VK}(h:Cell H v)(q1:(∀ x,v ≠ .str x) -> Q (.bl false) H)(q2:(∃ x,v = .str x) -> Q (.bl true) H):rIsI K [v,.ty "str"] H Q:=by
 rcases h with h | ⟨p,rfl,⟨xs,h⟩ | ⟨xs,h⟩⟩
 ·cases v with
  | non=>exact ⟨_,_,_,_,rfl,.non,kit_non_str,q1 (fun b z=>by cases z)⟩
  | bl b=>exact ⟨_,_,_,_,rfl,.bl b,kit_bl_str,q1 (fun b z=>by cases z)⟩
  | int i=>exact ⟨_,_,_,_,rfl,.int i,kit_int_str,q1 (fun b z=>by cases z)⟩
  | str x=>exact ⟨_,_,_,_,rfl,.str x,kit_same _,q2 ⟨x,rfl⟩⟩
  | _=>cases h
 ·exact ⟨_,_,_,_,rfl,.lst h,kit_lst_str,q1 (fun b z=>by cases z)⟩
 ·exact ⟨_,_,_,_,rfl,.tup h,kit_tup_str,q1 (fun b z=>by cases z)⟩
theorem inV_C {a b z:Str}:inV (.str z) [.str a,.str b]=inC a b (.str z):=by
 unfold inV
 rw [yW,yW,List.any_nil,jf]
 show (decide (a=z) || decide (b=z))=decide (z=a \/ z=b)
 rw [← Bool.decide_or]
 exact decide_eq_decide.mpr ⟨fun h=>h.imp Eq.symm Eq.symm,fun h=>h.imp Eq.symm Eq.symm⟩
end L2
namespace L2
open PySem PySem.Spec PyProof.Rows
def wtC:Option (List V) -> Nat
 | some [_,_,.int s,_,.int t]=>max s.toNat t.toNat+1
 | _=>0
def wts (cs:List (Option (List V))):Nat:=(cs.map wtC).sum
theorem mvI_any {s n:Int}{b c:Nat}(h1:s.toNat <= c)(h:n.natAbs <= 2 ^ b):(mvI s n).natAbs <= 2 ^ (b+c):=by
 by_cases h0:0 <= s
 ·exact mvI_bd h0 h1 h
 ·rw [J8 (by omega)]
  refine zD ?_ (zD h (qN (by decide) (by omega)))
  exact Int.natAbs_ediv_le_natAbs _ _
theorem rowD_any {rs:List (List Int)}{d:Wd}{b c:Nat}(h:RB b rs)(ha:d.a < rs.length)(hb:d.b < rs.length)(h1:d.s.toNat <= c)(h2:d.t.toNat <= c):∀ x ∈ rowD rs d,x.natAbs <= 2 ^ (b+(c+1)):=by
 have ea:=yx (d:=[]) (qA ha)
 have eb:=yx (d:=[]) (qA hb)
 have ma:=yM ha
 have mb:=yM hb
 unfold rowD
 rw [ea,eb]
 intro x hx
 obtain ⟨i,hi⟩:=jC hx
 rw [yV] at hi
 cases e1:rs[d.a][i]? with
 | none=>rw [e1] at hi; cases hi
 | some u =>
  cases e2:rs[d.b][i]? with
  | none=>rw [e1,e2] at hi; cases hi
  | some v =>
   rw [e1,e2] at hi
   have hi:=Option.some.inj hi
   subst hi
   have b1:=mvI_any h1 ((h _ ma).2 u (qE e1))
   have b2:=mvI_any h2 ((h _ mb).2 v (qE e2))
   have b3:(sgW d.w * mvI d.t v).natAbs=(mvI d.t v).natAbs:=by
    have:sgW d.w=1 \/ sgW d.w = -1:=by
     unfold sgW
     split
     ·exact .inr rfl
     ·exact .inl rfl
    rcases this with z | z <;> rw [z] <;> omega
   have e:(2:Nat) ^ (b+(c+1))=2 ^ (b+c)+2 ^ (b+c):=by rw [← Nat.add_assoc,Nat.pow_succ]; omega
   rw [e]
   refine zD (Int.natAbs_add_le _ _) ?_
   omega
end L2
namespace L2
open PySem PySem.Spec PyProof.Rows
section
variable {K:zA}{H:Hp}
end
theorem wts_few {ds:List Wd}(h:∀ d ∈ ds,d.s <= 40 /\ d.t <= 40):wts (ds.map fun d=>some (xM d)) <= 41 * ds.length:=by
 induction ds with
 | nil=>exact yL _
 | cons d ds ih =>
  have i:=ih fun d hd=>h d (zO _ hd)
  have hd:=h d zK
  rw [zU,zP]
  have e:wts (some (xM d) :: ds.map fun d=>some (xM d))=(max d.s.toNat d.t.toNat+1)+wts (ds.map fun d=>some (xM d)):=by
   unfold wts
   rw [zU,List.sum_cons]
   rfl
  rw [e]
  omega
end L2
namespace L2
open PySem PySem.Spec PyProof.Rows
end L2
namespace L2
open PySem PySem.Spec PyProof.Rows
end L2
namespace L2
open PySem PySem.Spec PyProof.Rows
def cW (ds:List Wd):List (Option (List V)):=ds.map fun d=>some (xM d)
def cG (gs:List Go):List (Option (List V)):=gs.map fun g=>some (gTp g)
theorem rowsC_w (n:Nat)(ds:List Wd):rowsC n (cW ds)=rowsW n ds:=by
 unfold rowsC rowsW cW
 rw [List.foldl_map]
 simp only [rowC_w]
 rfl
theorem cW_take (ds:List Wd)(k:Nat):(cW ds).take k=cW (ds.take k):=by
 unfold cW
 rw [List.map_take]
theorem good_w {ins:Nat}{ds:List Wd}{gs:List Go}(F:FWeb ins ds gs){j:Nat}(hj:j < ds.length):jZ ins (cW ds) j=true:=by
 have e:=qA hj
 generalize ds[j]=d at e
 have ec:(cW ds)[j]? = some (some (xM d)):=by
  unfold cW
  rw [qI,e]
  rfl
 rw [JK ec,cW_take,rowsC_w]
 obtain ⟨h1,h2,h3,h4⟩:=F.sh j d e
 have lr:(rowsW ins (ds.take j)).length=ins+j:=by rw [jp,qO]; omega
 exact deedB_iff.mpr ⟨d,rfl,(F.ok.dk j d e).2.2,by omega,by omega,by rw [zAl (by omega) h1]; exact h3.s4,by rw [zAl (by omega) h2]; exact h4.s4⟩
theorem good_g {ins:Nat}{ds:List Wd}{gs:List Go}(F:FWeb ins ds gs){g:Go}(hg:g ∈ gs):xg (rowsC ins (cW ds)) (some (gTp g))=true:=by
 rw [rowsC_w]
 unfold gTp
 rw [JJ]
 rcases F.go g hg with e | ⟨hs,hsh⟩
 ·rw [e]
  rfl
 ·have ht:g.th < (rowsW ins ds).length:=by rw [jp]; exact F.ok.gk g hg
  rw [partB_iff.mpr ⟨g.th,g.sh,rfl,rfl,ht,hsh.s4⟩]
  have:inV (.int g.sg) [.int 1,.int (-1)]=true:=by
   rcases hs with z | z <;> rw [z] <;> decide
  rw [this,Bool.and_true,Bool.or_true]
  rfl
end L2
namespace L2
open PySem PySem.Spec PyProof.Rows
@[elab_as_elim] theorem yv {C:Hp -> Prop} {H:Hp} {p:Addr} {o:HO} (np:H p=none) (k:∀ H',Same H H' -> H' p=some o -> C H'):C (upd H p o):=k _ (zV np _) zL
def NoT (H:Hp)(v:V):Prop:=yw v=true \/ ∃ p,v = .ref p /\ ((∃ xs,H p=some (.lst xs)) \/ ∃ kvs,H p=some (.dK kvs))
section
variable {K:zA}{H:Hp}
end
theorem cW_len (ds:List Wd):(cW ds).length=ds.length:=by unfold cW; rw [qC]
theorem cG_len (gs:List Go):(cG gs).length=gs.length:=by unfold cG; rw [qC]
theorem cW_app (a b:List Wd):cW (a ++ b)=cW a ++ cW b:=by unfold cW; rw [xm]
theorem cG_at {gs:List Go}{k:Nat}(h:k < gs.length):(cG gs)[k]? = some (some (gTp gs[k])):=by unfold cG; rw [qI,qA h]; rfl
theorem cW_at {ds:List Wd}{k:Nat}{d:Wd}(h:ds[k]? = some d):(cW ds)[k]? = some (some (xM d)):=by unfold cW; rw [qI,h]; rfl
theorem good_os {n:Nat}{cs:List (Option (List V))}{gs:List Go}(l:gs.length <= 12)(h:∀ g ∈ gs,xg (rowsC n cs) (some (gTp g))=true):∀ j,j < (cG gs).length -> goodO n cs (cG gs) j=true:=fun j hj=>by
 rw [cG_len] at hj
 rw [zAC (cG_at hj),h _ (yM hj),decide_eq_true (by omega)]
 rfl
theorem fweb_plc {ins:Nat}{ds:List Wd}{gs:List Go}(F:FWeb ins ds gs):WPlc ins (cW ds) (cG gs) none:=⟨fun j hj=>good_w F (by rw [cW_len] at hj; exact hj),good_os F.ok.gl fun g hg=>good_g F hg⟩
theorem fweb_wts {ins:Nat}{ds:List Wd}{gs:List Go}(F:FWeb ins ds gs):wts (cW ds) <= 41 * ds.length:=wts_few fun d hd=>by
 obtain ⟨k,hk⟩:=jC hd
 obtain ⟨_,_,h1,h2⟩:=F.sh k d hk
 exact ⟨h1.2.1,h2.2.1⟩
theorem goodD_app {n:Nat}{cs ex:List (Option (List V))}{j:Nat}(hj:j < cs.length):jZ n (cs ++ ex) j=jZ n cs j:=by
 unfold jZ
 rw [List.take_append_of_le_length (by omega),qD,qH hj,← qD]
end L2
namespace L2
open PySem PySem.Spec PyProof.Rows
def rDGF:R2:=fun x y H Q=>∃ a k,x = .ref a /\ y=kV k /\ ∃ kvs,Rd H a (.dK kvs) /\ ∃ v,valV kvs k=some v /\ Q v H
section
variable {X:Cx}{o i:Expr}{pos:Pos}{td ty:TE}
end
section
variable {σ:St}{H:Hp}{Q:VK}{a:Addr}
end
section
variable {α:Type}
def lk (rows:List (Int × α))(c:Int):Option α:=(rows.find? fun r=>decide (r.1=c)).map (·.2)
variable {R:V -> α -> Prop}{kvs:List (Key × V)}{rows:List (Int × α)}
end
end L2
namespace L2
open PySem PySem.Spec PyProof.Rows
def ForKs (d:Addr)(o:Obj)(kvs:List (Key × V))(g:TG)(tb:TS)(D:Ends)(σ:St)(H:Hp):Prop:=∃ W:Nat -> Nat -> St -> Hp -> Prop,(∃ m,W 0 m σ H) /\ ∀ i m σ H,W i m σ H ->
 ((ItD d o kvs).stop i H /\ D.nx σ H) \/ ((ItD d o kvs).go i H /\ ∃ N:St -> Hp -> Prop,(∀ σ' H',N σ' H' -> ∃ m',m' < m /\ W (i+1) m' σ' H') /\ ∀ x H',(ItD d o kvs).yld i H x H' -> g x σ H' fun σ2 H2=>tb { D with nx:=N,ct:=N,bk:=D.nx } σ2 H2)
section
variable {σ:St}{H:Hp}{D:Ends}{g:TG}{tb:TS}{d:Addr}{o:Obj}{kvs:List (Key × V)}
theorem w_forKs {tl:TE}:tFor (iDict tl) g tb D σ H=(tl σ H fun x H1=>∃ d o kvs,x = .ref d /\ H1 d=some (.frz o (.dK kvs)) /\ ForKs d o kvs g tb D σ H1):=rfl
end
section
variable {L:Nat}{n:Int}
end
end L2
namespace L2
open PySem PySem.Spec PyProof.Rows
section
variable {X:Cx}
end
end L2
namespace L2
open PySem PySem.Spec PyProof.Rows PySem.W
section
variable {prog:Program}{w:World}{A:Around}{E:Value -> Shared -> Prop}{s:Shared}{vs:List Value}{xss:List (List Int)}{a:Addr}
end
end L2
namespace L2
open PySem PySem.Spec PyProof.Rows
end L2
namespace L2
open PySem PySem.Spec PyProof.Rows PySem.W
section
variable {prog:Program}{w:World}{A:Around}{E:Value -> Shared -> Prop}{κ:SortKind}{it:Array Keyed}{vs:List Value}{s:Shared}
variable {xss:List (List Int)}{a:Addr}
end
end L2
namespace L2
open PySem PySem.Spec PyProof.Rows
end L2
namespace L2
open PySem PySem.Spec PyProof.Rows
section
variable {prog:Program}{w:World}{A:Around}{E:Value -> Shared -> Prop}
end
end L2
namespace L2
open PySem PySem.Spec PyProof.Rows
inductive Tg where
 | f (x:V)
 | l (xs:List Tg)
 | t (xs:List Tg)
 | d (xs:List Tg)
section
variable {X:Cx}{pins:List (Addr × Obj)}{σ:St}{H:Hp}{s:Shared}
end
abbrev FSt:=Int × Int × Int
def mx1 (d st:Int):Int:=(d+40692 * st * st+69621 * st) % 2147483647
def mx2 (m st:Int):Int:=(m * m+39373 * m+st) % 2147483579
def mx3 (m:Int):Int:=(m * m+16807 * m) % 2147483549
def tkS (m:Int)(s:FSt):Int × FSt:=if s.1 > 0 then (s.1 % m,(s.1 / m,s.2.1,s.2.2)) else (mx3 (mx2 (mx1 s.2.1 (s.2.2+1)) (s.2.2+1)) / 64 % m,(s.1,s.2.1,s.2.2+1))
def tk:Nat -> Int -> FSt -> Int × FSt
 | 0,_,s=>(0,s)
 | n+1,m,s=>if m > 10000000 then (((tk n (m / 1000000+1) s).1 * 1000000+(tk n 1000000 (tk n (m / 1000000+1) s).2).1) % m,(tk n 1000000 (tk n (m / 1000000+1) s).2).2) else tkS m s
def pk (xs:List Int)(i:Int):Int:=xs.getD i.toNat 0
def pkV (xs:List V)(i:Int):V:=xs.getD i.toNat .non
def txs:List V:=[.str (Str.ofString ""),.str (Str.ofString "0"),.str (Str.ofString "7"),.str (Str.ofString "-1"),.str (Str.ofString "True"),.str (Str.ofString "None")]
def flt (way:Int)(s:FSt):Tg × FSt :=
 if way < 3 then (.f (.int (tk 10 (pk [3,1000,10 ^ 60] way) s).1),(tk 10 (pk [3,1000,10 ^ 60] way) s).2)
 else if way < 5 then (.f (.int (-(tk 10 (pk [9,10 ^ 60] (way - 3)) s).1)),(tk 10 (pk [9,10 ^ 60] (way - 3)) s).2)
 else if way=5 then (.f (pkV [.bl true,.bl false,.non] (tk 10 3 s).1),(tk 10 3 s).2)
 else (.f (pkV txs (tk 10 6 s).1),(tk 10 6 s).2)
section
variable {σ:St}{H:Hp}{Q:VK}{cs:List Nat}{te:TE}
end
section
variable {σ:St}{H:Hp}{Q:VK}{cs:List Nat}{te:TE}
end
end L2
namespace L2
open PySem PySem.Spec PyProof.Rows PySem.W
end L2
namespace L2
open PySem PySem.Spec PyProof.Rows PySem.W
section
variable {σ:St}{H:Hp}{Q:VK}{cs:List Nat}{te:TE}{K:zA}
end
end L2
namespace L2
open PySem PySem.Spec PyProof.Rows PySem.W
end L2
namespace L2
open PySem PySem.Spec PyProof.Rows PySem.W
section
variable {prog:Program}{w:World}{A:Around}{E:Value -> Shared -> Prop}{s:Shared}
end
section
variable {prog:Program}{w:World}{d:Addr}{es:Array DictEntry}{ep:Nat}
end
end L2
namespace L2
open PySem PySem.Spec PyProof.Rows PySem.W
section
variable {prog:Program}{w:World}{A:Around}{E:Value -> Shared -> Prop}{s:Shared}
end
end L2
namespace L2
open PySem PySem.Spec PyProof.Rows PySem.W
section
variable {σ:St}{H:Hp}{Q:VK}{cs:List Nat}{te:TE}{K:zA}
end
end L2
namespace L2
open PySem PySem.Spec PyProof.Rows
section
variable {X:Cx}{e:Expr}{es:List Expr}{te:TE}{tj:Str -> TE}{pos:Pos}
def figI (i:Int):Str:=Str.ofString (toString i)
def rFmt (v:V)(H:Hp)(Q:VK):Prop:=match v with
 | .int i=>i.natAbs.log2 < 1920 /\ Q (.str (figI i)) H
 | .str x=>x.length <= sizeLine /\ Q (.str x) H
 | _=>False
def tFv (te:TE):TE:=fun σ H Q=>te σ H fun v H1=>rFmt v H1 Q
theorem w_fv {σ:St}{H:Hp}{Q:VK}:tFv te σ H Q=te σ H fun v H1=>rFmt v H1 Q:=rfl
theorem w_fmtI {i:Int}{H:Hp}{Q:VK}:rFmt (.int i) H Q=(i.natAbs.log2 < 1920 /\ Q (.str (figI i)) H):=rfl
theorem w_fmtS {x:Str}{H:Hp}{Q:VK}:rFmt (.str x) H Q=(x.length <= sizeLine /\ Q (.str x) H):=rfl
def tJ0:Str -> TE:=fun acc _ H Q=>acc.length <= sizeLine /\ Q (.str acc) H
def tJ1 (te:TE)(tj:Str -> TE):Str -> TE:=fun acc σ H Q=>te σ H fun v H1=>∃ y,v = .str y /\ (acc ++ y).length <= sizeLine /\ tj (acc ++ y) σ H1 Q
theorem w_j0 {acc:Str}{σ:St}{H:Hp}{Q:VK}:tJ0 acc σ H Q=(acc.length <= sizeLine /\ Q (.str acc) H):=rfl
theorem w_j1 {acc:Str}{σ:St}{H:Hp}{Q:VK}:tJ1 te tj acc σ H Q=te σ H fun v H1=>∃ y,v = .str y /\ (acc ++ y).length <= sizeLine /\ tj (acc ++ y) σ H1 Q:=rfl
def tJS (tj:Str -> TE):TE:=fun σ H Q=>tj Str.empty σ H Q
theorem w_js {σ:St}{H:Hp}{Q:VK}:tJS tj σ H Q=tj Str.empty σ H Q:=rfl
end
section
variable {X:Cx}
theorem strs_are:∀ {ts:List Str} {us:List Value},Vals (ts.map V.str) us -> StrsAre us ts
 | [],us,h=>by cases h; exact .nil
 | t :: ts,us,h=>by
  cases h with
  | cons a b =>
   obtain ⟨tk,rfl⟩:=a
   exact .cons _ _ (strs_are b)
def rJoinL (K:zA):V -> List V -> Hp -> VK -> Prop:=fun x vs H Q=>∃ (sep:Str) (l:Addr) (ts:List Str),x = .str sep /\ vs=[.ref l] /\ SqL K H l (ts.map V.str) /\ sep.length <= 64 /\ (ts.map (·.length)).sum+ts.length * 64 <= 16777216 /\ Q (.str (Builtin.Str.glued sep ts)) H
end
section
variable {X:Cx}
theorem mt_join:MtR X "str.join" (rJoinL X.K):=by
 intro pins s σ H x vs v us Q I rx rv h
 obtain ⟨sep,l,ts,rfl,rfl,hl,hs,hz,q⟩:=h
 obtain ⟨t,rfl⟩:=rx
 obtain ⟨u,rfl,ru⟩:=rv.one
 cases ru
 obtain ⟨its,r,⟨o,n,e1,e2,e3,e4⟩,_⟩:=I.list hl
 exact join_listC ⟨o,e1,e2,n,e4⟩ (by simpa using strs_are r) hs hz fun t' k=>⟨.str _,H,I.tok _,⟨_,rfl⟩,q⟩
theorem w_tyStr {K:zA}{x:Str}{H:Hp}:tyV K "str" (.str x) H=True:=eq_true (by first | exact rfl | (unfold tyV; rfl) | (unfold tyV; simp))
end
end L2
namespace L2
open PySem PySem.Spec PyProof.Rows
section
variable {K:zA}{σ:St}{H:Hp}{Q:VK}{cs:List Nat}{te:TE}
end
def fig (n:Nat):Str:=figI n
def dgS (n:Nat):Str:=⟨#[48+n]⟩
theorem fig_eq (n:Nat):fig n=⟨((Nat.toDigits 10 n).map Char.toNat).toArray⟩:=by
 unfold fig figI
 rw [show toString (n:Int)=String.ofList (Nat.toDigits 10 n) from rfl,Str.ofString_eq_toList,String.toList_ofList]
theorem dgS_eq {n:Nat}(h:n < 10):(⟨([Nat.digitChar n].map Char.toNat).toArray⟩:Str)=dgS n:=by
 have:∀ k:Fin 10,([Nat.digitChar k].map Char.toNat)=[48+k.val]:=by decide
 have e:=this ⟨n,h⟩
 unfold dgS
 rw [show ([Nat.digitChar n].map Char.toNat)=[48+n] from e]
theorem jc {n:Nat}(h:n < 10):fig n=dgS n:=by rw [fig_eq,Nat.toDigits_of_lt_base h,dgS_eq h]
theorem fig_up {n:Nat}(h:10 <= n):fig n=fig (n / 10) ++ dgS (n % 10):=by
 rw [fig_eq,Nat.toDigits_of_base_le (by decide) h,fig_eq,← dgS_eq (Nat.mod_lt n (by decide))]
 rw [xm]
 exact PySem.Str.ext' (by simp [PySem.Str.cps_append])
theorem j9 (n:Nat):(fig n).length <= n+1:=by
 have h:=PyProof.Rows.digitsCore_len 10 (n+1) n []
 rw [fig_eq]
 simpa [Str.length,Nat.toDigits] using h
theorem figI_nat {i:Int}{n:Nat}(h:i=n):figI i=fig n:=by subst h; rfl
def yA (t:Nat)(s:Int):Str:=if s=0 then fig t else if 0 < s then fig t ++ "<<" ++ fig s.natAbs else fig t ++ ">>" ++ fig s.natAbs
def jd (w:Str):Str:=if w = "sum" then "+" else "-"
def xN (d:Wd):Str:=yA d.a d.s ++ " " ++ jd d.w ++ " " ++ yA d.b d.t
def xO (g:Go):Str:=if g.sg=0 then "out none" else if g.sg=1 then "out " ++ yA g.th g.sh else "out -" ++ yA g.th g.sh
def linesS (n:Nat)(ds:List Wd)(gs:List Go):List Str:=("in " ++ fig n) :: (ds.map xN ++ gs.map xO)
def shownS (n:Nat)(ds:List Wd)(gs:List Go):Str:=Builtin.Str.glued "\n" (linesS n ds gs)
structure TxOk (n:Nat) (ds:List Wd) (gs:List Go):Prop where
 n1:n <= 100
 dl:ds.length <= 100
 gl:gs.length <= 100
 dw:∀ d ∈ ds,(d.w = "sum" \/ d.w = "less") /\ d.a <= 1000 /\ d.b <= 1000 /\ d.s.natAbs <= 4000 /\ d.t.natAbs <= 4000
 gw:∀ g ∈ gs,(g.sg=0 \/ g.sg=1 \/ g.sg = -1) /\ g.th <= 1000 /\ g.sh.natAbs <= 4000
theorem JY {t:Nat}{s:Int}(ht:t <= 1000)(hs:s.natAbs <= 4000):(yA t s).length <= 5010:=by
 have h1:=j9 t
 have h2:=j9 s.natAbs
 unfold yA
 split
 ·omega
 split
 ·rw [PySem.Str.length_append,PySem.Str.length_append,show (Str.ofString "<<").length=2 from by decide +kernel]
  omega
 ·rw [PySem.Str.length_append,PySem.Str.length_append,show (Str.ofString ">>").length=2 from by decide +kernel]
  omega
theorem zAE (w:Str):(jd w).length=1:=by
 unfold jd
 split <;> decide +kernel
theorem lineD_len {d:Wd} (h:(d.w = "sum" \/ d.w = "less") /\ d.a <= 1000 /\ d.b <= 1000 /\ d.s.natAbs <= 4000 /\ d.t.natAbs <= 4000):(xN d).length <= 11000:=by
 have h1:=JY h.2.1 h.2.2.2.1
 have h2:=JY h.2.2.1 h.2.2.2.2
 have h3:=zAE d.w
 unfold xN
 rw [PySem.Str.length_append,PySem.Str.length_append,PySem.Str.length_append,PySem.Str.length_append,h3,show (Str.ofString " ").length=1 from by decide +kernel]
 omega
theorem lineG_len {g:Go}(h:(g.sg=0 \/ g.sg=1 \/ g.sg = -1) /\ g.th <= 1000 /\ g.sh.natAbs <= 4000):(xO g).length <= 11000:=by
 have h1:=JY h.2.1 h.2.2
 unfold xO
 split
 ·decide +kernel
 split
 ·rw [PySem.Str.length_append,show (Str.ofString "out ").length=4 from by decide +kernel]
  omega
 ·rw [PySem.Str.length_append,show (Str.ofString "out -").length=5 from by decide +kernel]
  omega
theorem sum_le {xs:List Str}(h:∀ x ∈ xs,x.length <= 11000):(xs.map (·.length)).sum <= 11000 * xs.length:=by
 induction xs with
 | nil=>simp
 | cons x r ih =>
  have a:=h x zK
  have b:=ih fun y hy=>h y (zO _ hy)
  rw [zU,List.sum_cons,zP]
  omega
theorem lines_len {n:Nat}{ds:List Wd}{gs:List Go}(h:TxOk n ds gs):((linesS n ds gs).map (·.length)).sum+(linesS n ds gs).length * 64 <= 16777216:=by
 have hd:=h.dl
 have hg:=h.gl
 have hn:=h.n1
 have hl:(linesS n ds gs).length=1+ds.length+gs.length:=by
  unfold linesS
  rw [zP,qF,qC,qC]
  omega
 have hs:=sum_le (xs:=linesS n ds gs) fun x hx=>by
  unfold linesS at hx
  rcases zI.mp hx with e | e
  ·subst e
   have:=j9 n
   rw [PySem.Str.length_append,show (Str.ofString "in ").length=3 from by decide +kernel]
   omega
  ·rcases zW.mp e with e | e
   ·obtain ⟨d,hd,rfl⟩:=qP.mp e
    exact lineD_len (h.dw d hd)
   ·obtain ⟨g,hg,rfl⟩:=qP.mp e
    exact lineG_len (h.gw g hg)
 rw [hl] at hs ⊢
 omega
def spShown:Sp:=fun vs H Q _=>∃ (x dl gl:Addr) (n:Nat) (us:List V) (ds:List Wd) (os:List V) (gs:List Go),vs=[.ref x] /\ Wb H x dl gl n us ds os gs /\ TxOk n ds gs /\ ∀ H',Same H H' -> Q (.str (shownS n ds gs)) H'
section
variable {K:zA}{H:Hp}{Q:VK}
theorem w_isI_ss {x:Str}:rIsI K [.str x,.ty "str"] H Q=Q (.bl true) H:=j5 (.str x) (fun _ h=>by cases h; rfl) (kit_same _)
theorem w_addS {x y:Str}:(∃ i j:Str,V.str x = .str i /\ V.str y = .str j /\ i.length+j.length <= sizeLine /\ Q (.str (i ++ j)) H)=(x.length+y.length <= sizeLine /\ Q (.str (x ++ y)) H) :=
 propext ⟨fun ⟨i,j,e1,e2,h,q⟩=>by cases e1; cases e2; exact ⟨h,q⟩,fun ⟨h,q⟩=>⟨x,y,rfl,rfl,h,q⟩⟩
theorem w_joinL {sep:Str}{l:Addr}:rJoinL K (.str sep) [.ref l] H Q = ∃ ts:List Str,SqL K H l (ts.map V.str) /\ sep.length <= 64 /\ (ts.map (·.length)).sum+ts.length * 64 <= 16777216 /\ Q (.str (Builtin.Str.glued sep ts)) H :=
 propext ⟨fun ⟨s,l',ts,e1,e2,h⟩=>by cases e1; cases e2; exact ⟨ts,h⟩,fun ⟨ts,h⟩=>⟨sep,l,ts,rfl,rfl,h⟩⟩
end
theorem log_s {n:Int}(h:n.natAbs <= 100000):n.natAbs.log2 < 1920:=by
 by_cases z:n.natAbs=0
 ·rw [z]; decide
 ·exact (Nat.log2_lt z).mpr (yB h (by decide))
theorem szL {n:Nat}(h:n <= 10000000):n <= sizeLine:=zD h (by decide)
theorem len_lt:(Str.ofString "<<").length=2:=by decide +kernel
theorem len_gt:(Str.ofString ">>").length=2:=by decide +kernel
theorem len_sp:(Str.ofString " ").length=1:=by decide +kernel
theorem len_in:(Str.ofString "in ").length=3:=by decide +kernel
theorem len_out:(Str.ofString "out ").length=4:=by decide +kernel
theorem len_outm:(Str.ofString "out -").length=5:=by decide +kernel
theorem len_nl:(Str.ofString "\n").length=1:=by decide +kernel
theorem figI_n (n:Nat):figI n=fig n:=rfl
@[elab_as_elim] theorem absU {C:Hp -> Prop} {H H2:Hp} {p:Addr} {o:HO} (np:H p=none) (s:Same H H2) (k:∀ H',Same H H' -> H' p=some o -> C H'):C (upd H2 p o):=k _ (yg np s) zL
def stS (n:Nat)(l:List Str):Str:=Builtin.Str.glued "\n" (("in " ++ fig n) :: l)
theorem len_none:(Str.ofString "none").length=4:=by decide +kernel
end L2
namespace L2
open PySem PySem.Spec PyProof.Rows
theorem txok_web {n:Nat}{ds:List Wd}{gs:List Go}(F:FWeb n ds gs):TxOk n ds gs:=by
 have a:=F.ok.i2
 have b:=F.ok.dl
 have c:=F.ok.gl
 refine ⟨by omega,by omega,by omega,fun d hd=>?_,fun g hg=>?_⟩
 ·obtain ⟨k,hk⟩:=jC hd
  have kl:=(qB.mp hk).1
  obtain ⟨h1,h2,h3⟩:=F.ok.dk k d hk
  obtain ⟨_,_,s1,s2⟩:=F.sh k d hk
  have u1:=s1.1
  have u2:=s1.2.1
  have u3:=s2.1
  have u4:=s2.2.1
  exact ⟨h3,by omega,by omega,by omega,by omega⟩
 ·have h1:=F.ok.gk g hg
  rcases F.go g hg with z | ⟨z,y⟩
  ·subst z
   exact ⟨.inl rfl,by decide,by decide⟩
  ·have u1:=y.1
   have u2:=y.2.1
   exact ⟨.inr z,by omega,by omega⟩
theorem w_neS {x y:Str}{H:Hp}{Q:VK}:rNe (.str x) (.str y) H Q=Q (.bl (!decide (x=y))) H :=
 propext (by
  have e:decide (V.str x=V.str y)=decide (x=y):=by by_cases h:x=y <;> simp [h]
  unfold rNe
  rw [e]
  exact ⟨fun h=>h.2,fun h=>⟨rfl,h⟩⟩)
end L2
namespace L2
open PySem PySem.Spec PyProof.Rows PySem.W
section
variable {X:Cx}{o i e value:Expr}{pos pos' tpos:Pos}{td ty tv:TE}
end
section
variable {σ:St}{H:Hp}{Q:VK}{D:Ends}{a b:Addr}{v:V}{R:Hp -> Prop}
end
end L2
namespace L2
open PySem PySem.Spec PyProof.Rows PySem.W
def rEqE (K:zA):R2:=fun x y H Q=>∃ p q xs,x = .ref p /\ y = .ref q /\ SqL K H p xs /\ SqL K H q [] /\ Q (.bl (decide (xs.length=0))) H
theorem op_eqE {X:Cx}{k:Nat}(hr:Room k X.A):OpR X (compareOp .Eq) (rEqE X.K):=by
 intro pins s σ H x y v u Q I rx ry h
 obtain ⟨p,q,xs,rfl,rfl,hp,hq,qq⟩:=h
 cases rx
 cases ry
 have hu:X.A.units < cLine:=by have:=hr.units; omega
 cases xs with
 | nil =>
  have h1:=is_lst (xs:=[]) hp rfl
  have h2:=is_lst (xs:=[]) hq rfl
  have:=(rcAt_D 50 _ _ (A:=X.A) (by rw [dep_l]; decide) (by have:=hr.units; omega) I h1 h2 rfl rfl).2 p rfl
  exact this X.prog X.w X.xe _ ⟨.bl _,H,I,rfl,qq⟩
 | cons x r =>
  obtain ⟨its,rv,pl,_⟩:=I.list hp
  obtain ⟨its',rv',pl',_⟩:=I.list hq
  have e1:its.toArray.size=r.length+1:=by rw [qM,← rv.length]; rfl
  have e2:its'.toArray.size=0:=by rw [qM,← rv'.length]; rfl
  have:=SeqAt.RcAt.lists_lengths (A:=X.A) pl.isList pl'.isList (by rw [bne_iff_ne]; omega) hu
  exact this X.prog X.w X.xe _ ⟨.bl _,H,I,rfl,qq⟩
theorem w_eqE {K:zA}{p q:Addr}{H:Hp}{Q:VK}:rEqE K (.ref p) (.ref q) H Q = ∃ xs,SqL K H p xs /\ SqL K H q [] /\ Q (.bl (decide (xs.length=0))) H :=
 propext ⟨fun ⟨p',q',xs,e1,e2,h⟩=>by cases e1; cases e2; exact ⟨xs,h⟩,fun ⟨xs,h⟩=>⟨p,q,xs,rfl,rfl,h⟩⟩
end L2
namespace L2
open PySem PySem.Spec PyProof.Rows PySem.W
end L2
namespace L2
open PySem PySem.Spec PyProof.Rows PySem.W
end L2
namespace L2
open PySem PySem.Spec PyProof.Rows PySem.W
end L2
namespace L2
open PySem PySem.Spec PyProof.Rows PySem.W
section
variable {K:zA}{σ:St}{H:Hp}{Q:VK}{cs:List Nat}{te:TE}
end
end L2
namespace L2
open PySem PySem.Spec PyProof.Rows PySem.W
def rNeE (K:zA):R2:=fun x y H Q=>∃ p q xs,x = .ref p /\ y = .ref q /\ SqL K H p xs /\ SqL K H q [] /\ Q (.bl (decide (xs.length ≠ 0))) H
theorem op_neE {X:Cx}{k:Nat}(hr:Room k X.A):OpR X (compareOp .NotEq) (rNeE X.K):=by
 intro pins s σ H x y v u Q I rx ry h
 obtain ⟨p,q,xs,rfl,rfl,hp,hq,qq⟩:=h
 cases rx
 cases ry
 have hu:X.A.units < cLine:=by have:=hr.units; omega
 cases xs with
 | nil =>
  have h1:=is_lst (xs:=[]) hp rfl
  have h2:=is_lst (xs:=[]) hq rfl
  have:=neAt_D 50 _ _ (A:=X.A) (by rw [dep_l]; decide) (by have:=hr.units; omega) I h1 h2 rfl
  exact this X.prog X.w X.xe _ ⟨.bl _,H,I,rfl,qq⟩
 | cons x r =>
  obtain ⟨its,rv,pl,_⟩:=I.list hp
  obtain ⟨its',rv',pl',_⟩:=I.list hq
  have e1:its.toArray.size=r.length+1:=by rw [qM,← rv.length]; rfl
  have e2:its'.toArray.size=0:=by rw [qM,← rv'.length]; rfl
  have:=SeqAt.RcNeAt.lists_lengths (A:=X.A) pl.isList pl'.isList (by rw [bne_iff_ne]; omega) hu
  exact this X.prog X.w X.xe _ ⟨.bl _,H,I,rfl,qq⟩
theorem w_neE {K:zA}{p q:Addr}{H:Hp}{Q:VK}:rNeE K (.ref p) (.ref q) H Q = ∃ xs,SqL K H p xs /\ SqL K H q [] /\ Q (.bl (decide (xs.length ≠ 0))) H :=
 propext ⟨fun ⟨p',q',xs,e1,e2,h⟩=>by cases e1; cases e2; exact ⟨xs,h⟩,fun ⟨xs,h⟩=>⟨p,q,xs,rfl,rfl,h⟩⟩
section
variable {K:zA}{σ:St}{H:Hp}{Q:VK}{cs:List Nat}{tt:TT}
end
end L2
namespace L2
open PySem PySem.Spec PyProof.Rows PySem.W
end L2
namespace L2
open PySem PySem.Spec PyProof.Rows PySem.W
section
variable {K:zA}{σ:St}{H:Hp}{Q:VK}{cs:List Nat}{te:TE}
end
end L2
namespace L2
open PySem PySem.Spec PyProof.Rows PySem.W
section
variable {K:zA}{σ:St}{H:Hp}{Q:VK}{cs:List Nat}{te:TE}{tt:TT}
end
end L2
namespace L2
open PySem PySem.Spec PyProof.Rows PySem.W
end L2
namespace L2
open PySem PySem.Spec PyProof.Rows PySem.W
end L2
namespace L2
open PySem PySem.Spec PyProof.Rows
section
variable {X:Cx}{pins:List (Addr × Obj)}{σ:St}{H:Hp}{s:Shared}
end
end L2
namespace L2
open PySem PySem.Spec PyProof.Rows PySem.W
section
variable {n:Nat}{ds:List Wd}{gs:List Go}{bs:List Bool}
end
section
variable {n:Nat}{ds:List Wd}{gs:List Go}{bs:List Bool}
end
section
variable {n i:Nat}{R:List (List Int)}{kvs:List (List Key × V)}{es:List Wd}
end
end L2
namespace L2
open PySem PySem.Spec PyProof.Rows PySem.W
section
variable {K:zA}{σ:St}{H:Hp}{Q:VK}{cs:List Nat}{te:TE}
end
end L2
namespace L2
open PySem PySem.Spec PyProof.Rows PySem.W
section
variable {n i:Nat}{R:List (List Int)}{kvs:List (List Key × V)}{es:List Wd}
end
end L2
namespace L2
open PySem PySem.Spec PyProof.Rows PySem.W
end L2
namespace L2
open PySem PySem.Spec PyProof.Rows PySem.W
section
variable {n i:Nat}{ds:List Wd}{gs:List Go}{ms:List Nat}
end
end L2
namespace L2
open PySem PySem.Spec PyProof.Rows PySem.W
end L2
namespace L2
open PySem PySem.Spec PyProof.Rows PySem.W
section
variable {K:zA}{σ:St}{H:Hp}{Q:VK}{cs:List Nat}{te:TE}
end
end L2
namespace L2
open PySem PySem.Spec PyProof.Rows
section
variable {ins m:Nat}{s1 s2:List Wd}{t1 t2:List Go}
end
section
variable {ins:Nat}{ds:List Wd}{gs:List Go}{μ:List Int}{B:Int}
end
end L2
namespace L2
open PySem PySem.Spec PyProof.Rows
def advM (m:Nat)(p:SetTable.Probe):SetTable.Probe :=
 if p.more > 0 then { p with j:=p.j+1,more:=p.more - 1 } else
 { p with j:=(p.i * 5+1+p.perturb / 32) % (m+1),more:=SetTable.runEnd m ((p.i * 5+1+p.perturb / 32) % (m+1)) - (p.i * 5+1+p.perturb / 32) % (m+1),i:=(p.i * 5+1+p.perturb / 32) % (m+1),perturb:=p.perturb / 32 }
def pn (m:Nat):Nat -> SetTable.Probe -> SetTable.Probe
 | 0,p=>p
 | n+1,p=>pn m n (advM m p)
def stP (m:Nat)(x:Int):SetTable.Probe:={ j:=SetTable.bits x % (m+1),more:=SetTable.runEnd m (SetTable.bits x % (m+1)) - SetTable.bits x % (m+1),i:=SetTable.bits x % (m+1),perturb:=SetTable.bits x,dummy:=none }
def sl (m:Nat)(x:Int)(n:Nat):Nat:=(pn m n (stP m x)).j
section
variable {led:Bool}{t:SetTable}{es:Array (Int × Value)}
end
end L2
namespace L2
open PySem PySem.Spec PyProof.Rows
section
variable {prog:Program}{w:World}{ok:Addr -> Prop}{A:Around}{E:Value -> Shared -> Prop}{s:Shared}
end
section
variable {prog:Program}{w:World}{ok:Addr -> Prop}{A:Around}{R:Result -> Shared -> Prop}{I:Addr}{fp wr:List Addr}{G:Array GenState -> Array GenState -> Prop}{P:Nat -> Value -> Prop}{St:Nat -> Shared -> Prop}
end
end L2
namespace L2
open PySem PySem.Spec PyProof.Rows
section
variable {prog:Program}{w:World}{A:Around}{E:Value -> Shared -> Prop}{s:Shared}
end
end L2
namespace L2
open PySem PySem.Spec PyProof.Rows
end L2
namespace L2
open PySem PySem.Spec PyProof.Rows
section
variable {K:zA}{σ:St}{H:Hp}{Q:VK}{cs:List Nat}{te:TE}
end
end L2
namespace L2
open PySem PySem.Spec PyProof.Rows
end L2
namespace L2
open PySem PySem.Spec PyProof.Rows
section
variable {ins:Nat}{ds:List Wd}{gs:List Go}{bs:List Bool}
end
section
variable {ins:Nat}{ds:List Wd}{gs:List Go}{bs:List Bool}
end
section
variable {ins:Nat}{ds:List Wd}{gs:List Go}{bs:List Bool}
end
section
variable {ins:Nat}{ds:List Wd}{gs:List Go}{bs:List Bool}
end
section
variable {n:Nat}{ds:List Wd}{gs:List Go}{bs:List Bool}
end
section
variable {n:Nat}{ds:List Wd}{gs:List Go}{bs:List Bool}
end
section
variable {n:Nat}{ds:List Wd}{gs:List Go}{bs:List Bool}
end
section
variable {n:Nat}{ds:List Wd}{gs:List Go}{bs:List Bool}
end
section
variable {n:Nat}{ds:List Wd}{gs:List Go}{bs:List Bool}
end
section
variable {n i:Nat}{R:List (List Int)}{kvs:List (List Key × V)}{es:List Wd}
end
section
variable {n i:Nat}{R:List (List Int)}{kvs:List (List Key × V)}{es:List Wd}
end
end L2
namespace L2
open PySem PySem.Spec PyProof.Rows
def nm (ds:List Wd):List Int:=(rowsW 1 ds).map fun r=>r.headD 0
end L2
namespace L2
open PySem PySem.Spec PyProof.Rows
end L2
namespace L2
open PySem PySem.Spec PyProof.Rows
section
variable {K:zA}{σ:St}{H:Hp}{Q:VK}{cs:List Nat}{te:TE}
end
end L2
namespace L2
open PySem PySem.Spec PyProof.Rows
section
variable {K:zA}{σ:St}{H:Hp}{Q:VK}{cs:List Nat}{tt:TT}
end
end L2
namespace L2
open PySem PySem.Spec PyProof.Rows
section
variable {X:Cx}
theorem vals_strs:∀ {l:List (Str × Tok)},Vals (l.map fun p=>V.str p.1) (strValues l)
 | []=>.nil
 | p :: l=>.cons ⟨_,rfl⟩ vals_strs
def rSplit:V -> List V -> Hp -> VK -> Prop:=fun x vs H Q=>∃ a b:Str,x = .str a /\ vs=[.str b] /\ (b.length == 0)=false /\ a.length <= 1000000 /\ ∀ l,H l=none -> Q (.ref l) (upd H l (.lst ((Txt.split a b).map V.str)))
theorem jR:MtR X "str.split" rSplit:=by
 intro pins s σ H x vs v us Q I rx rv h
 obtain ⟨a,b,rfl,rfl,hb,hz,q⟩:=h
 obtain ⟨t,rfl⟩:=rx
 obtain ⟨u,rfl,ru⟩:=rv.one
 obtain ⟨u,rfl⟩:=ru
 have key:∀ (l:List (Str × Tok)) (k:Nat),l.map (·.1)=Txt.split a b -> l.length <= sizeLine -> EP X pins σ Q (.ref s.heap.objs.size) { s with heap:=s.heap.push { cls:=.type "list",data:=.seq (strValues l).toArray },toks:=k }:=fun l k hl hz=>by
  refine ⟨.ref s.heap.objs.size,_,I.laid (t':=k) (o:=.lst ((Txt.split a b).map V.str)) (fun b u e=>Heap.get?_push_of_some _ e) (zG _) ?_,rfl,q _ (I.hok.fresh (zG _))⟩
  refine ⟨by rw [qC,← hl,qC]; exact hz,_,0,?_,Heap.get?_push_size _ rfl⟩
  rw [← hl,List.map_map]
  exact vals_strs
 have pl:(Builtin.Str.partsBetween a (Builtin.Str.occurrences a b 0 a.length (a.length+1)) b.length).length <= sizeLine:=by
  have h1:=StrLaws.occ_length_le_len a b 0 a.length (a.length+1)
  have h2:(Builtin.Str.partsBetween a (Builtin.Str.occurrences a b 0 a.length (a.length+1)) b.length).length <= (Builtin.Str.occurrences a b 0 a.length (a.length+1)).length+1:=by
   unfold Builtin.Str.partsBetween
   simp
  exact zD (show _ <= 2000000 by omega) (by decide)
 have hsz:a.length <= sizeLine:=zD hz (by decide)
 cases h1:(decide (a.length < b.length) || decide (Builtin.Str.strKind a < Builtin.Str.strKind b))
 ·cases hf:(Builtin.Str.occurrences a b 0 a.length (a.length+1)).isEmpty
  ·refine call_meets F.slot_str_split (typeIs_str _ _ _) F.entry_str_split (F.args_str_split_2 _ _) (meets_str_split_sep a b t u h1 hb hf hsz pl) ?_
   show wants _ _ _ { s with toks:=_,heap:=s.heap.push { cls:=.type "list",data:=.seq (strsFrom s.toks (Builtin.Str.partsBetween a (Builtin.Str.occurrences a b 0 a.length (a.length+1)) b.length)).toArray } }
   rw [strsFrom_eq]
   have e:Txt.split a b=Builtin.Str.partsBetween a (Builtin.Str.occurrences a b 0 a.length (a.length+1)) b.length:=(if_neg (ne_true_of_eq_false h1)).trans (if_neg (ne_true_of_eq_false hf))
   exact key (numbered s.toks _) _ ((numbered_texts _ _).trans e.symm) (by
    have:=congrArg List.length (numbered_texts s.toks (Builtin.Str.partsBetween a (Builtin.Str.occurrences a b 0 a.length (a.length+1)) b.length))
    rw [qC] at this
    rw [this]
    exact pl)
  ·exact call_meets F.slot_str_split (typeIs_str _ _ _) F.entry_str_split (F.args_str_split_2 _ _) (meets_str_split_not_found a b t u h1 hb hf)
    (key [(a,t)] s.toks ((if_neg (ne_true_of_eq_false h1)).trans (if_pos hf)).symm (show 1 <= sizeLine by decide))
 ·exact call_meets F.slot_str_split (typeIs_str _ _ _) F.entry_str_split (F.args_str_split_2 _ _) (meets_str_split_cannot_occur a b t u h1)
   (key [(a,t)] s.toks (if_pos h1).symm (show 1 <= sizeLine by decide))
def rStarts:V -> List V -> Hp -> VK -> Prop:=fun x vs H Q=>∃ a b:Str,x = .str a /\ vs=[.str b] /\ Q (.bl (Txt.startswith a b)) H
theorem Jk:MtR X "str.startswith" rStarts:=by
 intro pins s σ H x vs v us Q I rx rv h
 obtain ⟨a,b,rfl,rfl,q⟩:=h
 obtain ⟨t,rfl⟩:=rx
 obtain ⟨u,rfl,ru⟩:=rv.one
 obtain ⟨u,rfl⟩:=ru
 exact SC.startswith ⟨.bl _,H,I,rfl,q⟩
def rPartn:V -> List V -> Hp -> VK -> Prop:=fun x vs H Q=>∃ a b:Str,x = .str a /\ vs=[.str b] /\ (b.length == 0)=false /\ a.length <= 1000000 /\ ∀ l,H l=none -> Q (.ref l) (upd H l (.tup [.str (Txt.partition a b).1,.str (Txt.partition a b).2.1,.str (Txt.partition a b).2.2]))
theorem mt_partition:MtR X "str.partition" rPartn:=by
 intro pins s σ H x vs v us Q I rx rv h
 obtain ⟨a,b,rfl,rfl,hb,hz,q⟩:=h
 obtain ⟨t,rfl⟩:=rx
 obtain ⟨u,rfl,ru⟩:=rv.one
 obtain ⟨u,rfl⟩:=ru
 have hsz:a.length <= sizeLine:=zD hz (by decide)
 refine call_meets F.slot_str_partition (typeIs_str _ _ _) F.entry_str_partition (F.args_str_partition_2 _ _) (meets_str_partition a b t u hb hsz) ?_
 have key:∀ (x1 x2 x3:Str) (t1 t2 t3:Tok) (k:Nat),Txt.partition a b=(x1,x2,x3) -> EP X pins σ Q (.ref s.heap.objs.size) { s with toks:=k,heap:=s.heap.push { cls:=.type "tuple",data:=.seq [.str x1 t1,.str x2 t2,.str x3 t3].toArray } }:=fun x1 x2 x3 t1 t2 t3 k e=>by
  rw [e] at q
  refine ⟨.ref s.heap.objs.size,_,I.laid (t':=k) (o:=.tup [.str x1,.str x2,.str x3]) (fun b u e=>Heap.get?_push_of_some _ e) (zG _) ?_,rfl,q _ (I.hok.fresh (zG _))⟩
  exact ⟨show 3 <= sizeLine by decide,[.str x1 t1,.str x2 t2,.str x3 t3],.cons ⟨_,rfl⟩ (.cons ⟨_,rfl⟩ (.cons ⟨_,rfl⟩ .nil)),⟨_,Heap.get?_push_size _ rfl,rfl,_,rfl⟩⟩
 unfold Txt.partition at key
 revert key
 cases Builtin.Str.occurrences a b 0 a.length 1 with
 | nil=>intro key; exact key _ _ _ _ _ _ _ rfl
 | cons i r=>intro key; exact key _ _ _ _ _ _ _ rfl
def rInS (neg:Bool):R2:=fun x y H Q=>∃ a b:Str,x = .str a /\ y = .str b /\ Q (.bl (if neg then !Txt.contains b a else Txt.contains b a)) H
theorem op_inS:OpR X (compareOp .In) (rInS false):=by
 intro pins s σ H x y v u Q I rx ry h
 obtain ⟨a,b,rfl,rfl,q⟩:=h
 obtain ⟨t,rfl⟩:=rx
 obtain ⟨t',rfl⟩:=ry
 exact P.in_str ⟨.bl _,H,I,rfl,q⟩
def rIntS:List V -> Hp -> VK -> Prop:=fun xs H Q=>∃ (x:Str) (n:Int),xs=[.str x] /\ PySem.intText? x=some n /\ x.length <= 640 /\ Q (.int n) H
theorem zAb:CallR X (.type "int") rIntS:=by
 intro pins s σ H xs us Q I r h
 obtain ⟨x,n,rfl,hn,hl,q⟩:=h
 obtain ⟨u,rfl,ru⟩:=vals1 r
 obtain ⟨t,rfl⟩:=ru
 exact PySem.W.KIN.call_text hn hl ⟨.int n,H,I.tok _,⟨_,rfl⟩,q⟩
def rStrI:List V -> Hp -> VK -> Prop:=fun xs H Q=>∃ n:Int,xs=[.int n] /\ n.natAbs.log2 < 1920 /\ Q (.str (figI n)) H
theorem jq:CallR X (.type "str") rStrI:=by
 intro pins s σ H xs us Q I r h
 obtain ⟨n,rfl,hl,q⟩:=h
 obtain ⟨u,rfl,ru⟩:=vals1 r
 obtain ⟨t,rfl⟩:=ru
 exact PySem.P.str_of_int hl ⟨.str _,H,I.tok _,⟨_,rfl⟩,q⟩
def Its (x:Str):It:=⟨fun i _=>i < x.cps.size,fun i H v H'=>H'=H /\ ∃ c,x.cps[i]? = some c /\ v = .str ⟨#[c]⟩,fun i _=>x.cps.size <= i⟩
def iStr (tl:TE):TI:=fun σ H R=>tl σ H fun v H1=>∃ x:Str,v = .str x /\ R (Its x) H1
theorem turn_strA {P:Program}{w:World}{K:zA}{tg:Expr}(it:Addr)(x:Str)(t:Tok):Turn P w K tg (Its x) [it] it (fun i h=>h.IsStrIter it "str_ascii_iterator" x t i) where
 mem:=by simp
 obj:=fun i h st b hb=>by
  have e:b=it:=by simpa using hb
  subst e
  obtain ⟨o,e,c,d⟩:=st
  exact ⟨o,e,fun v z=>by rw [d] at z; cases z⟩
 keep:=fun i h h' st k=>let ⟨o,ho,r⟩:=st; ⟨o,k it (by simp) o ho,r⟩
 item:=by
  intro X hP hw hK hc i pins s σ H E I hf st hg
  subst hP hw hK
  obtain ⟨f0,f1,f2,f3,f4,f5⟩:=hf it (by simp)
  obtain ⟨c0,hx⟩:∃ c,x.cps[i]? = some c:=⟨_,yT (show i < x.cps.size from hg)⟩
  refine wpAny_pyNext_ascii_item st (c:=c0) hx fun h' st' sb=>?_
  have I1:Inv X pins σ H { s with heap:=h',toks:=s.toks+1 }:=I.turned (t':=s.toks+1) (fun b o hb e=>(sb.2 b hb).trans e) f0 f1 f3 f4 f5
  obtain ⟨o,e,c,d⟩:=id st'
  exact ⟨_,rfl,go_of (s:={ s with heap:=h',toks:=s.toks+1 }) e c d (by decide) ⟨.str ⟨#[c0]⟩,H,I1,⟨_,rfl⟩,⟨rfl,_,hx,rfl⟩,st',fun b hb=>(hf b hb).1⟩⟩
 done:=by
  intro X hP hw hK hc i pins s σ H E I hf st hg
  subst hP hw hK
  obtain ⟨f0,f1,f2,f3,f4,f5⟩:=hf it (by simp)
  exact wpAny_pyNext_ascii_end (I.ok.hd hc) st (by simp; exact hg) fun h' eb=>⟨rfl,I.turned (t':=s.toks) (fun b o hb e=>eb b o hb e) f0 f1 f3 f4 f5⟩
 self:=fun _ _ _ _ _ st h=>wpAny_pyIter_striter_ascii st h
theorem turn_strW {P:Program}{w:World}{K:zA}{tg:Expr}(it:Addr)(x:Str)(t:Tok):Turn P w K tg (Its x) [it] it (fun i h=>h.IsStrIter it "str_iterator" x t i) where
 mem:=by simp
 obj:=fun i h st b hb=>by
  have e:b=it:=by simpa using hb
  subst e
  obtain ⟨o,e,c,d⟩:=st
  exact ⟨o,e,fun v z=>by rw [d] at z; cases z⟩
 keep:=fun i h h' st k=>let ⟨o,ho,r⟩:=st; ⟨o,k it (by simp) o ho,r⟩
 item:=by
  intro X hP hw hK hc i pins s σ H E I hf st hg
  subst hP hw hK
  obtain ⟨f0,f1,f2,f3,f4,f5⟩:=hf it (by simp)
  obtain ⟨c0,hx⟩:∃ c,x.cps[i]? = some c:=⟨_,yT (show i < x.cps.size from hg)⟩
  refine wpAny_pyNext_wide_item st (c:=c0) hx fun h' st' sb=>?_
  have I1:Inv X pins σ H { s with heap:=h',toks:=s.toks+1 }:=I.turned (t':=s.toks+1) (fun b o hb e=>(sb.2 b hb).trans e) f0 f1 f3 f4 f5
  obtain ⟨o,e,c,d⟩:=id st'
  exact ⟨_,rfl,go_of (s:={ s with heap:=h',toks:=s.toks+1 }) e c d (by decide) ⟨.str ⟨#[c0]⟩,H,I1,⟨_,rfl⟩,⟨rfl,_,hx,rfl⟩,st',fun b hb=>(hf b hb).1⟩⟩
 done:=by
  intro X hP hw hK hc i pins s σ H E I hf st hg
  subst hP hw hK
  obtain ⟨f0,f1,f2,f3,f4,f5⟩:=hf it (by simp)
  exact wpAny_pyNext_wide_end (I.ok.hd hc) st (by simp; exact hg) fun h' eb=>⟨rfl,I.turned (t':=s.toks) (fun b o hb e=>eb b o hb e) f0 f1 f3 f4 f5⟩
 self:=fun _ _ _ _ _ st h=>wpAny_pyIter_striter_wide st h
theorem pi_str {tg l:Expr}{tl:TE}(hl:PE X l tl):PI X tg l (iStr tl):=by
 intro pins s σ H R I h
 refine thn (hl pins s σ H _ I h) fun v s1 ⟨x,H1,I1,r1,q1⟩=>?_
 obtain ⟨x,rfl,q⟩:=q1
 obtain ⟨t,rfl⟩:=r1
 have key:∀ b ∈ [s1.heap.objs.size],FpOk X pins H1 b:=fun b hb=>by
  have e:b=s1.heap.objs.size:=by simpa using hb
  subst e
  exact I1.fpOk (zG _) (I1.hok.fresh (zG _))
 cases ha:x.cps.all (· < 128)
 ·exact wpAny_pyIter_wide ha ⟨s1.heap.objs.size,[s1.heap.objs.size],_,_,H1,rfl,I1.kept (t':=s1.toks) fun b o e=>Heap.get?_push_of_some _ e,turn_strW _ x t,⟨_,Heap.get?_push_size _ rfl,rfl,rfl⟩,key,q⟩
 ·exact wpAny_pyIter_ascii ha ⟨s1.heap.objs.size,[s1.heap.objs.size],_,_,H1,rfl,I1.kept (t':=s1.toks) fun b o e=>Heap.get?_push_of_some _ e,turn_strA _ x t,⟨_,Heap.get?_push_size _ rfl,rfl,rfl⟩,key,q⟩
def rSlS:V -> Option Int -> Option Int -> Hp -> VK -> Prop:=fun x lo hi H Q=>∃ a:Str,x = .str a /\ a.length <= 1000000 /\ Q (.str (Txt.slice a lo hi)) H
theorem jA:SlR X rSlS:=by
 intro pins s σ H x v vl vu lo hi sl Q I rx hs pl pu h
 obtain ⟨a,rfl,hz,q⟩:=h
 obtain ⟨t,rfl⟩:=rx
 have hsz:a.length <= sizeLine:=zD hz (by decide)
 refine ⟨"str",_,F.slot_str_getitem.lookup,typeIs_str _ _ _,?_⟩
 have fin:∀ t' k,EP X pins σ Q (.str (Txt.slice a lo hi) t') { s with toks:=k }:=fun t' k=>⟨.str _,H,I.tok _,⟨_,rfl⟩,q⟩
 cases pl <;> cases pu
 ·exact wpAny_getItem_str_slice (l:=none) (u:=none) (st:=none) hs rfl (post_val_or_str ⟨zD (Txt.slice_le a _ _) hsz,fin⟩)
 ·exact wpAny_getItem_str_slice (l:=none) (u:=some (_,_)) (st:=none) hs rfl (post_val_or_str ⟨zD (Txt.slice_le a _ _) hsz,fin⟩)
 ·exact wpAny_getItem_str_slice (l:=some (_,_)) (u:=none) (st:=none) hs rfl (post_val_or_str ⟨zD (Txt.slice_le a _ _) hsz,fin⟩)
 ·exact wpAny_getItem_str_slice (l:=some (_,_)) (u:=some (_,_)) (st:=none) hs rfl (post_val_or_str ⟨zD (Txt.slice_le a _ _) hsz,fin⟩)
end
def CDg (pm:Params)(K:zA)(d:Addr)(kvs:List (Str × Str)):Prop :=
 ∃ es n,K.lookup d=some ⟨.type "dict",none,.dict es n,#[]⟩ /\ PySem.W.KeysLit pm es.toList /\ (d == sysModules)=false /\ es.toList.all (fun e=>(kvs.map (·.1)).any fun k=>Value.isStrOf k e.key)=true /\ ∀ kv ∈ kvs,∃ t,zC K d kv.1=some (some (.str kv.2 t))
def CDgm (pm:Params)(K:zA)(mg:Str -> Option Value)(x:Str)(kvs:List (Str × Str)):Prop:=∃ d:Addr,mg x=some (.ref d) /\ CDg pm K d kvs
def tGetC (pm:Params)(K:zA)(td ty:TE):TE:=fun σ H Q=>td σ H fun x H1=>∃ d kvs,x = .ref d /\ CDg pm K d kvs /\ ty σ H1 fun y H2=>∃ k,y = .str k /\ ((∃ v,(k,v) ∈ kvs /\ Q (.str v) H2) \/ ((∀ kv ∈ kvs,kv.1 ≠ k) /\ Q .non H2))
section
variable {X:Cx}{o e:Expr}{apos cpos:Pos}{td ty:TE}
theorem getC_none {es:Array DictEntry}{kvs:List (Str × Str)}{k:Str}(hm:es.toList.all (fun e=>(kvs.map (·.1)).any fun k=>Value.isStrOf k e.key)=true)(hn:∀ kv ∈ kvs,kv.1 ≠ k):findBy Value.isStrOf es k=none:=by
 unfold findBy
 rw [Option.map_eq_none_iff,Array.find?_eq_none]
 intro e he z
 rw [zf] at hm
 have h1:=hm e (Array.mem_toList_iff.mpr he)
 rw [jO] at h1
 obtain ⟨k',hk',e1⟩:=h1
 obtain ⟨kv,hkv,rfl⟩:=qP.mp hk'
 obtain ⟨t,e2⟩:=Value.isStrOf_shape e1
 obtain ⟨t',e3⟩:=Value.isStrOf_shape z
 rw [e2] at e3
 injection e3 with e4 _
 exact hn kv hkv e4
theorem pe_getC {pm:Params} (ho:PE X o td) (he:PE X e ty) (m:M1 X o "get" apos e cpos) (hp:X.w.params=pm:=by rfl):PE X (.Call (.Attribute o "get" apos) [e] [] cpos) (tGetC pm X.K td ty):=by
 subst hp
 intro pins s σ H Q I h
 refine wpAny_Call_method m.base m.few m.line PySem.F.plainAttrs_dict PySem.F.slot_dict_get PySem.F.type_dict_get (thn (ho pins s σ H _ I h) fun u s1 ⟨x,H1,I1,rx,d,kvs,ex,⟨es,n,hl,hk,hd,ha,hv⟩,q1⟩=>?_)
 subst ex
 obtain rfl:u=Value.ref d:=rx
 have hmap1:=PySem.W.mapOf_K (prog:=X.prog) (w:=X.w) (fun a o e=>I1.kIn a o e) hl hk
 refine ⟨hmap1.typeIs,fun b q=>?_,?_⟩
 ·cases q
  exact ⟨_,I1.kIn _ _ hl,rfl⟩
 rw [m.trees]
 refine Calls.callWith_builtin rfl (Calls.evalArgs_plain (Calls.spliced_cons (thn (he pins s1 σ H1 _ I1 q1) fun iv s2 ⟨y,H2,I2,ry,k,ey,q2⟩=>Calls.spliced_nil ?_)))
 subst ey
 obtain ⟨t,rfl⟩:=ry
 have hmap:=PySem.W.mapOf_K (prog:=X.prog) (w:=X.w) (fun a o e=>I2.kIn a o e) hl hk
 refine call_meetsIn PySem.F.slot_dict_get hmap.typeIs PySem.F.entry_dict_get (PySem.F.args_dict_get_2 _ _) (meets_dict_get (strKind X.prog X.w) d (strKind_is X.prog X.w k t) hd) ⟨_,hmap,?_⟩
 rcases q2 with ⟨v,hm,q⟩ | ⟨hn,q⟩
 ·obtain ⟨tz,hz⟩:=hv _ hm
  rw [PySem.W.find_K hl hz]
  exact ⟨.str v,H2,I2.tok _,⟨_,rfl⟩,q⟩
 ·rw [getC_none ha hn]
  exact ⟨.non,H2,I2.tok _,rfl,q⟩
end
section
variable {K:zA}{σ:St}{H:Hp}{Q:VK}{cs:List Nat}{nt:Nat}{g:TG}{tt:TT}{te:TE}
theorem w_getC {pm:Params}{td ty:TE}:tGetC pm K td ty σ H Q=(td σ H fun x H1=>∃ d kvs,x = .ref d /\ CDg pm K d kvs /\ ty σ H1 fun y H2=>∃ k,y = .str k /\ ((∃ v,(k,v) ∈ kvs /\ Q (.str v) H2) \/ ((∀ kv ∈ kvs,kv.1 ≠ k) /\ Q .non H2))):=rfl
theorem w_compS {tl:TE}:JG (iStr tl) nt cs g tt te σ H Q=(tl σ H fun v H1=>∃ x:Str,v = .str x /\ yn (Its x) nt cs g tt te σ H1 Q):=rfl
def sgnV (x:Str):List V:=x.cps.toList.map fun c=>V.str ⟨#[c]⟩
theorem comp_S {x:Str}(hz:x.length <= sizeLine)(f:V -> Option V)
  (hb:∀ v H' (R:Option V -> Hp -> Prop),v ∈ sgnV x -> Same H H' -> R (f v) H' -> tt (some v :: yY cs σ) H' fun b H4=>if b=true then te (some v :: yY cs σ) H4 fun y H5=>R (some y) H5 else R none H4)
  (hd:∀ acc,H acc=none -> Q (.ref acc) (upd H acc (.lst ((sgnV x).filterMap f)))):yn (Its x) 1 cs (jB 0) tt te σ H Q:=by
 have hl:(sgnV x).length=x.cps.size:=by unfold sgnV; rw [qC,zj]
 refine JS f (by rw [hl]; exact hz) (fun H' s=>?_) hb hd
 refine ⟨fun i hi=>by rw [hl] at hi; exact hi,fun i v H2 y=>⟨y.1,fun hi=>?_⟩,by rw [hl]; exact zG _⟩
 obtain ⟨_,c,hc,rfl⟩:=y
 unfold sgnV
 rw [qI,Array.getElem?_toList,hc]
 rfl
theorem w_split {a b:Str}:rSplit (.str a) [.str b] H Q=((b.length == 0)=false /\ a.length <= 1000000 /\ ∀ l,H l=none -> Q (.ref l) (upd H l (.lst ((Txt.split a b).map V.str)))) :=
 propext ⟨fun ⟨a',b',e1,e2,h⟩=>by cases e1; cases e2; exact h,fun h=>⟨a,b,rfl,rfl,h⟩⟩
theorem w_starts {a b:Str}:rStarts (.str a) [.str b] H Q=Q (.bl (Txt.startswith a b)) H :=
 propext ⟨fun ⟨a',b',e1,e2,h⟩=>by cases e1; cases e2; exact h,fun h=>⟨a,b,rfl,rfl,h⟩⟩
theorem w_partn {a b:Str}:rPartn (.str a) [.str b] H Q=((b.length == 0)=false /\ a.length <= 1000000 /\ ∀ l,H l=none -> Q (.ref l) (upd H l (.tup [.str (Txt.partition a b).1,.str (Txt.partition a b).2.1,.str (Txt.partition a b).2.2]))) :=
 propext ⟨fun ⟨a',b',e1,e2,h⟩=>by cases e1; cases e2; exact h,fun h=>⟨a,b,rfl,rfl,h⟩⟩
theorem w_inS {a b:Str}:rInS false (.str a) (.str b) H Q=Q (.bl (Txt.contains b a)) H :=
 propext ⟨fun ⟨a',b',e1,e2,h⟩=>by cases e1; cases e2; exact h,fun h=>⟨a,b,rfl,rfl,h⟩⟩
theorem w_intS {a:Str}:rIntS [.str a] H Q=(a.length <= 640 /\ ∃ n,PySem.intText? a=some n /\ Q (.int n) H) :=
 propext ⟨fun ⟨a',n,e1,h1,h2,h3⟩=>by cases e1; exact ⟨h2,n,h1,h3⟩,fun ⟨h2,n,h1,h3⟩=>⟨a,n,rfl,h1,h2,h3⟩⟩
theorem w_slS {a:Str}{lo hi:Option Int}:rSlS (.str a) lo hi H Q=(a.length <= 1000000 /\ Q (.str (Txt.slice a lo hi)) H) :=
 propext ⟨fun ⟨a',e1,h⟩=>by cases e1; exact h,fun h=>⟨a,rfl,h⟩⟩
end
end L2
namespace L2
open PySem PySem.Spec PyProof.Rows PySem.NumText
def tl (x:Str):List Nat:=x.cps.toList
theorem yH {x y:Str}(h:tl x=tl y):x=y:=PySem.Str.ext' (by have:x.cps.toList=y.cps.toList:=h; exact Array.toList_inj.mp this)
theorem zu (x y:Str):tl (x ++ y)=tl x ++ tl y:=by
 show (x ++ y).cps.toList=_
 rw [PySem.Str.cps_append,Array.toList_append]
 rfl
theorem yZ (x:Str):(tl x).length=x.length:=zj
def isDg (c:Nat):Bool:=decide (48 <= c) && decide (c <= 57)
theorem dg_iff {c:Nat}:isDg c=true ↔ 48 <= c /\ c <= 57:=by unfold isDg; rw [zB,decide_eq_true_eq,decide_eq_true_eq]
def figR (x:Str):Option Int:=if tl x=[] \/ ¬ (tl x).all isDg=true \/ ((tl x).head? = some 48 /\ tl x ≠ [48]) then none else some ((digitsVal (tl x):Nat):Int)
theorem figs_tl:tl (Str.ofString "0123456789")=[48,49,50,51,52,53,54,55,56,57]:=by decide +kernel
theorem figs_has (c:Nat):Txt.contains (Str.ofString "0123456789") ⟨#[c]⟩=isDg c:=by
 unfold Txt.contains
 rw [StrLaws.found_one]
 have e:(Str.ofString "0123456789").cps.toList=[48,49,50,51,52,53,54,55,56,57]:=figs_tl
 rw [e]
 unfold isDg
 rw [xn,decide_eq_true_eq,zB,decide_eq_true_eq,decide_eq_true_eq]
 simp only [zI,zR,or_false]
 omega
theorem zAF:tl (Str.ofString "0")=[48]:=by decide +kernel
theorem emp_tl:tl (Str.ofString "")=[]:=by decide +kernel
theorem jS (x y:Str){c:Nat}(hy:tl y=[c]):Txt.startswith x y=decide ((tl x).head? = some c):=by
 have l:y.length=1:=by rw [← yZ,hy]; rfl
 unfold Txt.startswith
 rw [StrLaws.subAt_eq,l,show y.cps.toList=[c] from hy,List.drop_zero]
 rw [← yZ]
 show (decide (0+1 <= (tl x).length) && ((tl x).take 1 == [c]))=_
 cases h:tl x with
 | nil=>rfl
 | cons a r =>
  rw [xn,zB,decide_eq_true_eq,decide_eq_true_eq]
  constructor
  ·rintro ⟨_,h⟩
   have:=eq_of_beq h
   rw [List.take_succ_cons,List.take_zero] at this
   injection this with h1 _
   rw [h1]
   rfl
  ·intro h
   injection h with h
   rw [h]
   exact ⟨by simp,by simp⟩
theorem eq_emp {x:Str}:x=Str.ofString "" ↔ tl x=[]:=⟨fun h=>by rw [h,emp_tl],fun h=>yH (by rw [h,emp_tl])⟩
theorem eq_zero {x:Str}:x=Str.ofString "0" ↔ tl x=[48]:=⟨fun h=>by rw [h,zAF],fun h=>yH (by rw [h,zAF])⟩
theorem figR_int {x:Str}(h1:tl x ≠ [])(h2:(tl x).all isDg=true)(hl:x.length <= 640):PySem.intText? x=some ((digitsVal (tl x):Nat):Int) :=
 intText_digits (fun c hc=>dg_iff.mp (zf.mp h2 c hc)) h1 (by omega)
def hasV:V -> Option V
 | .str y=>some (V.bl (Txt.contains (Str.ofString "0123456789") y))
 | _=>none
theorem sgn_all (x:Str):(sgnV x).filterMap hasV=((tl x).map isDg).map V.bl:=by
 unfold sgnV tl
 induction x.cps.toList with
 | nil=>rfl
 | cons c r ih =>
  rw [zU,zx,zU,zU,← ih]
  show V.bl (Txt.contains (Str.ofString "0123456789") ⟨#[c]⟩) :: _=_
  rw [figs_has]
theorem fig_tl (n:Nat):tl (fig n)=(Nat.toDigits 10 n).map Char.toNat:=PySem.W.KIN.signs_num n
theorem fig_dg (n:Nat):(tl (fig n)).all isDg=true:=by
 rw [fig_tl,zf]
 intro c hc
 obtain ⟨ch,hch,e⟩:=qP.mp hc
 rw [← e]
 exact dg_iff.mpr (digit_range (Nat.isDigit_of_mem_toDigits (by decide) (by decide) hch))
theorem fig_ne (n:Nat):tl (fig n) ≠ []:=by
 rw [fig_tl]
 intro e
 have h:=toDigits_len_ge 10 n
 rw [List.map_eq_nil_iff.mp e] at h
 exact absurd h (by decide)
theorem fig_val (n:Nat):digitsVal (tl (fig n))=n:=by rw [fig_tl]; exact PySem.W.KIN.val_back n
theorem fig_head {n:Nat}(h:1 <= n):(tl (fig n)).head? ≠ some 48:=by
 induction n using Nat.strongRecOn with
 | _ n ih =>
  by_cases z:n < 10
  ·rw [jc z]
   show some (48+n) ≠ some 48
   intro e
   injection e with e
   omega
  ·rw [fig_up (by omega),zu]
   have i:=ih (n / 10) (by omega) (by omega)
   cases e:tl (fig (n / 10)) with
   | nil=>exact absurd e (fig_ne _)
   | cons a r=>rw [e] at i; exact i
theorem zAG (n:Nat):figR (fig n)=some (n:Int):=by
 unfold figR
 rw [if_neg,fig_val]
 rintro (h | h | ⟨h1,h2⟩)
 ·exact fig_ne n h
 ·exact h (fig_dg n)
 ·by_cases z:n=0
  ·subst z
   exact h2 (by rw [jc (by decide)]; rfl)
  ·exact fig_head (by omega) h1
theorem JZ {n:Nat}(h:n <= 9999):(fig n).length <= 4:=by
 by_cases a:n < 10
 ·rw [jc a]; exact (by decide:1 <= 4)
 rw [fig_up (by omega),PySem.Str.length_append]
 by_cases b:n / 10 < 10
 ·rw [jc b]; exact (by decide:1+1 <= 4)
 rw [fig_up (by omega),PySem.Str.length_append]
 by_cases c:n / 10 / 10 < 10
 ·rw [jc c]; exact (by decide:1+1+1 <= 4)
 rw [fig_up (by omega),PySem.Str.length_append,jc (by omega)]
 exact (by decide:1+1+1+1 <= 4)
theorem xP (s x:Str):Str.join s [x]=x:=rfl
theorem yh (s x y:Str)(r:List Str):Str.join s (x :: y :: r)=x ++ s ++ Str.join s (y :: r):=rfl
def JFree (c:Nat)(ps:List Str):Prop:=∀ p ∈ ps,c ∉ tl p
theorem free_cut {c:Nat}:∀ {a b r s:List Nat},c ∉ a -> c ∉ b -> a ++ c :: r=b ++ c :: s -> a=b /\ r=s
 | [],[],r,s,_,_,h=>by injection h with _ h; exact ⟨rfl,h⟩
 | [],y :: b,r,s,_,hb,h=>by injection h with h1 _; exact absurd (by rw [h1]; exact zK ..) hb
 | x :: a,[],r,s,ha,_,h=>by injection h with h1 _; exact absurd (by rw [← h1]; exact zK ..) ha
 | x :: a,y :: b,r,s,ha,hb,h=>by
  injection h with h1 h2
  obtain ⟨e1,e2⟩:=free_cut (fun z=>ha (zO _ z)) (fun z=>hb (zO _ z)) h2
  exact ⟨by rw [h1,e1],e2⟩
theorem join_inj {c:Nat}:∀ {ps qs:List Str},ps ≠ [] -> qs ≠ [] -> JFree c ps -> JFree c qs -> Str.join ⟨#[c]⟩ ps=Str.join ⟨#[c]⟩ qs -> ps=qs
 | [],_,h,_,_,_,_=>absurd rfl h
 | _,[],_,h,_,_,_=>absurd rfl h
 | [p],[q],_,_,_,_,h=>by rw [xP,xP] at h; rw [h]
 | [p],q :: q' :: r,_,_,hp,hq,h=>by
  rw [xP,yh] at h
  exact absurd (by rw [h,zu,zu]; exact List.mem_append_left _ (qK _ (zn.mpr rfl))) (hp p (zK ..))
 | p :: p' :: r,[q],_,_,hp,hq,h=>by
  rw [xP,yh] at h
  exact absurd (by rw [← h,zu,zu]; exact List.mem_append_left _ (qK _ (zn.mpr rfl))) (hq q (zK ..))
 | p :: p' :: r,q :: q' :: s,_,_,hp,hq,h=>by
  rw [yh,yh] at h
  have h2:=congrArg tl h
  rw [zu,zu,zu,zu,show tl (⟨#[c]⟩:Str)=[c] from rfl,List.append_assoc,List.append_assoc] at h2
  obtain ⟨e1,e2⟩:=free_cut (hp p (zK ..)) (hq q (zK ..)) h2
  rw [yH e1,join_inj (by simp) (by simp) (fun x hx=>hp x (zO _ hx)) (fun x hx=>hq x (zO _ hx)) (yH e2)]
theorem split_ne (x y:Str):Txt.split x y ≠ []:=by
 unfold Txt.split
 split
 ·simp
 ·split
  ·simp
  ·rw [StrLaws.partsBetween_eq]
   obtain ⟨p,r,e⟩:=StrLaws.partsFrom_ne x y.length 0 (Builtin.Str.occurrences x y 0 x.length (x.length+1))
   rw [e]
   simp
theorem JA {c:Nat}{ps:List Str}(h:JFree c ps)(hn:ps ≠ []):Txt.split (Str.join ⟨#[c]⟩ ps) ⟨#[c]⟩=ps :=
 join_inj (split_ne _ _) hn (StrLaws.split_free _ _) h (StrLaws.join_split _ _)
theorem nl_is:Str.ofString "\n" = ⟨#[10]⟩:=yH (by decide +kernel)
theorem sp_is:Str.ofString " " = ⟨#[32]⟩:=yH (by decide +kernel)
def mk2 (c:Nat):Str:=⟨#[c,c]⟩
theorem sub_at {x:Str}{c i:Nat}(h:Builtin.Str.subAt x (mk2 c) i=true):(tl x)[i]? = some c /\ (tl x)[i+1]? = some c:=by
 rw [StrLaws.subAt_eq] at h
 have h2:((tl x).drop i).take 2=[c,c]:=eq_of_beq h
 constructor
 ·have:=congrArg (·[0]?) h2
  simpa [List.getElem?_take,List.getElem?_drop] using this
 ·have:=congrArg (·[1]?) h2
  simpa [List.getElem?_take,List.getElem?_drop] using this
theorem JL {x:Str}{c:Nat}(h:c ∉ tl x):Txt.contains x (mk2 c)=false:=by
 unfold Txt.contains
 cases e:(!(Builtin.Str.occurrences x (mk2 c) 0 x.length 1).isEmpty) with
 | false=>rfl
 | true =>
  obtain ⟨i,_,hs⟩:=(StrLaws.found_iff x (mk2 c)).mp e
  exact absurd (qE (sub_at hs).1) h
theorem part_at {a b:Str}{c:Nat}(h:c ∉ tl a):Txt.contains (a ++ mk2 c ++ b) (mk2 c)=true /\ Txt.partition (a ++ mk2 c ++ b) (mk2 c)=(a,mk2 c,b):=by
 have ex:tl (a ++ mk2 c ++ b)=tl a ++ (c :: c :: tl b):=by
  rw [zu,zu,List.append_assoc]
  rfl
 have lx:(a ++ mk2 c ++ b).length=(tl a).length+2+(tl b).length:=by
  rw [← yZ,ex,qF]
  simp
  omega
 have at_:StrLaws.At (a ++ mk2 c ++ b) (mk2 c) (a ++ mk2 c ++ b).length (tl a).length:=by
  refine ⟨by rw [lx]; show (tl a).length+2 <= _; omega,?_⟩
  rw [StrLaws.subAt_eq,show (a ++ mk2 c ++ b).cps.toList=tl a ++ (c :: c :: tl b) from ex,List.drop_left]
  show ((c :: c :: tl b).take 2 == [c,c])=true
  simp
 refine ⟨(StrLaws.found_iff _ _).mpr ⟨_,at_.1,at_.2⟩,?_⟩
 unfold Txt.partition
 rcases StrLaws.occ_head (a ++ mk2 c ++ b) (mk2 c) 1 (zG 1) with ⟨h0,hn⟩ | ⟨i,r,h0,hi,hn⟩
 ·exact absurd at_ (hn _)
 have ei:i=(tl a).length:=by
  rcases Nat.lt_trichotomy i (tl a).length with z | z | z
  ·have:=(sub_at hi.2).1
   rw [ex,qH z] at this
   exact absurd (qE this) h
  ·exact z
  ·exact absurd at_ (hn _ z)
 rw [h0]
 subst ei
 have e1:Builtin.Str.strSub (a ++ mk2 c ++ b) 0 (tl a).length=a:=yH (by
  show (Builtin.Str.strSub _ _ _).cps.toList=_
  rw [StrLaws.strSub_toList,show (a ++ mk2 c ++ b).cps.toList=tl a ++ (c :: c :: tl b) from ex,List.drop_zero,Nat.sub_zero,List.take_left])
 have e2:Builtin.Str.strSub (a ++ mk2 c ++ b) ((tl a).length+(mk2 c).length) (a ++ mk2 c ++ b).length=b:=yH (by
  show (Builtin.Str.strSub _ _ _).cps.toList=_
  rw [StrLaws.strSub_toList,show (a ++ mk2 c ++ b).cps.toList=tl a ++ (c :: c :: tl b) from ex,lx,show (mk2 c).length=2 from rfl,show (tl a ++ c :: c :: tl b)=(tl a ++ [c,c]) ++ tl b by simp,List.drop_left' (by simp)]
  exact zm (by omega))
 show (Builtin.Str.strSub (a ++ mk2 c ++ b) 0 (tl a).length,mk2 c,Builtin.Str.strSub (a ++ mk2 c ++ b) ((tl a).length+(mk2 c).length) (a ++ mk2 c ++ b).length)=_
 rw [e1,e2]
theorem lt_is:Str.ofString "<<" = mk2 60:=yH (by decide +kernel)
theorem gt_is:Str.ofString ">>" = mk2 62:=yH (by decide +kernel)
def shR (a c:Str)(sg:Int):Option (Int × Int):=match figR a,figR c with
 | some t,some s=>if s=0 \/ 4 < c.length then none else some (t,sg * s)
 | _,_=>none
def partR (x:Str):Option (Int × Int):=if Txt.contains x (Str.ofString "<<")=true then shR (Txt.partition x (Str.ofString "<<")).1 (Txt.partition x (Str.ofString "<<")).2.2 1
 else if Txt.contains x (Str.ofString ">>")=true then shR (Txt.partition x (Str.ofString ">>")).1 (Txt.partition x (Str.ofString ">>")).2.2 (-1)
 else (figR x).map fun n=>(n,0)
theorem JM {n c:Nat}(h:c < 48 \/ 57 < c):c ∉ tl (fig n):=fun z=>by
 have:=dg_iff.mp (zf.mp (fig_dg n) c z)
 omega
theorem shR_fig {t s:Nat}{sg:Int}(h1:1 <= s)(h2:s <= 9999):shR (fig t) (fig s) sg=some ((t:Int),sg * (s:Int)):=by
 unfold shR
 rw [zAG,zAG]
 have:=JZ h2
 exact if_neg (by omega)
theorem partR_S {t:Nat}{s:Int}(hs:s.natAbs <= 4000):partR (yA t s)=some ((t:Int),s):=by
 unfold partR yA
 rw [lt_is,gt_is]
 by_cases z:s=0
 ·rw [if_pos z,JL (JM (.inr (by decide))),JL (JM (.inr (by decide))),if_neg (by decide),if_neg (by decide),zAG,z]
  rfl
 ·rw [if_neg z]
  by_cases p:0 < s
  ·rw [if_pos p]
   obtain ⟨h1,h2⟩:=part_at (a:=fig t) (b:=fig s.natAbs) (c:=60) (JM (.inr (by decide)))
   rw [h1,h2,if_pos rfl,shR_fig (by omega) (by omega)]
   rw [show (1:Int) * ((s.natAbs:Nat):Int)=s by omega]
  ·rw [if_neg p]
   obtain ⟨h1,h2⟩:=part_at (a:=fig t) (b:=fig s.natAbs) (c:=62) (JM (.inr (by decide)))
   have h0:Txt.contains (fig t ++ mk2 62 ++ fig s.natAbs) (mk2 60)=false:=JL (by
    rw [zu,zu]
    intro y
    rcases zW.mp y with y | y
    ·rcases zW.mp y with y | y
     ·exact JM (.inr (by decide)) y
     ·exact absurd y (by decide)
    ·exact JM (.inr (by decide)) y)
   rw [h0,if_neg (by decide),h1,h2,if_pos rfl,shR_fig (by omega) (by omega)]
   rw [show (-1:Int) * ((s.natAbs:Nat):Int)=s by omega]
theorem slice_1 {x:Str}(h:1 <= x.length):tl (Txt.slice x (some 1) none)=(tl x).drop 1:=by
 have e:Txt.slice x (some 1) none=StrLaws.sliceText x (some 1) none:=rfl
 rw [e,StrLaws.sliceText_from ⟨by decide,by rw [show x.cps.toList.length=x.length from zj]; omega⟩]
 show ((tl x).drop 1).take _=_
 exact zm (by rw [jM]; show (tl x).length - 1 <= (((tl x).length:Int) - 1).toNat; omega)
def xU (x:Str):Option Str:=if x=Str.ofString "+" then some (Str.ofString "sum") else if x=Str.ofString "-" then some (Str.ofString "less") else none
def deedR (ws:List Str):Option (Str × (Int × Int) × (Int × Int)):=match ws with
 | [a,b,c]=>(match partR a,xU b,partR c with
  | some p,some w,some q=>some (w,p,q)
  | _,_,_=>none)
 | _=>none
def minB (x:Str):Bool:=Txt.startswith x (Str.ofString "-")
def endR (x:Str):Option (Int × Int × Int):=if x=Str.ofString "none" then some (0,0,0)
 else (partR (if minB x then Txt.slice x (some 1) none else x)).map fun p=>(p.1,p.2,if minB x then -1 else 1)
def goalR (ws:List Str):Option (Int × Int × Int):=match ws with
 | [a,b]=>if a=Str.ofString "out" then endR b else none
 | _=>none
def insR (ws:List Str):Option Int:=match ws with
 | [a,b]=>if a=Str.ofString "in" then (match figR b with
  | some n=>if 1 <= n /\ n <= 12 then some n else none
  | none=>none) else none
 | _=>none
theorem JB:tl (Str.ofString "-")=[45]:=by decide +kernel
theorem plus_tl:tl (Str.ofString "+")=[43]:=by decide +kernel
theorem none_tl:tl (Str.ofString "none")=[110,111,110,101]:=by decide +kernel
theorem out_tl:tl (Str.ofString "out")=[111,117,116]:=by decide +kernel
theorem in_tl:tl (Str.ofString "in")=[105,110]:=by decide +kernel
theorem part_in {t:Nat}{s:Int}{c:Nat}(h:c ∈ tl (yA t s)):(48 <= c /\ c <= 57) \/ c=60 \/ c=62:=by
 have fg:∀ {n c:Nat},c ∈ tl (fig n) -> 48 <= c /\ c <= 57:=fun z=>dg_iff.mp (zf.mp (fig_dg _) _ z)
 unfold yA at h
 rw [lt_is,gt_is] at h
 split at h
 ·exact .inl (fg h)
 ·split at h <;> rw [zu,zu] at h <;> rcases zW.mp h with y | y
  ·rcases zW.mp y with y | y
   ·exact .inl (fg y)
   ·simp [mk2,tl] at y; omega
  ·exact .inl (fg y)
  ·rcases zW.mp y with y | y
   ·exact .inl (fg y)
   ·simp [mk2,tl] at y; omega
  ·exact .inl (fg y)
theorem part_ne (t:Nat)(s:Int):∃ a r,tl (yA t s)=a :: r /\ 48 <= a /\ a <= 57:=by
 have:∃ r,tl (yA t s)=tl (fig t) ++ r:=by
  unfold yA
  split
  ·exact ⟨[],by simp⟩
  ·split <;> rw [zu,zu,List.append_assoc] <;> exact ⟨_,rfl⟩
 obtain ⟨r,e⟩:=this
 cases h:tl (fig t) with
 | nil=>exact absurd h (fig_ne t)
 | cons a q =>
  refine ⟨a,q ++ r,by rw [e,h]; rfl,?_⟩
  exact dg_iff.mp (zf.mp (fig_dg t) a (by rw [h]; exact zK ..))
theorem endR_part {t:Nat}{s:Int}(hs:s.natAbs <= 4000):endR (yA t s)=some ((t:Int),s,1):=by
 obtain ⟨a,r,e,h1,h2⟩:=part_ne t s
 have nn:yA t s ≠ Str.ofString "none":=fun z=>by
  have:=congrArg tl z
  rw [e,none_tl] at this
  injection this with this _
  omega
 have nm:minB (yA t s)=false:=by
  unfold minB
  rw [jS _ _ JB,e]
  exact decide_eq_false (fun z=>by injection z with z; omega)
 unfold endR
 rw [if_neg nn,nm,if_neg (by decide),if_neg (by decide),partR_S hs]
 rfl
theorem endR_min {t:Nat}{s:Int}(hs:s.natAbs <= 4000):endR (Str.ofString "-" ++ yA t s)=some ((t:Int),s,-1):=by
 have e:tl (Str.ofString "-" ++ yA t s)=45 :: tl (yA t s):=by rw [zu,JB]; rfl
 have nn:Str.ofString "-" ++ yA t s ≠ Str.ofString "none":=fun z=>by
  have:=congrArg tl z
  rw [e,none_tl] at this
  injection this with this _
  omega
 have nm:minB (Str.ofString "-" ++ yA t s)=true:=by
  unfold minB
  rw [jS _ _ JB,e]
  exact decide_eq_true rfl
 have sl:Txt.slice (Str.ofString "-" ++ yA t s) (some 1) none=yA t s:=yH (by
  rw [slice_1 (by rw [← yZ,e]; simp),e]
  rfl)
 unfold endR
 rw [if_neg nn,nm,if_pos rfl,if_pos rfl,sl,partR_S hs]
 rfl
def zAc (d:Wd):List Str:=[yA d.a d.s,jd d.w,yA d.b d.t]
def Jq (g:Go):List Str:=[Str.ofString "out",if g.sg=0 then Str.ofString "none" else if g.sg=1 then yA g.th g.sh else Str.ofString "-" ++ yA g.th g.sh]
theorem sign_tl (w:Str):tl (jd w)=[43] \/ tl (jd w)=[45]:=by
 unfold jd
 split
 ·exact .inl plus_tl
 ·exact .inr JB
theorem xV {t:Nat}{s:Int}{c:Nat}(h:c=32 \/ c=10):c ∉ tl (yA t s):=fun z=>by
 have:=part_in z
 omega
theorem splitD (d:Wd):Txt.split (xN d) (Str.ofString " ")=zAc d:=by
 rw [sp_is,show xN d=Str.join ⟨#[32]⟩ (zAc d) by
  unfold xN zAc
  rw [yh,yh,xP,sp_is,PySem.Str.append_assoc,PySem.Str.append_assoc,PySem.Str.append_assoc,PySem.Str.append_assoc,PySem.Str.append_assoc]]
 refine JA (fun p hp=>?_) (by unfold zAc; simp)
 unfold zAc at hp
 simp only [zI,zR,or_false] at hp
 rcases hp with rfl | rfl | rfl
 ·exact xV (.inl rfl)
 ·rcases sign_tl d.w with e | e <;> rw [e] <;> decide
 ·exact xV (.inl rfl)
theorem splitG (g:Go):Txt.split (xO g) (Str.ofString " ")=Jq g:=by
 have o1:Str.ofString "out none" = Str.ofString "out" ++ ⟨#[32]⟩ ++ Str.ofString "none":=yH (by decide +kernel)
 have o2:Str.ofString "out " = Str.ofString "out" ++ ⟨#[32]⟩:=yH (by decide +kernel)
 have o3:Str.ofString "out -" = Str.ofString "out" ++ ⟨#[32]⟩ ++ Str.ofString "-":=yH (by decide +kernel)
 rw [sp_is,show xO g=Str.join ⟨#[32]⟩ (Jq g) by
  unfold xO Jq
  rw [yh,xP,o1,o2,o3]
  split
  ·rfl
  ·split
   ·rfl
   ·rw [PySem.Str.append_assoc]]
 refine JA (fun p hp=>?_) (by unfold Jq; simp)
 unfold Jq at hp
 simp only [zI,zR,or_false] at hp
 rcases hp with rfl | rfl
 ·rw [out_tl]; decide
 ·split
  ·rw [none_tl]; decide
  ·split
   ·exact xV (.inl rfl)
   ·rw [zu,JB]
    intro y
    rcases zW.mp y with y | y
    ·exact absurd y (by decide)
    ·exact xV (.inl rfl) y
theorem deedR_D {d:Wd} (hw:d.w = "sum" \/ d.w = "less") (hs:d.s.natAbs <= 4000) (ht:d.t.natAbs <= 4000):deedR (zAc d)=some (d.w,((d.a:Int),d.s),((d.b:Int),d.t)):=by
 have e:xU (jd d.w)=some d.w:=by
  unfold jd xU
  rcases hw with e | e <;> rw [e] <;> decide +kernel
 show (match partR (yA d.a d.s),xU (jd d.w),partR (yA d.b d.t) with
  | some p,some w,some q=>some (w,p,q)
  | _,_,_=>none)=_
 rw [partR_S hs,e,partR_S ht]
theorem deedR_G (g:Go):deedR (Jq g)=none:=rfl
theorem outR_G {g:Go}(hg:g=⟨0,0,0⟩ \/ g.sg=1 \/ g.sg = -1)(hs:g.sh.natAbs <= 4000):goalR (Jq g)=some ((g.th:Int),g.sh,g.sg):=by
 show (if Str.ofString "out" = Str.ofString "out" then endR _ else none)=_
 rw [if_pos rfl]
 rcases hg with e | e | e
 ·subst e
  exact if_pos rfl
 ·rw [if_neg (by omega),if_pos e,endR_part hs,e]
 ·rw [if_neg (by omega),if_neg (by omega),endR_min hs,e]
theorem insR_fig {n:Nat}(h1:1 <= n)(h2:n <= 12):insR (Txt.split (Str.ofString "in " ++ fig n) (Str.ofString " "))=some (n:Int):=by
 have o2:Str.ofString "in " = Str.ofString "in" ++ ⟨#[32]⟩:=yH (by decide +kernel)
 rw [sp_is,o2,show Str.ofString "in" ++ ⟨#[32]⟩ ++ fig n=Str.join ⟨#[32]⟩ [Str.ofString "in",fig n] from rfl,JA (fun p hp=>?_) (by simp)]
 ·show (if Str.ofString "in" = Str.ofString "in" then (match figR (fig n) with
   | some n=>if 1 <= n /\ n <= 12 then some n else none
   | none=>none) else none)=_
  rw [if_pos rfl,zAG]
  exact if_pos (by omega)
 ·simp only [zI,zR,or_false] at hp
  rcases hp with rfl | rfl
  ·rw [in_tl]; decide
  ·exact JM (.inl (by decide))
theorem Ja {n:Nat}{ds:List Wd}{gs:List Go}:JFree 10 (linesS n ds gs):=fun p hp=>by
 have o2:Str.ofString "in " = Str.ofString "in" ++ ⟨#[32]⟩:=yH (by decide +kernel)
 rcases zI.mp hp with rfl | hp
 ·rw [zu,o2,zu,in_tl]
  intro y
  rcases zW.mp y with y | y
  ·exact absurd y (by decide)
  ·exact JM (.inl (by decide)) y
 ·rcases zW.mp hp with hp | hp
  ·obtain ⟨d,_,rfl⟩:=qP.mp hp
   unfold xN
   rw [zu,zu,zu,zu,sp_is]
   intro y
   rcases zW.mp y with y | y
   ·rcases zW.mp y with y | y
    ·rcases zW.mp y with y | y
     ·rcases zW.mp y with y | y
      ·exact xV (.inr rfl) y
      ·exact absurd y (by decide)
     ·rcases sign_tl d.w with e | e <;> rw [e] at y <;> exact absurd y (by decide)
    ·exact absurd y (by decide)
   ·exact xV (.inr rfl) y
  ·obtain ⟨g,_,rfl⟩:=qP.mp hp
   have n1:(10:Nat) ∉ tl (Str.ofString "out none"):=by decide +kernel
   have n2:(10:Nat) ∉ tl (Str.ofString "out "):=by decide +kernel
   have n3:(10:Nat) ∉ tl (Str.ofString "out -"):=by decide +kernel
   unfold xO
   split
   ·exact n1
   ·split <;> rw [zu] <;> intro y <;> rcases zW.mp y with y | y
    ·exact n2 y
    ·exact xV (.inr rfl) y
    ·exact n3 y
    ·exact xV (.inr rfl) y
theorem split_shown (n:Nat)(ds:List Wd)(gs:List Go):Txt.split (shownS n ds gs) (Str.ofString "\n")=linesS n ds gs:=by
 unfold shownS
 rw [StrLaws.glued_eq_join,nl_is]
 exact JA Ja (by unfold linesS; simp)
end L2
namespace L2
open PySem PySem.Spec PyProof.Rows PySem.NumText
def optI:Option Int -> V
 | none=>.non
 | some n=>.int n
theorem Jr {n:Int}:optI (some n) = .int n:=rfl
theorem Js:optI none = .non:=rfl
def spFigR:Sp:=fun vs H Q _=>∃ x:Str,vs=[.str x] /\ x.length <= 640 /\ ∀ H',Same H H' -> Q (optI (figR x)) H'
def Tld2 (H:Hp)(o:Option (Int × Int))(Q:VK):Prop:=(o=none -> ∀ H',Same H H' -> Q .non H') /\ ∀ t s,o=some (t,s) -> ∀ r H',Same H H' -> H' r=some (.tup [.int t,.int s]) -> Q (.ref r) H'
def spShR:Sp:=fun vs H Q _=>∃ (p:Addr) (a b c:Str) (sg:Int),vs=[.ref p,.int sg] /\ H p=some (.tup [.str a,.str b,.str c]) /\ a.length <= 640 /\ c.length <= 640 /\ (sg=1 \/ sg = -1) /\ Tld2 H (shR a c sg) Q
def zAH:Sp:=fun vs H Q _=>∃ x:Str,vs=[.str x] /\ x.length <= 640 /\ Tld2 H (partR x) Q
def spSignR:Sp:=fun vs H Q _=>∃ x:Str,vs=[.str x] /\ Q (match xU x with | none=>.non | some w=>.str w) H
def Tld3 (K:zA)(H:Hp)(o:Option (Int × Int × Int))(Q:VK):Prop:=(o=none -> ∀ H',Same H H' -> Q .non H') /\ ∀ t s g,o=some (t,s,g) -> ∀ r H',Same H H' -> SqT K H' r [.int t,.int s,.int g] -> Q (.ref r) H'
def spEndR (K:zA):Sp:=fun vs H Q _=>∃ x:Str,vs=[.str x] /\ x.length <= 640 /\ Tld3 K H (endR x) Q
def Jt (ws:List Str):Prop:=∀ w ∈ ws,w.length <= 640
def spGoalT (K:zA):Sp:=fun vs H Q _=>∃ (l:Addr) (ws:List Str),vs=[.ref l] /\ H l=some (.lst (ws.map V.str)) /\ Jt ws /\ Tld3 K H (goalR ws) Q
def spDeedT:Sp:=fun vs H Q _=>∃ (l:Addr) (ws:List Str),vs=[.ref l] /\ H l=some (.lst (ws.map V.str)) /\ Jt ws /\ (deedR ws=none -> ∀ H',Same H H' -> Q .non H') /\
 ∀ w a s b t,deedR ws=some (w,(a,s),(b,t)) -> ∀ r H',Same H H' -> H' r=some (.tup [.str w,.int a,.int s,.int b,.int t]) -> Q (.ref r) H'
def spInsR:Sp:=fun vs H Q _=>∃ x:Str,vs=[.str x] /\ x.length <= 1000000 /\ Jt (Txt.split x (Str.ofString " ")) /\ ∀ H',Same H H' -> Q (optI (insR (Txt.split x (Str.ofString " ")))) H'
end L2
namespace L2
open PySem PySem.Spec PyProof.Rows PySem.NumText
theorem ssub_len (x:Str)(i j:Nat):(Builtin.Str.strSub x i j).length <= x.length:=by
 rw [← yZ,← yZ]
 show (Builtin.Str.strSub x i j).cps.toList.length <= x.cps.toList.length
 rw [StrLaws.strSub_toList,qO,jM]
 omega
theorem Jb (x s:Str):(Txt.partition x s).1.length <= x.length /\ (Txt.partition x s).2.2.length <= x.length:=by
 unfold Txt.partition
 split
 ·exact ⟨ssub_len ..,ssub_len ..⟩
 ·exact ⟨zG _,yL _⟩
theorem sl1_len {x:Str}(h:1 <= x.length):(Txt.slice x (some 1) none).length <= x.length:=by
 rw [← yZ,slice_1 h,jM,← yZ]
 omega
theorem min_ne {x:Str}(h:minB x=true):1 <= x.length:=by
 unfold minB at h
 rw [jS _ _ JB] at h
 have h:=of_decide_eq_true h
 rw [← yZ]
 cases e:tl x with
 | nil=>rw [e] at h; cases h
 | cons a r=>simp
theorem goalR_no:∀ {ws:List Str},ws.length ≠ 2 -> goalR ws=none
 | [],_=>rfl
 | [_],_=>rfl
 | [_,_],h=>absurd rfl h
 | _ :: _ :: _ :: _,_=>rfl
theorem deedR_no:∀ {ws:List Str},ws.length ≠ 3 -> deedR ws=none
 | [],_=>rfl
 | [_],_=>rfl
 | [_,_],_=>rfl
 | [_,_,_],h=>absurd rfl h
 | _ :: _ :: _ :: _ :: _,_=>rfl
theorem insR_no:∀ {ws:List Str},ws.length ≠ 2 -> insR ws=none
 | [],_=>rfl
 | [_],_=>rfl
 | [_,_],h=>absurd rfl h
 | _ :: _ :: _ :: _,_=>rfl
theorem insR_in:∀ {ws:List Str} {n:Int},insR ws=some n -> 1 <= n /\ n <= 12
 | [],_,h=>by cases h
 | [_],_,h=>by cases h
 | [a,b],n,h=>by
  unfold insR at h
  simp only at h
  split at h
  ·split at h
   ·split at h
    ·cases h
     assumption
    ·cases h
   ·cases h
  ·cases h
 | _ :: _ :: _ :: _,_,h=>by cases h
theorem two_of {α:Type}:∀ {ws:List α},ws.length=2 -> ∃ a b,ws=[a,b]
 | [a,b],_=>⟨a,b,rfl⟩
theorem thr_of {α:Type}:∀ {ws:List α},ws.length=3 -> ∃ a b c,ws=[a,b,c]
 | [a,b,c],_=>⟨a,b,c,rfl⟩
def wrds (x:Str):List Str:=Txt.split x (Str.ofString " ")
def ya (ws:List Str):Option (List V):=(deedR ws).map fun p=>[.str p.1,.int p.2.1.1,.int p.2.1.2,.int p.2.2.1,.int p.2.2.2]
def yi (ws:List Str):Option (List V):=(goalR ws).map fun p=>[.int p.1,.int p.2.1,.int p.2.2]
structure RSt where
 ds:List (Option (List V))
 gs:List (Option (List V))
def jT (n:Nat)(st:RSt)(x:Str):Option RSt :=
 if st.gs.length=0 /\ yU (rowsC n st.ds) (ya (wrds x))=true then some ⟨st.ds ++ [ya (wrds x)],st.gs⟩
 else if st.gs.length < 12 /\ xg (rowsC n st.ds) (yi (wrds x))=true then some ⟨st.ds,st.gs ++ [yi (wrds x)]⟩ else none
def runR (n:Nat)(xs:List Str):Nat -> Option RSt
 | 0=>some ⟨[],[]⟩
 | i+1=>(runR n xs i).bind fun st=>(xs[i]?).bind (jT n st)
theorem JC {n:Nat}{xs:List Str}{i:Nat}{st:RSt}{x:Str}(h:runR n xs i=some st)(hx:xs[i]? = some x):runR n xs (i+1)=jT n st x:=by
 show ((runR n xs i).bind fun st=>(xs[i]?).bind (jT n st))=_
 rw [h,hx]
 rfl
def raisL (D:Addr)(k:Nat)(H:Hp)(E:XK):Prop:=∀ d H',H d=none -> Same H H' -> H' d=some (.xd [("line",.int (k:Nat))]) -> E (.ref D) (some d) H'
def oD (o:Option (List V)):List V:=o.getD []
theorem Jc {n:Nat}{xs:List Str}:∀ {i:Nat} {st:RSt},runR n xs i=some st -> (∀ j,j < st.ds.length -> jZ n st.ds j=true) /\ ∀ j,j < st.gs.length -> goodO n st.ds st.gs j=true
 | 0,st,h=>by
  cases h
  exact ⟨fun j hj=>absurd hj (Nat.not_lt_zero j),fun j hj=>absurd hj (Nat.not_lt_zero j)⟩
 | i+1,st,h=>by
  obtain ⟨s0,h0,h1⟩:=yK.mp h
  obtain ⟨x,_,h2⟩:=yK.mp h1
  obtain ⟨g1,g2⟩:=Jc h0
  unfold jT at h2
  split at h2
  ·rename_i c
   cases h2
   have e0:s0.gs=[]:=yG c.1
   refine ⟨fun j hj=>?_,fun j hj=>?_⟩
   ·rcases Nat.lt_or_ge j s0.ds.length with z | z
    ·show jZ n (s0.ds ++ _) j=true
     rw [goodD_app z]
     exact g1 j z
    ·have hj:j < (s0.ds ++ [ya (wrds x)]).length:=hj
     rw [qF,yI] at hj
     have ej:j=s0.ds.length:=by omega
     subst ej
     show jZ n (s0.ds ++ _) _=true
     have ec:(s0.ds ++ [ya (wrds x)])[s0.ds.length]? = some (ya (wrds x)):=by simp
     rw [JK ec,List.take_left]
     exact c.2
   ·have hj:j < s0.gs.length:=hj
    rw [e0] at hj
    exact absurd hj (Nat.not_lt_zero j)
  ·split at h2
   ·rename_i c
    cases h2
    refine ⟨g1,fun j hj=>?_⟩
    have hj:j < (s0.gs ++ [yi (wrds x)]).length:=hj
    rw [qF,yI] at hj
    show goodO n s0.ds (s0.gs ++ [yi (wrds x)]) j=true
    rcases Nat.lt_or_ge j s0.gs.length with z | z
    ·have:=g2 j z
     unfold goodO at this ⊢
     rw [qD,qH z,← qD]
     exact this
    ·have ej:j=s0.gs.length:=by omega
     subst ej
     have ec:(s0.gs ++ [yi (wrds x)])[s0.gs.length]? = some (yi (wrds x)):=by simp
     rw [zAC ec,decide_eq_true c.1,xL]
     exact c.2
   ·cases h2
end L2
namespace L2
open PySem PySem.Spec PyProof.Rows PySem.NumText
theorem cellD_D {d:Wd} (hw:d.w = "sum" \/ d.w = "less") (hs:d.s.natAbs <= 4000) (ht:d.t.natAbs <= 4000):ya (wrds (xN d))=some (xM d):=by
 unfold ya wrds
 rw [splitD,deedR_D hw hs ht]
 rfl
theorem cellD_G (g:Go):ya (wrds (xO g))=none:=by
 unfold ya wrds
 rw [splitG,deedR_G]
 rfl
theorem cellG_G {g:Go}(hg:g=⟨0,0,0⟩ \/ g.sg=1 \/ g.sg = -1)(hs:g.sh.natAbs <= 4000):yi (wrds (xO g))=some (gTp g):=by
 unfold yi wrds
 rw [splitG,outR_G hg hs]
 rfl
theorem deedB_no (rs:List (List Int)):yU rs none=false:=rfl
theorem outB_go {rs:List (List Int)}{g:Go}(h:xg rs (some (gTp g))=true):g=⟨0,0,0⟩ \/ g.sg=1 \/ g.sg = -1:=by
 unfold gTp at h
 rw [JJ,zB,xE] at h
 rcases h.2 with z | z
 ·have z:=of_decide_eq_true z
  simp only [List.cons.injEq,V.int.injEq,and_true] at z
  left
  cases g
  simp only at z
  congr 1
  ·omega
  ·exact z.2.1
  ·exact z.2.2
 ·rw [zB] at z
  have z:=z.1
  unfold inV at z
  rw [yW,yW,List.any_nil,jf,xE] at z
  rcases z with z | z
  ·exact .inr (.inl (of_decide_eq_true z).symm)
  ·exact .inr (.inr (of_decide_eq_true z).symm)
theorem go_ok {n:Nat}{ds:List Wd}{gs:List Go}(wp:WPlc n (cW ds) (cG gs) none){g:Go}(hg:g ∈ gs):g=⟨0,0,0⟩ \/ g.sg=1 \/ g.sg = -1:=by
 obtain ⟨k,hk⟩:=jC hg
 have kl:=(qB.mp hk).1
 have e:(cG gs)[k]? = some (some (gTp g)):=by unfold cG; rw [qI,hk]; rfl
 have h:=wp.2 k (by unfold cG; rw [qC]; exact kl)
 rw [zAC e,zB] at h
 exact outB_go h.2
theorem cG_gt {gs:List Go}{k:Nat}{g:Go}(hk:gs[k]? = some g):(cG gs)[k]? = some (some (gTp g)):=by unfold cG; rw [qI,hk]; rfl
theorem run_web {n:Nat}{ds:List Wd}{gs:List Go}(O:TxOk n ds gs)(wp:WPlc n (cW ds) (cG gs) none):∀ i,i <= ds.length+gs.length -> runR n (ds.map xN ++ gs.map xO) i=some ⟨cW (ds.take i),cG (gs.take (i - ds.length))⟩
 | 0,_=>by rw [List.take_zero,Nat.zero_sub,List.take_zero]; rfl
 | i+1,hi=>by
  have ih:=run_web O wp i (by omega)
  rcases Nat.lt_or_ge i ds.length with z | z
  ·have hd:=qA z
   generalize ds[i]=d at hd
   have hx:(ds.map xN ++ gs.map xO)[i]? = some (xN d):=by
    rw [qH (by rw [qC]; exact z),qI,hd]
    rfl
   obtain ⟨o1,_,_,o4,o5⟩:=O.dw d (qE hd)
   rw [JC ih hx]
   have g:=wp.1 i (by rw [cW_len]; exact z)
   rw [JK (cW_at hd),cW_take] at g
   unfold jT
   rw [cellD_D o1 o4 o5,if_pos ⟨by rw [show i - ds.length=0 by omega,List.take_zero]; rfl,g⟩,show i+1 - ds.length=0 by omega,show i - ds.length=0 by omega,List.take_succ,hd,Option.toList_some,cW_app]
   rfl
  ·have zi:i - ds.length < gs.length:=by omega
   have hg:=qA zi
   generalize gs[i - ds.length]=g at hg
   have hx:(ds.map xN ++ gs.map xO)[i]? = some (xO g):=by
    rw [qG (by rw [qC]; exact z),qC,qI,hg]
    rfl
   obtain ⟨_,_,o3⟩:=O.gw g (qE hg)
   rw [JC ih hx]
   have h:=wp.2 (i - ds.length) (by unfold cG; rw [qC]; exact zi)
   rw [zAC (cG_gt hg),zB] at h
   have l12:=of_decide_eq_true h.1
   unfold jT
   rw [cellD_G,deedB_no,if_neg (fun y=>by cases y.2),cellG_G (go_ok wp (qE hg)) o3,zm z,if_pos ⟨by show (cG (gs.take (i - ds.length))).length < 12; unfold cG; rw [qC,qO]; omega,h.2⟩]
   rw [zm (show ds.length <= i+1 by omega),show i+1 - ds.length=(i - ds.length)+1 by omega,List.take_succ (l:=gs),hg,Option.toList_some]
   unfold cG
   rw [xm]
   rfl
theorem run_over {n:Nat}{xs:List Str}{i:Nat}(h:xs.length < i):runR n xs i=none:=by
 obtain ⟨j,rfl⟩:∃ j,i=j+1:=⟨i - 1,by omega⟩
 show ((runR n xs j).bind fun st=>(xs[j]?).bind (jT n st))=none
 rw [List.getElem?_eq_none (by omega)]
 cases runR n xs j <;> rfl
theorem run_all {n:Nat}{ds:List Wd}{gs:List Go}(O:TxOk n ds gs)(wp:WPlc n (cW ds) (cG gs) none):runR n (ds.map xN ++ gs.map xO) (ds.map xN ++ gs.map xO).length=some ⟨cW ds,cG gs⟩:=by
 rw [qF,qC,qC,run_web O wp _ (zG _),zm (by omega),Nat.add_sub_cancel_left,xb]
theorem zAI {n:Nat}(h:n <= 9999):(fig n).length <= 4:=JZ h
theorem jF {t:Nat}{s:Int}(ht:t <= 1000)(hs:s.natAbs <= 4000):(yA t s).length <= 10:=by
 have h1:=zAI (n:=t) (by omega)
 have h2:=zAI (n:=s.natAbs) (by omega)
 unfold yA
 split
 ·omega
 ·split <;> rw [PySem.Str.length_append,PySem.Str.length_append]
  ·rw [len_lt]; omega
  ·rw [len_gt]; omega
theorem len_mn:(Str.ofString "-").length=1:=by decide +kernel
theorem hts_oD {H:Hp}{us:List V}{ds:List Wd}(h:HTs oD H us (cW ds)):HTs xM H us ds:=⟨by rw [h.len,cW_len],fun k d e=>h.at_ k _ (cW_at e)⟩
theorem hks_oD {K:zA}{H:Hp}{us:List V}{gs:List Go}(h:HKs K oD H us (cG gs)):HKs K gTp H us gs:=⟨by rw [h.len]; unfold cG; rw [qC],fun k d e=>h.at_ k _ (cG_gt e)⟩
theorem join_len {c:Str}{m:Nat}:∀ {ps:List Str},(∀ p ∈ ps,p.length <= m) -> (Str.join c ps).length <= ps.length * (m+c.length)
 | [],_=>yL _
 | [p],h=>by
  rw [xP]
  have:=h p (zK ..)
  rw [yI]
  omega
 | p :: p' :: r,h=>by
  rw [yh,PySem.Str.length_append,PySem.Str.length_append]
  have h1:=h p (zK ..)
  have h2:=join_len (c:=c) (fun x hx=>h x (zO p hx))
  rw [zP,Nat.succ_mul]
  omega
end L2
namespace L2
open PySem PySem.Spec PyProof.Rows PySem.NumText
def tThwN (H0:Hp)(te:TE):TE:=fun σ H Q=>te σ H fun x H1=>∃ d o kvs,x = .ref d /\ H0 d=none /\ H1 d=some (.frz o (.dK kvs)) /\ Q x (upd H1 d (.dK kvs))
theorem w_thwN {H0:Hp}{te:TE}{σ:St}{H:Hp}{Q:VK}:tThwN H0 te σ H Q=(te σ H fun x H1=>∃ d o kvs,x = .ref d /\ H0 d=none /\ H1 d=some (.frz o (.dK kvs)) /\ Q x (upd H1 d (.dK kvs))):=rfl
theorem w_dgFS {H:Hp}{Q:VK}{a:Addr}{x:Str}:rDGF (.ref a) (.str x) H Q = ∃ kvs,Rd H a (.dK kvs) /\ ∃ v,valV kvs (.inr x)=some v /\ Q v H :=
 propext ⟨fun ⟨a',k,e1,e2,q⟩=>by cases e1; rw [kV_s] at e2; subst e2; exact q,fun q=>⟨a,.inr x,rfl,rfl,q⟩⟩
theorem zAd {α:Type}{f:α -> Dt}(h:∀ a b,deq (f a) (f b)=true ↔ a=b):∀ (xs ys:List α),xp (xs.map f) (ys.map f)=true ↔ xs=ys
 | [],[]=>by rw [yo,xp]; simp
 | [],y :: ys=>by rw [yo,zU,JR (by simp)]; simp
 | x :: xs,[]=>by rw [yo,zU,JR (by simp)]; simp
 | x :: xs,y :: ys=>by
  rw [zU,zU,xp,zB,h,zAd h xs ys,List.cons.injEq]
theorem deq_w (d e:Wd):deq (.t ((xM d).map Dt.f)) (.t ((xM e).map Dt.f))=true ↔ d=e:=by
 cases d; cases e
 simp [xM,deq,xp,eqV]
 omega
theorem deq_g (d e:Go):deq (.t ((gTp d).map Dt.f)) (.t ((gTp e).map Dt.f))=true ↔ d=e:=by
 cases d; cases e
 simp [gTp,deq,xp,eqV]
 omega
theorem deq_web {n n':Nat}{ds ds':List Wd}{gs gs':List Go}:deq (webDt n ds gs) (webDt n' ds' gs')=true ↔ n=n' /\ ds=ds' /\ gs=gs':=by
 unfold webDt
 rw [deq,xp,xp,xp,xp,deq,deq,deq,zB,zB,zB,zAd deq_w,zAd deq_g]
 have:eqV (V.int (n:Int)) (V.int (n':Int))=true ↔ n=n':=by
  show ((n:Int) == (n':Int))=true ↔ _
  rw [beq_iff_eq]
  omega
 rw [this]
 simp
structure TGood (n:Nat) (ds:List Wd) (gs:List Go):Prop where
 n1:1 <= n
 n12:n <= 12
 O:TxOk n ds gs
 wp:WPlc n (cW ds) (cG gs) none
 wt:wts (cW ds) <= 8000
theorem map_inj {α β:Type}{f:α -> β}(hf:∀ a b,f a=f b -> a=b):∀ {xs ys:List α},xs.map f=ys.map f -> xs=ys
 | [],[],_=>rfl
 | [],_ :: _,h=>by cases h
 | _ :: _,[],h=>by cases h
 | x :: xs,y :: ys,h=>by
  rw [zU,zU] at h
  injection h with h1 h2
  rw [hf _ _ h1,map_inj hf h2]
theorem cW_inj {ds es:List Wd}(h:cW ds=cW es):ds=es:=by
 unfold cW at h
 refine map_inj (fun a b e=>?_) h
 cases a; cases b
 simp only [xM,Option.some.injEq,List.cons.injEq,V.str.injEq,V.int.injEq,and_true,Int.natCast_inj] at e
 obtain ⟨e1,e2,e3,e4,e5⟩:=e
 subst e1 e2 e3 e4 e5
 rfl
theorem cG_inj {ds es:List Go}(h:cG ds=cG es):ds=es:=by
 unfold cG at h
 refine map_inj (fun a b e=>?_) h
 cases a; cases b
 simp only [gTp,Option.some.injEq,List.cons.injEq,V.int.injEq,and_true,Int.natCast_inj] at e
 obtain ⟨e1,e2,e3⟩:=e
 subst e1 e2 e3
 rfl
theorem w_strI {n:Int}{H:Hp}{Q:VK}:rStrI [.int n] H Q=(n.natAbs.log2 < 1920 /\ Q (.str (figI n)) H) :=
 propext ⟨fun ⟨i,e,h⟩=>by cases e; exact h,fun h=>⟨n,rfl,h⟩⟩
def spLPartH:Sp:=fun vs H Q _=>∃ (t:Nat) (s:Int),vs=[.int t,.int s] /\ t <= 1000 /\ s.natAbs <= 4000 /\ ∀ H',Same H H' -> Q (.str (yA t s)) H'
end L2
namespace L2
open PySem PySem.Spec PyProof.Rows PySem.NumText
theorem deedT_itm {K:zA}{H:Hp}{Q:VK}{E:XK}{l:Addr}{ws:List Str}(hl:H l=some (.lst (ws.map V.str)))(hw:Jt ws)(q:∀ v H',Same H H' -> Itm K H' v (ya ws) -> (∀ c,ya ws=some c -> ∃ p,v = .ref p /\ H' p=some (.tup c)) -> Q v H'):spDeedT [.ref l] H Q E:=by
 refine ⟨l,ws,rfl,hl,hw,fun e H' s'=>?_,fun w a s b t e r H' s' h'=>?_⟩
 ·refine q _ H' s' ?_ ?_
  ·unfold ya
   rw [e]
   exact .inl rfl
  ·unfold ya
   rw [e]
   intro c z
   cases z
 ·have ec:ya ws=some [.str w,.int a,.int s,.int b,.int t]:=by unfold ya; rw [e]; rfl
  refine q _ H' s' ?_ ?_
  ·rw [ec]
   refine ⟨r,rfl,SqT.of h',fun u hu=>?_⟩
   simp only [zI,zR,or_false] at hu
   rcases hu with rfl | rfl | rfl | rfl | rfl <;> exact .inl rfl
  ·rw [ec]
   intro c z
   cases z
   exact ⟨r,rfl,h'⟩
theorem goalT_itm {K:zA}{H:Hp}{Q:VK}{E:XK}{l:Addr}{ws:List Str}(hl:H l=some (.lst (ws.map V.str)))(hw:Jt ws)(q:∀ v H',Same H H' -> Itm K H' v (yi ws) -> Q v H'):spGoalT K [.ref l] H Q E:=by
 refine ⟨l,ws,rfl,hl,hw,fun e H' s'=>?_,fun t s g e r H' s' h'=>?_⟩
 ·refine q _ H' s' ?_
  unfold yi
  rw [e]
  exact .inl rfl
 ·have ec:yi ws=some [.int t,.int s,.int g]:=by unfold yi; rw [e]; rfl
  refine q _ H' s' ?_
  rw [ec]
  refine ⟨r,rfl,h',fun u hu=>?_⟩
  simp only [zI,zR,or_false] at hu
  rcases hu with rfl | rfl | rfl <;> exact .inl rfl
theorem zAJ {n:Nat}{xs:List Str}:∀ {i:Nat} {st:RSt},runR n xs i=some st -> st.ds.length+st.gs.length=i
 | 0,st,h=>by cases h; rfl
 | i+1,st,h=>by
  obtain ⟨s0,h0,h1⟩:=yK.mp h
  obtain ⟨x,_,h2⟩:=yK.mp h1
  have ih:=zAJ h0
  unfold jT at h2
  split at h2
  ·cases h2
   show (s0.ds ++ _).length+s0.gs.length=_
   rw [qF,yI]
   omega
  ·split at h2
   ·cases h2
    show s0.ds.length+(s0.gs ++ _).length=_
    rw [qF,yI]
    omega
   ·cases h2
theorem mapF_at {α β:Type}{f:α -> β}{xs:List α}{i:Nat}{v:β}(h:(xs.map f)[i]? = some v):∃ x,xs[i]? = some x /\ v=f x:=by
 rw [qI] at h
 cases e:xs[i]? with
 | none=>rw [e] at h; cases h
 | some x=>rw [e] at h; exact ⟨x,rfl,(Option.some.inj h).symm⟩
theorem cutV_1 (x:V)(xs:List V):cutV (x :: xs) (some 1) none=xs:=by
 unfold cutV
 have e1:HT.sIx (x :: xs).length 0 (some 1)=1:=by
  unfold HT.sIx
  simp
 have e2:HT.sIx (x :: xs).length (x :: xs).length none=xs.length+1:=by
  unfold HT.sIx
  simp
 rw [e1,e2]
 simp
theorem line_join (d:Wd):Builtin.Str.glued (Str.ofString " ") [yA d.a d.s,jd d.w,yA d.b d.t]=xN d:=by
 rw [StrLaws.glued_eq_join]
 unfold xN
 rw [yh,yh,xP]
 simp only [PySem.Str.append_assoc]
theorem line_outS {g:Go}(h:g.sg=0 \/ g.sg=1 \/ g.sg = -1):∃ y:Str,atI [V.str (Str.ofString "-" ++ yA g.th g.sh),V.str (Str.ofString "none"),V.str (yA g.th g.sh)] (g.sg+1)=some (.str y) /\ Str.ofString "out " ++ y=xO g /\ y.length <= (yA g.th g.sh).length+4:=by
 have o1:Str.ofString "out " ++ Str.ofString "none" = Str.ofString "out none":=yH (by decide +kernel)
 have o2:Str.ofString "out " ++ Str.ofString "-" = Str.ofString "out -":=yH (by decide +kernel)
 unfold xO
 rcases h with e | e | e
 ·rw [e,if_pos rfl]
  exact ⟨_,rfl,o1,by rw [len_none]; omega⟩
 ·rw [e,if_neg (by decide),if_pos rfl]
  exact ⟨_,rfl,rfl,by omega⟩
 ·rw [e,if_neg (by decide),if_neg (by decide)]
  refine ⟨_,rfl,?_,by rw [PySem.Str.length_append,len_mn]; omega⟩
  rw [← PySem.Str.append_assoc,o2]
section
open PySem.W HT
variable {prog:Program}{w:World}{A:Around}{E:Value -> Shared -> Prop}{s:Shared}
end
section
variable {K:zA}{H H':Hp}{l:Addr}{o:HO}
end
end L2
namespace L2
open PySem PySem.Spec PyProof.Rows PySem.NumText
theorem zAe (x y:Str):∀ w ∈ Txt.split x y,w.length <= x.length:=by
 intro w hw
 unfold Txt.split at hw
 split at hw
 ·rw [zn.mp hw]; exact zG _
 ·split at hw
  ·rw [zn.mp hw]; exact zG _
  ·unfold Builtin.Str.partsBetween at hw
   obtain ⟨p,_,rfl⟩:=qP.mp hw
   exact ssub_len _ _ _
theorem zAf {x:Str}(h:x.length <= 640):Jt (wrds x):=fun w hw=>zD (zAe x _ w hw) h
def LOk (x:Str):Prop:=x.length <= 100 /\ 10 ∉ tl x
instance (x:Str):Decidable (LOk x):=by unfold LOk; infer_instance
theorem lok_D {d:Wd}(ha:d.a <= 1000)(hb:d.b <= 1000)(hs:d.s.natAbs <= 4000)(ht:d.t.natAbs <= 4000):LOk (xN d):=by
 refine ⟨?_,Ja (n:=1) (ds:=[d]) (gs:=[]) _ (zO _ (zK ..))⟩
 have h1:=jF ha hs
 have h2:=jF hb ht
 have h3:=zAE d.w
 unfold xN
 rw [PySem.Str.length_append,PySem.Str.length_append,PySem.Str.length_append,PySem.Str.length_append,h3,len_sp]
 omega
theorem lok_G {g:Go}(ht:g.th <= 1000)(hs:g.sh.natAbs <= 4000):LOk (xO g):=by
 refine ⟨?_,Ja (n:=1) (ds:=[]) (gs:=[g]) _ (zO _ (zK ..))⟩
 have h1:=jF ht hs
 unfold xO
 split
 ·decide +kernel
 ·split <;> rw [PySem.Str.length_append]
  ·rw [len_out]; omega
  ·rw [len_outm]; omega
theorem lok_in {n:Nat}(h:n <= 100):LOk (Str.ofString "in " ++ fig n):=by
 refine ⟨?_,Ja (n:=n) (ds:=[]) (gs:=[]) _ (zK ..)⟩
 have h1:=zAI (n:=n) (by omega)
 rw [PySem.Str.length_append,len_in]
 omega
theorem lok_web {n:Nat}{ds:List Wd}{gs:List Go}(O:TxOk n ds gs):∀ l ∈ linesS n ds gs,LOk l:=fun l hl=>by
 unfold linesS at hl
 rcases zI.mp hl with rfl | hl
 ·exact lok_in O.n1
 ·rcases zW.mp hl with hl | hl
  ·obtain ⟨d,hd,rfl⟩:=qP.mp hl
   obtain ⟨_,o2,o3,o4,o5⟩:=O.dw d hd
   exact lok_D o2 o3 o4 o5
  ·obtain ⟨g,hg,rfl⟩:=qP.mp hl
   obtain ⟨_,o2,o3⟩:=O.gw g hg
   exact lok_G o2 o3
theorem Jd {n:Nat}{xs:List Str}{i:Nat}(h:runR n xs i=none):∀ j,runR n xs (i+j)=none
 | 0=>h
 | j+1=>by
  show ((runR n xs (i+j)).bind fun st=>(xs[i+j]?).bind (jT n st))=none
  rw [Jd h j]
  rfl
end L2
namespace L2
open PySem PySem.Spec PyProof.Rows PySem.NumText
theorem part_gone {rs:List (List Int)}{a s:V}{x:Int}(e:a = .int x)(h:(rs.length:Int) <= x):xF rs a s=false:=by
 cases z:xF rs a s with
 | false=>rfl
 | true =>
  obtain ⟨k,y',e1,_,h1,_⟩:=partB_iff.mp z
  rw [e] at e1
  cases e1
  omega
end L2
namespace L2
open PySem PySem.Spec PyProof.Rows PySem.NumText
theorem lines_len1 (n:Nat)(ds:List Wd)(gs:List Go):(linesS n ds gs).length=1+ds.length+gs.length:=by
 unfold linesS
 rw [zP,qF,qC,qC]
 omega
section
variable {σ:St}{H:Hp}{Q:VK}{cs:List Nat}{te:TE}
end
end L2
namespace L2
open PySem PySem.Spec PyProof.Rows PySem.NumText
section
variable {K:zA}{H:Hp}
end
end L2
namespace L2
open PySem PySem.Spec PyProof.Rows PySem.NumText
def spShiftedB:Sp:=fun vs H Q _=>∃ n s:Int,vs=[.int n,.int s] /\ -4000 <= s /\ s <= 4000 /\ n.natAbs < 2 ^ 40000 /\ Q (shV n s) H
def spShRowNB:Sp:=fun vs H Q _=>∃ (l:Addr) (s:Int) (xs:List Int),vs=[.ref l,.int s] /\ H l=some (.tup (iT xs)) /\ xs.length <= 100 /\ (∀ x ∈ xs,x.natAbs < 2 ^ 31000) /\ -4000 <= s /\ s <= 4000 /\
 ∀ r H',H r=none -> Same H H' -> H' r=some (.lst (xs.map fun n=>shV n s)) -> Q (.ref r) H'
theorem RB.ltB {b:Nat}{rs:List (List Int)}{r:List Int}(h:RB b rs)(hr:r ∈ rs)(hb:b <= 30000):∀ x ∈ r,x.natAbs < 2 ^ 31000:=fun x hx=>yB ((h r hr).2 x hx) (Nat.pow_lt_pow_right (by decide) (by omega))
def spPartCB:Sp:=fun vs H Q _=>∃ (a s:V) (l:Addr) (ys:List V) (rs:List (List Int)),vs=[a,s,.ref l] /\ Cell H a /\ Cell H s /\ H l=some (.lst ys) /\ HTs iT H ys rs /\ RB 30000 rs /\ ∀ H',Same H H' -> Q (.bl (xF rs a s)) H'
def spDeedCB (K:zA):Sp:=fun vs H Q _=>∃ (v:V) (l:Addr) (c:Option (List V)) (ys:List V) (rs:List (List Int)),vs=[v,.ref l] /\ Itm K H v c /\ H l=some (.lst ys) /\ HTs iT H ys rs /\ RB 30000 rs /\ ∀ H',Same H H' -> Q (.bl (yU rs c)) H'
def spOutCB (K:zA):Sp:=fun vs H Q _=>∃ (v:V) (l:Addr) (c:Option (List V)) (ys:List V) (rs:List (List Int)),vs=[v,.ref l] /\ Itm K H v c /\ H l=some (.lst ys) /\ HTs iT H ys rs /\ RB 30000 rs /\ ∀ H',Same H H' -> Q (.bl (xg rs c)) H'
def spDRow4B (K:zA):Sp:=fun vs H Q _=>∃ (x l:Addr) (d:Wd) (ys:List V) (rs:List (List Int)) (ins:Nat),vs=[.ref x,.ref l] /\ SqT K H x (xM d) /\ H l=some (.lst ys) /\ HTs iT H ys rs /\ d.a < rs.length /\ d.b < rs.length /\ Sh4 d.s (rs.getD d.a []) /\ Sh4 d.t (rs.getD d.b []) /\ (∀ r ∈ rs,r.length=ins) /\ ins <= 12 /\ RB 30000 rs /\
 ∀ r H',H r=none -> Same H H' -> H' r=some (.tup (iT (rowD rs d))) -> Q (.ref r) H'
def spLMoved4B:Sp:=fun vs H Q _=>∃ (l:Addr) (xs:List Int) (s:Int),vs=[.ref l,.int s] /\ H l=some (.lst (xs.map V.int)) /\ xs.length <= 100 /\ (∀ x ∈ xs,x.natAbs < 2 ^ 31000) /\ -4000 <= s /\ s <= 4000 /\ ∀ r H',H r=none -> Same H H' -> H' r=some (.lst ((xs.map (mvI s)).map V.int)) -> Q (.ref r) H'
def spLPartCB:Sp:=fun vs H Q _=>∃ (l:Addr) (a s:V) (ys:List V) (rs:List (List Int)),vs=[.ref l,a,s] /\ H l=some (.lst ys) /\ HRs H [l] ys rs /\ Cell H a /\ Cell H s /\ RB 30000 rs /\
 (xF rs a s=false -> ∀ H',Same H H' -> Q .non H') /\
 (∀ (k:Nat) (y:Int),a = .int k -> s = .int y -> k < rs.length -> Sh4 y (rs.getD k []) -> ∀ r H',H r=none -> Same H H' -> H' r=some (.lst (((rs.getD k []).map (mvI y)).map V.int)) -> Q (.ref r) H')
def spLMadeCB (K:zA):Sp:=fun vs H Q _=>∃ (l:Addr) (v:V) (c:Option (List V)) (ys:List V) (rs:List (List Int)) (n:Nat),vs=[.ref l,v] /\ H l=some (.lst ys) /\ HRs H [l] ys rs /\ Itm K H v c /\ RB 30000 rs /\ (∀ r ∈ rs,r.length=n) /\ n <= 12 /\
 (yU rs c=false -> ∀ H',Same H H' -> Q .non H') /\
 (yU rs c=true -> ∀ r H',H r=none -> Same H H' -> H' r=some (.lst ((rowC rs c).map V.int)) -> Q (.ref r) H')
def spLOutCB (K:zA):Sp:=fun vs H Q _=>∃ (l:Addr) (v:V) (c:Option (List V)) (ys:List V) (rs:List (List Int)),vs=[.ref l,v] /\ H l=some (.lst ys) /\ HRs H [l] ys rs /\ Itm K H v c /\ RB 30000 rs /\ ∀ H',Same H H' -> Q (.bl (xg rs c)) H'
def spReadB (K:zA)(D:Addr):Sp:=fun vs H Q E=>(∃ (x l0:Str) (ls:List Str),vs=[.str x] /\ x.length <= 1000000 /\ Txt.split x (Str.ofString "\n")=l0 :: ls /\ ls.length <= 400 /\ (∀ l ∈ l0 :: ls,l.length <= 1000000 /\ Jt (wrds l)) /\ (insR (wrds l0)=none -> raisL D 0 H E) /\
  ∀ n:Nat,insR (wrds l0)=some (n:Int) -> (∀ i st,runR n ls i=some st -> RB 30000 (rowsC n st.ds)) /\
   (∀ st,runR n ls ls.length=some st -> ∀ r a b us ws H',Same H H' -> H a=none -> H b=none -> a ≠ b -> H' r=some (.tup [.int n,.ref a,.ref b]) -> H' a=some (.lst us) -> H' b=some (.lst ws) -> HTs oD H' us st.ds -> HKs K oD H' ws st.gs -> Q (.ref r) H') /\
   ∀ i st x,ls[i]? = some x -> runR n ls i=some st -> jT n st x=none -> raisL D (i+1) H E) \/
 ∃ v:V,vs=[v] /\ (∀ R:VK,R (.bl false) H -> rIsI K [v,.ty "str"] H R) /\ raisL D 0 H E
end L2
namespace L2
open PySem PySem.Spec PyProof.Rows PySem.NumText
theorem rb_key {n:Nat}{cs:List (Option (List V))}(hn:n <= 12):∀ k,k <= cs.length -> (∀ j,j < k -> jZ n cs j=true) -> RB (4001 * k) (rowsC n (cs.take k)):=by
 intro k
 induction k with
 | zero =>
  intro _ _ r hr
  have:r ∈ rows0 n:=hr
  unfold rows0 at this
  obtain ⟨i,_,rfl⟩:=qP.mp this
  refine ⟨by rw [JI]; exact hn,fun x hx=>?_⟩
  rcases unitRow_bound hx with z | z <;> subst z <;> (show _ <= 2 ^ 0; decide)
 | succ k ih =>
  intro hk hg
  have hk':k < cs.length:=by omega
  have e:=qA hk'
  generalize cs[k]=c at e
  have I:=ih (by omega) (fun j hj=>hg j (by omega))
  have g:=hg k (by omega)
  rw [JK e] at g
  obtain ⟨d,rfl,_,h1,h2,s1,s2⟩:=deedB_iff.mp g
  rw [zAr e,rowC_w]
  have wd:=zAD (n:=n) (cs:=cs) (k:=k) (by omega) (fun j hj=>hg j (by omega))
  refine I.snoc (by omega) (by rw [rowD_len wd h1 h2]; exact hn) ?_
  have u1:=s1.2.1
  have u2:=s2.2.1
  have:=rowD_any I h1 h2 (c:=4000) (by omega) (by omega)
  rw [show 4001 * (k+1)=4001 * k+(4000+1) by omega]
  exact this
theorem run_rbB {n:Nat}{ls:List Str}(hn:n <= 12)(hl:ls.length <= 7){i:Nat}{st:RSt}(h:runR n ls i=some st):RB 30000 (rowsC n st.ds):=by
 have g:=Jc h
 have len:=zAJ h
 have il:i <= ls.length:=Nat.le_of_not_lt fun z=>by rw [run_over z] at h; cases h
 have:=rb_key hn st.ds.length (zG _) g.1
 rw [xb] at this
 exact fun r hr=>⟨(this r hr).1,fun x hx=>zD ((this r hr).2 x hx) (qN (by decide) (by omega))⟩
theorem run_st {n:Nat}{xs:List Str}:∀ {i:Nat} {st:RSt},runR n xs i=some st -> ∃ ds gs,st=⟨cW ds,cG gs⟩
 | 0,st,h=>by cases h; exact ⟨[],[],rfl⟩
 | i+1,st,h=>by
  obtain ⟨s0,h0,h1⟩:=yK.mp h
  obtain ⟨x,_,h2⟩:=yK.mp h1
  obtain ⟨ds,gs,rfl⟩:=run_st h0
  unfold jT at h2
  split at h2
  ·rename_i c
   cases h2
   obtain ⟨d,e,_⟩:=deedB_iff.mp c.2
   refine ⟨ds ++ [d],gs,?_⟩
   rw [cW_app,e]
   rfl
  ·split at h2
   ·rename_i c
    cases h2
    have hb:=c.2
    unfold yi at hb ⊢
    cases hg:goalR (wrds x) with
    | none=>rw [hg] at hb; cases hb
    | some q =>
     obtain ⟨t,s,g⟩:=q
     rw [hg] at hb
     have hb:xg (rowsC n (cW ds)) (some [.int t,.int s,.int g])=true:=hb
     rw [JJ,zB,xE] at hb
     have ht:0 <= t:=by
      rcases hb.2 with z | z
      ·have z:=of_decide_eq_true z
       simp only [List.cons.injEq,V.int.injEq,and_true] at z
       omega
      ·rw [zB] at z
       obtain ⟨k,y,e1,_⟩:=partB_iff.mp z.2
       cases e1
       omega
     obtain ⟨k,rfl⟩:=xf ht
     refine ⟨ds,gs ++ [⟨k,s,g⟩],?_⟩
     unfold cG
     rw [xm]
     rfl
   ·cases h2
theorem Jl (c:Nat):∀ (ps:List Str),ps.length <= 1+(tl (Str.join ⟨#[c]⟩ ps)).count c
 | []=>yL _
 | [p]=>by rw [yI]; omega
 | p :: q :: r=>by
  have ih:=Jl c (q :: r)
  rw [yh,zu,zu,ym,ym,zP]
  have:(tl (⟨#[c]⟩:Str)).count c=1:=by show List.count c [c]=1; simp
  rw [this]
  omega
theorem zAm (x:Str):(Txt.split x (Str.ofString "\n")).length <= 1+(tl x).count 10:=by
 have h:=Jl 10 (Txt.split x (Str.ofString "\n"))
 rw [← nl_is,StrLaws.join_split] at h
 exact h
def limF (m:Nat)(x:Str):Option Int:=if m < x.length then none else figR x
theorem fold_ge:∀ (r:List Nat) (a:Nat),a * 10 ^ r.length <= r.foldl (fun acc c=>acc * 10+(c - 48)) a
 | [],a=>by simp
 | c :: r,a=>by
  rw [List.foldl_cons,zP]
  refine zD ?_ (fold_ge r _)
  rw [Nat.pow_succ,Nat.mul_comm (10 ^ r.length) 10,← Nat.mul_assoc]
  exact Nat.mul_le_mul_right _ (Nat.le_add_right _ _)
theorem figR_ge {x:Str}{v:Int}(h:figR x=some v):0 <= v /\ (1 < x.length -> (10:Int) ^ (x.length - 1) <= v):=by
 unfold figR at h
 split at h
 ·cases h
 ·rename_i c
  cases h
  refine ⟨by omega,fun l=>?_⟩
  have c1:¬ tl x=[]:=fun z=>c (.inl z)
  have c2:(tl x).all isDg=true:=yS fun z=>c (.inr (.inl z))
  have c3:¬ ((tl x).head? = some 48 /\ tl x ≠ [48]):=fun z=>c (.inr (.inr z))
  rw [← yZ] at l ⊢
  cases e:tl x with
  | nil=>exact absurd e c1
  | cons a r =>
   rw [e] at c2 c3 l
   have ha:=dg_iff.mp (zf.mp c2 a (zK ..))
   have na:a ≠ 48:=fun z=>c3 ⟨by rw [z]; rfl,fun y=>by rw [y] at l; exact absurd l (by decide)⟩
   have:=fold_ge r (a - 48)
   show (10:Int) ^ (r.length+1 - 1) <= ((List.foldl (fun acc c=>acc * 10+(c - 48)) (0 * 10+(a - 48)) r:Nat):Int)
   rw [Nat.add_sub_cancel,Nat.zero_mul,Nat.zero_add]
   have h1:10 ^ r.length <= (a - 48) * 10 ^ r.length:=Nat.le_mul_of_pos_left _ (by omega)
   exact_mod_cast zD h1 this
def shRL (a c:Str)(sg:Int):Option (Int × Int):=match limF 60 a,limF 4 c with
 | some t,some s=>if s=0 then none else some (t,sg * s)
 | _,_=>none
def xj (x:Str):Option (Int × Int):=if Txt.contains x (Str.ofString "<<")=true then shRL (Txt.partition x (Str.ofString "<<")).1 (Txt.partition x (Str.ofString "<<")).2.2 1
 else if Txt.contains x (Str.ofString ">>")=true then shRL (Txt.partition x (Str.ofString ">>")).1 (Txt.partition x (Str.ofString ">>")).2.2 (-1)
 else (limF 60 x).map fun n=>(n,0)
def Alk (p q:Option (Int × Int)):Prop:=p=q \/ (p=none /\ ∃ t s,q=some (t,s) /\ 1000 < t)
theorem big60 {x:Str}{v:Int}(h:figR x=some v)(l:60 < x.length):1000 < v:=by
 have:=(figR_ge h).2 (by omega)
 have e:(10:Int) ^ (x.length - 1)=10 ^ 59 * 10 ^ (x.length - 60):=by rw [← Int.pow_add]; congr 1; omega
 have p:(0:Int) < 10 ^ (x.length - 60):=Int.pow_pos (by decide)
 have:(10:Int) ^ 59 * 1 <= 10 ^ 59 * 10 ^ (x.length - 60):=Int.mul_le_mul_of_nonneg_left (by omega) (by decide)
 have:(1000:Int) < 10 ^ 59 * 1:=by decide
 omega
theorem shRL_alk (a c:Str)(sg:Int):Alk (shRL a c sg) (shR a c sg):=by
 unfold shRL shR limF
 by_cases h1:60 < a.length
 ·rw [if_pos h1]
  cases e:figR a with
  | none=>exact .inl rfl
  | some t =>
   cases e2:figR c with
   | none=>exact .inl rfl
   | some s =>
    by_cases z:s=0 \/ 4 < c.length
    ·refine .inl ?_
     show none=(if s=0 \/ 4 < c.length then none else some (t,sg * s))
     rw [if_pos z]
    ·refine .inr ⟨rfl,t,sg * s,?_,big60 e h1⟩
     show (if s=0 \/ 4 < c.length then none else some (t,sg * s))=_
     rw [if_neg z]
 ·rw [if_neg h1]
  by_cases h2:4 < c.length
  ·rw [if_pos h2]
   refine .inl ?_
   cases e:figR a with
   | none=>rfl
   | some t =>
    cases e2:figR c with
    | none=>rfl
    | some s =>
     show none=(if s=0 \/ 4 < c.length then none else some (t,sg * s))
     rw [if_pos (.inr h2)]
  ·rw [if_neg h2]
   refine .inl ?_
   cases e:figR a with
   | none=>rfl
   | some t =>
    cases e2:figR c with
    | none=>rfl
    | some s =>
     show (if s=0 then none else some (t,sg * s))=(if s=0 \/ 4 < c.length then none else some (t,sg * s))
     by_cases z:s=0
     ·rw [if_pos z,if_pos (.inl z)]
     ·rw [if_neg z,if_neg (by omega)]
theorem partRL_alk (x:Str):Alk (xj x) (partR x):=by
 unfold xj partR
 split
 ·exact shRL_alk _ _ _
 ·split
  ·exact shRL_alk _ _ _
  ·unfold limF
   by_cases h1:60 < x.length
   ·rw [if_pos h1]
    cases e:figR x with
    | none=>exact .inl rfl
    | some t=>exact .inr ⟨rfl,t,0,rfl,big60 e h1⟩
   ·rw [if_neg h1]
    exact .inl rfl
def JN (ws:List Str):Option (Str × (Int × Int) × (Int × Int)):=match ws with
 | [a,b,c]=>if b=Str.ofString "+" \/ b=Str.ofString "-" then (match xj a,xj c with
  | some p,some q=>some (if b=Str.ofString "+" then Str.ofString "sum" else Str.ofString "less",p,q)
  | _,_=>none) else none
 | _=>none
def endRL (x:Str):Option (Int × Int × Int):=if x=Str.ofString "none" then some (0,0,0)
 else (xj (if minB x then Txt.slice x (some 1) none else x)).map fun p=>(p.1,p.2,if minB x then -1 else 1)
def JO (ws:List Str):Option (Int × Int × Int):=match ws with
 | [a,b]=>if a=Str.ofString "out" then endRL b else none
 | _=>none
def xR (ws:List Str):Option (List V):=(JN ws).map fun p=>[.str p.1,.int p.2.1.1,.int p.2.1.2,.int p.2.2.1,.int p.2.2.2]
def xK (ws:List Str):Option (List V):=(JO ws).map fun p=>[.int p.1,.int p.2.1,.int p.2.2]
theorem part_far {rs:List (List Int)}{t s:Int}(h:rs.length <= 1000)(ht:1000 < t):xF rs (.int t) (.int s)=false:=part_gone rfl (by omega)
theorem deed_alk {rs:List (List Int)}{ws:List Str}(h:rs.length <= 1000):yU rs (xR ws)=yU rs (ya ws) /\ (yU rs (ya ws)=true -> xR ws=ya ws):=by
 have key:JN ws=deedR ws \/ (yU rs (xR ws)=false /\ yU rs (ya ws)=false):=by
  match ws with
  | [a,b,c] =>
   by_cases hb:b=Str.ofString "+" \/ b=Str.ofString "-"
   ·have es:xU b=some (if b=Str.ofString "+" then Str.ofString "sum" else Str.ofString "less"):=by
     unfold xU
     by_cases z:b=Str.ofString "+"
     ·rw [if_pos z,if_pos z]
     ·rw [if_neg z,if_neg z,if_pos (hb.resolve_left z)]
    have e1:JN [a,b,c]=(match xj a,xj c with
      | some p,some q=>some (if b=Str.ofString "+" then Str.ofString "sum" else Str.ofString "less",p,q)
      | _,_=>none):=if_pos hb
    have e2:deedR [a,b,c]=(match partR a,partR c with
      | some p,some q=>some (if b=Str.ofString "+" then Str.ofString "sum" else Str.ofString "less",p,q)
      | _,_=>none):=by
     show (match partR a,xU b,partR c with
      | some p,some w,some q=>some (w,p,q)
      | _,_,_=>none)=_
     rw [es]
     cases partR a with
     | none=>rfl
     | some p=>cases partR c <;> rfl
    rcases partRL_alk a with ea | ⟨ea,t,s,ea2,ht⟩
    ·rcases partRL_alk c with ec | ⟨ec,t,s,ec2,ht⟩
     ·refine .inl ?_
      rw [e1,e2,ea,ec]
     ·cases pa:partR a with
      | none=>refine .inl ?_; rw [e1,e2,ea,pa]
      | some p =>
       refine .inr ⟨?_,?_⟩
       ·unfold xR
        rw [e1,ea,pa,ec]
        rfl
       ·unfold ya
        rw [e2,pa,ec2]
        show yU rs (some [_,_,_,.int t,.int s])=false
        rw [zAB,part_far h ht,Bool.and_false]
    ·cases pc:partR c with
     | none =>
      refine .inl ?_
      rw [e1,e2,ea,ea2,pc]
     | some q =>
      refine .inr ⟨?_,?_⟩
      ·unfold xR
       rw [e1,ea]
       rfl
      ·unfold ya
       rw [e2,ea2,pc]
       show yU rs (some [_,.int t,.int s,_,_])=false
       rw [zAB,part_far h ht,Bool.and_false,Bool.false_and]
   ·have es:xU b=none:=by
     unfold xU
     rw [if_neg (fun z=>hb (.inl z)),if_neg (fun z=>hb (.inr z))]
    refine .inl ?_
    have e1:JN [a,b,c]=none:=if_neg hb
    rw [e1]
    show none=(match partR a,xU b,partR c with
      | some p,some w,some q=>some (w,p,q)
      | _,_,_=>none)
    rw [es]
    cases partR a <;> rfl
  | []=>exact .inl rfl
  | [_]=>exact .inl rfl
  | [_,_]=>exact .inl rfl
  | _ :: _ :: _ :: _ :: _=>exact .inl rfl
 rcases key with e | ⟨e1,e2⟩
 ·have:xR ws=ya ws:=by unfold xR ya; rw [e]
  rw [this]
  exact ⟨rfl,fun _=>rfl⟩
 ·rw [e1,e2]
  exact ⟨rfl,fun z=>by cases z⟩
theorem goal_alk {rs:List (List Int)}{ws:List Str}(h:rs.length <= 1000):xg rs (xK ws)=xg rs (yi ws) /\ (xg rs (yi ws)=true -> xK ws=yi ws):=by
 have key:JO ws=goalR ws \/ (xg rs (xK ws)=false /\ xg rs (yi ws)=false):=by
  match ws with
  | [a,b] =>
   by_cases ha:a=Str.ofString "out"
   ·have e1:JO [a,b]=endRL b:=if_pos ha
    have e2:goalR [a,b]=endR b:=if_pos ha
    by_cases hb:b=Str.ofString "none"
    ·refine .inl ?_
     rw [e1,e2]
     unfold endRL endR
     rw [if_pos hb,if_pos hb]
    ·have f1:endRL b=(xj (if minB b then Txt.slice b (some 1) none else b)).map fun p=>(p.1,p.2,if minB b then -1 else 1):=if_neg hb
     have f2:endR b=(partR (if minB b then Txt.slice b (some 1) none else b)).map fun p=>(p.1,p.2,if minB b then -1 else 1):=if_neg hb
     rcases partRL_alk (if minB b then Txt.slice b (some 1) none else b) with ea | ⟨ea,t,s,ea2,ht⟩
     ·refine .inl ?_
      rw [e1,e2,f1,f2,ea]
     ·refine .inr ⟨?_,?_⟩
      ·unfold xK
       rw [e1,f1,ea]
       rfl
      ·unfold yi
       rw [e2,f2,ea2]
       show xg rs (some [.int t,.int s,.int (if minB b=true then -1 else 1)])=false
       rw [JJ,part_far h ht,Bool.and_false,jf]
       have:decide ([V.int t,V.int s,V.int (if minB b=true then -1 else 1)]=[.int 0,.int 0,.int 0])=false:=decide_eq_false (fun z=>by simp only [List.cons.injEq,V.int.injEq] at z; omega)
       rw [this,Bool.and_false]
   ·refine .inl ?_
    have e1:JO [a,b]=none:=if_neg ha
    have e2:goalR [a,b]=none:=if_neg ha
    rw [e1,e2]
  | []=>exact .inl rfl
  | [_]=>exact .inl rfl
  | _ :: _ :: _ :: _=>exact .inl rfl
 rcases key with e | ⟨e1,e2⟩
 ·have:xK ws=yi ws:=by unfold xK yi; rw [e]
  rw [this]
  exact ⟨rfl,fun _=>rfl⟩
 ·rw [e1,e2]
  exact ⟨rfl,fun z=>by cases z⟩
theorem not_both (ws:List Str):ya ws=none \/ yi ws=none:=by
 match ws with
 | []=>exact .inl rfl
 | [_]=>exact .inl rfl
 | [_,_]=>exact .inl rfl
 | _ :: _ :: _ :: _=>exact .inr rfl
theorem find_parts {x m:Str}(h:Txt.contains x m=true):∃ i:Nat,Txt.find x m=(i:Int) /\ i+m.length <= x.length /\ Txt.slice x none (some (i:Int))=(Txt.partition x m).1 /\ Txt.slice x (some ((i+m.length:Nat):Int)) none=(Txt.partition x m).2.2:=by
 unfold Txt.contains at h
 unfold Txt.find Txt.partition
 rcases StrLaws.occ_head x m 1 (zG 1) with ⟨h0,_⟩ | ⟨i,r,h0,hi,_⟩
 ·rw [h0] at h
  cases h
 ·rw [h0]
  have il:=hi.1
  refine ⟨i,rfl,il,?_,?_⟩
  ·have e:Txt.slice x none (some (i:Int))=StrLaws.sliceText x none (some (i:Int)):=rfl
   rw [e,StrLaws.sliceText_to ⟨by omega,by rw [show x.cps.toList.length=x.length from zj]; omega⟩]
   refine yH ?_
   show ((x.cps.toList.drop 0).take ((i:Int) - 0).toNat)=(Builtin.Str.strSub x 0 i).cps.toList
   rw [StrLaws.strSub_toList]
   congr 1
  ·have e:Txt.slice x (some ((i+m.length:Nat):Int)) none=StrLaws.sliceText x (some ((i+m.length:Nat):Int)) none:=rfl
   have xl:x.cps.toList.length=x.length:=zj
   rw [e,StrLaws.sliceText_from ⟨by omega,by rw [xl]; omega⟩]
   refine yH ?_
   show ((x.cps.toList.drop ((i+m.length:Nat):Int).toNat).take _)=(Builtin.Str.strSub x (i+m.length) x.length).cps.toList
   rw [StrLaws.strSub_toList,zb]
   congr 1
   rw [xl]
   omega
end L2
namespace L2
open PySem PySem.Spec PyProof.Rows PySem.NumText
section
variable {X:Cx}
theorem op_notInS:OpR X (compareOp .NotIn) (rInS true):=by
 intro pins s σ H x y v u Q I rx ry h
 obtain ⟨a,b,rfl,rfl,q⟩:=h
 obtain ⟨t,rfl⟩:=rx
 obtain ⟨t',rfl⟩:=ry
 exact P.notIn_str ⟨.bl _,H,I,rfl,q⟩
def rFind:V -> List V -> Hp -> VK -> Prop:=fun x vs H Q=>∃ a b:Str,x = .str a /\ vs=[.str b] /\ Q (.int (Txt.find a b)) H
theorem mt_find:MtR X "str.find" rFind:=by
 intro pins s σ H x vs v us Q I rx rv h
 obtain ⟨a,b,rfl,rfl,q⟩:=h
 obtain ⟨t,rfl⟩:=rx
 obtain ⟨u,rfl,ru⟩:=rv.one
 obtain ⟨u,rfl⟩:=ru
 exact SC.find ⟨.int _,H,I.tok _,⟨_,rfl⟩,q⟩
end
section
variable {H:Hp}{Q:VK}
theorem w_notInS {a b:Str}:rInS true (.str a) (.str b) H Q=Q (.bl (!Txt.contains b a)) H :=
 propext ⟨fun ⟨a',b',e1,e2,h⟩=>by cases e1; cases e2; exact h,fun h=>⟨a,b,rfl,rfl,h⟩⟩
theorem w_find {a b:Str}:rFind (.str a) [.str b] H Q=Q (.int (Txt.find a b)) H :=
 propext ⟨fun ⟨a',b',e1,e2,h⟩=>by cases e1; cases e2; exact h,fun h=>⟨a,b,rfl,rfl,h⟩⟩
end
theorem figR_small {b:Str}{n:Int}(h:figR b=some n)(hn:n <= 12):∃ k:Nat,n=k /\ b=fig k:=by
 have g:=figR_ge h
 have l2:b.length <= 2:=Nat.le_of_not_lt fun z=>by
  have h1:=g.2 (by omega)
  have e:(10:Int) ^ (b.length - 1)=10 ^ 2 * 10 ^ (b.length - 3):=by rw [← Int.pow_add]; congr 1; omega
  have p:(0:Int) < 10 ^ (b.length - 3):=Int.pow_pos (by decide)
  have:(10:Int) ^ 2 * 1 <= 10 ^ 2 * 10 ^ (b.length - 3):=Int.mul_le_mul_of_nonneg_left (by omega) (by decide)
  have:(12:Int) < 10 ^ 2 * 1:=by decide
  omega
 unfold figR at h
 split at h
 ·cases h
 ·rename_i c
  cases h
  have c1:¬ tl b=[]:=fun z=>c (.inl z)
  have c2:(tl b).all isDg=true:=yS fun z=>c (.inr (.inl z))
  have c3:¬ ((tl b).head? = some 48 /\ tl b ≠ [48]):=fun z=>c (.inr (.inr z))
  refine ⟨_,rfl,?_⟩
  rw [← yZ] at l2
  match e:tl b,l2 with
  | [],_=>exact absurd e c1
  | [a],_ =>
   rw [e] at c2
   have ha:=dg_iff.mp (zf.mp c2 a (zK ..))
   have ev:digitsVal [a]=a - 48:=by show 0 * 10+(a - 48)=_; omega
   rw [ev,jc (by omega)]
   refine yH ?_
   rw [e]
   show [a]=[48+(a - 48)]
   rw [show 48+(a - 48)=a by omega]
  | [a,d],_ =>
   rw [e] at c2 c3
   have ha:=dg_iff.mp (zf.mp c2 a (zK ..))
   have hd:=dg_iff.mp (zf.mp c2 d (zO _ (zK ..)))
   have na:a ≠ 48:=fun z=>c3 ⟨by rw [z]; rfl,by simp⟩
   have ev:digitsVal [a,d]=(a - 48) * 10+(d - 48):=by show (0 * 10+(a - 48)) * 10+(d - 48)=_; omega
   rw [ev,fig_up (by omega),jc (by omega)]
   refine yH ?_
   rw [e]
   show [a,d]=[48+((a - 48) * 10+(d - 48)) / 10] ++ [48+((a - 48) * 10+(d - 48)) % 10]
   rw [show ((a - 48) * 10+(d - 48)) / 10=a - 48 by omega,show ((a - 48) * 10+(d - 48)) % 10=d - 48 by omega,show 48+(a - 48)=a by omega,show 48+(d - 48)=d by omega]
   rfl
theorem ins_line {x:Str}{n:Int}(h:insR (wrds x)=some n):∃ k:Nat,n=k /\ 1 <= k /\ k <= 12 /\ x=Str.ofString "in " ++ fig k:=by
 have ej:Str.join (Str.ofString " ") (wrds x)=x:=StrLaws.join_split _ _
 generalize wrds x=ws at h ej
 match ws,h with
 | [a,b],h =>
  unfold insR at h
  simp only at h
  split at h
  ·rename_i ha
   split at h
   ·rename_i m hm
    split at h
    ·rename_i hb
     cases h
     obtain ⟨k,rfl,e⟩:=figR_small hm hb.2
     refine ⟨k,rfl,by omega,by omega,?_⟩
     rw [← ej,yh,xP,ha,e]
     have o2:Str.ofString "in" ++ Str.ofString " " = Str.ofString "in ":=yH (by decide +kernel)
     rw [o2]
    ·cases h
   ·cases h
  ·cases h
 | [],h=>cases h
 | [_],h=>cases h
 | _ :: _ :: _ :: _,h=>cases h
theorem ins_none {x:Str}(h:insR (wrds x)=none)(k:Nat)(h1:1 <= k)(h2:k <= 12):x ≠ Str.ofString "in " ++ fig k:=fun e=>by
 have:=insR_fig h1 h2
 rw [← e] at this
 unfold wrds at h
 rw [h] at this
 cases this
def spNumL:Sp:=fun vs H Q _=>∃ (x:Str) (m:Nat),vs=[.str x,.int m] /\ m <= 640 /\ x.length <= 640 /\ ∀ H',Same H H' -> Q (optI (limF m x)) H'
def spWrtL:Sp:=fun vs H Q _=>∃ x:Str,vs=[.str x] /\ x.length <= 640 /\ Tld2 H (xj x) Q
def spLDeedL:Sp:=fun vs H Q _=>∃ x:Str,vs=[.str x] /\ x.length <= 640 /\ (JN (wrds x)=none -> ∀ H',Same H H' -> Q .non H') /\
 ∀ w a s b t,JN (wrds x)=some (w,(a,s),(b,t)) -> ∀ r H',Same H H' -> H' r=some (.tup [.str w,.int a,.int s,.int b,.int t]) -> Q (.ref r) H'
def spLOutL:Sp:=fun vs H Q _=>∃ x:Str,vs=[.str x] /\ x.length <= 640 /\ (JO (wrds x)=none -> ∀ H',Same H H' -> Q .non H') /\
 ∀ t s g,JO (wrds x)=some (t,s,g) -> ∀ r H',Same H H' -> H' r=some (.tup [.int t,.int s,.int g]) -> Q (.ref r) H'
def GTxt (x:Str):Prop:=x.length <= 640 /\ (tl x).count 10 <= 7
def spDueL (K:zA):Sp:=fun vs H Q _=>∃ (x l0:Str) (ls:List Str),vs=[.str x] /\ GTxt x /\ Txt.split x (Str.ofString "\n")=l0 :: ls /\ (insR (wrds l0)=none -> ∀ H',Same H H' -> Q (.int 0) H') /\
  ∀ n:Nat,insR (wrds l0)=some (n:Int) ->
   (∀ ds gs,runR n ls ls.length=some ⟨cW ds,cG gs⟩ -> ∀ r a b us ws H',Same H H' -> WbK K H' r a b n us ds ws gs -> Q (.ref r) H') /\
   ∀ i st x,ls[i]? = some x -> runR n ls i=some st -> jT n st x=none -> ∀ H',Same H H' -> Q (.int ((i+1:Nat):Int)) H'
def spToldL (K:zA):Sp:=spDueL K
def spSame64:Sp:=fun vs H Q _=>∃ x:Str,vs=[.str x] /\ GTxt x /\ ∀ H',Same H H' -> Q (.bl true) H'
end L2
namespace L2
open PySem PySem.Spec PyProof.Rows PySem.NumText
def nonDg:V -> Option V
 | .str y=>if Txt.contains (Str.ofString "0123456789") y=true then none else some (.str y)
 | _=>none
theorem nonDg_len (x:Str):((sgnV x).filterMap nonDg).length=0 ↔ (tl x).all isDg=true:=by
 unfold sgnV tl
 induction x.cps.toList with
 | nil=>simp
 | cons c r ih =>
  have e:nonDg (V.str ⟨#[c]⟩)=if isDg c=true then none else some (.str ⟨#[c]⟩):=by
   show (if Txt.contains (Str.ofString "0123456789") ⟨#[c]⟩=true then none else some (V.str ⟨#[c]⟩))=_
   rw [figs_has]
  rw [zU,zx,je,zB,e]
  by_cases h:isDg c=true
  ·rw [if_pos h]
   simp only [h,true_and]
   exact ih
  ·rw [if_neg h]
   simp only [h,false_and,iff_false]
   simp
theorem one_zero {a:Nat}:(⟨#[a]⟩:Str)=Str.ofString "0" ↔ a=48:=by
 constructor
 ·intro h
  have:=congrArg tl h
  rw [zAF] at this
  exact (List.cons.inj this).1
 ·intro h
  rw [h]
  exact yH (by rw [zAF]; rfl)
theorem sl_len (x:Str)(lo hi:Option Int):(Txt.slice x lo hi).length <= x.length:=Txt.slice_le x lo hi
end L2
namespace L2
open PySem PySem.Spec PyProof.Rows PySem.NumText
def PV (H:Hp)(v:V)(o:Option (Int × Int)):Prop:=(o=none /\ v = .non) \/ ∃ t s r,o=some (t,s) /\ v = .ref r /\ H r=some (.tup [.int t,.int s])
theorem PV.same {H H':Hp}{v:V}{o:Option (Int × Int)}(h:PV H v o)(s:Same H H'):PV H' v o:=by
 rcases h with h | ⟨t,u,r,a,b,c⟩
 ·exact .inl h
 ·exact .inr ⟨t,u,r,a,b,s _ _ c⟩
theorem wrt_val {H:Hp}{Q:VK}{E:XK}{x:Str}(hl:x.length <= 640)(q:∀ v H',Same H H' -> PV H' v (xj x) -> Q v H'):spWrtL [.str x] H Q E :=
 ⟨x,rfl,hl,fun e H' s'=>q _ H' s' (.inl ⟨e,rfl⟩),fun t s e r H' s' h'=>q _ H' s' (.inr ⟨t,s,r,e,rfl,h'⟩)⟩
theorem slice_to1 (x:Str):tl (Txt.slice x none (some 1))=(tl x).take 1:=by
 by_cases h:1 <= x.length
 ·have e:Txt.slice x none (some 1)=StrLaws.sliceText x none (some 1):=rfl
  rw [e,StrLaws.sliceText_to ⟨by decide,by rw [show x.cps.toList.length=x.length from zj]; omega⟩]
  rfl
 ·have e:x.length=0:=by omega
  have l:=sl_len x none (some 1)
  rw [← yZ] at l e
  have e2:tl x=[]:=yG e
  rw [e2]
  exact yG (by rw [e2] at e; rw [← yZ] at l; rw [e2] at l; simpa using l)
theorem slice1_min (x:Str):Txt.slice x none (some 1)=Str.ofString "-" ↔ minB x=true:=by
 unfold minB
 rw [jS _ _ JB,decide_eq_true_eq]
 constructor
 ·intro h
  have:=congrArg tl h
  rw [slice_to1,JB] at this
  cases e:tl x with
  | nil=>rw [e] at this; cases this
  | cons a r=>rw [e] at this; injection this with this _; rw [this]; rfl
 ·intro h
  refine yH ?_
  rw [slice_to1,JB]
  cases e:tl x with
  | nil=>rw [e] at h; cases h
  | cons a r=>rw [e] at h; injection h with h; rw [h]; rfl
theorem slice_0 (x:Str):Txt.slice x (some 0) none=x:=by
 have e:Txt.slice x (some 0) none=StrLaws.sliceText x (some 0) none:=rfl
 have xl:x.cps.toList.length=x.length:=zj
 rw [e,StrLaws.sliceText_from ⟨by decide,by rw [xl]; omega⟩]
 refine yH ?_
 show ((x.cps.toList.drop (0:Int).toNat).take _)=x.cps.toList
 rw [show (0:Int).toNat=0 from rfl,List.drop_zero]
 exact zm (by omega)
end L2
namespace L2
open PySem PySem.Spec PyProof.Rows PySem.NumText
def inKV:V -> Option V
 | .int k=>some (.str (Str.ofString "in " ++ figI k))
 | _=>none
def insV:List V:=(zy 12).map fun k=>.str (Str.ofString "in " ++ fig (k+1))
theorem inKV_all:(rngV 1 12).filterMap inKV=insV:=by
 have:rngV 1 12=(zy 12).map fun (k:Nat)=>V.int (1+(k:Int)):=rfl
 rw [this,jj]
 unfold insV
 rw [← yz]
 congr 1
 funext k
 show some (V.str (Str.ofString "in " ++ figI (1+(k:Int))))=_
 rw [figI_nat (n:=k+1) (by omega)]
theorem inV_insV (x:Str):inV (.str x) insV=true ↔ ∃ k:Nat,1 <= k /\ k <= 12 /\ x=Str.ofString "in " ++ fig k:=by
 unfold inV
 rw [jO]
 unfold insV
 constructor
 ·rintro ⟨v,hv,h⟩
  obtain ⟨k,hk,rfl⟩:=qP.mp hv
  have hk:=List.mem_range.mp hk
  refine ⟨k+1,by omega,by omega,?_⟩
  have h:=eq_of_beq h
  exact h.symm
 ·rintro ⟨k,h1,h2,rfl⟩
  refine ⟨_,qP.mpr ⟨k - 1,List.mem_range.mpr (by omega),rfl⟩,?_⟩
  rw [show k - 1+1=k by omega]
  show (_ == _)=true
  exact beq_self_eq_true _
theorem in3 (k:Nat):Txt.slice (Str.ofString "in " ++ fig k) (some 3) none=fig k:=by
 have e:Txt.slice (Str.ofString "in " ++ fig k) (some 3) none=StrLaws.sliceText (Str.ofString "in " ++ fig k) (some 3) none:=rfl
 have xl:(Str.ofString "in " ++ fig k).cps.toList.length=(Str.ofString "in " ++ fig k).length:=zj
 have ll:(Str.ofString "in " ++ fig k).length=3+(fig k).length:=by rw [PySem.Str.length_append,len_in]
 rw [e,StrLaws.sliceText_from ⟨by decide,by rw [xl,ll]; omega⟩]
 refine yH ?_
 show (((tl (Str.ofString "in " ++ fig k)).drop (3:Int).toNat).take _)=tl (fig k)
 rw [zu,show tl (Str.ofString "in ")=[105,110,32] from by decide +kernel,show (3:Int).toNat=3 from rfl]
 show List.take _ (tl (fig k))=tl (fig k)
 refine zm ?_
 rw [yZ]
 omega
theorem fig_int {k:Nat}(h:k <= 9999):PySem.intText? (fig k)=some (k:Int):=by
 have:=figR_int (fig_ne k) (fig_dg k) (zD (JZ h) (by decide))
 rw [this,fig_val]
end L2
namespace L2
open PySem PySem.Spec PyProof.Rows PySem.NumText
def GV (H:Hp)(v:V)(o:Option (List V)):Prop:=(o=none /\ v = .non) \/ ∃ c r,o=some c /\ v = .ref r /\ H r=some (.tup c) /\ ∀ u ∈ c,yw u=true
theorem GV.same {H H':Hp}{v:V}{o:Option (List V)}(h:GV H v o)(s:Same H H'):GV H' v o:=by
 rcases h with h | ⟨t,r,a,b,c,d⟩
 ·exact .inl h
 ·exact .inr ⟨t,r,a,b,s _ _ c,d⟩
theorem GV.itm {K:zA}{H:Hp}{v:V}{o:Option (List V)}(h:GV H v o):Itm K H v o:=by
 rcases h with ⟨rfl,rfl⟩ | ⟨c,r,rfl,rfl,h,d⟩
 ·exact .inl rfl
 ·exact ⟨r,rfl,SqT.of h,fun u hu=>.inl (d u hu)⟩
theorem lout_val {H:Hp}{Q:VK}{E:XK}{x:Str}(hl:x.length <= 640)(q:∀ v H',Same H H' -> GV H' v (xK (wrds x)) -> Q v H'):spLOutL [.str x] H Q E:=by
 refine ⟨x,rfl,hl,fun e H' s'=>q _ H' s' (.inl ⟨by unfold xK; rw [e]; rfl,rfl⟩),fun t s g e r H' s' h'=>q _ H' s' (.inr ⟨_,r,by unfold xK; rw [e]; rfl,rfl,h',fun u hu=>?_⟩)⟩
 simp only [zI,zR,or_false] at hu
 rcases hu with rfl | rfl | rfl <;> rfl
theorem ldeed_val {H:Hp}{Q:VK}{E:XK}{x:Str}(hl:x.length <= 640)(q:∀ v H',Same H H' -> GV H' v (xR (wrds x)) -> Q v H'):spLDeedL [.str x] H Q E:=by
 refine ⟨x,rfl,hl,fun e H' s'=>q _ H' s' (.inl ⟨by unfold xR; rw [e]; rfl,rfl⟩),fun w a s b t e r H' s' h'=>q _ H' s' (.inr ⟨_,r,by unfold xR; rw [e]; rfl,rfl,h',fun u hu=>?_⟩)⟩
 simp only [zI,zR,or_false] at hu
 rcases hu with rfl | rfl | rfl | rfl | rfl <;> rfl
def RV (H H':Hp)(v:V)(rs:List (List Int))(c:Option (List V)):Prop:=(yU rs c=false /\ v = .non) \/ (yU rs c=true /\ ∃ r,v = .ref r /\ H r=none /\ H' r=some (.lst ((rowC rs c).map V.int)))
theorem made_val {K:zA}{H:Hp}{Q:VK}{E:XK}{l:Addr}{v:V}{c:Option (List V)}{ys:List V}{rs:List (List Int)}{n:Nat}(hl:H l=some (.lst ys))(hrs:HRs H [l] ys rs)(hv:Itm K H v c)(rb:RB 30000 rs)(wd:∀ r ∈ rs,r.length=n)(hn:n <= 12)(q:∀ u H',Same H H' -> RV H H' u rs c -> Q u H'):spLMadeCB K [.ref l,v] H Q E :=
 ⟨l,v,c,ys,rs,n,rfl,hl,hrs,hv,rb,wd,hn,fun e H' s'=>q _ H' s' (.inl ⟨e,rfl⟩),fun e r H' nr s' h'=>q _ H' s' (.inr ⟨e,r,rfl,nr,h'⟩)⟩
theorem stp_out {n:Nat}{st:RSt}{x:Str}(hr:(rowsC n st.ds).length <= 1000)(h1:st.gs.length < 12)(h2:xg (rowsC n st.ds) (xK (wrds x))=true):jT n st x=some ⟨st.ds,st.gs ++ [xK (wrds x)]⟩:=by
 obtain ⟨e1,e2⟩:=goal_alk (ws:=wrds x) hr
 rw [e1] at h2
 rw [e2 h2]
 have hd:ya (wrds x)=none:=(not_both (wrds x)).resolve_right (fun z=>by rw [z] at h2; cases h2)
 unfold jT
 rw [hd,if_neg (fun z=>by cases z.2),if_pos ⟨h1,h2⟩]
theorem stp_dee {n:Nat}{st:RSt}{x:Str}(hr:(rowsC n st.ds).length <= 1000)(h1:st.gs.length=0)(h2:yU (rowsC n st.ds) (xR (wrds x))=true):jT n st x=some ⟨st.ds ++ [xR (wrds x)],st.gs⟩:=by
 obtain ⟨e1,e2⟩:=deed_alk (ws:=wrds x) hr
 rw [e1] at h2
 rw [e2 h2]
 exact if_pos ⟨h1,h2⟩
theorem stp_nil {n:Nat}{st:RSt}{x:Str}(hr:(rowsC n st.ds).length <= 1000)(h1:¬ (st.gs.length < 12 /\ xg (rowsC n st.ds) (xK (wrds x))=true))(h2:¬ (yU (rowsC n st.ds) (xR (wrds x))=true /\ st.gs.length=0)):jT n st x=none:=by
 obtain ⟨e1,_⟩:=deed_alk (ws:=wrds x) hr
 obtain ⟨e2,_⟩:=goal_alk (ws:=wrds x) hr
 rw [e1] at h2
 rw [e2] at h1
 unfold jT
 rw [if_neg (fun z=>h2 ⟨z.2,z.1⟩),if_neg h1]
theorem hts_web {H:Hp}{us ws:List V}{ds:List Wd}{gs:List Go}(h:HTs oD H us (cW ds))(h':HTs oD H ws (cG gs)):HTs xM H us ds /\ HTs gTp H ws gs:=⟨hts_oD h,⟨by rw [h'.len]; unfold cG; rw [qC],fun k d e=>h'.at_ k _ (cG_gt e)⟩⟩
end L2
namespace L2
open PySem PySem.Spec PyProof.Rows PySem.NumText
def spNet64:Sp:=fun vs H Q _=>∃ (p:Addr) (c most few:Int),vs=[.ref p,.int most,.int few] /\ Feed H p c /\ c <= 100000000 /\ 0 <= most /\ most <= 60 /\ 0 <= few /\ few <= 10 /\
 ∀ (w dl gl:Addr) (ins:Nat) (us:List V) (ds:List Wd) (os:List V) (gs:List Go) H',H w=none -> H dl=none -> H gl=none -> Wb H' w dl gl ins us ds os gs -> FWeb ins ds gs -> (ds.length:Int) <= most -> (gs.length:Int) <= few+1 ->
  Feed H' p (c+1000000) -> Chg p H H' -> Q (.ref w) H'
def rEqW (K:zA):R2:=fun x y H Q=>rEqD K x y H Q \/ rEq x y H Q
theorem op_eqW {X:Cx}{k:Nat}(hr:Room k X.A):OpR X (compareOp .Eq) (rEqW X.K):=OpR.or (op_eqD hr) op_eq
theorem kit_t_bool {K:zA}:zX K (.type "tuple") (.type "bool")=some false:=by kernel_rfl
theorem isI_tb {K:zA}{H:Hp}{Q:VK}{t:Addr}{xs:List V}(h:H t=some (.tup xs))(q:Q (.bl false) H):rIsI K [.ref t,.ty "bool"] H Q:=⟨_,_,_,_,rfl,.tup h,kit_t_bool,q⟩
theorem stop_uniq {n:Nat}{ls:List Str}{i j:Nat}{st st':RSt}{y y':Str}(h1:ls[i]? = some y)(h2:runR n ls i=some st)(h3:jT n st y=none)(k1:ls[j]? = some y')(k2:runR n ls j=some st')(k3:jT n st' y'=none):i=j:=by
 have d1:runR n ls (i+1)=none:=by rw [JC h2 h1,h3]
 have d2:runR n ls (j+1)=none:=by rw [JC k2 k1,k3]
 rcases Nat.lt_trichotomy i j with z | z | z
 ·have:=Jd d1 (j - (i+1))
  rw [show i+1+(j - (i+1))=j by omega,k2] at this
  cases this
 ·exact z
 ·have:=Jd d2 (i - (j+1))
  rw [show j+1+(i - (j+1))=i by omega,h2] at this
  cases this
theorem zAg {n:Nat}{ls:List Str}{i:Nat}{st st':RSt}{y:Str}(h1:ls[i]? = some y)(h2:runR n ls i=some st)(h3:jT n st y=none)(h:runR n ls ls.length=some st'):False:=by
 have d1:runR n ls (i+1)=none:=by rw [JC h2 h1,h3]
 have il:=(qB.mp h1).1
 have:=Jd d1 (ls.length - (i+1))
 rw [show i+1+(ls.length - (i+1))=ls.length by omega,h] at this
 cases this
theorem read_B {K:zA} {D:Addr} {H:Hp} {Q:VK} {E:XK} {x l0:Str} {ls:List Str} (hx:GTxt x) (hsp:Txt.split x (Str.ofString "\n")=l0 :: ls) (q0:insR (wrds l0)=none -> raisL D 0 H E)
  (qn:∀ n:Nat,insR (wrds l0)=some (n:Int) -> (∀ ds gs,runR n ls ls.length=some ⟨cW ds,cG gs⟩ -> ∀ r a b us ws H',Same H H' -> WbK K H' r a b n us ds ws gs -> Q (.ref r) H') /\ ∀ i st x,ls[i]? = some x -> runR n ls i=some st -> jT n st x=none -> raisL D (i+1) H E):spReadB K D [.str x] H Q E:=by
 have hcnt:=zAm x
 rw [hsp,zP] at hcnt
 have h7:ls.length <= 7:=by have:=hx.2; omega
 have hlen:∀ l ∈ l0 :: ls,l.length <= 640:=fun l hl=>zD (zAe x (Str.ofString "\n") l (by rw [hsp]; exact hl)) hx.1
 refine .inl ⟨x,l0,ls,rfl,zD hx.1 (by decide),hsp,by omega,fun l hl=>⟨zD (hlen l hl) (by decide),zAf (hlen l hl)⟩,q0,fun n e=>?_⟩
 obtain ⟨k,ek,_,k12,_⟩:=ins_line e
 have:n=k:=by omega
 subst this
 obtain ⟨a,b⟩:=qn n e
 refine ⟨fun i st h=>run_rbB k12 h7 h,fun st h r fa fb us ws H' s' _ _ _ hr ha hb i1 i2=>?_,b⟩
 obtain ⟨ds,gs,rfl⟩:=run_st h
 exact a ds gs h r fa fb us ws H' s' ⟨hr,ha,hts_oD i1,hb,hks_oD i2⟩
theorem tl_to {x:Str}{k:Nat}(h:k <= x.length):tl (Txt.slice x none (some (k:Int)))=(tl x).take k:=by
 have e:Txt.slice x none (some (k:Int))=StrLaws.sliceText x none (some (k:Int)):=rfl
 rw [e,StrLaws.sliceText_to ⟨by omega,by rw [show x.cps.toList.length=x.length from zj]; omega⟩]
 show ((tl x).drop 0).take ((k:Int) - 0).toNat=_
 rw [List.drop_zero,Int.sub_zero,zb]
theorem tl_from {x:Str}{k:Nat}(h:k <= x.length+1):tl (Txt.slice x (some (k:Int)) none)=(tl x).drop k:=by
 by_cases z:k <= x.length
 ·have e:Txt.slice x (some (k:Int)) none=StrLaws.sliceText x (some (k:Int)) none:=rfl
  have xl:x.cps.toList.length=x.length:=zj
  rw [e,StrLaws.sliceText_from ⟨by omega,by rw [xl]; omega⟩]
  show ((tl x).drop ((k:Int)).toNat).take _=_
  rw [zb]
  refine zm ?_
  rw [jM]
  show _ <= ((((tl x).length:Nat):Int) - (k:Int)).toNat
  omega
 ·have ek:k=x.length+1:=by omega
  have e:Txt.slice x (some (k:Int)) none=Txt.slice x (some (x.length:Int)) none:=by
   show StrLaws.sliceText x (some (k:Int)) none=StrLaws.sliceText x (some (x.length:Int)) none
   unfold StrLaws.sliceText
   have:Builtin.Str.strSliceIndices (some (k:Int)) none 1 x.length=Builtin.Str.strSliceIndices (some (x.length:Int)) none 1 x.length:=by
    unfold Builtin.Str.strSliceIndices
    simp only
    have e1:¬ ((k:Int) < 0):=by omega
    have e2:¬ ((x.length:Int) < 0):=by omega
    rw [if_neg e1,if_neg e2,if_pos (by decide),if_pos (by decide)]
    congr 1
    omega
   rw [this]
  have xl:x.cps.toList.length=x.length:=zj
  have e3:Txt.slice x (some (x.length:Int)) none=StrLaws.sliceText x (some (x.length:Int)) none:=rfl
  rw [e,e3,StrLaws.sliceText_from ⟨by omega,by rw [xl]; omega⟩,ek]
  show ((tl x).drop (((x.length:Nat):Int)).toNat).take _=_
  rw [zb,← yZ,List.drop_of_length_le (zG _),List.drop_of_length_le (by omega),List.take_nil]
def Base64 (x:Str):Prop:=x.length <= 600 /\ (tl x).count 10 <= 6
theorem count_cut (c:Nat)(l:List Nat)(a b:Nat)(h:a <= b):(l.take a).count c+(l.drop b).count c <= l.count c:=by
 have e:=List.take_append_drop a l
 have e2:(l.drop a).count c=((l.drop a).take (b - a)).count c+(l.drop b).count c:=by
  have e3:l.drop b=(l.drop a).drop (b - a):=by rw [List.drop_drop]; congr 1; omega
  rw [e3,← ym,List.take_append_drop]
 have:l.count c=(l.take a).count c+(l.drop a).count c:=by rw [← ym,e]
 omega
theorem gtxt_cut {x s:Str}{a b:Nat}(hx:Base64 x)(h1:a <= b)(h2:a <= x.length)(h3:b <= x.length+1)(hs:s.length <= 1):GTxt (Txt.slice x none (some (a:Int)) ++ s ++ Txt.slice x (some (b:Int)) none):=by
 have l1:=sl_len x none (some (a:Int))
 have l2:=sl_len x (some (b:Int)) none
 refine ⟨?_,?_⟩
 ·rw [PySem.Str.length_append,PySem.Str.length_append,← yZ,← yZ (Txt.slice x (some (b:Int)) none),tl_to h2,tl_from h3,qO,jM,yZ]
  have:=hx.1
  omega
 ·rw [zu,zu,ym,ym,tl_to h2,tl_from h3]
  have h5:=count_cut 10 (tl x) a b h1
  have h6:(tl s).count 10 <= 1:=zD List.count_le_length (by rw [yZ]; exact hs)
  have:=hx.2
  omega
theorem gtxt_cut0 {x:Str}{a b:Nat}(hx:Base64 x)(h1:a <= b)(h2:a <= x.length)(h3:b <= x.length+1):GTxt (Txt.slice x none (some (a:Int)) ++ Txt.slice x (some (b:Int)) none):=by
 have:=gtxt_cut (s:=Str.empty) hx h1 h2 h3 (by decide)
 rw [PySem.Str.append_empty] at this
 exact this
theorem gtxt_base {x:Str}(hx:Base64 x):GTxt x:=⟨by have:=hx.1; omega,by have:=hx.2; omega⟩
theorem zAK {c:Nat}:∀ (ps:List Str),JFree c ps -> (tl (Str.join ⟨#[c]⟩ ps)).count c <= ps.length - 1
 | [],_=>yL _
 | [p],h=>by
  rw [xP,List.count_eq_zero.mpr (h p (zK ..))]
  exact yL _
 | p :: q :: r,h=>by
  have ih:=zAK (q :: r) (fun y hy=>h y (zO _ hy))
  rw [yh,zu,zu,ym,ym,List.count_eq_zero.mpr (h p (zK ..))]
  have:(tl (⟨#[c]⟩:Str)).count c=1:=by show List.count c [c]=1; simp
  rw [this]
  simp only [zP] at ih ⊢
  omega
theorem base_shown {n:Nat}{ds:List Wd}{gs:List Go}(O:TxOk n ds gs)(h:ds.length+gs.length <= 6):Base64 (shownS n ds gs):=by
 have ll:(linesS n ds gs).length=1+ds.length+gs.length:=lines_len1 n ds gs
 have hw:=lok_web O
 refine ⟨?_,?_⟩
 ·unfold shownS
  rw [StrLaws.glued_eq_join]
  refine zD (join_len (m:=60) (fun p hp=>?_)) ?_
  ·unfold linesS at hp
   rcases zI.mp hp with rfl | hp
   ·have:=zAI (n:=n) (by have:=O.n1; omega)
    rw [PySem.Str.length_append,len_in]; omega
   ·rcases zW.mp hp with hp | hp
    ·obtain ⟨d,hd,rfl⟩:=qP.mp hp
     obtain ⟨_,o2,o3,o4,o5⟩:=O.dw d hd
     have h1:=jF o2 o4
     have h2:=jF o3 o5
     have h3:=zAE d.w
     unfold xN
     rw [PySem.Str.length_append,PySem.Str.length_append,PySem.Str.length_append,PySem.Str.length_append,h3,len_sp]
     omega
    ·obtain ⟨g,hg,rfl⟩:=qP.mp hp
     obtain ⟨_,o2,o3⟩:=O.gw g hg
     have h1:=jF o2 o3
     unfold xO
     split
     ·decide +kernel
     ·split <;> rw [PySem.Str.length_append]
      ·rw [len_out]; omega
      ·rw [len_outm]; omega
  ·rw [len_nl,ll]
   omega
 ·unfold shownS
  rw [StrLaws.glued_eq_join,nl_is]
  have:=zAK (c:=10) (linesS n ds gs) (fun p hp=>(hw p hp).2)
  omega
def ForS (x:Str)(g:TG)(tb:TS)(D:Ends)(σ:St)(H:Hp):Prop:=∃ W:Nat -> Nat -> St -> Hp -> Prop,(∃ m,W 0 m σ H) /\ ∀ i m σ H,W i m σ H ->
 ((Its x).stop i H /\ D.nx σ H) \/ ((Its x).go i H /\ ∃ N:St -> Hp -> Prop,(∀ σ' H',N σ' H' -> ∃ m',m' < m /\ W (i+1) m' σ' H') /\ ∀ v H',(Its x).yld i H v H' -> g v σ H' fun σ2 H2=>tb { D with nx:=N,ct:=N,bk:=D.nx } σ2 H2)
section
variable {σ:St}{H:Hp}{D:Ends}{g:TG}{tb:TS}{x:Str}
theorem w_forS {tl:TE}:tFor (iStr tl) g tb D σ H=(tl σ H fun v H1=>∃ x:Str,v = .str x /\ ForS x g tb D σ H1):=rfl
theorem forS (Pv:Nat -> St -> Hp -> Prop)(h0:Pv 0 σ H)
  (hs:∀ i c σ H (N:St -> Hp -> Prop),x.cps[i]? = some c -> Pv i σ H -> (∀ σ' H',Pv (i+1) σ' H' -> N σ' H') -> g (.str ⟨#[c]⟩) σ H fun σ2 H2=>tb { D with nx:=N,ct:=N,bk:=D.nx } σ2 H2) (hd:∀ σ H,Pv x.cps.size σ H -> D.nx σ H):ForS x g tb D σ H:=by
 refine ⟨fun i m σ H=>m=x.cps.size - i /\ i <= x.cps.size /\ Pv i σ H,⟨_,rfl,yL _,h0⟩,?_⟩
 rintro i m σ H ⟨rfl,hi,p⟩
 by_cases hlt:i < x.cps.size
 ·refine .inr ⟨hlt,Pv (i+1),fun σ' H' p'=>⟨x.cps.size - (i+1),by omega,rfl,hlt,p'⟩,fun v H' y=>?_⟩
  obtain ⟨rfl,c,hc,rfl⟩:=y
  exact hs i c σ _ _ hc p fun _ _ z=>z
 ·refine .inl ⟨by show x.cps.size <= i; omega,hd σ H ?_⟩
  rw [show x.cps.size=i by omega]
  exact p
end
end L2
end
section
namespace Law
open PySem L2
open Option.some renaming injEq → qJs
open L2.HO.tup renaming injEq → qJt
open L2.HO.lst renaming injEq → qJl
open L2.HO.dK renaming injEq → qJd
def top (i:Nat):Stmt:=PySem.Challenge.pw_shiftsums_k64_every_sign_of_a_text.main.body.getD i (.Pass ⟨0,0,0,0⟩)
abbrev xq:Stmt:=top 4
theorem sc_is_whole:FnScope ["thing"] ["thing"] (zE xq):=⟨rfl,rfl,rfl,by decide +kernel,rfl,by decide +kernel,by decide +kernel⟩
abbrev jG:Stmt:=top 5
theorem sc_shifted:FnScope ["number","shift","halved"] ["number","shift"] (zE jG):=⟨rfl,rfl,rfl,by decide +kernel,rfl,by decide +kernel,by decide +kernel⟩
abbrev y9:Stmt:=top 11
theorem sc_is_between:FnScope ["thing","low","high"] ["thing","low","high"] (zE y9):=⟨rfl,rfl,rfl,by decide +kernel,rfl,by decide +kernel,by decide +kernel⟩
abbrev jH:Stmt:=top 12
theorem sc_is_deed:FnScope ["deed","rows"] ["deed","rows"] (zE jH):=⟨rfl,rfl,rfl,by decide +kernel,rfl,by decide +kernel,by decide +kernel⟩
abbrev jr:Stmt:=top 13
theorem sc_is_out:FnScope ["out","rows"] ["out","rows"] (zE jr):=⟨rfl,rfl,rfl,by decide +kernel,rfl,by decide +kernel,by decide +kernel⟩
abbrev jI:Stmt:=top 14
theorem sc_is_part:FnScope ["thing","shift","rows"] ["thing","shift","rows"] (zE jI):=⟨rfl,rfl,rfl,by decide +kernel,rfl,by decide +kernel,by decide +kernel⟩
abbrev yp:Stmt:=top 15
theorem zAs:FnScope ["row","shift"] ["row","shift"] (zE yp):=⟨rfl,rfl,rfl,by decide +kernel,rfl,by decide +kernel,by decide +kernel⟩
abbrev xA:Stmt:=top 16
theorem sc_input_rows:FnScope ["ins"] ["ins"] (zE xA):=⟨rfl,rfl,rfl,by decide +kernel,rfl,by decide +kernel,by decide +kernel⟩
abbrev xW:Stmt:=top 17
theorem sc_input_row:FnScope ["ins","thing"] ["ins","thing"] (zE xW):=⟨rfl,rfl,rfl,by decide +kernel,rfl,by decide +kernel,by decide +kernel⟩
abbrev xr:Stmt:=top 18
theorem sc_deed_row:FnScope ["deed","rows","left","right","sign"] ["deed","rows"] (zE xr):=⟨rfl,rfl,rfl,by decide +kernel,rfl,by decide +kernel,by decide +kernel⟩
abbrev yq:Stmt:=top 19
theorem zAt:FnScope ["deed"] ["deed"] (zE yq):=⟨rfl,rfl,rfl,by decide +kernel,rfl,by decide +kernel,by decide +kernel⟩
abbrev zAh:Stmt:=top 24
theorem sc_read:FnScope ["text","lines","ins","rows","deeds","outs","place","line","deed","out"] ["text"] (zE zAh):=⟨rfl,rfl,rfl,by decide +kernel,rfl,by decide +kernel,by decide +kernel⟩
abbrev xt:Stmt:=top 25
theorem sc_read_ins:FnScope ["line","words","ins"] ["line"] (zE xt):=⟨rfl,rfl,rfl,by decide +kernel,rfl,by decide +kernel,by decide +kernel⟩
abbrev xX:Stmt:=top 26
theorem sc_read_deed:FnScope ["words","left","word","right"] ["words"] (zE xX):=⟨rfl,rfl,rfl,by decide +kernel,rfl,by decide +kernel,by decide +kernel⟩
abbrev xY:Stmt:=top 27
theorem sc_read_sign:FnScope ["sign"] ["sign"] (zE xY):=⟨rfl,rfl,rfl,by decide +kernel,rfl,by decide +kernel,by decide +kernel⟩
abbrev xu:Stmt:=top 28
theorem sc_read_out:FnScope ["words"] ["words"] (zE xu):=⟨rfl,rfl,rfl,by decide +kernel,rfl,by decide +kernel,by decide +kernel⟩
abbrev xw:Stmt:=top 29
theorem sc_read_end:FnScope ["word","sign","part"] ["word"] (zE xw):=⟨rfl,rfl,rfl,by decide +kernel,rfl,by decide +kernel,by decide +kernel⟩
abbrev xZ:Stmt:=top 30
theorem sc_read_part:FnScope ["word","mark","sign","thing"] ["word"] (zE xZ):=⟨rfl,rfl,rfl,by decide +kernel,rfl,by decide +kernel,by decide +kernel⟩
abbrev yj:Stmt:=top 31
theorem sc_read_shifted:FnScope ["pieces","sign","thing","shift"] ["pieces","sign"] (zE yj):=⟨rfl,rfl,rfl,by decide +kernel,rfl,by decide +kernel,by decide +kernel⟩
abbrev yk:Stmt:=top 32
theorem zAo:FnScope ["word"] ["word"] (zE yk):=⟨rfl,rfl,rfl,by decide +kernel,rfl,by decide +kernel,by decide +kernel⟩
abbrev js:Stmt:=top 34
theorem sc_l_feed:FnScope ["_law_script","_law_k","_law_cell","_law_great"] ["_law_script","_law_k"] (zE js):=⟨rfl,rfl,rfl,by decide +kernel,rfl,by decide +kernel,by decide +kernel⟩
abbrev jt:Stmt:=top 35
theorem sc_l_take:FnScope ["_law_feed_here","_law_many","_law_high","_law_digit","_law_step","_law_mixed"] ["_law_feed_here","_law_many"] (zE jt):=⟨rfl,rfl,rfl,by decide +kernel,rfl,by decide +kernel,by decide +kernel⟩
abbrev Je:Stmt:=top 36
theorem sc_l_low:FnScope ["_law_row","_law_k"] ["_law_row"] (zE Je):=⟨rfl,rfl,rfl,by decide +kernel,rfl,by decide +kernel,by decide +kernel⟩
abbrev jJ:Stmt:=top 37
theorem zAu:FnScope ["_law_row","_law_shift_here"] ["_law_row","_law_shift_here"] (zE jJ):=⟨rfl,rfl,rfl,by decide +kernel,rfl,by decide +kernel,by decide +kernel⟩
abbrev jK:Stmt:=top 38
theorem sc_l_shift:FnScope ["_law_feed_here","_law_row","_law_way"] ["_law_feed_here","_law_row"] (zE jK):=⟨rfl,rfl,rfl,by decide +kernel,rfl,by decide +kernel,by decide +kernel⟩
abbrev Jf:Stmt:=top 39
theorem sc_l_net:FnScope ["_law_feed_here","_law_many","_law_few","_law_ins","_law_rows","_law_deeds","_law_k","_law_a","_law_b","_law_s","_law_t","_law_sign","_law_pairs","_law_outs","_law_thing"] ["_law_feed_here","_law_many","_law_few"] (zE Jf):=⟨rfl,rfl,rfl,by decide +kernel,rfl,by decide +kernel,by decide +kernel⟩
abbrev jL:Stmt:=top 40
theorem sc_l_whole:FnScope ["_law_thing"] ["_law_thing"] (zE jL):=⟨rfl,rfl,rfl,by decide +kernel,rfl,by decide +kernel,by decide +kernel⟩
abbrev ju:Stmt:=top 41
theorem sc_l_part:FnScope ["_law_rows","_law_thing","_law_shift_here"] ["_law_rows","_law_thing","_law_shift_here"] (zE ju):=⟨rfl,rfl,rfl,by decide +kernel,rfl,by decide +kernel,by decide +kernel⟩
abbrev xC:Stmt:=top 42
theorem sc_l_made_row:FnScope ["_law_rows","_law_deed","_law_one","_law_other","_law_sign"] ["_law_rows","_law_deed"] (zE xC):=⟨rfl,rfl,rfl,by decide +kernel,rfl,by decide +kernel,by decide +kernel⟩
abbrev xx:Stmt:=top 43
theorem sc_l_is_out:FnScope ["_law_rows","_law_out"] ["_law_rows","_law_out"] (zE xx):=⟨rfl,rfl,rfl,by decide +kernel,rfl,by decide +kernel,by decide +kernel⟩
abbrev yr:Stmt:=top 44
theorem zAv:FnScope ["_law_thing","_law_shift_here"] ["_law_thing","_law_shift_here"] (zE yr):=⟨rfl,rfl,rfl,by decide +kernel,rfl,by decide +kernel,by decide +kernel⟩
abbrev jv:Stmt:=top 45
theorem sc_l_text:FnScope ["_law_web","_law_lines","_law_word","_law_a","_law_s","_law_b","_law_t","_law_thing","_law_shift_here","_law_sign"] ["_law_web"] (zE jv):=⟨rfl,rfl,rfl,by decide +kernel,rfl,by decide +kernel,by decide +kernel⟩
abbrev xy:Stmt:=top 46
theorem sc_l_number:FnScope ["_law_text_here","_law_most"] ["_law_text_here","_law_most"] (zE xy):=⟨rfl,rfl,rfl,by decide +kernel,rfl,by decide +kernel,by decide +kernel⟩
abbrev xa:Stmt:=top 47
theorem sc_l_written:FnScope ["_law_text_here","_law_mark","_law_sign","_law_at","_law_thing","_law_shift_here"] ["_law_text_here"] (zE xa):=⟨rfl,rfl,rfl,by decide +kernel,rfl,by decide +kernel,by decide +kernel⟩
abbrev yt:Stmt:=top 48
theorem sc_l_line_deed:FnScope ["_law_line","_law_words","_law_one","_law_other"] ["_law_line"] (zE yt):=⟨rfl,rfl,rfl,by decide +kernel,rfl,by decide +kernel,by decide +kernel⟩
abbrev xD:Stmt:=top 49
theorem sc_l_line_out:FnScope ["_law_line","_law_words","_law_sign","_law_part_here"] ["_law_line"] (zE xD):=⟨rfl,rfl,rfl,by decide +kernel,rfl,by decide +kernel,by decide +kernel⟩
abbrev Jg:Stmt:=top 50
theorem sc_l_due:FnScope ["_law_text_here","_law_lines","_law_ins","_law_rows","_law_deeds","_law_outs","_law_k","_law_out","_law_row"] ["_law_text_here"] (zE Jg):=⟨rfl,rfl,rfl,by decide +kernel,rfl,by decide +kernel,by decide +kernel⟩
abbrev jw:Stmt:=top 51
theorem sc_l_told:FnScope ["_law_text_here","_law_told_here","e"] ["_law_text_here"] (zE jw):=⟨rfl,rfl,rfl,by decide +kernel,rfl,by decide +kernel,by decide +kernel⟩
abbrev jx:Stmt:=top 52
theorem sc_l_same:FnScope ["_law_text_here","_law_due_here","_law_told_here"] ["_law_text_here"] (zE jx):=⟨rfl,rfl,rfl,by decide +kernel,rfl,by decide +kernel,by decide +kernel⟩
abbrev Jm:Stmt:=top 53
theorem sc_law:FnScope ["_law_script","_law_web","_law_text_here","_law_at","_law_sign"] ["_law_script"] (zE Jm):=⟨rfl,rfl,rfl,by decide +kernel,rfl,by decide +kernel,by decide +kernel⟩
abbrev xS:Stmt:=inClass (top 2) 0
theorem sc_i_NoText:FnScope ["self","line"] ["self","line"] (zE xS):=⟨rfl,rfl,rfl,by decide +kernel,rfl,by decide +kernel,by decide +kernel⟩
theorem xc_NoText {P:Program} {w:World} {K:zA} {mg:Str -> Option Value} {base:Heap} {cst_NoText:Addr} (h:(∃ (f:Addr) (fd:FuncData),Fun K "__init__" "NoText.__init__" xS f fd /\ Binds K fd ["self","line"] [] /\ PySem.W.isFn K (.ref f)=true /\ excI K cst_NoText [.type "ValueError",.type "Exception",.type "BaseException",.type "object"] "ValueError.__new__" f=true)) (hk:zF K (.ref cst_NoText)=true) (hs:setX K cst_NoText "line" = true):XCls P w K mg base cst_NoText "line":=by
 obtain ⟨f,fd,F,hb,hf,he⟩:=h
 refine ⟨⟨f,fd,F.ok sc_i_NoText (fun vs H Q E h=>?_) (fun cdv A outer s H vs Q E hr h=>?_),hb,hf,he⟩,hk⟩
 ·obtain ⟨_,_,_,rfl,_⟩:=h
  rfl
 obtain ⟨x,t,y,rfl,hx,q⟩:=h
 refine ⟨_,(pss_one (ps_fldX (pv 0) (pv 1))),?_⟩
 exact ⟨y,rfl,.ref x,rfl,x,cst_NoText,t,rfl,hx,hs,fun d hd=>q d hd⟩
structure Bl (mg:Str -> Option Value):Prop where
 abs:mg "abs" = none
 all:mg "all" = none
 any:mg "any" = none
 bool:mg "bool" = none
 enumerate:mg "enumerate" = none
 int:mg "int" = none
 isinstance:mg "isinstance" = none
 len:mg "len" = none
 list:mg "list" = none
 min:mg "min" = none
 range:mg "range" = none
 str:mg "str" = none
 tuple:mg "tuple" = none
 zip:mg "zip" = none
structure Txt (K:zA) (mg:Str -> Option Value):Prop where
 bl:Bl mg
 t_is_whole:∃ (f:Addr) (fd:FuncData),Fun K "is_whole" "is_whole" xq f fd /\ mg "is_whole" = some (.ref f) /\ Binds K fd ["thing"] []
 t_shifted:∃ (f:Addr) (fd:FuncData),Fun K "shifted" "shifted" jG f fd /\ mg "shifted" = some (.ref f) /\ Binds K fd ["number","shift"] []
 t_is_between:∃ (f:Addr) (fd:FuncData),Fun K "is_between" "is_between" y9 f fd /\ mg "is_between" = some (.ref f) /\ Binds K fd ["thing","low","high"] []
 t_is_deed:∃ (f:Addr) (fd:FuncData),Fun K "is_deed" "is_deed" jH f fd /\ mg "is_deed" = some (.ref f) /\ Binds K fd ["deed","rows"] []
 t_is_out:∃ (f:Addr) (fd:FuncData),Fun K "is_out" "is_out" jr f fd /\ mg "is_out" = some (.ref f) /\ Binds K fd ["out","rows"] []
 t_is_part:∃ (f:Addr) (fd:FuncData),Fun K "is_part" "is_part" jI f fd /\ mg "is_part" = some (.ref f) /\ Binds K fd ["thing","shift","rows"] []
 t_shifted_row:∃ (f:Addr) (fd:FuncData),Fun K "shifted_row" "shifted_row" yp f fd /\ mg "shifted_row" = some (.ref f) /\ Binds K fd ["row","shift"] []
 t_input_rows:∃ (f:Addr) (fd:FuncData),Fun K "input_rows" "input_rows" xA f fd /\ mg "input_rows" = some (.ref f) /\ Binds K fd ["ins"] []
 t_input_row:∃ (f:Addr) (fd:FuncData),Fun K "input_row" "input_row" xW f fd /\ mg "input_row" = some (.ref f) /\ Binds K fd ["ins","thing"] []
 t_deed_row:∃ (f:Addr) (fd:FuncData),Fun K "deed_row" "deed_row" xr f fd /\ mg "deed_row" = some (.ref f) /\ Binds K fd ["deed","rows"] []
 t_second_sign:∃ (f:Addr) (fd:FuncData),Fun K "second_sign" "second_sign" yq f fd /\ mg "second_sign" = some (.ref f) /\ Binds K fd ["deed"] []
 t_read:∃ (f:Addr) (fd:FuncData),Fun K "read" "read" zAh f fd /\ mg "read" = some (.ref f) /\ Binds K fd ["text"] []
 t_read_ins:∃ (f:Addr) (fd:FuncData),Fun K "read_ins" "read_ins" xt f fd /\ mg "read_ins" = some (.ref f) /\ Binds K fd ["line"] []
 t_read_deed:∃ (f:Addr) (fd:FuncData),Fun K "read_deed" "read_deed" xX f fd /\ mg "read_deed" = some (.ref f) /\ Binds K fd ["words"] []
 t_read_sign:∃ (f:Addr) (fd:FuncData),Fun K "read_sign" "read_sign" xY f fd /\ mg "read_sign" = some (.ref f) /\ Binds K fd ["sign"] []
 t_read_out:∃ (f:Addr) (fd:FuncData),Fun K "read_out" "read_out" xu f fd /\ mg "read_out" = some (.ref f) /\ Binds K fd ["words"] []
 t_read_end:∃ (f:Addr) (fd:FuncData),Fun K "read_end" "read_end" xw f fd /\ mg "read_end" = some (.ref f) /\ Binds K fd ["word"] []
 t_read_part:∃ (f:Addr) (fd:FuncData),Fun K "read_part" "read_part" xZ f fd /\ mg "read_part" = some (.ref f) /\ Binds K fd ["word"] []
 t_read_shifted:∃ (f:Addr) (fd:FuncData),Fun K "read_shifted" "read_shifted" yj f fd /\ mg "read_shifted" = some (.ref f) /\ Binds K fd ["pieces","sign"] []
 t_read_figures:∃ (f:Addr) (fd:FuncData),Fun K "read_figures" "read_figures" yk f fd /\ mg "read_figures" = some (.ref f) /\ Binds K fd ["word"] []
 t_l_feed:∃ (f:Addr) (fd:FuncData),Fun K "_law_feed" "_law_feed" js f fd /\ mg "_law_feed" = some (.ref f) /\ Binds K fd ["_law_script","_law_k"] []
 t_l_take:∃ (f:Addr) (fd:FuncData),Fun K "_law_take" "_law_take" jt f fd /\ mg "_law_take" = some (.ref f) /\ Binds K fd ["_law_feed_here","_law_many"] []
 t_l_low:∃ (f:Addr) (fd:FuncData),Fun K "_law_low" "_law_low" Je f fd /\ mg "_law_low" = some (.ref f) /\ Binds K fd ["_law_row"] []
 t_l_moved:∃ (f:Addr) (fd:FuncData),Fun K "_law_moved" "_law_moved" jJ f fd /\ mg "_law_moved" = some (.ref f) /\ Binds K fd ["_law_row","_law_shift_here"] []
 t_l_shift:∃ (f:Addr) (fd:FuncData),Fun K "_law_shift" "_law_shift" jK f fd /\ mg "_law_shift" = some (.ref f) /\ Binds K fd ["_law_feed_here","_law_row"] []
 t_l_net:∃ (f:Addr) (fd:FuncData),Fun K "_law_net" "_law_net" Jf f fd /\ mg "_law_net" = some (.ref f) /\ Binds K fd ["_law_feed_here","_law_many","_law_few"] []
 t_l_whole:∃ (f:Addr) (fd:FuncData),Fun K "_law_whole" "_law_whole" jL f fd /\ mg "_law_whole" = some (.ref f) /\ Binds K fd ["_law_thing"] []
 t_l_part:∃ (f:Addr) (fd:FuncData),Fun K "_law_part" "_law_part" ju f fd /\ mg "_law_part" = some (.ref f) /\ Binds K fd ["_law_rows","_law_thing","_law_shift_here"] []
 t_l_made_row:∃ (f:Addr) (fd:FuncData),Fun K "_law_made_row" "_law_made_row" xC f fd /\ mg "_law_made_row" = some (.ref f) /\ Binds K fd ["_law_rows","_law_deed"] []
 t_l_is_out:∃ (f:Addr) (fd:FuncData),Fun K "_law_is_out" "_law_is_out" xx f fd /\ mg "_law_is_out" = some (.ref f) /\ Binds K fd ["_law_rows","_law_out"] []
 t_l_part_text:∃ (f:Addr) (fd:FuncData),Fun K "_law_part_text" "_law_part_text" yr f fd /\ mg "_law_part_text" = some (.ref f) /\ Binds K fd ["_law_thing","_law_shift_here"] []
 t_l_text:∃ (f:Addr) (fd:FuncData),Fun K "_law_text" "_law_text" jv f fd /\ mg "_law_text" = some (.ref f) /\ Binds K fd ["_law_web"] []
 t_l_number:∃ (f:Addr) (fd:FuncData),Fun K "_law_number" "_law_number" xy f fd /\ mg "_law_number" = some (.ref f) /\ Binds K fd ["_law_text_here","_law_most"] []
 t_l_written:∃ (f:Addr) (fd:FuncData),Fun K "_law_written" "_law_written" xa f fd /\ mg "_law_written" = some (.ref f) /\ Binds K fd ["_law_text_here"] []
 t_l_line_deed:∃ (f:Addr) (fd:FuncData),Fun K "_law_line_deed" "_law_line_deed" yt f fd /\ mg "_law_line_deed" = some (.ref f) /\ Binds K fd ["_law_line"] []
 t_l_line_out:∃ (f:Addr) (fd:FuncData),Fun K "_law_line_out" "_law_line_out" xD f fd /\ mg "_law_line_out" = some (.ref f) /\ Binds K fd ["_law_line"] []
 t_l_due:∃ (f:Addr) (fd:FuncData),Fun K "_law_due" "_law_due" Jg f fd /\ mg "_law_due" = some (.ref f) /\ Binds K fd ["_law_text_here"] []
 t_l_told:∃ (f:Addr) (fd:FuncData),Fun K "_law_told" "_law_told" jw f fd /\ mg "_law_told" = some (.ref f) /\ Binds K fd ["_law_text_here"] []
 t_l_same:∃ (f:Addr) (fd:FuncData),Fun K "_law_same" "_law_same" jx f fd /\ mg "_law_same" = some (.ref f) /\ Binds K fd ["_law_text_here"] []
 t_law:∃ (f:Addr) (fd:FuncData),Fun K "law" "law" Jm f fd /\ mg "law" = some (.ref f) /\ Binds K fd ["_law_script"] []
 c_NO_OUT:∃ t:Addr,mg "NO_OUT" = some (.ref t) /\ CT0 K t
 i_MOST_INS:∃ tk:Tok,mg "MOST_INS" = some (.int 12 tk)
 i_MOST_OUTS:∃ tk:Tok,mg "MOST_OUTS" = some (.int 12 tk)
 i_FURTHEST:∃ tk:Tok,mg "FURTHEST" = some (.int 4000 tk)
 i_FIGURES:∃ tk:Tok,mg "FIGURES" = some (.str "0123456789" tk)
 i_MOST_SHIFT_FIGURES:∃ tk:Tok,mg "MOST_SHIFT_FIGURES" = some (.int 4 tk)
 cls:∃ (cst_NoText:Addr),mg "NoText" = some (.ref cst_NoText) /\ L2.subIn K cst_NoText cst_NoText=true /\ L2.excK K cst_NoText=true /\ (∃ (f:Addr) (fd:FuncData),Fun K "__init__" "NoText.__init__" xS f fd /\ Binds K fd ["self","line"] [] /\ PySem.W.isFn K (.ref f)=true /\ excI K cst_NoText [.type "ValueError",.type "Exception",.type "BaseException",.type "object"] "ValueError.__new__" f=true) /\ zF K (.ref cst_NoText)=true /\ setX K cst_NoText "line" = true
local macro_rules | `(tactic| walk_at "WP")=>`(tactic| (first | (dsimp only [w_gLst,w_forE,w_compE,w_compZ,w_for3,w_gTupK,w_ixT,w_eqS,w_aug,w_ipI,w_dnK,w_maxD,w_sl,w_noPart,w_part,w_slL,w_var,w_C,w_op,w_un,w_rI,w_rI0,w_rU,w_eqI,w_neI,w_eqB,w_neB,w_seq,w_next,w_break,w_cont,w_ifS,w_ret,w_retN,w_drop,w_asg,jE,w_gSub,w_test,w_B,w_and,w_or,w_not,w_andV,w_orV,w_notV,w_if,w_call,w_nil,w_cons,w_CB,w_lst,w_tup,w_isN,w_notN,w_chain,w_for1,w_for2b,w_On2,w_forL,w_forT,w_forV,w_compL,w_compT,w_comp1,w_comp2b,w_yes,w_bm,w_bm0,w_rBits,w_tyInt,J5,j7,w_gNil,w_dgS,w_dgI,w_sDP,w_dpS,w_dpI,w_dII,w_disp,zAO,pen_s,pen_a,pen_l,pen_len,pen_pa,pen_pl,qJd,w_append,jy,jz,List.set_cons_zero,List.set_cons_succ,qJs,V.int.injEq,V.bl.injEq,V.ref.injEq,V.str.injEq,exists_eq_left',exists_eq_left,yQ,List.cons.injEq,and_true,true_and,exists_and_left,decide_eq_true_eq,xI,decide_eq_false_iff_not,Bool.not_true,Bool.not_false,w_ixM,w_ixU,w_ixL,w_setL,w_cxK,w_isI_ii,J1,w_isI_bi,w_isI_bb,w_isI_ni,w_isI_nb,w_isI_si,w_isI_sb,sl_0,sl_1,sl_2,sl_3,sl_4,sl_5,sl_6,sl_7,sl_8,CPowB,w_shl1,at_0,at_1,at_2,at_3,ixN_0,ixN_1,ixN_2,zL,qJl,qJt,Int.reduceToNat,Int.reducePow,Int.reduceNeg,Int.reduceLT,Int.reduceLE,Int.reduceMod,Int.reduceMul,Int.reduceAdd,Int.reduceSub,Int.reduceDiv,Int.reduceEq,ite_true,ite_false,if_true,if_false,Bool.true_eq_false,yJ,zP,jh,reduceCtorEq,false_and,and_false,not_false_eq_true,not_true_eq_false,exists_false,false_or,or_false,w_pop,w_extend,zAU,w_clear,w_cat,w_LZ,w_LR,w_forD,w_compZ2,w_fv,w_fmtI,w_fmtS,w_j0,w_j1,w_js,w_tyStr,w_isI_ss,w_addS,w_joinL,w_getC,w_compS,w_split,w_starts,w_partn,w_inS,w_intS,w_slS,w_neS,w_strI,w_dgFS,w_thwN,w_frz,w_forKs,w_notInS,w_find]; try simp only [w_gLst,w_forE,w_compE,w_compZ,w_for3,w_gTupK,w_ixT,w_eqS,w_aug,w_ipI,w_dnK,w_maxD,w_sl,w_noPart,w_part,w_slL,w_var,w_C,w_op,w_un,w_rI,w_rI0,w_rU,w_eqI,w_neI,w_eqB,w_neB,w_seq,w_next,w_break,w_cont,w_ifS,w_ret,w_retN,w_drop,w_asg,jE,w_gSub,w_test,w_B,w_and,w_or,w_not,w_andV,w_orV,w_notV,w_if,w_call,w_nil,w_cons,w_CB,w_lst,w_tup,w_isN,w_notN,w_chain,w_for1,w_for2b,w_On2,w_forL,w_forT,w_forV,w_compL,w_compT,w_comp1,w_comp2b,w_yes,w_bm,w_bm0,w_rBits,w_tyInt,J5,j7,w_gNil,w_dgS,w_dgI,w_sDP,w_dpS,w_dpI,w_dII,w_disp,zAO,pen_s,pen_a,pen_l,pen_len,pen_pa,pen_pl,qJd,w_append,jy,jz,List.set_cons_zero,List.set_cons_succ,qJs,V.int.injEq,V.bl.injEq,V.ref.injEq,V.str.injEq,exists_eq_left',exists_eq_left,yQ,List.cons.injEq,and_true,true_and,exists_and_left,decide_eq_true_eq,xI,decide_eq_false_iff_not,Bool.not_true,Bool.not_false,w_ixM,w_ixU,w_ixL,w_setL,w_cxK,w_isI_ii,J1,w_isI_bi,w_isI_bb,w_isI_ni,w_isI_nb,w_isI_si,w_isI_sb,sl_0,sl_1,sl_2,sl_3,sl_4,sl_5,sl_6,sl_7,sl_8,CPowB,w_shl1,at_0,at_1,at_2,at_3,ixN_0,ixN_1,ixN_2,zL,qJl,qJt,Int.reduceToNat,Int.reducePow,Int.reduceNeg,Int.reduceLT,Int.reduceLE,Int.reduceMod,Int.reduceMul,Int.reduceAdd,Int.reduceSub,Int.reduceDiv,Int.reduceEq,ite_true,ite_false,if_true,if_false,Bool.true_eq_false,yJ,zP,jh,reduceCtorEq,false_and,and_false,not_false_eq_true,not_true_eq_false,exists_false,false_or,or_false,w_pop,w_extend,zAU,w_clear,w_cat,w_LZ,w_LR,w_forD,w_compZ2,w_fv,w_fmtI,w_fmtS,w_j0,w_j1,w_js,w_tyStr,w_isI_ss,w_addS,w_joinL,w_getC,w_compS,w_split,w_starts,w_partn,w_inS,w_intS,w_slS,w_neS,w_strI,w_dgFS,w_thwN,w_frz,w_forKs,w_notInS,w_find]) | simp only [w_gLst,w_forE,w_compE,w_compZ,w_for3,w_gTupK,w_ixT,w_eqS,w_aug,w_ipI,w_dnK,w_maxD,w_sl,w_noPart,w_part,w_slL,w_var,w_C,w_op,w_un,w_rI,w_rI0,w_rU,w_eqI,w_neI,w_eqB,w_neB,w_seq,w_next,w_break,w_cont,w_ifS,w_ret,w_retN,w_drop,w_asg,jE,w_gSub,w_test,w_B,w_and,w_or,w_not,w_andV,w_orV,w_notV,w_if,w_call,w_nil,w_cons,w_CB,w_lst,w_tup,w_isN,w_notN,w_chain,w_for1,w_for2b,w_On2,w_forL,w_forT,w_forV,w_compL,w_compT,w_comp1,w_comp2b,w_yes,w_bm,w_bm0,w_rBits,w_tyInt,J5,j7,w_gNil,w_dgS,w_dgI,w_sDP,w_dpS,w_dpI,w_dII,w_disp,zAO,pen_s,pen_a,pen_l,pen_len,pen_pa,pen_pl,qJd,w_append,jy,jz,List.set_cons_zero,List.set_cons_succ,qJs,V.int.injEq,V.bl.injEq,V.ref.injEq,V.str.injEq,exists_eq_left',exists_eq_left,yQ,List.cons.injEq,and_true,true_and,exists_and_left,decide_eq_true_eq,xI,decide_eq_false_iff_not,Bool.not_true,Bool.not_false,w_ixM,w_ixU,w_ixL,w_setL,w_cxK,w_isI_ii,J1,w_isI_bi,w_isI_bb,w_isI_ni,w_isI_nb,w_isI_si,w_isI_sb,sl_0,sl_1,sl_2,sl_3,sl_4,sl_5,sl_6,sl_7,sl_8,CPowB,w_shl1,at_0,at_1,at_2,at_3,ixN_0,ixN_1,ixN_2,zL,qJl,qJt,Int.reduceToNat,Int.reducePow,Int.reduceNeg,Int.reduceLT,Int.reduceLE,Int.reduceMod,Int.reduceMul,Int.reduceAdd,Int.reduceSub,Int.reduceDiv,Int.reduceEq,ite_true,ite_false,if_true,if_false,Bool.true_eq_false,yJ,zP,jh,reduceCtorEq,false_and,and_false,not_false_eq_true,not_true_eq_false,exists_false,false_or,or_false,w_pop,w_extend,zAU,w_clear,w_cat,w_LZ,w_LR,w_forD,w_compZ2,w_fv,w_fmtI,w_fmtS,w_j0,w_j1,w_js,w_tyStr,w_isI_ss,w_addS,w_joinL,w_getC,w_compS,w_split,w_starts,w_partn,w_inS,w_intS,w_slS,w_neS,w_strI,w_dgFS,w_thwN,w_frz,w_forKs,w_notInS,w_find]))
local macro_rules | `(tactic| walk_at "o") => `(tactic| first | exact .inl rfl | exact .inr rfl | assumption)
section
variable {P:Program}{w:World}{K:zA}{mg:Str -> Option Value}{base:Heap}
theorem ok_feed (T:Txt K mg):Cal P w K mg base 1 "_law_feed" ["_law_script","_law_k"] (spFeed K):=by
 have B:=T.bl
 refine yD T.t_l_feed sc_l_feed (fun vs H Q E h=>?_) (fun f cdv A outer s H vs Q E hr h=>?_)
 ·obtain ⟨a,ns,k,rfl,_⟩:=h
  rfl
 obtain ⟨a,ns,k,rfl,hS,h63,h0,h1,q⟩:=h
 refine ⟨_,((@pss_cons _ _ _ _ _ (@ps_set _ _ (2) _ _ _ _ sc_l_feed.nd rfl (by walk_at "o") pe_int (by rfl) (by walk_at "o")) (@pss_cons _ _ _ _ _ (@ps_if _ _ _ _ _ _ _ _ (@pt_cmpR _ _ _ _ _ _ _ _ op_lt (pv 1) (@pe_callB _ _ _ _ _ _ _ _ _ call_lenS rfl B.len bo_len (@pa_cons _ _ _ _ _ (pv 0) pa_nil (by rfl)) (by decide) (by decide) (by rfl) (by rfl)) (@nomark _ _ (by decide) (by decide))) (@pss_one _ _ _ (@ps_set _ _ (2) _ _ _ _ sc_l_feed.nd rfl (by walk_at "o") (@pe_ix _ _ _ _ _ _ _ ix_list (pv 0) (pv 1) (fun _ _=>rfl)) (by rfl) (by walk_at "o"))) pss_nil) (@pss_cons _ _ _ _ _ (@ps_set _ _ (3) _ _ _ _ sc_l_feed.nd rfl (by walk_at "o") (@pe_callB _ _ _ _ _ _ _ _ _ call_abs rfl B.abs bo_abs (@pa_cons _ _ _ _ _ (pv 2) pa_nil (by rfl)) (by decide) (by decide) (by rfl) (by rfl)) (by rfl) (by walk_at "o")) (@pss_cons _ _ _ _ _ (@ps_if _ _ _ _ _ _ _ _ (@pt_cmpR _ _ _ _ _ _ _ _ op_lt (pv 3) (@pe_op _ _ _ _ _ _ _ _ Jz pe_int pe_int) (@nomark _ _ (by decide) (by decide))) (@pss_one _ _ _ (@ps_set _ _ (3) _ _ _ _ sc_l_feed.nd rfl (by walk_at "o") pe_int (by rfl) (by walk_at "o"))) pss_nil) (@pss_one _ _ _ (@ps_ret _ _ _ _ (@pe_lst _ _ _ _ (@pa_cons _ _ _ _ _ (pv 3) (@pa_cons _ _ _ _ _ (@pe_op _ _ _ _ _ _ _ _ op_mod (@pe_op _ _ _ _ _ _ _ _ op_add (@pe_op _ _ _ _ _ _ _ _ op_add (@pe_op _ _ _ _ _ _ _ _ yR (@pe_op _ _ _ _ _ _ _ _ op_mod (pv 2) pe_int) pe_int) (@pe_op _ _ _ _ _ _ _ _ yR pe_int (pv 1))) pe_int) pe_int) (@pa_cons _ _ _ _ _ pe_int pa_nil (by rfl)) (by rfl)) (by rfl)))))))))),?_⟩
 rw [show zp ["_law_script","_law_k","_law_cell","_law_great"] [.ref a,.int k]=[some (.ref a),some (.int k),none,none] from rfl]
 try walk_at "WP"
 refine ⟨_,hS.sq,?_⟩
 split
 ·rename_i hk
  rw [qC] at hk
  obtain ⟨v,hv,_⟩:=atI_int h0 hk
  refine ⟨_,hS.sq,_,hv,?_⟩
  try walk_at "WP"
  refine y8 (fun _=>?_) (fun _=>?_)
  ·refine ⟨mul_r (by decide) (by decide),x5 (by decide) (by decide),fun p hp=>?_⟩
   exact q p _ hp (zV hp _) (J0 (by decide) (by omega) (by omega) (by decide) (by decide))
  ·refine ⟨mul_r (by decide) (by decide),x5 (by decide) (by decide),fun p hp=>?_⟩
   exact q p _ hp (zV hp _) (J0 (by split <;> omega) (by omega) (by omega) (by decide) (by decide))
 ·refine ⟨mul_r (by decide) (by decide),x5 (by decide) (by decide),fun p hp=>?_⟩
  exact q p _ hp (zV hp _) (J0 (by decide) (by omega) (by omega) (by decide) (by decide))
theorem ok_takeN (T:Txt K mg):∀ n,Cal P w K mg base n "_law_take" ["_law_feed_here","_law_many"] (spTakeN n)
 | 0=>by
  obtain ⟨f,fd,F,m,b⟩:=T.t_l_take
  have no:∀ vs H Q E,¬ spTakeN 0 vs H Q E:=fun vs H Q E h=>by
   obtain ⟨p,m,c,_,_,_,h0,_⟩:=h
   omega
  exact ⟨f,fd,⟨fun vs H Q E h=>absurd h (no vs H Q E),fun A outer s H args us vs Q E _ _ _ _ h=>absurd h (no vs H Q E)⟩,m,F.kp,b⟩
 | n+1=>by
  have C_l_take:=ok_takeN T n
  have B:=T.bl
  refine yD T.t_l_take sc_l_take (fun vs H Q E h=>?_) (fun f cdv A outer s H vs Q E hr h=>?_)
  ·obtain ⟨a,m,c,rfl,_⟩:=h
   rfl
  obtain ⟨p,m,c,rfl,hF,hc,_,hn,hm,hl,q⟩:=h
  refine ⟨_,((@pss_cons _ _ _ _ _ (@ps_if _ _ _ _ _ _ _ _ (@pt_cmpR _ _ _ _ _ _ _ _ op_gt (pv 1) (@pe_op _ _ _ _ _ _ _ _ Jz pe_int pe_int) (@nomark _ _ (by decide) (by decide))) (@pss_cons _ _ _ _ _ (@ps_set _ _ (2) _ _ _ _ sc_l_take.nd rfl (by walk_at "o") (@pe_cal _ _ _ _ _ _ _ _ _ _ C_l_take hr rfl (@pa_cons _ _ _ _ _ (pv 0) (@pa_cons _ _ _ _ _ (@pe_op _ _ _ _ _ _ _ _ op_add (@pe_op _ _ _ _ _ _ _ _ op_fdivB (pv 1) (@pe_op _ _ _ _ _ _ _ _ Jz pe_int pe_int)) pe_int) pa_nil (by rfl)) (by rfl)) (by decide) (by rfl) (by rfl)) (by rfl) (by walk_at "o")) (@pss_one _ _ _ (@ps_ret _ _ _ _ (@pe_op _ _ _ _ _ _ _ _ op_mod (@pe_op _ _ _ _ _ _ _ _ op_add (@pe_op _ _ _ _ _ _ _ _ yR (pv 2) (@pe_op _ _ _ _ _ _ _ _ Jz pe_int pe_int)) (@pe_cal _ _ _ _ _ _ _ _ _ _ C_l_take hr rfl (@pa_cons _ _ _ _ _ (pv 0) (@pa_cons _ _ _ _ _ (@pe_op _ _ _ _ _ _ _ _ Jz pe_int pe_int) pa_nil (by rfl)) (by rfl)) (by decide) (by rfl) (by rfl))) (pv 1))))) pss_nil) (@pss_cons _ _ _ _ _ (@ps_if _ _ _ _ _ _ _ _ (@pt_cmpR _ _ _ _ _ _ _ _ op_gt (@pe_ix _ _ _ _ _ _ _ ix_M (pv 0) pe_int (fun _ _=>rfl)) pe_int (@nomark _ _ (by decide) (by decide))) (@pss_cons _ _ _ _ _ (@ps_set _ _ (3) _ _ _ _ sc_l_take.nd rfl (by walk_at "o") (@pe_op _ _ _ _ _ _ _ _ op_mod (@pe_ix _ _ _ _ _ _ _ ix_M (pv 0) pe_int (fun _ _=>rfl)) (pv 1)) (by rfl) (by walk_at "o")) (@pss_cons _ _ _ _ _ (@ps_asg _ _ _ _ _ _ (@pe_op _ _ _ _ _ _ _ _ op_fdivB (@pe_ix _ _ _ _ _ _ _ ix_M (pv 0) pe_int (fun _ _=>rfl)) (pv 1)) (@pg_sub _ _ _ _ _ _ _ (pv 0) pe_int set_list (by intro _ ; rfl)) (by rfl) (by rfl) (by rfl)) (@pss_one _ _ _ (@ps_ret _ _ _ _ (pv 3))))) pss_nil) (@pss_cons _ _ _ _ _ (@ps_set _ _ (4) _ _ _ _ sc_l_take.nd rfl (by walk_at "o") (@pe_op _ _ _ _ _ _ _ _ op_add (@pe_ix _ _ _ _ _ _ _ ix_M (pv 0) pe_int (fun _ _=>rfl)) pe_int) (by rfl) (by walk_at "o")) (@pss_cons _ _ _ _ _ (@ps_asg _ _ _ _ _ _ (pv 4) (@pg_sub _ _ _ _ _ _ _ (pv 0) pe_int set_list (by intro _ ; rfl)) (by rfl) (by rfl) (by rfl)) (@pss_cons _ _ _ _ _ (@ps_set _ _ (5) _ _ _ _ sc_l_take.nd rfl (by walk_at "o") (@pe_op _ _ _ _ _ _ _ _ op_mod (@pe_op _ _ _ _ _ _ _ _ op_add (@pe_op _ _ _ _ _ _ _ _ op_add (@pe_ix _ _ _ _ _ _ _ ix_M (pv 0) pe_int (fun _ _=>rfl)) (@pe_op _ _ _ _ _ _ _ _ yR (@pe_op _ _ _ _ _ _ _ _ yR pe_int (pv 4)) (pv 4))) (@pe_op _ _ _ _ _ _ _ _ yR pe_int (pv 4))) pe_int) (by rfl) (by walk_at "o")) (@pss_cons _ _ _ _ _ (@ps_set _ _ (5) _ _ _ _ sc_l_take.nd rfl (by walk_at "o") (@pe_op _ _ _ _ _ _ _ _ op_mod (@pe_op _ _ _ _ _ _ _ _ op_add (@pe_op _ _ _ _ _ _ _ _ op_add (@pe_op _ _ _ _ _ _ _ _ yR (pv 5) (pv 5)) (@pe_op _ _ _ _ _ _ _ _ yR pe_int (pv 5))) (pv 4)) pe_int) (by rfl) (by walk_at "o")) (@pss_cons _ _ _ _ _ (@ps_set _ _ (5) _ _ _ _ sc_l_take.nd rfl (by walk_at "o") (@pe_op _ _ _ _ _ _ _ _ op_mod (@pe_op _ _ _ _ _ _ _ _ op_add (@pe_op _ _ _ _ _ _ _ _ yR (pv 5) (pv 5)) (@pe_op _ _ _ _ _ _ _ _ yR pe_int (pv 5))) pe_int) (by rfl) (by walk_at "o")) (@pss_one _ _ _ (@ps_ret _ _ _ _ (@pe_op _ _ _ _ _ _ _ _ op_mod (@pe_op _ _ _ _ _ _ _ _ op_fdivB (pv 5) pe_int) (pv 1)))))))))))),?_⟩
  obtain ⟨g,d,st,hH,hg,hd0,hd1,hs0,hs1⟩:=id hF
  rw [show zp ["_law_feed_here","_law_many","_law_high","_law_digit","_law_step","_law_mixed"] [.ref p,.int m]=[some (.ref p),some (.int m),none,none,none,none] from rfl]
  (iterate 5 ((try (walk_at "WP")); (try (simp only [hH,qJs,qJt,qJl,qJd,exists_eq_left',exists_eq_left])))); (try (walk_at "WP"))
  have t2:=two_pow (n:=n)
  have l2:=lim_ge n
  split
  ·rename_i hbig
   have hl':m <= 1000000 * (lim n - 1):=hl
   have hn0:0 < n:=by
    rcases Nat.eq_zero_or_pos n with e | e
    ·subst e
     have:lim 0=11:=rfl
     omega
    ·exact e
   refine ⟨divB (by decide) (by decide),p,m / 1000000+1,c,rfl,hF,by omega,hn0,by omega,by omega,by omega,fun r H1 r0 r1 F1 C1=>?_⟩
   try walk_at "WP"
   refine ⟨mul_r (by decide) (by decide),p,1000000,c+2 ^ n,rfl,F1,by omega,hn0,by omega,by decide,by have:=l2.2 hn0; omega,fun r' H2 r0' r1' F2 C2=>?_⟩
   try walk_at "WP"
   exact ⟨by omega,q _ _ (modq (by omega)).1 (modq (by omega)).2 (F2.mono (by omega)) (C1.trans C2)⟩
  ·rename_i hsm
   split
   ·rename_i hgp
    exact ⟨by omega,divB (by omega) (by omega),q _ _ (modq (by omega)).1 (modq (by omega)).2 (J0 (divq hg (by omega)) hd0 hd1 hs0 (by omega)) (Chg.upd _)⟩
   ·refine ⟨x5 (by decide) (by decide),mul_r (by omega) (by omega),x5 (by decide) (by decide),x5 (by omega) (by omega),x5 (by decide) (by decide),x5 (by omega) (by omega),x5 (by decide) (by decide),divB (by decide) (by decide),by omega,?_⟩
    exact q _ _ (modq (by omega)).1 (modq (by omega)).2 (J0 hg hd0 hd1 (by omega) (by omega)) (Chg.upd _)
theorem ok_take (T:Txt K mg):Cal P w K mg base 10 "_law_take" ["_law_feed_here","_law_many"] spTake :=
 (ok_takeN T 10).imp fun vs H Q E h=>by
  obtain ⟨p,m,c,e,hF,hc,h1,h2,q⟩:=h
  refine ⟨p,m,c,e,hF,by omega,by decide,by decide,h1,Int.le_trans h2 (by decide +kernel),fun r H' a b F C=>q r H' a b (F.mono (by omega)) C⟩
end
section
variable {P:Program}{w:World}{K:zA}{mg:Str -> Option Value}{base:Heap}
theorem ok_flow (T:Txt K mg):Cal P w K mg base 1 "_law_low" ["_law_row"] spLower:=by
 have B:=T.bl
 refine yD T.t_l_low sc_l_low (fun vs H Q E h=>?_) (fun f cdv A outer s H vs Q E hr h=>?_)
 ·obtain ⟨l,xs,rfl,_⟩:=h
  rfl
 obtain ⟨l,xs,rfl,hl,hlen,q⟩:=h
 refine ⟨_,((@pss_cons _ _ _ _ _ (@ps_for _ _ _ _ _ _ _ _ PassesOwn.never rfl (@pi_range1 _ _ _ _ _ _ rfl B.range (@pa_cons _ _ _ _ _ pe_int pa_nil (by rfl)) (by rfl)) (@pg_name _ _ (1) _ sc_l_low.nd rfl (by walk_at "o") (by walk_at "o")) (@pss_one _ _ _ (@ps_if _ _ _ _ _ _ _ _ (@pt_val _ _ _ (@pe_callB _ _ _ _ _ _ _ _ _ (@call_any _ rfl) rfl B.any bo_any (@pa_cons _ _ _ _ _ (@yE _ _ _ _ _ _ _ _ (["_law_part_here","_law_k"]) (1) ([1]) _ _ _ rfl (@pi_list _ _ _ _ (pv 0)) (fun nd C s H fp=>⟨(@pg_name _ _ (0) _ nd rfl (by walk_at "o") (by walk_at "o")),yf,(@pe_cmpR _ _ _ _ _ _ _ _ op_ne (@pe_op _ _ _ _ _ _ _ _ op_mod (pv 0) (@pe_op _ _ _ _ _ _ _ _ JP pe_int (pv 1))) pe_int (@nomark _ _ (by decide) (by decide)))⟩) (by decide +kernel) (by first | rfl | decide +kernel) (by first | rfl | decide +kernel) rfl (fun _=>rfl)) pa_nil (by rfl)) (by decide) (by decide) (by rfl) (by rfl)) (by intro _ ; rfl)) (@pss_one _ _ _ (@ps_ret _ _ _ _ (pv 1))) pss_nil)) (by intro _ ; rfl)) (@pss_one _ _ _ (@ps_ret _ _ _ _ pe_int)))),?_⟩
 rw [show zp ["_law_row","_law_k"] [.ref l]=[some (.ref l),none] from rfl]
 try walk_at "WP"
 refine forR (fun i σ H2=>∃ o1,σ = [some (.ref l),o1] /\ Same H H2 /\ ∀ x ∈ xs,(2:Int) ^ i ∣ x) ⟨none,rfl,Same.refl _,fun x _=>by rw [Int.pow_zero]; exact Int.one_dvd x⟩ ?_ ?_
 ·rintro i σ H2 N hi ⟨o1,rfl,s2,hd⟩ hN
  have hl2:=s2 _ _ hl
  try walk_at "WP"
  refine ⟨⟨_,SqL.of hl2⟩,?_⟩
  refine zAS (f:=fun v=>match v with | .int n=>some (V.bl (!decide (n % (2 * 2 ^ i)=0))) | _=>none) (SqL.of hl2) (by rw [qC]; exact Jp (by omega)) (fun y H' R hy hS' hR=>?_) (fun acc hacc=>?_)
  ·obtain ⟨n,hn,rfl⟩:=qP.mp hy
   rw [show yY [1] [some (V.ref l),some (V.int (0+(i:Int)))]=[some (V.int (0+(i:Int)))] from rfl]
   try walk_at "WP"
   rw [Int.zero_add,zb]
   have pp:=J2 i
   refine ⟨⟨by omega,by omega,zD (Jy (n:=2) (by decide)) (by decide)⟩,by omega,?_⟩
   exact hR
  have eb:(xs.map V.int).filterMap (fun v=>match v with | .int n=>some (V.bl (!decide (n % (2 * 2 ^ i)=0))) | _=>none)=(xs.map fun n=>!decide (n % (2 * 2 ^ i)=0)).map V.bl:=by
   rw [jj,List.map_map,← yz]
   rfl
  rw [eb]
  have sa:=zV hacc (.lst ((xs.map fun n=>!decide (n % (2 * 2 ^ i)=0)).map V.bl))
  have ha:(upd H2 acc (.lst ((xs.map fun n=>!decide (n % (2 * 2 ^ i)=0)).map V.bl))) acc=some (.lst ((xs.map fun n=>!decide (n % (2 * 2 ^ i)=0)).map V.bl)):=zL
  generalize upd H2 acc (.lst ((xs.map fun n=>!decide (n % (2 * 2 ^ i)=0)).map V.bl))=H3 at sa ha ⊢
  try walk_at "WP"
  refine ⟨acc,_,rfl,ha,?_⟩
  try walk_at "WP"
  by_cases z:((xs.map fun n=>!decide (n % (2 * 2 ^ i)=0)).any id)=true
  ·rw [if_pos z]
   refine q _ _ (by omega) (by omega) ?_ (s2.trans sa)
   rw [Int.zero_add,zb]
   exact hd
  ·rw [if_neg z]
   refine hN _ _ ⟨_,rfl,s2.trans sa,fun x hx=>?_⟩
   have hz:¬ (!decide (x % (2 * 2 ^ i)=0))=true:=fun h=>z (jO.mpr ⟨_,qP.mpr ⟨x,hx,rfl⟩,h⟩)
   have hz2:x % (2 * 2 ^ i)=0:=by
    rw [xI,decide_eq_false_iff_not,Decidable.not_not] at hz
    exact hz
   rw [Int.pow_succ,Int.mul_comm]
   exact Int.dvd_of_emod_eq_zero hz2
 ·rintro σ H2 ⟨o1,rfl,s2,hd⟩
  try walk_at "WP"
  exact q 40 _ (by decide) (by decide) hd s2
theorem ok_fmoved (T:Txt K mg):Cal P w K mg base 1 "_law_moved" ["_law_row","_law_shift_here"] spLMoved:=by
 have B:=T.bl
 refine yD T.t_l_moved zAu (fun vs H Q E h=>?_) (fun f cdv A outer s H vs Q E hr h=>?_)
 ·obtain ⟨l,xs,sh,rfl,_⟩:=h
  rfl
 obtain ⟨l,xs,sh,rfl,hl,hlen,hb,s0,s1,q⟩:=h
 refine ⟨_,((@pss_cons _ _ _ _ _ (@ps_if _ _ _ _ _ _ _ _ (@pt_cmpR _ _ _ _ _ _ _ _ op_ge (pv 1) pe_int (@nomark _ _ (by decide) (by decide))) (@pss_one _ _ _ (@ps_ret _ _ _ _ (@yE _ _ _ _ _ _ _ _ (["_law_part_here","_law_shift_here"]) (1) ([1]) _ _ _ rfl (@pi_list _ _ _ _ (pv 0)) (fun nd C s H fp=>⟨(@pg_name _ _ (0) _ nd rfl (by walk_at "o") (by walk_at "o")),yf,(@pe_op _ _ _ _ _ _ _ _ JP (pv 0) (pv 1))⟩) (by decide +kernel) (by first | rfl | decide +kernel) (by first | rfl | decide +kernel) rfl (fun _=>rfl)))) pss_nil) (@pss_one _ _ _ (@ps_ret _ _ _ _ (@yE _ _ _ _ _ _ _ _ (["_law_part_here","_law_shift_here"]) (1) ([1]) _ _ _ rfl (@pi_list _ _ _ _ (pv 0)) (fun nd C s H fp=>⟨(@pg_name _ _ (0) _ nd rfl (by walk_at "o") (by walk_at "o")),yf,(@pe_op _ _ _ _ _ _ _ _ op_shr (pv 0) (@pe_un _ _ _ _ _ _ un_neg (pv 1)))⟩) (by decide +kernel) (by first | rfl | decide +kernel) (by first | rfl | decide +kernel) rfl (fun _=>rfl)))))),?_⟩
 rw [show zp ["_law_row","_law_shift_here"] [.ref l,.int sh]=[some (.ref l),some (.int sh)] from rfl]
 try walk_at "WP"
 have ecap:yY [1] [some (V.ref l),some (V.int sh)]=[some (V.int sh)]:=rfl
 refine y8 (fun z=>?_) (fun z=>?_)
 ·refine ⟨⟨_,SqL.of hl⟩,?_⟩
  refine zAS (f:=liI (mvI sh)) (SqL.of hl) (by rw [qC]; exact Jp (by omega)) (fun y H' R hy hS' hR=>?_) (fun acc hacc=>?_)
  ·obtain ⟨n,hn,rfl⟩:=qP.mp hy
   rw [ecap]
   try walk_at "WP"
   refine ⟨⟨by omega,by omega,zD (Jy (hb n hn)) (by decide)⟩,?_⟩
   rw [← mvI_up z]
   exact hR
  rw [J6]
  exact q acc _ hacc (zV hacc _) zL
 ·refine ⟨⟨_,SqL.of hl⟩,?_⟩
  refine zAS (f:=liI (mvI sh)) (SqL.of hl) (by rw [qC]; exact Jp (by omega)) (fun y H' R hy hS' hR=>?_) (fun acc hacc=>?_)
  ·obtain ⟨n,hn,rfl⟩:=qP.mp hy
   rw [ecap]
   try walk_at "WP"
   refine ⟨by omega,?_⟩
   rw [← J8 (by omega)]
   exact hR
  rw [J6]
  exact q acc _ hacc (zV hacc _) zL
theorem ok_fshift (T:Txt K mg):Cal P w K mg base 11 "_law_shift" ["_law_feed_here","_law_row"] spFShift:=by
 have B:=T.bl
 have C_l_take:=ok_take (P:=P) (w:=w) (base:=base) T
 have C_l_low:=(ok_flow (P:=P) (w:=w) (base:=base) T).mono (k:=10) (by decide)
 refine yD T.t_l_shift sc_l_shift (fun vs H Q E h=>?_) (fun f cdv A outer s H vs Q E hr h=>?_)
 ·obtain ⟨p,l,c,xs,rfl,_⟩:=h
  rfl
 obtain ⟨p,l,c,xs,rfl,hF,hc,hl,hlen,hlp,q⟩:=h
 refine ⟨_,((@pss_cons _ _ _ _ _ (@ps_set _ _ (2) _ _ _ _ sc_l_shift.nd rfl (by walk_at "o") (@pe_cal _ _ _ _ _ _ _ _ _ _ C_l_take hr rfl (@pa_cons _ _ _ _ _ (pv 0) (@pa_cons _ _ _ _ _ pe_int pa_nil (by rfl)) (by rfl)) (by decide) (by rfl) (by rfl)) (by rfl) (by walk_at "o")) (@pss_cons _ _ _ _ _ (@ps_if _ _ _ _ _ _ _ _ (@pt_cmpR _ _ _ _ _ _ _ _ op_lt (pv 2) pe_int (@nomark _ _ (by decide) (by decide))) (@pss_one _ _ _ (@ps_ret _ _ _ _ (@pe_cal _ _ _ _ _ _ _ _ _ _ C_l_take hr rfl (@pa_cons _ _ _ _ _ (pv 0) (@pa_cons _ _ _ _ _ pe_int pa_nil (by rfl)) (by rfl)) (by decide) (by rfl) (by rfl)))) pss_nil) (@pss_cons _ _ _ _ _ (@ps_if _ _ _ _ _ _ _ _ (@pt_cmpR _ _ _ _ _ _ _ _ op_eq (pv 2) pe_int (@nomark _ _ (by decide) (by decide))) (@pss_one _ _ _ (@ps_ret _ _ _ _ (@pe_cal _ _ _ _ _ _ _ _ _ _ C_l_take hr rfl (@pa_cons _ _ _ _ _ (pv 0) (@pa_cons _ _ _ _ _ pe_int pa_nil (by rfl)) (by rfl)) (by decide) (by rfl) (by rfl)))) pss_nil) (@pss_cons _ _ _ _ _ (@ps_if _ _ _ _ _ _ _ _ (@pt_cmpR _ _ _ _ _ _ _ _ op_lt (pv 2) pe_int (@nomark _ _ (by decide) (by decide))) (@pss_one _ _ _ (@ps_ret _ _ _ _ pe_int)) pss_nil) (@pss_one _ _ _ (@ps_ret _ _ _ _ (@pe_un _ _ _ _ _ _ un_neg (@pe_cal _ _ _ _ _ _ _ _ _ _ C_l_take hr rfl (@pa_cons _ _ _ _ _ (pv 0) (@pa_cons _ _ _ _ _ (@pe_op _ _ _ _ _ _ _ _ op_add (@pe_cal _ _ _ _ _ _ _ _ _ _ C_l_low hr rfl (@pa_cons _ _ _ _ _ (pv 1) pa_nil (by rfl)) (by decide) (by rfl) (by rfl)) pe_int) pa_nil (by rfl)) (by rfl)) (by decide) (by rfl) (by rfl)))))))))),?_⟩
 rw [show zp ["_law_feed_here","_law_row","_law_way"] [.ref p,.ref l]=[some (.ref p),some (.ref l),none] from rfl]
 try walk_at "WP"
 refine jm hF (by omega) (by decide) (by decide) fun r1 H1 r10 r11 F1 C1=>?_
 try walk_at "WP"
 have up:∀ (r:Int) H',0 <= r -> r <= 40 -> Feed H' p (c+2048) -> Chg p H H' -> Q (.int r) H':=fun r H' a b F C=>q r H' ⟨by omega,b,fun z=>by omega⟩ F C
 refine y8 (fun z=>?_) (fun z=>?_)
 ·exact jm F1 (by omega) (by decide) (by decide) fun r2 H2 r20 r21 F2 C2=>up _ _ r20 (by omega) (F2.mono (by omega)) (C1.trans C2)
 refine y8 (fun z=>?_) (fun z=>?_)
 ·exact jm F1 (by omega) (by decide) (by decide) fun r2 H2 r20 r21 F2 C2=>up _ _ r20 (by omega) (F2.mono (by omega)) (C1.trans C2)
 refine y8 (fun z=>?_) (fun z=>?_)
 ·exact up _ _ (by omega) (by omega) (F1.mono (by omega)) C1
 have hl1:=C1 _ _ hlp hl
 refine ⟨l,xs,rfl,hl1,hlen,fun f0 H2 f1 f2 fd s2=>?_⟩
 try walk_at "WP"
 refine jm (F1.same s2) (by omega) (by omega) (by omega) fun r2 H3 r20 r21 F3 C3=>?_
 try walk_at "WP"
 refine q _ _ ⟨by omega,by omega,fun _ x hx=>?_⟩ (F3.mono (by omega)) ((C1.trans s2.chg).trans C3)
 have:=fd x hx
 refine Int.dvd_trans ?_ this
 rw [show f0.toNat=(- -r2).toNat+(f0.toNat - (- -r2).toNat) by omega,Int.pow_add]
 exact Int.dvd_mul_right _ _
end
section
variable {P:Program}{w:World}{K:zA}{mg:Str -> Option Value}{base:Heap}
theorem ok_shifted (T:Txt K mg):Cal P w K mg base 1 "shifted" ["number","shift"] spShiftedB:=by
 have B:=T.bl
 refine yD T.t_shifted sc_shifted (fun vs H Q E h=>?_) (fun f cdv A outer s H vs Q E hr h=>?_)
 ·obtain ⟨n,s,rfl,_⟩:=h
  rfl
 obtain ⟨n,sh,rfl,h0,h1,hb,q⟩:=h
 refine ⟨_,((@pss_cons _ _ _ _ _ (@ps_if _ _ _ _ _ _ _ _ (@pt_cmpR _ _ _ _ _ _ _ _ op_ge (pv 1) pe_int (@nomark _ _ (by decide) (by decide))) (@pss_one _ _ _ (@ps_ret _ _ _ _ (@pe_op _ _ _ _ _ _ _ _ JP (pv 0) (pv 1)))) pss_nil) (@pss_cons _ _ _ _ _ (@ps_set _ _ (2) _ _ _ _ sc_shifted.nd rfl (by walk_at "o") (@pe_op _ _ _ _ _ _ _ _ op_shr (pv 0) (@pe_un _ _ _ _ _ _ un_neg (pv 1))) (by rfl) (by walk_at "o")) (@pss_cons _ _ _ _ _ (@ps_if _ _ _ _ _ _ _ _ (@pt_cmpR _ _ _ _ _ _ _ _ op_ne (@pe_op _ _ _ _ _ _ _ _ JP (pv 2) (@pe_un _ _ _ _ _ _ un_neg (pv 1))) (pv 0) (@nomark _ _ (by decide) (by decide))) (@pss_one _ _ _ (@ps_ret _ _ _ _ pe_non)) pss_nil) (@pss_one _ _ _ (@ps_ret _ _ _ _ (pv 2))))))),?_⟩
 rw [show zp ["number","shift","halved"] [.int n,.int sh]=[some (.int n),some (.int sh),none] from rfl]
 try walk_at "WP"
 unfold shV at q
 refine y8 (fun c=>?_) (fun c=>?_)
 ·rw [if_pos c] at q
  exact ⟨shl_ok c (by omega) hb (by decide),q⟩
 ·rw [if_neg c] at q
  refine ⟨by omega,shl_ok (by omega) (by omega) (abs_div (J2 _) hb) (by decide),?_⟩
  refine y8 (fun d=>?_) (fun d=>?_)
  ·rw [if_neg d] at q
   exact q
  ·rw [if_pos (Decidable.not_not.mp d)] at q
   exact q
end
section
variable {P:Program}{w:World}{K:zA}{mg:Str -> Option Value}{base:Heap}
theorem ok_inrow (T:Txt K mg):Cal P w K mg base 1 "input_row" ["ins","thing"] spInRow:=by
 have B:=T.bl
 refine yD T.t_input_row sc_input_row (fun vs H Q E h=>?_) (fun f cdv A outer s H vs Q E hr h=>?_)
 ·obtain ⟨n,i,rfl,_⟩:=h
  rfl
 obtain ⟨n,i,rfl,hn,q⟩:=h
 refine ⟨_,((@pss_one _ _ _ (@ps_ret _ _ _ _ (@zr _ _ _ _ _ _ _ _ _ Ji rfl B.tuple jk (@pa_cons _ _ _ _ _ (@yE _ _ _ _ _ _ _ _ (["place","thing"]) (1) ([1]) _ _ _ rfl (@pi_range1 _ _ _ _ _ _ rfl B.range (@pa_cons _ _ _ _ _ (pv 0) pa_nil (by rfl)) (by rfl)) (fun nd C s H fp=>⟨(@pg_name _ _ (0) _ nd rfl (by walk_at "o") (by walk_at "o")),yf,(@jP _ _ _ _ _ _ _ _ (@pt_cmpR _ _ _ _ _ _ _ _ op_eq (pv 0) (pv 1) (@nomark _ _ (by decide) (by decide))) pe_int pe_int)⟩) (by decide +kernel) (by first | rfl | decide +kernel) (by first | rfl | decide +kernel) rfl (fun _=>rfl)) pa_nil (by rfl)) (by decide) (by decide) (by rfl) (by rfl))))),?_⟩
 rw [show zp ["ins","thing"] [.int n,.int i]=[some (.int n),some (.int i)] from rfl]
 try walk_at "WP"
 refine ⟨by omega,by omega,?_⟩
 rw [zb]
 refine comp_R (f:=unV i) (zg (by omega)) (fun y H5 R5 hy s5 hR5=>?_) (fun acc hacc=>?_)
 ·obtain ⟨k,hk,rfl⟩:=qP.mp hy
  rw [show yY [1] [some (V.int (n:Int)),some (V.int (i:Int))]=[some (V.int (i:Int))] from rfl]
  try walk_at "WP"
  have e:unV i (V.int (0+(k:Int)))=some (V.int (if 0+(k:Int)=(i:Int) then 1 else 0)):=rfl
  rw [e] at hR5
  refine y8 (fun z=>?_) (fun z=>?_)
  ·rw [if_pos z] at hR5
   exact hR5
  ·rw [if_neg z] at hR5
   exact hR5
 rw [unV_map]
 have sa:=zV hacc (.lst ((yb n i).map V.int))
 try walk_at "WP"
 refine ⟨_,.inl ⟨SqL.of zL,fun r hr0=>?_⟩⟩
 exact q r _ (sa.free hr0) (sa.trans (zV hr0 _)) zL
theorem ok_inrows (T:Txt K mg):Cal P w K mg base 2 "input_rows" ["ins"] spInRows:=by
 have B:=T.bl
 have C_input_row:=ok_inrow (P:=P) (w:=w) (base:=base) T
 refine yD T.t_input_rows sc_input_rows (fun vs H Q E h=>?_) (fun f cdv A outer s H vs Q E hr h=>?_)
 ·obtain ⟨n,rfl,_⟩:=h
  rfl
 obtain ⟨n,rfl,hn,q⟩:=h
 refine ⟨_,((@pss_one _ _ _ (@ps_ret _ _ _ _ (@yE _ _ _ _ _ _ _ _ (["thing","ins"]) (1) ([0]) _ _ _ rfl (@pi_range1 _ _ _ _ _ _ rfl B.range (@pa_cons _ _ _ _ _ (pv 0) pa_nil (by rfl)) (by rfl)) (fun nd C s H fp=>⟨(@pg_name _ _ (0) _ nd rfl (by walk_at "o") (by walk_at "o")),yf,(@pe_cal _ _ _ _ _ _ _ _ _ _ C_input_row hr rfl (@pa_cons _ _ _ _ _ (pv 1) (@pa_cons _ _ _ _ _ (pv 0) pa_nil (by rfl)) (by rfl)) (by decide) (by rfl) (by rfl))⟩) (by decide +kernel) (by first | rfl | decide +kernel) (by first | rfl | decide +kernel) rfl (fun _=>rfl))))),?_⟩
 rw [show zp ["ins"] [.int n]=[some (.int n)] from rfl]
 try walk_at "WP"
 refine ⟨by omega,by omega,?_⟩
 rw [zb]
 refine comp_tups (f:=iT) (xs:=rngV 0 n) ((zy n).map (yb n)) (by rw [jn,qC,List.length_range]) (by rw [jn]; omega) (fun H' _=>it_R) (fun i x z H' R hx hz s' hR=>?_) (fun acc ys H' ha s' h' ht=>q acc ys H' ha s' h' ht)
 have hi:i < n:=by have:=(qB.mp hx).1; rwa [jn] at this
 rw [rngV_get hi] at hx
 cases hx
 rw [qI,List.getElem?_range hi] at hz
 cases hz
 rw [show yY [0] [some (V.int (n:Int))]=[some (V.int (n:Int))] from rfl]
 try walk_at "WP"
 rw [Int.zero_add]
 exact ⟨n,i,rfl,hn,fun r H5 a b c=>hR r H5 a b c⟩
end
section
variable {P:Program}{w:World}{K:zA}{mg:Str -> Option Value}{base:Heap}
theorem ok_iswh (T:Txt K mg):Cal P w K mg base 1 "is_whole" ["thing"] spIsWh:=by
 have B:=T.bl
 refine yD T.t_is_whole sc_is_whole (fun vs H Q E h=>?_) (fun f cdv A outer s H vs Q E hr h=>?_)
 ·obtain ⟨_,rfl,_⟩:=h
  rfl
 obtain ⟨v,rfl,hc,q⟩:=h
 refine ⟨_,((@pss_one _ _ _ (@ps_ret _ _ _ _ (@j4 _ _ _ _ _ _ _ (@pe_callB _ _ _ _ _ _ _ _ _ x4 rfl B.isinstance zw (@pa_cons _ _ _ _ _ (pv 0) (@pa_cons _ _ _ _ _ (@xh _ _ (.ty "int") _ _ rfl B.int xi rfl (by decide) (by decide)) pa_nil (by rfl)) (by rfl)) (by decide) (by decide) (by rfl) (by rfl)) (@j3 _ _ _ _ _ (@pe_not _ _ _ _ (@pe_callB _ _ _ _ _ _ _ _ _ x4 rfl B.isinstance zw (@pa_cons _ _ _ _ _ (pv 0) (@pa_cons _ _ _ _ _ (@xh _ _ (.ty "bool") _ _ rfl B.bool bo_bool rfl (by decide) (by decide)) pa_nil (by rfl)) (by rfl)) (by decide) (by decide) (by rfl) (by rfl)))))))),?_⟩
 rw [show zp ["thing"] [v]=[some (v)] from rfl]
 try walk_at "WP"
 refine cell_int hc (fun z1 z2=>?_) (fun ⟨b,e⟩=>?_) (fun z=>?_)
 ·try walk_at "WP"
  rw [z1] at q
  exact q
 ·subst e
  try walk_at "WP"
  exact q
 ·cases v with
  | int i =>
   try walk_at "WP"
   exact q
  | _=>cases z
theorem ok_btw (T:Txt K mg):Cal P w K mg base 2 "is_between" ["thing","low","high"] spBtw:=by
 have B:=T.bl
 have C_is_whole:=ok_iswh (P:=P) (w:=w) (base:=base) T
 refine yD T.t_is_between sc_is_between (fun vs H Q E h=>?_) (fun f cdv A outer s H vs Q E hr h=>?_)
 ·obtain ⟨_,_,_,rfl,_⟩:=h
  rfl
 obtain ⟨v,lo,hi,rfl,hc,q⟩:=h
 refine ⟨_,((@pss_one _ _ _ (@ps_ret _ _ _ _ (@j4 _ _ _ _ _ _ _ (@pe_cal _ _ _ _ _ _ _ _ _ _ C_is_whole hr rfl (@pa_cons _ _ _ _ _ (pv 0) pa_nil (by rfl)) (by decide) (by rfl) (by rfl)) (@j3 _ _ _ _ _ (@pe_chain _ _ _ _ _ _ _ _ _ _ _ _ op_le op_le (pv 1) (pv 0) (pv 2) (by with_unfolding_all rfl))))))),?_⟩
 rw [show zp ["thing","low","high"] [v,.int lo,.int hi]=[some (v),some (.int lo),some (.int hi)] from rfl]
 try walk_at "WP"
 refine ⟨v,rfl,hc,?_⟩
 cases v with
 | int n =>
  try walk_at "WP"
  rw [if_pos (show isWh (V.int n)=true from rfl)]
  refine y8 (fun z=>?_) (fun z=>?_)
  ·rw [show btw (V.int n) lo hi=decide (n <= hi) from decide_eq_decide.mpr ⟨fun h=>h.2,fun h=>⟨z,h⟩⟩] at q
   exact q
  ·rw [show btw (V.int n) lo hi=false from decide_eq_false fun h=>z h.1] at q
   exact q
 | _ =>
  try walk_at "WP"
  exact q
theorem ok_shrowN (T:Txt K mg):Cal P w K mg base 2 "shifted_row" ["row","shift"] spShRowNB:=by
 have B:=T.bl
 have C_shifted:=ok_shifted (P:=P) (w:=w) (base:=base) T
 refine yD T.t_shifted_row zAs (fun vs H Q E h=>?_) (fun f cdv A outer s H vs Q E hr h=>?_)
 ·obtain ⟨_,_,_,rfl,_⟩:=h
  rfl
 obtain ⟨l,sh,xs,rfl,hl,hlen,hb,s0,s1,q⟩:=h
 refine ⟨_,((@pss_one _ _ _ (@ps_ret _ _ _ _ (@yE _ _ _ _ _ _ _ _ (["number","shift"]) (1) ([1]) _ _ _ rfl (@pi_tup _ _ _ _ (pv 0)) (fun nd C s H fp=>⟨(@pg_name _ _ (0) _ nd rfl (by walk_at "o") (by walk_at "o")),yf,(@pe_cal _ _ _ _ _ _ _ _ _ _ C_shifted hr rfl (@pa_cons _ _ _ _ _ (pv 0) (@pa_cons _ _ _ _ _ (pv 1) pa_nil (by rfl)) (by rfl)) (by decide) (by rfl) (by rfl))⟩) (by decide +kernel) (by first | rfl | decide +kernel) (by first | rfl | decide +kernel) rfl (fun _=>rfl))))),?_⟩
 rw [show zp ["row","shift"] [.ref l,.int sh]=[some (.ref l),some (.int sh)] from rfl]
 unfold iT at hl
 try walk_at "WP"
 refine ⟨⟨_,SqT.of hl⟩,?_⟩
 refine comp_T (f:=shRV sh) (SqT.of hl) (by rw [qC]; exact Jp (by omega)) (fun y H' R hy hS' hR=>?_) (fun acc hacc=>?_)
 ·obtain ⟨n,hn,rfl⟩:=qP.mp hy
  rw [show yY [1] [some (V.ref l),some (V.int sh)]=[some (V.int sh)] from rfl]
  try walk_at "WP"
  exact ⟨n,sh,rfl,by omega,by omega,qJ (hb n hn) (qN (by decide) (by decide)),hR⟩
 rw [zAZ]
 exact q acc _ hacc (zV hacc _) zL
theorem ok_partC (T:Txt K mg):Cal P w K mg base 3 "is_part" ["thing","shift","rows"] spPartCB:=by
 have B:=T.bl
 obtain ⟨_,mg_FURTHEST⟩:=T.i_FURTHEST
 have C_is_between:=ok_btw (P:=P) (w:=w) (base:=base) T
 have C_shifted_row:=ok_shrowN (P:=P) (w:=w) (base:=base) T
 refine yD T.t_is_part sc_is_part (fun vs H Q E h=>?_) (fun f cdv A outer s H vs Q E hr h=>?_)
 ·obtain ⟨_,_,_,_,_,rfl,_⟩:=h
  rfl
 obtain ⟨a,s',l,ys,rs,rfl,ca,cs,hl,hrs,rb,q⟩:=h
 refine ⟨_,((@pss_cons _ _ _ _ _ (@ps_if _ _ _ _ _ _ _ _ (@PW.pt _ _ _ (@pw_or _ _ _ _ _ _ _ (@pt_not _ _ _ _ (@pt_val _ _ _ (@pe_cal _ _ _ _ _ _ _ _ _ _ C_is_between hr rfl (@pa_cons _ _ _ _ _ (pv 0) (@pa_cons _ _ _ _ _ pe_int (@pa_cons _ _ _ _ _ (@pe_op _ _ _ _ _ _ _ _ JE (@pe_callB _ _ _ _ _ _ _ _ _ call_lenM rfl B.len bo_len (@pa_cons _ _ _ _ _ (pv 2) pa_nil (by rfl)) (by decide) (by decide) (by rfl) (by rfl)) pe_int) pa_nil (by rfl)) (by rfl)) (by rfl)) (by decide) (by rfl) (by rfl)) (by intro _ ; rfl))) (@pw_or1 _ _ _ _ (@pt_not _ _ _ _ (@pt_val _ _ _ (@pe_cal _ _ _ _ _ _ _ _ _ _ C_is_between hr rfl (@pa_cons _ _ _ _ _ (pv 1) (@pa_cons _ _ _ _ _ (@pe_un _ _ _ _ _ _ un_neg (@pe_glob _ _ (.int 4000) _ _ rfl mg_FURTHEST ⟨_,rfl⟩ (by decide))) (@pa_cons _ _ _ _ _ (@pe_glob _ _ (.int 4000) _ _ rfl mg_FURTHEST ⟨_,rfl⟩ (by decide)) pa_nil (by rfl)) (by rfl)) (by rfl)) (by decide) (by rfl) (by rfl)) (by intro _ ; rfl)))))) (@pss_one _ _ _ (@ps_ret _ _ _ _ pe_bl)) pss_nil) (@pss_one _ _ _ (@ps_ret _ _ _ _ (@pe_cmpR _ _ _ _ _ _ _ _ op_notIn_seq pe_non (@pe_cal _ _ _ _ _ _ _ _ _ _ C_shifted_row hr rfl (@pa_cons _ _ _ _ _ (@pe_ix _ _ _ _ _ _ _ ix_M (pv 2) (pv 0) (fun _ _=>rfl)) (@pa_cons _ _ _ _ _ (pv 1) pa_nil (by rfl)) (by rfl)) (by decide) (by rfl) (by rfl)) (by with_unfolding_all rfl)))))),?_⟩
 rw [show zp ["thing","shift","rows"] [a,s',.ref l]=[some (a),some (s'),some (.ref l)] from rfl]
 (iterate 5 ((try (walk_at "WP")); (try (simp only [hl,qJs,qJt,qJl,qJd,exists_eq_left',exists_eq_left])))); (try (walk_at "WP"))
 refine ⟨a,0,_,rfl,ca,_,rfl,?_⟩
 unfold xF at q
 rw [← hrs.len] at q
 cases b1:btw a 0 ((ys.length:Int) - 1) with
 | false =>
  rw [if_pos rfl]
  rw [b1] at q
  exact q H (Same.refl H)
 | true =>
  rw [if_neg (by decide)]
  refine ⟨s',_,_,rfl,cs,_,rfl,?_⟩
  rw [b1,xL] at q
  cases b2:btw s' (-4000) 4000 with
  | false =>
   rw [if_pos rfl]
   rw [b2] at q
   exact q H (Same.refl H)
  | true =>
   rw [if_neg (by decide)]
   rw [b2,xL] at q
   obtain ⟨x,rfl,x0,x1⟩:=btw_int b1
   obtain ⟨y,rfl,y0,y1⟩:=btw_int b2
   obtain ⟨k,rfl⟩:∃ k:Nat,x=(k:Int):=⟨x.toNat,by omega⟩
   have hk:k < ys.length:=by omega
   have hk':k < rs.length:=by rw [← hrs.len]; exact hk
   have er:rs[k]? = some (rs.getD k []):=by rw [qA hk',qD,qA hk']; rfl
   obtain ⟨p,ep,hp⟩:=hrs.at_ k _ er
   have hm:rs.getD k [] ∈ rs:=qE er
   refine ⟨l,ys,(k:Int),.ref p,rfl,rfl,hl,y7 ep,?_⟩
   refine ⟨p,y,_,rfl,hp,zD (rb _ hm).1 (by decide),rb.ltB hm (by decide),y0,y1,fun r H1 hr1 s1 h1=>?_⟩
   refine ⟨r,_,rfl,.inl (SqL.of h1),rfl,?_,?_⟩
   ·rw [zf]
    intro z hz
    obtain ⟨n,_,rfl⟩:=qP.mp hz
    exact shV_flat _ _
   ·rw [if_pos rfl,none_in,Bool.not_not]
    exact q H1 s1
end
section
variable {P:Program}{w:World}{K:zA}{mg:Str -> Option Value}{base:Heap}
theorem ok_deedC (T:Txt K mg):Cal P w K mg base 4 "is_deed" ["deed","rows"] (spDeedCB K):=by
 have B:=T.bl
 have C_is_part:=ok_partC (P:=P) (w:=w) (base:=base) T
 refine yD T.t_is_deed sc_is_deed (fun vs H Q E h=>?_) (fun f cdv A outer s H vs Q E hr h=>?_)
 ·obtain ⟨_,_,_,_,_,rfl,_⟩:=h
  rfl
 obtain ⟨v,l,c,ys,rs,rfl,hv,hl,hrs,rb,q⟩:=h
 refine ⟨_,((@pss_cons _ _ _ _ _ (@ps_if _ _ _ _ _ _ _ _ (@PW.pt _ _ _ (@pw_or _ _ _ _ _ _ _ (@pt_not _ _ _ _ (@pt_val _ _ _ (@pe_callB _ _ _ _ _ _ _ _ _ JX rfl B.isinstance zw (@pa_cons _ _ _ _ _ (pv 0) (@pa_cons _ _ _ _ _ (@xh _ _ (.ty "tuple") _ _ rfl B.tuple jk rfl (by decide) (by decide)) pa_nil (by rfl)) (by rfl)) (by decide) (by decide) (by rfl) (by rfl)) (by intro _ ; rfl))) (@pw_or1 _ _ _ _ (@pt_cmpR _ _ _ _ _ _ _ _ op_ne (@pe_callB _ _ _ _ _ _ _ _ _ call_len_seq rfl B.len bo_len (@pa_cons _ _ _ _ _ (pv 0) pa_nil (by rfl)) (by decide) (by decide) (by rfl) (by rfl)) pe_int (@nomark _ _ (by decide) (by decide)))))) (@pss_one _ _ _ (@ps_ret _ _ _ _ pe_bl)) pss_nil) (@pss_one _ _ _ (@ps_ret _ _ _ _ (@j4 _ _ _ _ _ _ _ (@pe_cmpR _ _ _ _ _ _ _ _ (@op_inC _ _ hr) (@pe_ix _ _ _ _ _ _ _ ix_tup (pv 0) pe_int (fun _ _=>rfl)) (@pe_tup _ _ _ _ _ (@pa_cons _ _ _ _ _ pe_str (@pa_cons _ _ _ _ _ pe_str pa_nil (by rfl)) (by rfl))) (by with_unfolding_all rfl)) (@j4 _ _ _ _ _ _ _ (@pe_cal _ _ _ _ _ _ _ _ _ _ C_is_part hr rfl (@pa_cons _ _ _ _ _ (@pe_ix _ _ _ _ _ _ _ ix_tup (pv 0) pe_int (fun _ _=>rfl)) (@pa_cons _ _ _ _ _ (@pe_ix _ _ _ _ _ _ _ ix_tup (pv 0) pe_int (fun _ _=>rfl)) (@pa_cons _ _ _ _ _ (pv 1) pa_nil (by rfl)) (by rfl)) (by rfl)) (by decide) (by rfl) (by rfl)) (@j3 _ _ _ _ _ (@pe_cal _ _ _ _ _ _ _ _ _ _ C_is_part hr rfl (@pa_cons _ _ _ _ _ (@pe_ix _ _ _ _ _ _ _ ix_tup (pv 0) pe_int (fun _ _=>rfl)) (@pa_cons _ _ _ _ _ (@pe_ix _ _ _ _ _ _ _ ix_tup (pv 0) pe_int (fun _ _=>rfl)) (@pa_cons _ _ _ _ _ (pv 1) pa_nil (by rfl)) (by rfl)) (by rfl)) (by decide) (by rfl) (by rfl))))))))),?_⟩
 rw [show zp ["deed","rows"] [v,.ref l]=[some (v),some (.ref l)] from rfl]
 (iterate 5 ((try (walk_at "WP")); (try (simp only [hl,qJs,qJt,qJl,qJd,exists_eq_left',exists_eq_left])))); (try (walk_at "WP"))
 refine itm_tup hv ?_
 cases c with
 | none=>exact ⟨false,rfl,by rw [if_pos rfl]; exact q H (Same.refl H)⟩
 | some c =>
  obtain ⟨p,rfl,hp,hc⟩:=hv
  refine ⟨true,rfl,?_⟩
  rw [if_neg (by decide)]
  refine ⟨p,rfl,c,.inr hp,?_⟩
  by_cases z:c.length=5
  ·rw [if_neg (fun n=>n (by rw [z]; rfl))]
   match c,z,hp,hc,q with
   | [w0,a,s0,b,t0],_,hp,hc,q =>
    refine ⟨p,_,0,w0,rfl,rfl,hp,rfl,fun t1 h1=>?_⟩
    have s1:=zV h1 (.tup [V.str (Str.ofString "sum"),.str (Str.ofString "less")])
    refine ⟨t1,Str.ofString "sum",Str.ofString "less",rfl,SqT.of zL,(hc w0 (by simp)).same s1,_,rfl,?_⟩
    cases b1:inC (Str.ofString "sum") (Str.ofString "less") w0 with
    | false =>
     rw [if_neg (by decide)]
     have e:yU rs (some [w0,a,s0,b,t0])=false:=by rw [zAB,b1]; rfl
     rw [e] at q
     exact q _ s1
    | true =>
     rw [if_pos rfl]
     have e:yU rs (some [w0,a,s0,b,t0])=(xF rs a s0 && xF rs b t0):=by rw [zAB,b1]; rfl
     rw [e] at q
     refine ⟨p,_,1,a,rfl,rfl,s1.seqT hp,rfl,p,_,2,s0,rfl,rfl,s1.seqT hp,rfl,?_⟩
     refine ⟨a,s0,l,ys,rs,rfl,(hc a (by simp)).same s1,(hc s0 (by simp)).same s1,s1 _ _ hl,hrs.same s1,rb,fun H2 s2=>⟨_,rfl,?_⟩⟩
     have s12:=s1.trans s2
     cases b2:xF rs a s0 with
     | false =>
      rw [if_neg (by decide)]
      rw [b2] at q
      exact q _ s12
     | true =>
      rw [if_pos rfl]
      rw [b2,xL] at q
      refine ⟨p,_,3,b,rfl,rfl,s12.seqT hp,rfl,p,_,4,t0,rfl,rfl,s12.seqT hp,rfl,?_⟩
      exact ⟨b,t0,l,ys,rs,rfl,(hc b (by simp)).same s12,(hc t0 (by simp)).same s12,s12 _ _ hl,hrs.same s12,rb,fun H3 s3=>q _ (s12.trans s3)⟩
  ·rw [if_pos (fun n=>z (by exact_mod_cast n))]
   have e:yU rs (some c)=false:=by
    unfold yU
    split
    ·rename_i z2
     cases z2
     exact absurd rfl z
    ·rfl
   rw [e] at q
   exact q _ (Same.refl _)
theorem ok_outC (T:Txt K mg):Cal P w K mg base 4 "is_out" ["out","rows"] (spOutCB K):=by
 have B:=T.bl
 have C_is_part:=ok_partC (P:=P) (w:=w) (base:=base) T
 have C_is_whole:=(ok_iswh (P:=P) (w:=w) (base:=base) T).mono (k:=3) (by decide)
 obtain ⟨cst_NO_OUT,mg_NO_OUT,hcst⟩:=T.c_NO_OUT
 refine yD T.t_is_out sc_is_out (fun vs H Q E h=>?_) (fun f cdv A outer s H vs Q E hr h=>?_)
 ·obtain ⟨_,_,_,_,_,rfl,_⟩:=h
  rfl
 obtain ⟨v,l,c,ys,rs,rfl,hv,hl,hrs,rb,q⟩:=h
 refine ⟨_,((@pss_cons _ _ _ _ _ (@ps_if _ _ _ _ _ _ _ _ (@PW.pt _ _ _ (@pw_or _ _ _ _ _ _ _ (@pt_not _ _ _ _ (@pt_val _ _ _ (@pe_callB _ _ _ _ _ _ _ _ _ JX rfl B.isinstance zw (@pa_cons _ _ _ _ _ (pv 0) (@pa_cons _ _ _ _ _ (@xh _ _ (.ty "tuple") _ _ rfl B.tuple jk rfl (by decide) (by decide)) pa_nil (by rfl)) (by rfl)) (by decide) (by decide) (by rfl) (by rfl)) (by intro _ ; rfl))) (@pw_or1 _ _ _ _ (@pt_cmpR _ _ _ _ _ _ _ _ op_ne (@pe_callB _ _ _ _ _ _ _ _ _ call_len_seq rfl B.len bo_len (@pa_cons _ _ _ _ _ (pv 0) pa_nil (by rfl)) (by decide) (by decide) (by rfl) (by rfl)) pe_int (@nomark _ _ (by decide) (by decide)))))) (@pss_one _ _ _ (@ps_ret _ _ _ _ pe_bl)) pss_nil) (@pss_cons _ _ _ _ _ (@ps_if _ _ _ _ _ _ _ _ (@pt_not _ _ _ _ (@pt_val _ _ _ (@pe_callB _ _ _ _ _ _ _ _ _ (@call_all _ rfl) rfl B.all bo_all (@pa_cons _ _ _ _ _ (@yE _ _ _ _ _ _ _ _ (["part"]) (1) ([]) _ _ _ rfl (@pi_tup _ _ _ _ (pv 0)) (fun nd C s H fp=>⟨(@pg_name _ _ (0) _ nd rfl (by walk_at "o") (by walk_at "o")),yf,(@pe_cal _ _ _ _ _ _ _ _ _ _ C_is_whole hr rfl (@pa_cons _ _ _ _ _ (pv 0) pa_nil (by rfl)) (by decide) (by rfl) (by rfl))⟩) (by decide +kernel) (by first | rfl | decide +kernel) (by first | rfl | decide +kernel) rfl (fun _=>rfl)) pa_nil (by rfl)) (by decide) (by decide) (by rfl) (by rfl)) (by intro _ ; rfl))) (@pss_one _ _ _ (@ps_ret _ _ _ _ pe_bl)) pss_nil) (@pss_one _ _ _ (@ps_ret _ _ _ _ (@pe_or _ _ _ _ _ _ _ (@pe_cmpR _ _ _ _ _ _ _ _ (@op_eqD _ _ hr) (pv 0) (@pe_glob _ _ (.ref cst_NO_OUT) _ _ rfl mg_NO_OUT rfl (by decide)) (@nomark _ _ (by decide) (by decide))) (@j3 _ _ _ _ _ (@j4 _ _ _ _ _ _ _ (@pe_cmpR _ _ _ _ _ _ _ _ zAN (@pe_ix _ _ _ _ _ _ _ ix_tup (pv 0) pe_int (fun _ _=>rfl)) (@pe_tup _ _ _ _ _ (@pa_cons _ _ _ _ _ pe_int (@pa_cons _ _ _ _ _ (@pe_un _ _ _ _ _ _ un_neg pe_int) pa_nil (by rfl)) (by rfl))) (by with_unfolding_all rfl)) (@j3 _ _ _ _ _ (@pe_cal _ _ _ _ _ _ _ _ _ _ C_is_part hr rfl (@pa_cons _ _ _ _ _ (@pe_ix _ _ _ _ _ _ _ ix_tup (pv 0) pe_int (fun _ _=>rfl)) (@pa_cons _ _ _ _ _ (@pe_ix _ _ _ _ _ _ _ ix_tup (pv 0) pe_int (fun _ _=>rfl)) (@pa_cons _ _ _ _ _ (pv 1) pa_nil (by rfl)) (by rfl)) (by rfl)) (by decide) (by rfl) (by rfl))))))))))),?_⟩
 rw [show zp ["out","rows"] [v,.ref l]=[some (v),some (.ref l)] from rfl]
 (iterate 5 ((try (walk_at "WP")); (try (simp only [hl,qJs,qJt,qJl,qJd,exists_eq_left',exists_eq_left])))); (try (walk_at "WP"))
 refine itm_tup hv ?_
 cases c with
 | none=>exact ⟨false,rfl,by rw [if_pos rfl]; exact q H (Same.refl H)⟩
 | some c =>
  obtain ⟨p,rfl,hp,hc⟩:=hv
  refine ⟨true,rfl,?_⟩
  rw [if_neg (by decide)]
  refine ⟨p,rfl,c,.inr hp,?_⟩
  by_cases z:c.length=3
  ·rw [if_neg (fun n=>n (by rw [z]; rfl))]
   match c,z,hp,hc,q with
   | [a,s0,g],_,hp,hc,q =>
    refine ⟨p,rfl,⟨_,hp⟩,?_⟩
    refine comp_T (f:=fun x=>some (.bl (isWh x))) hp (zg (by simp)) (fun y H1 R hy s1 hR=>?_) (fun acc hacc=>?_)
    ·try walk_at "WP"
     exact ⟨y,rfl,(hc y hy).same s1,hR⟩
    ·have s1:=zV hacc (.lst ([a,s0,g].filterMap fun x=>some (.bl (isWh x))))
     refine ⟨acc,[isWh a,isWh s0,isWh g],rfl,zL,_,rfl,?_⟩
     have e:([isWh a,isWh s0,isWh g].all id)=(isWh a && isWh s0 && isWh g):=by
      cases isWh a <;> cases isWh s0 <;> cases isWh g <;> rfl
     rw [e]
     cases b1:(isWh a && isWh s0 && isWh g) with
     | false =>
      rw [if_pos rfl]
      have e:xg rs (some [a,s0,g])=false:=by rw [JJ,b1]; rfl
      rw [e] at q
      exact q _ s1
     | true =>
      rw [if_neg (by decide)]
      have e:xg rs (some [a,s0,g])=(decide ([a,s0,g]=[.int 0,.int 0,.int 0]) || (inV g [.int 1,.int (-1)] && xF rs a s0)):=by rw [JJ,b1]; rfl
      rw [e] at q
      rw [zB,zB] at b1
      obtain ⟨x,rfl⟩:=x8 b1.1.1
      obtain ⟨y,rfl⟩:=x8 b1.1.2
      obtain ⟨m,rfl⟩:=x8 b1.2
      refine eqTI (ns:=[x,y,m]) (ms:=[0,0,0]) (s1.seqT hp) (hcst.sq _) ?_
      have e2:decide ([V.int x,.int y,.int m]=[.int 0,.int 0,.int 0])=decide ([x,y,m]=[0,0,0]):=by
       rw [decide_eq_decide]
       constructor
       ·intro h; simp only [List.cons.injEq,V.int.injEq,and_true] at h ⊢; exact h
       ·intro h; simp only [List.cons.injEq,V.int.injEq,and_true] at h ⊢; exact h
      rw [e2] at q
      refine ⟨_,rfl,?_⟩
      cases b2:decide ([x,y,m]=[0,0,0]) with
      | true =>
       rw [if_pos rfl]
       rw [b2] at q
       exact q _ s1
      | false =>
       rw [if_neg (by decide)]
       rw [b2,yX] at q
       refine ⟨p,_,2,.int m,rfl,rfl,s1.seqT hp,rfl,fun t2 h2=>?_⟩
       have s2:=s1.trans (zV h2 (.tup [V.int 1,.int (-1)]))
       refine in_tup (zL) rfl rfl ?_
       rw [if_neg (by decide)]
       refine ⟨_,rfl,?_⟩
       cases b3:inV (.int m) [.int 1,.int (-1)] with
       | false =>
        rw [if_neg (by decide)]
        rw [b3] at q
        exact q _ s2
       | true =>
        rw [if_pos rfl]
        rw [b3,xL] at q
        refine ⟨p,_,0,_,rfl,rfl,s2.seqT hp,rfl,p,_,1,_,rfl,rfl,s2.seqT hp,rfl,?_⟩
        exact ⟨_,_,l,ys,rs,rfl,.inl rfl,.inl rfl,s2 _ _ hl,hrs.same s2,rb,fun H3 s3=>q _ (s2.trans s3)⟩
  ·rw [if_pos (fun n=>z (by exact_mod_cast n))]
   have e:xg rs (some c)=false:=by
    unfold xg
    split
    ·rename_i z2
     cases z2
     exact absurd rfl z
    ·rfl
   rw [e] at q
   exact q _ (Same.refl _)
theorem ok_secondC (T:Txt K mg):Cal P w K mg base 1 "second_sign" ["deed"] (spSecond K):=by
 have B:=T.bl
 refine yD T.t_second_sign zAt (fun vs H Q E h=>?_) (fun f cdv A outer s H vs Q E hr h=>?_)
 ·obtain ⟨x,d,rfl,_⟩:=h
  rfl
 obtain ⟨x,d,rfl,hx,q⟩:=h
 refine ⟨_,((@pss_one _ _ _ (@ps_ret _ _ _ _ (@jP _ _ _ _ _ _ _ _ (@pt_cmpR _ _ _ _ _ _ _ _ op_eq (@pe_ix _ _ _ _ _ _ _ ix_tup (pv 0) pe_int (fun _ _=>rfl)) pe_str (@nomark _ _ (by decide) (by decide))) (@pe_un _ _ _ _ _ _ un_neg pe_int) pe_int)))),?_⟩
 rw [show zp ["deed"] [.ref x]=[some (.ref x)] from rfl]
 unfold xM at hx
 (iterate 5 ((try (walk_at "WP")); (try (simp only [hx,qJs,qJt,qJl,qJd,exists_eq_left',exists_eq_left])))); (try (walk_at "WP"))
 refine ⟨_,hx,_,rfl,?_⟩
 try walk_at "WP"
 unfold sgW at q
 by_cases z:d.w=Str.ofString "less"
 ·rw [if_pos z] at q ⊢
  exact q
 ·rw [if_neg z] at q ⊢
  exact q
end
section
variable {P:Program}{w:World}{K:zA}{mg:Str -> Option Value}{base:Heap}
theorem ok_drow4 (T:Txt K mg):Cal P w K mg base 3 "deed_row" ["deed","rows"] (spDRow4B K):=by
 have B:=T.bl
 have C_shifted_row:=ok_shrowN (P:=P) (w:=w) (base:=base) T
 have C_second_sign:=(ok_secondC (P:=P) (w:=w) (base:=base) T).mono (k:=2) (by decide)
 refine yD T.t_deed_row sc_deed_row (fun vs H Q E h=>?_) (fun f cdv A outer s H vs Q E hr h=>?_)
 ·obtain ⟨x,l,d,ys,rs,ins,rfl,_⟩:=h
  rfl
 obtain ⟨x,l,d,ys,rs,ins,rfl,hx,hl,ht,ha,hb,hsa,hsb,hw,hi,rb,q⟩:=h
 refine ⟨_,((@pss_cons _ _ _ _ _ (@ps_set _ _ (2) _ _ _ _ sc_deed_row.nd rfl (by walk_at "o") (@pe_cal _ _ _ _ _ _ _ _ _ _ C_shifted_row hr rfl (@pa_cons _ _ _ _ _ (@pe_ix _ _ _ _ _ _ _ ix_M (pv 1) (@pe_ix _ _ _ _ _ _ _ ix_tup (pv 0) pe_int (fun _ _=>rfl)) (fun _ _=>rfl)) (@pa_cons _ _ _ _ _ (@pe_ix _ _ _ _ _ _ _ ix_tup (pv 0) pe_int (fun _ _=>rfl)) pa_nil (by rfl)) (by rfl)) (by decide) (by rfl) (by rfl)) (by rfl) (by walk_at "o")) (@pss_cons _ _ _ _ _ (@ps_set _ _ (3) _ _ _ _ sc_deed_row.nd rfl (by walk_at "o") (@pe_cal _ _ _ _ _ _ _ _ _ _ C_shifted_row hr rfl (@pa_cons _ _ _ _ _ (@pe_ix _ _ _ _ _ _ _ ix_M (pv 1) (@pe_ix _ _ _ _ _ _ _ ix_tup (pv 0) pe_int (fun _ _=>rfl)) (fun _ _=>rfl)) (@pa_cons _ _ _ _ _ (@pe_ix _ _ _ _ _ _ _ ix_tup (pv 0) pe_int (fun _ _=>rfl)) pa_nil (by rfl)) (by rfl)) (by decide) (by rfl) (by rfl)) (by rfl) (by walk_at "o")) (@pss_cons _ _ _ _ _ (@ps_set _ _ (4) _ _ _ _ sc_deed_row.nd rfl (by walk_at "o") (@pe_cal _ _ _ _ _ _ _ _ _ _ C_second_sign hr rfl (@pa_cons _ _ _ _ _ (pv 0) pa_nil (by rfl)) (by decide) (by rfl) (by rfl)) (by rfl) (by walk_at "o")) (@pss_one _ _ _ (@ps_ret _ _ _ _ (@zr _ _ _ _ _ _ _ _ _ Ji rfl B.tuple jk (@pa_cons _ _ _ _ _ (@yE _ _ _ _ _ _ _ _ (["one","other","sign"]) (2) ([4]) _ _ _ rfl (@pi_zip _ _ _ _ _ _ _ _ _ rfl B.zip (@pa_cons _ _ _ _ _ (pv 2) (@pa_cons _ _ _ _ _ (pv 3) pa_nil (by rfl)) (by rfl)) (by rfl) (by rfl)) (fun nd C s H fp=>⟨(@jY _ _ _ _ _ 2 rfl (@zz _ _ _ _ _ (@pg_name _ _ (0) _ nd rfl (by walk_at "o") (by walk_at "o")) (@zz _ _ _ _ _ (@pg_name _ _ (1) _ nd rfl (by walk_at "o") (by walk_at "o")) jW (by rfl)) (by rfl)) (by rfl) (by rfl)),yf,(@pe_op _ _ _ _ _ _ _ _ op_add (pv 0) (@pe_op _ _ _ _ _ _ _ _ yR (pv 2) (pv 1)))⟩) (by decide +kernel) (by first | rfl | decide +kernel) (by first | rfl | decide +kernel) rfl (fun _=>rfl)) pa_nil (by rfl)) (by decide) (by decide) (by rfl) (by rfl)))))))),?_⟩
 rw [show zp ["deed","rows","left","right","sign"] [.ref x,.ref l]=[some (.ref x),some (.ref l),none,none,none] from rfl]
 have hx':=hx
 unfold xM at hx'
 (iterate 5 ((try (walk_at "WP")); (try (simp only [hl,qJs,qJt,qJl,qJd,exists_eq_left',exists_eq_left])))); (try (walk_at "WP"))
 obtain ⟨la,a1,a2,a3⟩:=tup_of ht ha
 refine ⟨_,hx',_,rfl,?_⟩
 (iterate 5 ((try (walk_at "WP")); (try (simp only [hl,qJs,qJt,qJl,qJd,exists_eq_left',exists_eq_left])))); (try (walk_at "WP"))
 refine ⟨_,a1,_,hx',_,rfl,?_⟩
 refine ⟨la,d.s,_,rfl,a2,by rw [hw _ a3]; omega,rb.ltB a3 (by decide),hsa.1,hsa.2.1,fun r1 H1 n1 s1 h1=>?_⟩
 rw [shV_map4 hsa.2.2] at h1
 have hx1:=s1.seqT hx'
 have hl1:=s1 _ _ hl
 (iterate 5 ((try (walk_at "WP")); (try (simp only [hl1,qJs,qJt,qJl,qJd,exists_eq_left',exists_eq_left])))); (try (walk_at "WP"))
 refine ⟨_,hx1,_,rfl,?_⟩
 (iterate 5 ((try (walk_at "WP")); (try (simp only [hl1,qJs,qJt,qJl,qJd,exists_eq_left',exists_eq_left])))); (try (walk_at "WP"))
 obtain ⟨lb,b1,b2,b3⟩:=tup_of (ht.same s1) hb
 refine ⟨_,b1,_,hx1,_,rfl,?_⟩
 refine ⟨lb,d.t,_,rfl,b2,by rw [hw _ b3]; omega,rb.ltB b3 (by decide),hsb.1,hsb.2.1,fun r2 H2 n2 s2 h2=>?_⟩
 rw [shV_map4 hsb.2.2] at h2
 try walk_at "WP"
 refine ⟨x,d,rfl,(s1.trans s2).seqT hx,?_⟩
 try walk_at "WP"
 have h1':=s2 _ _ h1
 refine ⟨r1,r2,⟨rfl,rfl⟩,_,SqL.of h1',_,SqL.of h2,?_⟩
 have hg:sgW d.w=1 \/ sgW d.w = -1:=by
  unfold sgW
  split
  ·exact .inr rfl
  ·exact .inl rfl
 have hla:=hw _ a3
 have hlb:=hw _ b3
 refine comp_zip (SqL.of h1') (SqL.of h2) (by simp only [qC]; omega) (by simp only [qC]; omega) ((rowD rs d).map V.int) (by unfold rowD; simp only [qC,jV]; omega) (fun i u v z H' R hu hv hz s' hR=>?_) (fun acc H3 n3 s3 h3=>?_)
 ·rw [show yY [4] [some (V.ref x),some (V.ref l),some (V.ref r1),some (V.ref r2),some (V.int (sgW d.w))]=[some (V.int (sgW d.w))] from rfl]
  obtain ⟨x',hx2,rfl⟩:=zAT hu
  obtain ⟨y',hy2,rfl⟩:=zAT hv
  obtain ⟨z',hz2,rfl⟩:=zAT hz
  have ez:z'=x'+sgW d.w * y':=by
   unfold rowD at hz2
   rw [qI] at hx2 hy2
   rw [yV] at hz2
   cases q1:(rs.getD d.a [])[i]? with
   | none=>rw [q1] at hx2; cases hx2
   | some p1 =>
    cases q2:(rs.getD d.b [])[i]? with
    | none=>rw [q2] at hy2; cases hy2
    | some p2 =>
     rw [q1] at hx2 hz2
     rw [q2] at hy2 hz2
     cases hx2
     cases hy2
     cases hz2
     rfl
  subst ez
  rw [jN,jN,List.nil_append]
  try walk_at "WP"
  exact ⟨x5 (by omega) (by omega),hR⟩
 try walk_at "WP"
 refine ⟨_,.inl ⟨SqL.of h3,fun r hr0=>?_⟩⟩
 have s13:=(s1.trans s2).trans s3
 exact q r _ (s13.free hr0) (s13.trans (zV hr0 _)) zL
end
section
variable {P:Program}{w:World}{K:zA}{mg:Str -> Option Value}{base:Heap}
theorem ok_figR (T:Txt K mg):Cal P w K mg base 1 "read_figures" ["word"] spFigR:=by
 have B:=T.bl
 refine yD T.t_read_figures zAo (fun vs H Q E h=>?_) (fun f cdv A outer s H vs Q E hr h=>?_)
 ·obtain ⟨_,rfl,_⟩:=h
  rfl
 obtain ⟨x,rfl,hl,q⟩:=h
 obtain ⟨t_FIGURES,mg_FIGURES⟩:=T.i_FIGURES
 refine ⟨_,((@pss_cons _ _ _ _ _ (@ps_if _ _ _ _ _ _ _ _ (@PW.pt _ _ _ (@pw_or _ _ _ _ _ _ _ (@pt_cmpR _ _ _ _ _ _ _ _ op_eq (pv 0) pe_str (@nomark _ _ (by decide) (by decide))) (@pw_or1 _ _ _ _ (@pt_not _ _ _ _ (@pt_val _ _ _ (@pe_callB _ _ _ _ _ _ _ _ _ (@call_all _ rfl) rfl B.all bo_all (@pa_cons _ _ _ _ _ (@yE _ _ _ _ _ _ _ _ (["sign"]) (1) ([]) _ _ _ rfl (@pi_str _ _ _ _ (pv 0)) (fun nd C s H fp=>⟨(@pg_name _ _ (0) _ nd rfl (by walk_at "o") (by walk_at "o")),yf,(@pe_cmpR _ _ _ _ _ _ _ _ op_inS (pv 0) (@pe_glob _ _ (.str "0123456789") _ _ rfl mg_FIGURES ⟨_,rfl⟩ (by decide)) (by with_unfolding_all rfl))⟩) (by decide +kernel) (by first | rfl | decide +kernel) (by first | rfl | decide +kernel) rfl (fun _=>rfl)) pa_nil (by rfl)) (by decide) (by decide) (by rfl) (by rfl)) (by intro _ ; rfl)))))) (@pss_one _ _ _ (@ps_ret _ _ _ _ pe_non)) pss_nil) (@pss_cons _ _ _ _ _ (@ps_if _ _ _ _ _ _ _ _ (@PW.pt _ _ _ (@pw_and _ _ _ _ _ _ _ (@pt_val _ _ _ (@pe_bm _ _ _ _ _ _ _ _ _ _ _ _ ze PySem.F.slot_str_startswith PySem.F.type_str_startswith Jk (pv 0) (@pa_cons _ _ _ _ _ pe_str pa_nil (by rfl)) (by rfl) (by rfl) (by rfl) (by rfl) (by rfl)) (by intro _ ; rfl)) (@pw_and1 _ _ _ _ (@pt_cmpR _ _ _ _ _ _ _ _ op_ne (pv 0) pe_str (@nomark _ _ (by decide) (by decide)))))) (@pss_one _ _ _ (@ps_ret _ _ _ _ pe_non)) pss_nil) (@pss_one _ _ _ (@ps_ret _ _ _ _ (@zr _ _ _ _ _ _ _ _ _ zAb rfl B.int xi (@pa_cons _ _ _ _ _ (pv 0) pa_nil (by rfl)) (by decide) (by decide) (by rfl) (by rfl))))))),?_⟩
 rw [show zp ["word"] [.str x]=[some (.str x)] from rfl]
 try walk_at "WP"
 refine y8 (fun z=>?_) (fun z=>?_)
 ·have e:figR x=none:=if_pos (.inl (eq_emp.mp z))
  rw [e] at q
  exact q H (Same.refl _)
 have ne:tl x ≠ []:=fun y=>z (eq_emp.mpr y)
 refine comp_S (zD hl (by decide)) hasV (fun v H' R hv hS' hR=>?_) (fun acc na=>?_)
 ·obtain ⟨c,_,rfl⟩:=qP.mp hv
  rw [show yY [] _=[] from rfl]
  try walk_at "WP"
  exact hR
 rw [sgn_all]
 refine yv na fun H1 s1 h1=>?_
 refine ⟨acc,(tl x).map isDg,rfl,h1,?_⟩
 rw [List.all_map,show ((tl x).all (id ∘ isDg))=(tl x).all isDg from rfl]
 try walk_at "WP"
 by_cases d:(tl x).all isDg=true
 ·rw [d]
  rw [if_neg (by decide),jS _ _ zAF]
  have hi:=figR_int ne d hl
  by_cases h0:(tl x).head? = some 48
  ·rw [decide_eq_true h0,if_pos rfl]
   refine y8 (fun y=>?_) (fun y=>?_)
   ·have e:figR x=none:=if_pos (.inr (.inr ⟨h0,fun u=>y (eq_zero.mpr u)⟩))
    rw [e] at q
    exact q H1 s1
   ·have y:x=Str.ofString "0":=yS y
    have e:figR x=some ((PySem.NumText.digitsVal (tl x):Nat):Int):=if_neg (fun u=>u.elim ne fun u=>u.elim (fun u=>u d) fun u=>u.2 (eq_zero.mp y))
    rw [e] at q
    exact ⟨hl,_,hi,q H1 s1⟩
  ·rw [decide_eq_false h0,if_neg (by decide)]
   have e:figR x=some ((PySem.NumText.digitsVal (tl x):Nat):Int):=if_neg (fun u=>u.elim ne fun u=>u.elim (fun u=>u d) fun u=>h0 u.1)
   rw [e] at q
   exact ⟨hl,_,hi,q H1 s1⟩
 ·have d':(tl x).all isDg=false:=by simpa using d
  rw [d',if_pos rfl]
  have e:figR x=none:=if_pos (.inr (.inl d))
  rw [e] at q
  exact q H1 s1
theorem ok_shR (T:Txt K mg):Cal P w K mg base 2 "read_shifted" ["pieces","sign"] spShR:=by
 have B:=T.bl
 have C_read_figures:=ok_figR (P:=P) (w:=w) (base:=base) T
 refine yD T.t_read_shifted sc_read_shifted (fun vs H Q E h=>?_) (fun f cdv A outer s H vs Q E hr h=>?_)
 ·obtain ⟨_,_,_,_,_,rfl,_⟩:=h
  rfl
 obtain ⟨p,a,b,c,sg,rfl,hp,la,lc,hsg,q1,q2⟩:=h
 obtain ⟨_,mg_MOST_SHIFT_FIGURES⟩:=T.i_MOST_SHIFT_FIGURES
 refine ⟨_,((@pss_cons _ _ _ _ _ (@ps_set _ _ (2) _ _ _ _ sc_read_shifted.nd rfl (by walk_at "o") (@pe_cal _ _ _ _ _ _ _ _ _ _ C_read_figures hr rfl (@pa_cons _ _ _ _ _ (@pe_ix _ _ _ _ _ _ _ ix_U (pv 0) pe_int (fun _ _=>rfl)) pa_nil (by rfl)) (by decide) (by rfl) (by rfl)) (by rfl) (by walk_at "o")) (@pss_cons _ _ _ _ _ (@ps_set _ _ (3) _ _ _ _ sc_read_shifted.nd rfl (by walk_at "o") (@pe_cal _ _ _ _ _ _ _ _ _ _ C_read_figures hr rfl (@pa_cons _ _ _ _ _ (@pe_ix _ _ _ _ _ _ _ ix_U (pv 0) pe_int (fun _ _=>rfl)) pa_nil (by rfl)) (by decide) (by rfl) (by rfl)) (by rfl) (by walk_at "o")) (@pss_cons _ _ _ _ _ (@ps_if _ _ _ _ _ _ _ _ (@PW.pt _ _ _ (@pw_or _ _ _ _ _ _ _ (@yu _ _ _ _ _ _ (@xJ _ _ _ _ _ (pv 2)) (by first | exact zv _ ( by decide ) ( by decide ) | rfl)) (@pw_or _ _ _ _ _ _ _ (@yu _ _ _ _ _ _ (@xJ _ _ _ _ _ (pv 3)) (by first | exact zv _ ( by decide ) ( by decide ) | rfl)) (@pw_or _ _ _ _ _ _ _ (@pt_cmpR _ _ _ _ _ _ _ _ op_eq (pv 3) pe_int (@nomark _ _ (by decide) (by decide))) (@pw_or1 _ _ _ _ (@pt_cmpR _ _ _ _ _ _ _ _ op_gt (@pe_callB _ _ _ _ _ _ _ _ _ jD rfl B.len bo_len (@pa_cons _ _ _ _ _ (@pe_ix _ _ _ _ _ _ _ ix_U (pv 0) pe_int (fun _ _=>rfl)) pa_nil (by rfl)) (by decide) (by decide) (by rfl) (by rfl)) (@pe_glob _ _ (.int 4) _ _ rfl mg_MOST_SHIFT_FIGURES ⟨_,rfl⟩ (by decide)) (@nomark _ _ (by decide) (by decide)))))))) (@pss_one _ _ _ (@ps_ret _ _ _ _ pe_non)) pss_nil) (@pss_one _ _ _ (@ps_ret _ _ _ _ (@pe_tup _ _ _ _ _ (@pa_cons _ _ _ _ _ (pv 2) (@pa_cons _ _ _ _ _ (@pe_op _ _ _ _ _ _ _ _ yR (pv 1) (pv 3)) pa_nil (by rfl)) (by rfl))))))))),?_⟩
 rw [show zp ["pieces","sign","thing","shift"] [.ref p,.int sg]=[some (.ref p),some (.int sg),none,none] from rfl]
 (iterate 5 ((try (walk_at "WP")); (try (simp only [hp,qJs,qJt,qJl,qJd,exists_eq_left',exists_eq_left])))); (try (walk_at "WP"))
 refine ⟨a,rfl,la,fun H1 s1=>?_⟩
 have hp1:=s1 _ _ hp
 (iterate 5 ((try (walk_at "WP")); (try (simp only [hp1,qJs,qJt,qJl,qJd,exists_eq_left',exists_eq_left])))); (try (walk_at "WP"))
 refine ⟨c,rfl,lc,fun H2 s2=>?_⟩
 have hp2:=s2 _ _ hp1
 have s12:=s1.trans s2
 unfold shR at q1 q2
 cases ea:figR a with
 | none =>
  rw [ea] at q1
  (iterate 5 ((try (walk_at "WP")); (try (simp only [Js,qJs,qJt,qJl,qJd,exists_eq_left',exists_eq_left])))); (try (walk_at "WP"))
  exact q1 rfl H2 s12
 | some t =>
  rw [ea] at q1 q2
  cases ec:figR c with
  | none =>
   rw [ec] at q1
   (iterate 5 ((try (walk_at "WP")); (try (simp only [Js,Jr,qJs,qJt,qJl,qJd,exists_eq_left',exists_eq_left])))); (try (walk_at "WP"))
   exact q1 rfl H2 s12
  | some s' =>
   rw [ec] at q1 q2
   (iterate 5 ((try (walk_at "WP")); (try (simp only [hp2,Jr,qJs,qJt,qJl,qJd,exists_eq_left',exists_eq_left])))); (try (walk_at "WP"))
   refine y8 (fun z=>?_) (fun z=>?_)
   ·exact q1 (if_pos (.inl z)) H2 s12
   refine ⟨zD lc (by decide),?_⟩
   refine y8 (fun y=>?_) (fun y=>?_)
   ·exact q1 (if_pos (.inr (by omega))) H2 s12
   refine ⟨x5 (by omega) (by omega),fun r nr=>?_⟩
   have s3:=zV nr (.tup [.int t,.int (sg * s')])
   exact q2 t (sg * s') (if_neg (by omega)) r _ (s12.trans s3) zL
theorem ok_partR (T:Txt K mg):Cal P w K mg base 3 "read_part" ["word"] zAH:=by
 have B:=T.bl
 have C_read_figures:=(ok_figR (P:=P) (w:=w) (base:=base) T).mono (k:=2) (by decide)
 have C_read_shifted:=ok_shR (P:=P) (w:=w) (base:=base) T
 refine yD T.t_read_part sc_read_part (fun vs H Q E h=>?_) (fun f cdv A outer s H vs Q E hr h=>?_)
 ·obtain ⟨_,rfl,_⟩:=h
  rfl
 obtain ⟨x,rfl,hl,q1,q2⟩:=h
 refine ⟨_,((@pss_cons _ _ _ _ _ (@ps_for _ _ _ _ _ _ _ _ PassesOwn.never rfl (@pi_tup _ _ _ _ (@pe_tup _ _ _ _ _ (@pa_cons _ _ _ _ _ (@pe_tup _ _ _ _ _ (@pa_cons _ _ _ _ _ pe_str (@pa_cons _ _ _ _ _ pe_int pa_nil (by rfl)) (by rfl))) (@pa_cons _ _ _ _ _ (@pe_tup _ _ _ _ _ (@pa_cons _ _ _ _ _ pe_str (@pa_cons _ _ _ _ _ (@pe_un _ _ _ _ _ _ un_neg pe_int) pa_nil (by rfl)) (by rfl))) pa_nil (by rfl)) (by rfl)))) (@jY _ _ _ _ _ 2 rfl (@zz _ _ _ _ _ (@pg_name _ _ (1) _ sc_read_part.nd rfl (by walk_at "o") (by walk_at "o")) (@zz _ _ _ _ _ (@pg_name _ _ (2) _ sc_read_part.nd rfl (by walk_at "o") (by walk_at "o")) jW (by rfl)) (by rfl)) (by rfl) (by rfl)) (@pss_one _ _ _ (@ps_if _ _ _ _ _ _ _ _ (@pt_cmpR _ _ _ _ _ _ _ _ op_inS (pv 1) (pv 0) (by with_unfolding_all rfl)) (@pss_one _ _ _ (@ps_ret _ _ _ _ (@pe_cal _ _ _ _ _ _ _ _ _ _ C_read_shifted hr rfl (@pa_cons _ _ _ _ _ (@pe_bm _ _ _ _ _ _ _ _ _ _ _ _ ze PySem.F.slot_str_partition PySem.F.type_str_partition mt_partition (pv 0) (@pa_cons _ _ _ _ _ (pv 1) pa_nil (by rfl)) (by rfl) (by rfl) (by rfl) (by rfl) (by rfl)) (@pa_cons _ _ _ _ _ (pv 2) pa_nil (by rfl)) (by rfl)) (by decide) (by rfl) (by rfl)))) pss_nil)) (by intro _ ; rfl)) (@pss_cons _ _ _ _ _ (@ps_set _ _ (3) _ _ _ _ sc_read_part.nd rfl (by walk_at "o") (@pe_cal _ _ _ _ _ _ _ _ _ _ C_read_figures hr rfl (@pa_cons _ _ _ _ _ (pv 0) pa_nil (by rfl)) (by decide) (by rfl) (by rfl)) (by rfl) (by walk_at "o")) (@pss_one _ _ _ (@ps_ret _ _ _ _ (@jP _ _ _ _ _ _ _ _ (@yu _ _ _ _ _ _ (@xJ _ _ _ _ _ (pv 3)) (by first | exact zv _ ( by decide ) ( by decide ) | rfl)) pe_non (@pe_tup _ _ _ _ _ (@pa_cons _ _ _ _ _ (pv 3) (@pa_cons _ _ _ _ _ pe_int pa_nil (by rfl)) (by rfl))))))))),?_⟩
 rw [show zp ["word","mark","sign","thing"] [.str x]=[some (.str x),none,none,none] from rfl]
 try walk_at "WP"
 intro p1 np1
 refine yv np1 fun H1 s1 h1=>?_
 intro p2 np2
 refine yv np2 fun H2 s2 h2=>?_
 intro p3 np3
 refine yv np3 fun H3 s3 h3=>?_
 have s123:=(s1.trans s2).trans s3
 have h1':=(s2.trans s3) _ _ h1
 have h2':=s3 _ _ h2
 refine ⟨⟨_,SqT.of h3⟩,?_⟩
 refine forT (xs:=[.ref p1,.ref p2]) (fun i σ H'=>∃ o1 o2,σ = [some (.str x),o1,o2,none] /\ Same H3 H' /\ (1 <= i -> Txt.contains x (Str.ofString "<<")=false) /\ (2 <= i -> Txt.contains x (Str.ofString ">>")=false)) ⟨none,none,rfl,Same.refl _,fun z=>absurd z (by decide),fun z=>absurd z (by decide)⟩ ?_ ?_ ?_
 ·rintro i σ H' hi ⟨_,_,rfl,s',_⟩
  exact SqT.of (s' _ _ h3)
 ·rintro i v σ H' N hv ⟨o1,o2,rfl,s',g1,g2⟩ hN
  have sh:∀ (m:Str) (sg:Int),(sg=1 \/ sg = -1) -> m.length=2 -> partR x=shR (Txt.partition x m).1 (Txt.partition x m).2.2 sg -> ∀ (p:Addr) (H5:Hp) (E':XK),Same H H5 -> H5 p=some (.tup [.str (Txt.partition x m).1,.str (Txt.partition x m).2.1,.str (Txt.partition x m).2.2]) -> spShR [.ref p,.int sg] H5 Q E':=fun m sg hsg hm he p H5 E' s5 h5=>by
   refine ⟨p,_,_,_,sg,rfl,h5,zD (Jb x m).1 hl,zD (Jb x m).2 hl,hsg,fun e H6 s6=>q1 (he.trans e) H6 (s5.trans s6),fun t s0 e r H6 s6 h6=>q2 t s0 (he.trans e) r H6 (s5.trans s6) h6⟩
  match i,hv with
  | 0,hv =>
   cases hv
   have h1'':=s' _ _ h1'
   (iterate 5 ((try (walk_at "WP")); (try (simp only [h1'',qJs,qJt,qJl,qJd,exists_eq_left',exists_eq_left])))); (try (walk_at "WP"))
   cases e:Txt.contains x (Str.ofString "<<") with
   | false =>
    rw [if_neg (by decide)]
    exact hN _ _ ⟨_,_,rfl,s',fun _=>e,fun z=>absurd z (by decide)⟩
   | true =>
    rw [if_pos rfl]
    refine ⟨by decide +kernel,zD hl (by decide),fun p np=>?_⟩
    have sp:=zV np (.tup [.str (Txt.partition x (Str.ofString "<<")).1,.str (Txt.partition x (Str.ofString "<<")).2.1,.str (Txt.partition x (Str.ofString "<<")).2.2])
    exact sh _ 1 (.inl rfl) len_lt (if_pos e) p _ _ ((s123.trans s').trans sp) zL
  | 1,hv =>
   cases hv
   have h2'':=s' _ _ h2'
   have g1:=g1 (by decide)
   (iterate 5 ((try (walk_at "WP")); (try (simp only [h2'',qJs,qJt,qJl,qJd,exists_eq_left',exists_eq_left])))); (try (walk_at "WP"))
   cases e:Txt.contains x (Str.ofString ">>") with
   | false =>
    rw [if_neg (by decide)]
    exact hN _ _ ⟨_,_,rfl,s',fun _=>g1,fun _=>e⟩
   | true =>
    rw [if_pos rfl]
    refine ⟨by decide +kernel,zD hl (by decide),fun p np=>?_⟩
    have sp:=zV np (.tup [.str (Txt.partition x (Str.ofString ">>")).1,.str (Txt.partition x (Str.ofString ">>")).2.1,.str (Txt.partition x (Str.ofString ">>")).2.2])
    exact sh _ (-1) (.inr rfl) len_gt ((if_neg (by rw [g1]; decide)).trans (if_pos e)) p _ _ ((s123.trans s').trans sp) zL
  | k+2,hv=>exact absurd (qB.mp hv).1 (by simp)
 ·rintro σ H' ⟨o1,o2,rfl,s',g1,g2⟩
  have g1:=g1 (by simp)
  have g2:=g2 (by simp)
  have ep:partR x=(figR x).map fun n=>(n,0):=(if_neg (by rw [g1]; decide)).trans (if_neg (by rw [g2]; decide))
  try walk_at "WP"
  refine ⟨x,rfl,hl,fun H4 s4=>?_⟩
  have s4':=(s123.trans s').trans s4
  cases ef:figR x with
  | none =>
   (iterate 5 ((try (walk_at "WP")); (try (simp only [Js,qJs,qJt,qJl,qJd,exists_eq_left',exists_eq_left])))); (try (walk_at "WP"))
   exact q1 (by rw [ep,ef]; rfl) H4 s4'
  | some n =>
   (iterate 5 ((try (walk_at "WP")); (try (simp only [Jr,qJs,qJt,qJl,qJd,exists_eq_left',exists_eq_left])))); (try (walk_at "WP"))
   intro p np
   exact q2 n 0 (by rw [ep,ef]; rfl) p _ (s4'.trans (zV np _)) zL
theorem ok_signR (T:Txt K mg) (D_WORDS_BY_SIGN:CDgm w.params K mg "WORDS_BY_SIGN" [("+","sum"),("-","less")]):Cal P w K mg base 1 "read_sign" ["sign"] spSignR:=by
 have B:=T.bl
 obtain ⟨cst_WORDS_BY_SIGN,mg_WORDS_BY_SIGN,hD⟩:=D_WORDS_BY_SIGN
 refine yD T.t_read_sign sc_read_sign (fun vs H Q E h=>?_) (fun f cdv A outer s H vs Q E hr h=>?_)
 ·obtain ⟨_,rfl,_⟩:=h
  rfl
 obtain ⟨x,rfl,q⟩:=h
 refine ⟨_,((@pss_one _ _ _ (@ps_ret _ _ _ _ (@pe_getC _ _ _ _ _ _ _ _ (@pe_glob _ _ (.ref cst_WORDS_BY_SIGN) _ _ rfl mg_WORDS_BY_SIGN rfl (by decide)) (pv 0) ⟨rfl,rfl,rfl,rfl⟩ (by rfl))))),?_⟩
 rw [show zp ["sign"] [.str x]=[some (.str x)] from rfl]
 try walk_at "WP"
 refine ⟨_,hD,?_⟩
 unfold xU at q
 by_cases z:x=Str.ofString "+"
 ·rw [if_pos z] at q
  subst z
  exact .inl ⟨_,zK ..,q⟩
 rw [if_neg z] at q
 by_cases y:x=Str.ofString "-"
 ·rw [if_pos y] at q
  subst y
  exact .inl ⟨_,zO _ (zK ..),q⟩
 rw [if_neg y] at q
 refine .inr ⟨fun kv h=>?_,q⟩
 simp only [zI,zR,or_false] at h
 rcases h with rfl | rfl
 ·exact fun e=>z e.symm
 ·exact fun e=>y e.symm
theorem ok_endR (T:Txt K mg):Cal P w K mg base 4 "read_end" ["word"] (spEndR K):=by
 have B:=T.bl
 have C_read_part:=ok_partR (P:=P) (w:=w) (base:=base) T
 obtain ⟨cst_NO_OUT,mg_NO_OUT,hcst⟩:=T.c_NO_OUT
 refine yD T.t_read_end sc_read_end (fun vs H Q E h=>?_) (fun f cdv A outer s H vs Q E hr h=>?_)
 ·obtain ⟨_,rfl,_⟩:=h
  rfl
 obtain ⟨x,rfl,hl,q1,q2⟩:=h
 refine ⟨_,((@pss_cons _ _ _ _ _ (@ps_if _ _ _ _ _ _ _ _ (@pt_cmpR _ _ _ _ _ _ _ _ op_eq (pv 0) pe_str (@nomark _ _ (by decide) (by decide))) (@pss_one _ _ _ (@ps_ret _ _ _ _ (@pe_glob _ _ (.ref cst_NO_OUT) _ _ rfl mg_NO_OUT rfl (by decide)))) pss_nil) (@pss_cons _ _ _ _ _ (@ps_set _ _ (1) _ _ _ _ sc_read_end.nd rfl (by walk_at "o") (@jP _ _ _ _ _ _ _ _ (@pt_val _ _ _ (@pe_bm _ _ _ _ _ _ _ _ _ _ _ _ ze PySem.F.slot_str_startswith PySem.F.type_str_startswith Jk (pv 0) (@pa_cons _ _ _ _ _ pe_str pa_nil (by rfl)) (by rfl) (by rfl) (by rfl) (by rfl) (by rfl)) (by intro _ ; rfl)) (@pe_un _ _ _ _ _ _ un_neg pe_int) pe_int) (by rfl) (by walk_at "o")) (@pss_cons _ _ _ _ _ (@ps_set _ _ (2) _ _ _ _ sc_read_end.nd rfl (by walk_at "o") (@pe_cal _ _ _ _ _ _ _ _ _ _ C_read_part hr rfl (@pa_cons _ _ _ _ _ (@jP _ _ _ _ _ _ _ _ (@pt_cmpR _ _ _ _ _ _ _ _ op_eq (pv 1) (@pe_un _ _ _ _ _ _ un_neg pe_int) (@nomark _ _ (by decide) (by decide))) (@yc _ _ _ _ _ _ _ _ _ _ jA (pv 0) (@y6 _ _ _ pe_int) y4) (pv 0)) pa_nil (by rfl)) (by decide) (by rfl) (by rfl)) (by rfl) (by walk_at "o")) (@pss_one _ _ _ (@ps_ret _ _ _ _ (@jP _ _ _ _ _ _ _ _ (@yu _ _ _ _ _ _ (@xJ _ _ _ _ _ (pv 2)) (by first | exact zv _ ( by decide ) ( by decide ) | rfl)) pe_non (@pe_tup _ _ _ _ _ (@pa_cons _ _ _ _ _ (@pe_ix _ _ _ _ _ _ _ ix_U (pv 2) pe_int (fun _ _=>rfl)) (@pa_cons _ _ _ _ _ (@pe_ix _ _ _ _ _ _ _ ix_U (pv 2) pe_int (fun _ _=>rfl)) (@pa_cons _ _ _ _ _ (pv 1) pa_nil (by rfl)) (by rfl)) (by rfl)))))))))),?_⟩
 rw [show zp ["word","sign","part"] [.str x]=[some (.str x),none,none] from rfl]
 try walk_at "WP"
 unfold endR at q1 q2
 refine y8 (fun z=>?_) (fun z=>?_)
 ·exact q2 0 0 0 (if_pos z) _ H (Same.refl _) (hcst.sq _)
 rw [if_neg z] at q1 q2
 have key:∀ (y:Str) (sg:Int) (E':XK),y.length <= 640 -> (if minB x=true then Txt.slice x (some 1) none else x)=y -> (if minB x=true then (-1:Int) else 1)=sg -> zAH [.str y] H (fun v H1=>if v=V.non then Q V.non H1 else jl v (V.int 0) H1 fun a H1=>jl v (V.int 1) H1 fun b H1=>∀ (p:Addr),H1 p=none -> Q (V.ref p) (upd H1 p (HO.tup [a,b,V.int sg]))) E':=fun y sg E' ly ey es=>by
  rw [ey,es] at q1 q2
  refine ⟨y,rfl,ly,fun e H' s'=>?_,fun t s0 e r H' s' h'=>?_⟩
  ·show (if V.non=V.non then _ else _)
   rw [if_pos rfl]
   exact q1 (by rw [e]; rfl) H' s'
  ·show (if V.ref r=V.non then _ else _)
   rw [if_neg (by intro z; cases z)]
   (iterate 5 ((try (walk_at "WP")); (try (simp only [h',qJs,qJt,qJl,qJd,exists_eq_left',exists_eq_left])))); (try (walk_at "WP"))
   intro p np
   exact q2 t s0 sg (by rw [e]; rfl) p _ (s'.trans (zV np _)) (SqT.of zL)
 have hmb:minB x=Txt.startswith x (Str.ofString "-"):=rfl
 cases hm:Txt.startswith x (Str.ofString "-") with
 | true =>
  have hm':minB x=true:=hm
  rw [if_pos rfl]
  exact ⟨zD hl (by decide),key _ _ _ (zD (sl1_len (min_ne hm')) hl) (if_pos hm') (if_pos hm')⟩
 | false =>
  have hm':¬ minB x=true:=by rw [hmb,hm]; decide
  rw [if_neg (by decide)]
  exact key _ _ _ hl (if_neg hm') (if_neg hm')
theorem ok_goalT (T:Txt K mg):Cal P w K mg base 5 "read_out" ["words"] (spGoalT K):=by
 have B:=T.bl
 have C_read_end:=ok_endR (P:=P) (w:=w) (base:=base) T
 refine yD T.t_read_out sc_read_out (fun vs H Q E h=>?_) (fun f cdv A outer s H vs Q E hr h=>?_)
 ·obtain ⟨_,_,rfl,_⟩:=h
  rfl
 obtain ⟨l,ws,rfl,hl,hw,q1,q2⟩:=h
 refine ⟨_,((@pss_cons _ _ _ _ _ (@ps_if _ _ _ _ _ _ _ _ (@PW.pt _ _ _ (@pw_or _ _ _ _ _ _ _ (@pt_cmpR _ _ _ _ _ _ _ _ op_ne (@pe_callB _ _ _ _ _ _ _ _ _ call_lenM rfl B.len bo_len (@pa_cons _ _ _ _ _ (pv 0) pa_nil (by rfl)) (by decide) (by decide) (by rfl) (by rfl)) pe_int (@nomark _ _ (by decide) (by decide))) (@pw_or1 _ _ _ _ (@pt_cmpR _ _ _ _ _ _ _ _ op_ne (@pe_ix _ _ _ _ _ _ _ ix_M (pv 0) pe_int (fun _ _=>rfl)) pe_str (@nomark _ _ (by decide) (by decide)))))) (@pss_one _ _ _ (@ps_ret _ _ _ _ pe_non)) pss_nil) (@pss_one _ _ _ (@ps_ret _ _ _ _ (@pe_cal _ _ _ _ _ _ _ _ _ _ C_read_end hr rfl (@pa_cons _ _ _ _ _ (@pe_ix _ _ _ _ _ _ _ ix_M (pv 0) pe_int (fun _ _=>rfl)) pa_nil (by rfl)) (by decide) (by rfl) (by rfl)))))),?_⟩
 rw [show zp ["words"] [.ref l]=[some (.ref l)] from rfl]
 (iterate 5 ((try (walk_at "WP")); (try (simp only [hl,qJs,qJt,qJl,qJd,exists_eq_left',exists_eq_left])))); (try (walk_at "WP"))
 rw [qC]
 by_cases z:ws.length=2
 ·obtain ⟨a,b,rfl⟩:=two_of z
  rw [if_neg (fun n=>n (by rw [z]; rfl))]
  refine ⟨.str a,rfl,?_⟩
  (iterate 5 ((try (walk_at "WP")); (try (simp only [hl,qJs,qJt,qJl,qJd,exists_eq_left',exists_eq_left])))); (try (walk_at "WP"))
  by_cases z:a=Str.ofString "out"
  ·rw [if_neg (fun n=>n z)]
   have e:goalR [a,b]=endR b:=if_pos z
   exact ⟨.str b,rfl,b,rfl,hw b (by simp),e ▸ q1,e ▸ q2⟩
  ·rw [if_pos z]
   exact q1 (if_neg z) H (Same.refl _)
 ·rw [if_pos (fun n=>z (by exact_mod_cast n))]
  exact q1 (goalR_no z) H (Same.refl _)
theorem ok_deedT (T:Txt K mg) (D_WORDS_BY_SIGN:CDgm w.params K mg "WORDS_BY_SIGN" [("+","sum"),("-","less")]):Cal P w K mg base 5 "read_deed" ["words"] spDeedT:=by
 have B:=T.bl
 have C_read_part:=(ok_partR (P:=P) (w:=w) (base:=base) T).mono (k:=4) (by decide)
 have C_read_sign:=(ok_signR (P:=P) (w:=w) (base:=base) T D_WORDS_BY_SIGN).mono (k:=4) (by decide)
 refine yD T.t_read_deed sc_read_deed (fun vs H Q E h=>?_) (fun f cdv A outer s H vs Q E hr h=>?_)
 ·obtain ⟨_,_,rfl,_⟩:=h
  rfl
 obtain ⟨l,ws,rfl,hl,hw,q1,q2⟩:=h
 refine ⟨_,((@pss_cons _ _ _ _ _ (@ps_if _ _ _ _ _ _ _ _ (@pt_cmpR _ _ _ _ _ _ _ _ op_ne (@pe_callB _ _ _ _ _ _ _ _ _ call_lenM rfl B.len bo_len (@pa_cons _ _ _ _ _ (pv 0) pa_nil (by rfl)) (by decide) (by decide) (by rfl) (by rfl)) pe_int (@nomark _ _ (by decide) (by decide))) (@pss_one _ _ _ (@ps_ret _ _ _ _ pe_non)) pss_nil) (@pss_cons _ _ _ _ _ (@ps_set _ _ (1) _ _ _ _ sc_read_deed.nd rfl (by walk_at "o") (@pe_cal _ _ _ _ _ _ _ _ _ _ C_read_part hr rfl (@pa_cons _ _ _ _ _ (@pe_ix _ _ _ _ _ _ _ ix_M (pv 0) pe_int (fun _ _=>rfl)) pa_nil (by rfl)) (by decide) (by rfl) (by rfl)) (by rfl) (by walk_at "o")) (@pss_cons _ _ _ _ _ (@ps_set _ _ (2) _ _ _ _ sc_read_deed.nd rfl (by walk_at "o") (@pe_cal _ _ _ _ _ _ _ _ _ _ C_read_sign hr rfl (@pa_cons _ _ _ _ _ (@pe_ix _ _ _ _ _ _ _ ix_M (pv 0) pe_int (fun _ _=>rfl)) pa_nil (by rfl)) (by decide) (by rfl) (by rfl)) (by rfl) (by walk_at "o")) (@pss_cons _ _ _ _ _ (@ps_set _ _ (3) _ _ _ _ sc_read_deed.nd rfl (by walk_at "o") (@pe_cal _ _ _ _ _ _ _ _ _ _ C_read_part hr rfl (@pa_cons _ _ _ _ _ (@pe_ix _ _ _ _ _ _ _ ix_M (pv 0) pe_int (fun _ _=>rfl)) pa_nil (by rfl)) (by decide) (by rfl) (by rfl)) (by rfl) (by walk_at "o")) (@pss_cons _ _ _ _ _ (@ps_if _ _ _ _ _ _ _ _ (@PW.pt _ _ _ (@pw_or _ _ _ _ _ _ _ (@yu _ _ _ _ _ _ (@xJ _ _ _ _ _ (pv 1)) (by first | exact zv _ ( by decide ) ( by decide ) | rfl)) (@pw_or _ _ _ _ _ _ _ (@yu _ _ _ _ _ _ (@xJ _ _ _ _ _ (pv 2)) (by first | exact zv _ ( by decide ) ( by decide ) | rfl)) (@pw_or1 _ _ _ _ (@yu _ _ _ _ _ _ (@xJ _ _ _ _ _ (pv 3)) (by first | exact zv _ ( by decide ) ( by decide ) | rfl)))))) (@pss_one _ _ _ (@ps_ret _ _ _ _ pe_non)) pss_nil) (@pss_one _ _ _ (@ps_ret _ _ _ _ (@pe_tup _ _ _ _ _ (@pa_cons _ _ _ _ _ (pv 2) (@pa_cons _ _ _ _ _ (@pe_ix _ _ _ _ _ _ _ ix_U (pv 1) pe_int (fun _ _=>rfl)) (@pa_cons _ _ _ _ _ (@pe_ix _ _ _ _ _ _ _ ix_U (pv 1) pe_int (fun _ _=>rfl)) (@pa_cons _ _ _ _ _ (@pe_ix _ _ _ _ _ _ _ ix_U (pv 3) pe_int (fun _ _=>rfl)) (@pa_cons _ _ _ _ _ (@pe_ix _ _ _ _ _ _ _ ix_U (pv 3) pe_int (fun _ _=>rfl)) pa_nil (by rfl)) (by rfl)) (by rfl)) (by rfl)) (by rfl))))))))))),?_⟩
 rw [show zp ["words","left","word","right"] [.ref l]=[some (.ref l),none,none,none] from rfl]
 (iterate 5 ((try (walk_at "WP")); (try (simp only [hl,qJs,qJt,qJl,qJd,exists_eq_left',exists_eq_left])))); (try (walk_at "WP"))
 rw [qC]
 by_cases z:ws.length=3
 ·obtain ⟨a,b,c,rfl⟩:=thr_of z
  rw [if_neg (fun n=>n (by rw [z]; rfl))]
  have dn:∀ {p:Option (Int × Int)} {g:Option Str} {r:Option (Int × Int)},partR a=p -> xU b=g -> partR c=r -> (p=none \/ g=none \/ r=none) -> deedR [a,b,c]=none:=fun e1 e2 e3 h=>by
   show (match partR a,xU b,partR c with
    | some p,some w,some q=>some (w,p,q)
    | _,_,_=>none)=none
   rw [e1,e2,e3]
   rcases h with rfl | rfl | rfl
   ·rfl
   ·split <;> simp_all
   ·split <;> simp_all
  -- the third part,with what was read of the first two
  have last:∀ (v1 v2:V) (H2:Hp) (E':XK),Same H H2 -> ((partR a=none /\ v1 = .non) \/ ∃ t s r,partR a=some (t,s) /\ v1 = .ref r /\ H2 r=some (.tup [.int t,.int s])) -> ((xU b=none /\ v2 = .non) \/ ∃ g,xU b=some g /\ v2 = .str g) ->
    zAH [.str c] H2 (fun x_2 H1=>if v1=V.non then Q V.non H1 else if v2=V.non then Q V.non H1 else if x_2=V.non then Q V.non H1 else jl v1 (V.int 0) H1 fun x_3 H1=>jl v1 (V.int 1) H1 fun x H1=>jl x_2 (V.int 0) H1 fun x_4 H1=>jl x_2 (V.int 1) H1 fun x_5 H1=>∀ (p:Addr),H1 p=none -> Q (V.ref p) (upd H1 p (HO.tup [v2,x_3,x,x_4,x_5]))) E':=fun v1 v2 H2 E' s2 h1 h2=>by
   have go:∀ (v3:V) (H3:Hp),Same H2 H3 -> ((partR c=none /\ v3 = .non) \/ ∃ t s r,partR c=some (t,s) /\ v3 = .ref r /\ H3 r=some (.tup [.int t,.int s])) -> (if v1=V.non then Q V.non H3 else if v2=V.non then Q V.non H3 else if v3=V.non then Q V.non H3 else jl v1 (V.int 0) H3 fun x_3 H1=>jl v1 (V.int 1) H1 fun x H1=>jl v3 (V.int 0) H1 fun x_4 H1=>jl v3 (V.int 1) H1 fun x_5 H1=>∀ (p:Addr),H1 p=none -> Q (V.ref p) (upd H1 p (HO.tup [v2,x_3,x,x_4,x_5]))):=fun v3 H3 s3 h3=>by
    have s23:=s2.trans s3
    rcases h1 with ⟨e1,rfl⟩ | ⟨t,s0,r,e1,rfl,hr1⟩
    ·rw [if_pos rfl]
     exact q1 (dn e1 rfl rfl (.inl rfl)) H3 s23
    rw [if_neg (by intro z; cases z)]
    rcases h2 with ⟨e2,rfl⟩ | ⟨g,e2,rfl⟩
    ·rw [if_pos rfl]
     exact q1 (dn rfl e2 rfl (.inr (.inl rfl))) H3 s23
    rw [if_neg (by intro z; cases z)]
    rcases h3 with ⟨e3,rfl⟩ | ⟨t',s',r',e3,rfl,hr3⟩
    ·rw [if_pos rfl]
     exact q1 (dn rfl rfl e3 (.inr (.inr rfl))) H3 s23
    rw [if_neg (by intro z; cases z)]
    have hr1':=s3 _ _ hr1
    (iterate 5 ((try (walk_at "WP")); (try (simp only [hr1',hr3,qJs,qJt,qJl,qJd,exists_eq_left',exists_eq_left])))); (try (walk_at "WP"))
    intro p np
    refine q2 g t s0 t' s' ?_ p _ (s23.trans (zV np _)) zL
    show (match partR a,xU b,partR c with
     | some p,some w,some q=>some (w,p,q)
     | _,_,_=>none)=_
    rw [e1,e2,e3]
   exact ⟨c,rfl,hw c (by simp),fun e H3 s3=>go _ _ s3 (.inl ⟨e,rfl⟩),fun t s0 e r H3 s3 h3=>go _ _ s3 (.inr ⟨t,s0,r,e,rfl,h3⟩)⟩
  have mid:∀ (v1:V) (H1:Hp) (E':XK) (R:V -> V -> Hp -> Prop),Same H H1 -> ((xU b=none -> R v1 .non H1) /\ ∀ g,xU b=some g -> R v1 (.str g) H1) -> spSignR [.str b] H1 (fun v2 H2=>R v1 v2 H2) E':=fun v1 H1 E' R s1 h=>by
   refine ⟨b,rfl,?_⟩
   cases e:xU b with
   | none=>exact h.1 e
   | some g=>exact h.2 g e
  have one:∀ (v1:V) (H1:Hp) (E':XK) (E2:XK),Same H H1 -> ((partR a=none /\ v1 = .non) \/ ∃ t s r,partR a=some (t,s) /\ v1 = .ref r /\ H1 r=some (.tup [.int t,.int s])) -> (∃ xs,H1 l=some (HO.lst xs) /\ ∃ v,atI xs 1=some v /\ spSignR [v] H1 (fun x_1 H1=>∃ xs,H1 l=some (HO.lst xs) /\ ∃ v,atI xs 2=some v /\ zAH [v] H1 (fun x_2 H1=>if v1=V.non then Q V.non H1 else if x_1=V.non then Q V.non H1 else if x_2=V.non then Q V.non H1 else jl v1 (V.int 0) H1 fun x_3 H1=>jl v1 (V.int 1) H1 fun x H1=>jl x_2 (V.int 0) H1 fun x_4 H1=>jl x_2 (V.int 1) H1 fun x_5 H1=>∀ (p:Addr),H1 p=none -> Q (V.ref p) (upd H1 p (HO.tup [x_1,x_3,x,x_4,x_5]))) E') E2):=fun v1 H1 E' E2 s1 h1=>by
   refine ⟨_,s1 _ _ hl,.str b,rfl,mid v1 H1 E2 (fun v1 x_1 H1=>∃ xs,H1 l=some (HO.lst xs) /\ ∃ v,atI xs 2=some v /\ zAH [v] H1 (fun x_2 H1=>if v1=V.non then Q V.non H1 else if x_1=V.non then Q V.non H1 else if x_2=V.non then Q V.non H1 else jl v1 (V.int 0) H1 fun x_3 H1=>jl v1 (V.int 1) H1 fun x H1=>jl x_2 (V.int 0) H1 fun x_4 H1=>jl x_2 (V.int 1) H1 fun x_5 H1=>∀ (p:Addr),H1 p=none -> Q (V.ref p) (upd H1 p (HO.tup [x_1,x_3,x,x_4,x_5]))) E') s1 ⟨fun e=>?_,fun g e=>?_⟩⟩
   ·exact ⟨_,s1 _ _ hl,.str c,rfl,last v1 _ H1 E' s1 h1 (.inl ⟨e,rfl⟩)⟩
   ·exact ⟨_,s1 _ _ hl,.str c,rfl,last v1 _ H1 E' s1 h1 (.inr ⟨g,e,rfl⟩)⟩
  exact ⟨.str a,rfl,a,rfl,hw a (by simp),fun e H1 s1=>one _ _ _ _ s1 (.inl ⟨e,rfl⟩),fun t s0 e r H1 s1 h1=>one _ _ _ _ s1 (.inr ⟨t,s0,r,e,rfl,h1⟩)⟩
 ·rw [if_pos (fun n=>z (by exact_mod_cast n))]
  exact q1 (deedR_no z) H (Same.refl _)
theorem ok_insR (T:Txt K mg):Cal P w K mg base 3 "read_ins" ["line"] spInsR:=by
 have B:=T.bl
 obtain ⟨_,mg_MOST_INS⟩:=T.i_MOST_INS
 have C_read_figures:=(ok_figR (P:=P) (w:=w) (base:=base) T).mono (k:=2) (by decide)
 have C_is_between:=ok_btw (P:=P) (w:=w) (base:=base) T
 refine yD T.t_read_ins sc_read_ins (fun vs H Q E h=>?_) (fun f cdv A outer s H vs Q E hr h=>?_)
 ·obtain ⟨_,rfl,_⟩:=h
  rfl
 obtain ⟨x,rfl,hx,hw,q⟩:=h
 refine ⟨_,((@pss_cons _ _ _ _ _ (@ps_set _ _ (1) _ _ _ _ sc_read_ins.nd rfl (by walk_at "o") (@pe_bm _ _ _ _ _ _ _ _ _ _ _ _ ze yP yO jR (pv 0) (@pa_cons _ _ _ _ _ pe_str pa_nil (by rfl)) (by rfl) (by rfl) (by rfl) (by rfl) (by rfl)) (by rfl) (by walk_at "o")) (@pss_cons _ _ _ _ _ (@ps_if _ _ _ _ _ _ _ _ (@PW.pt _ _ _ (@pw_or _ _ _ _ _ _ _ (@pt_cmpR _ _ _ _ _ _ _ _ op_ne (@pe_callB _ _ _ _ _ _ _ _ _ call_lenM rfl B.len bo_len (@pa_cons _ _ _ _ _ (pv 1) pa_nil (by rfl)) (by decide) (by decide) (by rfl) (by rfl)) pe_int (@nomark _ _ (by decide) (by decide))) (@pw_or1 _ _ _ _ (@pt_cmpR _ _ _ _ _ _ _ _ op_ne (@pe_ix _ _ _ _ _ _ _ ix_M (pv 1) pe_int (fun _ _=>rfl)) pe_str (@nomark _ _ (by decide) (by decide)))))) (@pss_one _ _ _ (@ps_ret _ _ _ _ pe_non)) pss_nil) (@pss_cons _ _ _ _ _ (@ps_set _ _ (2) _ _ _ _ sc_read_ins.nd rfl (by walk_at "o") (@pe_cal _ _ _ _ _ _ _ _ _ _ C_read_figures hr rfl (@pa_cons _ _ _ _ _ (@pe_ix _ _ _ _ _ _ _ ix_M (pv 1) pe_int (fun _ _=>rfl)) pa_nil (by rfl)) (by decide) (by rfl) (by rfl)) (by rfl) (by walk_at "o")) (@pss_one _ _ _ (@ps_ret _ _ _ _ (@jP _ _ _ _ _ _ _ _ (@pt_val _ _ _ (@pe_cal _ _ _ _ _ _ _ _ _ _ C_is_between hr rfl (@pa_cons _ _ _ _ _ (pv 2) (@pa_cons _ _ _ _ _ pe_int (@pa_cons _ _ _ _ _ (@pe_glob _ _ (.int 12) _ _ rfl mg_MOST_INS ⟨_,rfl⟩ (by decide)) pa_nil (by rfl)) (by rfl)) (by rfl)) (by decide) (by rfl) (by rfl)) (by intro _ ; rfl)) (pv 2) pe_non))))))),?_⟩
 rw [show zp ["line","words","ins"] [.str x]=[some (.str x),none,none] from rfl]
 try walk_at "WP"
 refine ⟨by decide +kernel,hx,fun l nl=>?_⟩
 generalize Txt.split x (Str.ofString " ")=ws at hw q ⊢
 refine yv nl fun H1 s1 h1=>?_
 rw [qC]
 by_cases z:ws.length=2
 ·obtain ⟨a,b,rfl⟩:=two_of z
  rw [if_neg (fun n=>n (by rw [z]; rfl))]
  refine ⟨.str a,rfl,?_⟩
  (iterate 5 ((try (walk_at "WP")); (try (simp only [h1,qJs,qJt,qJl,qJd,exists_eq_left',exists_eq_left])))); (try (walk_at "WP"))
  by_cases z:a=Str.ofString "in"
  ·rw [if_neg (fun n=>n z)]
   refine ⟨.str b,rfl,b,rfl,hw b (by simp),fun H2 s2=>?_⟩
   refine ⟨_,1,12,rfl,?_,?_⟩
   ·cases figR b <;> exact .inl rfl
   have e:insR [a,b]=(match figR b with
    | some n=>if 1 <= n /\ n <= 12 then some n else none
    | none=>none):=if_pos z
   rw [e] at q
   cases eb:figR b with
   | none =>
    rw [eb] at q
    exact ⟨false,rfl,by rw [if_neg (by decide)]; exact q H2 (s1.trans s2)⟩
   | some n =>
    rw [eb] at q
    refine ⟨decide (1 <= n /\ n <= 12),rfl,?_⟩
    by_cases y:1 <= n /\ n <= 12
    ·rw [if_pos (decide_eq_true y)]
     have q:=q H2 (s1.trans s2)
     simp only at q
     rw [if_pos y] at q
     exact q
    ·rw [if_neg (by simpa using y)]
     have q:=q H2 (s1.trans s2)
     simp only at q
     rw [if_neg y] at q
     exact q
  ·rw [if_pos z]
   have e:insR [a,b]=none:=if_neg z
   rw [e] at q
   exact q H1 s1
 ·rw [if_pos (fun n=>z (by exact_mod_cast n))]
  rw [insR_no z] at q
  exact q H1 s1
end
section
variable {P:Program}{w:World}{K:zA}{mg:Str -> Option Value}{base:Heap}
theorem ok_read (T:Txt K mg) (D_WORDS_BY_SIGN:CDgm w.params K mg "WORDS_BY_SIGN" [("+","sum"),("-","less")]) {cst_NoText:Addr} (mg_NoText:mg "NoText" = some (.ref cst_NoText)) (M_NoText:XCls P w K mg base cst_NoText "line"):CalX P w K mg base 6 "read" ["text"] (spReadB K cst_NoText):=by
 have B:=T.bl
 obtain ⟨_,mg_MOST_OUTS⟩:=T.i_MOST_OUTS
 have C_read_ins:=(ok_insR (P:=P) (w:=w) (base:=base) T).mono (k:=5) (by decide)
 have C_read_deed:=(ok_deedT (P:=P) (w:=w) (base:=base) T D_WORDS_BY_SIGN).mono (k:=5) (by decide)
 have C_read_out:=(ok_goalT (P:=P) (w:=w) (base:=base) T).mono (k:=5) (by decide)
 have C_is_deed:=(ok_deedC (P:=P) (w:=w) (base:=base) T).mono (k:=5) (by decide)
 have C_is_out:=(ok_outC (P:=P) (w:=w) (base:=base) T).mono (k:=5) (by decide)
 have C_input_rows:=(ok_inrows (P:=P) (w:=w) (base:=base) T).mono (k:=5) (by decide)
 have C_deed_row:=(ok_drow4 (P:=P) (w:=w) (base:=base) T).mono (k:=5) (by decide)
 refine mkCalX T.t_read sc_read (fun vs H Q E h=>?_) (fun f cdv A outer s H vs Q E hr h=>?_)
 ·rcases h with ⟨_,_,_,rfl,_⟩ | ⟨_,rfl,_⟩
  ·rfl
  ·rfl
 refine ⟨_,((@pss_cons _ _ _ _ _ (@ps_if _ _ _ _ _ _ _ _ (@pt_not _ _ _ _ (@pt_val _ _ _ (@pe_callB _ _ _ _ _ _ _ _ _ x4 rfl B.isinstance zw (@pa_cons _ _ _ _ _ (pv 0) (@pa_cons _ _ _ _ _ (@xh _ _ (.ty "str") _ _ rfl B.str Jn rfl (by decide) (by decide)) pa_nil (by rfl)) (by rfl)) (by decide) (by decide) (by rfl) (by rfl)) (by intro _ ; rfl))) (@pss_one _ _ _ (@ps_raiseI _ _ _ _ _ _ _ _ _ _ raises_of _ M_NoText hr rfl rfl mg_NoText (@pa_cons _ _ _ _ _ pe_int pa_nil (by rfl)) (by decide) (by decide) (by rfl) (by rfl))) pss_nil) (@pss_cons _ _ _ _ _ (@PS.nox _ _ _ (@ps_set _ _ (1) _ _ _ _ sc_read.nd rfl (by walk_at "o") (@pe_bm _ _ _ _ _ _ _ _ _ _ _ _ ze yP yO jR (pv 0) (@pa_cons _ _ _ _ _ pe_str pa_nil (by rfl)) (by rfl) (by rfl) (by rfl) (by rfl) (by rfl)) (by rfl) (by walk_at "o"))) (@pss_cons _ _ _ _ _ (@PS.nox _ _ _ (@ps_set _ _ (2) _ _ _ _ sc_read.nd rfl (by walk_at "o") (@pe_cal _ _ _ _ _ _ _ _ _ _ C_read_ins hr rfl (@pa_cons _ _ _ _ _ (@pe_ix _ _ _ _ _ _ _ ix_M (pv 1) pe_int (fun _ _=>rfl)) pa_nil (by rfl)) (by decide) (by rfl) (by rfl)) (by rfl) (by walk_at "o"))) (@pss_cons _ _ _ _ _ (@ps_if _ _ _ _ _ _ _ _ (@yu _ _ _ _ _ _ (@xJ _ _ _ _ _ (pv 2)) (by first | exact zv _ ( by decide ) ( by decide ) | rfl)) (@pss_one _ _ _ (@ps_raiseI _ _ _ _ _ _ _ _ _ _ raises_of _ M_NoText hr rfl rfl mg_NoText (@pa_cons _ _ _ _ _ pe_int pa_nil (by rfl)) (by decide) (by decide) (by rfl) (by rfl))) pss_nil) (@pss_cons _ _ _ _ _ (@PS.nox _ _ _ (@ps_set _ _ (3) _ _ _ _ sc_read.nd rfl (by walk_at "o") (@pe_cal _ _ _ _ _ _ _ _ _ _ C_input_rows hr rfl (@pa_cons _ _ _ _ _ (pv 2) pa_nil (by rfl)) (by decide) (by rfl) (by rfl)) (by rfl) (by walk_at "o"))) (@pss_cons _ _ _ _ _ (@PS.nox _ _ _ (@ps_set _ _ (4) _ _ _ _ sc_read.nd rfl (by walk_at "o") (@pe_lst _ _ _ _ pa_nil) (by rfl) (by walk_at "o"))) (@pss_cons _ _ _ _ _ (@PS.nox _ _ _ (@ps_set _ _ (5) _ _ _ _ sc_read.nd rfl (by walk_at "o") (@pe_lst _ _ _ _ pa_nil) (by rfl) (by walk_at "o"))) (@pss_cons _ _ _ _ _ (@ps_for _ _ _ _ _ _ _ _ PassesOwn.leaving rfl (@pi_enum _ _ _ _ _ _ _ _ rfl B.enumerate (@pa_cons _ _ _ _ _ (@yc _ _ _ _ _ _ _ _ _ _ sl_list (pv 1) (@y6 _ _ _ pe_int) y4) pa_nil (by rfl)) (by rfl)) (@jY _ _ _ _ _ 2 rfl (@zz _ _ _ _ _ (@pg_name _ _ (6) _ sc_read.nd rfl (by walk_at "o") (by walk_at "o")) (@zz _ _ _ _ _ (@pg_name _ _ (7) _ sc_read.nd rfl (by walk_at "o") (by walk_at "o")) jW (by rfl)) (by rfl)) (by rfl) (by rfl)) (@pss_cons _ _ _ _ _ (@PS.nox _ _ _ (@ps_set _ _ (8) _ _ _ _ sc_read.nd rfl (by walk_at "o") (@pe_cal _ _ _ _ _ _ _ _ _ _ C_read_deed hr rfl (@pa_cons _ _ _ _ _ (@pe_bm _ _ _ _ _ _ _ _ _ _ _ _ ze yP yO jR (pv 7) (@pa_cons _ _ _ _ _ pe_str pa_nil (by rfl)) (by rfl) (by rfl) (by rfl) (by rfl) (by rfl)) pa_nil (by rfl)) (by decide) (by rfl) (by rfl)) (by rfl) (by walk_at "o"))) (@pss_cons _ _ _ _ _ (@PS.nox _ _ _ (@ps_set _ _ (9) _ _ _ _ sc_read.nd rfl (by walk_at "o") (@pe_cal _ _ _ _ _ _ _ _ _ _ C_read_out hr rfl (@pa_cons _ _ _ _ _ (@pe_bm _ _ _ _ _ _ _ _ _ _ _ _ ze yP yO jR (pv 7) (@pa_cons _ _ _ _ _ pe_str pa_nil (by rfl)) (by rfl) (by rfl) (by rfl) (by rfl) (by rfl)) pa_nil (by rfl)) (by decide) (by rfl) (by rfl)) (by rfl) (by walk_at "o"))) (@pss_one _ _ _ (@ps_if _ _ _ _ _ _ _ _ (@PW.pt _ _ _ (@pw_and _ _ _ _ _ _ _ (@pt_cmpR _ _ _ _ _ _ _ _ (@op_eqE _ _ hr) (pv 5) (@pe_lst _ _ _ _ pa_nil) (@nomark _ _ (by decide) (by decide))) (@pw_and1 _ _ _ _ (@pt_val _ _ _ (@pe_cal _ _ _ _ _ _ _ _ _ _ C_is_deed hr rfl (@pa_cons _ _ _ _ _ (pv 8) (@pa_cons _ _ _ _ _ (pv 3) pa_nil (by rfl)) (by rfl)) (by decide) (by rfl) (by rfl)) (by intro _ ; rfl))))) (@pss_cons _ _ _ _ _ (@PS.nox _ _ _ (@ps_expr _ _ _ _ (@pe_bm _ _ _ _ _ _ _ _ _ _ _ _ zh zd zc mt_append (pv 4) (@pa_cons _ _ _ _ _ (pv 8) pa_nil (by rfl)) (by rfl) (by rfl) (by rfl) (by rfl) (by rfl)) (by rfl))) (@pss_one _ _ _ (@PS.nox _ _ _ (@ps_expr _ _ _ _ (@pe_bm _ _ _ _ _ _ _ _ _ _ _ _ zh zd zc mt_append (pv 3) (@pa_cons _ _ _ _ _ (@pe_cal _ _ _ _ _ _ _ _ _ _ C_deed_row hr rfl (@pa_cons _ _ _ _ _ (pv 8) (@pa_cons _ _ _ _ _ (pv 3) pa_nil (by rfl)) (by rfl)) (by decide) (by rfl) (by rfl)) pa_nil (by rfl)) (by rfl) (by rfl) (by rfl) (by rfl) (by rfl)) (by rfl))))) (@pss_one _ _ _ (@ps_if _ _ _ _ _ _ _ _ (@PW.pt _ _ _ (@pw_and _ _ _ _ _ _ _ (@pt_cmpR _ _ _ _ _ _ _ _ op_lt (@pe_callB _ _ _ _ _ _ _ _ _ call_lenM rfl B.len bo_len (@pa_cons _ _ _ _ _ (pv 5) pa_nil (by rfl)) (by decide) (by decide) (by rfl) (by rfl)) (@pe_glob _ _ (.int 12) _ _ rfl mg_MOST_OUTS ⟨_,rfl⟩ (by decide)) (@nomark _ _ (by decide) (by decide))) (@pw_and1 _ _ _ _ (@pt_val _ _ _ (@pe_cal _ _ _ _ _ _ _ _ _ _ C_is_out hr rfl (@pa_cons _ _ _ _ _ (pv 9) (@pa_cons _ _ _ _ _ (pv 3) pa_nil (by rfl)) (by rfl)) (by decide) (by rfl) (by rfl)) (by intro _ ; rfl))))) (@pss_one _ _ _ (@PS.nox _ _ _ (@ps_expr _ _ _ _ (@pe_bm _ _ _ _ _ _ _ _ _ _ _ _ zh zd zc mt_append (pv 5) (@pa_cons _ _ _ _ _ (pv 9) pa_nil (by rfl)) (by rfl) (by rfl) (by rfl) (by rfl) (by rfl)) (by rfl)))) (@pss_one _ _ _ (@ps_raiseI _ _ _ _ _ _ _ _ _ _ raises_of _ M_NoText hr rfl rfl mg_NoText (@pa_cons _ _ _ _ _ (@pe_op _ _ _ _ _ _ _ _ op_add (pv 6) pe_int) pa_nil (by rfl)) (by decide) (by decide) (by rfl) (by rfl))))))))) (by intro _ ; rfl)) (@pss_one _ _ _ (@PS.nox _ _ _ (@ps_ret _ _ _ _ (@pe_tup _ _ _ _ _ (@pa_cons _ _ _ _ _ (pv 2) (@pa_cons _ _ _ _ _ (pv 4) (@pa_cons _ _ _ _ _ (pv 5) pa_nil (by rfl)) (by rfl)) (by rfl))))))))))))))),?_⟩
 rcases h with ⟨x,l0,ls,rfl,hx,hsp,hll,hws,q0,qn⟩ | ⟨v,rfl,hv,qE⟩
 rotate_left
 ·rw [show zp ["text","lines","ins","rows","deeds","outs","place","line","deed","out"] [v]=[some (v),none,none,none,none,none,none,none,none,none] from rfl]
  try walk_at "WP"
  refine hv _ ?_
  refine ⟨false,rfl,?_⟩
  rw [if_pos rfl,w_raiseI]
  try walk_at "WP"
  exact fun d H' n s' h'=>qE d H' n s' h'
 rw [show zp ["text","lines","ins","rows","deeds","outs","place","line","deed","out"] [.str x]=[some (.str x),none,none,none,none,none,none,none,none,none] from rfl]
 refine zY fun R_ hR_=>?_
 (try (walk_at "WP")); (try (refine zT hR_ ?_)); (try (refine zY fun R_ hR_=>?_)); (try (walk_at "WP"))
 refine ⟨by decide +kernel,hx,fun l nl=>?_⟩
 rw [hsp]
 refine yv nl fun H1 s1 h1=>?_
 (try (walk_at "WP")); (try (refine zT hR_ ?_)); (try (refine zY fun R_ hR_=>?_)); (iterate 5 ((try (walk_at "WP")); (try (simp only [h1,qJs,qJt,qJl,qJd,exists_eq_left',exists_eq_left])))); (try (walk_at "WP"))
 obtain ⟨hz0,hw0⟩:=hws l0 (zK ..)
 refine ⟨.str l0,y7 (j:=0) rfl,l0,rfl,hz0,hw0,fun H2 s2=>?_⟩
 have s12:=s1.trans s2
 have up:∀ (k:Nat) D σ H',Same H H' -> raisL cst_NoText k H E -> JW E cst_NoText (Str.ofString "line") (tCons (tC (V.int (k:Nat))) tNil) D σ H':=fun k D σ H' s' h=>by
  rw [w_raiseI]
  try walk_at "WP"
  exact fun d H5 n5 s5 h5=>h d H5 (s'.free n5) (s'.trans s5) h5
 (try (walk_at "WP")); (try (refine zT hR_ ?_)); (try (refine zY fun R_ hR_=>?_)); (try (walk_at "WP"))
 rw [show Txt.split l0 (Str.ofString " ")=wrds l0 from rfl]
 cases ei:insR (wrds l0) with
 | none =>
  rw [Js,if_pos rfl]
  exact up 0 _ _ _ s12 (q0 ei)
 | some ni =>
 have nb:1 <= ni /\ ni <= 12:=insR_in ei
 obtain ⟨n,rfl⟩:∃ n:Nat,ni=n:=⟨ni.toNat,by omega⟩
 obtain ⟨hrb,qok,qbad⟩:=qn n ei
 rw [Jr,if_neg (by intro z; cases z)]
 (try (walk_at "WP")); (try (refine zT hR_ ?_)); (try (refine zY fun R_ hR_=>?_)); (try (walk_at "WP"))
 refine ⟨n,rfl,by omega,fun rl ys H3 nr s3 hr3 ht3=>?_⟩
 have s13:=s12.trans s3
 have nr0:=s12.free nr
 (try (walk_at "WP")); (try (refine zT hR_ ?_)); (try (refine zY fun R_ hR_=>?_)); (try (walk_at "WP"))
 intro da nda
 refine yv nda fun H4 s4 h4=>?_
 have s14:=s13.trans s4
 have nd0:=s13.free nda
 (try (walk_at "WP")); (try (refine zT hR_ ?_)); (try (refine zY fun R_ hR_=>?_)); (try (walk_at "WP"))
 intro ob nob
 refine yv nob fun H5 s5 h5=>?_
 have s15:=s14.trans s5
 have no0:=s14.free nob
 have h15:=(s2.trans (s3.trans (s4.trans s5))) _ _ h1
 (try (walk_at "WP")); (try (refine zT hR_ ?_)); (try (refine zY fun R_ hR_=>?_)); (iterate 5 ((try (walk_at "WP")); (try (simp only [h15,qJs,qJt,qJl,qJd,exists_eq_left',exists_eq_left])))); (try (walk_at "WP"))
 refine ⟨_,SqL.of h15,fun q nq=>?_⟩
 rw [zU,cutV_1]
 refine yv nq fun H6 s6 h6=>?_
 have s16:=s15.trans s6
 have s36:=s4.trans (s5.trans s6)
 have rd:rl ≠ da:=ne_of_none hr3 nda
 have ro:rl ≠ ob:=ne_of_none (s4 _ _ hr3) nob
 have do_:da ≠ ob:=ne_of_none h4 nob
 have rq:rl ≠ q:=ne_of_none ((s4.trans s5) _ _ hr3) nq
 have dq:da ≠ q:=ne_of_none (s5 _ _ h4) nq
 have oq:ob ≠ q:=ne_of_none h5 nq
 refine ⟨_,SqL.of h6,?_⟩
 refine forE (xs:=ls.map V.str) (fun i σ H'=>∃ (o1 o2 o3 o4:Option V) (st:RSt) (ys us ws:List V),σ = [some (.str x),some (.ref l),some (.int n),some (.ref rl),some (.ref da),some (.ref ob),o1,o2,o3,o4] /\ Same H H' /\ H' q=some (.lst (ls.map V.str)) /\ runR n ls i=some st /\ H' rl=some (.lst ys) /\ HTs iT H' ys (rowsC n st.ds) /\ H' da=some (.lst us) /\ HTs oD H' us st.ds /\ H' ob=some (.lst ws) /\ HKs K oD H' ws st.gs) ⟨none,none,none,none,⟨[],[]⟩,ys,[],[],rfl,s16,h6,rfl,s36 _ _ hr3,ht3.same s36,(s5.trans s6) _ _ h4,⟨rfl,fun k d e=>by simp at e⟩,s6 _ _ h5,⟨rfl,fun k d e=>by simp at e⟩⟩ ?_ ?_ ?_
 ·rintro i σ H' _ ⟨_,_,_,_,_,_,_,_,rfl,_,hq,_⟩
  exact SqL.of hq
 ·rintro i v t σ H7 N hv nt ⟨o1,o2,o3,o4,st,ys,us,ws,rfl,s7,hq7,hrun,hr7,hts7,hd7,hus7,ho7,hws7⟩ hN
  obtain ⟨li,hli,rfl⟩:=mapF_at hv
  have il:i < ls.length:=(qB.mp hli).1
  have rb:=hrb i st hrun
  have len:=zAJ hrun
  have gd:=Jc hrun
  obtain ⟨hz,hw⟩:=hws li (zO _ (qE hli))
  have stp:=JC hrun hli
  refine yv nt fun H8 s8 h8=>?_
  refine seq_inG fun R_ hR_=>?_
  (try (walk_at "WP")); (try (refine zT hR_ ?_)); (try (refine zY fun R_ hR_=>?_)); (iterate 5 ((try (walk_at "WP")); (try (simp only [h8,qJs,qJt,qJl,qJd,exists_eq_left',exists_eq_left])))); (try (walk_at "WP"))
  refine ⟨by decide +kernel,hz,fun l1 nl1=>?_⟩
  refine yv nl1 fun H9 s9 h9=>?_
  refine deedT_itm (K:=K) (ws:=wrds li) h9 hw fun vd H10 s10 hvd hvt=>?_
  (try (walk_at "WP")); (try (refine zT hR_ ?_)); (try (refine zY fun R_ hR_=>?_)); (try (walk_at "WP"))
  refine ⟨by decide +kernel,hz,fun l2 nl2=>?_⟩
  refine yv nl2 fun H11 s11 h11=>?_
  refine goalT_itm (K:=K) (ws:=wrds li) h11 hw fun vg H12 s12' hvg=>?_
  have s712:=(s8.trans s9).trans (s10.trans (s11.trans s12'))
  have s1012:=s11.trans s12'
  (try (walk_at "WP")); (try (refine zT hR_ ?_)); (try (refine zY fun R_ hR_=>?_)); (try (walk_at "WP"))
  have bad:∀ bk H',Same H12 H' -> jT n st li=none -> JW E cst_NoText (Str.ofString "line") (tCons (tOp (rI0 fun i j=>V.int (i+j)) (tVar 6) (tC (V.int 1))) tNil) { nx:=N,rt:=Q,bk:=bk,ct:=N } [some (V.str x),some (V.ref l),some (V.int (n:Int)),some (V.ref rl),some (V.ref da),some (V.ref ob),some (V.int (i:Int)),some (V.str li),some vd,some vg] H':=fun bk H' s' hn=>by
   rw [w_raiseI]
   try walk_at "WP"
   have sH:=s7.trans (s712.trans s')
   exact fun d H5 n5 s5 h5=>qbad i st li hli hrun hn d H5 (sH.free n5) (sH.trans s5) h5
  have wl:=hws7.len
  have yl:ys.length=n+st.ds.length:=by rw [hts7.len,zAa]
  have ul:=hus7.len
  have els:∀ bk H',Same H12 H' -> ¬ (st.gs.length=0 /\ yU (rowsC n st.ds) (ya (wrds li))=true) -> (∃ x_3,H' ob=some (HO.lst x_3) /\ if (x_3.length:Int) < 12 then spOutCB K [vg,V.ref rl] H' (fun x_4 H'=>∃ k,x_4=V.bl k /\ if k=true then tyV K "list" (V.ref ob) H' /\ ∃ xs,H' ob=some (HO.lst xs) /\ xs.length < sizeLine /\ N [some (V.str x),some (V.ref l),some (V.int (n:Int)),some (V.ref rl),some (V.ref da),some (V.ref ob),some (V.int (i:Int)),some (V.str li),some vd,some vg] (upd H' ob (HO.lst (xs ++ [vg]))) else JW E cst_NoText (Str.ofString "line") (tCons (tOp (rI0 fun i j=>V.int (i+j)) (tVar 6) (tC (V.int 1))) tNil) { nx:=N,rt:=Q,bk:=bk,ct:=N } [some (V.str x),some (V.ref l),some (V.int (n:Int)),some (V.ref rl),some (V.ref da),some (V.ref ob),some (V.int (i:Int)),some (V.str li),some vd,some vg] H') E0 else JW E cst_NoText (Str.ofString "line") (tCons (tOp (rI0 fun i j=>V.int (i+j)) (tVar 6) (tC (V.int 1))) tNil) { nx:=N,rt:=Q,bk:=bk,ct:=N } [some (V.str x),some (V.ref l),some (V.int (n:Int)),some (V.ref rl),some (V.ref da),some (V.ref ob),some (V.int (i:Int)),some (V.str li),some vd,some vg] H'):=fun bk H' s' hno=>by
   have sH:=s712.trans s'
   refine ⟨ws,sH _ _ ho7,?_⟩
   have es:jT n st li=if st.gs.length < 12 /\ xg (rowsC n st.ds) (yi (wrds li))=true then some ⟨st.ds,st.gs ++ [yi (wrds li)]⟩ else none:=if_neg hno
   refine y8 (fun c=>?_) (fun c=>?_)
   ·refine ⟨vg,rl,_,ys,_,rfl,hvg.same s',sH _ _ hr7,hts7.same sH,rb,fun H13 s13=>⟨_,rfl,?_⟩⟩
    have sG:=sH.trans s13
    have hvg':=hvg.same (s'.trans s13)
    cases g:xg (rowsC n st.ds) (yi (wrds li)) with
    | false =>
     rw [if_neg (by decide)]
     exact bad bk _ (s'.trans s13) (by rw [es,if_neg (by rw [g]; rintro ⟨_,z⟩; cases z)])
    | true =>
     rw [if_pos rfl]
     have ho13:=sG _ _ ho7
     refine ⟨xQ ho13,ws,ho13,qJ (by omega:ws.length < 1000) (zg (by decide)),?_⟩
     obtain ⟨cc,hcc⟩:∃ cc,yi (wrds li)=some cc:=by
      cases h:yi (wrds li) with
      | none=>rw [h] at g; cases g
      | some cc=>exact ⟨cc,rfl⟩
     rw [hcc] at hvg'
     obtain ⟨p,rfl,hp,_⟩:=hvg'
     have C:=Chg.upd (H:=H13) (p:=ob) (HO.lst (ws ++ [.ref p]))
     refine hN _ _ ⟨_,_,_,_,⟨st.ds,st.gs ++ [yi (wrds li)]⟩,ys,us,ws ++ [.ref p],rfl,yg no0 (s7.trans sG),?_,?_,?_,(hts7.same sG).chgL ho13 C,?_,(hus7.same sG).chgL ho13 C,zL,?_⟩
     ·rw [upd_ne oq.symm]; exact sG _ _ hq7
     ·rw [stp,es,if_pos ⟨by omega,g⟩]
     ·rw [upd_ne ro]; exact sG _ _ hr7
     ·rw [upd_ne do_]; exact sG _ _ hd7
     ·refine ((hws7.same sG).chgL ho13 C).snoc ?_
      rw [hcc]
      exact sqT_chg hp ho13 C
   ·exact bad bk _ s' (by rw [es,if_neg (by omega)])
  intro p3 np3
  refine yv np3 fun H13 s13 h13=>?_
  have sA:=s712.trans s13
  rw [w_eqE]
  refine ⟨ws,SqL.of (sA _ _ ho7),SqL.of h13,_,rfl,?_⟩
  by_cases c1:ws.length=0
  rotate_left
  ·rw [decide_eq_false c1,if_neg (by decide)]
   exact els _ _ s13 (fun z=>c1 (by rw [wl]; exact z.1))
  rw [decide_eq_true c1,if_pos rfl]
  refine ⟨vd,rl,_,ys,_,rfl,hvd.same (s1012.trans s13),sA _ _ hr7,hts7.same sA,rb,fun H14 s14=>⟨_,rfl,?_⟩⟩
  cases g:yU (rowsC n st.ds) (ya (wrds li)) with
  | false =>
   rw [if_neg (by decide)]
   exact els _ _ (s13.trans s14) (by rintro ⟨_,z⟩; rw [g] at z; cases z)
  | true =>
   rw [if_pos rfl]
   have sB:=sA.trans s14
   obtain ⟨d,ec,_,a1,a2,a3,a4⟩:=deedB_iff.mp g
   obtain ⟨p,rfl,hp⟩:=hvt _ ec
   have hp14:=(s1012.trans (s13.trans s14)) _ _ hp
   have hd14:=sB _ _ hd7
   refine ⟨xQ hd14,us,hd14,qJ (by omega:us.length < 1000) (zg (by decide)),?_⟩
   have C1:=Chg.upd (H:=H14) (p:=da) (HO.lst (us ++ [.ref p]))
   have k1:Same H (upd H14 da (HO.lst (us ++ [.ref p]))):=yg nd0 (s7.trans sB)
   have k2:upd H14 da (HO.lst (us ++ [.ref p])) rl=some (.lst ys):=by rw [upd_ne rd]; exact sB _ _ hr7
   have k3:upd H14 da (HO.lst (us ++ [.ref p])) p=some (.tup (xM d)):=by rw [upd_ne (Jh hp14 hd14 (by intro z; cases z))]; exact hp14
   have k4:upd H14 da (HO.lst (us ++ [.ref p])) ob=some (.lst ws):=by rw [upd_ne do_.symm]; exact sB _ _ ho7
   have k5:upd H14 da (HO.lst (us ++ [.ref p])) q=some (.lst (ls.map V.str)):=by rw [upd_ne dq.symm]; exact sB _ _ hq7
   have k6:upd H14 da (HO.lst (us ++ [.ref p])) da=some (.lst (us ++ [.ref p])):=zL
   have k7:=(hts7.same sB).chgL hd14 C1
   have k8:=((hus7.same sB).chgL hd14 C1).snoc (x:=some (xM d)) k3
   have k9:=(hws7.same sB).chgL hd14 C1
   generalize upd H14 da (HO.lst (us ++ [.ref p]))=G at k1 k2 k3 k4 k5 k6 k7 k8 k9 ⊢
   have wd:=zAD (zG _) gd.1
   rw [xb] at wd
   refine ⟨xQ k2,p,rl,d,ys,_,n,rfl,SqT.of k3,k2,k7,a1,a2,a3,a4,wd,by omega,rb,fun r H15 nr15 s15' h15'=>?_⟩
   have hr15:=s15' _ _ k2
   refine ⟨ys,hr15,qJ (by omega:ys.length < 1000) (zg (by decide)),?_⟩
   have C2:=Chg.upd (H:=H15) (p:=rl) (HO.lst (ys ++ [.ref r]))
   refine hN _ _ ⟨_,_,_,_,⟨st.ds ++ [ya (wrds li)],st.gs⟩,ys ++ [.ref r],us ++ [.ref p],ws,rfl,yg nr0 (k1.trans s15'),?_,?_,zL,?_,?_,?_,?_,?_⟩
   ·rw [upd_ne rq.symm]; exact s15' _ _ k5
   ·rw [stp]
    exact if_pos ⟨by omega,g⟩
   ·rw [j8,ec,rowC_w]
    refine ((k7.same s15').chgL hr15 C2).snoc ?_
    rw [upd_ne (Jh h15' hr15 (by intro z; cases z))]
    exact h15'
   ·rw [upd_ne rd.symm]; exact s15' _ _ k6
   ·rw [ec]
    exact (k8.same s15').chgL hr15 C2
   ·rw [upd_ne ro.symm]; exact s15' _ _ k4
   ·exact (k9.same s15').chgL hr15 C2
 ·rintro σ H7 ⟨o1,o2,o3,o4,st,ys,us,ws,rfl,s7,hq7,hrun,hr7,hts7,hd7,hus7,ho7,hws7⟩
  rw [qC] at hrun
  (try (walk_at "WP")); (try (refine zT hR_ ?_)); (try (refine zY fun R_ hR_=>?_)); (try (walk_at "WP"))
  intro r nr7
  have sr:=zV nr7 (.tup [.int n,.ref da,.ref ob])
  exact qok st hrun r da ob us ws _ (s7.trans sr) nd0 no0 do_ zL (sr _ _ hd7) (sr _ _ ho7) (hus7.same sr) (hws7.same sr)
end
section
variable {P:Program}{w:World}{K:zA}{mg:Str -> Option Value}{base:Heap}
theorem ok_lwh (T:Txt K mg):Cal P w K mg base 1 "_law_whole" ["_law_thing"] spIsWh:=by
 have B:=T.bl
 refine yD T.t_l_whole sc_l_whole (fun vs H Q E h=>?_) (fun f cdv A outer s H vs Q E hr h=>?_)
 ·obtain ⟨_,rfl,_⟩:=h
  rfl
 obtain ⟨v,rfl,hc,q⟩:=h
 refine ⟨_,((@pss_one _ _ _ (@ps_ret _ _ _ _ (@j4 _ _ _ _ _ _ _ (@pe_callB _ _ _ _ _ _ _ _ _ x4 rfl B.isinstance zw (@pa_cons _ _ _ _ _ (pv 0) (@pa_cons _ _ _ _ _ (@xh _ _ (.ty "int") _ _ rfl B.int xi rfl (by decide) (by decide)) pa_nil (by rfl)) (by rfl)) (by decide) (by decide) (by rfl) (by rfl)) (@j3 _ _ _ _ _ (@pe_not _ _ _ _ (@pe_callB _ _ _ _ _ _ _ _ _ x4 rfl B.isinstance zw (@pa_cons _ _ _ _ _ (pv 0) (@pa_cons _ _ _ _ _ (@xh _ _ (.ty "bool") _ _ rfl B.bool bo_bool rfl (by decide) (by decide)) pa_nil (by rfl)) (by rfl)) (by decide) (by decide) (by rfl) (by rfl)))))))),?_⟩
 rw [show zp ["_law_thing"] [v]=[some (v)] from rfl]
 try walk_at "WP"
 refine cell_int hc (fun z1 z2=>?_) (fun ⟨b,e⟩=>?_) (fun z=>?_)
 ·try walk_at "WP"
  rw [z1] at q
  exact q
 ·subst e
  try walk_at "WP"
  exact q
 ·cases v with
  | int i =>
   try walk_at "WP"
   exact q
  | _=>cases z
theorem ok_lmoved4 (T:Txt K mg):Cal P w K mg base 1 "_law_moved" ["_law_row","_law_shift_here"] spLMoved4B:=by
 have B:=T.bl
 refine yD T.t_l_moved zAu (fun vs H Q E h=>?_) (fun f cdv A outer s H vs Q E hr h=>?_)
 ·obtain ⟨l,xs,sh,rfl,_⟩:=h
  rfl
 obtain ⟨l,xs,sh,rfl,hl,hlen,hb,s0,s1,q⟩:=h
 refine ⟨_,((@pss_cons _ _ _ _ _ (@ps_if _ _ _ _ _ _ _ _ (@pt_cmpR _ _ _ _ _ _ _ _ op_ge (pv 1) pe_int (@nomark _ _ (by decide) (by decide))) (@pss_one _ _ _ (@ps_ret _ _ _ _ (@yE _ _ _ _ _ _ _ _ (["_law_part_here","_law_shift_here"]) (1) ([1]) _ _ _ rfl (@pi_list _ _ _ _ (pv 0)) (fun nd C s H fp=>⟨(@pg_name _ _ (0) _ nd rfl (by walk_at "o") (by walk_at "o")),yf,(@pe_op _ _ _ _ _ _ _ _ JP (pv 0) (pv 1))⟩) (by decide +kernel) (by first | rfl | decide +kernel) (by first | rfl | decide +kernel) rfl (fun _=>rfl)))) pss_nil) (@pss_one _ _ _ (@ps_ret _ _ _ _ (@yE _ _ _ _ _ _ _ _ (["_law_part_here","_law_shift_here"]) (1) ([1]) _ _ _ rfl (@pi_list _ _ _ _ (pv 0)) (fun nd C s H fp=>⟨(@pg_name _ _ (0) _ nd rfl (by walk_at "o") (by walk_at "o")),yf,(@pe_op _ _ _ _ _ _ _ _ op_shr (pv 0) (@pe_un _ _ _ _ _ _ un_neg (pv 1)))⟩) (by decide +kernel) (by first | rfl | decide +kernel) (by first | rfl | decide +kernel) rfl (fun _=>rfl)))))),?_⟩
 rw [show zp ["_law_row","_law_shift_here"] [.ref l,.int sh]=[some (.ref l),some (.int sh)] from rfl]
 try walk_at "WP"
 have ecap:yY [1] [some (V.ref l),some (V.int sh)]=[some (V.int sh)]:=rfl
 refine y8 (fun z=>?_) (fun z=>?_)
 ·refine ⟨⟨_,SqL.of hl⟩,?_⟩
  refine zAS (f:=liI (mvI sh)) (SqL.of hl) (by rw [qC]; exact Jp (by omega)) (fun y H' R hy hS' hR=>?_) (fun acc hacc=>?_)
  ·obtain ⟨n,hn,rfl⟩:=qP.mp hy
   rw [ecap]
   try walk_at "WP"
   refine ⟨⟨by omega,by omega,zD (Jy (hb n hn)) (by decide)⟩,?_⟩
   rw [← mvI_up z]
   exact hR
  rw [J6]
  exact q acc _ hacc (zV hacc _) zL
 ·refine ⟨⟨_,SqL.of hl⟩,?_⟩
  refine zAS (f:=liI (mvI sh)) (SqL.of hl) (by rw [qC]; exact Jp (by omega)) (fun y H' R hy hS' hR=>?_) (fun acc hacc=>?_)
  ·obtain ⟨n,hn,rfl⟩:=qP.mp hy
   rw [ecap]
   try walk_at "WP"
   refine ⟨by omega,?_⟩
   rw [← J8 (by omega)]
   exact hR
  rw [J6]
  exact q acc _ hacc (zV hacc _) zL
theorem ok_lpartC (T:Txt K mg):Cal P w K mg base 2 "_law_part" ["_law_rows","_law_thing","_law_shift_here"] spLPartCB:=by
 have B:=T.bl
 have C_l_whole:=ok_lwh (P:=P) (w:=w) (base:=base) T
 have C_l_moved:=ok_lmoved4 (P:=P) (w:=w) (base:=base) T
 refine yD T.t_l_part sc_l_part (fun vs H Q E h=>?_) (fun f cdv A outer s H vs Q E hr h=>?_)
 ·obtain ⟨_,_,_,_,_,rfl,_⟩:=h
  rfl
 obtain ⟨l,a,s',ys,rs,rfl,hl,hrs,ca,cs,rb,qN,qS⟩:=h
 refine ⟨_,((@pss_cons _ _ _ _ _ (@ps_if _ _ _ _ _ _ _ _ (@PW.pt _ _ _ (@pw_or _ _ _ _ _ _ _ (@pt_not _ _ _ _ (@pt_val _ _ _ (@pe_cal _ _ _ _ _ _ _ _ _ _ C_l_whole hr rfl (@pa_cons _ _ _ _ _ (pv 1) pa_nil (by rfl)) (by decide) (by rfl) (by rfl)) (by intro _ ; rfl))) (@pw_or1 _ _ _ _ (@pt_not _ _ _ _ (@pt_chain _ _ _ _ _ _ _ _ _ _ _ _ op_le op_lt pe_int (pv 1) (@pe_callB _ _ _ _ _ _ _ _ _ call_lenM rfl B.len bo_len (@pa_cons _ _ _ _ _ (pv 0) pa_nil (by rfl)) (by decide) (by decide) (by rfl) (by rfl)) (by with_unfolding_all rfl)))))) (@pss_one _ _ _ (@ps_ret _ _ _ _ pe_non)) pss_nil) (@pss_cons _ _ _ _ _ (@ps_if _ _ _ _ _ _ _ _ (@PW.pt _ _ _ (@pw_or _ _ _ _ _ _ _ (@pt_not _ _ _ _ (@pt_val _ _ _ (@pe_cal _ _ _ _ _ _ _ _ _ _ C_l_whole hr rfl (@pa_cons _ _ _ _ _ (pv 2) pa_nil (by rfl)) (by decide) (by rfl) (by rfl)) (by intro _ ; rfl))) (@pw_or1 _ _ _ _ (@pt_not _ _ _ _ (@pt_chain _ _ _ _ _ _ _ _ _ _ _ _ op_le op_le (@pe_un _ _ _ _ _ _ un_neg pe_int) (pv 2) pe_int (by with_unfolding_all rfl)))))) (@pss_one _ _ _ (@ps_ret _ _ _ _ pe_non)) pss_nil) (@pss_cons _ _ _ _ _ (@ps_if _ _ _ _ _ _ _ _ (@PW.pt _ _ _ (@pw_and _ _ _ _ _ _ _ (@pt_cmpR _ _ _ _ _ _ _ _ op_lt (pv 2) pe_int (@nomark _ _ (by decide) (by decide))) (@pw_and1 _ _ _ _ (@pt_val _ _ _ (@pe_callB _ _ _ _ _ _ _ _ _ (@call_any _ rfl) rfl B.any bo_any (@pa_cons _ _ _ _ _ (@yE _ _ _ _ _ _ _ _ (["_law_part_here","_law_shift_here"]) (1) ([2]) _ _ _ rfl (@pi_list _ _ _ _ (@pe_ix _ _ _ _ _ _ _ ix_M (pv 0) (pv 1) (fun _ _=>rfl))) (fun nd C s H fp=>⟨(@pg_name _ _ (0) _ nd rfl (by walk_at "o") (by walk_at "o")),yf,(@pe_cmpR _ _ _ _ _ _ _ _ op_ne (@pe_op _ _ _ _ _ _ _ _ op_mod (pv 0) (@pe_op _ _ _ _ _ _ _ _ JP pe_int (@pe_un _ _ _ _ _ _ un_neg (pv 1)))) pe_int (@nomark _ _ (by decide) (by decide)))⟩) (by decide +kernel) (by first | rfl | decide +kernel) (by first | rfl | decide +kernel) rfl (fun _=>rfl)) pa_nil (by rfl)) (by decide) (by decide) (by rfl) (by rfl)) (by intro _ ; rfl))))) (@pss_one _ _ _ (@ps_ret _ _ _ _ pe_non)) pss_nil) (@pss_one _ _ _ (@ps_ret _ _ _ _ (@pe_cal _ _ _ _ _ _ _ _ _ _ C_l_moved hr rfl (@pa_cons _ _ _ _ _ (@pe_ix _ _ _ _ _ _ _ ix_M (pv 0) (pv 1) (fun _ _=>rfl)) (@pa_cons _ _ _ _ _ (pv 2) pa_nil (by rfl)) (by rfl)) (by decide) (by rfl) (by rfl)))))))),?_⟩
 rw [show zp ["_law_rows","_law_thing","_law_shift_here"] [.ref l,a,s']=[some (.ref l),some (a),some (s')] from rfl]
 (iterate 5 ((try (walk_at "WP")); (try (simp only [hl,qJs,qJt,qJl,qJd,exists_eq_left',exists_eq_left])))); (try (walk_at "WP"))
 refine ⟨a,rfl,ca,_,rfl,?_⟩
 have no:(¬ ∃ (k:Nat) (y:Int),a = .int k /\ s' = .int y /\ k < rs.length /\ Sh4 y (rs.getD k [])) -> ∀ H',Same H H' -> Q .non H':=fun h=>qN (Bool.eq_false_iff.mpr fun g=>h (partB_iff.mp g))
 by_cases b0:isWh a=true
 ·obtain ⟨x,rfl⟩:=x8 b0
  rw [b0,if_neg (by decide)]
  (iterate 5 ((try (walk_at "WP")); (try (simp only [hl,qJs,qJt,qJl,qJd,exists_eq_left',exists_eq_left])))); (try (walk_at "WP"))
  refine y8 (fun z0=>?_) (fun z0=>?_)
  ·refine y8 (fun z1=>?_) (fun z1=>?_)
   ·exact no (by rintro ⟨k,y,e1,_,hk,_⟩; cases e1; rw [hrs.len] at z1; omega) _ (Same.refl _)
   ·refine ⟨s',rfl,cs,_,rfl,?_⟩
    by_cases b1:isWh s'=true
    ·obtain ⟨y,rfl⟩:=x8 b1
     rw [b1,if_neg (by decide)]
     obtain ⟨k,rfl⟩:∃ k:Nat,x=(k:Int):=⟨x.toNat,by omega⟩
     have hk:k < rs.length:=by rw [← hrs.len]; omega
     obtain ⟨p,row,er,ep,hp,hm,hne⟩:=zAX hrs hk
     have eg:rs.getD k []=row:=by rw [qD,er]; rfl
     have qS':=qS k y rfl rfl hk
     rw [eg] at qS'
     have lr:=(rb _ hm).1
     have br:=rb.ltB hm (by decide)
     (iterate 5 ((try (walk_at "WP")); (try (simp only [hl,qJs,qJt,qJl,qJd,exists_eq_left',exists_eq_left])))); (try (walk_at "WP"))
     refine y8 (fun y0=>?_) (fun y0=>?_)
     ·refine y8 (fun y1=>?_) (fun y1=>?_)
      ·exact no (by rintro ⟨k',y',e1,e2,_,h3,h4,_⟩; cases e2; omega) _ (Same.refl _)
      ·refine y8 (fun y2=>?_) (fun y2=>?_)
       ·refine ⟨_,ep,p,rfl,⟨_,SqL.of hp⟩,?_⟩
        refine zAS (f:=fun v=>match v with | .int n=>some (V.bl (!decide (n % 2 ^ (-y).toNat=0))) | _=>none) (SqL.of hp) (by rw [qC]; exact Jp (by omega)) (fun u H' R hu hS' hR=>?_) (fun acc hacc=>?_)
        ·obtain ⟨n,hn,rfl⟩:=qP.mp hu
         rw [show yY [2] [some (V.ref l),some (V.int (k:Int)),some (V.int y)]=[some (V.int y)] from rfl]
         try walk_at "WP"
         refine ⟨⟨by omega,by omega⟩,by have:=J2 (-y).toNat; omega,?_⟩
         rw [Int.one_mul]
         exact hR
        have eb:(row.map V.int).filterMap (fun v=>match v with | .int n=>some (V.bl (!decide (n % 2 ^ (-y).toNat=0))) | _=>none)=(row.map fun n=>!decide (n % 2 ^ (-y).toNat=0)).map V.bl:=by
         rw [jj,List.map_map,← yz]
         rfl
        rw [eb]
        have sa:=zV hacc (.lst ((row.map fun n=>!decide (n % 2 ^ (-y).toNat=0)).map V.bl))
        have ha:(upd H acc (.lst ((row.map fun n=>!decide (n % 2 ^ (-y).toNat=0)).map V.bl))) acc=some (.lst ((row.map fun n=>!decide (n % 2 ^ (-y).toNat=0)).map V.bl)):=zL
        generalize upd H acc (.lst ((row.map fun n=>!decide (n % 2 ^ (-y).toNat=0)).map V.bl))=H3 at sa ha ⊢
        refine ⟨acc,_,rfl,ha,_,rfl,?_⟩
        by_cases z:((row.map fun n=>!decide (n % 2 ^ (-y).toNat=0)).any id)=true
        ·rw [if_pos z]
         refine no ?_ _ sa
         rintro ⟨k',y',e1,e2,_,_,_,hd⟩
         cases e1
         cases e2
         obtain ⟨b,hb,hb2⟩:=jO.mp z
         obtain ⟨n,hn,rfl⟩:=qP.mp hb
         rw [eg] at hd
         have:=Int.emod_eq_zero_of_dvd (hd y2 n hn)
         rw [decide_eq_true this] at hb2
         cases hb2
        ·rw [if_neg z]
         refine ⟨ys,sa _ _ hl,_,ep,?_⟩
         have hd:Dv y row:=fun _ n hn=>by
          have hz:¬ (!decide (n % 2 ^ (-y).toNat=0))=true:=fun h=>z (jO.mpr ⟨_,qP.mpr ⟨n,hn,rfl⟩,h⟩)
          rw [xI,decide_eq_false_iff_not,Decidable.not_not] at hz
          exact Int.dvd_of_emod_eq_zero hz
         exact ⟨p,row,y,rfl,sa _ _ hp,by omega,br,y0,by omega,fun r H' nr s1 h1=>qS' ⟨y0,by omega,hd⟩ r H' (sa.free nr) (sa.trans s1) h1⟩
       ·refine ⟨_,ep,?_⟩
        exact ⟨p,row,y,rfl,hp,by omega,br,y0,by omega,fun r H' nr s1 h1=>qS' ⟨y0,by omega,fun z=>absurd z y2⟩ r H' nr s1 h1⟩
     ·exact no (by rintro ⟨k',y',e1,e2,_,h3,h4,_⟩; cases e2; omega) _ (Same.refl _)
    ·rw [Bool.eq_false_iff.mpr b1,if_pos rfl]
     exact no (by rintro ⟨k',y',e1,e2,_⟩; rw [e2] at b1; exact b1 rfl) _ (Same.refl _)
  ·exact no (by rintro ⟨k,y,e1,_⟩; cases e1; omega) _ (Same.refl _)
 ·rw [Bool.eq_false_iff.mpr b0,if_pos rfl]
  exact no (by rintro ⟨k',y',e1,_⟩; rw [e1] at b0; exact b0 rfl) _ (Same.refl _)
theorem ok_lmadeC (T:Txt K mg):Cal P w K mg base 3 "_law_made_row" ["_law_rows","_law_deed"] (spLMadeCB K):=by
 have B:=T.bl
 have C_l_part:=ok_lpartC (P:=P) (w:=w) (base:=base) T
 refine yD T.t_l_made_row sc_l_made_row (fun vs H Q E h=>?_) (fun f cdv A outer s H vs Q E hr h=>?_)
 ·obtain ⟨_,_,_,_,_,_,rfl,_⟩:=h
  rfl
 obtain ⟨l,v,c,ys,rs,n,rfl,hl,hrs,hv,rb,wd,n12,qN,qS⟩:=h
 refine ⟨_,((@pss_cons _ _ _ _ _ (@ps_if _ _ _ _ _ _ _ _ (@PW.pt _ _ _ (@pw_or _ _ _ _ _ _ _ (@pt_not _ _ _ _ (@pt_val _ _ _ (@pe_callB _ _ _ _ _ _ _ _ _ JX rfl B.isinstance zw (@pa_cons _ _ _ _ _ (pv 1) (@pa_cons _ _ _ _ _ (@xh _ _ (.ty "tuple") _ _ rfl B.tuple jk rfl (by decide) (by decide)) pa_nil (by rfl)) (by rfl)) (by decide) (by decide) (by rfl) (by rfl)) (by intro _ ; rfl))) (@pw_or _ _ _ _ _ _ _ (@pt_cmpR _ _ _ _ _ _ _ _ op_ne (@pe_callB _ _ _ _ _ _ _ _ _ call_len_seq rfl B.len bo_len (@pa_cons _ _ _ _ _ (pv 1) pa_nil (by rfl)) (by decide) (by decide) (by rfl) (by rfl)) pe_int (@nomark _ _ (by decide) (by decide))) (@pw_or1 _ _ _ _ (@pt_not _ _ _ _ (@pt_val _ _ _ (@pe_callB _ _ _ _ _ _ _ _ _ x4 rfl B.isinstance zw (@pa_cons _ _ _ _ _ (@pe_ix _ _ _ _ _ _ _ ix_tup (pv 1) pe_int (fun _ _=>rfl)) (@pa_cons _ _ _ _ _ (@xh _ _ (.ty "str") _ _ rfl B.str Jn rfl (by decide) (by decide)) pa_nil (by rfl)) (by rfl)) (by decide) (by decide) (by rfl) (by rfl)) (by intro _ ; rfl))))))) (@pss_one _ _ _ (@ps_ret _ _ _ _ pe_non)) pss_nil) (@pss_cons _ _ _ _ _ (@ps_set _ _ (2) _ _ _ _ sc_l_made_row.nd rfl (by walk_at "o") (@pe_cal _ _ _ _ _ _ _ _ _ _ C_l_part hr rfl (@pa_cons _ _ _ _ _ (pv 0) (@pa_cons _ _ _ _ _ (@pe_ix _ _ _ _ _ _ _ ix_tup (pv 1) pe_int (fun _ _=>rfl)) (@pa_cons _ _ _ _ _ (@pe_ix _ _ _ _ _ _ _ ix_tup (pv 1) pe_int (fun _ _=>rfl)) pa_nil (by rfl)) (by rfl)) (by rfl)) (by decide) (by rfl) (by rfl)) (by rfl) (by walk_at "o")) (@pss_cons _ _ _ _ _ (@ps_set _ _ (3) _ _ _ _ sc_l_made_row.nd rfl (by walk_at "o") (@pe_cal _ _ _ _ _ _ _ _ _ _ C_l_part hr rfl (@pa_cons _ _ _ _ _ (pv 0) (@pa_cons _ _ _ _ _ (@pe_ix _ _ _ _ _ _ _ ix_tup (pv 1) pe_int (fun _ _=>rfl)) (@pa_cons _ _ _ _ _ (@pe_ix _ _ _ _ _ _ _ ix_tup (pv 1) pe_int (fun _ _=>rfl)) pa_nil (by rfl)) (by rfl)) (by rfl)) (by decide) (by rfl) (by rfl)) (by rfl) (by walk_at "o")) (@pss_cons _ _ _ _ _ (@ps_if _ _ _ _ _ _ _ _ (@PW.pt _ _ _ (@pw_or _ _ _ _ _ _ _ (@yu _ _ _ _ _ _ (@xJ _ _ _ _ _ (pv 2)) (by first | exact zv _ ( by decide ) ( by decide ) | rfl)) (@pw_or _ _ _ _ _ _ _ (@yu _ _ _ _ _ _ (@xJ _ _ _ _ _ (pv 3)) (by first | exact zv _ ( by decide ) ( by decide ) | rfl)) (@pw_or1 _ _ _ _ (@pt_cmpR _ _ _ _ _ _ _ _ op_notIn_seq (@pe_ix _ _ _ _ _ _ _ ix_tup (pv 1) pe_int (fun _ _=>rfl)) (@pe_tup _ _ _ _ _ (@pa_cons _ _ _ _ _ pe_str (@pa_cons _ _ _ _ _ pe_str pa_nil (by rfl)) (by rfl))) (by with_unfolding_all rfl)))))) (@pss_one _ _ _ (@ps_ret _ _ _ _ pe_non)) pss_nil) (@pss_cons _ _ _ _ _ (@ps_set _ _ (4) _ _ _ _ sc_l_made_row.nd rfl (by walk_at "o") (@pe_ix _ _ _ _ _ _ _ ix_M (@pe_lst _ _ _ _ (@pa_cons _ _ _ _ _ (@pe_un _ _ _ _ _ _ un_neg pe_int) (@pa_cons _ _ _ _ _ pe_int pa_nil (by rfl)) (by rfl))) (@zr _ _ _ _ _ _ _ _ _ y3 rfl B.int xi (@pa_cons _ _ _ _ _ (@pe_cmpR _ _ _ _ _ _ _ _ op_eq (@pe_ix _ _ _ _ _ _ _ ix_tup (pv 1) pe_int (fun _ _=>rfl)) pe_str (@nomark _ _ (by decide) (by decide))) pa_nil (by rfl)) (by decide) (by decide) (by rfl) (by rfl)) (fun _ _=>rfl)) (by rfl) (by walk_at "o")) (@pss_one _ _ _ (@ps_ret _ _ _ _ (@yE _ _ _ _ _ _ _ _ (["_law_first","_law_second","_law_sign"]) (2) ([4]) _ _ _ rfl (@pi_zip _ _ _ _ _ _ _ _ _ rfl B.zip (@pa_cons _ _ _ _ _ (pv 2) (@pa_cons _ _ _ _ _ (pv 3) pa_nil (by rfl)) (by rfl)) (by rfl) (by rfl)) (fun nd C s H fp=>⟨(@jY _ _ _ _ _ 2 rfl (@zz _ _ _ _ _ (@pg_name _ _ (0) _ nd rfl (by walk_at "o") (by walk_at "o")) (@zz _ _ _ _ _ (@pg_name _ _ (1) _ nd rfl (by walk_at "o") (by walk_at "o")) jW (by rfl)) (by rfl)) (by rfl) (by rfl)),yf,(@pe_op _ _ _ _ _ _ _ _ op_add (pv 0) (@pe_op _ _ _ _ _ _ _ _ yR (pv 2) (pv 1)))⟩) (by decide +kernel) (by first | rfl | decide +kernel) (by first | rfl | decide +kernel) rfl (fun _=>rfl)))))))))),?_⟩
 rw [show zp ["_law_rows","_law_deed","_law_one","_law_other","_law_sign"] [.ref l,v]=[some (.ref l),some (v),none,none,none] from rfl]
 (iterate 5 ((try (walk_at "WP")); (try (simp only [hl,qJs,qJt,qJl,qJd,exists_eq_left',exists_eq_left])))); (try (walk_at "WP"))
 refine itm_tup hv ?_
 cases c with
 | none=>exact ⟨false,rfl,by rw [if_pos rfl]; exact qN rfl H (Same.refl H)⟩
 | some c =>
  obtain ⟨p,rfl,hp,hc⟩:=hv
  refine ⟨true,rfl,?_⟩
  rw [if_neg (by decide)]
  refine ⟨p,rfl,c,.inr hp,?_⟩
  by_cases z:c.length=5
  ·rw [if_neg (fun n=>n (by rw [z]; rfl))]
   match c,z,hp,hc,qN,qS with
   | [w0,a,s0,b,t0],_,hp,hc,qN,qS =>
    rw [zAB] at qN qS
    refine ⟨p,_,0,w0,rfl,rfl,hp,rfl,?_⟩
    refine cell_str (hc w0 (by simp)) (fun h=>⟨false,rfl,?_⟩) (fun ⟨x,e⟩=>⟨true,rfl,?_⟩)
    ·rw [if_pos rfl]
     refine qN ?_ H (Same.refl H)
     cases w0 with
     | str x=>exact absurd rfl (h x)
     | _=>rfl
    subst e
    rw [if_neg (by decide)]
    refine ⟨p,_,1,a,rfl,rfl,hp,rfl,p,_,2,s0,rfl,rfl,hp,rfl,?_⟩
    refine ⟨l,a,s0,ys,rs,rfl,hl,hrs,hc a (by simp),hc s0 (by simp),rb,fun na H1 s1=>?_,fun k y e1 e2 hk hs r1 H1 n1 s1 h1=>?_⟩
    ·refine ⟨p,_,3,b,rfl,rfl,s1.seqT hp,rfl,p,_,4,t0,rfl,rfl,s1.seqT hp,rfl,?_⟩
     rw [na,Bool.and_false,Bool.false_and] at qN
     refine ⟨l,b,t0,ys,rs,rfl,s1 _ _ hl,hrs.same s1,(hc b (by simp)).same s1,(hc t0 (by simp)).same s1,rb,fun nb H2 s2=>?_,fun k y e1 e2 hk hs r1 H2 n1 s2 h1=>?_⟩
     ·dsimp only
      rw [if_pos rfl]
      exact qN rfl _ (s1.trans s2)
     ·dsimp only
      rw [if_pos rfl]
      exact qN rfl _ (s1.trans s2)
    subst e1
    subst e2
    have pa:xF rs (.int k) (.int y)=true:=partB_iff.mpr ⟨k,y,rfl,rfl,hk,hs⟩
    rw [pa,Bool.and_true] at qN qS
    refine ⟨p,_,3,b,rfl,rfl,s1.seqT hp,rfl,p,_,4,t0,rfl,rfl,s1.seqT hp,rfl,?_⟩
    refine ⟨l,b,t0,ys,rs,rfl,s1 _ _ hl,hrs.same s1,(hc b (by simp)).same s1,(hc t0 (by simp)).same s1,rb,fun nb H2 s2=>?_,fun m z e1 e2 hm ht r2 H2 n2 s2 h2=>?_⟩
    ·dsimp only
     rw [if_neg (by intro z; cases z),if_pos rfl]
     rw [nb,Bool.and_false] at qN
     exact qN rfl _ (s1.trans s2)
    subst e1
    subst e2
    have pb:xF rs (.int m) (.int z)=true:=partB_iff.mpr ⟨m,z,rfl,rfl,hm,ht⟩
    rw [pb,Bool.and_true] at qN qS
    have s12:=s1.trans s2
    rw [if_neg (by intro z; cases z),if_neg (by intro z; cases z)]
    refine ⟨p,_,0,.str x,rfl,rfl,s12.seqT hp,rfl,fun tp ntp=>?_⟩
    have s3:=zV ntp (.tup [V.str (Str.ofString "sum"),.str (Str.ofString "less")])
    refine in_tup zL rfl rfl ?_
    rw [if_pos rfl,inV_C]
    generalize upd H2 tp (.tup [V.str (Str.ofString "sum"),.str (Str.ofString "less")])=H3 at s3 ⊢
    have s13:=s12.trans s3
    refine ⟨_,rfl,?_⟩
    cases b1:inC (Str.ofString "sum") (Str.ofString "less") (.str x) with
    | false =>
     rw [if_pos (show (!false)=true from rfl)]
     exact qN b1 _ s13
    | true =>
     rw [if_neg (by decide)]
     intro e3 ne3
     have s4:=zV ne3 (.lst [V.int (-1),V.int 1])
     have he3:upd H3 e3 (.lst [V.int (-1),V.int 1]) e3=some (.lst [V.int (-1),V.int 1]):=zL
     generalize upd H3 e3 (.lst [V.int (-1),V.int 1])=H4 at s4 he3 ⊢
     have s14:=s13.trans s4
     refine ⟨p,_,0,.str x,rfl,rfl,s14.seqT hp,rfl,?_⟩
     (iterate 5 ((try (walk_at "WP")); (try (simp only [he3,qJs,qJt,qJl,qJd,exists_eq_left',exists_eq_left])))); (try (walk_at "WP"))
     have hx:x=Str.ofString "sum" \/ x=Str.ofString "less":=of_decide_eq_true b1
     have at3:atI [V.int (-1),V.int 1] (if x=Str.ofString "sum" then 1 else 0)=some (.int (sgW x)):=by
      rcases hx with e | e
      ·rw [if_pos e,e]
       rfl
      ·rw [e,if_neg (by decide)]
       rfl
     refine ⟨_,at3,?_⟩
     have h1':=s4 _ _ (s3 _ _ (s2 _ _ h1))
     have h2':=s4 _ _ (s3 _ _ h2)
     refine ⟨r1,r2,⟨rfl,rfl⟩,_,SqL.of h1',_,SqL.of h2',?_⟩
     have hg:sgW x=1 \/ sgW x = -1:=by
      unfold sgW
      split
      ·exact .inr rfl
      ·exact .inl rfl
     have ek:rs[k]? = some (rs.getD k []):=by rw [qD,qA hk]; rfl
     have em:rs[m]? = some (rs.getD m []):=by rw [qD,qA hm]; rfl
     have hla:=wd _ (qE ek)
     have hlb:=wd _ (qE em)
     have ew:rowC rs (some [V.str x,.int k,.int y,.int m,.int z])=rowD rs ⟨x,k,y,m,z⟩:=rowC_w (d:=⟨x,k,y,m,z⟩)
     rw [ew] at qS
     refine comp_zip (SqL.of h1') (SqL.of h2') (by simp only [qC]; omega) (by simp only [qC]; omega) ((rowD rs ⟨x,k,y,m,z⟩).map V.int) (by unfold rowD; simp only [qC,jV]; omega) (fun i u v' z' H' R hu hv hz s' hR=>?_) (fun acc H5 n5 s5 h5=>?_)
     ·rw [show yY [4] [some (V.ref l),some (V.ref p),some (V.ref r1),some (V.ref r2),some (V.int (sgW x))]=[some (V.int (sgW x))] from rfl]
      obtain ⟨x',hx2,rfl⟩:=zAT hu
      obtain ⟨y',hy2,rfl⟩:=zAT hv
      obtain ⟨w',hz2,rfl⟩:=zAT hz
      have ez:w'=x'+sgW x * y':=by
       unfold rowD at hz2
       rw [qI] at hx2 hy2
       rw [yV] at hz2
       cases q1:(rs.getD k [])[i]? with
       | none=>rw [q1] at hx2; cases hx2
       | some p1 =>
        cases q2:(rs.getD m [])[i]? with
        | none=>rw [q2] at hy2; cases hy2
        | some p2 =>
         rw [q1] at hx2 hz2
         rw [q2] at hy2 hz2
         cases hx2
         cases hy2
         cases hz2
         rfl
      subst ez
      rw [jN,jN,List.nil_append]
      try walk_at "WP"
      exact ⟨x5 (by omega) (by omega),hR⟩
     ·exact qS b1 acc H5 (s14.free n5) (s14.trans s5) h5
  ·rw [if_pos (fun n=>z (by exact_mod_cast n))]
   have e:yU rs (some c)=false:=by
    unfold yU
    split
    ·rename_i z2
     cases z2
     exact absurd rfl z
    ·rfl
   exact qN e _ (Same.refl _)
theorem ok_loutC (T:Txt K mg):Cal P w K mg base 3 "_law_is_out" ["_law_rows","_law_out"] (spLOutCB K):=by
 have B:=T.bl
 have C_l_part:=ok_lpartC (P:=P) (w:=w) (base:=base) T
 have C_l_whole:=(ok_lwh (P:=P) (w:=w) (base:=base) T).mono (k:=2) (by decide)
 refine yD T.t_l_is_out sc_l_is_out (fun vs H Q E h=>?_) (fun f cdv A outer s H vs Q E hr h=>?_)
 ·obtain ⟨_,_,_,_,_,rfl,_⟩:=h
  rfl
 obtain ⟨l,v,c,ys,rs,rfl,hl,hrs,hv,rb,q⟩:=h
 refine ⟨_,((@pss_cons _ _ _ _ _ (@ps_if _ _ _ _ _ _ _ _ (@PW.pt _ _ _ (@pw_or _ _ _ _ _ _ _ (@pt_not _ _ _ _ (@pt_val _ _ _ (@pe_callB _ _ _ _ _ _ _ _ _ JX rfl B.isinstance zw (@pa_cons _ _ _ _ _ (pv 1) (@pa_cons _ _ _ _ _ (@xh _ _ (.ty "tuple") _ _ rfl B.tuple jk rfl (by decide) (by decide)) pa_nil (by rfl)) (by rfl)) (by decide) (by decide) (by rfl) (by rfl)) (by intro _ ; rfl))) (@pw_or _ _ _ _ _ _ _ (@pt_cmpR _ _ _ _ _ _ _ _ op_ne (@pe_callB _ _ _ _ _ _ _ _ _ call_len_seq rfl B.len bo_len (@pa_cons _ _ _ _ _ (pv 1) pa_nil (by rfl)) (by decide) (by decide) (by rfl) (by rfl)) pe_int (@nomark _ _ (by decide) (by decide))) (@pw_or1 _ _ _ _ (@pt_not _ _ _ _ (@pt_val _ _ _ (@pe_callB _ _ _ _ _ _ _ _ _ (@call_all _ rfl) rfl B.all bo_all (@pa_cons _ _ _ _ _ (@yE _ _ _ _ _ _ _ _ (["_law_part_here"]) (1) ([]) _ _ _ rfl (@pi_tup _ _ _ _ (pv 1)) (fun nd C s H fp=>⟨(@pg_name _ _ (0) _ nd rfl (by walk_at "o") (by walk_at "o")),yf,(@pe_cal _ _ _ _ _ _ _ _ _ _ C_l_whole hr rfl (@pa_cons _ _ _ _ _ (pv 0) pa_nil (by rfl)) (by decide) (by rfl) (by rfl))⟩) (by decide +kernel) (by first | rfl | decide +kernel) (by first | rfl | decide +kernel) rfl (fun _=>rfl)) pa_nil (by rfl)) (by decide) (by decide) (by rfl) (by rfl)) (by intro _ ; rfl))))))) (@pss_one _ _ _ (@ps_ret _ _ _ _ pe_bl)) pss_nil) (@pss_cons _ _ _ _ _ (@ps_if _ _ _ _ _ _ _ _ (@pt_cmpR _ _ _ _ _ _ _ _ op_eq (@pe_ix _ _ _ _ _ _ _ ix_tup (pv 1) pe_int (fun _ _=>rfl)) pe_int (@nomark _ _ (by decide) (by decide))) (@pss_one _ _ _ (@ps_ret _ _ _ _ (@j4 _ _ _ _ _ _ _ (@pe_cmpR _ _ _ _ _ _ _ _ op_eq (@pe_ix _ _ _ _ _ _ _ ix_tup (pv 1) pe_int (fun _ _=>rfl)) pe_int (@nomark _ _ (by decide) (by decide))) (@j3 _ _ _ _ _ (@pe_cmpR _ _ _ _ _ _ _ _ op_eq (@pe_ix _ _ _ _ _ _ _ ix_tup (pv 1) pe_int (fun _ _=>rfl)) pe_int (@nomark _ _ (by decide) (by decide))))))) pss_nil) (@pss_one _ _ _ (@ps_ret _ _ _ _ (@j4 _ _ _ _ _ _ _ (@pe_cmpR _ _ _ _ _ _ _ _ zAN (@pe_ix _ _ _ _ _ _ _ ix_tup (pv 1) pe_int (fun _ _=>rfl)) (@pe_tup _ _ _ _ _ (@pa_cons _ _ _ _ _ pe_int (@pa_cons _ _ _ _ _ (@pe_un _ _ _ _ _ _ un_neg pe_int) pa_nil (by rfl)) (by rfl))) (by with_unfolding_all rfl)) (@j3 _ _ _ _ _ (@pe_cmp _ _ _ _ _ _ (@pc_notN _ _ _ _ _ (@pe_cal _ _ _ _ _ _ _ _ _ _ C_l_part hr rfl (@pa_cons _ _ _ _ _ (pv 0) (@pa_cons _ _ _ _ _ (@pe_ix _ _ _ _ _ _ _ ix_tup (pv 1) pe_int (fun _ _=>rfl)) (@pa_cons _ _ _ _ _ (@pe_ix _ _ _ _ _ _ _ ix_tup (pv 1) pe_int (fun _ _=>rfl)) pa_nil (by rfl)) (by rfl)) (by rfl)) (by decide) (by rfl) (by rfl))) (by first | exact zv _ ( by decide ) ( by decide ) | rfl))))))))),?_⟩
 rw [show zp ["_law_rows","_law_out"] [.ref l,v]=[some (.ref l),some (v)] from rfl]
 (iterate 5 ((try (walk_at "WP")); (try (simp only [hl,qJs,qJt,qJl,qJd,exists_eq_left',exists_eq_left])))); (try (walk_at "WP"))
 refine itm_tup hv ?_
 cases c with
 | none=>exact ⟨false,rfl,by rw [if_pos rfl]; exact q H (Same.refl H)⟩
 | some c =>
  obtain ⟨p,rfl,hp,hc⟩:=hv
  refine ⟨true,rfl,?_⟩
  rw [if_neg (by decide)]
  refine ⟨p,rfl,c,.inr hp,?_⟩
  by_cases z:c.length=3
  ·rw [if_neg (fun n=>n (by rw [z]; rfl))]
   match c,z,hp,hc,q with
   | [a,s0,g],_,hp,hc,q =>
    refine ⟨p,rfl,⟨_,hp⟩,?_⟩
    refine comp_T (f:=fun x=>some (.bl (isWh x))) hp (zg (by simp)) (fun y H1 R hy s1 hR=>?_) (fun acc hacc=>?_)
    ·try walk_at "WP"
     exact ⟨y,rfl,(hc y hy).same s1,hR⟩
    ·have s1:=zV hacc (.lst ([a,s0,g].filterMap fun x=>some (.bl (isWh x))))
     refine ⟨acc,[isWh a,isWh s0,isWh g],rfl,zL,_,rfl,?_⟩
     have e:([isWh a,isWh s0,isWh g].all id)=(isWh a && isWh s0 && isWh g):=by
      cases isWh a <;> cases isWh s0 <;> cases isWh g <;> rfl
     rw [e]
     cases b1:(isWh a && isWh s0 && isWh g) with
     | false =>
      rw [if_pos rfl]
      have e:xg rs (some [a,s0,g])=false:=by rw [JJ,b1]; rfl
      rw [e] at q
      exact q _ s1
     | true =>
      rw [if_neg (by decide)]
      have e:xg rs (some [a,s0,g])=(decide ([a,s0,g]=[.int 0,.int 0,.int 0]) || (inV g [.int 1,.int (-1)] && xF rs a s0)):=by rw [JJ,b1]; rfl
      rw [e] at q
      rw [zB,zB] at b1
      obtain ⟨x,rfl⟩:=x8 b1.1.1
      obtain ⟨y,rfl⟩:=x8 b1.1.2
      obtain ⟨m,rfl⟩:=x8 b1.2
      have e2:decide ([V.int x,.int y,.int m]=[.int 0,.int 0,.int 0])=decide (x=0 /\ y=0 /\ m=0):=by
       rw [decide_eq_decide]
       constructor
       ·intro h; simp only [List.cons.injEq,V.int.injEq,and_true] at h ⊢; exact h
       ·intro h; simp only [List.cons.injEq,V.int.injEq,and_true] at h ⊢; exact h
      rw [e2] at q
      refine ⟨p,_,2,.int m,rfl,rfl,s1.seqT hp,rfl,?_⟩
      try walk_at "WP"
      refine y8 (fun m0=>?_) (fun m0=>?_)
      ·subst m0
       refine ⟨_,s1.seqT hp,_,rfl,?_⟩
       have e3:inV (.int 0) [.int 1,.int (-1)]=false:=by decide
       rw [e3,Bool.false_and,jf] at q
       try walk_at "WP"
       refine y8 (fun x0=>?_) (fun x0=>?_)
       ·subst x0
        refine ⟨_,s1.seqT hp,_,rfl,?_⟩
        try walk_at "WP"
        rw [show decide ((0:Int)=0 /\ y=0 /\ (0:Int)=0)=decide (y=0) from decide_eq_decide.mpr ⟨fun h=>h.2.1,fun h=>⟨rfl,h,rfl⟩⟩] at q
        exact q _ s1
       ·rw [decide_eq_false (fun h=>x0 h.1)] at q
        exact q _ s1
      ·rw [decide_eq_false (fun h=>m0 h.2.2),yX] at q
       refine ⟨_,s1.seqT hp,_,rfl,fun t2 h2=>?_⟩
       have s2:=s1.trans (zV h2 (.tup [V.int 1,.int (-1)]))
       refine in_tup (zL) rfl rfl ?_
       rw [if_neg (by decide)]
       refine ⟨_,rfl,?_⟩
       cases b3:inV (.int m) [.int 1,.int (-1)] with
       | false =>
        rw [if_neg (by decide)]
        rw [b3] at q
        exact q _ s2
       | true =>
        rw [if_pos rfl]
        rw [b3,xL] at q
        refine ⟨_,s2.seqT hp,_,rfl,_,s2.seqT hp,_,rfl,?_⟩
        refine ⟨l,_,_,ys,rs,rfl,s2 _ _ hl,hrs.same s2,.inl rfl,.inl rfl,rb,fun nb H3 s3=>?_,fun k y e1 e2 hk hs r1 H3 n1 s3 h1=>?_⟩
        ·rw [nb] at q
         exact q _ (s2.trans s3)
        ·rw [partB_iff.mpr ⟨k,y,e1,e2,hk,hs⟩] at q
         exact q _ (s2.trans s3)
  ·rw [if_pos (fun n=>z (by exact_mod_cast n))]
   have e:xg rs (some c)=false:=by
    unfold xg
    split
    ·rename_i z2
     cases z2
     exact absurd rfl z
    ·rfl
   rw [e] at q
   exact q _ (Same.refl _)
end
section
variable {P:Program}{w:World}{K:zA}{mg:Str -> Option Value}{base:Heap}
theorem ok_numL (T:Txt K mg):Cal P w K mg base 1 "_law_number" ["_law_text_here","_law_most"] spNumL:=by
 have B:=T.bl
 refine yD T.t_l_number sc_l_number (fun vs H Q E h=>?_) (fun f cdv A outer s H vs Q E hr h=>?_)
 ·obtain ⟨_,_,rfl,_⟩:=h
  rfl
 obtain ⟨x,m,rfl,hm,hl,q⟩:=h
 refine ⟨_,((@pss_cons _ _ _ _ _ (@ps_if _ _ _ _ _ _ _ _ (@PW.pt _ _ _ (@pw_or _ _ _ _ _ _ _ (@pt_cmpR _ _ _ _ _ _ _ _ op_eq (pv 0) pe_str (@nomark _ _ (by decide) (by decide))) (@pw_or _ _ _ _ _ _ _ (@pt_cmpR _ _ _ _ _ _ _ _ op_gt (@pe_callB _ _ _ _ _ _ _ _ _ jD rfl B.len bo_len (@pa_cons _ _ _ _ _ (pv 0) pa_nil (by rfl)) (by decide) (by decide) (by rfl) (by rfl)) (pv 1) (@nomark _ _ (by decide) (by decide))) (@pw_or1 _ _ _ _ (@pt_cmpR _ _ _ _ _ _ _ _ (@op_neE _ _ hr) (@yE _ _ _ _ _ _ _ _ (["_law_sign"]) (1) ([]) _ _ _ rfl (@pi_str _ _ _ _ (pv 0)) (fun nd C s H fp=>⟨(@pg_name _ _ (0) _ nd rfl (by walk_at "o") (by walk_at "o")),(@pn_one _ _ _ (@pt_cmpR _ _ _ _ _ _ _ _ op_notInS (pv 0) pe_str (by with_unfolding_all rfl))),(pv 0)⟩) (by decide +kernel) (by first | rfl | decide +kernel) (by first | rfl | decide +kernel) rfl (fun _=>rfl)) (@pe_lst _ _ _ _ pa_nil) (@nomark _ _ (by decide) (by decide))))))) (@pss_one _ _ _ (@ps_ret _ _ _ _ pe_non)) pss_nil) (@pss_cons _ _ _ _ _ (@ps_if _ _ _ _ _ _ _ _ (@PW.pt _ _ _ (@pw_and _ _ _ _ _ _ _ (@pt_cmpR _ _ _ _ _ _ _ _ op_gt (@pe_callB _ _ _ _ _ _ _ _ _ jD rfl B.len bo_len (@pa_cons _ _ _ _ _ (pv 0) pa_nil (by rfl)) (by decide) (by decide) (by rfl) (by rfl)) pe_int (@nomark _ _ (by decide) (by decide))) (@pw_and1 _ _ _ _ (@pt_cmpR _ _ _ _ _ _ _ _ op_eq (@pe_ix _ _ _ _ _ _ _ ix_str (pv 0) pe_int (fun _ _=>rfl)) pe_str (@nomark _ _ (by decide) (by decide)))))) (@pss_one _ _ _ (@ps_ret _ _ _ _ pe_non)) pss_nil) (@pss_one _ _ _ (@ps_ret _ _ _ _ (@zr _ _ _ _ _ _ _ _ _ zAb rfl B.int xi (@pa_cons _ _ _ _ _ (pv 0) pa_nil (by rfl)) (by decide) (by decide) (by rfl) (by rfl))))))),?_⟩
 rw [show zp ["_law_text_here","_law_most"] [.str x,.int m]=[some (.str x),some (.int m)] from rfl]
 try walk_at "WP"
 refine y8 (fun z=>?_) (fun z=>?_)
 ·have e:limF m x=none:=by
   unfold limF
   split
   ·rfl
   ·exact if_pos (.inl (eq_emp.mp z))
  rw [e] at q
  exact q H (Same.refl _)
 have ne:tl x ≠ []:=fun y=>z (eq_emp.mpr y)
 refine ⟨szL (by omega),?_⟩
 refine y8 (fun z1=>?_) (fun z1=>?_)
 ·have e:limF m x=none:=if_pos (by omega)
  rw [e] at q
  exact q H (Same.refl _)
 have el:limF m x=figR x:=if_neg (by omega)
 rw [el] at q
 refine comp_S (zD hl (by decide)) nonDg (fun v H' R hv hS' hR=>?_) (fun acc na=>?_)
 ·obtain ⟨c,_,rfl⟩:=qP.mp hv
  rw [show yY [] [some (V.str x),some (V.int (m:Int))]=[] from rfl]
  try walk_at "WP"
  have hR:R (if Txt.contains (Str.ofString "0123456789") ⟨#[c]⟩=true then none else some (.str ⟨#[c]⟩)) H':=hR
  cases hc:Txt.contains (Str.ofString "0123456789") ⟨#[c]⟩ with
  | true =>
   rw [if_pos hc] at hR
   exact hR
  | false =>
   rw [if_neg (by rw [hc]; decide)] at hR
   exact hR
 refine yv na fun H1 s1 h1=>?_
 intro l2 nl2
 refine yv nl2 fun H2 s2 h2=>?_
 have s12:=s1.trans s2
 rw [w_neE]
 refine ⟨_,SqL.of (s2 _ _ h1),SqL.of h2,_,rfl,?_⟩
 by_cases d:(tl x).all isDg=true
 rotate_left
 ·rw [decide_eq_true (show _ ≠ 0 from fun z=>d ((nonDg_len x).mp z)),if_pos rfl]
  have e:figR x=none:=if_pos (.inr (.inl d))
  rw [e] at q
  exact q H2 s12
 rw [decide_eq_false (show ¬ _ ≠ 0 from fun z=>z ((nonDg_len x).mpr d)),if_neg (by decide)]
 refine ⟨szL (by omega),?_⟩
 have hi:=figR_int ne d hl
 have good:¬ ((tl x).head? = some 48 /\ tl x ≠ [48]) -> x.length <= 640 /\ ∃ n,intText? x=some n /\ Q (V.int n) H2:=fun c=>by
  have e:figR x=some ((PySem.NumText.digitsVal (tl x):Nat):Int):=if_neg (fun u=>u.elim ne fun u=>u.elim (fun u=>u d) c)
  rw [e] at q
  exact ⟨hl,_,hi,q H2 s12⟩
 cases et:tl x with
 | nil=>exact absurd et ne
 | cons a r =>
  rw [et] at good
  refine y8 (fun y=>?_) (fun y=>?_)
  ·refine ⟨x,0,a,rfl,rfl,szL (by omega),?_,?_⟩
   ·show atI (tl x) 0=some a
    rw [et]
    exact y7 (j:=0) rfl
   dsimp only
   rw [w_eqS]
   refine ⟨_,rfl,?_⟩
   have rl:r ≠ []:=fun z=>by rw [← yZ,et,z,yI] at y; omega
   by_cases a0:a=48
   ·rw [decide_eq_true (one_zero.mpr a0),if_pos rfl]
    have e:figR x=none:=if_pos (.inr (.inr ⟨by rw [et,a0]; rfl,by rw [et]; intro z; injection z with _ z; exact rl z⟩))
    rw [e] at q
    exact q H2 s12
   ·rw [decide_eq_false (fun z=>a0 (one_zero.mp z)),if_neg (by decide)]
    exact good (fun z=>a0 (Option.some.inj z.1))
  ·have rl:r=[]:=by
    rw [← yZ,et,zP] at y
    exact yG (by omega)
   exact good (fun z=>z.2 (by rw [rl,Option.some.inj z.1]))
theorem ok_wrtL (T:Txt K mg):Cal P w K mg base 2 "_law_written" ["_law_text_here"] spWrtL:=by
 have B:=T.bl
 have C_l_number:=ok_numL (P:=P) (w:=w) (base:=base) T
 refine yD T.t_l_written sc_l_written (fun vs H Q E h=>?_) (fun f cdv A outer s H vs Q E hr h=>?_)
 ·obtain ⟨_,rfl,_⟩:=h
  rfl
 obtain ⟨x,rfl,hl,q1,q2⟩:=h
 refine ⟨_,((@pss_cons _ _ _ _ _ (@ps_for _ _ _ _ _ _ _ _ PassesOwn.never rfl (@pi_tup _ _ _ _ (@pe_tup _ _ _ _ _ (@pa_cons _ _ _ _ _ (@pe_tup _ _ _ _ _ (@pa_cons _ _ _ _ _ pe_str (@pa_cons _ _ _ _ _ pe_int pa_nil (by rfl)) (by rfl))) (@pa_cons _ _ _ _ _ (@pe_tup _ _ _ _ _ (@pa_cons _ _ _ _ _ pe_str (@pa_cons _ _ _ _ _ (@pe_un _ _ _ _ _ _ un_neg pe_int) pa_nil (by rfl)) (by rfl))) pa_nil (by rfl)) (by rfl)))) (@jY _ _ _ _ _ 2 rfl (@zz _ _ _ _ _ (@pg_name _ _ (1) _ sc_l_written.nd rfl (by walk_at "o") (by walk_at "o")) (@zz _ _ _ _ _ (@pg_name _ _ (2) _ sc_l_written.nd rfl (by walk_at "o") (by walk_at "o")) jW (by rfl)) (by rfl)) (by rfl) (by rfl)) (@pss_one _ _ _ (@ps_if _ _ _ _ _ _ _ _ (@pt_cmpR _ _ _ _ _ _ _ _ op_inS (pv 1) (pv 0) (by with_unfolding_all rfl)) (@pss_cons _ _ _ _ _ (@ps_set _ _ (3) _ _ _ _ sc_l_written.nd rfl (by walk_at "o") (@pe_bm _ _ _ _ _ _ _ _ _ _ _ _ ze PySem.F.slot_str_find PySem.F.type_str_find mt_find (pv 0) (@pa_cons _ _ _ _ _ (pv 1) pa_nil (by rfl)) (by rfl) (by rfl) (by rfl) (by rfl) (by rfl)) (by rfl) (by walk_at "o")) (@pss_cons _ _ _ _ _ (@ps_set _ _ (4) _ _ _ _ sc_l_written.nd rfl (by walk_at "o") (@pe_cal _ _ _ _ _ _ _ _ _ _ C_l_number hr rfl (@pa_cons _ _ _ _ _ (@yc _ _ _ _ _ _ _ _ _ _ jA (pv 0) y4 (@y6 _ _ _ (pv 3))) (@pa_cons _ _ _ _ _ pe_int pa_nil (by rfl)) (by rfl)) (by decide) (by rfl) (by rfl)) (by rfl) (by walk_at "o")) (@pss_cons _ _ _ _ _ (@ps_set _ _ (5) _ _ _ _ sc_l_written.nd rfl (by walk_at "o") (@pe_cal _ _ _ _ _ _ _ _ _ _ C_l_number hr rfl (@pa_cons _ _ _ _ _ (@yc _ _ _ _ _ _ _ _ _ _ jA (pv 0) (@y6 _ _ _ (@pe_op _ _ _ _ _ _ _ _ op_add (pv 3) pe_int)) y4) (@pa_cons _ _ _ _ _ pe_int pa_nil (by rfl)) (by rfl)) (by decide) (by rfl) (by rfl)) (by rfl) (by walk_at "o")) (@pss_cons _ _ _ _ _ (@ps_if _ _ _ _ _ _ _ _ (@PW.pt _ _ _ (@pw_or _ _ _ _ _ _ _ (@yu _ _ _ _ _ _ (@xJ _ _ _ _ _ (pv 4)) (by first | exact zv _ ( by decide ) ( by decide ) | rfl)) (@pw_or _ _ _ _ _ _ _ (@yu _ _ _ _ _ _ (@xJ _ _ _ _ _ (pv 5)) (by first | exact zv _ ( by decide ) ( by decide ) | rfl)) (@pw_or1 _ _ _ _ (@pt_cmpR _ _ _ _ _ _ _ _ op_eq (pv 5) pe_int (@nomark _ _ (by decide) (by decide))))))) (@pss_one _ _ _ (@ps_ret _ _ _ _ pe_non)) pss_nil) (@pss_one _ _ _ (@ps_ret _ _ _ _ (@pe_tup _ _ _ _ _ (@pa_cons _ _ _ _ _ (pv 4) (@pa_cons _ _ _ _ _ (@pe_op _ _ _ _ _ _ _ _ yR (pv 2) (pv 5)) pa_nil (by rfl)) (by rfl))))))))) pss_nil)) (by intro _ ; rfl)) (@pss_cons _ _ _ _ _ (@ps_set _ _ (4) _ _ _ _ sc_l_written.nd rfl (by walk_at "o") (@pe_cal _ _ _ _ _ _ _ _ _ _ C_l_number hr rfl (@pa_cons _ _ _ _ _ (pv 0) (@pa_cons _ _ _ _ _ pe_int pa_nil (by rfl)) (by rfl)) (by decide) (by rfl) (by rfl)) (by rfl) (by walk_at "o")) (@pss_cons _ _ _ _ _ (@ps_if _ _ _ _ _ _ _ _ (@yu _ _ _ _ _ _ (@xJ _ _ _ _ _ (pv 4)) (by first | exact zv _ ( by decide ) ( by decide ) | rfl)) (@pss_one _ _ _ (@ps_ret _ _ _ _ pe_non)) pss_nil) (@pss_one _ _ _ (@ps_ret _ _ _ _ (@pe_tup _ _ _ _ _ (@pa_cons _ _ _ _ _ (pv 4) (@pa_cons _ _ _ _ _ pe_int pa_nil (by rfl)) (by rfl))))))))),?_⟩
 rw [show zp ["_law_text_here","_law_mark","_law_sign","_law_at","_law_thing","_law_shift_here"] [.str x]=[some (.str x),none,none,none,none,none] from rfl]
 try walk_at "WP"
 intro p1 np1
 refine yv np1 fun H1 s1 h1=>?_
 intro p2 np2
 refine yv np2 fun H2 s2 h2=>?_
 intro p3 np3
 refine yv np3 fun H3 s3 h3=>?_
 have s123:=(s1.trans s2).trans s3
 have h1':=(s2.trans s3) _ _ h1
 have h2':=s3 _ _ h2
 refine ⟨⟨_,SqT.of h3⟩,?_⟩
 refine forT (xs:=[.ref p1,.ref p2]) (fun i σ H'=>∃ o1 o2 o3 o4 o5,σ = [some (.str x),o1,o2,o3,o4,o5] /\ Same H3 H' /\ (1 <= i -> Txt.contains x (Str.ofString "<<")=false) /\ (2 <= i -> Txt.contains x (Str.ofString ">>")=false)) ⟨none,none,none,none,none,rfl,Same.refl _,fun z=>absurd z (by decide),fun z=>absurd z (by decide)⟩ ?_ ?_ ?_
 ·rintro i σ H' hi ⟨_,_,_,_,_,rfl,s',_⟩
  exact SqT.of (s' _ _ h3)
 ·rintro i v σ H' N hv ⟨o1,o2,o3,o4,o5,rfl,s',g1,g2⟩ hN
  have sh:∀ (m:Str) (sg:Int) (H5:Hp),(sg=1 \/ sg = -1) -> m.length=2 -> Txt.contains x m=true -> xj x=shRL (Txt.partition x m).1 (Txt.partition x m).2.2 sg -> Same H H5 ->
    (x.length <= 1000000 /\ spNumL [V.str (Txt.slice x none (some (Txt.find x m))),V.int 60] H5 (fun x_1 H1=>x.length <= 1000000 /\ spNumL [V.str (Txt.slice x (some (Txt.find x m+2)) none),V.int 4] H1 (fun x H1=>if x_1=V.non then Q V.non H1 else if x=V.non then Q V.non H1 else rEq x (V.int 0) H1 fun x_2 H'=>∃ k,x_2=V.bl k /\ if k=true then Q V.non H' else rI IntMulOk (fun i j=>V.int (i * j)) (V.int sg) x H' fun x H1=>∀ (p:Addr),H1 p=none -> Q (V.ref p) (upd H1 p (HO.tup [x_1,x]))) E0) E0):=fun m sg H5 hsg hm hc he s5=>by
   obtain ⟨i,e1,e2,e3,e4⟩:=find_parts hc
   rw [hm] at e2 e4
   rw [e1,e3,show ((i:Int)+2)=((i+2:Nat):Int) by omega,e4]
   have p1:=(Jb x m).1
   have p2:=(Jb x m).2
   refine ⟨zD hl (by decide),_,60,rfl,by decide,by omega,fun H6 s6=>?_⟩
   refine ⟨zD hl (by decide),_,4,rfl,by decide,by omega,fun H7 s7=>?_⟩
   have s57:=s5.trans (s6.trans s7)
   unfold shRL at he
   dsimp only
   cases ea:limF 60 (Txt.partition x m).1 with
   | none =>
    rw [ea] at he
    rw [Js,if_pos rfl]
    exact q1 he H7 s57
   | some t =>
    rw [ea] at he
    rw [Jr,if_neg (by intro z; cases z)]
    cases ec:limF 4 (Txt.partition x m).2.2 with
    | none =>
     rw [ec] at he
     rw [Js,if_pos rfl]
     exact q1 he H7 s57
    | some s' =>
     rw [ec] at he
     rw [Jr,if_neg (by intro z; cases z)]
     try walk_at "WP"
     refine y8 (fun z=>?_) (fun z=>?_)
     ·exact q1 (he.trans (if_pos z)) H7 s57
     refine ⟨x5 (by omega) (by omega),fun r nr=>?_⟩
     exact q2 t (sg * s') (he.trans (if_neg z)) r _ (s57.trans (zV nr _)) zL
  have s3':=s123.trans s'
  match i,hv with
  | 0,hv =>
   cases hv
   have h1'':=s' _ _ h1'
   (iterate 5 ((try (walk_at "WP")); (try (simp only [h1'',qJs,qJt,qJl,qJd,exists_eq_left',exists_eq_left])))); (try (walk_at "WP"))
   refine y8 (fun z=>?_) (fun z=>?_)
   ·exact sh _ 1 _ (.inl rfl) len_lt z (if_pos z) s3'
   ·exact hN _ _ ⟨_,_,_,_,_,rfl,s',fun _=>by simpa using z,fun z=>absurd z (by decide)⟩
  | 1,hv =>
   cases hv
   have h2'':=s' _ _ h2'
   have g1:=g1 (by decide)
   (iterate 5 ((try (walk_at "WP")); (try (simp only [h2'',qJs,qJt,qJl,qJd,exists_eq_left',exists_eq_left])))); (try (walk_at "WP"))
   refine y8 (fun z=>?_) (fun z=>?_)
   ·exact sh _ (-1) _ (.inr rfl) len_gt z ((if_neg (by rw [g1]; decide)).trans (if_pos z)) s3'
   ·exact hN _ _ ⟨_,_,_,_,_,rfl,s',fun _=>g1,fun _=>by simpa using z⟩
  | k+2,hv=>exact absurd (qB.mp hv).1 (by simp)
 ·rintro σ H' ⟨o1,o2,o3,o4,o5,rfl,s',g1,g2⟩
  have g1:=g1 (by simp)
  have g2:=g2 (by simp)
  have s3':=s123.trans s'
  have ep:xj x=(limF 60 x).map fun n=>(n,0):=(if_neg (by rw [g1]; decide)).trans (if_neg (by rw [g2]; decide))
  try walk_at "WP"
  refine ⟨x,60,rfl,by decide,hl,fun H4 s4=>?_⟩
  have s34:=s3'.trans s4
  dsimp only
  cases ef:limF 60 x with
  | none =>
   rw [Js,if_pos rfl]
   exact q1 (by rw [ep,ef]; rfl) H4 s34
  | some n =>
   rw [Jr,if_neg (by intro z; cases z)]
   intro p np
   exact q2 n 0 (by rw [ep,ef]; rfl) p _ (s34.trans (zV np _)) zL
theorem ok_ldeedL (T:Txt K mg):Cal P w K mg base 3 "_law_line_deed" ["_law_line"] spLDeedL:=by
 have B:=T.bl
 have C_l_written:=ok_wrtL (P:=P) (w:=w) (base:=base) T
 refine yD T.t_l_line_deed sc_l_line_deed (fun vs H Q E h=>?_) (fun f cdv A outer s H vs Q E hr h=>?_)
 ·obtain ⟨_,rfl,_⟩:=h
  rfl
 obtain ⟨x,rfl,hl,q1,q2⟩:=h
 refine ⟨_,((@pss_cons _ _ _ _ _ (@ps_set _ _ (1) _ _ _ _ sc_l_line_deed.nd rfl (by walk_at "o") (@pe_bm _ _ _ _ _ _ _ _ _ _ _ _ ze yP yO jR (pv 0) (@pa_cons _ _ _ _ _ pe_str pa_nil (by rfl)) (by rfl) (by rfl) (by rfl) (by rfl) (by rfl)) (by rfl) (by walk_at "o")) (@pss_cons _ _ _ _ _ (@ps_if _ _ _ _ _ _ _ _ (@PW.pt _ _ _ (@pw_or _ _ _ _ _ _ _ (@pt_cmpR _ _ _ _ _ _ _ _ op_ne (@pe_callB _ _ _ _ _ _ _ _ _ call_lenM rfl B.len bo_len (@pa_cons _ _ _ _ _ (pv 1) pa_nil (by rfl)) (by decide) (by decide) (by rfl) (by rfl)) pe_int (@nomark _ _ (by decide) (by decide))) (@pw_or1 _ _ _ _ (@pt_cmpR _ _ _ _ _ _ _ _ op_notIn_seq (@pe_ix _ _ _ _ _ _ _ ix_M (pv 1) pe_int (fun _ _=>rfl)) (@pe_tup _ _ _ _ _ (@pa_cons _ _ _ _ _ pe_str (@pa_cons _ _ _ _ _ pe_str pa_nil (by rfl)) (by rfl))) (by with_unfolding_all rfl))))) (@pss_one _ _ _ (@ps_ret _ _ _ _ pe_non)) pss_nil) (@pss_cons _ _ _ _ _ (@ps_set _ _ (2) _ _ _ _ sc_l_line_deed.nd rfl (by walk_at "o") (@pe_cal _ _ _ _ _ _ _ _ _ _ C_l_written hr rfl (@pa_cons _ _ _ _ _ (@pe_ix _ _ _ _ _ _ _ ix_M (pv 1) pe_int (fun _ _=>rfl)) pa_nil (by rfl)) (by decide) (by rfl) (by rfl)) (by rfl) (by walk_at "o")) (@pss_cons _ _ _ _ _ (@ps_set _ _ (3) _ _ _ _ sc_l_line_deed.nd rfl (by walk_at "o") (@pe_cal _ _ _ _ _ _ _ _ _ _ C_l_written hr rfl (@pa_cons _ _ _ _ _ (@pe_ix _ _ _ _ _ _ _ ix_M (pv 1) pe_int (fun _ _=>rfl)) pa_nil (by rfl)) (by decide) (by rfl) (by rfl)) (by rfl) (by walk_at "o")) (@pss_cons _ _ _ _ _ (@ps_if _ _ _ _ _ _ _ _ (@PW.pt _ _ _ (@pw_or _ _ _ _ _ _ _ (@yu _ _ _ _ _ _ (@xJ _ _ _ _ _ (pv 2)) (by first | exact zv _ ( by decide ) ( by decide ) | rfl)) (@pw_or1 _ _ _ _ (@yu _ _ _ _ _ _ (@xJ _ _ _ _ _ (pv 3)) (by first | exact zv _ ( by decide ) ( by decide ) | rfl))))) (@pss_one _ _ _ (@ps_ret _ _ _ _ pe_non)) pss_nil) (@pss_one _ _ _ (@ps_ret _ _ _ _ (@pe_op _ _ _ _ _ _ _ _ op_catT (@pe_op _ _ _ _ _ _ _ _ op_catT (@pe_tup _ _ _ _ _ (@pa_cons _ _ _ _ _ (@pe_ix _ _ _ _ _ _ _ ix_M (@pe_lst _ _ _ _ (@pa_cons _ _ _ _ _ pe_str (@pa_cons _ _ _ _ _ pe_str pa_nil (by rfl)) (by rfl))) (@zr _ _ _ _ _ _ _ _ _ y3 rfl B.int xi (@pa_cons _ _ _ _ _ (@pe_cmpR _ _ _ _ _ _ _ _ op_eq (@pe_ix _ _ _ _ _ _ _ ix_M (pv 1) pe_int (fun _ _=>rfl)) pe_str (@nomark _ _ (by decide) (by decide))) pa_nil (by rfl)) (by decide) (by decide) (by rfl) (by rfl)) (fun _ _=>rfl)) pa_nil (by rfl))) (pv 2)) (pv 3)))))))))),?_⟩
 rw [show zp ["_law_line","_law_words","_law_one","_law_other"] [.str x]=[some (.str x),none,none,none] from rfl]
 refine zY fun R_ hR_=>?_
 (try (walk_at "WP")); (try (refine zT hR_ ?_)); (try (refine zY fun R_ hR_=>?_)); (try (walk_at "WP"))
 refine ⟨by decide +kernel,zD hl (by decide),fun l nl=>?_⟩
 have hws:=zAf hl
 change ∀ w ∈ wrds x,w.length <= 640 at hws
 rw [show Txt.split x (Str.ofString " ")=wrds x from rfl]
 generalize wrds x=ws at hws q1 q2 ⊢
 refine yv nl fun H1 s1 h1=>?_
 (try (walk_at "WP")); (try (refine zT hR_ ?_)); (try (refine zY fun R_ hR_=>?_)); (iterate 5 ((try (walk_at "WP")); (try (simp only [h1,qJs,qJt,qJl,qJd,exists_eq_left',exists_eq_left])))); (try (walk_at "WP"))
 rw [qC]
 by_cases z:ws.length=3
 rotate_left
 ·rw [if_pos (fun n=>z (by exact_mod_cast n))]
  have e:JN ws=none:=by
   match ws,z with
   | [],_=>rfl
   | [_],_=>rfl
   | [_,_],_=>rfl
   | [_,_,_],z=>exact absurd rfl z
   | _ :: _ :: _ :: _ :: _,_=>rfl
  exact q1 e H1 s1
 obtain ⟨a,b,c,rfl⟩:=thr_of z
 rw [if_neg (fun n=>n (by rw [z]; rfl))]
 refine ⟨_,rfl,?_⟩
 intro p1 np1
 refine yv np1 fun H2 s2 h2=>?_
 (try (walk_at "WP")); (try (refine zT hR_ ?_)); (try (refine zY fun R_ hR_=>?_)); (try (walk_at "WP"))
 refine ⟨_,_,rfl,.inr (SqT.of h2),rfl,rfl,?_⟩
 rw [if_pos rfl,inV_C]
 refine ⟨_,rfl,?_⟩
 by_cases hb:b=Str.ofString "+" \/ b=Str.ofString "-"
 rotate_left
 ·rw [show inC (Str.ofString "+") (Str.ofString "-") (.str b)=false from decide_eq_false hb]
  exact q1 (if_neg hb) H2 (s1.trans s2)
 rw [show inC (Str.ofString "+") (Str.ofString "-") (.str b)=true from decide_eq_true hb,if_neg (by decide)]
 have h12:=s2 _ _ h1
 have er:JN [a,b,c]=(match xj a,xj c with
  | some p,some q=>some (if b=Str.ofString "+" then Str.ofString "sum" else Str.ofString "less",p,q)
  | _,_=>none):=if_pos hb
 (try (walk_at "WP")); (try (refine zT hR_ ?_)); (try (refine zY fun R_ hR_=>?_)); (iterate 5 ((try (walk_at "WP")); (try (simp only [h12,qJs,qJt,qJl,qJd,exists_eq_left',exists_eq_left])))); (try (walk_at "WP"))
 refine ⟨_,rfl,?_⟩
 refine wrt_val (hws a (by simp)) fun v1 H3 s3 pv1=>?_
 have h13:=s3 _ _ h12
 (try (walk_at "WP")); (try (refine zT hR_ ?_)); (try (refine zY fun R_ hR_=>?_)); (iterate 5 ((try (walk_at "WP")); (try (simp only [h13,qJs,qJt,qJl,qJd,exists_eq_left',exists_eq_left])))); (try (walk_at "WP"))
 refine ⟨_,rfl,?_⟩
 refine wrt_val (hws c (by simp)) fun v2 H4 s4 pv2=>?_
 have h14:=s4 _ _ h13
 have pv1':=pv1.same s4
 have s04:=(s1.trans s2).trans (s3.trans s4)
 (try (walk_at "WP")); (try (refine zT hR_ ?_)); (try (refine zY fun R_ hR_=>?_)); (try (walk_at "WP"))
 rcases pv1' with ⟨e1,rfl⟩ | ⟨t,s',r,e1,rfl,hr1⟩
 ·(try (walk_at "WP")); (try (refine zT hR_ ?_)); (try (refine zY fun R_ hR_=>?_)); (try (walk_at "WP"))
  exact q1 (by rw [er,e1]) H4 s04
 rcases pv2 with ⟨e2,rfl⟩ | ⟨t2,s2',r2,e2,rfl,hr2⟩
 ·(try (walk_at "WP")); (try (refine zT hR_ ?_)); (try (refine zY fun R_ hR_=>?_)); (try (walk_at "WP"))
  exact q1 (by rw [er,e1,e2]) H4 s04
 (try (walk_at "WP")); (try (refine zT hR_ ?_)); (try (refine zY fun R_ hR_=>?_)); (iterate 5 ((try (walk_at "WP")); (try (simp only [h14,qJs,qJt,qJl,qJd,exists_eq_left',exists_eq_left])))); (try (walk_at "WP"))
 intro p5 np5
 refine yv np5 fun H5 s5 h5=>?_
 refine ⟨_,s5 _ _ h14,_,rfl,?_⟩
 rw [w_eqS]
 refine .inr ⟨_,rfl,_,h5,?_⟩
 have ew:atI [V.str (Str.ofString "less"),V.str (Str.ofString "sum")] (if decide (b=Str.ofString "+")=true then 1 else 0)=some (.str (if b=Str.ofString "+" then Str.ofString "sum" else Str.ofString "less")):=by
  by_cases z5:b=Str.ofString "+"
  ·rw [if_pos (decide_eq_true z5),if_pos z5]
   rfl
  ·rw [if_neg (by simpa using z5),if_neg z5]
   rfl
 refine ⟨_,ew,fun p6 np6=>?_⟩
 refine yv np6 fun H6 s6 h6=>?_
 have s46:=s5.trans s6
 refine ⟨p6,r,_,_,rfl,rfl,SqT.of h6,SqT.of (s46 _ _ hr1),by simp,zg (by simp),(fun z=>by cases z),fun _ p7 np7=>?_⟩
 refine yv np7 fun H7 s7 h7=>?_
 refine ⟨p7,r2,_,_,rfl,rfl,SqT.of h7,SqT.of ((s46.trans s7) _ _ hr2),by simp,zg (by simp),(fun z=>by cases z),fun _ p8 np8=>?_⟩
 refine yv np8 fun H8 s8 h8=>?_
 exact q2 _ t s' t2 s2' (by rw [er,e1,e2]) p8 H8 (s04.trans (s46.trans (s7.trans s8))) h8
theorem ok_loutL (T:Txt K mg):Cal P w K mg base 3 "_law_line_out" ["_law_line"] spLOutL:=by
 have B:=T.bl
 have C_l_written:=ok_wrtL (P:=P) (w:=w) (base:=base) T
 refine yD T.t_l_line_out sc_l_line_out (fun vs H Q E h=>?_) (fun f cdv A outer s H vs Q E hr h=>?_)
 ·obtain ⟨_,rfl,_⟩:=h
  rfl
 obtain ⟨x,rfl,hl,q1,q2⟩:=h
 refine ⟨_,((@pss_cons _ _ _ _ _ (@ps_set _ _ (1) _ _ _ _ sc_l_line_out.nd rfl (by walk_at "o") (@pe_bm _ _ _ _ _ _ _ _ _ _ _ _ ze yP yO jR (pv 0) (@pa_cons _ _ _ _ _ pe_str pa_nil (by rfl)) (by rfl) (by rfl) (by rfl) (by rfl) (by rfl)) (by rfl) (by walk_at "o")) (@pss_cons _ _ _ _ _ (@ps_if _ _ _ _ _ _ _ _ (@PW.pt _ _ _ (@pw_or _ _ _ _ _ _ _ (@pt_cmpR _ _ _ _ _ _ _ _ op_ne (@pe_callB _ _ _ _ _ _ _ _ _ call_lenM rfl B.len bo_len (@pa_cons _ _ _ _ _ (pv 1) pa_nil (by rfl)) (by decide) (by decide) (by rfl) (by rfl)) pe_int (@nomark _ _ (by decide) (by decide))) (@pw_or1 _ _ _ _ (@pt_cmpR _ _ _ _ _ _ _ _ op_ne (@pe_ix _ _ _ _ _ _ _ ix_M (pv 1) pe_int (fun _ _=>rfl)) pe_str (@nomark _ _ (by decide) (by decide)))))) (@pss_one _ _ _ (@ps_ret _ _ _ _ pe_non)) pss_nil) (@pss_cons _ _ _ _ _ (@ps_if _ _ _ _ _ _ _ _ (@pt_cmpR _ _ _ _ _ _ _ _ op_eq (@pe_ix _ _ _ _ _ _ _ ix_M (pv 1) pe_int (fun _ _=>rfl)) pe_str (@nomark _ _ (by decide) (by decide))) (@pss_one _ _ _ (@ps_ret _ _ _ _ (@pe_tup _ _ _ _ _ (@pa_cons _ _ _ _ _ pe_int (@pa_cons _ _ _ _ _ pe_int (@pa_cons _ _ _ _ _ pe_int pa_nil (by rfl)) (by rfl)) (by rfl))))) pss_nil) (@pss_cons _ _ _ _ _ (@ps_set _ _ (2) _ _ _ _ sc_l_line_out.nd rfl (by walk_at "o") (@pe_op _ _ _ _ _ _ _ _ JE pe_int (@pe_op _ _ _ _ _ _ _ _ yR pe_int (@zr _ _ _ _ _ _ _ _ _ y3 rfl B.int xi (@pa_cons _ _ _ _ _ (@pe_cmpR _ _ _ _ _ _ _ _ op_eq (@yc _ _ _ _ _ _ _ _ _ _ jA (@pe_ix _ _ _ _ _ _ _ ix_M (pv 1) pe_int (fun _ _=>rfl)) y4 (@y6 _ _ _ pe_int)) pe_str (@nomark _ _ (by decide) (by decide))) pa_nil (by rfl)) (by decide) (by decide) (by rfl) (by rfl)))) (by rfl) (by walk_at "o")) (@pss_cons _ _ _ _ _ (@ps_set _ _ (3) _ _ _ _ sc_l_line_out.nd rfl (by walk_at "o") (@pe_cal _ _ _ _ _ _ _ _ _ _ C_l_written hr rfl (@pa_cons _ _ _ _ _ (@yc _ _ _ _ _ _ _ _ _ _ jA (@pe_ix _ _ _ _ _ _ _ ix_M (pv 1) pe_int (fun _ _=>rfl)) (@y6 _ _ _ (@zr _ _ _ _ _ _ _ _ _ y3 rfl B.int xi (@pa_cons _ _ _ _ _ (@pe_cmpR _ _ _ _ _ _ _ _ op_eq (pv 2) (@pe_un _ _ _ _ _ _ un_neg pe_int) (@nomark _ _ (by decide) (by decide))) pa_nil (by rfl)) (by decide) (by decide) (by rfl) (by rfl))) y4) pa_nil (by rfl)) (by decide) (by rfl) (by rfl)) (by rfl) (by walk_at "o")) (@pss_cons _ _ _ _ _ (@ps_if _ _ _ _ _ _ _ _ (@yu _ _ _ _ _ _ (@xJ _ _ _ _ _ (pv 3)) (by first | exact zv _ ( by decide ) ( by decide ) | rfl)) (@pss_one _ _ _ (@ps_ret _ _ _ _ pe_non)) pss_nil) (@pss_one _ _ _ (@ps_ret _ _ _ _ (@pe_op _ _ _ _ _ _ _ _ op_catT (pv 3) (@pe_tup _ _ _ _ _ (@pa_cons _ _ _ _ _ (pv 2) pa_nil (by rfl))))))))))))),?_⟩
 rw [show zp ["_law_line","_law_words","_law_sign","_law_part_here"] [.str x]=[some (.str x),none,none,none] from rfl]
 refine zY fun R_ hR_=>?_
 (try (walk_at "WP")); (try (refine zT hR_ ?_)); (try (refine zY fun R_ hR_=>?_)); (try (walk_at "WP"))
 refine ⟨by decide +kernel,zD hl (by decide),fun l nl=>?_⟩
 have hws:=zAf hl
 change ∀ w ∈ wrds x,w.length <= 640 at hws
 rw [show Txt.split x (Str.ofString " ")=wrds x from rfl]
 generalize wrds x=ws at hws q1 q2 ⊢
 refine yv nl fun H1 s1 h1=>?_
 (try (walk_at "WP")); (try (refine zT hR_ ?_)); (try (refine zY fun R_ hR_=>?_)); (iterate 5 ((try (walk_at "WP")); (try (simp only [h1,qJs,qJt,qJl,qJd,exists_eq_left',exists_eq_left])))); (try (walk_at "WP"))
 rw [qC]
 by_cases z:ws.length=2
 rotate_left
 ·rw [if_pos (fun n=>z (by exact_mod_cast n))]
  have e:JO ws=none:=by
   match ws,z with
   | [],_=>rfl
   | [_],_=>rfl
   | [_,_],z=>exact absurd rfl z
   | _ :: _ :: _ :: _,_=>rfl
  exact q1 e H1 s1
 obtain ⟨a,b,rfl⟩:=two_of z
 rw [if_neg (fun n=>n (by rw [z]; rfl))]
 refine ⟨_,rfl,?_⟩
 (try (walk_at "WP")); (try (refine zT hR_ ?_)); (try (refine zY fun R_ hR_=>?_)); (iterate 5 ((try (walk_at "WP")); (try (simp only [h1,qJs,qJt,qJl,qJd,exists_eq_left',exists_eq_left])))); (try (walk_at "WP"))
 refine y8 (fun z2=>?_) (fun z2=>?_)
 ·exact q1 (if_neg z2) H1 s1
 have ea:JO [a,b]=endRL b:=if_pos (yS z2)
 rw [ea] at q1 q2
 (try (walk_at "WP")); (try (refine zT hR_ ?_)); (try (refine zY fun R_ hR_=>?_)); (iterate 5 ((try (walk_at "WP")); (try (simp only [h1,qJs,qJt,qJl,qJd,exists_eq_left',exists_eq_left])))); (try (walk_at "WP"))
 refine ⟨_,rfl,?_⟩
 (try (walk_at "WP")); (try (refine zT hR_ ?_)); (try (refine zY fun R_ hR_=>?_)); (iterate 5 ((try (walk_at "WP")); (try (simp only [h1,qJs,qJt,qJl,qJd,exists_eq_left',exists_eq_left])))); (try (walk_at "WP"))
 unfold endRL at q1 q2
 refine y8 (fun z3=>?_) (fun z3=>?_)
 ·intro r nr
  exact q2 0 0 0 (if_pos z3) r _ (s1.trans (zV nr _)) zL
 rw [if_neg z3] at q1 q2
 (try (walk_at "WP")); (try (refine zT hR_ ?_)); (try (refine zY fun R_ hR_=>?_)); (iterate 5 ((try (walk_at "WP")); (try (simp only [h1,qJs,qJt,qJl,qJd,exists_eq_left',exists_eq_left])))); (try (walk_at "WP"))
 refine ⟨_,rfl,?_⟩
 have bl:=hws b (by simp)
 rw [w_slS]
 refine ⟨zD bl (by decide),?_⟩
 rw [w_eqS]
 refine .inr ⟨_,rfl,x5 (by decide) (by decide),?_⟩
 have em:decide (Txt.slice b none (some 1)=Str.ofString "-")=minB b:=by
  rw [xn,decide_eq_true_eq]
  exact slice1_min b
 rw [em]
 (try (walk_at "WP")); (try (refine zT hR_ ?_)); (try (refine zY fun R_ hR_=>?_)); (iterate 5 ((try (walk_at "WP")); (try (simp only [h1,qJs,qJt,qJl,qJd,exists_eq_left',exists_eq_left])))); (try (walk_at "WP"))
 refine ⟨_,rfl,?_⟩
 rw [w_slS]
 refine ⟨zD bl (by decide),?_⟩
 have es:Txt.slice b (some (if (1 - 2 * if minB b=true then 1 else 0:Int) = -1 then 1 else 0)) none=(if minB b=true then Txt.slice b (some 1) none else b):=by
  cases minB b with
  | true=>rfl
  | false=>exact slice_0 b
 have eg:(1 - 2 * if minB b=true then 1 else 0:Int)=(if minB b=true then -1 else 1):=by
  cases minB b <;> rfl
 rw [es,eg]
 have sl:(if minB b=true then Txt.slice b (some 1) none else b).length <= 640:=by
  split
  ·exact zD (sl_len b _ _) bl
  ·exact bl
 refine wrt_val sl fun v1 H2 s2 pv1=>?_
 have s02:=s1.trans s2
 (try (walk_at "WP")); (try (refine zT hR_ ?_)); (try (refine zY fun R_ hR_=>?_)); (try (walk_at "WP"))
 rcases pv1 with ⟨e1,rfl⟩ | ⟨t,s',r,e1,rfl,hr1⟩
 ·(try (walk_at "WP")); (try (refine zT hR_ ?_)); (try (refine zY fun R_ hR_=>?_)); (try (walk_at "WP"))
  exact q1 (by rw [e1]; rfl) H2 s02
 (try (walk_at "WP")); (try (refine zT hR_ ?_)); (try (refine zY fun R_ hR_=>?_)); (try (walk_at "WP"))
 intro p3 np3
 refine yv np3 fun H3 s3 h3=>?_
 refine ⟨r,p3,_,_,rfl,rfl,SqT.of (s3 _ _ hr1),SqT.of h3,by simp,zg (by simp),(fun z=>by cases z),fun _ p7 np7=>?_⟩
 refine yv np7 fun H7 s7 h7=>?_
 exact q2 t s' _ (by rw [e1]; rfl) p7 H7 (s02.trans (s3.trans s7)) h7
end
section
variable {P:Program}{w:World}{K:zA}{mg:Str -> Option Value}{base:Heap}
theorem ok_dueL (T:Txt K mg):Cal P w K mg base 5 "_law_due" ["_law_text_here"] (spDueL K):=by
 have B:=T.bl
 have C_l_line_out:=(ok_loutL (P:=P) (w:=w) (base:=base) T).mono (k:=4) (by decide)
 have C_l_line_deed:=(ok_ldeedL (P:=P) (w:=w) (base:=base) T).mono (k:=4) (by decide)
 have C_l_made_row:=(ok_lmadeC (P:=P) (w:=w) (base:=base) T).mono (k:=4) (by decide)
 have C_l_is_out:=(ok_loutC (P:=P) (w:=w) (base:=base) T).mono (k:=4) (by decide)
 refine yD T.t_l_due sc_l_due (fun vs H Q E h=>?_) (fun f cdv A outer s H vs Q E hr h=>?_)
 ·obtain ⟨_,_,_,rfl,_⟩:=h
  rfl
 obtain ⟨x,l0,ls,rfl,hx,hsp,q0,qn⟩:=h
 refine ⟨_,((@pss_cons _ _ _ _ _ (@ps_set _ _ (1) _ _ _ _ sc_l_due.nd rfl (by walk_at "o") (@pe_bm _ _ _ _ _ _ _ _ _ _ _ _ ze yP yO jR (pv 0) (@pa_cons _ _ _ _ _ pe_str pa_nil (by rfl)) (by rfl) (by rfl) (by rfl) (by rfl) (by rfl)) (by rfl) (by walk_at "o")) (@pss_cons _ _ _ _ _ (@ps_if _ _ _ _ _ _ _ _ (@pt_cmpR _ _ _ _ _ _ _ _ op_notIn_seq (@pe_ix _ _ _ _ _ _ _ ix_M (pv 1) pe_int (fun _ _=>rfl)) (@yE _ _ _ _ _ _ _ _ (["_law_k"]) (1) ([]) _ _ _ rfl (@pi_range2 _ _ _ _ _ _ _ rfl B.range (@pa_cons _ _ _ _ _ pe_int (@pa_cons _ _ _ _ _ pe_int pa_nil (by rfl)) (by rfl)) (by rfl) (by rfl)) (fun nd C s H fp=>⟨(@pg_name _ _ (0) _ nd rfl (by walk_at "o") (by walk_at "o")),yf,(@pe_op _ _ _ _ _ _ _ _ op_add_str pe_str (@zr _ _ _ _ _ _ _ _ _ jq rfl B.str Jn (@pa_cons _ _ _ _ _ (pv 0) pa_nil (by rfl)) (by decide) (by decide) (by rfl) (by rfl)))⟩) (by decide +kernel) (by first | rfl | decide +kernel) (by first | rfl | decide +kernel) rfl (fun _=>rfl)) (by with_unfolding_all rfl)) (@pss_one _ _ _ (@ps_ret _ _ _ _ pe_int)) pss_nil) (@pss_cons _ _ _ _ _ (@ps_set _ _ (2) _ _ _ _ sc_l_due.nd rfl (by walk_at "o") (@zr _ _ _ _ _ _ _ _ _ zAb rfl B.int xi (@pa_cons _ _ _ _ _ (@yc _ _ _ _ _ _ _ _ _ _ jA (@pe_ix _ _ _ _ _ _ _ ix_M (pv 1) pe_int (fun _ _=>rfl)) (@y6 _ _ _ pe_int) y4) pa_nil (by rfl)) (by decide) (by decide) (by rfl) (by rfl)) (by rfl) (by walk_at "o")) (@pss_mid _ _ _ _ _ (@zAk _ _ _ _ (3) _ _ _ _ _ _ _ (["_law_i","_law_ins"]) (1) ([2]) _ _ _ rfl (@pi_range1 _ _ _ _ _ _ rfl B.range (@pa_cons _ _ _ _ _ (pv 2) pa_nil (by rfl)) (by rfl)) (fun nd C s H fp=>⟨(@pg_name _ _ (0) _ nd rfl (by walk_at "o") (by walk_at "o")),yf,(@yE _ _ _ _ _ _ _ _ (["_law_k","_law_i"]) (1) ([0]) _ _ _ rfl (@pi_range1 _ _ _ _ _ _ rfl B.range (@pa_cons _ _ _ _ _ (pv 1) pa_nil (by rfl)) (by rfl)) (fun nd C s H fp=>⟨(@pg_name _ _ (0) _ nd rfl (by walk_at "o") (by walk_at "o")),yf,(@zr _ _ _ _ _ _ _ _ _ y3 rfl B.int xi (@pa_cons _ _ _ _ _ (@pe_cmpR _ _ _ _ _ _ _ _ op_eq (pv 0) (pv 1) (@nomark _ _ (by decide) (by decide))) pa_nil (by rfl)) (by decide) (by decide) (by rfl) (by rfl))⟩) (by decide +kernel) (by first | rfl | decide +kernel) (by first | rfl | decide +kernel) rfl (fun _=>rfl))⟩) (by decide +kernel) (by first | rfl | decide +kernel) (by first | rfl | decide +kernel) rfl (fun _=>rfl) sc_l_due.nd rfl (by walk_at "o") (by walk_at "o") rfl) (@pss_cons _ _ _ _ _ (@ps_set _ _ (4) _ _ _ _ sc_l_due.nd rfl (by walk_at "o") (@pe_lst _ _ _ _ pa_nil) (by rfl) (by walk_at "o")) (@pss_cons _ _ _ _ _ (@ps_set _ _ (5) _ _ _ _ sc_l_due.nd rfl (by walk_at "o") (@pe_lst _ _ _ _ pa_nil) (by rfl) (by walk_at "o")) (@pss_cons _ _ _ _ _ (@ps_for _ _ _ _ _ _ _ _ PassesOwn.never rfl (@pi_range2 _ _ _ _ _ _ _ rfl B.range (@pa_cons _ _ _ _ _ pe_int (@pa_cons _ _ _ _ _ (@pe_callB _ _ _ _ _ _ _ _ _ call_lenM rfl B.len bo_len (@pa_cons _ _ _ _ _ (pv 1) pa_nil (by rfl)) (by decide) (by decide) (by rfl) (by rfl)) pa_nil (by rfl)) (by rfl)) (by rfl) (by rfl)) (@pg_name _ _ (6) _ sc_l_due.nd rfl (by walk_at "o") (by walk_at "o")) (@pss_cons _ _ _ _ _ (@ps_set _ _ (7) _ _ _ _ sc_l_due.nd rfl (by walk_at "o") (@pe_cal _ _ _ _ _ _ _ _ _ _ C_l_line_out hr rfl (@pa_cons _ _ _ _ _ (@pe_ix _ _ _ _ _ _ _ ix_M (pv 1) (pv 6) (fun _ _=>rfl)) pa_nil (by rfl)) (by decide) (by rfl) (by rfl)) (by rfl) (by walk_at "o")) (@pss_cons _ _ _ _ _ (@ps_set _ _ (8) _ _ _ _ sc_l_due.nd rfl (by walk_at "o") (@pe_cal _ _ _ _ _ _ _ _ _ _ C_l_made_row hr rfl (@pa_cons _ _ _ _ _ (pv 3) (@pa_cons _ _ _ _ _ (@pe_cal _ _ _ _ _ _ _ _ _ _ C_l_line_deed hr rfl (@pa_cons _ _ _ _ _ (@pe_ix _ _ _ _ _ _ _ ix_M (pv 1) (pv 6) (fun _ _=>rfl)) pa_nil (by rfl)) (by decide) (by rfl) (by rfl)) pa_nil (by rfl)) (by rfl)) (by decide) (by rfl) (by rfl)) (by rfl) (by walk_at "o")) (@pss_one _ _ _ (@ps_if _ _ _ _ _ _ _ _ (@PW.pt _ _ _ (@pw_and _ _ _ _ _ _ _ (@yu _ _ _ _ _ _ (@pc_notN _ _ _ _ _ (pv 7)) (by first | exact zv _ ( by decide ) ( by decide ) | rfl)) (@pw_and _ _ _ _ _ _ _ (@pt_cmpR _ _ _ _ _ _ _ _ op_lt (@pe_callB _ _ _ _ _ _ _ _ _ call_lenM rfl B.len bo_len (@pa_cons _ _ _ _ _ (pv 5) pa_nil (by rfl)) (by decide) (by decide) (by rfl) (by rfl)) pe_int (@nomark _ _ (by decide) (by decide))) (@pw_and1 _ _ _ _ (@pt_val _ _ _ (@pe_cal _ _ _ _ _ _ _ _ _ _ C_l_is_out hr rfl (@pa_cons _ _ _ _ _ (pv 3) (@pa_cons _ _ _ _ _ (pv 7) pa_nil (by rfl)) (by rfl)) (by decide) (by rfl) (by rfl)) (by intro _ ; rfl)))))) (@pss_one _ _ _ (@ps_expr _ _ _ _ (@pe_bm _ _ _ _ _ _ _ _ _ _ _ _ zh zd zc mt_append (pv 5) (@pa_cons _ _ _ _ _ (pv 7) pa_nil (by rfl)) (by rfl) (by rfl) (by rfl) (by rfl) (by rfl)) (by rfl))) (@pss_one _ _ _ (@ps_if _ _ _ _ _ _ _ _ (@PW.pt _ _ _ (@pw_and _ _ _ _ _ _ _ (@yu _ _ _ _ _ _ (@pc_notN _ _ _ _ _ (pv 8)) (by first | exact zv _ ( by decide ) ( by decide ) | rfl)) (@pw_and1 _ _ _ _ (@pt_cmpR _ _ _ _ _ _ _ _ (@op_eqE _ _ hr) (pv 5) (@pe_lst _ _ _ _ pa_nil) (@nomark _ _ (by decide) (by decide)))))) (@pss_cons _ _ _ _ _ (@ps_expr _ _ _ _ (@pe_bm _ _ _ _ _ _ _ _ _ _ _ _ zh zd zc mt_append (pv 4) (@pa_cons _ _ _ _ _ (@pe_cal _ _ _ _ _ _ _ _ _ _ C_l_line_deed hr rfl (@pa_cons _ _ _ _ _ (@pe_ix _ _ _ _ _ _ _ ix_M (pv 1) (pv 6) (fun _ _=>rfl)) pa_nil (by rfl)) (by decide) (by rfl) (by rfl)) pa_nil (by rfl)) (by rfl) (by rfl) (by rfl) (by rfl) (by rfl)) (by rfl)) (@pss_one _ _ _ (@ps_expr _ _ _ _ (@pe_bm _ _ _ _ _ _ _ _ _ _ _ _ zh zd zc mt_append (pv 3) (@pa_cons _ _ _ _ _ (pv 8) pa_nil (by rfl)) (by rfl) (by rfl) (by rfl) (by rfl) (by rfl)) (by rfl)))) (@pss_one _ _ _ (@ps_ret _ _ _ _ (pv 6))))))))) (by intro _ ; rfl)) (@pss_one _ _ _ (@ps_ret _ _ _ _ (@pe_tup _ _ _ _ _ (@pa_cons _ _ _ _ _ (pv 2) (@pa_cons _ _ _ _ _ (pv 4) (@pa_cons _ _ _ _ _ (pv 5) pa_nil (by rfl)) (by rfl)) (by rfl))))))))))))),?_⟩
 rw [show zp ["_law_text_here","_law_lines","_law_ins","_law_rows","_law_deeds","_law_outs","_law_k","_law_out","_law_row"] [.str x]=[some (.str x),none,none,none,none,none,none,none,none] from rfl]
 have hcnt:=zAm x
 rw [hsp,zP] at hcnt
 have h7:ls.length <= 7:=by have:=hx.2; omega
 have hlen:∀ l ∈ l0 :: ls,l.length <= 640:=fun l hl=>zD (zAe x (Str.ofString "\n") l (by rw [hsp]; exact hl)) hx.1
 refine zY fun R_ hR_=>?_
 (try (walk_at "WP")); (try (refine zT hR_ ?_)); (try (refine zY fun R_ hR_=>?_)); (try (walk_at "WP"))
 refine ⟨by decide +kernel,zD hx.1 (by decide),fun l nl=>?_⟩
 rw [hsp]
 refine yv nl fun H1 s1 h1=>?_
 (try (walk_at "WP")); (try (refine zT hR_ ?_)); (try (refine zY fun R_ hR_=>?_)); (iterate 5 ((try (walk_at "WP")); (try (simp only [h1,qJs,qJt,qJl,qJd,exists_eq_left',exists_eq_left])))); (try (walk_at "WP"))
 refine ⟨.str l0,y7 (j:=0) rfl,?_⟩
 refine comp_R (f:=inKV) (zg (by decide)) (fun y H' R hy hS' hR=>?_) (fun acc hacc=>?_)
 ·obtain ⟨k,hk,rfl⟩:=qP.mp hy
  have hk:=List.mem_range.mp hk
  rw [show yY [] [some (V.str x),some (V.ref l),none,none,none,none,none,none,none]=[] from rfl]
  try walk_at "WP"
  have fl:=j9 (k+1)
  rw [← figI_nat (i:=1+(k:Int)) (by omega)] at fl
  exact ⟨log_s (by omega),szL (by rw [len_in]; omega),hR⟩
 rw [inKV_all]
 refine yv hacc fun H2 s2 h2=>?_
 have h12:=s2 _ _ h1
 have s02:=s1.trans s2
 refine ⟨acc,_,rfl,.inl (SqL.of h2),rfl,by decide +kernel,?_⟩
 rw [if_pos rfl]
 refine ⟨_,rfl,?_⟩
 cases ei:insR (wrds l0) with
 | none =>
  have:inV (.str l0) insV=false:=Bool.eq_false_iff.mpr fun z=>by
   obtain ⟨k,k1,k2,e⟩:=(inV_insV l0).mp z
   exact ins_none ei k k1 k2 e
  rw [this]
  exact q0 ei H2 s02
 | some ni =>
 obtain ⟨n,rfl,n1,n12,el⟩:=ins_line ei
 obtain ⟨qok,qbad⟩:=qn n ei
 rw [(inV_insV l0).mpr ⟨n,n1,n12,el⟩,if_neg (by decide)]
 (try (walk_at "WP")); (try (refine zT hR_ ?_)); (try (refine zY fun R_ hR_=>?_)); (iterate 5 ((try (walk_at "WP")); (try (simp only [h12,qJs,qJt,qJl,qJd,exists_eq_left',exists_eq_left])))); (try (walk_at "WP"))
 refine ⟨.str l0,y7 (j:=0) rfl,?_⟩
 have l0l:=hlen l0 (zK ..)
 rw [w_slS]
 refine ⟨zD l0l (by decide),?_⟩
 rw [el,in3,w_intS]
 refine ⟨zD (JZ (by omega)) (by decide),_,fig_int (by omega),?_⟩
 (try (walk_at "WP")); (try (refine zT hR_ ?_)); (try (refine zY fun R_ hR_=>?_)); (try (walk_at "WP"))
 refine mid_of (fun σ H3=>∃ (rl:Addr) (ys:List V),σ = [some (.str x),some (.ref l),some (.int n),some (.ref rl),none,none,none,none,none] /\ Same H2 H3 /\ H2 rl=none /\ H3 rl=some (.lst ys) /\ HRs H3 [rl] ys (rows0 n)) (fun N hN=>?_) ?_
 ·try walk_at "WP"
  refine ⟨by omega,by omega,?_⟩
  rw [zb]
  refine comp_rows (by omega) (yb n) [] (fun e he=>by cases he) (fun i H' R hi s' hR=>?_) (fun tb vs H3 hn s3 h3 hr3=>?_)
  ·rw [show yY [2] [some (.str x),some (.ref l),some (V.int (n:Int)),none,none,none,none,none,none]=[some (.int n)] from rfl]
   try walk_at "WP"
   refine ⟨by omega,by omega,?_⟩
   rw [zb]
   refine comp_R (f:=unV i) (zg (by omega)) (fun y H5 R5 hy s5 hR5=>?_) (fun acc hacc=>?_)
   ·obtain ⟨k,hk,rfl⟩:=qP.mp hy
    rw [show yY [0] [some (V.int (0+(i:Int))),some (V.int (n:Int))]=[some (V.int (0+(i:Int)))] from rfl]
    try walk_at "WP"
    rw [show (0:Int)+(i:Int)=i by omega]
    exact hR5
   ·rw [unV_map]
    exact hR acc _ hacc (zV hacc _) zL
  ·exact hN _ _ ⟨tb,vs,rfl,s3,hn,h3,hr3⟩
 rintro σ H3 ⟨rl,ys,rfl,s3,nr,hr3,ht3⟩
 have s03:=s02.trans s3
 have nr0:H rl=none:=s02.free nr
 refine zY fun R_ hR_=>?_
 (try (walk_at "WP")); (try (refine zT hR_ ?_)); (try (refine zY fun R_ hR_=>?_)); (try (walk_at "WP"))
 intro da nda
 refine yv nda fun H4 s4 h4=>?_
 (try (walk_at "WP")); (try (refine zT hR_ ?_)); (try (refine zY fun R_ hR_=>?_)); (try (walk_at "WP"))
 intro ob nob
 refine yv nob fun H5 s5 h5=>?_
 have s25:=s3.trans (s4.trans s5)
 have h15:=s25 _ _ h12
 (try (walk_at "WP")); (try (refine zT hR_ ?_)); (try (refine zY fun R_ hR_=>?_)); (iterate 5 ((try (walk_at "WP")); (try (simp only [h15,qJs,qJt,qJl,qJd,exists_eq_left',exists_eq_left])))); (try (walk_at "WP"))
 have e7:(((List.map V.str (l0 :: ls)).length:Nat):Int)=(ls.length:Int)+1:=by rw [qC,zP]; omega
 refine ⟨by omega,?_⟩
 rw [show ((((List.map V.str (l0 :: ls)).length:Nat):Int) - 1).toNat=ls.length by omega]
 have lr:l ≠ rl:=ne_of_none h12 nr
 have ld:l ≠ da:=ne_of_none (s3 _ _ h12) nda
 have lo:l ≠ ob:=ne_of_none ((s3.trans s4) _ _ h12) nob
 have rd:rl ≠ da:=ne_of_none hr3 nda
 have ro:rl ≠ ob:=ne_of_none (s4 _ _ hr3) nob
 have do_:da ≠ ob:=ne_of_none h4 nob
 have nd0:H da=none:=s03.free nda
 have no0:H ob=none:=(s03.trans s4).free nob
 have s05:=s02.trans s25
 refine forR (fun i σ H'=>∃ (o6 o7 o8:Option V) (st:RSt) (ys us ws:List V),σ = [some (.str x),some (.ref l),some (.int n),some (.ref rl),some (.ref da),some (.ref ob),o6,o7,o8] /\ Same H H' /\ H' l=some (.lst ((l0 :: ls).map V.str)) /\ runR n ls i=some st /\ H' rl=some (.lst ys) /\ HRs H' [ob,da,rl] ys (rowsC n st.ds) /\ H' da=some (.lst us) /\ HTs oD H' us st.ds /\ H' ob=some (.lst ws) /\ HTs oD H' ws st.gs) ⟨none,none,none,⟨[],[]⟩,ys,[],[],rfl,s05,h15,rfl,(s4.trans s5) _ _ hr3,(((ht3.new nda).same s4).new nob).same s5,s5 _ _ h4,⟨rfl,fun k d e=>by simp at e⟩,h5,⟨rfl,fun k d e=>by simp at e⟩⟩ ?_ ?_
 ·rintro i σ H6 N hi ⟨o6,o7,o8,st,ys,us,ws,rfl,s6,hl6,hrun,hr6,hrs6,hd6,hus6,ho6,hws6⟩ hN
  have hli:=qA hi
  have hlm:=yM hi
  generalize ls[i]=li at hli hlm
  have lil:=hlen li (zO _ hlm)
  have rb:=run_rbB (i:=i) n12 h7 hrun
  have len:=zAJ hrun
  have gd:=Jc hrun
  have wd:=zAD (zG _) gd.1
  rw [xb] at wd
  have rlen:(rowsC n st.ds).length <= 1000:=by rw [zAa]; omega
  have wl:=hws6.len
  have ul:=hus6.len
  have yl:ys.length=n+st.ds.length:=by rw [hrs6.len,zAa]
  have stp:=JC hrun hli
  have eat:atI ((l0 :: ls).map V.str) (1+(i:Int))=some (.str li):=by
   rw [show (1+(i:Int))=((i+1:Nat):Int) by omega]
   refine y7 ?_
   rw [zU,jz,qI,hli]
   rfl
  refine seq_inG fun R_ hR_=>?_
  (try (walk_at "WP")); (try (refine zT hR_ ?_)); (try (refine zY fun R_ hR_=>?_)); (iterate 5 ((try (walk_at "WP")); (try (simp only [hl6,qJs,qJt,qJl,qJd,exists_eq_left',exists_eq_left])))); (try (walk_at "WP"))
  refine ⟨_,eat,?_⟩
  refine lout_val lil fun v7 H7 t7 g7=>?_
  have hl7:=t7 _ _ hl6
  (try (walk_at "WP")); (try (refine zT hR_ ?_)); (try (refine zY fun R_ hR_=>?_)); (iterate 5 ((try (walk_at "WP")); (try (simp only [hl7,qJs,qJt,qJl,qJd,exists_eq_left',exists_eq_left])))); (try (walk_at "WP"))
  refine ⟨_,eat,?_⟩
  refine ldeed_val lil fun v8 H8 t8 g8=>?_
  have t68:=t7.trans t8
  refine made_val (t68 _ _ hr6) ((hrs6.same t68).sub (by simp)) g8.itm rb wd n12 fun v9 H9 t9 g9=>?_
  have t69:=t68.trans t9
  have s9:=s6.trans t69
  have g7':=g7.same (t8.trans t9)
  (try (walk_at "WP")); (try (refine zT hR_ ?_)); (try (refine zY fun R_ hR_=>?_)); (try (walk_at "WP"))
  have els:∀ H',Same H9 H' -> ¬ (st.gs.length < 12 /\ xg (rowsC n st.ds) (xK (wrds li))=true) -> (if ¬v9=V.non then ∀ (p:Addr),H' p=none -> rEqE K (V.ref ob) (V.ref p) (upd H' p (HO.lst [])) fun x_3 H'=>∃ k,x_3=V.bl k /\ if k=true then tyV K "list" (V.ref da) H' /\ ∃ xs,H' l=some (HO.lst xs) /\ ∃ v,atI xs (1+(i:Int))=some v /\ spLDeedL [v] H' (fun x_4 H1=>∃ xs,H1 da=some (HO.lst xs) /\ xs.length < sizeLine /\ tyV K "list" (V.ref rl) (upd H1 da (HO.lst (xs ++ [x_4]))) /\ ∃ xs_1,upd H1 da (HO.lst (xs ++ [x_4])) rl=some (HO.lst xs_1) /\ xs_1.length < sizeLine /\ N [some (V.str x),some (V.ref l),some (V.int (n:Int)),some (V.ref rl),some (V.ref da),some (V.ref ob),some (V.int (1+(i:Int))),some v7,some v9] (upd (upd H1 da (HO.lst (xs ++ [x_4]))) rl (HO.lst (xs_1 ++ [v9])))) E0 else Q (V.int (1+(i:Int))) H' else Q (V.int (1+(i:Int))) H'):=fun H' s' hno=>by
   have sG:=t69.trans s'
   rcases g9 with ⟨e9,rfl⟩ | ⟨e9,r9,rfl,nr9,hr9⟩
   ·rw [if_neg (fun z=>z rfl),show (1+(i:Int))=((i+1:Nat):Int) by omega]
    exact qbad i st li hli hrun (stp_nil rlen hno (fun z=>by rw [e9] at z; cases z.1)) H' (s6.trans sG)
   ·rw [if_pos (by intro z; cases z)]
    intro p np
    refine yv np fun G1 u1 k1=>?_
    have sA:=sG.trans u1
    rw [w_eqE]
    refine ⟨ws,SqL.of (sA _ _ ho6),SqL.of k1,_,rfl,?_⟩
    by_cases c1:ws.length=0
    rotate_left
    ·rw [decide_eq_false c1,if_neg (by decide),show (1+(i:Int))=((i+1:Nat):Int) by omega]
     exact qbad i st li hli hrun (stp_nil rlen hno (fun z=>c1 (by rw [wl]; exact z.2))) G1 (s6.trans sA)
    rw [decide_eq_true c1,if_pos rfl]
    refine ⟨xQ (sA _ _ hd6),_,sA _ _ hl6,_,eat,?_⟩
    refine ldeed_val lil fun v10 G2 u2 g10=>?_
    have sB:=sA.trans u2
    have hd2:=sB _ _ hd6
    rcases g10 with ⟨e10,rfl⟩ | ⟨cc,r10,e10,rfl,h10,_⟩
    ·rw [e10] at e9
     cases e9
    refine ⟨us,hd2,qJ (by omega:us.length < 1000) (zg (by decide)),?_⟩
    have t89:Same H8 G2:=t9.trans (s'.trans (u1.trans u2))
    have r9r:r9 ≠ rl:=(ne_of_none (t68 _ _ hr6) nr9).symm
    have r9d:r9 ≠ da:=(ne_of_none (t68 _ _ hd6) nr9).symm
    have r9o:r9 ≠ ob:=(ne_of_none (t68 _ _ ho6) nr9).symm
    have hr9':=(s'.trans (u1.trans u2)) _ _ hr9
    have C1:=Chg.upd (H:=G2) (p:=da) (HO.lst (us ++ [.ref r10]))
    have k2:upd G2 da (HO.lst (us ++ [.ref r10])) rl=some (.lst ys):=by rw [upd_ne rd]; exact sB _ _ hr6
    have k3:upd G2 da (HO.lst (us ++ [.ref r10])) r10=some (.tup cc):=by rw [upd_ne (Jh h10 hd2 (by intro z; cases z))]; exact h10
    have k4:upd G2 da (HO.lst (us ++ [.ref r10])) ob=some (.lst ws):=by rw [upd_ne do_.symm]; exact sB _ _ ho6
    have k5:upd G2 da (HO.lst (us ++ [.ref r10])) l=some (.lst ((l0 :: ls).map V.str)):=by rw [upd_ne ld]; exact sB _ _ hl6
    have k6:upd G2 da (HO.lst (us ++ [.ref r10])) da=some (.lst (us ++ [.ref r10])):=zL
    have k7:=(hrs6.same sB).chg (l:=da) (by simp) C1
    have k8:=((hus6.same sB).chgL hd2 C1).snoc (x:=some cc) k3
    have k9:=(hws6.same sB).chgL hd2 C1
    have k10:upd G2 da (HO.lst (us ++ [.ref r10])) r9=some (.lst ((rowC (rowsC n st.ds) (xR (wrds li))).map V.int)):=by rw [upd_ne r9d]; exact hr9'
    have k11:Same H (upd G2 da (HO.lst (us ++ [.ref r10]))):=yg nd0 (s6.trans sB)
    generalize upd G2 da (HO.lst (us ++ [.ref r10]))=G3 at k2 k3 k4 k5 k6 k7 k8 k9 k10 k11 ⊢
    refine ⟨xQ k2,ys,k2,qJ (by omega:ys.length < 1000) (zg (by decide)),?_⟩
    have C2:=Chg.upd (H:=G3) (p:=rl) (HO.lst (ys ++ [.ref r9]))
    refine hN _ _ ⟨_,_,_,⟨st.ds ++ [xR (wrds li)],st.gs⟩,ys ++ [.ref r9],us ++ [.ref r10],ws,rfl,yg nr0 k11,?_,?_,zL,?_,?_,?_,?_,?_⟩
    ·rw [upd_ne lr]; exact k5
    ·rw [stp]
     exact stp_dee rlen (by omega) e9
    ·rw [j8]
     refine (k7.chg (l:=rl) (by simp) C2).snoc (by rw [upd_ne r9r]; exact k10) (fun e he=>?_)
     simp only [zI,zR,or_false] at he
     rcases he with rfl | rfl | rfl
     ·exact r9o
     ·exact r9d
     ·exact r9r
    ·rw [upd_ne rd.symm]; exact k6
    ·rw [e10]
     exact k8.chgL k2 C2
    ·rw [upd_ne ro.symm]; exact k4
    ·exact k9.chgL k2 C2
  rcases g7' with ⟨e7',rfl⟩ | ⟨cc,r7,e7',rfl,h7',_⟩
  ·rw [if_neg (fun z=>z rfl)]
   exact els H9 (Same.refl _) (fun z=>by rw [e7'] at z; cases z.2)
  ·rw [if_pos (by intro z; cases z)]
   refine ⟨ws,t69 _ _ ho6,?_⟩
   refine y8 (fun c=>?_) (fun c=>?_)
   ·refine ⟨rl,_,xK (wrds li),ys,_,rfl,t69 _ _ hr6,(hrs6.same t69).sub (by simp),(g7.same (t8.trans t9)).itm,rb,fun H10 s10=>⟨_,rfl,?_⟩⟩
    have sG:=t69.trans s10
    cases g:xg (rowsC n st.ds) (xK (wrds li)) with
    | false =>
     rw [if_neg (by decide)]
     exact els H10 s10 (fun z=>by rw [g] at z; cases z.2)
    | true =>
     rw [if_pos rfl]
     have ho10:=sG _ _ ho6
     refine ⟨xQ ho10,ws,ho10,qJ (by omega:ws.length < 1000) (zg (by decide)),?_⟩
     have h10:=s10 _ _ h7'
     have C:=Chg.upd (H:=H10) (p:=ob) (HO.lst (ws ++ [.ref r7]))
     refine hN _ _ ⟨_,_,_,⟨st.ds,st.gs ++ [xK (wrds li)]⟩,ys,us,ws ++ [.ref r7],rfl,yg no0 (s6.trans sG),?_,?_,?_,(hrs6.same sG).chg (l:=ob) (by simp) C,?_,(hus6.same sG).chgL ho10 C,zL,?_⟩
     ·rw [upd_ne lo]; exact sG _ _ hl6
     ·rw [stp]
      exact stp_out rlen (by omega) g
     ·rw [upd_ne ro]; exact sG _ _ hr6
     ·rw [upd_ne do_]; exact sG _ _ hd6
     ·refine ((hws6.same sG).chgL ho10 C).snoc ?_
      rw [e7',upd_ne (Jh h10 ho10 (by intro z; cases z))]
      exact h10
   ·exact els H9 (Same.refl _) (fun z=>by omega)
 ·rintro σ H6 ⟨o6,o7,o8,st,ys,us,ws,rfl,s6,hl6,hrun,hr6,hrs6,hd6,hus6,ho6,hws6⟩
  (try (walk_at "WP")); (try (refine zT hR_ ?_)); (try (refine zY fun R_ hR_=>?_)); (try (walk_at "WP"))
  intro r nr6
  obtain ⟨ds,gs,rfl⟩:=run_st hrun
  obtain ⟨w1,w2⟩:=hts_web hus6 hws6
  have sr:=zV nr6 (.tup [.int n,.ref da,.ref ob])
  exact qok ds gs hrun r da ob us ws _ (s6.trans sr) ⟨zL,sr _ _ hd6,w1.same sr,sr _ _ ho6,(w2.same sr).hk⟩
end
section
variable {P:Program}{w:World}{K:zA}{mg:Str -> Option Value}{base:Heap}
theorem ok_toldL (T:Txt K mg) (D_WORDS_BY_SIGN:CDgm w.params K mg "WORDS_BY_SIGN" [("+","sum"),("-","less")]) {cst_NoText:Addr} (mg_NoText:mg "NoText" = some (.ref cst_NoText)) (M_NoText:XCls P w K mg base cst_NoText "line") (hek:L2.excK K cst_NoText=true) (hsetX:setX K cst_NoText "line" = true) (hsub:L2.subIn K cst_NoText cst_NoText=true):Cal P w K mg base 7 "_law_told" ["_law_text_here"] (spToldL K):=by
 have B:=T.bl
 have X_read:=ok_read (P:=P) (w:=w) (base:=base) T D_WORDS_BY_SIGN mg_NoText M_NoText
 have eb_NoText:=M_NoText.exb
 refine yD T.t_l_told sc_l_told (fun vs H Q E h=>?_) (fun f cdv A outer s H vs Q E hr h=>?_)
 ·obtain ⟨_,_,_,rfl,_⟩:=h
  rfl
 obtain ⟨x,l0,ls,rfl,hx,hsp,q0,qn⟩:=h
 refine ⟨_,((@pss_cons _ _ _ _ _ (@ps_set _ _ (1) _ _ _ _ sc_l_told.nd rfl (by walk_at "o") pe_non (by rfl) (by walk_at "o")) (@pss_cons _ _ _ _ _ (@ps_tryM _ _ _ _ _ (cst_NoText) (2) _ _ _ _ _ _ (@psx_set _ (1) _ _ _ _ _ sc_l_told.nd rfl (by walk_at "o") (@pex_call _ _ _ _ _ _ _ _ _ _ X_read hr (fun _ z=>nomatch z) rfl (@pa_cons _ _ _ _ _ (pv 0) pa_nil (by rfl)) (by decide) (by rfl) (by rfl)) (by rfl) (by walk_at "o")) eb_NoText rfl mg_NoText sc_l_told.nd rfl rfl rfl rfl _ rfl (fun _=>(@pss_one _ _ _ (@ps_set _ _ (1) _ _ _ _ sc_l_told.nd rfl (by walk_at "o") (@pe_fldK K _ _ _ _ _ _ (pv 2) (by rfl)) (by rfl) (by walk_at "o")))) (by decide)) (@pss_one _ _ _ (@ps_ret _ _ _ _ (pv 1)))))),?_⟩
 rw [show zp ["_law_text_here","_law_told_here","e"] [.str x]=[some (.str x),none,none] from rfl]
 try walk_at "WP"
 rw [w_tryB]
 unfold xSet xCall
 have hand:∀ (k:Nat) (d:Addr) (H1:Hp),Same H H1 -> H1 d=some (.xd [("line",.int (k:Nat))]) -> (∀ H',Same H H' -> Q (.int (k:Nat)) H') -> (∃ c,Value.ref cst_NoText=Value.ref c /\ ExCls K c /\ subIn K c cst_NoText=true /\ ∀ (x_1:Addr),H1 x_1=none -> tAsg (tFldE K (tVar 2) (Str.ofString "line")) (jB 1) (hEnds { nx:=tRet (tVar 1) { nx:=fun x H'=>Q V.non H',rt:=Q },rt:=Q } 2) ([some (V.str x),some V.non,none].set 2 (some (V.ref x_1))) (upd H1 x_1 (Exc x_1 (Value.ref cst_NoText) (some d)))):=fun k d H1 s1 h1 q=>by
  refine ⟨cst_NoText,rfl,M_NoText.cls,hsub,fun e ne=>?_⟩
  have s2:=zV ne (Exc e (.ref cst_NoText) (some d))
  have he:upd H1 e (Exc e (.ref cst_NoText) (some d)) e=some (Exc e (.ref cst_NoText) (some d)):=zL
  have hd:=s2 _ _ h1
  generalize upd H1 e (Exc e (.ref cst_NoText) (some d))=H2 at s2 he hd ⊢
  try walk_at "WP"
  rw [w_fldE]
  refine ⟨.ref e,rfl,e,cst_NoText,d,_,_,rfl,he,hd,hek,hsetX,rfl,?_⟩
  try walk_at "WP"
  show tRet (tVar 1) { nx:=fun x H'=>Q V.non H',rt:=Q } [some (V.str x),some (V.int (k:Int)),none] H2
  try walk_at "WP"
  exact q _ (s1.trans s2)
 try walk_at "WP"
 refine read_B hx hsp (fun e d H1 nd s1 h1=>hand 0 d H1 s1 h1 (q0 e)) fun n e=>⟨fun ds gs hrun r a b us ws H1 s1 W=>?_,fun i st y hy hr' hn d H1 nd s1 h1=>hand (i+1) d H1 s1 h1 ((qn n e).2 i st y hy hr' hn)⟩
 try walk_at "WP"
 exact (qn n e).1 ds gs hrun r a b us ws H1 s1 W
theorem ok_same64 (T:Txt K mg) (D_WORDS_BY_SIGN:CDgm w.params K mg "WORDS_BY_SIGN" [("+","sum"),("-","less")]) {cst_NoText:Addr} (mg_NoText:mg "NoText" = some (.ref cst_NoText)) (M_NoText:XCls P w K mg base cst_NoText "line") (hek:L2.excK K cst_NoText=true) (hsetX:setX K cst_NoText "line" = true) (hsub:L2.subIn K cst_NoText cst_NoText=true):Cal P w K mg base 8 "_law_same" ["_law_text_here"] spSame64:=by
 have B:=T.bl
 have C_l_told:=ok_toldL (P:=P) (w:=w) (base:=base) T D_WORDS_BY_SIGN mg_NoText M_NoText hek hsetX hsub
 have C_l_due:=(ok_dueL (P:=P) (w:=w) (base:=base) T).mono (k:=7) (by decide)
 refine yD T.t_l_same sc_l_same (fun vs H Q E h=>?_) (fun f cdv A outer s H vs Q E hr h=>?_)
 ·obtain ⟨_,rfl,_⟩:=h
  rfl
 obtain ⟨x,rfl,hx,q⟩:=h
 refine ⟨_,((@pss_cons _ _ _ _ _ (@ps_set _ _ (1) _ _ _ _ sc_l_same.nd rfl (by walk_at "o") (@pe_cal _ _ _ _ _ _ _ _ _ _ C_l_due hr rfl (@pa_cons _ _ _ _ _ (pv 0) pa_nil (by rfl)) (by decide) (by rfl) (by rfl)) (by rfl) (by walk_at "o")) (@pss_cons _ _ _ _ _ (@ps_set _ _ (2) _ _ _ _ sc_l_same.nd rfl (by walk_at "o") (@pe_cal _ _ _ _ _ _ _ _ _ _ C_l_told hr rfl (@pa_cons _ _ _ _ _ (pv 0) pa_nil (by rfl)) (by decide) (by rfl) (by rfl)) (by rfl) (by walk_at "o")) (@pss_one _ _ _ (@ps_ret _ _ _ _ (@j4 _ _ _ _ _ _ _ (@pe_cmpR _ _ _ _ _ _ _ _ (@op_eqW _ _ hr) (pv 2) (pv 1) (@nomark _ _ (by decide) (by decide))) (@j3 _ _ _ _ _ (@pe_not _ _ _ _ (@pe_callB _ _ _ _ _ _ _ _ _ x4 rfl B.isinstance zw (@pa_cons _ _ _ _ _ (pv 2) (@pa_cons _ _ _ _ _ (@xh _ _ (.ty "bool") _ _ rfl B.bool bo_bool rfl (by decide) (by decide)) pa_nil (by rfl)) (by rfl)) (by decide) (by decide) (by rfl) (by rfl)))))))))),?_⟩
 rw [show zp ["_law_text_here","_law_due_here","_law_told_here"] [.str x]=[some (.str x),none,none] from rfl]
 obtain ⟨l0,ls,hsp⟩:∃ l0 ls,Txt.split x (Str.ofString "\n")=l0 :: ls:=by
  cases e:Txt.split x (Str.ofString "\n") with
  | nil=>exact absurd e (split_ne _ _)
  | cons a r=>exact ⟨a,r,rfl⟩
 try walk_at "WP"
 have eqk:∀ (k:Nat) H1,Same H H1 -> (rEqW K (.int (k:Nat)) (.int (k:Nat)) H1 fun x_2 H1=>∃ c,x_2=V.bl c /\ if c=true then rIsI K [V.int (k:Nat),V.ty "bool"] H1 fun x H1=>∃ c,x=V.bl c /\ Q (V.bl !c) H1 else Q (V.bl false) H1):=fun k H1 s1=>by
  refine .inr ?_
  rw [w_eqI,decide_eq_true rfl]
  refine ⟨true,rfl,?_⟩
  rw [if_pos rfl,J1]
  exact ⟨false,rfl,q _ s1⟩
 refine ⟨x,l0,ls,rfl,hx,hsp,fun e H1 s1=>?_,fun n e=>⟨fun ds gs hrun r a b us ws H1 s1 W=>?_,fun i st y hy hr' hn H1 s1=>?_⟩⟩
 ·refine ⟨x,l0,ls,rfl,hx,hsp,fun _ H2 s2=>eqk 0 H2 (s1.trans s2),fun n e'=>?_⟩
  rw [e] at e'
  cases e'
 ·refine ⟨x,l0,ls,rfl,hx,hsp,fun e'=>?_,fun n' e'=>?_⟩
  ·rw [e] at e'
   cases e'
  ·rw [e] at e'
   have:n=n':=by have:=Option.some.inj e'; omega
   subst this
   refine ⟨fun ds' gs' hrun' r' a' b' us' ws' H2 s2 W'=>?_,fun i st y hy hr' hn=>(zAg hy hr' hn hrun).elim⟩
   rw [hrun] at hrun'
   have hh:=Option.some.inj hrun'
   injection hh with h1 h2
   have h1:=cW_inj h1
   have h2:=cG_inj h2
   subst h1 h2
   have W2:=W.same s2
   refine .inl ⟨r',_,_,rfl,W'.is,W2.is,dep_web _ _ _,?_⟩
   rw [deq_web.mpr ⟨rfl,rfl,rfl⟩]
   refine ⟨true,rfl,?_⟩
   rw [if_pos rfl]
   exact isI_tb W'.tup ⟨false,rfl,q _ (s1.trans s2)⟩
 ·refine ⟨x,l0,ls,rfl,hx,hsp,fun e'=>?_,fun n' e'=>?_⟩
  ·rw [e] at e'
   cases e'
  ·rw [e] at e'
   have:n=n':=by have:=Option.some.inj e'; omega
   subst this
   refine ⟨fun ds' gs' hrun'=>(zAg hy hr' hn hrun').elim,fun j st' y' hy' hr'' hn' H2 s2=>?_⟩
   have:=stop_uniq hy hr' hn hy' hr'' hn'
   subst this
   exact eqk (i+1) H2 (s1.trans s2)
end
section
variable {P:Program}{w:World}{K:zA}{mg:Str -> Option Value}{base:Heap}
theorem ok_net (T:Txt K mg):Cal P w K mg base 12 "_law_net" ["_law_feed_here","_law_many","_law_few"] spNet64:=by
 have B:=T.bl
 have C_l_take:=(ok_take (P:=P) (w:=w) (base:=base) T).mono (k:=11) (by decide)
 have C_l_shift:=ok_fshift (P:=P) (w:=w) (base:=base) T
 have C_l_moved:=(ok_fmoved (P:=P) (w:=w) (base:=base) T).mono (k:=11) (by decide)
 refine yD T.t_l_net sc_l_net (fun vs H Q E h=>?_) (fun f cdv A outer s H vs Q E hr h=>?_)
 ·obtain ⟨p,c,most,few,rfl,_⟩:=h
  rfl
 obtain ⟨p,c,most,few,rfl,hF,hc,hm0,hm1,hf0,hf1,q⟩:=h
 refine ⟨_,((@pss_cons _ _ _ _ _ (@ps_set _ _ (3) _ _ _ _ sc_l_net.nd rfl (by walk_at "o") (@pe_op _ _ _ _ _ _ _ _ op_add pe_int (@pe_cal _ _ _ _ _ _ _ _ _ _ C_l_take hr rfl (@pa_cons _ _ _ _ _ (pv 0) (@pa_cons _ _ _ _ _ pe_int pa_nil (by rfl)) (by rfl)) (by decide) (by rfl) (by rfl))) (by rfl) (by walk_at "o")) (@pss_mid _ _ _ _ _ (@zAk _ _ _ _ (4) _ _ _ _ _ _ _ (["_law_i","_law_ins"]) (1) ([3]) _ _ _ rfl (@pi_range1 _ _ _ _ _ _ rfl B.range (@pa_cons _ _ _ _ _ (pv 3) pa_nil (by rfl)) (by rfl)) (fun nd C s H fp=>⟨(@pg_name _ _ (0) _ nd rfl (by walk_at "o") (by walk_at "o")),yf,(@yE _ _ _ _ _ _ _ _ (["_law_k","_law_i"]) (1) ([0]) _ _ _ rfl (@pi_range1 _ _ _ _ _ _ rfl B.range (@pa_cons _ _ _ _ _ (pv 1) pa_nil (by rfl)) (by rfl)) (fun nd C s H fp=>⟨(@pg_name _ _ (0) _ nd rfl (by walk_at "o") (by walk_at "o")),yf,(@zr _ _ _ _ _ _ _ _ _ y3 rfl B.int xi (@pa_cons _ _ _ _ _ (@pe_cmpR _ _ _ _ _ _ _ _ op_eq (pv 0) (pv 1) (@nomark _ _ (by decide) (by decide))) pa_nil (by rfl)) (by decide) (by decide) (by rfl) (by rfl))⟩) (by decide +kernel) (by first | rfl | decide +kernel) (by first | rfl | decide +kernel) rfl (fun _=>rfl))⟩) (by decide +kernel) (by first | rfl | decide +kernel) (by first | rfl | decide +kernel) rfl (fun _=>rfl) sc_l_net.nd rfl (by walk_at "o") (by walk_at "o") rfl) (@pss_cons _ _ _ _ _ (@ps_set _ _ (5) _ _ _ _ sc_l_net.nd rfl (by walk_at "o") (@pe_lst _ _ _ _ pa_nil) (by rfl) (by walk_at "o")) (@pss_mid _ _ _ _ _ (@ps_for _ _ _ _ _ _ _ _ PassesOwn.never rfl (@pi_range1 _ _ _ _ _ _ rfl B.range (@pa_cons _ _ _ _ _ (@pe_cal _ _ _ _ _ _ _ _ _ _ C_l_take hr rfl (@pa_cons _ _ _ _ _ (pv 0) (@pa_cons _ _ _ _ _ (@pe_op _ _ _ _ _ _ _ _ op_add (pv 1) pe_int) pa_nil (by rfl)) (by rfl)) (by decide) (by rfl) (by rfl)) pa_nil (by rfl)) (by rfl)) (@pg_name _ _ (6) _ sc_l_net.nd rfl (by walk_at "o") (by walk_at "o")) (@pss_cons _ _ _ _ _ (@ps_set _ _ (7) _ _ _ _ sc_l_net.nd rfl (by walk_at "o") (@pe_cal _ _ _ _ _ _ _ _ _ _ C_l_take hr rfl (@pa_cons _ _ _ _ _ (pv 0) (@pa_cons _ _ _ _ _ (@pe_callB _ _ _ _ _ _ _ _ _ call_lenM rfl B.len bo_len (@pa_cons _ _ _ _ _ (pv 4) pa_nil (by rfl)) (by decide) (by decide) (by rfl) (by rfl)) pa_nil (by rfl)) (by rfl)) (by decide) (by rfl) (by rfl)) (by rfl) (by walk_at "o")) (@pss_cons _ _ _ _ _ (@ps_set _ _ (8) _ _ _ _ sc_l_net.nd rfl (by walk_at "o") (@pe_op _ _ _ _ _ _ _ _ JE (@pe_op _ _ _ _ _ _ _ _ JE (@pe_callB _ _ _ _ _ _ _ _ _ call_lenM rfl B.len bo_len (@pa_cons _ _ _ _ _ (pv 4) pa_nil (by rfl)) (by decide) (by decide) (by rfl) (by rfl)) pe_int) (@pe_cal _ _ _ _ _ _ _ _ _ _ C_l_take hr rfl (@pa_cons _ _ _ _ _ (pv 0) (@pa_cons _ _ _ _ _ (@pe_callB _ _ _ _ _ _ _ _ _ (@call_min2 _ rfl) rfl B.min bo_min (@pa_cons _ _ _ _ _ pe_int (@pa_cons _ _ _ _ _ (@pe_callB _ _ _ _ _ _ _ _ _ call_lenM rfl B.len bo_len (@pa_cons _ _ _ _ _ (pv 4) pa_nil (by rfl)) (by decide) (by decide) (by rfl) (by rfl)) pa_nil (by rfl)) (by rfl)) (by decide) (by decide) (by rfl) (by rfl)) pa_nil (by rfl)) (by rfl)) (by decide) (by rfl) (by rfl))) (by rfl) (by walk_at "o")) (@pss_cons _ _ _ _ _ (@ps_set _ _ (9) _ _ _ _ sc_l_net.nd rfl (by walk_at "o") (@pe_cal _ _ _ _ _ _ _ _ _ _ C_l_shift hr rfl (@pa_cons _ _ _ _ _ (pv 0) (@pa_cons _ _ _ _ _ (@pe_ix _ _ _ _ _ _ _ ix_M (pv 4) (pv 7) (fun _ _=>rfl)) pa_nil (by rfl)) (by rfl)) (by decide) (by rfl) (by rfl)) (by rfl) (by walk_at "o")) (@pss_cons _ _ _ _ _ (@ps_set _ _ (10) _ _ _ _ sc_l_net.nd rfl (by walk_at "o") (@pe_cal _ _ _ _ _ _ _ _ _ _ C_l_shift hr rfl (@pa_cons _ _ _ _ _ (pv 0) (@pa_cons _ _ _ _ _ (@pe_ix _ _ _ _ _ _ _ ix_M (pv 4) (pv 8) (fun _ _=>rfl)) pa_nil (by rfl)) (by rfl)) (by decide) (by rfl) (by rfl)) (by rfl) (by walk_at "o")) (@pss_cons _ _ _ _ _ (@ps_set _ _ (11) _ _ _ _ sc_l_net.nd rfl (by walk_at "o") (@pe_op _ _ _ _ _ _ _ _ JE pe_int (@pe_op _ _ _ _ _ _ _ _ yR pe_int (@pe_cal _ _ _ _ _ _ _ _ _ _ C_l_take hr rfl (@pa_cons _ _ _ _ _ (pv 0) (@pa_cons _ _ _ _ _ pe_int pa_nil (by rfl)) (by rfl)) (by decide) (by rfl) (by rfl)))) (by rfl) (by walk_at "o")) (@pss_cons _ _ _ _ _ (@ps_expr _ _ _ _ (@pe_bm _ _ _ _ _ _ _ _ _ _ _ _ zh zd zc mt_append (pv 5) (@pa_cons _ _ _ _ _ (@pe_tup _ _ _ _ _ (@pa_cons _ _ _ _ _ (@pe_ix _ _ _ _ _ _ _ ix_M (@pe_lst _ _ _ _ (@pa_cons _ _ _ _ _ pe_str (@pa_cons _ _ _ _ _ pe_str pa_nil (by rfl)) (by rfl))) (@zr _ _ _ _ _ _ _ _ _ y3 rfl B.int xi (@pa_cons _ _ _ _ _ (@pe_cmpR _ _ _ _ _ _ _ _ op_eq (pv 11) pe_int (@nomark _ _ (by decide) (by decide))) pa_nil (by rfl)) (by decide) (by decide) (by rfl) (by rfl)) (fun _ _=>rfl)) (@pa_cons _ _ _ _ _ (pv 7) (@pa_cons _ _ _ _ _ (pv 9) (@pa_cons _ _ _ _ _ (pv 8) (@pa_cons _ _ _ _ _ (pv 10) pa_nil (by rfl)) (by rfl)) (by rfl)) (by rfl)) (by rfl))) pa_nil (by rfl)) (by rfl) (by rfl) (by rfl) (by rfl) (by rfl)) (by rfl)) (@pss_cons _ _ _ _ _ (@ps_set _ _ (12) _ _ _ _ sc_l_net.nd rfl (by walk_at "o") (@pe_listzip _ K _ _ _ _ _ _ _ rfl rfl B.list rfl B.zip (@pa_cons _ _ _ _ _ (@pe_cal _ _ _ _ _ _ _ _ _ _ C_l_moved hr rfl (@pa_cons _ _ _ _ _ (@pe_ix _ _ _ _ _ _ _ ix_M (pv 4) (pv 7) (fun _ _=>rfl)) (@pa_cons _ _ _ _ _ (pv 9) pa_nil (by rfl)) (by rfl)) (by decide) (by rfl) (by rfl)) (@pa_cons _ _ _ _ _ (@pe_cal _ _ _ _ _ _ _ _ _ _ C_l_moved hr rfl (@pa_cons _ _ _ _ _ (@pe_ix _ _ _ _ _ _ _ ix_M (pv 4) (pv 8) (fun _ _=>rfl)) (@pa_cons _ _ _ _ _ (pv 10) pa_nil (by rfl)) (by rfl)) (by decide) (by rfl) (by rfl)) pa_nil (by rfl)) (by rfl)) (by rfl) (by rfl) (by rfl) (by rfl) (by rfl)) (by rfl) (by walk_at "o")) (@pss_one _ _ _ (@ps_expr _ _ _ _ (@pe_bm _ _ _ _ _ _ _ _ _ _ _ _ zh zd zc mt_append (pv 4) (@pa_cons _ _ _ _ _ (@yE _ _ _ _ _ _ _ _ (["_law_one","_law_other","_law_sign"]) (2) ([11]) _ _ _ rfl (@pi_list _ _ _ _ (pv 12)) (fun nd C s H fp=>⟨(@jY _ _ _ _ _ 2 rfl (@zz _ _ _ _ _ (@pg_name _ _ (0) _ nd rfl (by walk_at "o") (by walk_at "o")) (@zz _ _ _ _ _ (@pg_name _ _ (1) _ nd rfl (by walk_at "o") (by walk_at "o")) jW (by rfl)) (by rfl)) (by rfl) (by rfl)),yf,(@pe_op _ _ _ _ _ _ _ _ op_add (pv 0) (@pe_op _ _ _ _ _ _ _ _ yR (pv 2) (pv 1)))⟩) (by decide +kernel) (by first | rfl | decide +kernel) (by first | rfl | decide +kernel) rfl (fun _=>rfl)) pa_nil (by rfl)) (by rfl) (by rfl) (by rfl) (by rfl) (by rfl)) (by rfl)))))))))) (by intro _ ; rfl)) (@pss_cons _ _ _ _ _ (@ps_set _ _ (13) _ _ _ _ sc_l_net.nd rfl (by walk_at "o") (@pe_lst _ _ _ _ pa_nil) (by rfl) (by walk_at "o")) (@pss_mid _ _ _ _ _ (@ps_for _ _ _ _ _ _ _ _ PassesOwn.never rfl (@pi_range1 _ _ _ _ _ _ rfl B.range (@pa_cons _ _ _ _ _ (@pe_cal _ _ _ _ _ _ _ _ _ _ C_l_take hr rfl (@pa_cons _ _ _ _ _ (pv 0) (@pa_cons _ _ _ _ _ (@pe_op _ _ _ _ _ _ _ _ op_add (pv 2) pe_int) pa_nil (by rfl)) (by rfl)) (by decide) (by rfl) (by rfl)) pa_nil (by rfl)) (by rfl)) (@pg_name _ _ (6) _ sc_l_net.nd rfl (by walk_at "o") (by walk_at "o")) (@pss_cons _ _ _ _ _ (@ps_set _ _ (14) _ _ _ _ sc_l_net.nd rfl (by walk_at "o") (@pe_op _ _ _ _ _ _ _ _ JE (@pe_op _ _ _ _ _ _ _ _ JE (@pe_callB _ _ _ _ _ _ _ _ _ call_lenM rfl B.len bo_len (@pa_cons _ _ _ _ _ (pv 4) pa_nil (by rfl)) (by decide) (by decide) (by rfl) (by rfl)) pe_int) (@pe_cal _ _ _ _ _ _ _ _ _ _ C_l_take hr rfl (@pa_cons _ _ _ _ _ (pv 0) (@pa_cons _ _ _ _ _ (@pe_callB _ _ _ _ _ _ _ _ _ (@call_min2 _ rfl) rfl B.min bo_min (@pa_cons _ _ _ _ _ pe_int (@pa_cons _ _ _ _ _ (@pe_callB _ _ _ _ _ _ _ _ _ call_lenM rfl B.len bo_len (@pa_cons _ _ _ _ _ (pv 4) pa_nil (by rfl)) (by decide) (by decide) (by rfl) (by rfl)) pa_nil (by rfl)) (by rfl)) (by decide) (by decide) (by rfl) (by rfl)) pa_nil (by rfl)) (by rfl)) (by decide) (by rfl) (by rfl))) (by rfl) (by walk_at "o")) (@pss_one _ _ _ (@ps_expr _ _ _ _ (@pe_bm _ _ _ _ _ _ _ _ _ _ _ _ zh zd zc mt_append (pv 13) (@pa_cons _ _ _ _ _ (@pe_tup _ _ _ _ _ (@pa_cons _ _ _ _ _ (pv 14) (@pa_cons _ _ _ _ _ (@pe_cal _ _ _ _ _ _ _ _ _ _ C_l_shift hr rfl (@pa_cons _ _ _ _ _ (pv 0) (@pa_cons _ _ _ _ _ (@pe_ix _ _ _ _ _ _ _ ix_M (pv 4) (pv 14) (fun _ _=>rfl)) pa_nil (by rfl)) (by rfl)) (by decide) (by rfl) (by rfl)) (@pa_cons _ _ _ _ _ (@pe_op _ _ _ _ _ _ _ _ JE pe_int (@pe_op _ _ _ _ _ _ _ _ yR pe_int (@pe_cal _ _ _ _ _ _ _ _ _ _ C_l_take hr rfl (@pa_cons _ _ _ _ _ (pv 0) (@pa_cons _ _ _ _ _ pe_int pa_nil (by rfl)) (by rfl)) (by decide) (by rfl) (by rfl)))) pa_nil (by rfl)) (by rfl)) (by rfl))) pa_nil (by rfl)) (by rfl) (by rfl) (by rfl) (by rfl) (by rfl)) (by rfl)))) (by intro _ ; rfl)) (@pss_cons _ _ _ _ _ (@ps_if _ _ _ _ _ _ _ _ (@pt_cmpR _ _ _ _ _ _ _ _ op_eq (@pe_cal _ _ _ _ _ _ _ _ _ _ C_l_take hr rfl (@pa_cons _ _ _ _ _ (pv 0) (@pa_cons _ _ _ _ _ pe_int pa_nil (by rfl)) (by rfl)) (by decide) (by rfl) (by rfl)) pe_int (@nomark _ _ (by decide) (by decide))) (@pss_one _ _ _ (@ps_expr _ _ _ _ (@pe_bm _ _ _ _ _ _ _ _ _ _ _ _ zh zd zc mt_append (pv 13) (@pa_cons _ _ _ _ _ (@pe_tup _ _ _ _ _ (@pa_cons _ _ _ _ _ pe_int (@pa_cons _ _ _ _ _ pe_int (@pa_cons _ _ _ _ _ pe_int pa_nil (by rfl)) (by rfl)) (by rfl))) pa_nil (by rfl)) (by rfl) (by rfl) (by rfl) (by rfl) (by rfl)) (by rfl))) pss_nil) (@pss_one _ _ _ (@ps_ret _ _ _ _ (@pe_tup _ _ _ _ _ (@pa_cons _ _ _ _ _ (pv 3) (@pa_cons _ _ _ _ _ (pv 5) (@pa_cons _ _ _ _ _ (pv 13) pa_nil (by rfl)) (by rfl)) (by rfl))))))))))))),?_⟩
 rw [show zp ["_law_feed_here","_law_many","_law_few","_law_ins","_law_rows","_law_deeds","_law_k","_law_a","_law_b","_law_s","_law_t","_law_sign","_law_pairs","_law_outs","_law_thing"] [.ref p,.int most,.int few]=[some (.ref p),some (.int most),some (.int few),none,none,none,none,none,none,none,none,none,none,none,none] from rfl]
 try walk_at "WP"
 refine jm hF (by omega) (by decide) (by decide) fun r2 H2 r20 r21 P2 C2=>?_
 obtain ⟨ins,eins⟩:∃ u:Nat,1+r2=(u:Int):=⟨(1+r2).toNat,by omega⟩
 have u0:1 <= ins:=by omega
 have u1:ins <= 12:=by omega
 have CC2:Chg p H H2:=C2
 try walk_at "WP"
 rw [eins]
 refine mid_of (fun σ H3=>∃ (tb:Addr) (vs:List V),σ = [some (.ref p),some (.int most),some (.int few),some (.int ins),some (.ref tb),none,none,none,none,none,none,none,none,none,none] /\ H tb=none /\ H3 tb=some (.lst vs) /\ HRs H3 [tb,p] vs ((zy ins).map (yb ins)) /\ tb ≠ p /\ Feed H3 p (c+1024) /\ Chg p H H3) (fun N hN=>?_) ?_
 ·try walk_at "WP"
  refine ⟨by omega,by omega,?_⟩
  rw [zb]
  have hex:∀ e ∈ [p],H2 e ≠ none:=fun e he=>by
   rw [zn.mp he]
   obtain ⟨xs,hx⟩:=P2.lst
   rw [hx]
   intro z
   cases z
  refine comp_rows (by omega) (yb ins) [p] hex (fun i H' R hi s' hR=>?_) (fun tb vs H3 hn s3 h3 hr3=>?_)
  ·rw [show yY [3] [some (V.ref p),some (V.int most),some (V.int few),some (V.int (ins:Int)),none,none,none,none,none,none,none,none,none,none,none]=[some (.int ins)] from rfl]
   try walk_at "WP"
   refine ⟨by omega,by omega,?_⟩
   rw [zb]
   refine comp_R (f:=unV i) (zg (by omega)) (fun y H5 R5 hy s5 hR5=>?_) (fun acc hacc=>?_)
   ·obtain ⟨k,hk,rfl⟩:=qP.mp hy
    rw [show yY [0] [some (V.int (0+(i:Int))),some (V.int (ins:Int))]=[some (V.int (0+(i:Int)))] from rfl]
    try walk_at "WP"
    rw [show (0:Int)+(i:Int)=i by omega]
    exact hR5
   ·rw [unV_map]
    exact hR acc _ hacc (zV hacc _) zL
  ·exact hN _ _ ⟨tb,vs,rfl,CC2.new (P2.ne hn) hn,h3,hr3,P2.ne hn,(P2.same s3).mono (by omega),CC2.trans s3.chg⟩
 ·rintro σ H3 ⟨tb,vs,rfl,ntb,htb,hrs,tbp,P3,C3⟩
  try walk_at "WP"
  intro dl hdl
  have sd:=zV hdl (.lst [])
  have dlp:dl ≠ p:=P3.ne hdl
  have tbd:tb ≠ dl:=ne_of_none htb hdl
  have I0:FI H p ins tb dl 0 vs [] [] (upd H3 dl (.lst [])):=by
   refine ⟨⟨sd _ _ htb,(hrs.new hdl).same sd,by simp [rowsW],fun r hr=>?_,fun r hr=>?_,zL,hts_nil,rfl,fun j d h=>by simp at h,C3.trans sd.chg,ntb,C3.new dlp hdl,tbp,dlp,tbd⟩,fun k d h=>by simp at h⟩
   ·obtain ⟨i,_,rfl⟩:=qP.mp hr
    refine ⟨by rw [JI]; exact u1,fun n hn=>?_⟩
    rcases unitRow_bound hn with z | z <;> subst z <;> decide
   ·obtain ⟨i,_,rfl⟩:=qP.mp hr
    exact JI _ _
  have P4:=P3.same sd
  generalize upd H3 dl (.lst [])=H4 at I0 P4 ⊢
  refine mid_of (fun σ H5=>∃ (k:Nat) (vs us:List V) (ds:List Wd) (o5 o6 o7 o8 o9 o10 o11:Option V),σ = [some (.ref p),some (.int most),some (.int few),some (.int ins),some (.ref tb),some (.ref dl),o5,o6,o7,o8,o9,o10,o11,none,none] /\ (k:Int) <= most /\ FI H p ins tb dl k vs us ds H5 /\ Feed H5 p (c+3000+10000 * k)) (fun N hN=>?_) ?_
  ·try walk_at "WP"
   refine jm P4 (by omega) (by omega) (by omega) fun m H6 m0 m1 P6 C6=>?_
   try walk_at "WP"
   refine ⟨by omega,by omega,?_⟩
   obtain ⟨n,rfl⟩:=xf m0
   rw [zb]
   have I6:=I0.step P4 C6
   refine forR (fun k σ H7=>∃ (vs us:List V) (ds:List Wd) (o5 o6 o7 o8 o9 o10 o11:Option V),σ = [some (.ref p),some (.int most),some (.int few),some (.int ins),some (.ref tb),some (.ref dl),o5,o6,o7,o8,o9,o10,o11,none,none] /\ FI H p ins tb dl k vs us ds H7 /\ Feed H7 p (c+3000+10000 * k))
    ⟨vs,[],[],none,none,none,none,none,none,none,rfl,I6,P6.mono (by omega)⟩ ?_ ?_
   ·rintro k σ H7 N2 hk ⟨vs,us,ds,o5,o6,o7,o8,o9,o10,o11,rfl,I7,P7⟩ hN2
    have hT7:=I7.wi.tbl
    have hvl:vs.length=ins+k:=by rw [I7.wi.hrs.len,I7.wi.rl]
    refine seq_inG fun R_ hR_=>?_
    (iterate 5 ((try (walk_at "WP")); (try (simp only [hT7,qJs,qJt,qJl,qJd,exists_eq_left',exists_eq_left])))); (try (walk_at "WP"))
    refine jm P7 (by omega) (by omega) (by omega) fun ra H8 ra0 ra1 P8 C8=>?_
    have I8:=I7.step P7 C8
    have hT8:=I8.wi.tbl
    (try (walk_at "WP")); (try (refine zT hR_ ?_)); (try (refine zY fun R_ hR_=>?_)); (iterate 5 ((try (walk_at "WP")); (try (simp only [hT8,qJs,qJt,qJl,qJd,exists_eq_left',exists_eq_left])))); (try (walk_at "WP"))
    refine ⟨_,_,⟨rfl,rfl⟩,?_⟩
    obtain ⟨mm,emm,mm0,mm1⟩:∃ mm:Int,(if (vs.length:Int) < 2 then (vs.length:Int) else 2)=mm /\ 1 <= mm /\ mm <= vs.length:=⟨_,rfl,by split <;> omega,by split <;> omega⟩
    rw [emm]
    refine jm P8 (by omega) (by omega) (by omega) fun rb' H9 rb0' rb1' P9 C9=>?_
    have I9:=I8.step P8 C9
    obtain ⟨rb,erb,rb0,rb1⟩:∃ rb:Int,(vs.length:Int) - 1 - rb'=rb /\ 0 <= rb /\ rb < vs.length:=⟨_,rfl,by omega,by omega⟩
    obtain ⟨ja,rfl⟩:=xf ra0
    obtain ⟨jb,rfl⟩:=xf rb0
    have hja:ja < ins+k:=by omega
    have hjb:jb < ins+k:=by omega
    have hT9:=I9.wi.tbl
    (try (walk_at "WP")); (try (refine zT hR_ ?_)); (try (refine zY fun R_ hR_=>?_)); (iterate 5 ((try (walk_at "WP")); (try (simp only [hT9,qJs,qJt,qJl,qJd,exists_eq_left',exists_eq_left])))); (try (walk_at "WP"))
    rw [erb]
    have hrl:(rowsW ins ds).length=ins+k:=I9.wi.rl
    obtain ⟨la,rowa,ea,ea1,ea2,ea3,ea4⟩:=zAX I9.wi.hrs (j:=ja) (by omega)
    have ea5:=I9.wi.rw_ _ ea3
    refine ⟨_,ea1,?_⟩
    refine ⟨p,la,_,rowa,rfl,P9,by omega,ea2,by omega,ea4 p (by simp),fun sa H10 hsa P10 C10=>?_⟩
    have I10:=I9.step P9 C10
    have hT10:=I10.wi.tbl
    (try (walk_at "WP")); (try (refine zT hR_ ?_)); (try (refine zY fun R_ hR_=>?_)); (iterate 5 ((try (walk_at "WP")); (try (simp only [hT10,qJs,qJt,qJl,qJd,exists_eq_left',exists_eq_left])))); (try (walk_at "WP"))
    obtain ⟨lb,rowb,eb,eb1,eb2,eb3,eb4⟩:=zAX I10.wi.hrs (j:=jb) (by omega)
    have eb5:=I10.wi.rw_ _ eb3
    refine ⟨_,eb1,?_⟩
    refine ⟨p,lb,_,rowb,rfl,P10,by omega,eb2,by omega,eb4 p (by simp),fun sb H11 hsb P11 C11=>?_⟩
    have I11:=I10.step P10 C11
    (try (walk_at "WP")); (try (refine zT hR_ ?_)); (try (refine zY fun R_ hR_=>?_)); (try (walk_at "WP"))
    refine jm P11 (by omega) (by decide) (by decide) fun r5 H12 r50 r51 P12 C12=>?_
    have I12:=I11.step P11 C12
    try walk_at "WP"
    refine ⟨x5 (by decide) (by decide),?_⟩
    (try (walk_at "WP")); (try (refine zT hR_ ?_)); (try (refine zY fun R_ hR_=>?_)); (try (walk_at "WP"))
    refine ⟨xQ I12.wi.dll,fun e3 he3=>?_⟩
    have s3:=zV he3 (.lst [V.str (Str.ofString "less"),V.str (Str.ofString "sum")])
    have hw:∃ wd:Str,atI [V.str (Str.ofString "less"),V.str (Str.ofString "sum")] (if 1 - 2 * r5=1 then 1 else 0)=some (.str wd) /\ (wd = "sum" \/ wd = "less") /\ sgW wd=1 - 2 * r5:=by
     have two:r5=0 \/ r5=1:=by omega
     rcases two with z | z <;> subst z
     ·exact ⟨_,rfl,.inl rfl,by decide⟩
     ·exact ⟨_,rfl,.inr rfl,by decide⟩
    obtain ⟨wd,hwd,hws,hsg⟩:=hw
    refine ⟨_,hwd,fun x hx=>?_⟩
    have sx:=zV hx (.tup [V.str wd,V.int (ja:Int),V.int sa,V.int (jb:Int),V.int sb])
    have s13:=s3.trans sx
    have hx13:(upd (upd H12 e3 (.lst [V.str (Str.ofString "less"),V.str (Str.ofString "sum")])) x (.tup [V.str wd,V.int (ja:Int),V.int sa,V.int (jb:Int),V.int sb])) x=some (.tup (xM ⟨wd,ja,sa,jb,sb⟩)):=zL
    generalize upd (upd H12 e3 (.lst [V.str (Str.ofString "less"),V.str (Str.ofString "sum")])) x (.tup [V.str wd,V.int (ja:Int),V.int sa,V.int (jb:Int),V.int sb])=H13 at s13 hx13 ⊢
    have hul:us.length=k:=by rw [I12.wi.hds.len,I12.wi.dlen]
    refine ⟨us,s13 _ _ I12.wi.dll,qJ (by omega:us.length < 1000) (zg (by decide)),?_⟩
    have t14:(upd H13 dl (.lst (us ++ [.ref x]))) tb=some (.lst vs):=by rw [upd_ne I12.wi.td]; exact s13 _ _ I12.wi.tbl
    have r14:HRs (upd H13 dl (.lst (us ++ [.ref x]))) [dl,tb,p] vs (rowsW ins ds):=(I12.wi.hrs.same s13).chg (by simp) (Chg.upd _)
    have P14:Feed (upd H13 dl (.lst (us ++ [.ref x]))) p (c+3000+10000 * k+1024+1024+2048+2048+1024):=by
     obtain ⟨g,m,st,hp,z⟩:=P12
     exact ⟨g,m,st,by rw [upd_ne I12.wi.dp.symm]; exact s13 _ _ hp,z⟩
    generalize hH14:upd H13 dl (.lst (us ++ [.ref x]))=H14 at t14 r14 P14 ⊢
    obtain ⟨la2,rowa2,fa,fa1,fa2,fa3,fa4⟩:=zAX r14 (j:=ja) (by omega)
    have fa5:=I12.wi.rw_ _ fa3
    have fa6:=(I12.wi.rb _ fa3).2
    have e0:rowa=rowa2:=by rw [ea] at fa; exact Option.some.inj fa
    subst e0
    (try (walk_at "WP")); (try (refine zT hR_ ?_)); (try (refine zY fun R_ hR_=>?_)); (iterate 5 ((try (walk_at "WP")); (try (simp only [t14,qJs,qJt,qJl,qJd,exists_eq_left',exists_eq_left])))); (try (walk_at "WP"))
    refine ⟨_,fa1,?_⟩
    have big:∀ (x:Int),x.natAbs <= 2 ^ (41 * k) -> x.natAbs < 2 ^ 9000:=fun x hx=>yB hx (Nat.pow_lt_pow_right (by decide) (by omega))
    refine ⟨_,rowa,sa,rfl,fa2,by omega,fun x hx=>big x (fa6 x hx),hsa.1,hsa.2.1,fun m1 H15 hm1 s15 h15=>?_⟩
    have t15:=s15 _ _ t14
    (iterate 5 ((try (walk_at "WP")); (try (simp only [t15,qJs,qJt,qJl,qJd,exists_eq_left',exists_eq_left])))); (try (walk_at "WP"))
    obtain ⟨lb2,rowb2,fb,fb1,fb2,fb3,fb4⟩:=zAX (r14.same s15) (j:=jb) (by omega)
    have fb5:=I12.wi.rw_ _ fb3
    have fb6:=(I12.wi.rb _ fb3).2
    have e1:rowb=rowb2:=by rw [eb] at fb; exact Option.some.inj fb
    subst e1
    refine ⟨_,fb1,?_⟩
    refine ⟨_,rowb,sb,rfl,fb2,by omega,fun x hx=>big x (fb6 x hx),hsb.1,hsb.2.1,fun m2 H16 hm2 s16 h16=>?_⟩
    try walk_at "WP"
    refine ⟨m1,m2,⟨rfl,rfl⟩,_,SqL.of (s16 _ _ h15),_,SqL.of h16,by simp only [qC]; omega,by simp only [qC]; omega,fun lz zs H17 nlz s17 hlz hzl hzt=>?_⟩
    have t17:=s17 _ _ (s16 _ _ t15)
    (try (walk_at "WP")); (try (refine zT hR_ ?_)); (try (refine zY fun R_ hR_=>?_)); (try (walk_at "WP"))
    refine ⟨xQ t17,⟨_,SqL.of hlz⟩,?_⟩
    have ll:(rowb.map (mvI sb)).length=(rowa.map (mvI sa)).length:=by simp only [qC]; omega
    refine comp_pairs hlz (by rw [hzl,qC]) ll (by simp only [qC]; omega) (fun j x y hx hy=>hzt j _ _ (by rw [qI,hx]; rfl) (by rw [qI,hy]; rfl)) (fun x y=>x+(1 - 2 * r5) * y) (fun x y H' R s' hR=>?_) (fun acc H18 nacc s18 hacc=>?_)
    ·rw [show yY [11] [some (V.ref p),some (V.int most),some (V.int few),some (V.int (ins:Int)),some (V.ref tb),some (V.ref dl),some (V.int (0+(k:Int))),some (V.int (ja:Int)),some (V.int (jb:Int)),some (V.int sa),some (V.int sb),some (V.int (1 - 2 * r5)),some (V.ref lz),none,none]=[some (V.int (1 - 2 * r5))] from rfl]
     rw [jN,jN,List.nil_append]
     try walk_at "WP"
     exact ⟨x5 (by omega) (by omega),hR⟩
    have t18:=s18 _ _ t17
    have erow:xk (fun x y=>x+(1 - 2 * r5) * y) (rowa.map (mvI sa)) (rowb.map (mvI sb))=rowD (rowsW ins ds) ⟨wd,ja,sa,jb,sb⟩:=by
     unfold rowD
     rw [yx ea,yx eb,List.zipWith_map,hsg]
    rw [erow] at hacc
    refine ⟨vs,t18,qJ (by omega:vs.length < 1000) (zg (by decide)),?_⟩
    obtain ⟨b1,b2⟩:=rowD_bound (d:=⟨wd,ja,sa,jb,sb⟩) I12.wi.rb I12.wi.rw_ (by show ja < _; omega) (by show jb < _; omega) hsa.1 hsa.2.1 hsb.1 hsb.2.1
    have s1418:=((s15.trans s16).trans s17).trans s18
    have n14:H14 acc=none:=((s15.trans s16).trans s17).free nacc
    have Ifin:=I12.app u1 s13 hx13 (by rw [hH14]; exact s1418) hacc (by rw [hH14]; exact n14) (P14.ne n14) hja hjb hws (by rw [yx ea]; exact hsa) (by rw [yx eb]; exact hsb) b1 b2
    refine hN2 _ _ ⟨_,_,_,_,_,_,_,_,_,_,rfl,Ifin,?_⟩
    obtain ⟨g,m,st,hp,z⟩:=P14.same s1418
    exact ⟨g,m,st,by rw [upd_ne I12.wi.tp.symm]; exact hp,z.1,z.2.1,z.2.2.1,z.2.2.2.1,by omega⟩
   ·rintro σ H7 ⟨vs,us,ds,o5,o6,o7,o8,o9,o10,o11,rfl,I7,P7⟩
    exact hN _ _ ⟨n,vs,us,ds,o5,o6,o7,o8,o9,o10,o11,rfl,by omega,I7,P7⟩
  ·rintro σ H5 ⟨kk,vs,us,ds,o5,o6,o7,o8,o9,o10,o11,rfl,hkk,I5,P5⟩
   try walk_at "WP"
   intro gl hgl
   have sg:=zV hgl (.lst [])
   have P6:=P5.same sg
   have glp:gl ≠ p:=P5.ne hgl
   have G0:FG H p ins tb dl gl kk vs us [] ds [] (upd H5 gl (.lst [])):=⟨⟨(I5.step P5 sg.chg).wi,(I5.wi.hrs.new hgl).same sg,zL,hts_nil,(fun g h=>by cases h),I5.wi.chg.new glp hgl,glp,(ne_of_none I5.wi.dll hgl).symm,(ne_of_none I5.wi.tbl hgl).symm⟩,I5.sh,(fun g h=>by cases h)⟩
   generalize upd H5 gl (.lst [])=H6 at G0 P6 ⊢
   have app:∀ (H15:Hp) (os:List V) (gs:List Go) (x:Addr) (g':Go) (cc:Int),FG H p ins tb dl gl kk vs us os ds gs H15 -> H15 x=some (.tup (gTp g')) -> g'.th < ins+kk -> (g'=⟨0,0,0⟩ \/ ((g'.sg=1 \/ g'.sg = -1) /\ Sh g'.sh ((rowsW ins ds).getD g'.th []))) -> Feed H15 p cc -> FG H p ins tb dl gl kk vs us (os ++ [.ref x]) ds (gs ++ [g']) (upd H15 gl (.lst (os ++ [V.ref x]))) /\ Feed (upd H15 gl (.lst (os ++ [V.ref x]))) p cc:=fun H15 os gs x g' cc G15 hx2 hx3 hx4 F15=>by
    refine ⟨G15.app hx2 hx3 hx4,?_⟩
    obtain ⟨g,m,st,hp,z⟩:=F15
    exact ⟨g,m,st,by rw [upd_ne G15.wg.gp.symm]; exact hp,z⟩
   refine mid_of (fun σ H9=>∃ (os:List V) (gs:List Go) (o5 o14:Option V),σ = [some (.ref p),some (.int most),some (.int few),some (.int ins),some (.ref tb),some (.ref dl),o5,o6,o7,o8,o9,o10,o11,some (.ref gl),o14] /\ FG H p ins tb dl gl kk vs us os ds gs H9 /\ (gs.length:Int) <= few /\ Feed H9 p (c+700000+10000 * few)) (fun N hN=>?_) ?_
   ·try walk_at "WP"
    refine jm P6 (by omega) (by omega) (by omega) fun m H7 m0 m1 P7 C7=>?_
    try walk_at "WP"
    refine ⟨by omega,by omega,?_⟩
    obtain ⟨n,rfl⟩:=xf m0
    rw [zb]
    have G7:=G0.step P6 C7
    refine forR (fun j σ H9=>∃ (os:List V) (gs:List Go) (o5 o14:Option V),σ = [some (.ref p),some (.int most),some (.int few),some (.int ins),some (.ref tb),some (.ref dl),o5,o6,o7,o8,o9,o10,o11,some (.ref gl),o14] /\ FG H p ins tb dl gl kk vs us os ds gs H9 /\ gs.length=j /\ Feed H9 p (c+700000+10000 * j))
     ⟨[],[],o5,none,rfl,G7,rfl,P7.mono (by omega)⟩ ?_ ?_
    ·rintro j σ H9 N2 hj ⟨os,gs,o5,o14,rfl,G9,hgl9,P9⟩ hN2
     have hT9:=G9.wg.wi.tbl
     have hvl:vs.length=ins+kk:=by rw [G9.wg.wi.hrs.len,G9.wg.wi.rl]
     have hrl:(rowsW ins ds).length=ins+kk:=G9.wg.wi.rl
     (iterate 5 ((try (walk_at "WP")); (try (simp only [hT9,qJs,qJt,qJl,qJd,exists_eq_left',exists_eq_left])))); (try (walk_at "WP"))
     refine ⟨_,_,⟨rfl,rfl⟩,?_⟩
     obtain ⟨mm,emm,mm0,mm1⟩:∃ mm:Int,(if (vs.length:Int) < 3 then (vs.length:Int) else 3)=mm /\ 1 <= mm /\ mm <= vs.length:=⟨_,rfl,by split <;> omega,by split <;> omega⟩
     rw [emm]
     refine jm P9 (by omega) (by omega) (by omega) fun rb' H10 rb0' rb1' P10 C10=>?_
     have G10:=G9.step P9 C10
     have hT10:=G10.wg.wi.tbl
     obtain ⟨th,eth⟩:∃ th:Nat,(vs.length:Int) - 1 - rb'=th:=⟨((vs.length:Int) - 1 - rb').toNat,by omega⟩
     have hth:th < ins+kk:=by omega
     (iterate 5 ((try (walk_at "WP")); (try (simp only [hT10,qJs,qJt,qJl,qJd,exists_eq_left',exists_eq_left])))); (try (walk_at "WP"))
     rw [eth]
     have hol:os.length=j:=by rw [G10.wg.hgs.len,hgl9]
     have osz:os.length < sizeLine:=qJ (by omega:os.length < 1000) (zg (by decide))
     obtain ⟨la,rowa,ea,ea1,ea2,ea3,ea4⟩:=zAX G10.wg.wi.hrs (j:=th) (by omega)
     have ea5:=G10.wg.wi.rw_ _ ea3
     refine ⟨xQ G10.wg.gll,_,ea1,?_⟩
     refine ⟨p,la,_,rowa,rfl,P10,by omega,ea2,by omega,ea4 p (by simp),fun sa H11 hsa P11 C11=>?_⟩
     have G11:=G10.step P10 C11
     refine jm P11 (by omega) (by decide) (by decide) fun r5 H12 r50 r51 P12 C12=>?_
     have G12:=G11.step P11 C12
     try walk_at "WP"
     refine ⟨x5 (by decide) (by decide),fun t1 ht1=>?_⟩
     have s4:=zV ht1 (.tup [V.int (th:Int),V.int sa,V.int (1 - 2 * r5)])
     have h1t:(upd H12 t1 (.tup [V.int (th:Int),V.int sa,V.int (1 - 2 * r5)])) t1=some (.tup (gTp ⟨th,sa,1 - 2 * r5⟩)):=zL
     have G13:=G12.step P12 s4.chg
     have P13:=P12.same s4
     generalize upd H12 t1 (.tup [V.int (th:Int),V.int sa,V.int (1 - 2 * r5)])=H13 at G13 P13 h1t ⊢
     refine ⟨os,G13.wg.gll,osz,?_⟩
     obtain ⟨A1,A2⟩:=app _ _ _ t1 ⟨th,sa,1 - 2 * r5⟩ _ G13 h1t hth (.inr ⟨show 1 - 2 * r5=1 \/ 1 - 2 * r5 = -1 by omega,by show Sh sa ((rowsW ins ds).getD th []); rw [yx ea]; exact hsa⟩) P13
     exact hN2 _ _ ⟨_,_,_,_,rfl,A1,by simp [hgl9],A2.mono (by omega)⟩
    ·rintro σ H9 ⟨os,gs,o5,o14,rfl,G9,hgl9,P9⟩
     exact hN _ _ ⟨_,_,_,_,rfl,G9,by omega,P9.mono (by omega)⟩
   ·rintro σ H9 ⟨os,gs,o5,o14,rfl,G9,hgl9,P9⟩
    try walk_at "WP"
    refine jm P9 (by omega) (by omega) (by omega) fun r3 H10 r30 r31 P10 C10=>?_
    have G10:=G9.step P9 C10
    have fin:∀ (os:List V) (gs:List Go) (H11:Hp) (w0:Addr),FG H p ins tb dl gl kk vs us os ds gs H11 -> (gs.length:Int) <= few+1 -> Feed H11 p (c+900000) -> H11 w0=none -> Q (.ref w0) (upd H11 w0 (.tup [V.int (ins:Int),V.ref dl,V.ref gl])):=fun os gs H11 w0 G F P11 hw0=>by
     have sw:=zV hw0 (.tup [V.int (ins:Int),V.ref dl,V.ref gl])
     have kd:=G.wg.wi.dlen
     refine q w0 dl gl ins us ds os gs _ (G.wg.wi.chg.new (P11.ne hw0) hw0) G.wg.wi.ndl G.wg.ngl ⟨zL,sw _ _ G.wg.wi.dll,G.wg.wi.hds.same sw,sw _ _ G.wg.gll,G.wg.hgs.same sw⟩ ⟨⟨u0,u1,G.wg.wi.dk,?_,?_,?_⟩,G.sh,G.go,?_,G.wg.wi.rw_⟩ (by rw [kd]; exact hkk) F ((P11.same sw).mono (by omega)) (G.wg.wi.chg.trans sw.chg)
     ·intro g hg
      rw [kd]
      exact G.wg.gk g hg
     ·rw [kd]; omega
     ·omega
     ·rw [kd]; exact G.wg.wi.rb
    try walk_at "WP"
    have hol:os.length=gs.length:=G10.wg.hgs.len
    refine y8 (fun z=>?_) (fun z=>?_)
    ·refine ⟨xQ G10.wg.gll,fun t1 ht1=>?_⟩
     have s4:=zV ht1 (.tup [V.int 0,V.int 0,V.int 0])
     have h1t:(upd H10 t1 (.tup [V.int 0,V.int 0,V.int 0])) t1=some (.tup (gTp ⟨0,0,0⟩)):=zL
     have G13:=G10.step P10 s4.chg
     have P13:=P10.same s4
     generalize upd H10 t1 (.tup [V.int 0,V.int 0,V.int 0])=H13 at G13 P13 h1t ⊢
     obtain ⟨A1,A2⟩:=app _ _ _ t1 ⟨0,0,0⟩ _ G13 h1t (by show 0 < _; omega) (.inl rfl) P13
     refine ⟨os,G13.wg.gll,qJ (by omega:os.length < 1000) (zg (by decide)),fun w0 hw0=>?_⟩
     exact fin _ _ _ w0 A1 (by simp; omega) (A2.mono (by omega)) hw0
    ·exact fun w0 hw0=>fin _ _ _ w0 G10 (by omega) (P10.mono (by omega)) hw0
end
section
variable {P:Program}{w:World}{K:zA}{mg:Str -> Option Value}{base:Heap}
theorem ok_lpartH (T:Txt K mg):Cal P w K mg base 1 "_law_part_text" ["_law_thing","_law_shift_here"] spLPartH:=by
 have B:=T.bl
 refine yD T.t_l_part_text zAv (fun vs H Q E h=>?_) (fun f cdv A outer s H vs Q E hr h=>?_)
 ·obtain ⟨t,s,rfl,_⟩:=h
  rfl
 obtain ⟨t,sh,rfl,ht,hs,q⟩:=h
 refine ⟨_,((@pss_cons _ _ _ _ _ (@ps_if _ _ _ _ _ _ _ _ (@pt_cmpR _ _ _ _ _ _ _ _ op_eq (pv 1) pe_int (@nomark _ _ (by decide) (by decide))) (@pss_one _ _ _ (@ps_ret _ _ _ _ (@zr _ _ _ _ _ _ _ _ _ jq rfl B.str Jn (@pa_cons _ _ _ _ _ (pv 0) pa_nil (by rfl)) (by decide) (by decide) (by rfl) (by rfl)))) pss_nil) (@pss_one _ _ _ (@ps_ret _ _ _ _ (@pe_op _ _ _ _ _ _ _ _ op_add_str (@pe_op _ _ _ _ _ _ _ _ op_add_str (@zr _ _ _ _ _ _ _ _ _ jq rfl B.str Jn (@pa_cons _ _ _ _ _ (pv 0) pa_nil (by rfl)) (by decide) (by decide) (by rfl) (by rfl)) (@pe_ix _ _ _ _ _ _ _ ix_M (@pe_lst _ _ _ _ (@pa_cons _ _ _ _ _ pe_str (@pa_cons _ _ _ _ _ pe_str pa_nil (by rfl)) (by rfl))) (@zr _ _ _ _ _ _ _ _ _ y3 rfl B.int xi (@pa_cons _ _ _ _ _ (@pe_cmpR _ _ _ _ _ _ _ _ op_lt (pv 1) pe_int (@nomark _ _ (by decide) (by decide))) pa_nil (by rfl)) (by decide) (by decide) (by rfl) (by rfl)) (fun _ _=>rfl))) (@zr _ _ _ _ _ _ _ _ _ jq rfl B.str Jn (@pa_cons _ _ _ _ _ (@pe_callB _ _ _ _ _ _ _ _ _ call_abs rfl B.abs bo_abs (@pa_cons _ _ _ _ _ (pv 1) pa_nil (by rfl)) (by decide) (by decide) (by rfl) (by rfl)) pa_nil (by rfl)) (by decide) (by decide) (by rfl) (by rfl))))))),?_⟩
 rw [show zp ["_law_thing","_law_shift_here"] [.int t,.int sh]=[some (.int t),some (.int sh)] from rfl]
 have t1:((t:Int)).natAbs.log2 < 1920:=log_s (by omega)
 have t2:(((sh.natAbs:Nat):Int)).natAbs.log2 < 1920:=log_s (by omega)
 have e:(if sh < 0 then -sh else sh)=((sh.natAbs:Nat):Int):=by split <;> omega
 have f1:=j9 t
 have f2:=j9 sh.natAbs
 try walk_at "WP"
 unfold yA at q
 refine y8 (fun z=>?_) (fun z=>?_)
 ·rw [if_pos z] at q
  exact ⟨t1,q _ (Same.refl _)⟩
 rw [if_neg z] at q
 refine ⟨t1,fun l nl=>?_⟩
 refine yv nl fun H1 s1 h1=>?_
 (iterate 5 ((try (walk_at "WP")); (try (simp only [h1,qJs,qJt,qJl,qJd,exists_eq_left',exists_eq_left])))); (try (walk_at "WP"))
 rw [e,figI_n,figI_n]
 by_cases p:sh < 0
 ·rw [if_pos p]
  rw [if_neg (by omega)] at q
  exact ⟨_,rfl,_,rfl,szL (by rw [len_gt]; omega),t2,szL (by rw [PySem.Str.length_append,len_gt]; omega),q _ s1⟩
 ·rw [if_neg p]
  rw [if_pos (by omega)] at q
  exact ⟨_,rfl,_,rfl,szL (by rw [len_lt]; omega),t2,szL (by rw [PySem.Str.length_append,len_lt]; omega),q _ s1⟩
theorem ok_ltext (T:Txt K mg):Cal P w K mg base 2 "_law_text" ["_law_web"] spShown:=by
 have B:=T.bl
 have C_l_part_text:=ok_lpartH (P:=P) (w:=w) (base:=base) T
 refine yD T.t_l_text sc_l_text (fun vs H Q E h=>?_) (fun f cdv A outer s H vs Q E hr h=>?_)
 ·obtain ⟨x,_,_,_,_,_,_,_,rfl,_⟩:=h
  rfl
 obtain ⟨x,dl,gl,n,us,ds,os,gs,rfl,W,O,q⟩:=h
 refine ⟨_,((@pss_cons _ _ _ _ _ (@ps_set _ _ (1) _ _ _ _ sc_l_text.nd rfl (by walk_at "o") (@pe_lst _ _ _ _ (@pa_cons _ _ _ _ _ (@pe_op _ _ _ _ _ _ _ _ op_add_str pe_str (@zr _ _ _ _ _ _ _ _ _ jq rfl B.str Jn (@pa_cons _ _ _ _ _ (@pe_ix _ _ _ _ _ _ _ ix_U (pv 0) pe_int (fun _ _=>rfl)) pa_nil (by rfl)) (by decide) (by decide) (by rfl) (by rfl))) pa_nil (by rfl))) (by rfl) (by walk_at "o")) (@pss_cons _ _ _ _ _ (@ps_for _ _ _ _ _ _ _ _ PassesOwn.never rfl (@pi_list _ _ _ _ (@pe_ix _ _ _ _ _ _ _ ix_U (pv 0) pe_int (fun _ _=>rfl))) (@jY _ _ _ _ _ 5 rfl (@zz _ _ _ _ _ (@pg_name _ _ (2) _ sc_l_text.nd rfl (by walk_at "o") (by walk_at "o")) (@zz _ _ _ _ _ (@pg_name _ _ (3) _ sc_l_text.nd rfl (by walk_at "o") (by walk_at "o")) (@zz _ _ _ _ _ (@pg_name _ _ (4) _ sc_l_text.nd rfl (by walk_at "o") (by walk_at "o")) (@zz _ _ _ _ _ (@pg_name _ _ (5) _ sc_l_text.nd rfl (by walk_at "o") (by walk_at "o")) (@zz _ _ _ _ _ (@pg_name _ _ (6) _ sc_l_text.nd rfl (by walk_at "o") (by walk_at "o")) jW (by rfl)) (by rfl)) (by rfl)) (by rfl)) (by rfl)) (by rfl) (by rfl)) (@pss_one _ _ _ (@ps_expr _ _ _ _ (@pe_bm _ _ _ _ _ _ _ _ _ _ _ _ zh zd zc mt_append (pv 1) (@pa_cons _ _ _ _ _ (@pe_bm _ _ _ _ _ _ _ _ _ _ _ _ ze PySem.F.slot_str_join PySem.F.type_str_join mt_join pe_str (@pa_cons _ _ _ _ _ (@pe_lst _ _ _ _ (@pa_cons _ _ _ _ _ (@pe_cal _ _ _ _ _ _ _ _ _ _ C_l_part_text hr rfl (@pa_cons _ _ _ _ _ (pv 3) (@pa_cons _ _ _ _ _ (pv 4) pa_nil (by rfl)) (by rfl)) (by decide) (by rfl) (by rfl)) (@pa_cons _ _ _ _ _ (@pe_ix _ _ _ _ _ _ _ ix_M (@pe_lst _ _ _ _ (@pa_cons _ _ _ _ _ pe_str (@pa_cons _ _ _ _ _ pe_str pa_nil (by rfl)) (by rfl))) (@zr _ _ _ _ _ _ _ _ _ y3 rfl B.int xi (@pa_cons _ _ _ _ _ (@pe_cmpR _ _ _ _ _ _ _ _ op_eq (pv 2) pe_str (@nomark _ _ (by decide) (by decide))) pa_nil (by rfl)) (by decide) (by decide) (by rfl) (by rfl)) (fun _ _=>rfl)) (@pa_cons _ _ _ _ _ (@pe_cal _ _ _ _ _ _ _ _ _ _ C_l_part_text hr rfl (@pa_cons _ _ _ _ _ (pv 5) (@pa_cons _ _ _ _ _ (pv 6) pa_nil (by rfl)) (by rfl)) (by decide) (by rfl) (by rfl)) pa_nil (by rfl)) (by rfl)) (by rfl))) pa_nil (by rfl)) (by rfl) (by rfl) (by rfl) (by rfl) (by rfl)) pa_nil (by rfl)) (by rfl) (by rfl) (by rfl) (by rfl) (by rfl)) (by rfl))) (by intro _ ; rfl)) (@pss_cons _ _ _ _ _ (@ps_for _ _ _ _ _ _ _ _ PassesOwn.never rfl (@pi_list _ _ _ _ (@pe_ix _ _ _ _ _ _ _ ix_U (pv 0) pe_int (fun _ _=>rfl))) (@jY _ _ _ _ _ 3 rfl (@zz _ _ _ _ _ (@pg_name _ _ (7) _ sc_l_text.nd rfl (by walk_at "o") (by walk_at "o")) (@zz _ _ _ _ _ (@pg_name _ _ (8) _ sc_l_text.nd rfl (by walk_at "o") (by walk_at "o")) (@zz _ _ _ _ _ (@pg_name _ _ (9) _ sc_l_text.nd rfl (by walk_at "o") (by walk_at "o")) jW (by rfl)) (by rfl)) (by rfl)) (by rfl) (by rfl)) (@pss_one _ _ _ (@ps_expr _ _ _ _ (@pe_bm _ _ _ _ _ _ _ _ _ _ _ _ zh zd zc mt_append (pv 1) (@pa_cons _ _ _ _ _ (@pe_op _ _ _ _ _ _ _ _ op_add_str pe_str (@pe_ix _ _ _ _ _ _ _ ix_M (@pe_lst _ _ _ _ (@pa_cons _ _ _ _ _ (@pe_op _ _ _ _ _ _ _ _ op_add_str pe_str (@pe_cal _ _ _ _ _ _ _ _ _ _ C_l_part_text hr rfl (@pa_cons _ _ _ _ _ (pv 7) (@pa_cons _ _ _ _ _ (pv 8) pa_nil (by rfl)) (by rfl)) (by decide) (by rfl) (by rfl))) (@pa_cons _ _ _ _ _ pe_str (@pa_cons _ _ _ _ _ (@pe_cal _ _ _ _ _ _ _ _ _ _ C_l_part_text hr rfl (@pa_cons _ _ _ _ _ (pv 7) (@pa_cons _ _ _ _ _ (pv 8) pa_nil (by rfl)) (by rfl)) (by decide) (by rfl) (by rfl)) pa_nil (by rfl)) (by rfl)) (by rfl))) (@pe_op _ _ _ _ _ _ _ _ op_add (pv 9) pe_int) (fun _ _=>rfl))) pa_nil (by rfl)) (by rfl) (by rfl) (by rfl) (by rfl) (by rfl)) (by rfl))) (by intro _ ; rfl)) (@pss_one _ _ _ (@ps_ret _ _ _ _ (@pe_bm _ _ _ _ _ _ _ _ _ _ _ _ ze PySem.F.slot_str_join PySem.F.type_str_join mt_join pe_str (@pa_cons _ _ _ _ _ (pv 1) pa_nil (by rfl)) (by rfl) (by rfl) (by rfl) (by rfl) (by rfl)))))))),?_⟩
 rw [show zp ["_law_web","_law_lines","_law_word","_law_a","_law_s","_law_b","_law_t","_law_thing","_law_shift_here","_law_sign"] [.ref x]=[some (.ref x),none,none,none,none,none,none,none,none,none] from rfl]
 have hx:=W.tup
 have n1:=O.n1
 have d1:=O.dl
 have g1:=O.gl
 have f1:=j9 n
 have ul:=W.hds.len
 have ol:=W.hgs.len
 refine zY fun R_ hR_=>?_
 (try (walk_at "WP")); (try (refine zT hR_ ?_)); (try (refine zY fun R_ hR_=>?_)); (iterate 5 ((try (walk_at "WP")); (try (simp only [hx,qJs,qJt,qJl,qJd,exists_eq_left',exists_eq_left])))); (try (walk_at "WP"))
 refine ⟨log_s (by omega),szL (by rw [len_in,figI_n]; omega),fun p np=>?_⟩
 rw [figI_n]
 refine yv np fun H1 s1 h1=>?_
 have hx1:=s1 _ _ hx
 have W1:=W.same s1
 have dll1:=W1.dll
 (try (walk_at "WP")); (try (refine zT hR_ ?_)); (try (refine zY fun R_ hR_=>?_)); (iterate 5 ((try (walk_at "WP")); (try (simp only [hx1,qJs,qJt,qJl,qJd,exists_eq_left',exists_eq_left])))); (try (walk_at "WP"))
 refine ⟨⟨_,SqL.of dll1⟩,?_⟩
 refine forL (xs:=us) (fun i σ H'=>∃ o2 o3 o4 o5 o6,σ = [some (.ref x),some (.ref p),o2,o3,o4,o5,o6,none,none,none] /\ Same H H' /\ H' p=some (.lst ((("in " ++ fig n) :: (ds.take i).map xN).map V.str))) ⟨none,none,none,none,none,rfl,s1,h1⟩ ?_ ?_ ?_
 ·rintro i σ H' hi ⟨_,_,_,_,_,rfl,s',_⟩
  exact SqL.of (s' _ _ W.dll)
 ·rintro i v σ H' N hv ⟨o2,o3,o4,o5,o6,rfl,s',hp⟩ hN
  have hi:i < ds.length:=by rw [← ul]; exact (qB.mp hv).1
  obtain ⟨y,hy1,hy2⟩:=(W.same s').hds.at_ i _ (qA hi)
  have hdi:ds[i]? = some ds[i]:=qA hi
  generalize ds[i]=d at hy2 hdi
  rw [hv] at hy1
  cases hy1
  obtain ⟨p1,p2,p3,p4,p5⟩:=O.dw d (qE hdi)
  unfold xM at hy2
  (iterate 5 ((try (walk_at "WP")); (try (simp only [hy2,qJs,qJt,qJl,qJd,exists_eq_left',exists_eq_left])))); (try (walk_at "WP"))
  refine ⟨xQ hp,d.a,d.s,rfl,p2,p4,fun G1 t1=>?_⟩
  try walk_at "WP"
  intro l1 nl1
  refine yv nl1 fun G2 t2 g2=>?_
  refine ⟨.str (jd d.w),?_,d.b,d.t,rfl,p3,p5,fun G3 t3=>?_⟩
  ·unfold jd
   by_cases c:d.w=Str.ofString "sum"
   ·rw [if_pos c,if_pos c]
    rfl
   ·rw [if_neg c,if_neg c]
    rfl
  intro l2 nl2
  refine yv nl2 fun G4 t4 g4=>?_
  have t14:=(t1.trans t2).trans (t3.trans t4)
  have e1:=JY p2 p4
  have e2:=JY p3 p5
  have e3:=zAE d.w
  refine ⟨[yA d.a d.s,jd d.w,yA d.b d.t],SqL.of g4,by rw [len_sp]; decide,?_,_,t14 _ _ hp,?_,?_⟩
  ·simp only [zU,yo,List.sum_cons,List.sum_nil,zP,jh]
   omega
  ·refine qJ (?_:_ < 1000) (zg (by decide))
   simp only [qC,zP,qO]
   omega
  rw [line_join]
  refine hN _ _ ⟨_,_,_,_,_,rfl,yg np (s'.trans t14),?_⟩
  rw [zL,x9,hdi]
  simp
 ·rintro σ H2 ⟨o2,o3,o4,o5,o6,rfl,s2,hp2⟩
  rw [ul,xb] at hp2
  have hx2:=s2 _ _ hx
  (try (walk_at "WP")); (try (refine zT hR_ ?_)); (try (refine zY fun R_ hR_=>?_)); (iterate 5 ((try (walk_at "WP")); (try (simp only [hx2,qJs,qJt,qJl,qJd,exists_eq_left',exists_eq_left])))); (try (walk_at "WP"))
  have W2:=W.same s2
  refine ⟨⟨_,SqL.of W2.gll⟩,?_⟩
  refine forL (xs:=os) (fun i σ H'=>∃ o7 o8 o9,σ = [some (.ref x),some (.ref p),o2,o3,o4,o5,o6,o7,o8,o9] /\ Same H H' /\ H' p=some (.lst ((("in " ++ fig n) :: (ds.map xN ++ (gs.take i).map xO)).map V.str))) ⟨none,none,none,rfl,s2,by rw [List.take_zero,yo,yQ]; exact hp2⟩ ?_ ?_ ?_
  ·rintro i σ H' hi ⟨_,_,_,rfl,s',_⟩
   exact SqL.of (s' _ _ W.gll)
  ·rintro i v σ H' N hv ⟨o7,o8,o9,rfl,s',hp⟩ hN
   have hi:i < gs.length:=by rw [← ol]; exact (qB.mp hv).1
   obtain ⟨y,hy1,hy2⟩:=(W.same s').hgs.at_ i _ (qA hi)
   have hdi:gs[i]? = some gs[i]:=qA hi
   generalize gs[i]=g at hy2 hdi
   rw [hv] at hy1
   cases hy1
   obtain ⟨p1,p2,p3⟩:=O.gw g (qE hdi)
   unfold gTp at hy2
   (iterate 5 ((try (walk_at "WP")); (try (simp only [hy2,qJs,qJt,qJl,qJd,exists_eq_left',exists_eq_left])))); (try (walk_at "WP"))
   refine ⟨xQ hp,g.th,g.sh,rfl,p2,p3,fun G1 t1=>?_⟩
   have e1:=JY p2 p3
   try walk_at "WP"
   refine ⟨szL (by rw [len_mn]; omega),g.th,g.sh,rfl,p2,p3,fun G2 t2=>?_⟩
   intro l1 nl1
   refine yv nl1 fun G3 t3 g3=>?_
   obtain ⟨z,hz1,hz2,hz3⟩:=line_outS p1
   have t13:=t1.trans (t2.trans t3)
   refine ⟨_,hz1,z,rfl,szL (by rw [len_out]; omega),_,t13 _ _ hp,?_,?_⟩
   ·refine qJ (?_:_ < 1000) (zg (by decide))
    simp only [qC,zP,qF,qO]
    omega
   rw [hz2]
   refine hN _ _ ⟨_,_,_,rfl,yg np (s'.trans t13),?_⟩
   rw [zL,x9,hdi]
   simp
  ·rintro σ H3 ⟨o7,o8,o9,rfl,s3,hp3⟩
   rw [ol,xb] at hp3
   (try (walk_at "WP")); (try (refine zT hR_ ?_)); (try (refine zY fun R_ hR_=>?_)); (try (walk_at "WP"))
   refine ⟨linesS n ds gs,SqL.of hp3,by rw [len_nl]; decide,lines_len O,q _ s3⟩
end
section
variable {P:Program}{w:World}{K:zA}{mg:Str -> Option Value}{base:Heap}
theorem ok_law (T:Txt K mg) {f:Addr} {fd:FuncData} (F:Fun K "law" "law" Jm f fd) (D_WORDS_BY_SIGN:CDgm w.params K mg "WORDS_BY_SIGN" [("+","sum"),("-","less")]):FnOk P w K mg base CX0 20 f fd ["_law_script"] (spLaw K):=by
 have B:=T.bl
 obtain ⟨cst_NoText,mg_NoText,hsub,hek,iD,kD,sD⟩:=T.cls
 have M_NoText:XCls P w K mg base cst_NoText "line":=xc_NoText iD kD sD
 have C_l_feed:=(ok_feed (P:=P) (w:=w) (base:=base) T).mono (k:=19) (by decide)
 have C_l_net:=(ok_net (P:=P) (w:=w) (base:=base) T).mono (k:=19) (by decide)
 have C_l_text:=(ok_ltext (P:=P) (w:=w) (base:=base) T).mono (k:=19) (by decide)
 have C_l_due:=(ok_dueL (P:=P) (w:=w) (base:=base) T).mono (k:=19) (by decide)
 have C_l_same:=(ok_same64 (P:=P) (w:=w) (base:=base) T D_WORDS_BY_SIGN mg_NoText M_NoText hek sD hsub).mono (k:=19) (by decide)
 refine F.ok sc_law (fun vs H Q E h=>?_) (fun cdv A outer s H vs Q E hr h=>?_)
 ·obtain ⟨a,ns,rfl,_⟩:=h
  rfl
 obtain ⟨a,ns,rfl,hS,h63,q⟩:=h
 refine ⟨_,((@pss_cons _ _ _ _ _ (@ps_set _ _ (1) _ _ _ _ sc_law.nd rfl (by walk_at "o") (@pe_cal _ _ _ _ _ _ _ _ _ _ C_l_net hr rfl (@pa_cons _ _ _ _ _ (@pe_cal _ _ _ _ _ _ _ _ _ _ C_l_feed hr rfl (@pa_cons _ _ _ _ _ (pv 0) (@pa_cons _ _ _ _ _ pe_int pa_nil (by rfl)) (by rfl)) (by decide) (by rfl) (by rfl)) (@pa_cons _ _ _ _ _ pe_int (@pa_cons _ _ _ _ _ pe_int pa_nil (by rfl)) (by rfl)) (by rfl)) (by decide) (by rfl) (by rfl)) (by rfl) (by walk_at "o")) (@pss_cons _ _ _ _ _ (@ps_set _ _ (2) _ _ _ _ sc_law.nd rfl (by walk_at "o") (@pe_cal _ _ _ _ _ _ _ _ _ _ C_l_text hr rfl (@pa_cons _ _ _ _ _ (pv 1) pa_nil (by rfl)) (by decide) (by rfl) (by rfl)) (by rfl) (by walk_at "o")) (@pss_cons _ _ _ _ _ (@ps_if _ _ _ _ _ _ _ _ (@PW.pt _ _ _ (@pw_or _ _ _ _ _ _ _ (@pt_cmpR _ _ _ _ _ _ _ _ (@op_neD _ _ hr) (@pe_cal _ _ _ _ _ _ _ _ _ _ C_l_due hr rfl (@pa_cons _ _ _ _ _ (pv 2) pa_nil (by rfl)) (by decide) (by rfl) (by rfl)) (pv 1) (@nomark _ _ (by decide) (by decide))) (@pw_or1 _ _ _ _ (@pt_not _ _ _ _ (@pt_val _ _ _ (@pe_cal _ _ _ _ _ _ _ _ _ _ C_l_same hr rfl (@pa_cons _ _ _ _ _ (pv 2) pa_nil (by rfl)) (by decide) (by rfl) (by rfl)) (by intro _ ; rfl)))))) (@pss_one _ _ _ (@ps_ret _ _ _ _ pe_bl)) pss_nil) (@pss_cons _ _ _ _ _ (@ps_for _ _ _ _ _ _ _ _ PassesOwn.never rfl (@pi_range1 _ _ _ _ _ _ rfl B.range (@pa_cons _ _ _ _ _ (@pe_op _ _ _ _ _ _ _ _ op_add (@pe_callB _ _ _ _ _ _ _ _ _ jD rfl B.len bo_len (@pa_cons _ _ _ _ _ (pv 2) pa_nil (by rfl)) (by decide) (by decide) (by rfl) (by rfl)) pe_int) pa_nil (by rfl)) (by rfl)) (@pg_name _ _ (3) _ sc_law.nd rfl (by walk_at "o") (by walk_at "o")) (@pss_cons _ _ _ _ _ (@ps_if _ _ _ _ _ _ _ _ (@pt_not _ _ _ _ (@pt_val _ _ _ (@pe_cal _ _ _ _ _ _ _ _ _ _ C_l_same hr rfl (@pa_cons _ _ _ _ _ (@pe_op _ _ _ _ _ _ _ _ op_add_str (@yc _ _ _ _ _ _ _ _ _ _ jA (pv 2) y4 (@y6 _ _ _ (pv 3))) (@yc _ _ _ _ _ _ _ _ _ _ jA (pv 2) (@y6 _ _ _ (@pe_op _ _ _ _ _ _ _ _ op_add (pv 3) pe_int)) y4)) pa_nil (by rfl)) (by decide) (by rfl) (by rfl)) (by intro _ ; rfl))) (@pss_one _ _ _ (@ps_ret _ _ _ _ pe_bl)) pss_nil) (@pss_one _ _ _ (@ps_for _ _ _ _ _ _ _ _ PassesOwn.never rfl (@pi_str _ _ _ _ pe_str) (@pg_name _ _ (4) _ sc_law.nd rfl (by walk_at "o") (by walk_at "o")) (@pss_one _ _ _ (@ps_if _ _ _ _ _ _ _ _ (@PW.pt _ _ _ (@pw_or _ _ _ _ _ _ _ (@pt_not _ _ _ _ (@pt_val _ _ _ (@pe_cal _ _ _ _ _ _ _ _ _ _ C_l_same hr rfl (@pa_cons _ _ _ _ _ (@pe_op _ _ _ _ _ _ _ _ op_add_str (@pe_op _ _ _ _ _ _ _ _ op_add_str (@yc _ _ _ _ _ _ _ _ _ _ jA (pv 2) y4 (@y6 _ _ _ (pv 3))) (pv 4)) (@yc _ _ _ _ _ _ _ _ _ _ jA (pv 2) (@y6 _ _ _ (@pe_op _ _ _ _ _ _ _ _ op_add (pv 3) pe_int)) y4)) pa_nil (by rfl)) (by decide) (by rfl) (by rfl)) (by intro _ ; rfl))) (@pw_or1 _ _ _ _ (@pt_not _ _ _ _ (@pt_val _ _ _ (@pe_cal _ _ _ _ _ _ _ _ _ _ C_l_same hr rfl (@pa_cons _ _ _ _ _ (@pe_op _ _ _ _ _ _ _ _ op_add_str (@pe_op _ _ _ _ _ _ _ _ op_add_str (@yc _ _ _ _ _ _ _ _ _ _ jA (pv 2) y4 (@y6 _ _ _ (pv 3))) (pv 4)) (@yc _ _ _ _ _ _ _ _ _ _ jA (pv 2) (@y6 _ _ _ (pv 3)) y4)) pa_nil (by rfl)) (by decide) (by rfl) (by rfl)) (by intro _ ; rfl)))))) (@pss_one _ _ _ (@ps_ret _ _ _ _ pe_bl)) pss_nil)) (by intro _ ; rfl)))) (by intro _ ; rfl)) (@pss_one _ _ _ (@ps_ret _ _ _ _ pe_bl))))))),?_⟩
 rw [show zp ["_law_script","_law_web","_law_text_here","_law_at","_law_sign"] [.ref a]=[some (.ref a),none,none,none,none] from rfl]
 refine zY fun R_ hR_=>?_
 (try (walk_at "WP")); (try (refine zT hR_ ?_)); (try (refine zY fun R_ hR_=>?_)); (try (walk_at "WP"))
 refine ⟨a,ns,0,rfl,hS,h63,by decide,by decide,fun p H1 np s1 F1=>?_⟩
 refine ⟨p,0,3,2,rfl,F1,by decide,by decide,by decide,by decide,by decide,fun x dl gl n us ds os gs H2 nx nd ng W F hd hg F2 C2=>?_⟩
 (try (walk_at "WP")); (try (refine zT hR_ ?_)); (try (refine zY fun R_ hR_=>?_)); (try (walk_at "WP"))
 have n1:=F.ok.i1
 have n12:=F.ok.i2
 have wt:=fweb_wts F
 have d60:=F.ok.dl
 have G:TGood n ds gs:=⟨n1,n12,txok_web F,fweb_plc F,by omega⟩
 refine ⟨x,dl,gl,n,us,ds,os,gs,rfl,W,G.O,fun H3 s3=>?_⟩
 have bs:=base_shown G.O (by omega)
 have gt:=gtxt_base bs
 (try (walk_at "WP")); (try (refine zT hR_ ?_)); (try (refine zY fun R_ hR_=>?_)); (try (walk_at "WP"))
 refine ⟨_,_,_,rfl,gt,split_shown n ds gs,fun e=>?_,fun m e=>?_⟩
 ·unfold wrds at e
  rw [insR_fig n1 n12] at e
  cases e
 unfold wrds at e
 rw [insR_fig n1 n12] at e
 have:n=m:=by have:=Option.some.inj e; omega
 subst this
 refine ⟨fun ds' gs' hrun r fa fb us' ws' H4 s4 W4=>?_,fun i st y hy hr' hn=>(zAg hy hr' hn (run_all G.O G.wp)).elim⟩
 rw [run_all G.O G.wp] at hrun
 have hh:=Option.some.inj hrun
 injection hh with h1 h2
 have h1:=cW_inj h1
 have h2:=cG_inj h2
 subst h1 h2
 refine ne_webK W4 (W.same (s3.trans s4)).wk ⟨false,rfl,?_⟩
 rw [if_neg (by decide)]
 refine ⟨_,rfl,gt,fun H5 s5=>⟨true,rfl,?_⟩⟩
 rw [if_neg (by decide)]
 generalize shownS n ds gs=X at bs gt ⊢
 (try (walk_at "WP")); (try (refine zT hR_ ?_)); (try (refine zY fun R_ hR_=>?_)); (try (walk_at "WP"))
 have xl:=bs.1
 refine ⟨szL (by omega),by omega,by omega,?_⟩
 rw [show ((X.length:Int)+1).toNat=X.length+1 by omega]
 refine forR (fun i σ H'=>∃ o3 o4,σ = [some (V.ref a),some (V.ref x),some (V.str X),o3,o4]) ⟨none,none,rfl⟩ ?_ ?_
 ·rintro i σ H6 N hi ⟨o3,o4,rfl⟩ hN
  have sl:=fun lo hi=>sl_len X lo hi
  refine seq_inG fun R_ hR_=>?_
  (try (walk_at "WP")); (try (refine zT hR_ ?_)); (try (refine zY fun R_ hR_=>?_)); (try (walk_at "WP"))
  rw [show (0+(i:Int))=(i:Int) by omega]
  have e1:((i:Int)+1)=((i+1:Nat):Int):=by omega
  have m1:=sl none (some (i:Int))
  have m2:=sl (some (i:Int)) none
  have m3:=sl (some ((i+1:Nat):Int)) none
  rw [e1]
  refine ⟨by omega,by omega,szL (by omega),_,rfl,gtxt_cut0 bs (by omega) (by omega) (by omega),fun H7 s7=>⟨true,rfl,?_⟩⟩
  rw [if_neg (by decide)]
  refine zT hR_ ?_
  rw [w_forS]
  try walk_at "WP"
  refine forS (fun j σ H'=>∃ o4,σ = [some (V.ref a),some (V.ref x),some (V.str X),some (V.int (i:Int)),o4]) ⟨o4,rfl⟩ ?_ ?_
  ·rintro j c σ H8 N8 hc ⟨o4,rfl⟩ hN8
   try walk_at "WP"
   rw [e1]
   have c1:(⟨#[c]⟩:Str).length=1:=rfl
   refine ⟨by omega,szL (by omega),by omega,szL (by rw [PySem.Str.length_append]; omega),_,rfl,gtxt_cut bs (by omega) (by omega) (by omega) (by rw [c1]; decide),fun H9 s9=>⟨true,rfl,?_⟩⟩
   rw [if_neg (by decide)]
   refine ⟨by omega,szL (by omega),by omega,szL (by rw [PySem.Str.length_append]; omega),_,rfl,gtxt_cut bs (by omega) (by omega) (by omega) (by rw [c1]; decide),fun H10 s10=>⟨true,rfl,?_⟩⟩
   rw [if_neg (by decide)]
   exact hN8 _ _ ⟨_,rfl⟩
  ·rintro σ H8 ⟨o4,rfl⟩
   exact hN _ _ ⟨_,_,rfl⟩
 ·rintro σ H6 ⟨o3,o4,rfl⟩
  (try (walk_at "WP")); (try (refine zT hR_ ?_)); (try (refine zY fun R_ hR_=>?_)); (try (walk_at "WP"))
  exact q _
end
theorem ln1 {α:Type}{us:List α}(h:us.length=1):∃ a0,us=[a0]:=match us,h with | [a0],_=>⟨a0,rfl⟩
theorem ln2 {α:Type}{us:List α}(h:us.length=2):∃ a0 a1,us=[a0,a1]:=match us,h with | [a0,a1],_=>⟨a0,a1,rfl⟩
theorem ln3 {α:Type}{us:List α}(h:us.length=3):∃ a0 a1 a2,us=[a0,a1,a2]:=match us,h with | [a0,a1,a2],_=>⟨a0,a1,a2,rfl⟩
theorem all_mk {l:PySem.W.OpenLaw} {w:World} {K:zA} {h:Heap} {mg:Str -> Option Value} {fa:Addr} (X:K.In h) (G:h.Ns mainGlobals mg) (hfa:mg "law" = some (.ref fa))
  {f1:Addr} {od1 an1:Option Addr} {sl1:Array (Option Value)} {oc1 kV1 dc1 pm1 cd1 ct1:Value} {f2:Addr} {od2 an2:Option Addr} {sl2:Array (Option Value)} {oc2 kV2 dc2 pm2 cd2 ct2:Value} {f3:Addr} {od3 an3:Option Addr} {sl3:Array (Option Value)} {oc3 kV3 dc3 pm3 cd3 ct3:Value} {f4:Addr} {od4 an4:Option Addr} {sl4:Array (Option Value)} {oc4 kV4 dc4 pm4 cd4 ct4:Value} {f5:Addr} {od5 an5:Option Addr} {sl5:Array (Option Value)} {oc5 kV5 dc5 pm5 cd5 ct5:Value} {f6:Addr} {od6 an6:Option Addr} {sl6:Array (Option Value)} {oc6 kV6 dc6 pm6 cd6 ct6:Value} {f7:Addr} {od7 an7:Option Addr} {sl7:Array (Option Value)} {oc7 kV7 dc7 pm7 cd7 ct7:Value} {f8:Addr} {od8 an8:Option Addr} {sl8:Array (Option Value)} {oc8 kV8 dc8 pm8 cd8 ct8:Value} {f9:Addr} {od9 an9:Option Addr} {sl9:Array (Option Value)} {oc9 kV9 dc9 pm9 cd9 ct9:Value} {f10:Addr} {od10 an10:Option Addr} {sl10:Array (Option Value)} {oc10 kV10 dc10 pm10 cd10 ct10:Value} {f11:Addr} {od11 an11:Option Addr} {sl11:Array (Option Value)} {oc11 kV11 dc11 pm11 cd11 ct11:Value} {f12:Addr} {od12 an12:Option Addr} {sl12:Array (Option Value)} {oc12 kV12 dc12 pm12 cd12 ct12:Value} {f13:Addr} {od13 an13:Option Addr} {sl13:Array (Option Value)} {oc13 kV13 dc13 pm13 cd13 ct13:Value} {f14:Addr} {od14 an14:Option Addr} {sl14:Array (Option Value)} {oc14 kV14 dc14 pm14 cd14 ct14:Value} {f15:Addr} {od15 an15:Option Addr} {sl15:Array (Option Value)} {oc15 kV15 dc15 pm15 cd15 ct15:Value} {f16:Addr} {od16 an16:Option Addr} {sl16:Array (Option Value)} {oc16 kV16 dc16 pm16 cd16 ct16:Value} {f17:Addr} {od17 an17:Option Addr} {sl17:Array (Option Value)} {oc17 kV17 dc17 pm17 cd17 ct17:Value} {f18:Addr} {od18 an18:Option Addr} {sl18:Array (Option Value)} {oc18 kV18 dc18 pm18 cd18 ct18:Value} {f19:Addr} {od19 an19:Option Addr} {sl19:Array (Option Value)} {oc19 kV19 dc19 pm19 cd19 ct19:Value} {f20:Addr} {od20 an20:Option Addr} {sl20:Array (Option Value)} {oc20 kV20 dc20 pm20 cd20 ct20:Value} {f21:Addr} {od21 an21:Option Addr} {sl21:Array (Option Value)} {oc21 kV21 dc21 pm21 cd21 ct21:Value} {f22:Addr} {od22 an22:Option Addr} {sl22:Array (Option Value)} {oc22 kV22 dc22 pm22 cd22 ct22:Value} {f23:Addr} {od23 an23:Option Addr} {sl23:Array (Option Value)} {oc23 kV23 dc23 pm23 cd23 ct23:Value} {f24:Addr} {od24 an24:Option Addr} {sl24:Array (Option Value)} {oc24 kV24 dc24 pm24 cd24 ct24:Value} {f25:Addr} {od25 an25:Option Addr} {sl25:Array (Option Value)} {oc25 kV25 dc25 pm25 cd25 ct25:Value} {f26:Addr} {od26 an26:Option Addr} {sl26:Array (Option Value)} {oc26 kV26 dc26 pm26 cd26 ct26:Value} {f27:Addr} {od27 an27:Option Addr} {sl27:Array (Option Value)} {oc27 kV27 dc27 pm27 cd27 ct27:Value} {f28:Addr} {od28 an28:Option Addr} {sl28:Array (Option Value)} {oc28 kV28 dc28 pm28 cd28 ct28:Value} {f29:Addr} {od29 an29:Option Addr} {sl29:Array (Option Value)} {oc29 kV29 dc29 pm29 cd29 ct29:Value} {f30:Addr} {od30 an30:Option Addr} {sl30:Array (Option Value)} {oc30 kV30 dc30 pm30 cd30 ct30:Value} {f31:Addr} {od31 an31:Option Addr} {sl31:Array (Option Value)} {oc31 kV31 dc31 pm31 cd31 ct31:Value} {f32:Addr} {od32 an32:Option Addr} {sl32:Array (Option Value)} {oc32 kV32 dc32 pm32 cd32 ct32:Value} {f33:Addr} {od33 an33:Option Addr} {sl33:Array (Option Value)} {oc33 kV33 dc33 pm33 cd33 ct33:Value} {f34:Addr} {od34 an34:Option Addr} {sl34:Array (Option Value)} {oc34 kV34 dc34 pm34 cd34 ct34:Value} {f35:Addr} {od35 an35:Option Addr} {sl35:Array (Option Value)} {oc35 kV35 dc35 pm35 cd35 ct35:Value} {f36:Addr} {od36 an36:Option Addr} {sl36:Array (Option Value)} {oc36 kV36 dc36 pm36 cd36 ct36:Value} {f37:Addr} {od37 an37:Option Addr} {sl37:Array (Option Value)} {oc37 kV37 dc37 pm37 cd37 ct37:Value} {f38:Addr} {od38 an38:Option Addr} {sl38:Array (Option Value)} {oc38 kV38 dc38 pm38 cd38 ct38:Value} {f39:Addr} {od39 an39:Option Addr} {sl39:Array (Option Value)} {oc39 kV39 dc39 pm39 cd39 ct39:Value} {f40:Addr} {od40 an40:Option Addr} {sl40:Array (Option Value)} {oc40 kV40 dc40 pm40 cd40 ct40:Value} {fc1:Addr} {oe1:Option Addr} {sm1:Array (Option Value)} {nc1:Nat} {ta1 tb1 td1:Tok} {ti1:Tok} {ti2:Tok} {ti3:Tok} {ti4:Tok} {ti5:Tok} {fdd1:Addr} {esd1:Array DictEntry} {ndd1:Nat} {tdd1_0 tdd1_1:Tok} {cst_NoText:Addr} {fx1:Addr} {odx1 anx1:Option Addr} {slx1:Array (Option Value)} {ocx1 kVx1 dcx1 pmx1 cdx1 ctx1:Value}
  (a1:zC K mainGlobals "is_whole" = some (some (.ref f1))) (l1:K.lookup f1=some ⟨oc1,od1,.func (zM "is_whole" "is_whole" (za xq) (zZ xq) (zE xq) .none kV1 dc1 pm1 an1 cd1 ct1),sl1⟩) (c1:zJ K cd1 "is_whole" = true) (k1:zF K (.ref f1)=true)
  (a2:zC K mainGlobals "shifted" = some (some (.ref f2))) (l2:K.lookup f2=some ⟨oc2,od2,.func (zM "shifted" "shifted" (za jG) (zZ jG) (zE jG) .none kV2 dc2 pm2 an2 cd2 ct2),sl2⟩) (c2:zJ K cd2 "shifted" = true) (k2:zF K (.ref f2)=true)
  (a3:zC K mainGlobals "is_between" = some (some (.ref f3))) (l3:K.lookup f3=some ⟨oc3,od3,.func (zM "is_between" "is_between" (za y9) (zZ y9) (zE y9) .none kV3 dc3 pm3 an3 cd3 ct3),sl3⟩) (c3:zJ K cd3 "is_between" = true) (k3:zF K (.ref f3)=true)
  (a4:zC K mainGlobals "is_deed" = some (some (.ref f4))) (l4:K.lookup f4=some ⟨oc4,od4,.func (zM "is_deed" "is_deed" (za jH) (zZ jH) (zE jH) .none kV4 dc4 pm4 an4 cd4 ct4),sl4⟩) (c4:zJ K cd4 "is_deed" = true) (k4:zF K (.ref f4)=true)
  (a5:zC K mainGlobals "is_out" = some (some (.ref f5))) (l5:K.lookup f5=some ⟨oc5,od5,.func (zM "is_out" "is_out" (za jr) (zZ jr) (zE jr) .none kV5 dc5 pm5 an5 cd5 ct5),sl5⟩) (c5:zJ K cd5 "is_out" = true) (k5:zF K (.ref f5)=true)
  (a6:zC K mainGlobals "is_part" = some (some (.ref f6))) (l6:K.lookup f6=some ⟨oc6,od6,.func (zM "is_part" "is_part" (za jI) (zZ jI) (zE jI) .none kV6 dc6 pm6 an6 cd6 ct6),sl6⟩) (c6:zJ K cd6 "is_part" = true) (k6:zF K (.ref f6)=true)
  (a7:zC K mainGlobals "shifted_row" = some (some (.ref f7))) (l7:K.lookup f7=some ⟨oc7,od7,.func (zM "shifted_row" "shifted_row" (za yp) (zZ yp) (zE yp) .none kV7 dc7 pm7 an7 cd7 ct7),sl7⟩) (c7:zJ K cd7 "shifted_row" = true) (k7:zF K (.ref f7)=true)
  (a8:zC K mainGlobals "input_rows" = some (some (.ref f8))) (l8:K.lookup f8=some ⟨oc8,od8,.func (zM "input_rows" "input_rows" (za xA) (zZ xA) (zE xA) .none kV8 dc8 pm8 an8 cd8 ct8),sl8⟩) (c8:zJ K cd8 "input_rows" = true) (k8:zF K (.ref f8)=true)
  (a9:zC K mainGlobals "input_row" = some (some (.ref f9))) (l9:K.lookup f9=some ⟨oc9,od9,.func (zM "input_row" "input_row" (za xW) (zZ xW) (zE xW) .none kV9 dc9 pm9 an9 cd9 ct9),sl9⟩) (c9:zJ K cd9 "input_row" = true) (k9:zF K (.ref f9)=true)
  (a10:zC K mainGlobals "deed_row" = some (some (.ref f10))) (l10:K.lookup f10=some ⟨oc10,od10,.func (zM "deed_row" "deed_row" (za xr) (zZ xr) (zE xr) .none kV10 dc10 pm10 an10 cd10 ct10),sl10⟩) (c10:zJ K cd10 "deed_row" = true) (k10:zF K (.ref f10)=true)
  (a11:zC K mainGlobals "second_sign" = some (some (.ref f11))) (l11:K.lookup f11=some ⟨oc11,od11,.func (zM "second_sign" "second_sign" (za yq) (zZ yq) (zE yq) .none kV11 dc11 pm11 an11 cd11 ct11),sl11⟩) (c11:zJ K cd11 "second_sign" = true) (k11:zF K (.ref f11)=true)
  (a12:zC K mainGlobals "read" = some (some (.ref f12))) (l12:K.lookup f12=some ⟨oc12,od12,.func (zM "read" "read" (za zAh) (zZ zAh) (zE zAh) .none kV12 dc12 pm12 an12 cd12 ct12),sl12⟩) (c12:zJ K cd12 "read" = true) (k12:zF K (.ref f12)=true)
  (a13:zC K mainGlobals "read_ins" = some (some (.ref f13))) (l13:K.lookup f13=some ⟨oc13,od13,.func (zM "read_ins" "read_ins" (za xt) (zZ xt) (zE xt) .none kV13 dc13 pm13 an13 cd13 ct13),sl13⟩) (c13:zJ K cd13 "read_ins" = true) (k13:zF K (.ref f13)=true)
  (a14:zC K mainGlobals "read_deed" = some (some (.ref f14))) (l14:K.lookup f14=some ⟨oc14,od14,.func (zM "read_deed" "read_deed" (za xX) (zZ xX) (zE xX) .none kV14 dc14 pm14 an14 cd14 ct14),sl14⟩) (c14:zJ K cd14 "read_deed" = true) (k14:zF K (.ref f14)=true)
  (a15:zC K mainGlobals "read_sign" = some (some (.ref f15))) (l15:K.lookup f15=some ⟨oc15,od15,.func (zM "read_sign" "read_sign" (za xY) (zZ xY) (zE xY) .none kV15 dc15 pm15 an15 cd15 ct15),sl15⟩) (c15:zJ K cd15 "read_sign" = true) (k15:zF K (.ref f15)=true)
  (a16:zC K mainGlobals "read_out" = some (some (.ref f16))) (l16:K.lookup f16=some ⟨oc16,od16,.func (zM "read_out" "read_out" (za xu) (zZ xu) (zE xu) .none kV16 dc16 pm16 an16 cd16 ct16),sl16⟩) (c16:zJ K cd16 "read_out" = true) (k16:zF K (.ref f16)=true)
  (a17:zC K mainGlobals "read_end" = some (some (.ref f17))) (l17:K.lookup f17=some ⟨oc17,od17,.func (zM "read_end" "read_end" (za xw) (zZ xw) (zE xw) .none kV17 dc17 pm17 an17 cd17 ct17),sl17⟩) (c17:zJ K cd17 "read_end" = true) (k17:zF K (.ref f17)=true)
  (a18:zC K mainGlobals "read_part" = some (some (.ref f18))) (l18:K.lookup f18=some ⟨oc18,od18,.func (zM "read_part" "read_part" (za xZ) (zZ xZ) (zE xZ) .none kV18 dc18 pm18 an18 cd18 ct18),sl18⟩) (c18:zJ K cd18 "read_part" = true) (k18:zF K (.ref f18)=true)
  (a19:zC K mainGlobals "read_shifted" = some (some (.ref f19))) (l19:K.lookup f19=some ⟨oc19,od19,.func (zM "read_shifted" "read_shifted" (za yj) (zZ yj) (zE yj) .none kV19 dc19 pm19 an19 cd19 ct19),sl19⟩) (c19:zJ K cd19 "read_shifted" = true) (k19:zF K (.ref f19)=true)
  (a20:zC K mainGlobals "read_figures" = some (some (.ref f20))) (l20:K.lookup f20=some ⟨oc20,od20,.func (zM "read_figures" "read_figures" (za yk) (zZ yk) (zE yk) .none kV20 dc20 pm20 an20 cd20 ct20),sl20⟩) (c20:zJ K cd20 "read_figures" = true) (k20:zF K (.ref f20)=true)
  (a21:zC K mainGlobals "_law_feed" = some (some (.ref f21))) (l21:K.lookup f21=some ⟨oc21,od21,.func (zM "_law_feed" "_law_feed" (za js) (zZ js) (zE js) .none kV21 dc21 pm21 an21 cd21 ct21),sl21⟩) (c21:zJ K cd21 "_law_feed" = true) (k21:zF K (.ref f21)=true)
  (a22:zC K mainGlobals "_law_take" = some (some (.ref f22))) (l22:K.lookup f22=some ⟨oc22,od22,.func (zM "_law_take" "_law_take" (za jt) (zZ jt) (zE jt) .none kV22 dc22 pm22 an22 cd22 ct22),sl22⟩) (c22:zJ K cd22 "_law_take" = true) (k22:zF K (.ref f22)=true)
  (a23:zC K mainGlobals "_law_low" = some (some (.ref f23))) (l23:K.lookup f23=some ⟨oc23,od23,.func (zM "_law_low" "_law_low" (za Je) (zZ Je) (zE Je) .none kV23 dc23 pm23 an23 cd23 ct23),sl23⟩) (c23:zJ K cd23 "_law_low" = true) (k23:zF K (.ref f23)=true)
  (a24:zC K mainGlobals "_law_moved" = some (some (.ref f24))) (l24:K.lookup f24=some ⟨oc24,od24,.func (zM "_law_moved" "_law_moved" (za jJ) (zZ jJ) (zE jJ) .none kV24 dc24 pm24 an24 cd24 ct24),sl24⟩) (c24:zJ K cd24 "_law_moved" = true) (k24:zF K (.ref f24)=true)
  (a25:zC K mainGlobals "_law_shift" = some (some (.ref f25))) (l25:K.lookup f25=some ⟨oc25,od25,.func (zM "_law_shift" "_law_shift" (za jK) (zZ jK) (zE jK) .none kV25 dc25 pm25 an25 cd25 ct25),sl25⟩) (c25:zJ K cd25 "_law_shift" = true) (k25:zF K (.ref f25)=true)
  (a26:zC K mainGlobals "_law_net" = some (some (.ref f26))) (l26:K.lookup f26=some ⟨oc26,od26,.func (zM "_law_net" "_law_net" (za Jf) (zZ Jf) (zE Jf) .none kV26 dc26 pm26 an26 cd26 ct26),sl26⟩) (c26:zJ K cd26 "_law_net" = true) (k26:zF K (.ref f26)=true)
  (a27:zC K mainGlobals "_law_whole" = some (some (.ref f27))) (l27:K.lookup f27=some ⟨oc27,od27,.func (zM "_law_whole" "_law_whole" (za jL) (zZ jL) (zE jL) .none kV27 dc27 pm27 an27 cd27 ct27),sl27⟩) (c27:zJ K cd27 "_law_whole" = true) (k27:zF K (.ref f27)=true)
  (a28:zC K mainGlobals "_law_part" = some (some (.ref f28))) (l28:K.lookup f28=some ⟨oc28,od28,.func (zM "_law_part" "_law_part" (za ju) (zZ ju) (zE ju) .none kV28 dc28 pm28 an28 cd28 ct28),sl28⟩) (c28:zJ K cd28 "_law_part" = true) (k28:zF K (.ref f28)=true)
  (a29:zC K mainGlobals "_law_made_row" = some (some (.ref f29))) (l29:K.lookup f29=some ⟨oc29,od29,.func (zM "_law_made_row" "_law_made_row" (za xC) (zZ xC) (zE xC) .none kV29 dc29 pm29 an29 cd29 ct29),sl29⟩) (c29:zJ K cd29 "_law_made_row" = true) (k29:zF K (.ref f29)=true)
  (a30:zC K mainGlobals "_law_is_out" = some (some (.ref f30))) (l30:K.lookup f30=some ⟨oc30,od30,.func (zM "_law_is_out" "_law_is_out" (za xx) (zZ xx) (zE xx) .none kV30 dc30 pm30 an30 cd30 ct30),sl30⟩) (c30:zJ K cd30 "_law_is_out" = true) (k30:zF K (.ref f30)=true)
  (a31:zC K mainGlobals "_law_part_text" = some (some (.ref f31))) (l31:K.lookup f31=some ⟨oc31,od31,.func (zM "_law_part_text" "_law_part_text" (za yr) (zZ yr) (zE yr) .none kV31 dc31 pm31 an31 cd31 ct31),sl31⟩) (c31:zJ K cd31 "_law_part_text" = true) (k31:zF K (.ref f31)=true)
  (a32:zC K mainGlobals "_law_text" = some (some (.ref f32))) (l32:K.lookup f32=some ⟨oc32,od32,.func (zM "_law_text" "_law_text" (za jv) (zZ jv) (zE jv) .none kV32 dc32 pm32 an32 cd32 ct32),sl32⟩) (c32:zJ K cd32 "_law_text" = true) (k32:zF K (.ref f32)=true)
  (a33:zC K mainGlobals "_law_number" = some (some (.ref f33))) (l33:K.lookup f33=some ⟨oc33,od33,.func (zM "_law_number" "_law_number" (za xy) (zZ xy) (zE xy) .none kV33 dc33 pm33 an33 cd33 ct33),sl33⟩) (c33:zJ K cd33 "_law_number" = true) (k33:zF K (.ref f33)=true)
  (a34:zC K mainGlobals "_law_written" = some (some (.ref f34))) (l34:K.lookup f34=some ⟨oc34,od34,.func (zM "_law_written" "_law_written" (za xa) (zZ xa) (zE xa) .none kV34 dc34 pm34 an34 cd34 ct34),sl34⟩) (c34:zJ K cd34 "_law_written" = true) (k34:zF K (.ref f34)=true)
  (a35:zC K mainGlobals "_law_line_deed" = some (some (.ref f35))) (l35:K.lookup f35=some ⟨oc35,od35,.func (zM "_law_line_deed" "_law_line_deed" (za yt) (zZ yt) (zE yt) .none kV35 dc35 pm35 an35 cd35 ct35),sl35⟩) (c35:zJ K cd35 "_law_line_deed" = true) (k35:zF K (.ref f35)=true)
  (a36:zC K mainGlobals "_law_line_out" = some (some (.ref f36))) (l36:K.lookup f36=some ⟨oc36,od36,.func (zM "_law_line_out" "_law_line_out" (za xD) (zZ xD) (zE xD) .none kV36 dc36 pm36 an36 cd36 ct36),sl36⟩) (c36:zJ K cd36 "_law_line_out" = true) (k36:zF K (.ref f36)=true)
  (a37:zC K mainGlobals "_law_due" = some (some (.ref f37))) (l37:K.lookup f37=some ⟨oc37,od37,.func (zM "_law_due" "_law_due" (za Jg) (zZ Jg) (zE Jg) .none kV37 dc37 pm37 an37 cd37 ct37),sl37⟩) (c37:zJ K cd37 "_law_due" = true) (k37:zF K (.ref f37)=true)
  (a38:zC K mainGlobals "_law_told" = some (some (.ref f38))) (l38:K.lookup f38=some ⟨oc38,od38,.func (zM "_law_told" "_law_told" (za jw) (zZ jw) (zE jw) .none kV38 dc38 pm38 an38 cd38 ct38),sl38⟩) (c38:zJ K cd38 "_law_told" = true) (k38:zF K (.ref f38)=true)
  (a39:zC K mainGlobals "_law_same" = some (some (.ref f39))) (l39:K.lookup f39=some ⟨oc39,od39,.func (zM "_law_same" "_law_same" (za jx) (zZ jx) (zE jx) .none kV39 dc39 pm39 an39 cd39 ct39),sl39⟩) (c39:zJ K cd39 "_law_same" = true) (k39:zF K (.ref f39)=true)
  (a40:zC K mainGlobals "law" = some (some (.ref f40))) (l40:K.lookup f40=some ⟨oc40,od40,.func (zM "law" "law" (za Jm) (zZ Jm) (zE Jm) .none kV40 dc40 pm40 an40 cd40 ct40),sl40⟩) (c40:zJ K cd40 "law" = true) (k40:zF K (.ref f40)=true)
  (ac1:zC K mainGlobals "NO_OUT" = some (some (.ref fc1))) (lc1:K.lookup fc1=some ⟨.type "tuple",oe1,.seq #[.int 0 ta1,.int 0 tb1,.int 0 td1] nc1,sm1⟩)
  (ai1:zC K mainGlobals "MOST_INS" = some (some (.int 12 ti1)))
  (ai2:zC K mainGlobals "MOST_OUTS" = some (some (.int 12 ti2)))
  (ai3:zC K mainGlobals "FURTHEST" = some (some (.int 4000 ti3)))
  (ai4:zC K mainGlobals "FIGURES" = some (some (.str "0123456789" ti4)))
  (ai5:zC K mainGlobals "MOST_SHIFT_FIGURES" = some (some (.int 4 ti5)))
  (add1:zC K mainGlobals "WORDS_BY_SIGN" = some (some (.ref fdd1))) (ldd1:K.lookup fdd1=some ⟨.type "dict",none,.dict esd1 ndd1,#[]⟩) (kdd1:PySem.W.KeysLit w.params esd1.toList) (edd1_0:zC K fdd1 "+" = some (some (.str "sum" tdd1_0))) (edd1_1:zC K fdd1 "-" = some (some (.str "less" tdd1_1)))
  (gdd1:(fdd1 == sysModules)=false) (xdd1:esd1.toList.all (fun e=>(["+","-"]:List Str).any fun k=>Value.isStrOf k e.key)=true)
  (ak1:zC K mainGlobals "NoText" = some (some (.ref cst_NoText)))
  (fk1:L2.subIn K cst_NoText cst_NoText=true)
  (fk2:L2.excK K cst_NoText=true)
  (ax1:yN K (.ref cst_NoText) "__init__" = some (some (.ref fx1))) (lx1:K.lookup fx1=some ⟨ocx1,odx1,.func (zM "__init__" "NoText.__init__" (za xS) (zZ xS) (zE xS) .none kVx1 dcx1 pmx1 anx1 cdx1 ctx1),slx1⟩) (cx1:zJ K cdx1 "NoText.__init__" = true) (kx1:zF K (.ref fx1)=true) (ix1:PySem.W.isFn K (.ref fx1)=true) (ex1:excI K cst_NoText [.type "ValueError",.type "Exception",.type "BaseException",.type "object"] "ValueError.__new__" fx1=true) (wx1:zF K (.ref cst_NoText)=true) (tx1:setX K cst_NoText "line" = true)
  (z1:zC K mainGlobals "abs" = some none)
  (z2:zC K mainGlobals "all" = some none)
  (z3:zC K mainGlobals "any" = some none)
  (z4:zC K mainGlobals "bool" = some none)
  (z5:zC K mainGlobals "enumerate" = some none)
  (z6:zC K mainGlobals "int" = some none)
  (z7:zC K mainGlobals "isinstance" = some none)
  (z8:zC K mainGlobals "len" = some none)
  (z9:zC K mainGlobals "list" = some none)
  (z10:zC K mainGlobals "min" = some none)
  (z11:zC K mainGlobals "range" = some none)
  (z12:zC K mainGlobals "str" = some none)
  (z13:zC K mainGlobals "tuple" = some none)
  (z14:zC K mainGlobals "zip" = some none)
  : ∃ fd:FuncData,(∀ (s:Shared) (v:Value),BindsTo s fd ⟨[v],[]⟩ [("_law_script",v)]) /\ ∀ base:Heap,K.In base -> base.Ns mainGlobals mg -> FnOk l.prog w K mg base CX0 20 fa fd ["_law_script"] (spLaw K):=by
 have e:=hfa.symm.trans (zH X G a40)
 cases e
 have F1:=zo (st:=xq) l1 c1 k1
 have b1:=F1.binds (ps:=["thing"]) fun _ _ _ _ _ _ us hl=>by obtain ⟨a0_,rfl⟩:=ln1 (us:=us) hl; rfl
 have F2:=zo (st:=jG) l2 c2 k2
 have b2:=F2.binds (ps:=["number","shift"]) fun _ _ _ _ _ _ us hl=>by obtain ⟨a0_,a1_,rfl⟩:=ln2 (us:=us) hl; rfl
 have F3:=zo (st:=y9) l3 c3 k3
 have b3:=F3.binds (ps:=["thing","low","high"]) fun _ _ _ _ _ _ us hl=>by obtain ⟨a0_,a1_,a2_,rfl⟩:=ln3 (us:=us) hl; rfl
 have F4:=zo (st:=jH) l4 c4 k4
 have b4:=F4.binds (ps:=["deed","rows"]) fun _ _ _ _ _ _ us hl=>by obtain ⟨a0_,a1_,rfl⟩:=ln2 (us:=us) hl; rfl
 have F5:=zo (st:=jr) l5 c5 k5
 have b5:=F5.binds (ps:=["out","rows"]) fun _ _ _ _ _ _ us hl=>by obtain ⟨a0_,a1_,rfl⟩:=ln2 (us:=us) hl; rfl
 have F6:=zo (st:=jI) l6 c6 k6
 have b6:=F6.binds (ps:=["thing","shift","rows"]) fun _ _ _ _ _ _ us hl=>by obtain ⟨a0_,a1_,a2_,rfl⟩:=ln3 (us:=us) hl; rfl
 have F7:=zo (st:=yp) l7 c7 k7
 have b7:=F7.binds (ps:=["row","shift"]) fun _ _ _ _ _ _ us hl=>by obtain ⟨a0_,a1_,rfl⟩:=ln2 (us:=us) hl; rfl
 have F8:=zo (st:=xA) l8 c8 k8
 have b8:=F8.binds (ps:=["ins"]) fun _ _ _ _ _ _ us hl=>by obtain ⟨a0_,rfl⟩:=ln1 (us:=us) hl; rfl
 have F9:=zo (st:=xW) l9 c9 k9
 have b9:=F9.binds (ps:=["ins","thing"]) fun _ _ _ _ _ _ us hl=>by obtain ⟨a0_,a1_,rfl⟩:=ln2 (us:=us) hl; rfl
 have F10:=zo (st:=xr) l10 c10 k10
 have b10:=F10.binds (ps:=["deed","rows"]) fun _ _ _ _ _ _ us hl=>by obtain ⟨a0_,a1_,rfl⟩:=ln2 (us:=us) hl; rfl
 have F11:=zo (st:=yq) l11 c11 k11
 have b11:=F11.binds (ps:=["deed"]) fun _ _ _ _ _ _ us hl=>by obtain ⟨a0_,rfl⟩:=ln1 (us:=us) hl; rfl
 have F12:=zo (st:=zAh) l12 c12 k12
 have b12:=F12.binds (ps:=["text"]) fun _ _ _ _ _ _ us hl=>by obtain ⟨a0_,rfl⟩:=ln1 (us:=us) hl; rfl
 have F13:=zo (st:=xt) l13 c13 k13
 have b13:=F13.binds (ps:=["line"]) fun _ _ _ _ _ _ us hl=>by obtain ⟨a0_,rfl⟩:=ln1 (us:=us) hl; rfl
 have F14:=zo (st:=xX) l14 c14 k14
 have b14:=F14.binds (ps:=["words"]) fun _ _ _ _ _ _ us hl=>by obtain ⟨a0_,rfl⟩:=ln1 (us:=us) hl; rfl
 have F15:=zo (st:=xY) l15 c15 k15
 have b15:=F15.binds (ps:=["sign"]) fun _ _ _ _ _ _ us hl=>by obtain ⟨a0_,rfl⟩:=ln1 (us:=us) hl; rfl
 have F16:=zo (st:=xu) l16 c16 k16
 have b16:=F16.binds (ps:=["words"]) fun _ _ _ _ _ _ us hl=>by obtain ⟨a0_,rfl⟩:=ln1 (us:=us) hl; rfl
 have F17:=zo (st:=xw) l17 c17 k17
 have b17:=F17.binds (ps:=["word"]) fun _ _ _ _ _ _ us hl=>by obtain ⟨a0_,rfl⟩:=ln1 (us:=us) hl; rfl
 have F18:=zo (st:=xZ) l18 c18 k18
 have b18:=F18.binds (ps:=["word"]) fun _ _ _ _ _ _ us hl=>by obtain ⟨a0_,rfl⟩:=ln1 (us:=us) hl; rfl
 have F19:=zo (st:=yj) l19 c19 k19
 have b19:=F19.binds (ps:=["pieces","sign"]) fun _ _ _ _ _ _ us hl=>by obtain ⟨a0_,a1_,rfl⟩:=ln2 (us:=us) hl; rfl
 have F20:=zo (st:=yk) l20 c20 k20
 have b20:=F20.binds (ps:=["word"]) fun _ _ _ _ _ _ us hl=>by obtain ⟨a0_,rfl⟩:=ln1 (us:=us) hl; rfl
 have F21:=zo (st:=js) l21 c21 k21
 have b21:=F21.binds (ps:=["_law_script","_law_k"]) fun _ _ _ _ _ _ us hl=>by obtain ⟨a0_,a1_,rfl⟩:=ln2 (us:=us) hl; rfl
 have F22:=zo (st:=jt) l22 c22 k22
 have b22:=F22.binds (ps:=["_law_feed_here","_law_many"]) fun _ _ _ _ _ _ us hl=>by obtain ⟨a0_,a1_,rfl⟩:=ln2 (us:=us) hl; rfl
 have F23:=zo (st:=Je) l23 c23 k23
 have b23:=F23.binds (ps:=["_law_row"]) fun _ _ _ _ _ _ us hl=>by obtain ⟨a0_,rfl⟩:=ln1 (us:=us) hl; rfl
 have F24:=zo (st:=jJ) l24 c24 k24
 have b24:=F24.binds (ps:=["_law_row","_law_shift_here"]) fun _ _ _ _ _ _ us hl=>by obtain ⟨a0_,a1_,rfl⟩:=ln2 (us:=us) hl; rfl
 have F25:=zo (st:=jK) l25 c25 k25
 have b25:=F25.binds (ps:=["_law_feed_here","_law_row"]) fun _ _ _ _ _ _ us hl=>by obtain ⟨a0_,a1_,rfl⟩:=ln2 (us:=us) hl; rfl
 have F26:=zo (st:=Jf) l26 c26 k26
 have b26:=F26.binds (ps:=["_law_feed_here","_law_many","_law_few"]) fun _ _ _ _ _ _ us hl=>by obtain ⟨a0_,a1_,a2_,rfl⟩:=ln3 (us:=us) hl; rfl
 have F27:=zo (st:=jL) l27 c27 k27
 have b27:=F27.binds (ps:=["_law_thing"]) fun _ _ _ _ _ _ us hl=>by obtain ⟨a0_,rfl⟩:=ln1 (us:=us) hl; rfl
 have F28:=zo (st:=ju) l28 c28 k28
 have b28:=F28.binds (ps:=["_law_rows","_law_thing","_law_shift_here"]) fun _ _ _ _ _ _ us hl=>by obtain ⟨a0_,a1_,a2_,rfl⟩:=ln3 (us:=us) hl; rfl
 have F29:=zo (st:=xC) l29 c29 k29
 have b29:=F29.binds (ps:=["_law_rows","_law_deed"]) fun _ _ _ _ _ _ us hl=>by obtain ⟨a0_,a1_,rfl⟩:=ln2 (us:=us) hl; rfl
 have F30:=zo (st:=xx) l30 c30 k30
 have b30:=F30.binds (ps:=["_law_rows","_law_out"]) fun _ _ _ _ _ _ us hl=>by obtain ⟨a0_,a1_,rfl⟩:=ln2 (us:=us) hl; rfl
 have F31:=zo (st:=yr) l31 c31 k31
 have b31:=F31.binds (ps:=["_law_thing","_law_shift_here"]) fun _ _ _ _ _ _ us hl=>by obtain ⟨a0_,a1_,rfl⟩:=ln2 (us:=us) hl; rfl
 have F32:=zo (st:=jv) l32 c32 k32
 have b32:=F32.binds (ps:=["_law_web"]) fun _ _ _ _ _ _ us hl=>by obtain ⟨a0_,rfl⟩:=ln1 (us:=us) hl; rfl
 have F33:=zo (st:=xy) l33 c33 k33
 have b33:=F33.binds (ps:=["_law_text_here","_law_most"]) fun _ _ _ _ _ _ us hl=>by obtain ⟨a0_,a1_,rfl⟩:=ln2 (us:=us) hl; rfl
 have F34:=zo (st:=xa) l34 c34 k34
 have b34:=F34.binds (ps:=["_law_text_here"]) fun _ _ _ _ _ _ us hl=>by obtain ⟨a0_,rfl⟩:=ln1 (us:=us) hl; rfl
 have F35:=zo (st:=yt) l35 c35 k35
 have b35:=F35.binds (ps:=["_law_line"]) fun _ _ _ _ _ _ us hl=>by obtain ⟨a0_,rfl⟩:=ln1 (us:=us) hl; rfl
 have F36:=zo (st:=xD) l36 c36 k36
 have b36:=F36.binds (ps:=["_law_line"]) fun _ _ _ _ _ _ us hl=>by obtain ⟨a0_,rfl⟩:=ln1 (us:=us) hl; rfl
 have F37:=zo (st:=Jg) l37 c37 k37
 have b37:=F37.binds (ps:=["_law_text_here"]) fun _ _ _ _ _ _ us hl=>by obtain ⟨a0_,rfl⟩:=ln1 (us:=us) hl; rfl
 have F38:=zo (st:=jw) l38 c38 k38
 have b38:=F38.binds (ps:=["_law_text_here"]) fun _ _ _ _ _ _ us hl=>by obtain ⟨a0_,rfl⟩:=ln1 (us:=us) hl; rfl
 have F39:=zo (st:=jx) l39 c39 k39
 have b39:=F39.binds (ps:=["_law_text_here"]) fun _ _ _ _ _ _ us hl=>by obtain ⟨a0_,rfl⟩:=ln1 (us:=us) hl; rfl
 have F40:=zo (st:=Jm) l40 c40 k40
 have b40:=F40.binds (ps:=["_law_script"]) fun _ _ _ _ _ _ us hl=>by obtain ⟨a0_,rfl⟩:=ln1 (us:=us) hl; rfl
 have D1:CDgm w.params K mg "WORDS_BY_SIGN" [("+","sum"),("-","less")]:=⟨fdd1,zH X G add1,esd1,ndd1,ldd1,kdd1,gdd1,xdd1,by intro kv hkv; simp only [zI,zR,or_false] at hkv; rcases hkv with rfl | rfl; (focus exact ⟨_,edd1_0⟩); (focus exact ⟨_,edd1_1⟩)⟩
 have Fx1:=zo (st:=xS) lx1 cx1 kx1
 have bx1:=Fx1.binds (ps:=["self","line"]) fun _ _ _ _ _ _ us hl=>by obtain ⟨a0_,a1_,rfl⟩:=ln2 (us:=us) hl; rfl
 have T:Txt K mg:=⟨⟨zl X G z1,zl X G z2,zl X G z3,zl X G z4,zl X G z5,zl X G z6,zl X G z7,zl X G z8,zl X G z9,zl X G z10,zl X G z11,zl X G z12,zl X G z13,zl X G z14⟩,⟨_,_,F1,zH X G a1,b1⟩,⟨_,_,F2,zH X G a2,b2⟩,⟨_,_,F3,zH X G a3,b3⟩,⟨_,_,F4,zH X G a4,b4⟩,⟨_,_,F5,zH X G a5,b5⟩,⟨_,_,F6,zH X G a6,b6⟩,⟨_,_,F7,zH X G a7,b7⟩,⟨_,_,F8,zH X G a8,b8⟩,⟨_,_,F9,zH X G a9,b9⟩,⟨_,_,F10,zH X G a10,b10⟩,⟨_,_,F11,zH X G a11,b11⟩,⟨_,_,F12,zH X G a12,b12⟩,⟨_,_,F13,zH X G a13,b13⟩,⟨_,_,F14,zH X G a14,b14⟩,⟨_,_,F15,zH X G a15,b15⟩,⟨_,_,F16,zH X G a16,b16⟩,⟨_,_,F17,zH X G a17,b17⟩,⟨_,_,F18,zH X G a18,b18⟩,⟨_,_,F19,zH X G a19,b19⟩,⟨_,_,F20,zH X G a20,b20⟩,⟨_,_,F21,zH X G a21,b21⟩,⟨_,_,F22,zH X G a22,b22⟩,⟨_,_,F23,zH X G a23,b23⟩,⟨_,_,F24,zH X G a24,b24⟩,⟨_,_,F25,zH X G a25,b25⟩,⟨_,_,F26,zH X G a26,b26⟩,⟨_,_,F27,zH X G a27,b27⟩,⟨_,_,F28,zH X G a28,b28⟩,⟨_,_,F29,zH X G a29,b29⟩,⟨_,_,F30,zH X G a30,b30⟩,⟨_,_,F31,zH X G a31,b31⟩,⟨_,_,F32,zH X G a32,b32⟩,⟨_,_,F33,zH X G a33,b33⟩,⟨_,_,F34,zH X G a34,b34⟩,⟨_,_,F35,zH X G a35,b35⟩,⟨_,_,F36,zH X G a36,b36⟩,⟨_,_,F37,zH X G a37,b37⟩,⟨_,_,F38,zH X G a38,b38⟩,⟨_,_,F39,zH X G a39,b39⟩,⟨_,_,F40,zH X G a40,b40⟩,⟨fc1,zH X G ac1,_,_,_,lc1,rfl,rfl,zg (by show 3 <= 1000; decide),.cons ⟨_,rfl⟩ (.cons ⟨_,rfl⟩ (.cons ⟨_,rfl⟩ .nil))⟩,⟨ti1,zH X G ai1⟩,⟨ti2,zH X G ai2⟩,⟨ti3,zH X G ai3⟩,⟨ti4,zH X G ai4⟩,⟨ti5,zH X G ai5⟩,⟨cst_NoText,zH X G ak1,fk1,fk2,⟨fx1,_,Fx1,bx1,ix1,ex1⟩,wx1,tx1⟩⟩
 refine ⟨zM "law" "law" (za Jm) (zZ Jm) (zE Jm) .none kV40 dc40 pm40 an40 cd40 ct40,fun s v=>.of_eq rfl,fun base _ _=>?_⟩
 exact ok_law T F40 D1
theorem walk {l:PySem.W.OpenLaw}{q:Program}{loose:List Str}{XP:(Str -> Option Value) -> Heap -> Prop}{YP:World -> Heap -> Prop}{d:DefRec}{K:Params -> zA}(hn:l.most=some 63)(hdf:d.params.defaults=[])
  (hY:∀ (w:World) (h:Heap),YP w h -> (K w.params).In h)
  (F:∀ (w:World) (mg:Str -> Option Value) (fa:Addr) (h:Heap),(K w.params).In h -> h.Ns mainGlobals mg -> mg d.name=some (.ref fa) ->
   ∃ fd:FuncData,(∀ (s:Shared) (u:Value),BindsTo s fd ⟨[u],[]⟩ [("_law_script",u)]) /\ ∀ base:Heap,(K w.params).In base -> base.Ns mainGlobals mg -> FnOk l.prog w (K w.params) mg base CX0 20 fa fd ["_law_script"] (spLaw (K w.params))) :
  PySem.W.WalkO q loose XP YP l.row.toRowW d [] (fun f vs=>PySem.call f vs) :=
 L2.walk_of (n:=63) (k:=20) (x:="_law_script") (CX:=fun _=>CX0) (sp:=fun w=>spLaw (K w.params)) hn (by decide) hdf ⟨rfl,by decide,by decide⟩ hY F (fun _ _ a ns hl hO hS=>⟨a,ns,rfl,scr_of hO hS,hl,fun _=>rfl⟩) fun _ _ _ _ _ z=>z
end Law
def PySem.W.Fast.tw14900060815197778891:Unit:=()
def PySem.W.Fast.tw1675924082025725277:Unit:=()
def PySem.W.Fast.tw7028697817593980140:Unit:=()
def PySem.W.Fast.tw7600019921199210155:Unit:=()
def PySem.W.Fast.tw12964205723051000467:Unit:=()
def PySem.W.Fast.tw10777188672786281238:Unit:=()
def PySem.W.Fast.tw8248807255373049923:Unit:=()
def PySem.W.Fast.tw13328781628350162261:Unit:=()
def PySem.W.Fast.tw13015985764854694089:Unit:=()
def PySem.W.Fast.tw15346498293680840852:Unit:=()
def PySem.W.Fast.tw14345938483765688695:Unit:=()
def PySem.W.Fast.tw18200755368235096870:Unit:=()
def PySem.W.Fast.tw8704110952498835717:Unit:=()
def PySem.W.Fast.tw6980531196777098734:Unit:=()
def PySem.W.Fast.tw17302034376171551595:Unit:=()
def PySem.W.Fast.tw7747041987021065210:Unit:=()
def PySem.W.Fast.tw4887900873115519064:Unit:=()
def PySem.W.Fast.tw3942218813566294442:Unit:=()
open PySem PySem.W PyProof.Rows
set_option maxRecDepth 100000 in
set_option maxHeartbeats 0 in
theorem PySem.Challenge.cw_shiftsums_k64_every_sign_of_a_text_holds : PySem.Challenge.rw_shiftsums_k64_every_sign_of_a_text.Holds := by
 w_on; o_law; k_head; (case hw=>w_witness2)
 k_fill
 refine Law.walk (l:=PySem.Challenge.rw_shiftsums_k64_every_sign_of_a_text) rfl rfl (fun w h Y=>PySem.W.kIn_of Y) ?F
 case F =>
  intro w mg fa h KX G hmg
  refine' Law.all_mk KX G hmg ?a1 ?l1 ?c1 ?k1 ?a2 ?l2 ?c2 ?k2 ?a3 ?l3 ?c3 ?k3 ?a4 ?l4 ?c4 ?k4 ?a5 ?l5 ?c5 ?k5 ?a6 ?l6 ?c6 ?k6 ?a7 ?l7 ?c7 ?k7 ?a8 ?l8 ?c8 ?k8 ?a9 ?l9 ?c9 ?k9 ?a10 ?l10 ?c10 ?k10 ?a11 ?l11 ?c11 ?k11 ?a12 ?l12 ?c12 ?k12 ?a13 ?l13 ?c13 ?k13 ?a14 ?l14 ?c14 ?k14 ?a15 ?l15 ?c15 ?k15 ?a16 ?l16 ?c16 ?k16 ?a17 ?l17 ?c17 ?k17 ?a18 ?l18 ?c18 ?k18 ?a19 ?l19 ?c19 ?k19 ?a20 ?l20 ?c20 ?k20 ?a21 ?l21 ?c21 ?k21 ?a22 ?l22 ?c22 ?k22 ?a23 ?l23 ?c23 ?k23 ?a24 ?l24 ?c24 ?k24 ?a25 ?l25 ?c25 ?k25 ?a26 ?l26 ?c26 ?k26 ?a27 ?l27 ?c27 ?k27 ?a28 ?l28 ?c28 ?k28 ?a29 ?l29 ?c29 ?k29 ?a30 ?l30 ?c30 ?k30 ?a31 ?l31 ?c31 ?k31 ?a32 ?l32 ?c32 ?k32 ?a33 ?l33 ?c33 ?k33 ?a34 ?l34 ?c34 ?k34 ?a35 ?l35 ?c35 ?k35 ?a36 ?l36 ?c36 ?k36 ?a37 ?l37 ?c37 ?k37 ?a38 ?l38 ?c38 ?k38 ?a39 ?l39 ?c39 ?k39 ?a40 ?l40 ?c40 ?k40 ?ac1 ?lc1 ?ai1 ?ai2 ?ai3 ?ai4 ?ai5 ?add1 ?ldd1 ?kdd1 ?edd1_0 ?edd1_1 ?gdd1 ?xdd1 ?ak1 ?fk1 ?fk2 ?ax1 ?lx1 ?cx1 ?kx1 ?ix1 ?ex1 ?wx1 ?tx1 ?z1 ?z2 ?z3 ?z4 ?z5 ?z6 ?z7 ?z8 ?z9 ?z10 ?z11 ?z12 ?z13 ?z14
  (case a1=>k_is); (case l1=>k_is); (case c1=>k_is); (case k1=>k_is)
  (case a2=>k_is); (case l2=>k_is); (case c2=>k_is); (case k2=>k_is)
  (case a3=>k_is); (case l3=>k_is); (case c3=>k_is); (case k3=>k_is)
  (case a4=>k_is); (case l4=>k_is); (case c4=>k_is); (case k4=>k_is)
  (case a5=>k_is); (case l5=>k_is); (case c5=>k_is); (case k5=>k_is)
  (case a6=>k_is); (case l6=>k_is); (case c6=>k_is); (case k6=>k_is)
  (case a7=>k_is); (case l7=>k_is); (case c7=>k_is); (case k7=>k_is)
  (case a8=>k_is); (case l8=>k_is); (case c8=>k_is); (case k8=>k_is)
  (case a9=>k_is); (case l9=>k_is); (case c9=>k_is); (case k9=>k_is)
  (case a10=>k_is); (case l10=>k_is); (case c10=>k_is); (case k10=>k_is)
  (case a11=>k_is); (case l11=>k_is); (case c11=>k_is); (case k11=>k_is)
  (case a12=>k_is); (case l12=>k_is); (case c12=>k_is); (case k12=>k_is)
  (case a13=>k_is); (case l13=>k_is); (case c13=>k_is); (case k13=>k_is)
  (case a14=>k_is); (case l14=>k_is); (case c14=>k_is); (case k14=>k_is)
  (case a15=>k_is); (case l15=>k_is); (case c15=>k_is); (case k15=>k_is)
  (case a16=>k_is); (case l16=>k_is); (case c16=>k_is); (case k16=>k_is)
  (case a17=>k_is); (case l17=>k_is); (case c17=>k_is); (case k17=>k_is)
  (case a18=>k_is); (case l18=>k_is); (case c18=>k_is); (case k18=>k_is)
  (case a19=>k_is); (case l19=>k_is); (case c19=>k_is); (case k19=>k_is)
  (case a20=>k_is); (case l20=>k_is); (case c20=>k_is); (case k20=>k_is)
  (case a21=>k_is); (case l21=>k_is); (case c21=>k_is); (case k21=>k_is)
  (case a22=>k_is); (case l22=>k_is); (case c22=>k_is); (case k22=>k_is)
  (case a23=>k_is); (case l23=>k_is); (case c23=>k_is); (case k23=>k_is)
  (case a24=>k_is); (case l24=>k_is); (case c24=>k_is); (case k24=>k_is)
  (case a25=>k_is); (case l25=>k_is); (case c25=>k_is); (case k25=>k_is)
  (case a26=>k_is); (case l26=>k_is); (case c26=>k_is); (case k26=>k_is)
  (case a27=>k_is); (case l27=>k_is); (case c27=>k_is); (case k27=>k_is)
  (case a28=>k_is); (case l28=>k_is); (case c28=>k_is); (case k28=>k_is)
  (case a29=>k_is); (case l29=>k_is); (case c29=>k_is); (case k29=>k_is)
  (case a30=>k_is); (case l30=>k_is); (case c30=>k_is); (case k30=>k_is)
  (case a31=>k_is); (case l31=>k_is); (case c31=>k_is); (case k31=>k_is)
  (case a32=>k_is); (case l32=>k_is); (case c32=>k_is); (case k32=>k_is)
  (case a33=>k_is); (case l33=>k_is); (case c33=>k_is); (case k33=>k_is)
  (case a34=>k_is); (case l34=>k_is); (case c34=>k_is); (case k34=>k_is)
  (case a35=>k_is); (case l35=>k_is); (case c35=>k_is); (case k35=>k_is)
  (case a36=>k_is); (case l36=>k_is); (case c36=>k_is); (case k36=>k_is)
  (case a37=>k_is); (case l37=>k_is); (case c37=>k_is); (case k37=>k_is)
  (case a38=>k_is); (case l38=>k_is); (case c38=>k_is); (case k38=>k_is)
  (case a39=>k_is); (case l39=>k_is); (case c39=>k_is); (case k39=>k_is)
  (case a40=>k_is); (case l40=>k_is); (case c40=>k_is); (case k40=>k_is)
  (case ac1=>k_is); (case lc1=>k_is); (case ai1=>k_is); (case ai2=>k_is)
  (case ai3=>k_is); (case ai4=>k_is); (case ai5=>k_is); (case add1=>k_is)
  (case ldd1=>k_is); (case kdd1=>k_keys); (case edd1_0=>k_is); (case edd1_1=>k_is)
  (case gdd1=>kernel_rfl); (case xdd1=>kernel_rfl); (case ak1=>k_is); (case fk1=>first | kernel_rfl | k_exc)
  (case fk2=>first | kernel_rfl | k_exc); (case ax1=>k_is); (case lx1=>k_is); (case cx1=>k_is)
  (case kx1=>k_is); (case ix1=>first | kernel_rfl | k_is); (case ex1=>first | kernel_rfl | k_is); (case wx1=>first | kernel_rfl | k_is)
  (case tx1=>first | kernel_rfl | k_is); (case z1=>k_is); (case z2=>k_is); (case z3=>k_is)
  (case z4=>k_is); (case z5=>k_is); (case z6=>k_is); (case z7=>k_is)
  (case z8=>k_is); (case z9=>k_is); (case z10=>k_is); (case z11=>k_is)
  (case z12=>k_is); (case z13=>k_is); (case z14=>k_is)
end
