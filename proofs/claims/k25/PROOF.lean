import PyProof.Rows.All
import Wide.All
import OpenK.AllK
import Wide.FinOn
import Lean
import PyProof.EqAt
import PyProof.EqKinds
import PyProof.TupleCall
import PyProof.NeKinds
import KE.KMinBuiltin
import PyProof.Rows.CallKwBuiltin
import KE.KDictList
import PyProof.ZipIter
import PyProof.EnumFor
import PyProof.EnumMake
import PyProof.EnumStmt
import PyProof.Rows.Range3
import KE.KItemsList
import PyProof.ListRange
import KE.KIsAll
import PyProof.TupleIter
import PyProof.StationsW
import OpenK.KOwn
import PyProof.RulesDel
import PyProof.ExcArgsOwn
import PyProof.ExcAttrAll.ValueError
import KE.IntBitsLaws
import PyProof.IsRules
import PyProof.SetKind
import PyProof.Rows.SetFrom
import PyProof.CollectWalk
import PyProof.ListNew
import PyProof.Seq
import KE.KSortedM
import PyProof.InstStoreFacts
import PyProof.ExcInit
import KE.KSortTup
import PyProof.AttrMissSeq
import KE.KEqDict
import PyProof.Rows.FStr
import PyProof.Rows.StrJoin2
import OpenK.KTop
import PyProof.StrLaws
import PyProof.TupleKey
import PyProof.SetRoads
import PySem.Challenge.RW_shiftsums_k25_whole_none_less_deep
set_option Elab.async false
set_option linter.all false
set_option maxRecDepth 100000
set_option maxHeartbeats 4000000
open PySem.W renaming Frag → zA
open Nat renaming le_refl → zE
open PySem.W renaming nsIn → zI
open PySem.W renaming keepIn → zJ
open PySem.W renaming codeIn → zK
open PySem.W renaming mg_of → zL
open PySem.W renaming fnOf → zN
open List renaming map_cons → zR
open List renaming mem_singleton → zT
open List renaming mem_cons → zV
open Int renaming mul_assoc → zW
open Bool renaming and_eq_true → zX
open Nat renaming le_trans → zZ
open List renaming take_add_one → za
open List renaming mem_cons_self → zb
open Bool renaming false_ne_true → zc
open List renaming mem_cons_of_mem → ze
open Nat renaming ne_of_lt → zg
open PySem.F renaming type_list_append → zj
open PySem.F renaming slot_list_append → zk
open PySem.F renaming plainAttrs_list → zm
open List renaming append_nil → zp
open List renaming length_cons → zq
open List renaming append_assoc → zr
open List renaming take_length → zt
open List renaming getElem?_of_mem → zz
open Nat renaming lt_of_le_of_lt → yB
open List renaming map_append → yC
open Int renaming mul_comm → yF
open PySem.W renaming mg_none_of → yI
open List renaming filterMap_cons → yK
open Nat renaming zero_le → yM
open Int renaming one_mul → yN
open Nat renaming pow_lt_pow_right → yO
open List renaming not_mem_nil → yQ
open List renaming cons_append → yR
open List renaming mem_append → yS
open Option renaming map_eq_some_iff → yW
open Nat renaming sub_self → ya
open List renaming map_map → yb
open Nat renaming zero_add → yf
open Nat renaming lt_irrefl → yg
open List renaming map_congr_left → yi
open Int renaming mul_one → yj
open List renaming take_append_drop → yk
open Int renaming toNat_natCast → yn
open Int renaming pow_succ → yo
open List renaming range → yr
open Int renaming pow_zero → yt
open Nat renaming le_of_succ_le → yv
open PySem.W renaming kitOne → yw
open PySem.W renaming kia_one → yx
open List renaming zipWith → yy
open List renaming getElem?_cons_succ → y8
open PySem.F renaming plain_max_loop → xC
open Nat renaming lt_succ_of_lt → xD
open Nat renaming lt_or_ge → xE
open List renaming take_of_length_le → xF
open List renaming all_eq_true → xM
open Nat renaming add_zero → xP
open Bool renaming false_or → xQ
open List renaming mem_append_left → xW
open Int renaming natAbs_mul → xX
open List renaming length_nil → xj
open List renaming length_reverse → xn
open List renaming length_pos_iff → xo
open List renaming sum_cons → xq
open List renaming filterMap_append → x8
open Option renaming map_some → jH
open Int renaming natCast_pow → jI
open List renaming length_range → jJ
open Option renaming isSome_iff_exists → jL
open Int renaming mul_ediv_cancel_left → jM
open List renaming lookup_cons → jc
open List renaming getElem_mem → jd
open List renaming getElem?_replicate → je
open List renaming getElem?_cons_zero → jf
open Int renaming pow_add → jm
open List renaming map_nil → jn
open List renaming getElem?_eq_none → jy
open List renaming foldl_append → j2
open List renaming getElem?_set_ne → j9
open Int renaming natAbs_pow → JA
open List renaming mem_reverse → JS
open List renaming getLast?_eq_getElem? → JZ
open List renaming getElem?_eq_none_iff → Ja
open Int renaming eq_of_mul_eq_mul_left → Jb
open List renaming getElem?_range → Jc
open List renaming nil_append → Jm
open List renaming mem_filter → Jn
open List renaming find?_cons → Jo
open Bool renaming or_eq_true → Jp
open List renaming mem_filterMap → Jq
open List renaming filter_cons_of_pos → J8
open List renaming filter_cons_of_neg → J9
open Int renaming le_refl → zAA
open Int renaming eq_ofNat_of_zero_le → zAB
open List renaming getElem?_eq_getElem → qA
open List renaming getElem?_eq_some_iff → qB
open List renaming length_map → qC
open List renaming getD_eq_getElem?_getD → qD
open List renaming mem_of_getElem? → qE
open List renaming length_append → qF
open List renaming getElem?_append_right → qG
open List renaming getElem?_append_left → qH
open List renaming getElem?_map → qI
open Nat renaming lt_of_lt_of_le → qJ
open List renaming mem_append_right → qK
open List renaming length_replicate → qL
open List renaming size_toArray → qM
open Nat renaming pow_le_pow_right → qN
open List renaming length_take → qO
open List renaming mem_map → qP
open List renaming replicate → qQ
section
namespace L2
open PySem PySem.Spec PyProof.Rows
abbrev Key:=Sum Int Str
def keyIs:Key -> Value -> Bool
 | .inl k,v=>Value.isInt k v
 | .inr x,v=>Value.isStrOf x v
def keyH (w:World):Key -> Int
 | .inl k=>hashInt k
 | .inr x=>hashStr w x
theorem keyIs_shape:∀ {k:Key} {v:Value},keyIs k v=true -> (∃ i t,k=Sum.inl i /\ v=Value.int i t) \/ (∃ x t,k=Sum.inr x /\ v=Value.str x t)
 | .inl i,v,h=>by
  obtain ⟨t,e⟩:=Value.isInt_shape (k:=i) (v:=v) h
  exact .inl ⟨i,t,rfl,e⟩
 | .inr x,v,h=>by
  obtain ⟨t,e⟩:=Value.isStrOf_shape (x:=x) (v:=v) h
  exact .inr ⟨x,t,rfl,e⟩
theorem keyIs_int (i:Int)(t:Tok):keyIs (.inl i) (.int i t)=true:=by simp [keyIs,Value.isInt]
theorem keyIs_str (x:Str)(t:Tok):keyIs (.inr x) (.str x t)=true:=by simp [keyIs,Value.isStrOf]
theorem key_ll (a b:Int):decide ((Sum.inl a:Key)=Sum.inl b)=(a == b):=by
 by_cases e:a=b
 ·subst e; simp
 ·have h:¬ (Sum.inl a:Key)=Sum.inl b:=fun q=>e (Sum.inl.inj q)
  rw [decide_eq_false h]
  exact (beq_eq_false_iff_ne.mpr e).symm
theorem key_rr (a b:Str):decide ((Sum.inr a:Key)=Sum.inr b)=decide (a=b):=by
 by_cases e:a=b
 ·subst e; simp
 ·have h:¬ (Sum.inr a:Key)=Sum.inr b:=fun q=>e (Sum.inr.inj q)
  rw [decide_eq_false h,decide_eq_false e]
theorem key_lr (a:Int)(b:Str):decide ((Sum.inl a:Key)=Sum.inr b)=false:=decide_eq_false (fun q=>nomatch q)
theorem key_rl (a:Str)(b:Int):decide ((Sum.inr a:Key)=Sum.inl b)=false:=decide_eq_false (fun q=>nomatch q)
def xY (prog:Program)(w:World):PySem.KeyKind prog w Key where
 is:=keyIs
 hash:=keyH w
 inj:=fun v a b ha hb=>by
  rcases keyIs_shape ha with ⟨i,t,rfl,rfl⟩ | ⟨x,t,rfl,rfl⟩
  ·rcases keyIs_shape hb with ⟨j,u,rfl,e⟩ | ⟨y,u,rfl,e⟩
   ·injection e with e1 _; rw [e1]
   ·exact nomatch e
  ·rcases keyIs_shape hb with ⟨j,u,rfl,e⟩ | ⟨y,u,rfl,e⟩
   ·exact nomatch e
   ·injection e with e1 _; rw [e1]
 byValue:=fun k v h=>by
  rcases keyIs_shape h with ⟨i,t,rfl,rfl⟩ | ⟨x,t,rfl,rfl⟩ <;> rfl
 pyHash:=fun hv h=>by
  rcases keyIs_shape hv with ⟨i,t,rfl,rfl⟩ | ⟨x,t,rfl,rfl⟩
  ·exact wpAny_pyHash_int h
  ·exact wpAny_pyHash_str h
 eqBool:=fun hu hv h=>by
  rcases keyIs_shape hu with ⟨i,t,rfl,rfl⟩ | ⟨x,t,rfl,rfl⟩
  ·rcases keyIs_shape hv with ⟨j,u,rfl,rfl⟩ | ⟨y,u,rfl,rfl⟩
   ·rw [key_ll] at h; exact wpAny_eqBool_int h
   ·rw [key_lr] at h; exact SeqAt.EqAt.int_str i t y u _ _ _ _ h
  ·rcases keyIs_shape hv with ⟨j,u,rfl,rfl⟩ | ⟨y,u,rfl,rfl⟩
   ·rw [key_rl] at h; exact SeqAt.EqAt.str_int x t j u _ _ _ _ h
   ·rw [key_rr] at h; exact wpAny_eqBool_str h
 «strs»:=fun k x t v h=>by
  rcases keyIs_shape h with ⟨i,u,rfl,e⟩ | ⟨y,u,rfl,e⟩
  ·exact nomatch e
  ·injection e with e1 _
   subst e1
   cases v <;> rfl
theorem mixKind_int (prog:Program)(w:World)(i:Int)(t:Tok):(xY prog w).is (.inl i) (.int i t)=true:=keyIs_int i t
theorem mixKind_str (prog:Program)(w:World)(x:Str)(t:Tok):(xY prog w).is (.inr x) (.str x t)=true:=keyIs_str x t
end L2
namespace L2
open PySem PySem.Spec PyProof.Rows
inductive V where
 | non | bl (b:Bool) | int (i:Int) | str (x:Str) | byt (b:Array UInt8) | flt (b:UInt64) | ref (a:Addr) | ty (n:String)
 deriving DecidableEq
def RelV:V -> Value -> Prop
 | .non,u=>u=Value.none
 | .bl b,u=>u=Value.bool b
 | .int i,u=>∃ t,u=Value.int i t
 | .str x,u=>∃ t,u=Value.str x t
 | .byt b,u=>∃ t,u=Value.bytes b t
 | .flt b,u=>∃ t,u=Value.float b t
 | .ref a,u=>u=Value.ref a
 | .ty n,u=>u=Value.type n
abbrev Vals:List V -> List Value -> Prop:=Paired RelV
theorem Vals.length {xs:List V}{us:List Value}(r:Vals xs us):xs.length=us.length:=Paired.length r
theorem Vals.get:∀ {xs:List V} {us:List Value} {i:Nat} {x:V},Vals xs us -> xs[i]? = some x -> ∃ u,us[i]? = some u /\ RelV x u
 | _,_,_,_,.nil,e=>by simp at e
 | _,_,0,_,.cons r _,e=>by simp at e; subst e; exact ⟨_,rfl,r⟩
 | _,_,i+1,x,.cons _ t,e=>by
  obtain ⟨u,h1,h2⟩:=Vals.get (i:=i) (x:=x) t (by simpa using e)
  exact ⟨u,by simpa using h1,h2⟩
theorem Vals.set {x:V}{u:Value}(r:RelV x u):∀ {xs:List V} {us:List Value} (i:Nat),Vals xs us -> Vals (xs.set i x) (us.set i u)
 | _,_,_,.nil=>.nil
 | _,_,0,.cons _ t=>.cons r t
 | _,_,i+1,.cons q t=>.cons q (Vals.set r i t)
theorem Vals.append:∀ {xs ys:List V} {us ws:List Value},Vals xs us -> Vals ys ws -> Vals (xs ++ ys) (us ++ ws)
 | _,_,_,_,.nil,s=>s
 | _,_,_,_,.cons r t,s=>.cons r (Vals.append t s)
theorem Vals.take:∀ {xs:List V} {us:List Value} (n:Nat),Vals xs us -> Vals (xs.take n) (us.take n)
 | _,_,0,_=>.nil
 | _,_,_+1,.nil=>.nil
 | _,_,n+1,.cons r t=>.cons r (Vals.take n t)
theorem Vals.drop:∀ {xs:List V} {us:List Value} (n:Nat),Vals xs us -> Vals (xs.drop n) (us.drop n)
 | _,_,0,r=>r
 | _,_,_+1,.nil=>.nil
 | _,_,n+1,.cons _ t=>Vals.drop n t
def RelO:Option V -> Option Value -> Prop
 | some v,some u=>RelV v u
 | none,none=>True
 | _,_=>False
def KV {κ:Type}:List (κ × V) -> List (κ × Value) -> Prop:=Paired fun (p:κ × V) (q:κ × Value)=>p.1=q.1 /\ RelV p.2 q.2
def kV:Key -> V
 | .inl i=>.int i
 | .inr x=>.str x
inductive HO where
 | lst (xs:List V)
 | tup (xs:List V)
 | dK (kvs:List (Key × V)) | dT (kvs:List (List Key × V))
 | set (S:Int -> Bool) (n:Nat)
 | ins (C dx:Addr) (fs:List (Str × V))
 | own (x:Addr)
 | xd (fs:List (Str × V))
 | met (f x:Addr)
 | rng (lo hi:Int)
 | frz (o:Obj) (u:HO)
 | tbl (ps:Array Value)
 | ext (φ:Heap -> Prop)
abbrev Hp:=Addr -> Option HO
def upd (H:Hp)(a:Addr)(o:HO):Hp:=fun b=>if b=a then some o else H b
theorem zF {H:Hp}{a:Addr}{o:HO}:upd H a o a=some o:=by unfold upd; rw [if_pos rfl]
theorem yH {H:Hp}{a b:Addr}{o:HO}(h:b ≠ a):upd H a o b=H b:=by unfold upd; rw [if_neg h]
theorem upd_upd {H:Hp}{a:Addr}{o u:HO}:upd (upd H a o) a u=upd H a u:=by
 funext b; unfold upd; split <;> rfl
theorem xU {H:Hp}{a b:Addr}{o u:HO}(h:H a=some o)(h':H b=some u)(d:o ≠ u):a ≠ b:=by
 intro e; subst e; rw [h] at h'; exact d (Option.some.inj h')
theorem ne_of_none {H:Hp}{a b:Addr}{o:HO}(h:H a=some o)(h':H b=none):a ≠ b:=by
 intro e; subst e; rw [h] at h'; cases h'
section
variable (P:Program)(w:World)
def ObjOk (H:Hp)(h:Heap)(a:Addr):HO -> Prop
 | .lst xs=>xs.length <= sizeLine /\ ∃ (its:List Value) (n:Nat),Vals xs its /\ h.get? a=some { cls:=.type "list",data:=.seq its.toArray n }
 | .tup xs=>xs.length <= sizeLine /\ ∃ its:List Value,Vals xs its /\ IsTup h a its.toArray
 | .dK kvs=>kvs.length <= sizeLine /\ (a == sysModules)=false /\ ∃ vs,KV kvs vs /\ h.DictOf (xY P w) a vs
 | .dT kvs=>kvs.length <= sizeLine /\ (a == sysModules)=false /\ ∃ xs:List (List Key × Addr × Value),
   Paired (fun (p:List Key × V) (q:List Key × Addr × Value)=>p.1=q.1 /\ H q.2.1=some (.tup (p.1.map kV)) /\ RelV p.2 q.2.2) kvs xs /\
   ∃ o es ep,h.get? a=some o /\ o.ExactDict /\ o.data = .dict es ep /\ es.toList=xs.map (entryOfKey (tupleKind (xY P w))) /\ (xs.map (·.1)).Nodup
 | .set S n=>h.SetOf (intKind P w) a S n
 | .ins C dx fs=>H dx=some (.own a) /\ fs.length <= 1000 /\ dx ≠ a /\ h.get? a=some (PySem.W.instObj C dx) /\
   ∃ mA,h.Ns1 dx mA /\ (∀ f,RelO (fs.lookup f) (mA f)) /\ PySem.Within mA (fs.map (·.1))
 | .own _=>∃ o,h.get? a=some o
 | .xd fs=>∃ mA,h.Ns1 a mA /\ ∀ f,RelO (fs.lookup f) (mA f)
 | .rng lo hi=>∃ t u v,h.get? a=some { cls:=.type "range",data:=.fields #[.int lo t,.int hi u,.int 1 v] }
 | .frz o u=>h.get? a=some o /\ ObjOk H h a u
 | .tbl ps=>h.get? a=some { cls:=.none,data:=.fields ps }
 | .met f x=>h.get? a=some (PySem.W.methodObj (.ref f) (.ref x))
 | .ext φ=>φ h /\ (∃ o,h.get? a=some o) /\ ∀ h1 h2:Heap,φ h1 -> (∀ o,h1.get? a=some o -> h2.get? a=some o) -> φ h2
def HOk (H:Hp)(h:Heap):Prop:=∀ a o,H a=some o -> ObjOk P w H h a o
end
section
variable {P:Program}{w:World}{H H':Hp}{h h':Heap}{a:Addr}{o:HO}
theorem ObjOk.lt (x:ObjOk P w H h a o):a < h.objs.size:=by
 cases o with
 | lst xs=>obtain ⟨_,_,_,_,e⟩:=x; exact Heap.lt_size e
 | tup xs=>obtain ⟨_,_,_,p⟩:=x; exact p.lt
 | dK kvs=>obtain ⟨_,_,_,_,o,_,_,e,_⟩:=x; exact Heap.lt_size e
 | dT kvs=>obtain ⟨_,_,_,_,o,_,_,e,_⟩:=x; exact Heap.lt_size e
 | set S n=>obtain ⟨o,_,_,_,e,_⟩:=x; exact Heap.lt_size e
 | ins C dx fs=>obtain ⟨_,_,_,e,_⟩:=x; exact Heap.lt_size e
 | own y=>obtain ⟨_,e⟩:=x; exact Heap.lt_size e
 | xd fs=>obtain ⟨_,⟨_,_,_,e,_⟩,_⟩:=x; exact Heap.lt_size e
 | rng lo hi=>obtain ⟨_,_,_,e⟩:=x; exact Heap.lt_size e
 | frz ob u=>obtain ⟨e,_⟩:=x; exact Heap.lt_size e
 | tbl ps=>exact Heap.lt_size (show h.get? a=some _ from x)
 | met f y=>exact Heap.lt_size (show h.get? a=some _ from x)
 | ext φ=>obtain ⟨_,⟨_,e⟩,_⟩:=x; exact Heap.lt_size e
theorem Paired.mapP {α β:Type}{F G:α -> β -> Prop}:∀ {l₁:List α} {l₂:List β},Paired F l₁ l₂ -> (∀ a b,F a b -> G a b) -> Paired G l₁ l₂
 | _,_,.nil,_=>.nil
 | _,_,.cons r t,f=>.cons (f _ _ r) (Paired.mapP t f)
theorem ObjOk.stay (x:ObjOk P w H h a o)(k:∀ b u,(b=a \/ H b=some (.own a)) -> h.get? b=some u -> h'.get? b=some u)
  (ho:∀ b,H b=some (.own a) -> H' b=some (.own a)) (ht:∀ b xs,H b=some (.tup xs) -> H' b=some (.tup xs)):ObjOk P w H' h' a o:=by
 induction o with
 | lst xs=>obtain ⟨z,its,n,r,e⟩:=x; exact ⟨z,its,n,r,k _ _ (.inl rfl) e⟩
 | tup xs=>obtain ⟨z,its,r,ob,e,c⟩:=x; exact ⟨z,its,r,ob,k _ _ (.inl rfl) e,c⟩
 | dK kvs=>obtain ⟨z,y,vs,r,ob,es,ep,e,c⟩:=x; exact ⟨z,y,vs,r,ob,es,ep,k _ _ (.inl rfl) e,c⟩
 | dT kvs =>
  obtain ⟨z,y,xs,r,ob,es,ep,e,c⟩:=x
  exact ⟨z,y,xs,Paired.mapP r fun p q z=>⟨z.1,ht _ _ z.2.1,z.2.2⟩,ob,es,ep,k _ _ (.inl rfl) e,c⟩
 | set S n=>obtain ⟨ob,es,ep,t,e,c⟩:=x; exact ⟨ob,es,ep,t,k _ _ (.inl rfl) e,c⟩
 | ins C dx fs =>
  obtain ⟨d,z,ne,e,mA,⟨od,es,ep,e2,c⟩,r⟩:=x
  exact ⟨ho _ d,z,ne,k _ _ (.inl rfl) e,mA,⟨od,es,ep,k _ _ (.inr d) e2,c⟩,r⟩
 | own y=>obtain ⟨ob,e⟩:=x; exact ⟨ob,k _ _ (.inl rfl) e⟩
 | xd fs=>obtain ⟨mA,⟨od,es,ep,e,c⟩,r⟩:=x; exact ⟨mA,⟨od,es,ep,k _ _ (.inl rfl) e,c⟩,r⟩
 | rng lo hi=>obtain ⟨t,u,v,e⟩:=x; exact ⟨t,u,v,k _ _ (.inl rfl) e⟩
 | frz ob u ih=>obtain ⟨e,q⟩:=x; exact ⟨k _ _ (.inl rfl) e,ih q⟩
 | tbl ps =>
  have e:h.get? a=some { cls:=.none,data:=.fields ps }:=x
  show h'.get? a=some { cls:=.none,data:=.fields ps }
  exact k a _ (.inl rfl) e
 | met f y =>
  have e:h.get? a=some (PySem.W.methodObj (.ref f) (.ref y)):=x
  show h'.get? a=some (PySem.W.methodObj (.ref f) (.ref y))
  exact k a _ (.inl rfl) e
 | ext φ=>obtain ⟨p,⟨o,e⟩,st⟩:=x; exact ⟨st _ _ p fun o q=>k _ _ (.inl rfl) q,⟨o,k _ _ (.inl rfl) e⟩,st⟩
theorem HOk.lt (x:HOk P w H h)(e:H a=some o):a < h.objs.size:=(x a o e).lt
theorem HOk.fresh (x:HOk P w H h)(e:h.objs.size <= a):H a=none:=by
 cases q:H a with
 | none=>rfl
 | some u=>exact absurd (qJ (x.lt q) e) (yg _)
theorem HOk.kept (x:HOk P w H h)(k:∀ b u,h.get? b=some u -> h'.get? b=some u):HOk P w H h':=fun a o e =>
 (x a o e).stay (fun b u _ q=>k b u q) (fun _ q=>q) fun _ _ q=>q
theorem HOk.laid (x:HOk P w H h)(k:∀ b u,h.get? b=some u -> h'.get? b=some u)(hp:h.objs.size <= a)(new:ObjOk P w (upd H a o) h' a o):HOk P w (upd H a o) h':=fun b u e=>by
 have hn:=x.fresh hp
 by_cases hb:b=a
 ·subst hb; rw [zF] at e; cases e; exact new
 ·rw [yH hb] at e
  exact (x b u e).stay (fun c v _ q=>k c v q) (fun c q=>by rw [yH (ne_of_none q hn)]; exact q) fun c xs q=>by rw [yH (ne_of_none q hn)]; exact q
end
def Rd (H:Hp)(a:Addr)(u:HO):Prop:=H a=some u \/ ∃ o,H a=some (.frz o u)
theorem Rd.ok {P:Program}{w:World}{H:Hp}{h:Heap}{a:Addr}{u:HO}(r:Rd H a u)(x:HOk P w H h):ObjOk P w H h a u:=by
 rcases r with r | ⟨o,r⟩
 ·exact x a u r
 ·obtain ⟨_,q⟩:=x a _ r
  exact q
def Mut:Option HO -> Prop
 | some (.lst _)=>True
 | some (.dK _)=>True
 | some (.dT _)=>True
 | some (.set _ _)=>True
 | some (.ins _ _ _)=>True
 | some (.ext _)=>True
 | _=>False
section
variable {P:Program}{w:World}{H:Hp}{h h':Heap}{x e:Addr}{o':HO}
theorem HOk.write (ok:HOk P w H h)(mu:Mut (H x))(he:e=x \/ H e=some (.own x))(k:∀ b u,b ≠ e -> h.get? b=some u -> h'.get? b=some u)(heo:∃ u,h'.get? e=some u)
  (new:ObjOk P w (upd H x o') h' x o'):HOk P w (upd H x o') h':=fun b u q=>by
 have nown:∀ c y,H c=some (.own y) -> c ≠ x:=fun c y r z=>by subst z; rw [r] at mu; exact mu
 have ntup:∀ c xs,H c=some (.tup xs) -> c ≠ x:=fun c xs r z=>by subst z; rw [r] at mu; exact mu
 by_cases hb:b=x
 ·subst hb; rw [zF] at q; cases q; exact new
 ·rw [yH hb] at q
  by_cases hbe:b=e
  ·have q':H b=some (.own x):=by
    rcases he with z | z
    ·exact absurd (hbe.trans z) hb
    ·rw [hbe]; exact z
   rw [q] at q'; cases q'
   obtain ⟨v,hv⟩:=heo
   exact ⟨v,by rw [hbe]; exact hv⟩
  ·refine (ok b u q).stay (fun c v hc r=>k c v ?_ r) (fun c r=>by rw [yH (nown c b r)]; exact r) fun c xs r=>by rw [yH (ntup c xs r)]; exact r
   rcases hc with rfl | hc
   ·exact hbe
   ·rintro rfl
    rcases he with z | z
    ·exact nown c b hc z
    ·rw [hc] at z; cases z; exact hb rfl
end
structure Un (fs ex:List Addr) (H H':Hp) (h h':Heap):Prop where
 keep:∀ b o,h.get? b=some o -> H b=none -> b ∉ fs -> b ∉ ex -> h'.get? b=some o
 slot:∀ b o,h.get? b=some o -> H b=none -> b ∈ fs -> b ∉ ex -> ∃ sl,h'.get? b=some { o with slots:=sl }
 free:∀ b o,h.get? b=some o -> H b=none -> b ∉ ex -> H' b=none
 there:∀ b o,h.get? b=some o -> b ∉ ex -> ∃ o',h'.get? b=some o'
 tups:∀ b xs,H b=some (.tup xs) -> H' b=some (.tup xs)
 frzs:∀ b o u,H b=some (.frz o u) -> H' b=some (.frz o u)
 tbls:∀ b ps,H b=some (.tbl ps) -> ∃ more,H' b=some (.tbl (ps ++ more))
section
variable {fs fs' ex ex':List Addr}{H H1 H2:Hp}{h h1 h2 h':Heap}{a x e:Addr}{o:HO}
theorem Un.any (u:Un fs ex H H1 h h1){b:Addr}{ob:Obj}(q:h.get? b=some ob)(n:H b=none)(hx:b ∉ ex):∃ sl,h1.get? b=some { ob with slots:=sl }:=by
 by_cases hb:b ∈ fs
 ·exact u.slot b ob q n hb hx
 ·exact ⟨ob.slots,u.keep b ob q n hb hx⟩
theorem Un.kept (k:∀ b u,h.get? b=some u -> h'.get? b=some u):Un fs ex H H h h' :=
 ⟨fun b ob q _ _ _=>k b ob q,fun b ob q _ _ _=>⟨ob.slots,k b ob q⟩,fun _ _ _ n _=>n,fun b ob q _=>⟨ob,k b ob q⟩,fun _ _ q=>q,fun _ _ _ q=>q,fun _ ps q=>⟨#[],by rw [q]; simp⟩⟩
theorem Un.refl:Un fs ex H H h h:=Un.kept fun _ _ q=>q
theorem Un.laid (k:∀ b u,h.get? b=some u -> h'.get? b=some u)(hp:h.objs.size <= a)(hn:H a=none):Un fs ex H (upd H a o) h h' where
 keep:=fun b u q _ _ _=>k b u q
 slot:=fun b u q _ _ _=>⟨u.slots,k b u q⟩
 free:=fun b u q n _=>by rw [yH (zg (qJ (Heap.lt_size q) hp))]; exact n
 there:=fun b u q _=>⟨u,k b u q⟩
 tups:=fun b xs q=>by rw [yH (ne_of_none q hn)]; exact q
 frzs:=fun b u xs q=>by rw [yH (ne_of_none q hn)]; exact q
 tbls:=fun b ps q=>⟨#[],by rw [yH (ne_of_none q hn),q]; simp⟩
theorem Un.write (mu:Mut (H x))(he:e=x \/ H e=some (.own x))(k:∀ b u,b ≠ e -> h.get? b=some u -> h'.get? b=some u)(heo:∃ u,h'.get? e=some u):Un fs ex H (upd H x o) h h':=by
 have hx:∀ b,H b=none -> b ≠ x:=fun b n z=>by subst z; rw [n] at mu; exact mu
 have hb:∀ b,H b=none -> b ≠ e:=fun b n z=>by
  subst z
  rcases he with r | r
  ·exact hx b n r
  ·rw [n] at r; cases r
 have hm:∀ b u,H b=some u -> ¬ Mut (some u) -> b ≠ x:=fun b u q nm z=>by subst z; rw [q] at mu; exact nm mu
 refine ⟨fun b u q n _ _=>k b u (hb b n) q,fun b u q n _ _=>⟨u.slots,k b u (hb b n) q⟩,fun b u q n _=>by rw [yH (hx b n)]; exact n,fun b u q _=>?_,
  fun b xs q=>by rw [yH (hm b _ q fun z=>z)]; exact q,fun b u xs q=>by rw [yH (hm b _ q fun z=>z)]; exact q,fun b ps q=>⟨#[],by rw [yH (hm b _ q fun z=>z),q]; simp⟩⟩
 by_cases hbe:b=e
 ·subst hbe; exact heo
 ·exact ⟨u,k b u hbe q⟩
end
def trk (h:Heap)(H:Hp):List Addr:=(yr h.objs.size).filter fun a=>(H a).isSome
def hidT (h:Heap)(H:Hp):Heap:=PySem.W.hideAll h (trk h H)
theorem hidT_size (h:Heap)(H:Hp):(hidT h H).objs.size=h.objs.size:=PySem.W.hideAll_size _ _
theorem hidT_get {h:Heap}{H:Hp}{b:Addr}{o:Obj}(e:h.get? b=some o)(n:H b=none):(hidT h H).get? b=some o :=
 PySem.W.hideAll_get _ e fun hm=>by
  have q:(H b).isSome=true:=(Jn.mp hm).2
  rw [n] at q; simp at q
theorem of_hidT {h:Heap}{H:Hp}{b:Addr}{o:Obj}(e:(hidT h H).get? b=some o):h.get? b=some o /\ H b=none:=by
 have e':h.get? b=some o:=PySem.W.of_hideAll (trk h H) e
 refine ⟨e',?_⟩
 cases q:H b with
 | none=>rfl
 | some x =>
  have hm:b ∈ trk h H:=Jn.mpr ⟨List.mem_range.mpr (Heap.lt_size e'),by simp [q]⟩
  have z:(hidT h H).get? b=none:=PySem.W.hideAll_none (trk h H) hm
  rw [z] at e; cases e
def allNews (g h:Heap)(L:Addr):List (Addr × Obj):=(yr h.objs.size).filterMap fun a=>if a=L \/ (g.get? a).isSome=true then none else (h.get? a).map fun o=>(a,o)
def rest (g h:Heap)(L d:Addr):List (Addr × Obj):=(allNews g h L).filter fun p=>decide (p.1 ≠ d)
end L2
namespace L2
open PySem PySem.Spec PyProof.Rows
structure Mod (K:zA) (mg:Str -> Option Value) (base:Heap):Prop where
 kin:K.In base
 glob:base.Ns mainGlobals mg
 blt:∃ mb,base.Ns builtinsNs mb /\ ∀ x:Str,x ≠ "__name__" -> mb x=bootBuiltins x
 nolimit:base.NoLimit
structure Cx where
 prog:Program
 w:World
 K:zA
 mg:Str -> Option Value
 base:Heap
 A:Around
 N:List Str
 s₀:Shared
 H₀:Hp
 env:Env
 outer:List Env
 stack:List Env
 ex:List Addr
 fn:Str -> Bool
 calm:Bool
 pn:List (Addr × Obj)
 xe:Value -> Shared -> Prop
def frs (l:List Env):List Addr:=l.filterMap (·.frame)
abbrev Cx.fs (X:Cx):List Addr:=frs X.outer
def Vis (sc:Scope)(x:Str):Prop:=sc.names.lookup x=some .local \/ sc.names.lookup x=some .cell \/ sc.names.lookup x=some .free
def Loc (sc:Scope)(x:Str):Prop:=sc.names.lookup x=some .local \/ sc.names.lookup x=some .cell
def Look (env:Env)(h:Heap)(m:Str -> Option Value)(x:Str)(u:Value):Prop :=
 (env.kindOf x=some .local /\ m x=some u) \/ ((env.kindOf x=some .cell \/ env.kindOf x=some .free) /\ ∃ c,env.cells.lookup x=some c /\ h.IsCell c (some u))
structure Cx.Ok (X:Cx):Prop where
 mod:Mod X.K X.mg X.base
 kind:X.env.scope.kind = .function
 glob:X.env.globals=mainGlobals
 blt:X.env.builtins=builtinsNs
 above:X.s₀.heap.objs.size <= X.env.locals
 inj:∀ x y c,X.env.cells.lookup x=some c -> X.env.cells.lookup y=some c -> x=y
 has:∀ x,(X.env.kindOf x=some .cell \/ X.env.kindOf x=some .free) -> ∃ c,X.env.cells.lookup x=some c
 cab:∀ x c,X.fn x=true -> X.env.cells.lookup x=some c -> X.s₀.heap.objs.size <= c
 hd:X.calm=true -> X.A.handled=none
 frames:X.A.frames=some X.stack
 stk:X.stack=X.outer \/ (X.stack=X.env :: X.outer /\ X.env.frame=some X.env.locals)
 exf:∀ b ∈ X.ex,b ≠ X.env.locals /\ ∀ x c,X.env.cells.lookup x=some c -> c ≠ b
 bs:∀ b o,X.base.get? b=some o -> X.s₀.heap.get? b=some o /\ X.H₀ b=none
 bsz:X.base.objs.size <= X.s₀.heap.objs.size
 noex:∀ b o,X.base.get? b=some o -> b ∉ X.ex
 exfs:∀ b ∈ X.ex,b ∉ X.fs
 funs:X.s₀.heap.FunFrames X.base X.outer
 frf:∀ b ∈ X.fs,X.H₀ b=none
structure Inv (X:Cx) (pins:List (Addr × Obj)) (σ:List (Option V)) (H:Hp) (s:Shared):Prop where
 ok:X.Ok
 os:s.os=X.s₀.os
 bare:AllBare s.gens
 base:Un X.fs X.ex X.H₀ H X.s₀.heap s.heap
 loc:∃ m,s.heap.Ns X.env.locals m /\ ∀ (i:Nat) (x:Str) (v:V),X.N[i]? = some x -> σ[i]? = some (some v) -> Vis X.env.scope x -> ∃ u,RelV v u /\ Look X.env s.heap m x u
 cell:∀ x c,X.env.cells.lookup x=some c -> ∃ v,s.heap.IsCell c v
 free:H X.env.locals=none
 freeC:∀ x c,X.env.cells.lookup x=some c -> H c=none
 pin:∀ p ∈ X.pn ++ pins,s.heap.get? p.1=some p.2 /\ H p.1=none /\ p.1 ≠ X.env.locals /\ p.1 ∉ X.fs /\ ∀ v,p.2.data ≠ .cell v
 hok:HOk X.prog X.w H s.heap
 len:σ.length=X.N.length
section
variable {X:Cx}{pins:List (Addr × Obj)}{σ:List (Option V)}{H H':Hp}{s:Shared}{h':Heap}
theorem Cx.Ok.nofr (ok:X.Ok){b:Addr}{o:Obj}(e:X.base.get? b=some o):b ∉ X.fs:=fun hb=>by
 have:=(ok.funs.mem hb).1
 rw [e] at this; cases this
theorem Inv.bs (I:Inv X pins σ H s):∀ b o,X.base.get? b=some o -> s.heap.get? b=some o /\ H b=none:=fun b o e =>
 ⟨I.base.keep b o (I.ok.bs b o e).1 (I.ok.bs b o e).2 (I.ok.nofr e) (I.ok.noex b o e),I.base.free b o (I.ok.bs b o e).1 (I.ok.bs b o e).2 (I.ok.noex b o e)⟩
theorem Inv.bk (I:Inv X pins σ H s):∀ b o,X.base.get? b=some o -> s.heap.get? b=some o:=fun b o e=>(I.bs b o e).1
theorem Inv.mod (I:Inv X pins σ H s):Mod X.K X.mg X.base:=I.ok.mod
theorem Inv.kIn (I:Inv X pins σ H s):X.K.In s.heap:=I.ok.mod.kin.keeps I.bk
theorem Inv.lt (I:Inv X pins σ H s):X.env.locals < s.heap.objs.size:=let ⟨_,hn,_⟩:=I.loc; hn.lt
theorem Inv.sz (I:Inv X pins σ H s):X.s₀.heap.objs.size <= s.heap.objs.size:=zZ I.ok.above (Nat.le_of_lt I.lt)
theorem Inv.nofs (I:Inv X pins σ H s){a:Addr}(h:s.heap.objs.size <= a):a ∉ X.fs:=fun hb=>by
 obtain ⟨_,o,ho,_⟩:=I.ok.funs.mem hb
 exact absurd (qJ (Heap.lt_size ho) (zZ I.sz h)) (yg _)
theorem Inv.cne (I:Inv X pins σ H s):∀ x c,X.env.cells.lookup x=some c -> c ≠ X.env.locals:=fun x c e z=>by
 obtain ⟨v,o,ho,hd⟩:=I.cell x c e
 obtain ⟨m,⟨o',es,ep,ho',hd',_⟩,_⟩:=I.loc
 rw [z,ho'] at ho; cases ho; rw [hd'] at hd; cases hd
theorem Inv.funs (I:Inv X pins σ H s):s.heap.FunFrames X.base X.outer:=by
 have all:∀ (l:List Env),(∀ b ∈ frs l,b ∈ X.fs) -> X.s₀.heap.FunFrames X.base l -> s.heap.FunFrames X.base l:=by
  intro l
  induction l with
  | nil=>intro _ _; trivial
  | cons env r ih =>
   intro hs hl
   obtain ⟨hk,⟨L,o,hf,hn,ho,hd⟩,hr⟩:=hl
   have hL:L ∈ X.fs:=hs L (by unfold frs; rw [yK,hf]; exact zb)
   obtain ⟨sl,e⟩:=I.base.slot L o ho (I.ok.frf L hL) hL fun z=>I.ok.exfs L z hL
   exact ⟨hk,⟨L,_,hf,hn,e,hd⟩,ih (fun b hb=>hs b (by unfold frs; rw [yK,hf]; exact ze _ hb)) hr⟩
 exact all X.outer (fun _ hb=>hb) I.ok.funs
theorem Inv.stack (I:Inv X pins σ H s):s.heap.FunFrames X.base X.stack:=by
 rcases I.ok.stk with e | ⟨e,hf⟩
 ·rw [e]; exact I.funs
 ·rw [e]
  obtain ⟨m,hn,_⟩:=I.loc
  refine .cons (by rw [I.ok.kind]; decide) hf hn ?_ I.funs
  exact Heap.get?_none_of_le (zZ I.ok.bsz I.ok.above)
theorem Inv.stkSub (I:Inv X pins σ H s):∀ b ∈ frs X.stack,b ∈ X.env.locals :: X.fs:=fun b hb=>by
 rcases I.ok.stk with e | ⟨e,hf⟩
 ·rw [e] at hb; exact ze _ hb
 ·rw [e] at hb
  unfold frs at hb
  rw [yK,hf] at hb
  exact hb
theorem Inv.stkFree (I:Inv X pins σ H s):∀ b ∈ frs X.stack,H b=none:=fun b hb=>by
 rcases zV.mp (I.stkSub b hb) with e | hb
 ·rw [e]; exact I.free
 ·obtain ⟨_,o,ho,_⟩:=I.ok.funs.mem hb
  exact I.base.free b o ho (I.ok.frf b hb) fun z=>I.ok.exfs b z hb
theorem Inv.step {g':Array GenState}{t':Nat}{d':Drawn}{ch:List Addr}(I:Inv X pins σ H s)
  (hch:∀ b ∈ ch,(b ∈ X.ex \/ X.s₀.heap.objs.size <= b) /\ b ≠ X.env.locals /\ (∀ x c,X.env.cells.lookup x=some c -> c ≠ b) /\ ∀ p ∈ X.pn ++ pins,p.1 ≠ b)
  (keep:∀ b o,b ≠ X.env.locals -> b ∉ X.fs -> b ∉ ch -> s.heap.get? b=some o -> H b=none -> h'.get? b=some o)
  (slot:∀ b o,b ≠ X.env.locals -> b ∈ X.fs -> b ∉ ch -> s.heap.get? b=some o -> H b=none -> ∃ sl,h'.get? b=some { o with slots:=sl }) (free:∀ b o,b ∉ ch -> s.heap.get? b=some o -> H b=none -> H' b=none)
  (there:∀ b o,b ∉ ch -> s.heap.get? b=some o -> ∃ o',h'.get? b=some o')
  (tups:∀ b xs,H b=some (.tup xs) -> H' b=some (.tup xs)) (frzs:∀ b o u,H b=some (.frz o u) -> H' b=some (.frz o u)) (tbls:∀ b ps,H b=some (.tbl ps) -> ∃ more,H' b=some (.tbl (ps ++ more)))
  (ns:∀ m,s.heap.Ns X.env.locals m -> h'.Ns X.env.locals m) (hok:HOk X.prog X.w H' h') (hg:AllBare g') :
  Inv X pins σ H' { s with heap:=h',gens:=g',drawn:=d',toks:=t' }:=by
 have neL:∀ b o,X.s₀.heap.get? b=some o -> b ≠ X.env.locals:=fun b o e=>zg (qJ (Heap.lt_size e) I.ok.above)
 have neC:∀ b o,X.s₀.heap.get? b=some o -> b ∉ X.ex -> b ∉ ch:=fun b o e hx hb=>by
  rcases (hch b hb).1 with z | z
  ·exact hx z
  ·exact absurd (qJ (Heap.lt_size e) z) (yg _)
 have cellK:∀ x c,X.env.cells.lookup x=some c -> ∀ v,s.heap.IsCell c v -> h'.IsCell c v:=fun x c e v ⟨o,ho,hd⟩=>by
  have nch:c ∉ ch:=fun z=>(hch c z).2.2.1 x c e rfl
  by_cases hc:c ∈ X.fs
  ·obtain ⟨sl,q⟩:=slot c o (I.cne x c e) hc nch ho (I.freeC x c e)
   exact ⟨_,q,hd⟩
  ·exact ⟨o,keep c o (I.cne x c e) hc nch ho (I.freeC x c e),hd⟩
 refine ⟨I.ok,I.os,hg,⟨fun b o e n hb hx=>?_,fun b o e n hb hx=>?_,fun b o e n hx=>?_,fun b o e hx=>?_,fun b xs e=>tups b xs (I.base.tups b xs e),fun b o xs e=>frzs b o xs (I.base.frzs b o xs e),fun b ps e=>?_⟩,?_,fun x c e=>?_,?_,fun x c e=>?_,fun p hp=>?_,hok,I.len⟩
 ·exact keep b o (neL b o e) hb (neC b o e hx) (I.base.keep b o e n hb hx) (I.base.free b o e n hx)
 ·obtain ⟨sl,e1⟩:=I.base.slot b o e n hb hx
  obtain ⟨sl',e2⟩:=slot b _ (neL b o e) hb (neC b o e hx) e1 (I.base.free b o e n hx)
  exact ⟨sl',e2⟩
 ·obtain ⟨o',e1⟩:=I.base.there b o e hx
  exact free b o' (neC b o e hx) e1 (I.base.free b o e n hx)
 ·obtain ⟨o',e1⟩:=I.base.there b o e hx
  exact there b o' (neC b o e hx) e1
 ·obtain ⟨m1,e1⟩:=I.base.tbls b ps e
  obtain ⟨m2,e2⟩:=tbls b _ e1
  exact ⟨m1 ++ m2,by rw [e2,Array.append_assoc]⟩
 ·obtain ⟨m,hn,hl⟩:=I.loc
  refine ⟨m,ns m hn,fun i x v e1 e2 e3=>?_⟩
  obtain ⟨u,r,l⟩:=hl i x v e1 e2 e3
  refine ⟨u,r,?_⟩
  rcases l with l | ⟨k,c,e,z⟩
  ·exact .inl l
  ·exact .inr ⟨k,c,e,cellK x c e _ z⟩
 ·obtain ⟨v,z⟩:=I.cell x c e
  exact ⟨v,cellK x c e v z⟩
 ·obtain ⟨m,⟨o,_,_,ho,_⟩,_⟩:=I.loc
  exact free _ o (fun z=>(hch _ z).2.1 rfl) ho I.free
 ·obtain ⟨v,o,ho,hd⟩:=I.cell x c e
  exact free c o (fun z=>(hch c z).2.2.1 x c e rfl) ho (I.freeC x c e)
 ·obtain ⟨e,n,ne,nf,d⟩:=I.pin p hp
  have nch:p.1 ∉ ch:=fun z=>(hch p.1 z).2.2.2 p hp rfl
  exact ⟨keep p.1 p.2 ne nf nch e n,free p.1 p.2 nch e n,ne,nf,d⟩
theorem Inv.un {t':Nat}(I:Inv X pins σ H s)(u:Un X.fs [] H H' s.heap h')(hok:HOk X.prog X.w H' h'):Inv X pins σ H' { s with heap:=h',toks:=t' }:=by
 obtain ⟨m,⟨o,es,ep,ho,r⟩,_⟩:=id I.loc
 obtain ⟨sl,hL⟩:=u.any ho I.free (by simp)
 exact I.step (g':=s.gens) (d':=s.drawn) (ch:=[]) (fun _ z=>nomatch z) (fun b o _ hb _ e n=>u.keep b o e n hb (by simp)) (fun b o _ hb _ e n=>u.slot b o e n hb (by simp)) (fun b o _ e n=>u.free b o e n (by simp)) (fun b o _ e=>u.there b o e (by simp)) u.tups u.frzs u.tbls (fun m' hm=>by
  obtain ⟨o',es',ep',ho',r'⟩:=hm
  rw [ho] at ho'; cases ho'
  exact ⟨_,es',ep',hL,r'⟩) hok I.bare
theorem Inv.call {g':Array GenState}{t':Nat}{d':Drawn}{ch:List Addr}(I:Inv X pins σ H s)(u:Un (frs X.stack) ch H H' s.heap h')(hok:HOk X.prog X.w H' h')(hg:AllBare g')
  (hch:∀ b ∈ ch,(b ∈ X.ex \/ X.s₀.heap.objs.size <= b) /\ b ≠ X.env.locals /\ (∀ x c,X.env.cells.lookup x=some c -> c ≠ b) /\ ∀ p ∈ X.pn ++ pins,p.1 ≠ b) :
  Inv X pins σ H' { s with heap:=h',gens:=g',drawn:=d',toks:=t' }:=by
 obtain ⟨m,⟨o,es,ep,ho,r⟩,_⟩:=id I.loc
 obtain ⟨sl,hL⟩:=u.any ho I.free fun z=>(hch _ z).2.1 rfl
 exact I.step (ch:=ch) hch (fun b o hL hb hc e n=>u.keep b o e n (fun z=>(zV.mp (I.stkSub b z)).elim hL hb) hc) (fun b o _ _ hc e n=>u.any e n hc) (fun b o hc e n=>u.free b o e n hc) (fun b o hc e=>u.there b o e hc) u.tups u.frzs u.tbls (fun m' hm=>by
  obtain ⟨o',es',ep',ho',r'⟩:=hm
  rw [ho] at ho'; cases ho'
  exact ⟨_,es',ep',hL,r'⟩) hok hg
theorem Inv.turned {t':Nat}{it:Addr}(I:Inv X pins σ H s)(k:∀ b o,b ≠ it -> s.heap.get? b=some o -> h'.get? b=some o)(hn:H it=none)(hL:it ≠ X.env.locals)
  (h1:it ∈ X.ex \/ X.s₀.heap.objs.size <= it) (h2:∀ x c,X.env.cells.lookup x=some c -> c ≠ it) (h3:∀ p ∈ X.pn ++ pins,p.1 ≠ it):Inv X pins σ H { s with heap:=h',toks:=t' }:=by
 have nit:∀ b u,H b=some u -> b ≠ it:=fun b u e z=>by rw [z,hn] at e; cases e
 refine I.step (g':=s.gens) (d':=s.drawn) (ch:=[it]) (fun b hb=>?_) (fun b o _ _ hc e _=>k b o (fun z=>hc (by simp [z])) e) (fun b o _ _ hc e _=>⟨o.slots,k b o (fun z=>hc (by simp [z])) e⟩) (fun _ _ _ _ n=>n)
  (fun b o hc e=>⟨o,k b o (fun z=>hc (by simp [z])) e⟩) (fun _ _ e=>e) (fun _ _ _ e=>e) (fun b ps e=>⟨#[],by rw [e]; simp⟩) (fun m hm=>?_) (fun b u e=>?_) I.bare
 ·have e:b=it:=by simpa using hb
  subst e
  exact ⟨h1,hL,h2,h3⟩
 ·obtain ⟨o,es,ep,ho,r⟩:=hm
  exact ⟨o,es,ep,k _ o (Ne.symm hL) ho,r⟩
 ·refine (I.hok b u e).stay (fun c v hc q=>k c v ?_ q) (fun _ q=>q) fun _ _ q=>q
  rcases hc with z | z
  ·rw [z]; exact nit b u e
  ·exact nit c _ z
theorem Inv.tok (I:Inv X pins σ H s)(t:Nat):Inv X pins σ H { s with toks:=t }:=I.un (h':=s.heap) (t':=t) Un.refl I.hok
theorem Inv.kept {t':Nat}(I:Inv X pins σ H s)(k:∀ b u,s.heap.get? b=some u -> h'.get? b=some u):Inv X pins σ H { s with heap:=h',toks:=t' }:=I.un (Un.kept k) (I.hok.kept k)
theorem Inv.laid {a:Addr}{o:HO}{t':Nat}(I:Inv X pins σ H s)(k:∀ b u,s.heap.get? b=some u -> h'.get? b=some u)(hp:s.heap.objs.size <= a)(new:ObjOk X.prog X.w (upd H a o) h' a o) :
  Inv X pins σ (upd H a o) { s with heap:=h',toks:=t' }:=I.un (Un.laid k hp (I.hok.fresh hp)) (I.hok.laid k hp new)
theorem Inv.write {x e:Addr}{o:HO}{t':Nat}(I:Inv X pins σ H s)(mu:Mut (H x))(he:e=x \/ H e=some (.own x))(k:∀ b u,b ≠ e -> s.heap.get? b=some u -> h'.get? b=some u)(heo:∃ u,h'.get? e=some u)
  (new:ObjOk X.prog X.w (upd H x o) h' x o):Inv X pins σ (upd H x o) { s with heap:=h',toks:=t' }:=I.un (Un.write mu he k heo) (I.hok.write mu he k heo new)
theorem Inv.pins_of {pins':List (Addr × Obj)}(I:Inv X pins σ H s)(h:∀ p ∈ pins',s.heap.get? p.1=some p.2 /\ H p.1=none /\ p.1 ≠ X.env.locals /\ p.1 ∉ X.fs /\ ∀ v,p.2.data ≠ .cell v):Inv X pins' σ H s :=
 ⟨I.ok,I.os,I.bare,I.base,I.loc,I.cell,I.free,I.freeC,fun p hp=>(yS.mp hp).elim (fun z=>I.pin p (xW _ z)) (h p),I.hok,I.len⟩
theorem nodup_ix {N:List Str}(hN:N.Nodup){i j:Nat}{x:Str}(a:N[i]? = some x)(b:N[j]? = some x):i=j:=by
 obtain ⟨h1,e1⟩:=qB.mp a
 obtain ⟨h2,e2⟩:=qB.mp b
 exact (List.getElem_inj hN).mp (e1.trans e2.symm)
theorem zBY {M:Model}{A:Around}{E:Value -> Shared -> Prop}{i:Nat}{x:Str}{v:V}{u:Value}{Q:Unit -> Shared -> Prop}(I:Inv X pins σ H s)(hN:X.N.Nodup)(hi:X.N[i]? = some x)(hx:Loc X.env.scope x)(r:RelV v u)
  (h:∀ s',Inv X pins (σ.set i (some v)) H s' -> (∃ a,Heap.SameBut a s.heap s'.heap /\ (a=X.env.locals \/ X.env.cells.lookup x=some a)) -> Q () s') (hf:X.fn x=true \/ X.env.scope.names.lookup x=some .local:=by first | exact .inl rfl | exact .inr rfl | assumption):wpAny M A (storeName X.env x u) Q E s:=by
 obtain ⟨m,hn,hl⟩:=id I.loc
 have hcls:(X.env.scope.kind == .class || (X.env.scope.kind == .module && X.env.locals != X.env.globals))=false:=by rw [I.ok.kind]; rfl
 have hiσ:i < σ.length:=by rw [I.len]; exact (qB.mp hi).1
 have cne:=I.cne
 have tracked:∀ {a:Addr} {h':Heap},(∃ o,s.heap.get? a=some o /\ H a=none) -> Heap.SameBut a s.heap h' -> HOk X.prog X.w H h':=fun {a h'} ha hs b ob e=>by
  obtain ⟨_,_,hfree⟩:=ha
  refine (I.hok b ob e).stay (fun c w' hc q=>(hs.2 c ?_).trans q) (fun _ q=>q) fun _ _ q=>q
  rintro rfl
  rcases hc with rfl | hc
  ·rw [hfree] at e; cases e
  ·rw [hfree] at hc; cases hc
 rcases hx with hk | hk
 ·refine wpAny_storeName_local hk hn (fun h' hn' hs=>?_) hcls
  obtain ⟨oL,_,_,hoL,_⟩:=id hn
  refine h _ ⟨I.ok,I.os,I.bare,⟨fun b o e n hb hx=>?_,fun b o e n hb hx=>?_,I.base.free,fun b o e hx=>?_,I.base.tups,I.base.frzs,I.base.tbls⟩,⟨_,hn',fun j y v' e1 e2 e3=>?_⟩,fun y c e=>?_,I.free,I.freeC,fun p hp=>?_,tracked ⟨oL,hoL,I.free⟩ hs,by simpa using I.len⟩ ⟨_,hs,.inl rfl⟩
  ·exact (hs.2 b (zg (qJ (Heap.lt_size e) I.ok.above))).trans (I.base.keep b o e n hb hx)
  ·obtain ⟨sl,e1⟩:=I.base.slot b o e n hb hx
   exact ⟨sl,(hs.2 b (zg (qJ (Heap.lt_size e) I.ok.above))).trans e1⟩
  ·obtain ⟨o',e1⟩:=I.base.there b o e hx
   exact ⟨o',(hs.2 b (zg (qJ (Heap.lt_size e) I.ok.above))).trans e1⟩
  ·by_cases hj:j=i
   ·subst hj
    rw [hi] at e1; cases e1
    rw [List.getElem?_set_self hiσ] at e2
    cases e2
    exact ⟨u,r,.inl ⟨hk,by simp⟩⟩
   ·rw [j9 (Ne.symm hj)] at e2
    obtain ⟨u',r',q⟩:=hl j y v' e1 e2 e3
    refine ⟨u',r',?_⟩
    rcases q with ⟨k,e⟩ | ⟨k,c,e,z⟩
    ·refine .inl ⟨k,?_⟩
     have:y ≠ x:=fun e=>hj (nodup_ix hN e1 (e ▸ hi))
     simp [this,e]
    ·exact .inr ⟨k,c,e,z.sameBut hs (cne y c e)⟩
  ·obtain ⟨w',z⟩:=I.cell y c e
   exact ⟨w',z.sameBut hs (cne y c e)⟩
  ·obtain ⟨e,n,ne,nf,d⟩:=I.pin p hp
   exact ⟨(hs.2 p.1 ne).trans e,n,ne,nf,d⟩
 ·have hfn:X.fn x=true:=by
   rcases hf with z | z
   ·exact z
   ·rw [z] at hk; cases hk
  obtain ⟨c,hc⟩:=I.ok.has x (.inl hk)
  obtain ⟨w',z⟩:=I.cell x c hc
  refine wpAny_storeName_cell I.ok.kind hk hc z (fun h' hc' hs=>?_)
  obtain ⟨oc,hoc,hocd⟩:=id z
  refine h { s with heap:=h' } ⟨I.ok,I.os,I.bare,⟨fun b o e n hb hx=>?_,fun b o e n hb hx=>?_,I.base.free,fun b o e hx=>?_,I.base.tups,I.base.frzs,I.base.tbls⟩,⟨m,hn.sameBut hs (Ne.symm (cne x c hc)),fun j y v' e1 e2 e3=>?_⟩,fun y c' e=>?_,I.free,I.freeC,fun p hp=>?_,tracked ⟨oc,hoc,I.freeC x c hc⟩ hs,by simpa using I.len⟩ ⟨c,hs,.inr hc⟩
  ·exact (hs.2 b (zg (qJ (Heap.lt_size e) (I.ok.cab x c hfn hc)))).trans (I.base.keep b o e n hb hx)
  ·obtain ⟨sl,e1⟩:=I.base.slot b o e n hb hx
   exact ⟨sl,(hs.2 b (zg (qJ (Heap.lt_size e) (I.ok.cab x c hfn hc)))).trans e1⟩
  ·obtain ⟨o',e1⟩:=I.base.there b o e hx
   exact ⟨o',(hs.2 b (zg (qJ (Heap.lt_size e) (I.ok.cab x c hfn hc)))).trans e1⟩
  ·by_cases hj:j=i
   ·subst hj
    rw [hi] at e1; cases e1
    rw [List.getElem?_set_self hiσ] at e2
    cases e2
    exact ⟨u,r,.inr ⟨.inl hk,c,hc,hc'⟩⟩
   ·rw [j9 (Ne.symm hj)] at e2
    obtain ⟨u',r',q⟩:=hl j y v' e1 e2 e3
    refine ⟨u',r',?_⟩
    rcases q with q | ⟨k,c',e,z'⟩
    ·exact .inl q
    ·refine .inr ⟨k,c',e,z'.sameBut hs ?_⟩
     rintro rfl
     exact hj (nodup_ix hN e1 (I.ok.inj _ _ _ e hc ▸ hi))
  ·by_cases hcc:c'=c
   ·subst hcc; exact ⟨_,hc'⟩
   ·obtain ⟨w2,z2⟩:=I.cell y c' e
    exact ⟨w2,z2.sameBut hs hcc⟩
  ·obtain ⟨e,n,ne,nf,d⟩:=I.pin p hp
   refine ⟨(hs.2 p.1 ?_).trans e,n,ne,nf,d⟩
   intro q
   rw [q,hoc] at e
   have q':oc=p.2:=Option.some.inj e
   exact d w' (by rw [← q']; exact hocd)
theorem store_ok {M:Model}{A:Around}{E:Value -> Shared -> Prop}{i:Nat}{x:Str}{v:V}{u:Value}{Q:Unit -> Shared -> Prop}(I:Inv X pins σ H s)(hN:X.N.Nodup)(hi:X.N[i]? = some x)(hx:Loc X.env.scope x)(r:RelV v u)
  (h:∀ s',Inv X pins (σ.set i (some v)) H s' -> Q () s') (hf:X.fn x=true \/ X.env.scope.names.lookup x=some .local:=by first | exact .inl rfl | exact .inr rfl | assumption):wpAny M A (storeName X.env x u) Q E s :=
 zBY I hN hi hx r (fun s' I' _=>h s' I') hf
theorem Inv.call' {s':Shared}{ch:List Addr}(I:Inv X pins σ H s)(ho:s'.os=s.os)(u:Un (frs X.stack) ch H H' s.heap s'.heap)(hok:HOk X.prog X.w H' s'.heap)(hg:AllBare s'.gens)
  (hch:∀ b ∈ ch,(b ∈ X.ex \/ X.s₀.heap.objs.size <= b) /\ b ≠ X.env.locals /\ (∀ x c,X.env.cells.lookup x=some c -> c ≠ b) /\ ∀ p ∈ X.pn ++ pins,p.1 ≠ b):Inv X pins σ H' s':=by
 obtain ⟨h',g',d',t',o'⟩:=s'
 have e:o'=s.os:=ho
 subst e
 exact I.call (g':=g') (t':=t') (d':=d') u hok hg hch
end
abbrev XK:=Value -> Option Addr -> Hp -> Prop
abbrev St:=List (Option V)
abbrev VK:=V -> Hp -> Prop
abbrev TE:=St -> Hp -> VK -> Prop
abbrev TT:=St -> Hp -> (Bool -> Hp -> Prop) -> Prop
abbrev TA:=St -> Hp -> (List V -> Hp -> Prop) -> Prop
structure Ends where
 nx:St -> Hp -> Prop
 rt:VK
 bk:St -> Hp -> Prop:=fun _ _=>False
 ct:St -> Hp -> Prop:=fun _ _=>False
abbrev TS:=Ends -> St -> Hp -> Prop
def EP (X:Cx)(pins:List (Addr × Obj))(σ:St)(Q:VK)(u:Value)(s':Shared):Prop:=∃ v H',Inv X pins σ H' s' /\ RelV v u /\ Q v H'
def TP (X:Cx)(pins:List (Addr × Obj))(σ:St)(Q:Bool -> Hp -> Prop)(b:Bool)(s':Shared):Prop:=∃ H',Inv X pins σ H' s' /\ Q b H'
def AP (X:Cx)(pins:List (Addr × Obj))(σ:St)(Q:List V -> Hp -> Prop)(us:List Value)(s':Shared):Prop:=∃ vs H',Inv X pins σ H' s' /\ Vals vs us /\ Q vs H'
def SP (X:Cx)(pins:List (Addr × Obj))(D:Ends)(f:Flow)(s':Shared):Prop :=
 match f with
 | .next=>∃ σ' H',Inv X pins σ' H' s' /\ D.nx σ' H'
 | .brk=>∃ σ' H',Inv X pins σ' H' s' /\ D.bk σ' H'
 | .cont=>∃ σ' H',Inv X pins σ' H' s' /\ D.ct σ' H'
 | .ret u=>∃ v σ' H',Inv X pins σ' H' s' /\ RelV v u /\ D.rt v H'
def PE (X:Cx)(e:Expr)(t:TE):Prop :=
 ∀ (pins:List (Addr × Obj)) (s:Shared) (σ:St) (H:Hp) (Q:VK),Inv X pins σ H s -> t σ H Q -> wpAny (model X.prog X.w) X.A (eval e X.env) (EP X pins σ Q) X.xe s
def PT (X:Cx)(e:Expr)(t:TT):Prop :=
 ∀ (pins:List (Addr × Obj)) (s:Shared) (σ:St) (H:Hp) (Q:Bool -> Hp -> Prop),Inv X pins σ H s -> t σ H Q -> wpAny (model X.prog X.w) X.A (isTrue e X.env (eval e X.env)) (TP X pins σ Q) X.xe s
def PW (X:Cx)(e:Expr)(t:TT):Prop :=
 ∀ (whole:Sem Value) (pins:List (Addr × Obj)) (s:Shared) (σ:St) (H:Hp) (Q:Bool -> Hp -> Prop),Inv X pins σ H s -> t σ H Q -> wpAny (model X.prog X.w) X.A (isTrue e X.env whole) (TP X pins σ Q) X.xe s
theorem PW.pt {X:Cx}{e:Expr}{t:TT}(h:PW X e t):PT X e t:=h _
def PA (X:Cx)(es:List Expr)(t:TA):Prop :=
 ∀ (pos:Pos) (pins:List (Addr × Obj)) (s:Shared) (σ:St) (H:Hp) (Q:List V -> Hp -> Prop),Inv X pins σ H s -> t σ H Q -> wpAny (model X.prog X.w) X.A (spliced (backTo pos (starEach es X.env))) (AP X pins σ Q) X.xe s
def PS (X:Cx)(st:Stmt)(t:TS):Prop :=
 ∀ (pins:List (Addr × Obj)) (s:Shared) (σ:St) (H:Hp) (D:Ends),Inv X pins σ H s -> t D σ H -> wpAny (model X.prog X.w) X.A (exec st X.env) (SP X pins D) X.xe s
def PSs (X:Cx)(st:List Stmt)(t:TS):Prop :=
 ∀ (pins:List (Addr × Obj)) (s:Shared) (σ:St) (H:Hp) (D:Ends),Inv X pins σ H s -> t D σ H -> wpAny (model X.prog X.w) X.A (execs st X.env) (SP X pins D) X.xe s
theorem thn {α:Type}{t:Sem α}{Q Q':α -> Shared -> Prop}{M:Model}{A:Around}{E:Value -> Shared -> Prop}{s:Shared}(h:wpAny M A t Q E s)(hQ:∀ a s,Q a s -> Q' a s):wpAny M A t Q' E s:=wpAny_mono h hQ fun _ _ x=>x
end L2
namespace L2
open PySem PySem.Spec PyProof.Rows
section
variable {X:Cx}
def tVar (i:Nat):TE:=fun σ H Q=>∃ v,σ[i]? = some (some v) /\ Q v H
def tC (v:V):TE:=fun _ H Q=>Q v H
theorem pe_var {i:Nat} {x:Str} {pos:Pos} (hN:X.N[i]? = some x) (hv:Vis X.env.scope x) (hd:(x == ("__debug__" : Str))=false:=by decide) (hcd:(x == ("__classdict__" : Str))=false:=by decide):PE X (.Name x pos) (tVar i):=by
 intro pins s σ H Q I h
 obtain ⟨v,e,h⟩:=h
 obtain ⟨m,hn,hl⟩:=I.loc
 obtain ⟨u,r,l⟩:=hl i x v hN e hv
 have fin:EP X pins σ Q u s:=⟨v,H,I,r,h⟩
 rcases l with ⟨hk,hm⟩ | ⟨hk,c,hc,hcell⟩
 ·exact wpAny_Name (wpAny_loadName_local I.ok.kind hk hn hm fin) hd
 ·rcases hk with hk | hk
  ·exact wpAny_Name (wpAny_loadName_cell I.ok.kind hk hc hcell fin) hd
  ·exact wpAny_Name (wpAny_loadName_free I.ok.kind hk hc hcell fin hcd) hd
theorem zC {i j pos}:PE X (.Constant (.int i) j pos) (tC (.int i)):=fun _ _ _ H _ I h=>wpAny_Constant_int ⟨.int i,H,I.tok _,⟨_,rfl⟩,h⟩
theorem zAM {b j pos}:PE X (.Constant (.bool b) j pos) (tC (.bl b)):=fun _ _ _ H _ I h=>Constant_bool ⟨.bl b,H,I,rfl,h⟩
theorem pe_non {j pos}:PE X (.Constant .none j pos) (tC .non):=fun _ _ _ H _ I h=>Constant_none ⟨.non,H,I,rfl,h⟩
theorem xJ {x j pos}:PE X (.Constant (.str x) j pos) (tC (.str x)):=fun _ _ _ H _ I h=>Calls.Constant_str ⟨.str x,H,I.tok _,⟨_,rfl⟩,h⟩
def Gl (X:Cx)(x:Str):Prop:=X.env.kindOf x=some .globalImplicit
theorem ld_glob {E:Value -> Shared -> Prop}{pins:List (Addr × Obj)}{s:Shared}{σ:St}{H:Hp}{x:Str}{u:Value}{pos:Pos}{Q:Value -> Shared -> Prop}(I:Inv X pins σ H s)(hg:Gl X x)(hm:X.mg x=some u)(h:Q u s)
  (hd:(x == ("__debug__" : Str))=false:=by decide):wpAny (model X.prog X.w) X.A (eval (.Name x pos) X.env) Q E s :=
 Calls.Name_function_global I.ok.kind hg (Calls.loadGlobal_global (by rw [I.ok.glob]; exact I.mod.glob.keeps I.bk) hm h) hd
theorem JT {E:Value -> Shared -> Prop}{pins:List (Addr × Obj)}{s:Shared}{σ:St}{H:Hp}{x:Str}{u:Value}{pos:Pos}{Q:Value -> Shared -> Prop}(I:Inv X pins σ H s)(hg:Gl X x)(hm:X.mg x=none)(hv:bootBuiltins x=some u)(h:Q u s)
  (hn:x ≠ "__name__":=by decide) (hd:(x == ("__debug__" : Str))=false:=by decide):wpAny (model X.prog X.w) X.A (eval (.Name x pos) X.env) Q E s:=by
 obtain ⟨mb,h1,h2⟩:=I.mod.blt
 exact Calls.Name_function_global I.ok.kind hg (Calls.loadGlobal_builtin (by rw [I.ok.glob]; exact I.mod.glob.keeps I.bk) hm (by rw [I.ok.blt]; exact h1.keeps I.bk) ((h2 x hn).trans hv) h) hd
theorem Jd {x:Str} {v:V} {u:Value} {pos:Pos} (hg:Gl X x) (hm:X.mg x=some u) (r:RelV v u) (hd:(x == ("__debug__" : Str))=false:=by decide):PE X (.Name x pos) (tC v) :=
 fun _ _ _ H _ I h=>ld_glob I hg hm ⟨v,H,I,r,h⟩ hd
theorem zAf {x:Str} {v:V} {u:Value} {pos:Pos} (hg:Gl X x) (hm:X.mg x=none) (hv:bootBuiltins x=some u) (r:RelV v u) (hn:x ≠ "__name__":=by decide) (hd:(x == ("__debug__" : Str))=false:=by decide):PE X (.Name x pos) (tC v) :=
 fun _ _ _ H _ I h=>JT I hg hm hv ⟨v,H,I,r,h⟩ hn hd
variable {a b:Expr}{ta tb:TE}{pos:Pos}
def PC (X:Cx)(op:CmpOp)(a b:Expr)(t:TE):Prop :=
 ∀ (pins:List (Addr × Obj)) (s:Shared) (σ:St) (H:Hp) (Q:VK),Inv X pins σ H s -> t σ H Q ->
  wpAny (model X.prog X.w) X.A (eval a X.env) (fun v s₁=>wpAny (model X.prog X.w) X.A (eval b X.env) (fun u s₂=>wpAny (model X.prog X.w) X.A (compareOp op v u) (EP X pins σ Q) X.xe s₂) X.xe s₁) X.xe s
def tIsN (ta:TE):TE:=fun σ H Q=>ta σ H fun x H1=>Q (.bl (decide (x = .non))) H1
def tNotN (ta:TE):TE:=fun σ H Q=>ta σ H fun x H1=>Q (.bl (!decide (x = .non))) H1
def tB (t:TE):TT:=fun σ H Q=>t σ H fun x H1=>∃ c,x = .bl c /\ Q c H1
theorem jS {e:Expr}{t:TE}(h:PE X e t)(he:∀ whole,isTrue e X.env whole=(do let v ← whole; standAt e.pos; holding [v] (truthy v)):=by intro _; rfl):PT X e (tB t):=by
 intro pins s σ H Q I hw
 refine isTrue_plain (thn (h pins s σ H _ I hw) fun v s1 ⟨x,H1,I1,r1,q1⟩=>?_) (he _)
 obtain ⟨d,rfl,q⟩:=q1
 cases r1
 exact wpAny_truthy_bool ⟨H1,I1,q⟩
variable {tA tB':TT}{rest:List Expr}
def tAnd (t u:TT):TT:=fun σ H Q=>t σ H fun c H1=>if c=true then u σ H1 Q else Q false H1
def tOr (t u:TT):TT:=fun σ H Q=>t σ H fun c H1=>if c=true then Q true H1 else u σ H1 Q
def tNot (t:TT):TT:=fun σ H Q=>t σ H fun c H1=>Q (!c) H1
theorem zBD (ha:PT X a tA):PW X (.BoolOp .And [a] pos) tA:=by
 intro wh pins s σ H Q I h
 refine isTrue_and (thn (ha pins s σ H Q I h) fun c s1 e=>?_)
 cases c with
 | true=>exact isTrue_and_nil e
 | false=>exact e
theorem zAP (ha:PT X a tA):PW X (.BoolOp .Or [a] pos) tA:=by
 intro wh pins s σ H Q I h
 refine isTrue_or (thn (ha pins s σ H Q I h) fun c s1 e=>?_)
 cases c with
 | false=>exact isTrue_or_nil e
 | true=>exact e
theorem pw_and (ha:PT X a tA)(hb:PW X (.BoolOp .And (b :: rest) pos) tB'):PW X (.BoolOp .And (a :: b :: rest) pos) (tAnd tA tB'):=by
 intro wh pins s σ H Q I h
 refine isTrue_and (thn (ha pins s σ H _ I h) fun c s1 ⟨H1,I1,q1⟩=>?_)
 cases c with
 | true=>exact hb wh pins s1 σ H1 Q I1 q1
 | false=>exact ⟨H1,I1,q1⟩
theorem pw_or (ha:PT X a tA)(hb:PW X (.BoolOp .Or (b :: rest) pos) tB'):PW X (.BoolOp .Or (a :: b :: rest) pos) (tOr tA tB'):=by
 intro wh pins s σ H Q I h
 refine isTrue_or (thn (ha pins s σ H _ I h) fun c s1 ⟨H1,I1,q1⟩=>?_)
 cases c with
 | true=>exact ⟨H1,I1,q1⟩
 | false=>exact hb wh pins s1 σ H1 Q I1 q1
theorem j4 (ha:PT X a tA):PT X (.UnaryOp .Not a pos) (tNot tA):=by
 intro pins s σ H Q I h
 exact isTrue_not (ha pins s σ H (fun c H1=>Q (!c) H1) I h)
def tAndV (ta tb:TE):TE:=fun σ H Q=>ta σ H fun x H1=>∃ c,x = .bl c /\ if c=true then tb σ H1 Q else Q (.bl false) H1
def tOrV (ta tb:TE):TE:=fun σ H Q=>ta σ H fun x H1=>∃ c,x = .bl c /\ if c=true then Q (.bl true) H1 else tb σ H1 Q
def tNotV (ta:TE):TE:=fun σ H Q=>ta σ H fun x H1=>∃ c,x = .bl c /\ Q (.bl (!c)) H1
theorem zBZ {op}{t:TE}(h:PE X a t):PE X (.BoolOp op [a] pos) t:=fun pins s σ H Q I hw=>BoolOp_one (h pins s σ H Q I hw)
theorem zBa (ha:PE X a ta)(hb:PE X (.BoolOp .And (b :: rest) pos) tb):PE X (.BoolOp .And (a :: b :: rest) pos) (tAndV ta tb):=by
 intro pins s σ H Q I h
 refine BoolOp_and (thn (ha pins s σ H _ I h) fun v s1 ⟨x,H1,I1,r1,q1⟩=>?_)
 obtain ⟨c,rfl,q1⟩:=q1
 cases r1
 refine wpAny_truthy_bool ?_
 cases c with
 | true=>exact hb pins s1 σ H1 Q I1 q1
 | false=>exact ⟨.bl false,H1,I1,rfl,q1⟩
theorem pe_or (ha:PE X a ta)(hb:PE X (.BoolOp .Or (b :: rest) pos) tb):PE X (.BoolOp .Or (a :: b :: rest) pos) (tOrV ta tb):=by
 intro pins s σ H Q I h
 refine BoolOp_or (thn (ha pins s σ H _ I h) fun v s1 ⟨x,H1,I1,r1,q1⟩=>?_)
 obtain ⟨c,rfl,q1⟩:=q1
 cases r1
 refine wpAny_truthy_bool ?_
 cases c with
 | false=>exact hb pins s1 σ H1 Q I1 q1
 | true=>exact ⟨.bl true,H1,I1,rfl,q1⟩
theorem pe_not (ha:PE X a ta):PE X (.UnaryOp .Not a pos) (tNotV ta):=by
 intro pins s σ H Q I h
 refine UnaryOp_ (thn (ha pins s σ H _ I h) fun v s1 ⟨x,H1,I1,r1,q1⟩=>?_)
 obtain ⟨c,rfl,q1⟩:=q1
 cases r1
 exact not_of (wpAny_truthy_bool ⟨.bl (!c),H1,I1,rfl,q1⟩)
def tIf (t:TT)(ta tb:TE):TE:=fun σ H Q=>t σ H fun c H1=>if c=true then ta σ H1 Q else tb σ H1 Q
theorem Jr {c:Expr}(hc:PT X c tA)(ha:PE X a ta)(hb:PE X b tb):PE X (.IfExp c a b pos) (tIf tA ta tb):=by
 intro pins s σ H Q I h
 refine wpAny_IfExp (thn (hc pins s σ H _ I h) fun d s1 ⟨H1,I1,q1⟩=>?_)
 cases d with
 | true=>exact ha pins s1 σ H1 Q I1 q1
 | false=>exact hb pins s1 σ H1 Q I1 q1
end
end L2
namespace L2
open PySem PySem.Spec PyProof.Rows
def SqL (K:zA)(H:Hp)(a:Addr)(xs:List V):Prop :=
 Rd H a (.lst xs) \/
  ∃ (o:Obj) (its:Array Value) (n:Nat),K.lookup a=some o /\ o.cls = .type "list" /\ o.dict=none /\ o.data = .seq its n /\ its.size <= sizeLine /\ Vals xs its.toList
def SqT (K:zA)(H:Hp)(a:Addr)(xs:List V):Prop :=
 Rd H a (.tup xs) \/
  ∃ (o:Obj) (its:Array Value) (n:Nat),K.lookup a=some o /\ o.cls = .type "tuple" /\ o.data = .seq its n /\ its.size <= sizeLine /\ Vals xs its.toList
def absV:Value -> Option V
 | .none=>some .non
 | .bool b=>some (.bl b)
 | .int i _=>some (.int i)
 | .str x _=>some (.str x)
 | .bytes b _=>some (.byt b)
 | .float b _=>some (.flt b)
 | .ref a=>some (.ref a)
 | .type n=>some (.ty n)
 | _=>none
theorem RelV.abs {x:V}{u:Value}(r:RelV x u):absV u=some x:=by
 cases x with
 | non=>cases r; rfl
 | bl _=>cases r; rfl
 | int _=>obtain ⟨t,rfl⟩:=r; rfl
 | str _=>obtain ⟨t,rfl⟩:=r; rfl
 | byt _=>obtain ⟨t,rfl⟩:=r; rfl
 | flt _=>obtain ⟨t,rfl⟩:=r; rfl
 | ref _=>cases r; rfl
 | ty _=>cases r; rfl
theorem RelV.inj {x y:V}{u:Value}(r:RelV x u)(q:RelV y u):x=y:=Option.some.inj (r.abs.symm.trans q.abs)
theorem Vals.inj:∀ {xs ys:List V} {us:List Value},Vals xs us -> Vals ys us -> xs=ys
 | _,_,_,.nil,.nil=>rfl
 | _,_,_,.cons r t,.cons r' t'=>by rw [r.inj r',Vals.inj t t']
section
variable {X:Cx}{pins:List (Addr × Obj)}{σ:St}{H:Hp}{s:Shared}{a:Addr}{xs ys:List V}
theorem SqL.of {K:zA}(h:H a=some (.lst xs)):SqL K H a xs:=.inl (.inl h)
theorem SqT.of {K:zA}(h:H a=some (.tup xs)):SqT K H a xs:=.inl (.inl h)
theorem Inv.list (I:Inv X pins σ H s)(h:SqL X.K H a xs):∃ its:List Value,Vals xs its /\ PlainL s.heap a its.toArray /\ xs.length <= sizeLine:=by
 rcases h with h | ⟨o,its,n,hk,hc,hd,hs,hz,r⟩
 ·obtain ⟨z,its,n,r,e⟩:=h.ok I.hok
  exact ⟨its,r,⟨_,n,e,rfl,rfl,rfl⟩,z⟩
 ·refine ⟨its.toList,r,⟨o,n,I.kIn a o hk,hc,hd,by simpa using hs⟩,?_⟩
  have e:=r.length
  simp only [Array.length_toList] at e
  omega
theorem Inv.tuple (I:Inv X pins σ H s)(h:SqT X.K H a xs):∃ its:List Value,Vals xs its /\ IsTup s.heap a its.toArray /\ xs.length <= sizeLine:=by
 rcases h with h | ⟨o,its,n,hk,hc,hs,hz,r⟩
 ·obtain ⟨z,its,r,p⟩:=h.ok I.hok
  exact ⟨its,r,p,z⟩
 ·refine ⟨its.toList,r,⟨o,I.kIn a o hk,hc,n,by simpa using hs⟩,?_⟩
  have e:=r.length
  simp only [Array.length_toList] at e
  omega
theorem Inv.list_inj (I:Inv X pins σ H s)(h:SqL X.K H a xs)(h':SqL X.K H a ys):xs=ys:=by
 obtain ⟨its,r,⟨o,n,e,_,_,d⟩,_⟩:=I.list h
 obtain ⟨its',r',⟨o',n',e',_,_,d'⟩,_⟩:=I.list h'
 rw [e] at e'; cases e'
 rw [d] at d'
 injection d' with d1 _
 have:its=its':=by simpa using congrArg Array.toList d1
 subst this
 exact r.inj r'
theorem Inv.tuple_inj (I:Inv X pins σ H s)(h:SqT X.K H a xs)(h':SqT X.K H a ys):xs=ys:=by
 obtain ⟨its,r,⟨o,e,_,n,d⟩,_⟩:=I.tuple h
 obtain ⟨its',r',⟨o',e',_,n',d'⟩,_⟩:=I.tuple h'
 rw [e] at e'; cases e'
 rw [d] at d'
 injection d' with d1 _
 have:its=its':=by simpa using congrArg Array.toList d1
 subst this
 exact r.inj r'
end
abbrev Cx.wish (X:Cx) (E:Value -> Shared -> Prop):Cx:={ X with xe:=E }
abbrev Cx.nox (X:Cx):Cx:=X.wish fun _ _=>False
theorem Cx.Ok.wish {X:Cx}(ok:X.Ok)(E:Value -> Shared -> Prop):(X.wish E).Ok :=
 ⟨ok.mod,ok.kind,ok.glob,ok.blt,ok.above,ok.inj,ok.has,ok.cab,ok.hd,ok.frames,ok.stk,ok.exf,ok.bs,ok.bsz,ok.noex,ok.exfs,ok.funs,ok.frf⟩
theorem Cx.Ok.unwish {X:Cx}{E:Value -> Shared -> Prop}(ok:(X.wish E).Ok):X.Ok :=
 ⟨ok.mod,ok.kind,ok.glob,ok.blt,ok.above,ok.inj,ok.has,ok.cab,ok.hd,ok.frames,ok.stk,ok.exf,ok.bs,ok.bsz,ok.noex,ok.exfs,ok.funs,ok.frf⟩
section
variable {X:Cx}{pins:List (Addr × Obj)}{σ:St}{H:Hp}{s:Shared}{E:Value -> Shared -> Prop}
theorem Inv.wish (I:Inv X pins σ H s)(E:Value -> Shared -> Prop):Inv (X.wish E) pins σ H s:=⟨I.ok.wish E,I.os,I.bare,I.base,I.loc,I.cell,I.free,I.freeC,I.pin,I.hok,I.len⟩
theorem Inv.unwish (I:Inv (X.wish E) pins σ H s):Inv X pins σ H s:=⟨I.ok.unwish,I.os,I.bare,I.base,I.loc,I.cell,I.free,I.freeC,I.pin,I.hok,I.len⟩
theorem SP.unwish {D:Ends}{f:Flow}{s':Shared}(h:SP (X.wish E) pins D f s'):SP X pins D f s':=by
 cases f with
 | next=>obtain ⟨σ',H',I,q⟩:=h; exact ⟨σ',H',I.unwish,q⟩
 | brk=>obtain ⟨σ',H',I,q⟩:=h; exact ⟨σ',H',I.unwish,q⟩
 | cont=>obtain ⟨σ',H',I,q⟩:=h; exact ⟨σ',H',I.unwish,q⟩
 | ret u=>obtain ⟨v,σ',H',I,r,q⟩:=h; exact ⟨v,σ',H',I.unwish,r,q⟩
theorem PSs.nox {st:List Stmt}{t:TS}(h:PSs X.nox st t):PSs X st t:=fun pins s σ H D I hw =>
 wpAny_mono (h pins s σ H D (I.wish _) hw) (fun _ _ q=>q.unwish) fun _ _ z=>False.elim z
end
section
variable {X:Cx}{st:Stmt}{rest:List Stmt}{t u:TS}{e:Expr}{te:TE}{pos:Pos}
def tNext:TS:=fun D σ H=>D.nx σ H
def tSeq (t u:TS):TS:=fun D σ H=>t { D with nx:=u D } σ H
theorem yE:PSs X [] tNext:=fun _ _ σ H _ I h=>wpAny_execs_nil ⟨σ,H,I,h⟩
theorem zG (h1:PS X st t)(h2:PSs X rest u):PSs X (st :: rest) (tSeq t u):=by
 intro pins s σ H D I h
 refine wpAny_execs_cons (thn (h1 pins s σ H { D with nx:=u D } I h) fun f s1 q=>?_)
 cases f with
 | next =>
  obtain ⟨σ',H',I',q⟩:=q
  exact h2 pins s1 σ' H' D I' q
 | ret v=>exact q
 | brk=>exact q
 | cont=>exact q
theorem zM (h1:PS X st t):PSs X [st] t:=by
 intro pins s σ H D I h
 refine wpAny_execs_cons (thn (h1 pins s σ H D I h) fun f s1 q=>?_)
 cases f with
 | next=>exact wpAny_execs_nil q
 | ret v=>exact q
 | brk=>exact q
 | cont=>exact q
def tBreak:TS:=fun D σ H=>D.bk σ H
def tCont:TS:=fun D σ H=>D.ct σ H
theorem zBv:PS X (.Continue pos) tCont:=fun _ _ σ H _ I h=>wpAny_Continue ⟨σ,H,I,h⟩
theorem Inv.quiet {pins:List (Addr × Obj)}{σ:St}{H:Hp}{s:Shared}(I:Inv X pins σ H s):interactive X.env=false:=by simp [interactive,I.ok.kind]
def tDrop (te:TE):TS:=fun D σ H=>te σ H fun _ H1=>D.nx σ H1
theorem xZ (he:PE X e te)(hs:swapsWith e none pos.line X.env=pure false:=by rfl):PS X (.Expr e pos) (tDrop te):=by
 intro pins s σ H D I h
 exact wpAny_Expr_any (thn (he pins s σ H _ I h) fun v s1 ⟨x,H1,I1,r1,q1⟩=>⟨σ,H1,I1,q1⟩) I.quiet hs
def tRet (te:TE):TS:=fun D σ H=>te σ H D.rt
theorem zd (he:PE X e te):PS X (.Return (some e) pos) (tRet te):=by
 intro pins s σ H D I h
 exact wpAny_Return_some (thn (he pins s σ H _ I h) fun v s1 ⟨x,H1,I1,r1,q1⟩=>⟨x,σ,H1,I1,r1,q1⟩)
def tRetN:TS:=fun D _ H=>D.rt .non H
def tIfS (c:TT)(t u:TS):TS:=fun D σ H=>c σ H fun b H1=>if b=true then t D σ H1 else u D σ H1
theorem yh {c:Expr}{a b:List Stmt}{tc:TT}(hc:PT X c tc)(ha:PSs X a t)(hb:PSs X b u):PS X (.If c a b pos) (tIfS tc t u):=by
 intro pins s σ H D I h
 refine wpAny_If (thn (hc pins s σ H _ I h) fun d s1 ⟨H1,I1,q1⟩=>?_)
 cases d with
 | true=>exact ha pins s1 σ H1 D I1 q1
 | false=>exact hb pins s1 σ H1 D I1 q1
def tNever:TS:=fun _ _ _=>False
theorem zBE:PS X st tNever:=fun _ _ _ _ _ _ h=>h.elim
end
abbrev TG:=V -> St -> Hp -> (St -> Hp -> Prop) -> Prop
abbrev TGs:=List V -> St -> Hp -> (St -> Hp -> Prop) -> Prop
def PG (X:Cx)(target:Expr)(t:TG):Prop :=
 ∀ (pins:List (Addr × Obj)) (s:Shared) (σ:St) (H:Hp) (v:V) (u:Value) (Q:St -> Hp -> Prop),Inv X pins σ H s -> RelV v u -> t v σ H Q ->
  wpAny (model X.prog X.w) X.A (assign target X.env u) (fun _ s'=>∃ σ' H',Inv X pins σ' H' s' /\ Q σ' H') X.xe s
def PGs (X:Cx)(ts:List Expr)(t:TGs):Prop :=
 ∀ (pins:List (Addr × Obj)) (s:Shared) (σ:St) (H:Hp) (vs:List V) (us:List Value) (Q:St -> Hp -> Prop),Inv X pins σ H s -> Vals vs us -> t vs σ H Q ->
  wpAny (model X.prog X.w) X.A (assignInOrder ((assignEach ts X.env).map (·.2)) us) (fun _ s'=>∃ σ' H',Inv X pins σ' H' s' /\ Q σ' H') X.xe s
abbrev TSet:=V -> V -> V -> Hp -> (Hp -> Prop) -> Prop
def PSet (X:Cx)(t:TSet):Prop :=
 ∀ (pins:List (Addr × Obj)) (s:Shared) (σ:St) (H:Hp) (o i v:V) (ov iv u:Value) (Q:Hp -> Prop),Inv X pins σ H s -> RelV o ov -> RelV i iv -> RelV v u -> t o i v H Q ->
  wpAny (model X.prog X.w) X.A (setItem ov iv u) (fun _ s'=>∃ H',Inv X pins σ H' s' /\ Q H') X.xe s
abbrev TIp:=V -> V -> Hp -> VK -> Prop
def PIp (X:Cx)(op:Operator)(t:TIp):Prop :=
 ∀ (pins:List (Addr × Obj)) (s:Shared) (σ:St) (H:Hp) (x y:V) (v u:Value) (Q:VK),Inv X pins σ H s -> RelV x v -> RelV y u -> t x y H Q ->
  wpAny (model X.prog X.w) X.A (inplaceOp op v u) (EP X pins σ Q) X.xe s
section
variable {X:Cx}{pos:Pos}
def xk (i:Nat):TG:=fun v σ H Q=>Q (σ.set i (some v)) H
theorem zS {i:Nat}{x:Str}(hN:X.N.Nodup)(hi:X.N[i]? = some x)(hx:Loc X.env.scope x)(hf:X.fn x=true \/ X.env.scope.names.lookup x=some .local:=by first | exact .inl rfl | exact .inr rfl | assumption):PG X (.Name x pos) (xk i):=by
 intro pins s σ H v u Q I r h
 exact wpAny_assign_Name (store_ok I hN hi hx r (fun s' I'=>⟨_,H,I',h⟩) hf)
def gNil:TGs:=fun vs σ H Q=>vs=[] /\ Q σ H
def zAy (t:TG)(u:TGs):TGs:=fun vs σ H Q=>∃ v r,vs=v :: r /\ t v σ H fun σ' H'=>u r σ' H' Q
theorem xa:PGs X [] gNil:=by
 intro pins s σ H vs us Q I r h
 obtain ⟨e,h⟩:=h
 subst e
 cases r
 exact assignInOrder_nil ⟨σ,H,I,h⟩
theorem zu {e:Expr}{es:List Expr}{t:TG}{u:TGs}(h1:PG X e t)(h2:PGs X es u)
  (hs:(assignEach (e :: es) X.env).map (·.2)=assign e X.env :: (assignEach es X.env).map (·.2):=by rfl):PGs X (e :: es) (zAy t u):=by
 intro pins s σ H vs us Q I r h
 obtain ⟨v,vr,e1,h⟩:=h
 subst e1
 cases r with
 | cons r rr =>
  rw [hs]
  refine assignInOrder_cons (thn (h1 pins s σ H _ _ _ I r h) fun _ s1 ⟨σ1,H1,I1,q1⟩=>?_)
  exact h2 pins s1 σ1 H1 _ _ Q I1 rr q1
def gTup (K:zA)(n:Nat)(t:TGs):TG:=fun v σ H Q=>∃ a xs,v = .ref a /\ SqT K H a xs /\ xs.length=n /\ t xs σ H Q
theorem pg_tup {es:List Expr}{k:Nat}{t:TGs}{n:Nat}(hc:X.calm=true)(h:PGs X es t)
  (hn:(assignEach es X.env).length=n:=by rfl) (hst:(assignEach es X.env).findIdx? (·.1)=none:=by rfl):PG X (.Tuple es k pos) (gTup X.K n t):=by
 intro pins s σ H v u Q I r hw
 obtain ⟨a,xs,e1,hq,hl,hw⟩:=hw
 subst e1
 cases r
 obtain ⟨its,rv,ht,hz⟩:=I.tuple hq
 refine assign_Tuple_tuple (I.ok.hd hc) ht (by simp [hn,← hl,rv.length]) hst fun h' hx=>?_
 have I1:Inv X pins σ H { s with heap:=h' }:=I.kept (t':=s.toks) fun b o e=>hx b o (zg (Heap.lt_size e)) e
 exact h pins _ σ H xs _ Q I1 (by simpa using rv) hw
def gSub (to ti:TE)(t:TSet):TG:=fun v σ H Q=>to σ H fun o H1=>ti σ H1 fun i H2=>t o i v H2 fun H3=>Q σ H3
theorem pg_sub {o i:Expr}{to ti:TE}{t:TSet}(ho:PE X o to)(hi:PE X i ti)(hs:PSet X t)
  (ha:∀ v,assign (.Subscript o i pos) X.env v=(do
   let ov ← holding [v] (eval o X.env)
   let iv ← holding [v,ov] (eval i X.env)
   standAt pos
   holding [v,ov,iv] (setItem ov iv v)
   release [v,ov,iv] []):=by intro _; rfl):PG X (.Subscript o i pos) (gSub to ti t):=by
 intro pins s σ H v u Q I r h
 rw [ha]
 refine wpAny_bind (wpAny_holding (thn (ho pins s σ H _ I h) fun ov s1 ⟨x,H1,I1,r1,q1⟩=>?_))
 refine wpAny_bind (wpAny_holding (thn (hi pins s1 σ H1 _ I1 q1) fun iv s2 ⟨y,H2,I2,r2,q2⟩=>?_))
 refine wpAny_bind (wpAny_standAt (wpAny_bind (wpAny_holding (thn (hs pins s2 σ H2 x y v ov iv u _ I2 r1 r2 r q2) fun _ s3 ⟨H3,I3,q3⟩=>?_))))
 exact wpAny_release ⟨σ,H3,I3,q3⟩
def tAsg (te:TE)(g:TG):TS:=fun D σ H=>te σ H fun x H1=>g x σ H1 D.nx
theorem ps_asg {tg e:Expr}{te:TE}{g:TG}(he:PE X e te)(hg:PG X tg g)(hs:swapsWithSole [tg] e pos.line X.env=pure false:=by rfl)(hw:swappedStores [tg] e X.env=pure none:=by rfl)
  (h1:(assignEach [tg] X.env).map (·.2)=[assign tg X.env]:=by rfl):PS X (.Assign [tg] e pos) (tAsg te g):=by
 intro pins s σ H D I h
 refine wpAny_Assign_stores (thn (he pins s σ H _ I h) fun v s1 ⟨x,H1,I1,r1,q1⟩=>?_) hs hw
 rw [h1]
 exact thn (hg pins s1 σ H1 x v _ I1 r1 q1) fun _ s2 q=>q
theorem zf {i:Nat}{x:Str}{e:Expr}{te:TE}{pos':Pos}(hN:X.N.Nodup)(hi:X.N[i]? = some x)(hx:Loc X.env.scope x)(he:PE X e te)(hs:swapsWith e (some (.Name x pos')) pos.line X.env=pure false:=by rfl)(hf:X.fn x=true \/ X.env.scope.names.lookup x=some .local:=by first | exact .inl rfl | exact .inr rfl | assumption) :
  PS X (.Assign [.Name x pos'] e pos) (tAsg te (xk i)):=by
 intro pins s σ H D I h
 refine wpAny_Assign_Name (thn (he pins s σ H _ I h) fun v s1 ⟨y,H1,I1,r1,q1⟩=>?_) hs
 exact store_ok I1 hN hi hx r1 (fun s2 I2=>⟨_,H1,I2,q1⟩) hf
def tAug (i:Nat)(te:TE)(ti:TIp):TS:=fun D σ H=>∃ x,σ[i]? = some (some x) /\ te σ H fun y H1=>ti x y H1 fun z H2=>D.nx (σ.set i (some z)) H2
theorem ps_aug {i:Nat}{x:Str}{e:Expr}{te:TE}{op:Operator}{ti:TIp}{pos':Pos}(hN:X.N.Nodup)(hi:X.N[i]? = some x)(hx:Loc X.env.scope x)(he:PE X e te)(ho:PIp X op ti)(hf:X.fn x=true \/ X.env.scope.names.lookup x=some .local:=by first | exact .inl rfl | exact .inr rfl | assumption) :
  PS X (.AugAssign (.Name x pos') op e pos) (tAug i te ti):=by
 intro pins s σ H D I h
 obtain ⟨v,e1,h⟩:=h
 obtain ⟨m,hn,hl⟩:=I.loc
 have vis:Vis X.env.scope x:=by rcases hx with k | k; exact .inl k; exact .inr (.inl k)
 obtain ⟨u,r,l⟩:=hl i x v hi e1 vis
 refine wpAny_AugAssign_Name ?_
 have go:wpAny (model X.prog X.w) X.A (eval e X.env) (fun w s₂=>wpAny (model X.prog X.w) X.A (inplaceOp op u w) (fun r s₃=>wpAny (model X.prog X.w) X.A (storeName X.env x r) (fun _=>SP X pins D .next) X.xe s₃) X.xe s₂) X.xe s:=by
  refine thn (he pins s σ H _ I h) fun w s1 ⟨y,H1,I1,r1,q1⟩=>?_
  refine thn (ho pins s1 σ H1 v y u w _ I1 r r1 q1) fun z s2 ⟨zv,H2,I2,r2,q2⟩=>?_
  exact store_ok I2 hN hi hx r2 (fun s3 I3=>⟨_,H2,I3,q2⟩) hf
 rcases l with ⟨hk,hm⟩ | ⟨hk,c,hc,hcell⟩
 ·exact wpAny_loadName_local I.ok.kind hk hn hm go
 ·rcases hk with hk | hk
  ·exact wpAny_loadName_cell I.ok.kind hk hc hcell go
  ·rcases hx with k | k
   ·have:X.env.scope.names.lookup x=some .free:=hk
    rw [k] at this; cases this
   ·have:X.env.scope.names.lookup x=some .free:=hk
    rw [k] at this; cases this
def ipI (f:Int -> Int -> Int):TIp:=fun x y H Q=>∃ i j,x = .int i /\ y = .int j /\ Q (.int (f i j)) H
theorem ip_add:PIp X .Add (ipI fun i j=>i+j):=by
 intro pins s σ H x y v u Q I r1 r2 h
 obtain ⟨i,j,e1,e2,q⟩:=h
 subst e1; subst e2
 obtain ⟨t,rfl⟩:=r1
 obtain ⟨t',rfl⟩:=r2
 exact iadd_int ⟨.int _,H,I.tok _,⟨_,rfl⟩,q⟩
end
section
variable {X:Cx}{pos:Pos}
end
structure It where
 go:Nat -> Hp -> Prop
 yld:Nat -> Hp -> V -> Hp -> Prop
 stop:Nat -> Hp -> Prop
def FpOk (X:Cx)(pins:List (Addr × Obj))(H:Hp)(b:Addr):Prop :=
 H b=none /\ b ≠ X.env.locals /\ b ∉ X.fs /\ (b ∈ X.ex \/ X.s₀.heap.objs.size <= b) /\ (∀ x c,X.env.cells.lookup x=some c -> c ≠ b) /\ ∀ p ∈ X.pn ++ pins,p.1 ≠ b
theorem Inv.fpOk {X:Cx}{pins:List (Addr × Obj)}{σ:St}{H H':Hp}{s:Shared}{b:Addr}(I:Inv X pins σ H s)(hb:s.heap.objs.size <= b)(hn:H' b=none):FpOk X pins H' b:=by
 refine ⟨hn,Nat.ne_of_gt (qJ I.lt hb),I.nofs hb,.inr (zZ I.sz hb),fun x c e z=>?_,fun p hp z=>?_⟩
 ·obtain ⟨v,q⟩:=I.cell x c e
  exact absurd (qJ q.lt (by rw [z]; exact hb)) (yg _)
 ·exact absurd (qJ (Heap.lt_size (I.pin p hp).1) (by rw [z]; exact hb)) (yg _)
structure Turn (P:Program) (w:World) (K:zA) (tg:Expr) (J:It) (fp:List Addr) (it:Addr) (tn:Nat -> Heap -> Prop):Prop where
 mem:it ∈ fp
 obj:∀ i h,tn i h -> ∀ b ∈ fp,∃ o,h.get? b=some o /\ ∀ v,o.data ≠ .cell v
 keep:∀ i h h',tn i h -> (∀ b ∈ fp,∀ o,h.get? b=some o -> h'.get? b=some o) -> tn i h'
 item:∀ (X:Cx),X.prog=P -> X.w=w -> X.K=K -> X.calm=true -> ∀ (i:Nat) (pins:List (Addr × Obj)) (s:Shared) (σ:St) (H:Hp) (E:Value -> Shared -> Prop),Inv X pins σ H s -> (∀ b ∈ fp,FpOk X pins H b) -> tn i s.heap -> J.go i H ->
  wpAny (model P w) X.A (pyNext (.ref it)) (fun r s1=>∃ u,r=some u /\
   wpAny (model P w) X.A (letOwnedTupleGo tg (.ref it) u) (fun _ s2=>∃ x H',Inv X pins σ H' s2 /\ RelV x u /\ J.yld i H x H' /\ tn (i+1) s2.heap /\ ∀ b ∈ fp,H' b=none) E s1) E s
 done:∀ (X:Cx),X.prog=P -> X.w=w -> X.K=K -> X.calm=true -> ∀ (i:Nat) (pins:List (Addr × Obj)) (s:Shared) (σ:St) (H:Hp) (E:Value -> Shared -> Prop),Inv X pins σ H s -> (∀ b ∈ fp,FpOk X pins H b) -> tn i s.heap -> J.stop i H ->
  wpAny (model P w) X.A (pyNext (.ref it)) (fun r s1=>r=none /\ Inv X pins σ H s1) E s
 self:∀ (A:Around) (i:Nat) (s:Shared) (Q:Value -> Shared -> Prop) (E:Value -> Shared -> Prop),tn i s.heap -> Q (.ref it) s -> wpAny (model P w) A (pyIter (.ref it)) Q E s
abbrev TI:=St -> Hp -> (It -> Hp -> Prop) -> Prop
def PIE (X:Cx)(pins:List (Addr × Obj))(σ:St)(tg:Expr)(R:It -> Hp -> Prop)(itv:Value)(s2:Shared):Prop :=
 ∃ (it:Addr) (fp:List Addr) (tn:Nat -> Heap -> Prop) (J:It) (H':Hp),itv = .ref it /\ Inv X pins σ H' s2 /\ Turn X.prog X.w X.K tg J fp it tn /\ tn 0 s2.heap /\ (∀ b ∈ fp,FpOk X pins H' b) /\ R J H'
def PI (X:Cx)(tg iter:Expr)(wi:TI):Prop :=
 ∀ (pins:List (Addr × Obj)) (s:Shared) (σ:St) (H:Hp) (R:It -> Hp -> Prop),Inv X pins σ H s -> wi σ H R ->
  wpAny (model X.prog X.w) X.A (eval iter X.env) (fun v s1=>wpAny (model X.prog X.w) X.A (pyIter v) (PIE X pins σ tg R) X.xe s1) X.xe s
theorem go_of {M : Model}{A : Around}{E : Value → Shared → Prop}{s : Shared}{tg : Expr}{it : Addr}{u : Value}{o : Obj}{n : String}{vs : Array Value}{Q : Unit → Shared → Prop}(ho : s.heap.get? it = some o)(hc : o.cls = .type n)(hd : o.data = .fields vs)
    (hn : ["enumerate", "zip", "dict_itemiterator", "dict_reverseitemiterator", "odict_iterator", "itertools.zip_longest", "itertools.pairwise"].contains n = false) (hQ : Q () s) : wpAny M A (letOwnedTupleGo tg (.ref it) u) Q E s := by
  unfold letOwnedTupleGo
  cases tg <;> first
    | exact wpAny_pure hQ
    | (cases u <;> first
        | exact wpAny_pure hQ
        | (refine wpAny_bind (wpAny_load ho ?_)
           rw [hc, hd]
           show wpAny M A (if (["enumerate", "zip", "dict_itemiterator", "dict_reverseitemiterator", "odict_iterator", "itertools.zip_longest", "itertools.pairwise"].contains n && vs[0]? == some (rawInt _)) = true then _ else _) Q E s
           rw [if_neg (by intro h; rw [hn, Bool.false_and] at h; cases h)]
           exact wpAny_pure hQ))
def Itl (K:zA)(a:Addr):It :=
 ⟨fun i H=>∃ xs x,SqL K H a xs /\ xs[i]? = some x,fun i H x H'=>H'=H /\ ∀ xs,SqL K H a xs -> xs[i]? = some x,fun i H=>∃ xs,SqL K H a xs /\ xs.length <= i⟩
def Itt (K:zA)(a:Addr):It :=
 ⟨fun i H=>∃ xs x,SqT K H a xs /\ xs[i]? = some x,fun i H x H'=>H'=H /\ ∀ xs,SqT K H a xs -> xs[i]? = some x,fun i H=>∃ xs,SqT K H a xs /\ xs.length <= i⟩
def Itr (lo:Int)(n:Nat):It:=⟨fun i _=>i < n,fun i H x H'=>H'=H /\ x = .int (lo+i),fun i _=>n <= i⟩
theorem turn_list {P:Program}{w:World}{K:zA}{tg:Expr}(a it:Addr):Turn P w K tg (Itl K a) [it] it (fun i h=>h.IsListIter it a i) where
 mem:=by simp
 obj:=fun i h st b hb=>by
  have e:b=it:=by simpa using hb
  subst e
  obtain ⟨o,e,c,d⟩:=st
  exact ⟨o,e,fun v z=>by rw [d] at z; cases z⟩
 keep:=fun i h h' st k=>st.at fun o e=>k it (by simp) o e
 item:=by
  intro X hP hw hK hc i pins s σ H E I hf st hg
  subst hP hw hK
  obtain ⟨xs,x,hq,hx⟩:=hg
  obtain ⟨its,rv,p,hz⟩:=I.list hq
  obtain ⟨u,hu,ru⟩:=rv.get hx
  obtain ⟨f0,f1,f2,f3,f4,f5⟩:=hf it (by simp)
  refine wpAny_pyNext_list_item st p.isList (x:=u) (by simpa using hu) fun h' st' sb=>?_
  have I1:Inv X pins σ H { s with heap:=h' }:=I.turned (t':=s.toks) (fun b o hb e=>(sb.2 b hb).trans e) f0 f1 f3 f4 f5
  obtain ⟨o,e,c,d⟩:=id st'
  exact ⟨u,rfl,go_of (s:={ s with heap:=h' }) e c d (by decide) ⟨x,H,I1,ru,⟨rfl,fun ys hy=>by rw [I.list_inj hy hq]; exact hx⟩,st',fun b hb=>(hf b hb).1⟩⟩
 done:=by
  intro X hP hw hK hc i pins s σ H E I hf st hg
  subst hP hw hK
  obtain ⟨xs,hq,hx⟩:=hg
  obtain ⟨its,rv,p,hz⟩:=I.list hq
  obtain ⟨f0,f1,f2,f3,f4,f5⟩:=hf it (by simp)
  have hl:=rv.length
  exact wpAny_pyNext_list_end (I.ok.hd hc) st p.isList (by simp; omega) fun h' eb=>⟨rfl,I.turned (t':=s.toks) (fun b o hb e=>eb b o hb e) f0 f1 f3 f4 f5⟩
 self:=fun _ _ _ _ _ st h=>wpAny_pyIter_listiter st h
theorem turn_tuple {P:Program}{w:World}{K:zA}{tg:Expr}(a it:Addr):Turn P w K tg (Itt K a) [it] it (fun i h=>h.IsTupleIter it a i) where
 mem:=by simp
 obj:=fun i h st b hb=>by
  have e:b=it:=by simpa using hb
  subst e
  obtain ⟨o,e,c,d⟩:=st
  exact ⟨o,e,fun v z=>by rw [d] at z; cases z⟩
 keep:=fun i h h' st k=>st.at fun o e=>k it (by simp) o e
 item:=by
  intro X hP hw hK hc i pins s σ H E I hf st hg
  subst hP hw hK
  obtain ⟨xs,x,hq,hx⟩:=hg
  obtain ⟨its,rv,p,hz⟩:=I.tuple hq
  obtain ⟨u,hu,ru⟩:=rv.get hx
  obtain ⟨f0,f1,f2,f3,f4,f5⟩:=hf it (by simp)
  refine wpAny_pyNext_tuple_item st (show s.heap.IsTuple a its.toArray from p) (x:=u) (by simpa using hu) fun h' st' sb=>?_
  have I1:Inv X pins σ H { s with heap:=h' }:=I.turned (t':=s.toks) (fun b o hb e=>(sb.2 b hb).trans e) f0 f1 f3 f4 f5
  obtain ⟨o,e,c,d⟩:=id st'
  exact ⟨u,rfl,go_of (s:={ s with heap:=h' }) e c d (by decide) ⟨x,H,I1,ru,⟨rfl,fun ys hy=>by rw [I.tuple_inj hy hq]; exact hx⟩,st',fun b hb=>(hf b hb).1⟩⟩
 done:=by
  intro X hP hw hK hc i pins s σ H E I hf st hg
  subst hP hw hK
  obtain ⟨xs,hq,hx⟩:=hg
  obtain ⟨its,rv,p,hz⟩:=I.tuple hq
  obtain ⟨f0,f1,f2,f3,f4,f5⟩:=hf it (by simp)
  have hl:=rv.length
  exact wpAny_pyNext_tuple_end (I.ok.hd hc) st (show s.heap.IsTuple a its.toArray from p) (by simp; omega) fun h' eb=>⟨rfl,I.turned (t':=s.toks) (fun b o hb e=>eb b o hb e) f0 f1 f3 f4 f5⟩
 self:=fun _ _ _ _ _ st h=>wpAny_pyIter_tupleiter st h
theorem turn_range {P:Program}{w:World}{K:zA}{tg:Expr}(it:Addr)(lo:Int)(n:Nat):Turn P w K tg (Itr lo n) [it] it (fun i h=>IsRangeIter h it (lo+(i:Nat) * 1) ((n:Int) - (i:Nat)) 1) where
 mem:=by simp
 obj:=fun i h st b hb=>by
  have e:b=it:=by simpa using hb
  subst e
  exact ⟨_,st,fun v z=>by
   have z':Data.fields _=Data.cell v:=z
   cases z'⟩
 keep:=fun i h h' st k=>k it (by simp) _ st
 item:=by
  intro X hP hw hK hc i pins s σ H E I hf st hg
  subst hP hw hK
  obtain ⟨f0,f1,f2,f3,f4,f5⟩:=hf it (by simp)
  have W:=Walks.range (prog:=X.prog) (w:=X.w) (I.ok.hd hc) it lo 1 n
  refine W.item i s _ _ hg st fun v h' tk hv st' kk=>?_
  obtain ⟨t,rfl⟩:=hv
  have I1:Inv X pins σ H { s with heap:=h',toks:=tk }:=I.turned (fun b o hb e=>kk b o (by simpa using hb) e) f0 f1 f3 f4 f5
  refine ⟨_,rfl,go_of (s:={ s with heap:=h',toks:=tk }) (n:="range_iterator") st' rfl rfl (by decide) ⟨.int (lo+i),H,I1,⟨t,?_⟩,⟨rfl,rfl⟩,st',fun b hb=>(hf b hb).1⟩⟩
  rw [yj]
 done:=by
  intro X hP hw hK hc i pins s σ H E I hf st hg
  subst hP hw hK
  obtain ⟨f0,f1,f2,f3,f4,f5⟩:=hf it (by simp)
  exact wpAny_pyNext_range_end (I.ok.hd hc) st (by have:n <= i:=hg; omega) fun h' eb=>⟨rfl,I.turned (t':=s.toks) (fun b o hb e=>eb b o hb e) f0 f1 f3 f4 f5⟩
 self:=fun _ _ _ _ _ st h=>wpAny_pyIter_rangeiter st h
end L2
namespace L2
open PySem PySem.Spec PyProof.Rows
section
variable {X:Cx}{tg:Expr}
def iList (K:zA)(tl:TE):TI:=fun σ H R=>tl σ H fun x H1=>∃ a,x = .ref a /\ (∃ xs,SqL K H1 a xs) /\ R (Itl K a) H1
def iTup (K:zA)(tl:TE):TI:=fun σ H R=>tl σ H fun x H1=>∃ a,x = .ref a /\ (∃ xs,SqT K H1 a xs) /\ R (Itt K a) H1
theorem yc {l:Expr}{tl:TE}(hl:PE X l tl):PI X tg l (iList X.K tl):=by
 intro pins s σ H R I h
 refine thn (hl pins s σ H _ I h) fun v s1 ⟨x,H1,I1,r1,q1⟩=>?_
 obtain ⟨a,e,⟨xs,hq⟩,q⟩:=q1
 subst e
 cases r1
 obtain ⟨its,rv,p,hz⟩:=I1.list hq
 refine wpAny_pyIter_list p.isList ?_
 refine ⟨s1.heap.objs.size,[s1.heap.objs.size],_,_,H1,rfl,I1.kept (t':=s1.toks) fun b o e=>Heap.get?_push_of_some _ e,turn_list a _,⟨_,Heap.get?_push_size _ rfl,rfl,rfl⟩,fun b hb=>?_,q⟩
 have e:b=s1.heap.objs.size:=by simpa using hb
 subst e
 exact I1.fpOk (zE _) (I1.hok.fresh (zE _))
theorem zBb {l:Expr}{tl:TE}(hl:PE X l tl):PI X tg l (iTup X.K tl):=by
 intro pins s σ H R I h
 refine thn (hl pins s σ H _ I h) fun v s1 ⟨x,H1,I1,r1,q1⟩=>?_
 obtain ⟨a,e,⟨xs,hq⟩,q⟩:=q1
 subst e
 cases r1
 obtain ⟨its,rv,p,hz⟩:=I1.tuple hq
 refine wpAny_pyIter_tuple (show s1.heap.IsTuple a its.toArray from p) ?_
 refine ⟨s1.heap.objs.size,[s1.heap.objs.size],_,_,H1,rfl,I1.kept (t':=s1.toks) fun b o e=>Heap.get?_push_of_some _ e,turn_tuple a _,⟨_,Heap.get?_push_size _ rfl,rfl,rfl⟩,fun b hb=>?_,q⟩
 have e:b=s1.heap.objs.size:=by simpa using hb
 subst e
 exact I1.fpOk (zE _) (I1.hok.fresh (zE _))
theorem range_it {pins:List (Addr × Obj)}{σ:St}{H:Hp}{s:Shared}{R:It -> Hp -> Prop}{E:Value -> Shared -> Prop}{lo hi:Int}{t u v:Tok}{tk:Nat}(I:Inv X pins σ H s)(h1:-(2 ^ 62) <= lo)(h2:lo < 2 ^ 62)(h3:-(2 ^ 62) <= hi)(h4:hi < 2 ^ 62)
  (q:R (Itr lo (hi - lo).toNat) H):wpAny (model X.prog X.w) X.A (pyIter (.ref s.heap.objs.size)) (PIE X pins σ tg R) E { s with heap:=s.heap.push { cls:=.type "range",data:=.fields #[.int lo t,.int hi u,.int 1 v] },toks:=tk }:=by
 refine wpAny_pyIter_range (IsRange.new ..) (small_one h1 h2 h3 h4) ?_
 have I1:Inv X pins σ H { s with heap:=s.heap.push { cls:=.type "range",data:=.fields #[.int lo t,.int hi u,.int 1 v] },toks:=tk }:=I.kept fun b o e=>Heap.get?_push_of_some _ e
 refine ⟨(s.heap.push { cls:=.type "range",data:=.fields #[.int lo t,.int hi u,.int 1 v] }).objs.size,[(s.heap.push { cls:=.type "range",data:=.fields #[.int lo t,.int hi u,.int 1 v] }).objs.size],_,_,H,rfl,
  I1.kept (t':=tk) fun b o e=>Heap.get?_push_of_some _ e,turn_range _ lo (hi - lo).toNat,?_,fun b hb=>?_,q⟩
 ·have e1:lo+((0:Nat):Int) * 1=lo:=by simp
  have e2:(((hi - lo).toNat:Nat):Int) - ((0:Nat):Int)=Builtin.Range.rangeSize lo hi 1:=by rw [rangeSize_one]; split <;> omega
  show IsRangeIter _ _ (lo+((0:Nat):Int) * 1) ((((hi - lo).toNat:Nat):Int) - ((0:Nat):Int)) 1
  rw [e1,e2]
  exact Heap.get?_push_size _ rfl
 ·have e:b=(s.heap.push { cls:=.type "range",data:=.fields #[.int lo t,.int hi u,.int 1 v] }).objs.size:=by simpa using hb
  subst e
  exact I1.fpOk (zE _) (I1.hok.fresh (zE _))
def iRng1 (ta:TA):TI:=fun σ H R=>ta σ H fun vs H1=>∃ j:Int,vs=[.int j] /\ -(2 ^ 62) <= j /\ j < 2 ^ 62 /\ R (Itr 0 j.toNat) H1
def iRng2 (ta:TA):TI:=fun σ H R=>ta σ H fun vs H1=>∃ i j:Int,vs=[.int i,.int j] /\ (-(2 ^ 62) <= i /\ i < 2 ^ 62 /\ -(2 ^ 62) <= j /\ j < 2 ^ 62) /\ R (Itr i (j - i).toNat) H1
theorem xr {a:Expr} {ta:TA} {p pos:Pos} (hg:Gl X "range") (hm:X.mg "range" = none) (ha:PA X [a] ta) (hs:starEach [a] X.env=[(false,eval a X.env)]:=by rfl):PI X tg (.Call (.Name "range" p) [a] [] pos) (iRng1 ta):=by
 intro pins s σ H R I h
 refine Call_ (JT I hg hm boot_range (PyProof.Rows.callWith_type1 (thn (ha pos pins s σ H _ I h) fun us s1 ⟨vs,H1,I1,r1,q1⟩=>?_) hs rfl))
 obtain ⟨j,e,q1,q2,q⟩:=q1
 subst e
 cases r1 with
 | cons r rr =>
  cases rr
  obtain ⟨t,rfl⟩:=r
  exact call_range_1 (range_it I1 (by omega) (by omega) q1 q2 (by simpa using q))
def tFor (wi:TI)(g:TG)(tb:TS):TS:=fun D σ H=>wi σ H fun J H1=>∃ W:Nat -> Nat -> St -> Hp -> Prop,(∃ m,W 0 m σ H1) /\ ∀ i m σ H,W i m σ H ->
 (J.stop i H /\ D.nx σ H) \/ (J.go i H /\ ∃ N:St -> Hp -> Prop,(∀ σ' H',N σ' H' -> ∃ m',m' < m /\ W (i+1) m' σ' H') /\ ∀ x H',J.yld i H x H' -> g x σ H' fun σ2 H2=>tb { D with nx:=N,ct:=N,bk:=D.nx } σ2 H2)
def zA3 (fp:List Addr)(h:Heap):List (Addr × Obj):=fp.filterMap fun b=>(h.get? b).map fun o=>(b,o)
theorem x9 {fp:List Addr}{h:Heap}{b:Addr}{o:Obj}(hb:b ∈ fp)(e:h.get? b=some o):(b,o) ∈ zA3 fp h:=Jq.mpr ⟨b,hb,by rw [e]; rfl⟩
theorem of_pinsAt {fp:List Addr}{h:Heap}{p:Addr × Obj}(hp:p ∈ zA3 fp h):p.1 ∈ fp /\ h.get? p.1=some p.2:=by
 obtain ⟨b,hb,e⟩:=Jq.mp hp
 cases q:h.get? b with
 | none=>rw [q] at e; cases e
 | some o =>
  rw [q] at e
  have e':(b,o)=p:=Option.some.inj e
  subst e'
  exact ⟨hb,q⟩
theorem Inv.pinned {pins:List (Addr × Obj)}{σ:St}{H:Hp}{s:Shared}{fp:List Addr}(I:Inv X pins σ H s)(hf:∀ b ∈ fp,FpOk X pins H b)(ho:∀ b ∈ fp,∃ o,s.heap.get? b=some o /\ ∀ v,o.data ≠ .cell v):Inv X (pins ++ zA3 fp s.heap) σ H s :=
 I.pins_of fun p hp=>(yS.mp hp).elim (fun z=>I.pin p (qK _ z)) fun z=>by
  obtain ⟨hb,e⟩:=of_pinsAt z
  obtain ⟨f0,f1,f2,_⟩:=hf p.1 hb
  obtain ⟨o,e',d⟩:=ho p.1 hb
  rw [e] at e'; cases e'
  exact ⟨e,f0,f1,f2,d⟩
theorem Inv.unpinned {pins pl:List (Addr × Obj)}{σ:St}{H:Hp}{s:Shared}(I:Inv X (pins ++ pl) σ H s):Inv X pins σ H s:=I.pins_of fun p hp=>I.pin p (qK _ (xW _ hp))
theorem xR {iter:Expr}{body:List Stmt}{wi:TI}{g:TG}{tb:TS}{pos:Pos}(hp:PassesOwn (model X.prog X.w) X.A X.env X.xe)(hc:X.calm=true)(hi:PI X tg iter wi)(hg:PG X tg g)(hb:PSs X body tb)
  (hs:∀ x,foldedSetIterable iter X.env x=pure x:=by intro _; rfl):PS X (.For tg iter body [] pos) (tFor wi g tb):=by
 intro pins s σ H D I h
 refine wpAny_For (thn (hi pins s σ H _ I h) fun v s1 h1=>thn h1 fun itv s2 h2=>?_) hs
 obtain ⟨it,fp,tn,J,H2,e,I2,T,st2,f2,W,⟨m0,w0⟩,turn⟩:=h2
 subst e
 -- what stays true of the iterator's objects through the loop
 have stat:∀ {H':Hp},(∀ b ∈ fp,H' b=none) -> ∀ b ∈ fp,FpOk X pins H' b:=fun hn b hb=>⟨hn b hb,(f2 b hb).2⟩
 refine codeAny_forLoop_any (fun n s'=>∃ i σ' H',Inv X pins σ' H' s' /\ tn i s'.heap /\ (∀ b ∈ fp,H' b=none) /\ W i n σ' H') ?_ m0 ⟨0,σ,H2,I2,st2,fun b hb=>(f2 b hb).1,w0⟩
 rintro n s3 ⟨i,σ3,H3,I3,st3,fr3,w3⟩
 rcases turn i n σ3 H3 w3 with ⟨stop,qn⟩ | ⟨go,N,hN,step⟩
 ·refine wpAny_passesOwn hp (thn (T.done X rfl rfl rfl hc i pins s3 σ3 H3 X.xe I3 (stat fr3) st3 stop) fun r s4 ⟨hr,I4⟩=>?_)
  subst hr
  exact wpAny_execs_nil ⟨σ3,H3,I4,qn⟩
 ·refine wpAny_passesOwn hp (thn (T.item X rfl rfl rfl hc i pins s3 σ3 H3 X.xe I3 (stat fr3) st3 go) fun r s4 ⟨u,hr,h4⟩=>?_)
  subst hr
  refine wpAny_passesOwn hp (thn h4 fun _ s5 ⟨x,H5,I5,r5,y5,st5,fr5⟩=>?_)
  have I5':=I5.pinned (stat fr5) (T.obj _ _ st5)
  refine wpAny_passesOwn hp (thn (hg _ s5 σ3 H5 x u _ I5' r5 (step x H5 y5)) fun _ s6 ⟨σ6,H6,I6,q6⟩=>?_)
  refine wpAny_passesOwn hp (thn (hb _ s6 σ6 H6 _ I6 q6) fun f s7 q7=>?_)
  have again:∀ {σ7:St} {H7:Hp},Inv X (pins ++ zA3 fp s5.heap) σ7 H7 s7 -> N σ7 H7 -> ∃ m,m < n /\ ∃ i σ' H',Inv X pins σ' H' s7 /\ tn i s7.heap /\ (∀ b ∈ fp,H' b=none) /\ W i m σ' H':=fun {σ7 H7} I7 n7=>by
   obtain ⟨m',hm,w7⟩:=hN σ7 H7 n7
   refine ⟨m',hm,i+1,σ7,H7,I7.unpinned,T.keep _ _ _ st5 fun b hb o e=>(I7.pin (b,o) (qK _ (qK _ (x9 hb e)))).1,fun b hb=>?_,w7⟩
   obtain ⟨o,e,d⟩:=T.obj _ _ st5 b hb
   exact (I7.pin (b,o) (qK _ (qK _ (x9 hb e)))).2.1
  cases f with
  | next=>obtain ⟨σ7,H7,I7,n7⟩:=q7; exact again I7 n7
  | cont=>obtain ⟨σ7,H7,I7,n7⟩:=q7; exact again I7 n7
  | brk=>obtain ⟨σ7,H7,I7,q7⟩:=q7; exact ⟨σ7,H7,I7.unpinned,q7⟩
  | ret v=>obtain ⟨x7,σ7,H7,I7,r7,q7⟩:=q7; exact ⟨x7,σ7,H7,I7.unpinned,r7,q7⟩
end
theorem for_list {K:zA}{a:Addr}{xs:List V}{g:TG}{tb:TS}{D:Ends}{σ:St}{H:Hp}(Pv:Nat -> St -> Hp -> Prop)(h0:Pv 0 σ H)(hl:∀ i σ H,i <= xs.length -> Pv i σ H -> SqL K H a xs)
  (hs:∀ i x σ H,xs[i]? = some x -> Pv i σ H -> g x σ H fun σ2 H2=>tb { D with nx:=Pv (i+1),ct:=Pv (i+1),bk:=D.nx } σ2 H2) (hd:∀ σ H,Pv xs.length σ H -> D.nx σ H) :
  ∃ W:Nat -> Nat -> St -> Hp -> Prop,(∃ m,W 0 m σ H) /\ ∀ i m σ H,W i m σ H ->
   ((Itl K a).stop i H /\ D.nx σ H) \/ ((Itl K a).go i H /\ ∃ N:St -> Hp -> Prop,(∀ σ' H',N σ' H' -> ∃ m',m' < m /\ W (i+1) m' σ' H') /\ ∀ x H',(Itl K a).yld i H x H' -> g x σ H' fun σ2 H2=>tb { D with nx:=N,ct:=N,bk:=D.nx } σ2 H2):=by
 refine ⟨fun i m σ H=>m=xs.length - i /\ i <= xs.length /\ Pv i σ H,⟨xs.length,by simp,yM _,h0⟩,?_⟩
 rintro i m σ H ⟨rfl,hi,p⟩
 have q:=hl i σ H hi p
 by_cases hlt:i < xs.length
 ·refine .inr ⟨⟨xs,xs[i],q,by simp [hlt]⟩,Pv (i+1),fun σ' H' p'=>⟨xs.length - (i+1),by omega,rfl,hlt,p'⟩,fun x H' y=>?_⟩
  obtain ⟨e,y⟩:=y
  subst e
  exact hs i x σ _ (y xs q) p
 ·have e:i=xs.length:=by omega
  subst e
  exact .inl ⟨⟨xs,q,zE _⟩,hd σ H p⟩
theorem for_tup {K:zA}{a:Addr}{xs:List V}{g:TG}{tb:TS}{D:Ends}{σ:St}{H:Hp}(Pv:Nat -> St -> Hp -> Prop)(h0:Pv 0 σ H)(hl:∀ i σ H,i <= xs.length -> Pv i σ H -> SqT K H a xs)
  (hs:∀ i x σ H,xs[i]? = some x -> Pv i σ H -> g x σ H fun σ2 H2=>tb { D with nx:=Pv (i+1),ct:=Pv (i+1),bk:=D.nx } σ2 H2) (hd:∀ σ H,Pv xs.length σ H -> D.nx σ H) :
  ∃ W:Nat -> Nat -> St -> Hp -> Prop,(∃ m,W 0 m σ H) /\ ∀ i m σ H,W i m σ H ->
   ((Itt K a).stop i H /\ D.nx σ H) \/ ((Itt K a).go i H /\ ∃ N:St -> Hp -> Prop,(∀ σ' H',N σ' H' -> ∃ m',m' < m /\ W (i+1) m' σ' H') /\ ∀ x H',(Itt K a).yld i H x H' -> g x σ H' fun σ2 H2=>tb { D with nx:=N,ct:=N,bk:=D.nx } σ2 H2):=by
 refine ⟨fun i m σ H=>m=xs.length - i /\ i <= xs.length /\ Pv i σ H,⟨xs.length,by simp,yM _,h0⟩,?_⟩
 rintro i m σ H ⟨rfl,hi,p⟩
 have q:=hl i σ H hi p
 by_cases hlt:i < xs.length
 ·refine .inr ⟨⟨xs,xs[i],q,by simp [hlt]⟩,Pv (i+1),fun σ' H' p'=>⟨xs.length - (i+1),by omega,rfl,hlt,p'⟩,fun x H' y=>?_⟩
  obtain ⟨e,y⟩:=y
  subst e
  exact hs i x σ _ (y xs q) p
 ·have e:i=xs.length:=by omega
  subst e
  exact .inl ⟨⟨xs,q,zE _⟩,hd σ H p⟩
theorem for_range {lo:Int}{n:Nat}{g:TG}{tb:TS}{D:Ends}{σ:St}{H:Hp}(Pv:Nat -> St -> Hp -> Prop)(h0:Pv 0 σ H)
  (hs:∀ i σ H,i < n -> Pv i σ H -> g (.int (lo+i)) σ H fun σ2 H2=>tb { D with nx:=Pv (i+1),ct:=Pv (i+1),bk:=D.nx } σ2 H2) (hd:∀ σ H,Pv n σ H -> D.nx σ H) :
  ∃ W:Nat -> Nat -> St -> Hp -> Prop,(∃ m,W 0 m σ H) /\ ∀ i m σ H,W i m σ H ->
   ((Itr lo n).stop i H /\ D.nx σ H) \/ ((Itr lo n).go i H /\ ∃ N:St -> Hp -> Prop,(∀ σ' H',N σ' H' -> ∃ m',m' < m /\ W (i+1) m' σ' H') /\ ∀ x H',(Itr lo n).yld i H x H' -> g x σ H' fun σ2 H2=>tb { D with nx:=N,ct:=N,bk:=D.nx } σ2 H2):=by
 refine ⟨fun i m σ H=>m=n - i /\ i <= n /\ Pv i σ H,⟨n,by simp,yM _,h0⟩,?_⟩
 rintro i m σ H ⟨rfl,hi,p⟩
 by_cases hlt:i < n
 ·refine .inr ⟨hlt,Pv (i+1),fun σ' H' p'=>⟨n - (i+1),by omega,rfl,hlt,p'⟩,fun x H' y=>?_⟩
  obtain ⟨e,y⟩:=y
  subst e y
  exact hs i σ _ hlt p
 ·have e:i=n:=by omega
  subst e
  exact .inl ⟨zE _,hd σ H p⟩
end L2
namespace L2
open PySem PySem.Spec PyProof.Rows
abbrev R2:=V -> V -> Hp -> VK -> Prop
def OpR (X:Cx)(f:Value -> Value -> Sem Value)(r:R2):Prop :=
 ∀ (pins:List (Addr × Obj)) (s:Shared) (σ:St) (H:Hp) (x y:V) (v u:Value) (Q:VK),Inv X pins σ H s -> RelV x v -> RelV y u -> r x y H Q ->
  wpAny (model X.prog X.w) X.A (f v u) (EP X pins σ Q) X.xe s
def UnR (X:Cx)(f:Value -> Sem Value)(r:V -> Hp -> VK -> Prop):Prop :=
 ∀ (pins:List (Addr × Obj)) (s:Shared) (σ:St) (H:Hp) (x:V) (v:Value) (Q:VK),Inv X pins σ H s -> RelV x v -> r x H Q ->
  wpAny (model X.prog X.w) X.A (f v) (EP X pins σ Q) X.xe s
def CallR (X:Cx)(f:Value)(r:List V -> Hp -> VK -> Prop):Prop :=
 ∀ (pins:List (Addr × Obj)) (s:Shared) (σ:St) (H:Hp) (xs:List V) (us:List Value) (Q:VK),Inv X pins σ H s -> Vals xs us -> r xs H Q ->
  wpAny (model X.prog X.w) X.A (call f us) (EP X pins σ Q) X.xe s
def tOp (r:R2)(ta tb:TE):TE:=fun σ H Q=>ta σ H fun x H1=>tb σ H1 fun y H2=>r x y H2 Q
def tUn (r:V -> Hp -> VK -> Prop)(ta:TE):TE:=fun σ H Q=>ta σ H fun x H1=>r x H1 Q
def rI (C:Int -> Int -> Prop)(g:Int -> Int -> V):R2:=fun x y H Q=>∃ i j,x = .int i /\ y = .int j /\ C i j /\ Q (g i j) H
def rI0 (g:Int -> Int -> V):R2:=fun x y H Q=>∃ i j,x = .int i /\ y = .int j /\ Q (g i j) H
def rU (g:Int -> V):V -> Hp -> VK -> Prop:=fun x H Q=>∃ i,x = .int i /\ Q (g i) H
section
variable {X:Cx}{a b c:Expr}{ta tb tc:TE}{pos:Pos}
theorem binT (ha:PE X a ta)(hb:PE X b tb){pins:List (Addr × Obj)}{s:Shared}{σ:St}{H:Hp}{R:V -> V -> Hp -> Prop}(I:Inv X pins σ H s)
  (h:ta σ H fun x H1=>tb σ H1 fun y H2=>R x y H2) {Q:Value -> Shared -> Prop} {f:Value -> Value -> Sem Value}
  (hf:∀ v u s2 x y H2,Inv X pins σ H2 s2 -> RelV x v -> RelV y u -> R x y H2 -> wpAny (model X.prog X.w) X.A (f v u) Q X.xe s2) :
  wpAny (model X.prog X.w) X.A (eval a X.env) (fun v s₁=>wpAny (model X.prog X.w) X.A (eval b X.env) (fun u s₂=>wpAny (model X.prog X.w) X.A (f v u) Q X.xe s₂) X.xe s₁) X.xe s:=by
 refine thn (ha pins s σ H _ I h) fun v s1 ⟨x,H1,I1,r1,q1⟩=>?_
 refine thn (hb pins s1 σ H1 _ I1 q1) fun u s2 ⟨y,H2,I2,r2,q2⟩=>?_
 exact hf v u s2 x y H2 I2 r1 r2 q2
theorem zU {op:Operator}{r:R2}(ho:OpR X (binaryOp op) r)(ha:PE X a ta)(hb:PE X b tb):PE X (.BinOp a op b pos) (tOp r ta tb):=by
 intro pins s σ H Q I h
 exact wpAny_BinOp (binT ha hb I h fun v u s2 x y H2 I2 rx ry q=>ho pins s2 σ H2 x y v u Q I2 rx ry q)
theorem zAz {op:UnaryOp}{r:V -> Hp -> VK -> Prop}(ho:UnR X (unaryOp op) r)(ha:PE X a ta):PE X (.UnaryOp op a pos) (tUn r ta):=by
 intro pins s σ H Q I h
 exact UnaryOp_ (thn (ha pins s σ H _ I h) fun v s1 ⟨x,H1,I1,r1,q1⟩=>ho pins s1 σ H1 x v Q I1 r1 q1)
theorem opI {f:Value -> Value -> Sem Value}{C:Int -> Int -> Prop}{g:Int -> Int -> Int}
  (rule:∀ (i j:Int) (t u:Tok) (s:Shared) (Q:Value -> Shared -> Prop) (E:Value -> Shared -> Prop),C i j -> Q (.int (g i j) s.toks) { s with toks:=s.toks+1 } -> wpAny (model X.prog X.w) X.A (f (.int i t) (.int j u)) Q E s) :
  OpR X f (rI C fun i j=>.int (g i j)):=by
 intro pins s σ H x y v u Q I rx ry h
 obtain ⟨i,j,rfl,rfl,hc,q⟩:=h
 obtain ⟨t,rfl⟩:=rx
 obtain ⟨t',rfl⟩:=ry
 exact rule i j t t' s _ _ hc ⟨.int (g i j),H,I.tok _,⟨_,rfl⟩,q⟩
theorem opI0 {f:Value -> Value -> Sem Value}{g:Int -> Int -> Int}
  (rule:∀ (i j:Int) (t u:Tok) (s:Shared) (Q:Value -> Shared -> Prop) (E:Value -> Shared -> Prop),Q (.int (g i j) s.toks) { s with toks:=s.toks+1 } -> wpAny (model X.prog X.w) X.A (f (.int i t) (.int j u)) Q E s) :
  OpR X f (rI0 fun i j=>.int (g i j)):=by
 intro pins s σ H x y v u Q I rx ry h
 obtain ⟨i,j,rfl,rfl,q⟩:=h
 obtain ⟨t,rfl⟩:=rx
 obtain ⟨t',rfl⟩:=ry
 exact rule i j t t' s _ _ ⟨.int (g i j),H,I.tok _,⟨_,rfl⟩,q⟩
theorem opB0 {f:Value -> Value -> Sem Value}{g:Int -> Int -> Bool}
  (rule:∀ (i j:Int) (t u:Tok) (s:Shared) (Q:Value -> Shared -> Prop) (E:Value -> Shared -> Prop),Q (.bool (g i j)) s -> wpAny (model X.prog X.w) X.A (f (.int i t) (.int j u)) Q E s) :
  OpR X f (rI0 fun i j=>.bl (g i j)):=by
 intro pins s σ H x y v u Q I rx ry h
 obtain ⟨i,j,rfl,rfl,q⟩:=h
 obtain ⟨t,rfl⟩:=rx
 obtain ⟨t',rfl⟩:=ry
 exact rule i j t t' s _ _ ⟨.bl (g i j),H,I,rfl,q⟩
theorem two_pow_nn (k:Nat):(0:Int) <= 2 ^ k:=by
 rw [two_pow_cast]
 exact Int.natCast_nonneg _
theorem yp:OpR X (binaryOp .Add) (rI0 fun i j=>.int (i+j)):=opI0 fun _ _ _ _ _ _ _ q=>add_int q
theorem xK:OpR X (binaryOp .Sub) (rI0 fun i j=>.int (i - j)):=opI0 fun _ _ _ _ _ _ _ q=>sub_int q
theorem jg:OpR X (binaryOp .Mod) (rI (fun _ j=>0 < j) fun i j=>.int (i % j)):=opI fun i j _ _ _ _ _ hc q=>by
 have h1:(0:Int) < j:=hc
 exact mod_int' (by omega) (by rw [Int.fmod_eq_emod_of_nonneg i (by omega)]; exact q)
theorem op_shr:OpR X (binaryOp .RShift) (rI (fun _ j=>0 <= j) fun i j=>.int (i / 2 ^ j.toNat)):=opI fun i j _ _ _ _ _ hc q =>
 rshift_int hc (by rw [Int.fdiv_eq_ediv_of_nonneg i (two_pow_nn _)]; exact q)
theorem op_and:OpR X (binaryOp .BitAnd) (rI0 fun i j=>.int (Builtin.bitAnd i j)):=opI0 fun _ _ _ _ _ _ _ q=>and_int q
theorem unI {f:Value -> Sem Value}{g:Int -> Int}
  (rule:∀ (i:Int) (t:Tok) (s:Shared) (Q:Value -> Shared -> Prop) (E:Value -> Shared -> Prop),Q (.int (g i) s.toks) { s with toks:=s.toks+1 } -> wpAny (model X.prog X.w) X.A (f (.int i t)) Q E s) :
  UnR X f (rU fun i=>.int (g i)):=by
 intro pins s σ H x v Q I rx h
 obtain ⟨i,rfl,q⟩:=h
 obtain ⟨t,rfl⟩:=rx
 exact rule i t s _ _ ⟨.int (g i),H,I.tok _,⟨_,rfl⟩,q⟩
theorem Jh:UnR X (unaryOp .USub) (rU fun i=>.int (-i)):=unI fun _ _ _ _ _ q=>neg_int q
end
def scal:V -> V -> Bool
 | .non,.non=>true | .non,.int _=>true | .int _,.non=>true | .non,.bl _=>true | .bl _,.non=>true | .non,.str _=>true | .str _,.non=>true
 | .int _,.int _=>true | .bl _,.bl _=>true | .str _,.str _=>true | .byt _,.byt _=>true
 | .int _,.str _=>true | .str _,.int _=>true | .bl _,.str _=>true | .str _,.bl _=>true
 | _,_=>false
def rEq:R2:=fun x y H Q=>scal x y=true /\ Q (.bl (decide (x=y))) H
def rNe:R2:=fun x y H Q=>scal x y=true /\ Q (.bl (!decide (x=y))) H
theorem dec_int {i j:Int}:decide (V.int i=V.int j)=(i == j):=by
 rw [Bool.eq_iff_iff]
 simp
theorem dec_bl {i j:Bool}:decide (V.bl i=V.bl j)=(i == j):=by
 rw [Bool.eq_iff_iff]
 simp
theorem dec_str {i j:Str}:decide (V.str i=V.str j)=(i == j):=by
 rw [Bool.eq_iff_iff]
 simp
theorem dec_byt {i j:Array UInt8}:decide (V.byt i=V.byt j)=(i.toList == j.toList):=by
 rw [Bool.eq_iff_iff]
 cases i
 cases j
 simp
section
variable {X:Cx}{a b c:Expr}{ta tb tc:TE}{pos:Pos}
theorem fin_bl {pins:List (Addr × Obj)}{σ:St}{H:Hp}{s:Shared}{Q:VK}{k k':Bool}(I:Inv X pins σ H s)(q:Q (.bl k) H)(e:k=k'):EP X pins σ Q (.bool k') s:=by
 subst e
 exact ⟨.bl k,H,I,rfl,q⟩
theorem xm:OpR X (compareOp .Eq) rEq:=by
 intro pins s σ H x y v u Q I rx ry h
 obtain ⟨hs,q⟩:=h
 cases x with
 | non =>
  cases rx
  cases y with
  | non=>cases ry; exact PySem.EqNone.eq_none_none (fin_bl I q (by simp))
  | bl j=>cases ry; exact PySem.EqNone.eq_none_bool (fin_bl I q (by simp))
  | int j=>obtain ⟨t',rfl⟩:=ry; exact PySem.EqNone.eq_none_int (fin_bl I q (by simp))
  | str j=>obtain ⟨t',rfl⟩:=ry; exact PySem.EqNone.eq_none_str (fin_bl I q (by simp))
  | _=>exact absurd (show false=true from hs) zc
 | bl i =>
  cases rx
  cases y with
  | non=>cases ry; exact PySem.EqNone.eq_bool_none (fin_bl I q (by simp))
  | bl j=>cases ry; exact eq_bool (fin_bl I q dec_bl)
  | str j=>obtain ⟨t',rfl⟩:=ry; exact PySem.EqMixed.eq_bool_str (fin_bl I q (by simp))
  | _=>exact absurd (show false=true from hs) zc
 | int i =>
  obtain ⟨t,rfl⟩:=rx
  cases y with
  | non=>cases ry; exact PySem.EqNone.eq_int_none (fin_bl I q (by simp))
  | int j=>obtain ⟨t',rfl⟩:=ry; exact eq_int (fin_bl I q dec_int)
  | str j=>obtain ⟨t',rfl⟩:=ry; exact PySem.EqMixed.eq_int_str (fin_bl I q (by simp))
  | _=>exact absurd (show false=true from hs) zc
 | str i =>
  obtain ⟨t,rfl⟩:=rx
  cases y with
  | non=>cases ry; exact PySem.EqNone.eq_str_none (fin_bl I q (by simp))
  | bl j=>cases ry; exact PySem.EqMixed.eq_str_bool (fin_bl I q (by simp))
  | int j=>obtain ⟨t',rfl⟩:=ry; exact PySem.EqMixed.eq_str_int (fin_bl I q (by simp))
  | str j=>obtain ⟨t',rfl⟩:=ry; exact eq_str (fin_bl I q dec_str)
  | _=>exact absurd (show false=true from hs) zc
 | byt i =>
  obtain ⟨t,rfl⟩:=rx
  cases y with
  | byt j=>obtain ⟨t',rfl⟩:=ry; exact PySem.W.eq_bytes (fin_bl I q dec_byt)
  | _=>exact absurd (show false=true from hs) zc
 | _=>cases y <;> exact absurd (show false=true from hs) zc
theorem zAN:OpR X (compareOp .NotEq) rNe:=by
 intro pins s σ H x y v u Q I rx ry h
 obtain ⟨hs,q⟩:=h
 cases x with
 | non =>
  cases rx
  cases y with
  | non=>cases ry; exact PySem.EqNone.ne_none_none (fin_bl I q (by simp))
  | bl j=>cases ry; exact PySem.EqNone.ne_none_bool (fin_bl I q (by simp))
  | int j=>obtain ⟨t',rfl⟩:=ry; exact PySem.EqNone.ne_none_int (fin_bl I q (by simp))
  | str j=>obtain ⟨t',rfl⟩:=ry; exact PySem.EqNone.ne_none_str (fin_bl I q (by simp))
  | _=>exact absurd (show false=true from hs) zc
 | bl i =>
  cases rx
  cases y with
  | non=>cases ry; exact PySem.EqNone.ne_bool_none (fin_bl I q (by simp))
  | bl j=>cases ry; exact ne_bool (fin_bl I q (congrArg not dec_bl))
  | str j=>obtain ⟨t',rfl⟩:=ry; exact PySem.EqMixed.ne_bool_str (fin_bl I q (by simp))
  | _=>exact absurd (show false=true from hs) zc
 | int i =>
  obtain ⟨t,rfl⟩:=rx
  cases y with
  | non=>cases ry; exact PySem.EqNone.ne_int_none (fin_bl I q (by simp))
  | int j=>obtain ⟨t',rfl⟩:=ry; exact ne_int (fin_bl I q (congrArg not dec_int))
  | str j=>obtain ⟨t',rfl⟩:=ry; exact PySem.EqMixed.ne_int_str (fin_bl I q (by simp))
  | _=>exact absurd (show false=true from hs) zc
 | str i =>
  obtain ⟨t,rfl⟩:=rx
  cases y with
  | non=>cases ry; exact PySem.EqNone.ne_str_none (fin_bl I q (by simp))
  | bl j=>cases ry; exact PySem.EqMixed.ne_str_bool (fin_bl I q (by simp))
  | int j=>obtain ⟨t',rfl⟩:=ry; exact PySem.EqMixed.ne_str_int (fin_bl I q (by simp))
  | str j=>obtain ⟨t',rfl⟩:=ry; exact ne_str (fin_bl I q (congrArg not dec_str))
  | _=>exact absurd (show false=true from hs) zc
 | byt i =>
  obtain ⟨t,rfl⟩:=rx
  cases y with
  | byt j=>obtain ⟨t',rfl⟩:=ry; exact PySem.W.ne_bytes (fin_bl I q (congrArg not dec_byt))
  | _=>exact absurd (show false=true from hs) zc
 | _=>cases y <;> exact absurd (show false=true from hs) zc
theorem op_lt:OpR X (compareOp .Lt) (rI0 fun i j=>.bl (decide (i < j))):=opB0 fun _ _ _ _ _ _ _ q=>lt_int q
theorem op_le:OpR X (compareOp .LtE) (rI0 fun i j=>.bl (decide (i <= j))):=opB0 fun _ _ _ _ _ _ _ q=>le_int q
theorem op_gt:OpR X (compareOp .Gt) (rI0 fun i j=>.bl (decide (j < i))):=opB0 fun _ _ _ _ _ _ _ q=>gt_int q
theorem op_ge:OpR X (compareOp .GtE) (rI0 fun i j=>.bl (decide (j <= i))):=opB0 fun _ _ _ _ _ _ _ q=>ge_int q
theorem yA (b:Expr){op:CmpOp}(h:op ≠ .In:=by decide)(h2:op ≠ .NotIn:=by decide):behindInMarks op b=false:=by
 have e1:(op == CmpOp.In)=false:=by cases op <;> first | rfl | exact absurd rfl h
 have e2:(op == CmpOp.NotIn)=false:=by cases op <;> first | rfl | exact absurd rfl h2
 cases b <;> simp [behindInMarks,e1,e2]
theorem ju {op:CmpOp}{r:R2}(ho:OpR X (compareOp op) r)(ha:PE X a ta)(hb:PE X b tb)(hm:behindInMarks op b=false):PE X (.Compare a [op] [b] pos) (tOp r ta tb):=by
 intro pins s σ H Q I h
 exact wpAny_Compare1 (binT ha hb I h fun v u s2 x y H2 I2 rx ry q=>ho pins s2 σ H2 x y v u Q I2 rx ry q) hm
def tTest (t:TE):TT:=fun σ H Q=>t σ H fun x H'=>∃ k,x = .bl k /\ Q k H'
theorem zn {op:CmpOp}{r:R2}(ho:OpR X (compareOp op) r)(ha:PE X a ta)(hb:PE X b tb)(hm:behindInMarks op b=false):PT X (.Compare a [op] [b] pos) (tTest (tOp r ta tb)):=by
 intro pins s σ H Q I h
 refine wpAny_isTrue_Compare1 (thn (ha pins s σ H _ I h) fun v s1 ⟨x,H1,I1,r1,q1⟩=>thn (hb pins s1 σ H1 _ I1 q1) fun u s2 ⟨y,H2,I2,r2,q2⟩ =>
  thn (ho pins s2 σ H2 x y v u _ I2 r1 r2 q2) fun c s3 ⟨z,H3,I3,r3,k,e,q3⟩=>?_) hm
 subst e
 cases r3
 exact wpAny_truthy_bool ⟨H3,I3,q3⟩
def tChain (r r':R2)(ta tb tc:TE):TE:=fun σ H Q=>ta σ H fun x H1=>tb σ H1 fun y H2=>r x y H2 fun z H3=>∃ k,z = .bl k /\
 (if k=true then tc σ H3 fun w' H4=>r' y w' H4 Q else Q (.bl false) H3)
theorem pe_chain {op op':CmpOp}{r r':R2}(ho:OpR X (compareOp op) r)(ho':OpR X (compareOp op') r')(ha:PE X a ta)(hb:PE X b tb)(hc:PE X c tc)
  (hm:lastMarks [op,op'] [b,c]=false:=by with_unfolding_all rfl):PE X (.Compare a [op,op'] [b,c] pos) (tChain r r' ta tb tc):=by
 intro pins s σ H Q I h
 refine Compare_chain (thn (ha pins s σ H _ I h) fun v s1 ⟨x,H1,I1,r1,q1⟩=>chain_link (thn (hb pins s1 σ H1 _ I1 q1) fun u s2 ⟨y,H2,I2,r2,q2⟩ =>
  thn (ho pins s2 σ H2 x y v u _ I2 r1 r2 q2) fun d s3 ⟨z,H3,I3,r3,k,e,q3⟩=>?_)) hm
 subst e
 cases r3
 refine wpAny_truthy_bool ?_
 cases k with
 | false=>exact ite_ff ⟨.bl false,H3,I3,rfl,q3⟩
 | true=>exact ite_tt (chain_last (thn (hc pins s3 σ H3 _ I3 q3) fun w' s4 ⟨z',H4,I4,r4,q4⟩=>ho' pins s4 σ H4 y z' u w' Q I4 r2 r4 q4))
theorem line63:(sizeLine:Nat) < 2 ^ 63:=by rw [sizeLine_eq]; decide
theorem vals1 {x:V}{us:List Value}(r:Vals [x] us):∃ u,us=[u] /\ RelV x u:=by
 cases r with
 | cons r1 r2=>cases r2; exact ⟨_,rfl,r1⟩
theorem vals2 {x y:V}{us:List Value}(r:Vals [x,y] us):∃ u w',us=[u,w'] /\ RelV x u /\ RelV y w':=by
 cases r with
 | cons r1 r2 =>
  cases r2 with
  | cons r3 r4=>cases r4; exact ⟨_,_,rfl,r1,r3⟩
theorem zAQ:CallR X (.builtin "abs") (fun xs H Q=>∃ i,xs=[.int i] /\ Q (.int (if i < 0 then -i else i)) H):=by
 intro pins s σ H xs us Q I r h
 obtain ⟨i,rfl,q⟩:=h
 obtain ⟨u,rfl,t,rfl⟩:=vals1 r
 exact call_abs_int fun u tk=>⟨.int (if i < 0 then -i else i),H,I.tok _,⟨_,rfl⟩,q⟩
theorem call_max2 (hc:X.calm=true):CallR X (.builtin "max") (fun xs H Q=>∃ i j,xs=[.int i,.int j] /\ Q (.int (if j > i then j else i)) H):=by
 intro pins s σ H xs us Q I r h
 obtain ⟨i,j,rfl,q⟩:=h
 obtain ⟨u,w',rfl,⟨t,rfl⟩,⟨t',rfl⟩⟩:=vals2 r
 refine max_two_ints (I.ok.hd hc) fun h' tk k=>⟨_,H,I.kept k,?_,q⟩
 by_cases hj:j > i
 ·rw [if_pos hj,if_pos hj]; exact ⟨_,rfl⟩
 ·rw [if_neg hj,if_neg hj]; exact ⟨_,rfl⟩
theorem call_min2 (hc:X.calm=true):CallR X (.builtin "min") (fun xs H Q=>∃ i j,xs=[.int i,.int j] /\ Q (.int (if j < i then j else i)) H):=by
 intro pins s σ H xs us Q I r h
 obtain ⟨i,j,rfl,q⟩:=h
 obtain ⟨u,w',rfl,⟨t,rfl⟩,⟨t',rfl⟩⟩:=vals2 r
 refine min_two_ints (I.ok.hd hc) fun h' tk k=>⟨_,H,I.kept k,?_,q⟩
 by_cases hj:j < i
 ·rw [if_pos hj,if_pos hj]; exact ⟨_,rfl⟩
 ·rw [if_neg hj,if_neg hj]; exact ⟨_,rfl⟩
theorem call_int1:CallR X (.type "int") (fun xs H Q=>(∃ i,xs=[.int i] /\ Q (.int i) H) \/ ∃ k,xs=[.bl k] /\ Q (.int (if k then 1 else 0)) H):=by
 intro pins s σ H xs us Q I r h
 rcases h with ⟨i,rfl,q⟩ | ⟨k,rfl,q⟩
 ·obtain ⟨u,rfl,t,rfl⟩:=vals1 r
  exact call_int_int ⟨.int i,H,I,⟨_,rfl⟩,q⟩
 ·obtain ⟨u,rfl,r1⟩:=vals1 r
  cases r1
  exact call_int_bool ⟨.int (if k then 1 else 0),H,I.tok _,⟨_,rfl⟩,q⟩
end
end L2
namespace L2
open PySem PySem.Spec PyProof.Rows
structure ObjM (h:Heap) (x dx C:Addr) (mA:Str -> Option Value):Prop where
 obj:h.get? x=some (PySem.W.instObj C dx)
 ns:h.Ns1 dx mA
 ne:dx ≠ x
theorem lookIn_ns {h:Heap}{dx:Addr}{mA:Str -> Option Value}(n:h.Ns1 dx mA):∃ od,h.get? dx=some od /\ ∀ name,PySem.W.lookIn name od=some (mA name):=by
 obtain ⟨o,es,ep,ho,hd,hk,_,hm⟩:=n
 refine ⟨o,ho,fun name=>?_⟩
 have e:=hm name
 unfold nsFind findBy at e
 rw [← Array.find?_toList] at e
 unfold PySem.W.lookIn
 rw [hd]
 dsimp only
 split
 ·rename_i y q
  rw [q] at e
  exact congrArg some e
 ·rename_i q
  rw [q] at e
  have a:es.toList.any (·.refKey)=false:=by
   rw [List.any_eq_false]
   intro y hy
   obtain ⟨z,t,hkey⟩:=hk y (Array.mem_toList_iff.mp hy)
   simp [DictEntry.refKey,hkey]
  have a':¬ es.toList.any (·.refKey)=true:=by rw [a]; exact zc
  rw [if_neg a']
  exact congrArg some e
theorem ObjM.look {h:Heap}{x dx C:Addr}{mA:Str -> Option Value}(I:ObjM h x dx C mA):∃ od,PySem.W.InstAt h x (PySem.W.instObj C dx) C (some od) /\ ∀ name,PySem.W.lookIn name od=some (mA name) :=
 let ⟨od,ho,hl⟩:=lookIn_ns I.ns
 ⟨od,⟨I.obj,rfl,rfl,ho⟩,hl⟩
section
variable {prog:Program}{w:World}{A:Around}{E:Value -> Shared -> Prop}{s:Shared}{K:zA}{x dx C f:Addr}{mA:Str -> Option Value}{name:Str}{v:Value}
end
theorem RelO.some_of {v:V}{o:Option Value}(r:RelO (some v) o):∃ u,o=some u /\ RelV v u:=by
 cases o with
 | none=>exact (show False from r).elim
 | some u=>exact ⟨u,rfl,r⟩
section
variable {P:Program}{w:World}{H H':Hp}{h h':Heap}{a C dx:Addr}{fs fs':List (Str × V)}
theorem ins_get (hok:HOk P w H h)(e:H a=some (.ins C dx fs)):∃ mA,ObjM h a dx C mA /\ (∀ f,RelO (fs.lookup f) (mA f)) /\ PySem.Within mA (fs.map (·.1)) /\ fs.length <= 1000 /\ H dx=some (.own a):=by
 obtain ⟨d,z,ne,ob,mA,n,r,q⟩:=(show ObjOk P w H h a (.ins C dx fs) from hok a _ e)
 exact ⟨mA,⟨ob,n,ne⟩,r,q,z,d⟩
end
structure Cls (K:zA) (C:Addr):Prop where
 pg:PySem.W.plainGet K C Str.empty=true
 hd:PySem.W.hasDictIn K C=true
 po:PySem.W.plainOver K C=true
 sa:PySem.W.findIn K (.ref C) "__setattr__" = some (some (.builtin "object.__setattr__"))
theorem Cls.get {K:zA}{C:Addr}(c:Cls K C)(f:Str):PySem.W.plainGet K C f=true:=c.pg
section
variable {X:Cx}{pins:List (Addr × Obj)}{σ:St}{H:Hp}{s:Shared}{a C dx:Addr}{fs:List (Str × V)}{f:Str}{v:V}{A:Around}{E:Value -> Shared -> Prop}
end
section
variable {X:Cx}{o e value:Expr}{f:Str}{pos pos' tpos:Pos}{ta tv:TE}
end
section
variable {X:Cx}{pins:List (Addr × Obj)}{σ:St}{H:Hp}{s:Shared}{A:Around}{E:Value -> Shared -> Prop}{Q:Value -> Shared -> Prop}{c:Value}{b:Bool}
inductive TyOf (K:zA) (H:Hp):V -> Value -> Prop where
 | non:TyOf K H .non (.type "NoneType")
 | bl (x:Bool):TyOf K H (.bl x) (.type "bool")
 | int (i:Int):TyOf K H (.int i) (.type "int")
 | str (x:Str):TyOf K H (.str x) (.type "str")
 | flt (x:UInt64):TyOf K H (.flt x) (.type "float")
 | lst {a:Addr} {xs:List V} (e:H a=some (.lst xs)):TyOf K H (.ref a) (.type "list")
 | frz {a:Addr} {o:Obj} {xs:List V} (e:H a=some (.frz o (.lst xs))):TyOf K H (.ref a) (.type "list")
 | tup {a:Addr} {xs:List V} (e:H a=some (.tup xs)):TyOf K H (.ref a) (.type "tuple")
 | dK {a:Addr} {kvs:List (Key × V)} (e:H a=some (.dK kvs)):TyOf K H (.ref a) (.type "dict")
 | dT {a:Addr} {kvs:List (List Key × V)} (e:H a=some (.dT kvs)):TyOf K H (.ref a) (.type "dict")
 | ins {a C dx:Addr} {fs:List (Str × V)} (e:H a=some (.ins C dx fs)) (cl:Cls K C) (ha:PySem.W.findIn K (.ref C) "__class__" = some (some (.builtin "object.__class__")))
   (hn:PySem.W.specialIn K (.builtin "object.__class__") "__get__" = some (some (.builtin "getset_descriptor.__get__"))) (htk:PySem.W.takesIn K (.builtin "object.__class__")=some true)
   (hm:PySem.W.mroIn K C (.type "object")=some true):TyOf K H (.ref a) (.ref C)
theorem isinst_ok {x:V}{u t:Value}(I:Inv X pins σ H s)(rx:RelV x u)(ty:TyOf X.K H x t)(e:yw X.K t c=some b)(h:∀ tk,Q (.bool b) { s with toks:=tk }) :
  wpAny (model X.prog X.w) A (call (.builtin "isinstance") [u,c]) Q E s:=by
 cases ty with
 | non=>cases (show u=Value.none from rx); exact yx PySem.W.kitx_none I.kIn True.intro e (fun z=>nomatch z) h
 | bl y=>cases (show u=Value.bool y from rx); exact yx PySem.W.kitx_bool I.kIn True.intro e (fun z=>nomatch z) h
 | int i=>obtain ⟨t,q⟩:=(show ∃ t,u=Value.int i t from rx); cases q; exact yx PySem.W.kitx_int I.kIn True.intro e (fun z=>nomatch z) h
 | str y=>obtain ⟨t,q⟩:=(show ∃ t,u=Value.str y t from rx); cases q; exact yx PySem.W.kitx_str I.kIn True.intro e (fun z=>nomatch z) h
 | flt y=>obtain ⟨t,q⟩:=(show ∃ t,u=Value.float y t from rx); cases q; exact yx PySem.W.kitx_float I.kIn True.intro e (fun z=>nomatch z) h
 | @lst a xs ea =>
  cases (show u=Value.ref a from rx)
  obtain ⟨_,_,n,_,h1⟩:=(show ObjOk X.prog X.w H s.heap a (.lst xs) from I.hok a _ ea)
  exact yx PySem.W.kitx_list I.kIn ⟨_,h1,rfl⟩ e (fun z=>nomatch z) h
 | @frz a ob xs ea =>
  cases (show u=Value.ref a from rx)
  obtain ⟨_,_,_,n,_,h1⟩:=(show ObjOk X.prog X.w H s.heap a (.frz ob (.lst xs)) from I.hok a _ ea)
  exact yx PySem.W.kitx_list I.kIn ⟨_,h1,rfl⟩ e (fun z=>nomatch z) h
 | @tup a xs ea =>
  cases (show u=Value.ref a from rx)
  obtain ⟨_,_,_,p⟩:=(show ObjOk X.prog X.w H s.heap a (.tup xs) from I.hok a _ ea)
  obtain ⟨o,h1,h2,_⟩:=p
  exact yx PySem.W.kitx_tuple I.kIn ⟨o,h1,h2⟩ e (fun z=>nomatch z) h
 | @dK a kvs ea =>
  cases (show u=Value.ref a from rx)
  obtain ⟨_,_,vs,_,p⟩:=(show ObjOk X.prog X.w H s.heap a (.dK kvs) from I.hok a _ ea)
  obtain ⟨o,es,ep,h1,h2,_⟩:=p
  exact yx PySem.W.kitx_dict I.kIn ⟨o,h1,h2.1⟩ e (fun z=>nomatch z) h
 | @dT a kvs ea =>
  cases (show u=Value.ref a from rx)
  obtain ⟨_,_,xs,_,o,es,ep,h1,h2,_⟩:=(show ObjOk X.prog X.w H s.heap a (.dT kvs) from I.hok a _ ea)
  exact yx PySem.W.kitx_dict I.kIn ⟨o,h1,h2.1⟩ e (fun z=>nomatch z) h
 | @ins a C dx fs ea cl ha hn htk hm =>
  cases (show u=Value.ref a from rx)
  obtain ⟨mA,O,_⟩:=ins_get I.hok ea
  obtain ⟨od,J,_⟩:=O.look
  exact yx (PySem.W.kitx_own (cl.get _) cl.hd ha hn htk hm) I.kIn J e (fun z=>nomatch z) h
end
end L2
namespace L2
open PySem PySem.Spec PyProof.Rows
structure Room (k:Nat) (A:Around):Prop where
 hd:A.handled=none
 dp:A.depth+3 * k+5 < recursionLimit
 un:A.units+16 * k+200 < cLine
theorem Room.mono {j k:Nat}{A:Around}(r:Room k A)(h:j <= k):Room j A:=⟨r.hd,by have:=r.dp; omega,by have:=r.un; omega⟩
theorem Room.deeper {k:Nat}{A:Around}(r:Room (k+1) A)(env:Env):Room k (A.deeper env) :=
 ⟨r.hd,by have:=r.dp; show A.depth+1+3 * k+5 < _; omega,by have:=r.un; show A.units+3+16 * k+200 < _; omega⟩
theorem Room.depth {k:Nat}{A:Around}(r:Room k A):A.depth < recursionLimit:=by have:=r.dp; omega
theorem Room.units {k:Nat}{A:Around}(r:Room k A):A.units+64 < cLine:=by have:=r.un; omega
def tNil:TA:=fun _ H Q=>Q [] H
def tCons (ta:TE)(tr:TA):TA:=fun σ H Q=>ta σ H fun x H1=>tr σ H1 fun xs H2=>Q (x :: xs) H2
section
variable {X:Cx}{e:Expr}{es:List Expr}{te:TE}{t:TA}{pos:Pos}
theorem zD:PA X [] tNil:=fun _ _ _ _ H Q I h=>Calls.spliced_nil ⟨[],H,I,.nil,h⟩
theorem zB (ha:PE X e te)(hr:PA X es t)(hs:starEach (e :: es) X.env=(false,eval e X.env) :: starEach es X.env:=by rfl):PA X (e :: es) (tCons te t):=by
 intro pos pins s σ H Q I h
 rw [hs]
 show wpAny _ _ (spliced ((false,eval e X.env) :: backTo pos (starEach es X.env))) _ _ s
 refine Calls.spliced_cons (thn (ha pins s σ H _ I h) fun u s1 ⟨x,H1,I1,r1,q1⟩=>?_)
 exact thn (hr pos pins s1 σ H1 _ I1 q1) fun us s2 ⟨xs,H2,I2,r2,q2⟩=>⟨x :: xs,H2,I2,.cons r1 r2,q2⟩
def tTup (t:TA):TE:=fun σ H Q=>t σ H fun xs H1=>xs.length <= sizeLine /\ ∀ p,H1 p=none -> Q (.ref p) (upd H1 p (.tup xs))
def tLst (t:TA):TE:=fun σ H Q=>t σ H fun xs H1=>xs.length <= sizeLine /\ ∀ p,H1 p=none -> Q (.ref p) (upd H1 p (.lst xs))
theorem yV {x1}(h:PA X es t):PE X (.Tuple es x1 pos) (tTup t):=by
 intro pins s σ H Q I hq
 refine wpAny_Tuple_spliced (thn (h pos pins s σ H _ I hq) fun us s1 ⟨xs,H1,I1,r,z,q⟩=>⟨by rw [← r.length]; exact z,?_⟩)
 have hf:H1 s1.heap.objs.size=none:=I1.hok.fresh (zE _)
 refine ⟨.ref s1.heap.objs.size,upd H1 s1.heap.objs.size (.tup xs),I1.laid (t':=s1.toks) (fun b u e=>Heap.get?_push_of_some _ e) (zE _) ?_,rfl,q _ hf⟩
 exact ⟨z,us,r,⟨_,Heap.get?_push_size _ rfl,rfl,_,rfl⟩⟩
theorem xp (h:PA X es t):PE X (.List es pos) (tLst t):=by
 intro pins s σ H Q I hq
 refine wpAny_List_spliced (thn (h pos pins s σ H _ I hq) fun us s1 ⟨xs,H1,I1,r,z,q⟩=>⟨by rw [← r.length]; exact z,?_⟩)
 have hf:H1 s1.heap.objs.size=none:=I1.hok.fresh (zE _)
 refine ⟨.ref s1.heap.objs.size,upd H1 s1.heap.objs.size (.lst xs),I1.laid (t':=s1.toks) (fun b u e=>Heap.get?_push_of_some _ e) (zE _) ?_,rfl,q _ hf⟩
 exact ⟨z,us,0,r,Heap.get?_push_size _ rfl⟩
end
abbrev Sp:=List V -> Hp -> VK -> XK -> Prop
abbrev CXT:=List Env -> Hp -> Shared -> XK -> Value -> Shared -> Prop
structure Env0 (P:Program) (w:World) (K:zA) (mg:Str -> Option Value) (base:Heap) (A:Around) (outer:List Env) (s:Shared) (H:Hp):Prop where
 frames:A.frames=some outer
 mod:Mod K mg base
 bs:∀ b o,base.get? b=some o -> s.heap.get? b=some o /\ H b=none
 bsz:base.objs.size <= s.heap.objs.size
 funs:s.heap.FunFrames base outer
 frf:∀ b ∈ frs outer,H b=none
 hok:HOk P w H s.heap
 bare:AllBare s.gens
def CE (outer:List Env)(P:Program)(w:World)(H:Hp)(s:Shared)(Q:VK)(u:Value)(s':Shared):Prop :=
 ∃ v H',s'.os=s.os /\ AllBare s'.gens /\ Un (frs outer) [] H H' s.heap s'.heap /\ HOk P w H' s'.heap /\ RelV v u /\ Q v H'
def CR (CX:CXT)(outer:List Env)(P:Program)(w:World)(H:Hp)(s:Shared)(Q:VK)(E:XK)(r:Result)(s':Shared):Prop :=
 match r with
 | .ok (.ret u)=>CE outer P w H s Q u s'
 | .ok _=>False
 | .error e=>CX outer H s E e s'
structure FnOk (P:Program) (w:World) (K:zA) (mg:Str -> Option Value) (base:Heap) (CX:CXT) (k:Nat) (f:Addr) (fd:FuncData) (ps:List Str) (sp:Sp):Prop where
 len:∀ vs H Q E,sp vs H Q E -> vs.length=ps.length
 run:∀ (A:Around) (outer:List Env) (s:Shared) (H:Hp) (args:Args) (us:List Value) (vs:List V) (Q:VK) (E:XK),Room k A -> Env0 P w K mg base A outer s H -> BindsTo s fd args (ps.zip us) -> Vals vs us -> sp vs H Q E ->
  codeAny (model P w) A (.call (.ref f) args) (CR CX outer P w H s Q E) s
theorem FnOk.mono {P:Program}{w:World}{K:zA}{mg:Str -> Option Value}{base:Heap}{CX:CXT}{j k:Nat}{f:Addr}{fd:FuncData}{ps:List Str}{sp:Sp}(F:FnOk P w K mg base CX j f fd ps sp)(h:j <= k) :
  FnOk P w K mg base CX k f fd ps sp:=⟨F.len,fun A outer s H args us vs Q E hr=>F.run A outer s H args us vs Q E (hr.mono h)⟩
theorem FnOk.imp {P:Program}{w:World}{K:zA}{mg:Str -> Option Value}{base:Heap}{CX:CXT}{k:Nat}{f:Addr}{fd:FuncData}{ps:List Str}{sp sp':Sp}(F:FnOk P w K mg base CX k f fd ps sp)
  (h:∀ vs H Q E,sp' vs H Q E -> sp vs H Q E):FnOk P w K mg base CX k f fd ps sp' :=
 ⟨fun vs H Q E q=>F.len vs H Q E (h _ _ _ _ q),fun A outer s H args us vs Q E hr he hb hv hs=>F.run A outer s H args us vs Q E hr he hb hv (h _ _ _ _ hs)⟩
section
variable {X:Cx}{pins:List (Addr × Obj)}{σ:St}{H:Hp}{s s':Shared}
theorem Inv.env0 (I:Inv X pins σ H s):Env0 X.prog X.w X.K X.mg X.base X.A X.stack s H :=
 ⟨I.ok.frames,I.ok.mod,I.bs,zZ I.ok.bsz I.sz,I.stack,I.stkFree,I.hok,I.bare⟩
theorem Inv.after {Q:VK}{u:Value}(I:Inv X pins σ H s)(h:CE X.stack X.prog X.w H s Q u s'):EP X pins σ Q u s':=by
 obtain ⟨v,H',os,bare,un,hok,r,q⟩:=h
 obtain ⟨hh,g,d,t,os'⟩:=s'
 obtain rfl:os'=s.os:=os
 exact ⟨v,H',I.call (h':=hh) (g':=g) (d':=d) (t':=t) (ch:=[]) un hok bare (fun b z=>absurd z (by simp)),r,q⟩
end
def tCall (sp:Sp)(dvs:List V)(E:XK)(t:TA):TE:=fun σ H Q=>t σ H fun vs H1=>sp (vs ++ dvs) H1 Q E
def Binds (K:zA)(fd:FuncData)(ps:List Str)(ds:List Value):Prop :=
 ∀ (s:Shared) (us:List Value),K.In s.heap -> (us ++ ds).length=ps.length -> BindsTo s fd ⟨us,[]⟩ (ps.zip (us ++ ds))
theorem Binds.all {K:zA}{fd:FuncData}{ps:List Str}(h:∀ us:List Value,us.length=ps.length -> bindArgs fd ⟨us,[]⟩=pure (ps.zip us)):Binds K fd ps []:=fun s us _ hl=>by
 rw [zp] at hl ⊢
 exact .of_eq (h us hl)
def Passes (CX:CXT)(X:Cx)(E:XK):Prop:=∀ (pins:List (Addr × Obj)) (σ:St) (H:Hp) (s:Shared) (e:Value) (s':Shared),Inv X pins σ H s -> CX X.stack H s E e s' -> X.xe e s'
section
variable {X:Cx}{CX:CXT}{k:Nat}{f C:Addr}{fd:FuncData}{ps:List Str}{sp:Sp}{dvs:List V}{ds:List Value}{E:XK}{x m:Str}{p pos apos:Pos}{e o:Expr}{es:List Expr}{ta:TE}{t:TA}
theorem run_fn {pins:List (Addr × Obj)}{σ:St}{H:Hp}{s:Shared}{Q:VK}{us:List Value}{vs:List V}(F:FnOk X.prog X.w X.K X.mg X.base CX k f fd ps sp)(hr:Room k X.A)(hb:Binds X.K fd ps ds)(hd:Vals dvs ds)(hx:Passes CX X E)
  (I:Inv X pins σ H s) (r:Vals vs us) (h:sp (vs ++ dvs) H Q E):wpAny (model X.prog X.w) X.A (call (.ref f) us) (EP X pins σ Q) X.xe s:=by
 have r2:Vals (vs ++ dvs) (us ++ ds):=r.append hd
 have hl:(us ++ ds).length=ps.length:=by rw [← r2.length]; exact F.len _ _ _ _ h
 refine wpAny_call (codeAny_mono (F.run X.A X.stack s H ⟨us,[]⟩ (us ++ ds) (vs ++ dvs) Q E hr I.env0 (hb s us I.kIn hl) r2 h) fun r s' hq=>?_)
 cases r with
 | error e=>exact hx pins σ H s e s' I hq
 | ok fl =>
  cases fl with
  | ret u=>exact I.after hq
  | next=>exact False.elim hq
  | brk=>exact False.elim hq
  | cont=>exact False.elim hq
theorem pe_call (F:FnOk X.prog X.w X.K X.mg X.base CX k f fd ps sp)(hr:Room k X.A)(hg:Gl X x)(hm:X.mg x=some (.ref f))(hk:zJ X.K (.ref f)=true)(hb:Binds X.K fd ps ds)(hd:Vals dvs ds)(hx:Passes CX X E)
  (ha:PA X (e :: es) t) (hdb:(x == ("__debug__" : Str))=false:=by decide) (he:starEach (e :: es) X.env=(false,eval e X.env) :: starEach es X.env:=by rfl) (hpl:(backTo pos (starEach es X.env)).any (·.1)=false:=by rfl) :
  PE X (.Call (.Name x p) (e :: es) [] pos) (tCall sp dvs E t):=by
 intro pins s σ H Q I h
 refine wpAny_Call_Name_kw (ld_glob I hg hm ?_ hdb)
 refine PySem.W.callWith_K (h₀:=X.base) I.ok.mod.kin hk (thn (ha pos pins s σ H _ I h) fun us s1 ⟨vs,H1,I1,r,q⟩=>⟨I1.kIn,?_⟩) he hpl
 exact run_fn F hr hb hd hx I1 r q
end
def PK (X:Cx)(kws:List Keyword)(t:TA):Prop :=
 ∀ (pos:Pos) (pins:List (Addr × Obj)) (s:Shared) (σ:St) (H:Hp) (Q:List V -> Hp -> Prop),Inv X pins σ H s -> t σ H Q -> wpAny (model X.prog X.w) X.A (evalAll ((backToKw pos (keywordEach kws X.env)).map (·.2))) (AP X pins σ Q) X.xe s
section
variable {X:Cx}{CX:CXT}{k:Nat}{f C:Addr}{fd:FuncData}{ps ks:List Str}{sp:Sp}{E:XK}{x m:Str}{p pos apos kpos:Pos}{e o:Expr}{es:List Expr}{kws:List Keyword}{te ta:TE}{t tk:TA}{nm:Option Str}
theorem pk_nil:PK X [] tNil:=fun _ _ _ _ H Q I h=>wpAny_evalAll_nil ⟨[],H,I,.nil,h⟩
theorem pk_cons (ha:PE X e te)(hr:PK X kws t):PK X (⟨nm,e,kpos⟩ :: kws) (tCons te t):=by
 intro pos pins s σ H Q I h
 show wpAny _ _ (evalAll ((do let v ← eval e X.env; standAt pos; pure v) :: (backToKw pos (keywordEach kws X.env)).map (·.2))) _ _ s
 refine wpAny_evalAll_cons (wpAny_bind (thn (ha pins s σ H _ I h) fun u s1 ⟨x,H1,I1,r1,q1⟩=>wpAny_bind (wpAny_standAt (wpAny_pure ?_))))
 exact thn (hr pos pins s1 σ H1 _ I1 q1) fun us s2 ⟨xs,H2,I2,r2,q2⟩=>⟨x :: xs,H2,I2,.cons r1 r2,q2⟩
variable {g:List Value -> List Value -> List Value}{gV:List V -> List V -> List V}
end
structure FnScope (N P:List Str) (sc:Scope):Prop where
 kind:sc.kind = .function
 co:sc.isCoroutine=false
 gen:sc.isGenerator=false
 nd:N.Nodup
 pre:N.take P.length=P
 par:∀ x ∈ P,sc.names.lookup x=some .local \/ sc.names.lookup x=some .cell
 nofree:∀ y ∈ sc.names,y.2 ≠ .free
theorem bindL_out {kindOf:Str -> Option NameKind}{x:Str}:∀ {binds:List (Str × Value)} {m:Str -> Option Value},(∀ v,(x,v) ∉ binds) -> bindL kindOf binds m x=m x
 | [],_,_=>rfl
 | (n,v) :: r,m,h=>by
  unfold bindL
  rw [bindL_out fun w hw=>h w (ze _ hw)]
  split
  ·have:x ≠ n:=by rintro rfl; exact h v zb
   simp [this]
  ·rfl
theorem bindC_out {kindOf:Str -> Option NameKind}{x:Str}:∀ {binds:List (Str × Value)} {m:Str -> Option Value},(∀ v,(x,v) ∉ binds) -> bindC kindOf binds m x=m x
 | [],_,_=>rfl
 | (n,v) :: r,m,h=>by
  unfold bindC
  rw [bindC_out fun w hw=>h w (ze _ hw)]
  split
  ·rfl
  ·have:x ≠ n:=by rintro rfl; exact h v zb
   simp [this]
theorem bindL_get {kindOf:Str -> Option NameKind}{x:Str}{v:Value}:∀ {P:List Str} {vs:List Value} {i:Nat} {m:Str -> Option Value},P.Nodup -> P[i]? = some x -> vs[i]? = some v -> kindOf x=some .local ->
  bindL kindOf (P.zip vs) m x=some v
 | [],_,_,_,_,h,_,_=>by simp at h
 | _ :: _,[],_,_,_,_,h,_=>by simp at h
 | p :: P,w :: vs,0,m,nd,h1,h2,hk=>by
  simp at h1 h2; subst h1; subst h2
  show bindL kindOf ((p,w) :: P.zip vs) m p=_
  unfold bindL
  rw [bindL_out fun v hv=>(List.nodup_cons.mp nd).1 (List.of_mem_zip hv).1,if_pos hk]
  simp
 | p :: P,w :: vs,i+1,m,nd,h1,h2,hk=>by
  show bindL kindOf ((p,w) :: P.zip vs) m x=_
  unfold bindL
  exact bindL_get (i:=i) (List.nodup_cons.mp nd).2 (by simpa using h1) (by simpa using h2) hk
theorem bindC_get {kindOf:Str -> Option NameKind}{x:Str}{v:Value}:∀ {P:List Str} {vs:List Value} {i:Nat} {m:Str -> Option Value},P.Nodup -> P[i]? = some x -> vs[i]? = some v -> kindOf x ≠ some .local ->
  bindC kindOf (P.zip vs) m x=some v
 | [],_,_,_,_,h,_,_=>by simp at h
 | _ :: _,[],_,_,_,_,h,_=>by simp at h
 | p :: P,w :: vs,0,m,nd,h1,h2,hk=>by
  simp at h1 h2; subst h1; subst h2
  show bindC kindOf ((p,w) :: P.zip vs) m p=_
  unfold bindC
  rw [bindC_out fun v hv=>(List.nodup_cons.mp nd).1 (List.of_mem_zip hv).1,if_neg hk]
  simp
 | p :: P,w :: vs,i+1,m,nd,h1,h2,hk=>by
  show bindC kindOf ((p,w) :: P.zip vs) m x=_
  unfold bindC
  exact bindC_get (i:=i) (List.nodup_cons.mp nd).2 (by simpa using h1) (by simpa using h2) hk
def yJ (N:List Str)(vs:List V):St:=vs.map some ++ qQ (N.length - vs.length) none
def cxOf (CX:CXT)(P:Program)(w:World)(K:zA)(mg:Str -> Option Value)(base:Heap)(N:List Str)(qual:Str)(scope:Scope)(f:Addr)(cd:Value)(A:Around)(outer:List Env)(s:Shared)(H:Hp)(E:XK):Cx where
 prog:=P
 w:=w
 K:=K
 mg:=mg
 base:=base
 A:=A.deeper (envOfC qual scope s.heap.objs.size f cd)
 N:=N
 s₀:=s
 H₀:=H
 env:=envOfC qual scope s.heap.objs.size f cd
 outer:=outer
 stack:=envOfC qual scope s.heap.objs.size f cd :: outer
 ex:=[]
 calm:=true
 fn:=fun _=>true
 pn:=[]
 xe:=fun e s'=>wpAny (model P w) (A.deeper (envOfC qual scope s.heap.objs.size f cd)) (leaving (envOfC qual scope s.heap.objs.size f cd) e) (fun _ s''=>CX outer H s E e s'') (fun e' s''=>CX outer H s E e' s'') s'
theorem cell_has {sc:Scope}{n:Nat}{x:Str}(h:sc.names.lookup x=some .cell):∃ c,(cellsFrom n sc.names []).lookup x=some c:=by
 have q:=PySem.W.cellsFrom_some sc.names n [] (.inl h)
 exact jL.mp q
theorem inv_start {CX:CXT}{P:Program}{w:World}{K:zA}{mg:Str -> Option Value}{base:Heap}{N ps:List Str}{qual:Str}{scope:Scope}{f:Addr}{cd:Value}{A:Around}{outer:List Env}{s s1:Shared}{H:Hp}{E:XK}{us:List Value}{vs:List V}
  (S:FnScope N ps scope) (hd:A.handled=none) (e0:Env0 P w K mg base A outer s H) (hl:vs.length=ps.length) (r:Vals vs us)
  (x:InCallC s s.heap.objs.size (bindL (envOfC qual scope s.heap.objs.size f cd).kindOf (ps.zip us) fun _=>none) (cellsFrom (s.heap.objs.size+1) scope.names []) (bindC (envOfC qual scope s.heap.objs.size f cd).kindOf (ps.zip us) fun _=>none) s1) :
  Inv (cxOf CX P w K mg base N qual scope f cd A outer s H E) [] (yJ N vs) H s1:=by
 have hpl:ps.length <= N.length:=by have:=congrArg List.length S.pre; rw [qO] at this; omega
 obtain ⟨h1,tk,rfl,hk⟩:=x.done
 have noA:∀ b:Addr,b ∉ (cxOf CX P w K mg base N qual scope f cd A outer s H E).ex:=fun b z=>absurd (show b ∈ ([]:List Addr) from z) (by simp)
 refine ⟨⟨e0.mod,S.kind,rfl,rfl,zE _,fun y z c h1 h2=>?_,fun y hy=>?_,fun y c _ h=>?_,fun _=>hd,Around.frames_deeper e0.frames,.inr ⟨rfl,rfl⟩,fun b z=>absurd z (noA b),e0.bs,e0.bsz,fun b _ _=>noA b,fun b z=>absurd z (noA b),e0.funs,e0.frf⟩,
  rfl,e0.bare,Un.kept hk,⟨_,x.toInCall.ns,fun i y v h1 h2 h3=>?_⟩,fun y c h=>⟨_,x.cell y c h⟩,e0.hok.fresh (zE _),fun y c h=>?_,fun p hp=>absurd (show p ∈ ([]:List (Addr × Obj)) from hp) (by simp),e0.hok.kept hk,?_⟩
 ·exact name_of_addr x.apart (PySem.mem_of_lookup h1) (PySem.mem_of_lookup h2)
 ·have hy:scope.names.lookup y=some .cell \/ scope.names.lookup y=some .free:=hy
  rcases hy with hy | hy
  ·exact cell_has hy
  ·exact absurd rfl (S.nofree _ (PySem.mem_of_lookup hy))
 ·exact Nat.le_of_lt (x.above y c (PySem.mem_of_lookup h))
 ·have hi:i < vs.length:=by
   unfold yJ at h2
   by_cases hi:i < vs.length
   ·exact hi
   ·rw [qG (by simpa using hi)] at h2
    rw [je] at h2
    split at h2 <;> cases h2
  have ha:vs[i]? = some v:=by
   unfold yJ at h2
   rw [qH (by simpa using hi),qI] at h2
   cases e:vs[i]? with
   | none=>rw [e] at h2; cases h2
   | some a=>rw [e] at h2; cases h2; rfl
  obtain ⟨u,hu,rv⟩:=r.get ha
  have hp:ps[i]? = some y:=by
   rw [← S.pre,List.getElem?_take_of_lt (by omega)]; exact h1
  have ndP:ps.Nodup:=by rw [← S.pre]; exact S.nd.sublist (List.take_sublist _ _)
  refine ⟨u,rv,?_⟩
  rcases S.par y (qE hp) with k | k
  ·exact .inl ⟨k,bindL_get ndP hp hu k⟩
  ·obtain ⟨c,e⟩:=cell_has (n:=s.heap.objs.size+1) k
   refine .inr ⟨.inl k,c,e,?_⟩
   have q:=x.cell y c e
   rw [bindC_get ndP hp hu (by show scope.names.lookup y ≠ _; rw [k]; decide)] at q
   exact q
 ·exact e0.hok.fresh (Nat.le_of_lt (x.above y c (PySem.mem_of_lookup h)))
 ·unfold yJ
  show _=N.length
  rw [qF,qC,qL]
  omega
theorem fn_of {CX:CXT}{P:Program}{w:World}{K:zA}{mg:Str -> Option Value}{base:Heap}{k:Nat}{f:Addr}{name qual:Str}{params:Arguments}{body:List Stmt}{scope:Scope}{dV kV doc pm cdv ct oc:Value}{an od:Option Addr}
  {osl:Array (Option Value)} {N ps:List Str} {sp:Sp} (lk:K.lookup f=some ⟨oc,od,.func (zN name qual params body scope dV kV doc pm an cdv ct),osl⟩) (hcd:zK K cdv qual=true) (S:FnScope N ps scope)
  (len:∀ vs H Q E,sp vs H Q E -> vs.length=ps.length)
  (hbody:∀ (A:Around) (outer:List Env) (s:Shared) (H:Hp) (vs:List V) (Q:VK) (E:XK),Room k (A.deeper (envOfC qual scope s.heap.objs.size f cdv)) -> sp vs H Q E ->
   ∃ t,PSs (cxOf CX P w K mg base N qual scope f cdv A outer s H E) body t /\ t { nx:=fun _ H'=>Q .non H',rt:=Q } (yJ N vs) H) :
  FnOk P w K mg base CX (k+1) f (zN name qual params body scope dV kV doc pm an cdv ct) ps sp:=by
 refine ⟨len,fun A outer s H args us vs Q E hr e0 hb r hsp=>?_⟩
 have hl:=len _ _ _ _ hsp
 have KX:K.In s.heap:=e0.mod.kin.keeps fun b o e=>(e0.bs b o e).1
 have lim:s.heap.NoLimit:=e0.mod.nolimit.keeps fun b o e=>(e0.bs b o e).1
 have hkind:∀ y ∈ ps.zip us,scope.names.lookup y.1=some .local \/ (scope.names.lookup y.1=some .cell /\ ((cellsFrom (s.heap.objs.size+1) scope.names []).lookup y.1).isSome=true):=fun ⟨n,v⟩ hy=>by
  rcases S.par n (List.of_mem_zip hy).1 with q | q
  ·exact .inl q
  ·exact .inr ⟨q,PySem.W.cellsFrom_some _ _ _ (.inl q)⟩
 refine codeAny_call_function hr.depth (KX _ _ lk) rfl S.co S.gen rfl (PySem.W.codeRec_of KX hcd) (hb _ _ _ _ ?_)
 refine wpAny_newFunctionEnv_cells S.kind hkind fun env he s1 x=>?_
 subst he
 refine ⟨lim.keeps x.toInCall.keep,codeAny_func ?_⟩
 obtain ⟨t,ht,hq⟩:=hbody A outer s H vs Q E (hr.deeper _) hsp
 have I:Inv (cxOf CX P w K mg base N qual scope f cdv A outer s H E) [] (yJ N vs) H s1:=inv_start S hr.hd e0 hl r x
 refine wpAny_mono (ht [] s1 (yJ N vs) H _ I hq) (fun fl s' hs=>?_) fun e s' hs=>hs
 have fin:∀ {σ':St} {H':Hp} {v:V} {u:Value},Inv (cxOf CX P w K mg base N qual scope f cdv A outer s H E) [] σ' H' s' -> RelV v u -> Q v H' -> CE outer P w H s Q u s' :=
  fun {σ' H' v u} J rv q=>⟨v,H',J.os,J.bare,J.base,J.hok,rv,q⟩
 cases fl with
 | ret u =>
  obtain ⟨v,σ',H',J,rv,q⟩:=hs
  exact fin J rv q
 | next =>
  obtain ⟨σ',H',J,q⟩:=hs
  exact fin (v:=V.non) (u:=Value.none) J rfl q
 | brk =>
  obtain ⟨_,_,_,q⟩:=hs
  exact False.elim q
 | cont =>
  obtain ⟨_,_,_,q⟩:=hs
  exact False.elim q
end L2
namespace L2
open PySem PySem.Spec PyProof.Rows
section
variable {X:Cx}{x:Str}{p pos:Pos}{e:Expr}{es:List Expr}{t:TA}{id T:String}{r:List V -> Hp -> VK -> Prop}
def tCB (r:List V -> Hp -> VK -> Prop)(t:TA):TE:=fun σ H Q=>t σ H fun vs H1=>r vs H1 Q
theorem zw (hc:CallR X (.builtin id) r) (hg:Gl X x) (hm:X.mg x=none) (hv:bootBuiltins x=some (.builtin id)) (ha:PA X (e :: es) t) (hn:x ≠ "__name__":=by decide) (hdb:(x == ("__debug__" : Str))=false:=by decide)
  (he:starEach (e :: es) X.env=(false,eval e X.env) :: starEach es X.env:=by rfl) (hpl:(backTo pos (starEach es X.env)).any (·.1)=false:=by rfl):PE X (.Call (.Name x p) (e :: es) [] pos) (tCB r t):=by
 intro pins s σ H Q I h
 refine wpAny_Call_Name_kw (JT I hg hm hv ?_ hn hdb)
 exact PyProof.Rows.callWith_builtin1 (thn (ha pos pins s σ H _ I h) fun us s1 ⟨vs,H1,I1,r1,q1⟩=>hc pins s1 σ H1 vs us Q I1 r1 q1) he hpl
theorem xc (hc:CallR X (.type T) r) (hg:Gl X x) (hm:X.mg x=none) (hv:bootBuiltins x=some (.type T)) (ha:PA X (e :: es) t) (hn:x ≠ "__name__":=by decide) (hdb:(x == ("__debug__" : Str))=false:=by decide)
  (he:starEach (e :: es) X.env=(false,eval e X.env) :: starEach es X.env:=by rfl) (hpl:(backTo pos (starEach es X.env)).any (·.1)=false:=by rfl):PE X (.Call (.Name x p) (e :: es) [] pos) (tCB r t):=by
 intro pins s σ H Q I h
 refine wpAny_Call_Name_kw (JT I hg hm hv ?_ hn hdb)
 exact PyProof.Rows.callWith_type1 (thn (ha pos pins s σ H _ I h) fun us s1 ⟨vs,H1,I1,r1,q1⟩=>hc pins s1 σ H1 vs us Q I1 r1 q1) he hpl
end
end L2
namespace HT
open PySem PyProof.Rows
section
open PySem.SeqAt
open PySem.AutoSeq1 (wpAny_loadPart')
open PySem.MeetsSeq PySem.MeetsSeq2 PySem.MeetsSeq3
end
section
variable {prog:Program}{w:World}{A:Around}{E:Value -> Shared -> Prop}{s:Shared}
def sIx (n d:Nat):Option Int -> Nat
 | none=>d
 | some v=>if v < 0 then (v+(n:Int)).toNat else min v.toNat n
theorem sIx_none (n d:Nat):sIx n d none=d:=rfl
end
end HT
namespace L2
open PySem PySem.Spec PyProof.Rows
abbrev TO:=St -> Hp -> (Option Int -> Hp -> Prop) -> Prop
def PO (X:Cx)(e:Option Expr)(t:TO):Prop :=
 ∀ (pins:List (Addr × Obj)) (s:Shared) (σ:St) (H:Hp) (Q:Option Int -> Hp -> Prop),Inv X pins σ H s -> t σ H Q ->
  wpAny (model X.prog X.w) X.A (evalPart e X.env) (fun u s'=>∃ o H',Inv X pins σ H' s' /\ IsPart u o /\ Q o H') X.xe s
def tNoPart:TO:=fun _ H Q=>Q none H
def tPart (t:TE):TO:=fun σ H Q=>t σ H fun x H1=>∃ i,x = .int i /\ Q (some i) H1
section
variable {X:Cx}{e:Expr}{te:TE}{lo hi:Option Expr}{tl th:TO}{pos p2:Pos}
theorem po_none:PO X none tNoPart:=by
 intro pins s σ H Q I h
 rw [evalPart_none]
 exact wpAny_pure ⟨none,H,I,.none,h⟩
theorem po_some (h:PE X e te):PO X (some e) (tPart te):=by
 intro pins s σ H Q I hw
 rw [evalPart_some]
 refine thn (h pins s σ H _ I hw) fun u s1 ⟨x,H1,I1,r1,q1⟩=>?_
 obtain ⟨i,rfl,q⟩:=q1
 obtain ⟨t,rfl⟩:=r1
 exact ⟨some i,H1,I1,.int i t,q⟩
def SlR (X:Cx)(r:V -> Option Int -> Option Int -> Hp -> VK -> Prop):Prop :=
 ∀ (pins:List (Addr × Obj)) (s:Shared) (σ:St) (H:Hp) (x:V) (v vl vu:Value) (lo hi:Option Int) (sl:Addr) (Q:VK),Inv X pins σ H s -> RelV x v -> s.heap.IsSliceOf sl vl vu .none -> IsPart vl lo -> IsPart vu hi -> r x lo hi H Q ->
  ∃ T id,typeLookup (.type T) "__getitem__" = pure (some (.builtin id)) /\ s.TypeIs v T /\ wpAny (model X.prog X.w) X.A (getItem v (.ref sl)) (EP X pins σ Q) X.xe s
def tSl (r:V -> Option Int -> Option Int -> Hp -> VK -> Prop)(te:TE)(tl th:TO):TE:=fun σ H Q=>te σ H fun x H1=>tl σ H1 fun l H2=>th σ H2 fun u H3=>r x l u H3 Q
theorem pe_slice {r:V -> Option Int -> Option Int -> Hp -> VK -> Prop}(hr:SlR X r)(he:PE X e te)(hl:PO X lo tl)(hu:PO X hi th):PE X (.Subscript e (.Slice lo hi none p2) pos) (tSl r te tl th):=by
 intro pins s σ H Q I h
 refine Subscript_ (thn (he pins s σ H _ I h) fun v s1 ⟨x,H1,I1,r1,q1⟩=>?_)
 refine wpAny_Slice (thn (hl pins s1 σ H1 _ I1 q1) fun vl s2 ⟨l,H2,I2,pl,q2⟩=>thn (hu pins s2 σ H2 _ I2 q2) fun vu s3 ⟨u,H3,I3,pu,q3⟩=>?_)
 rw [evalPart_none]
 refine wpAny_pure ?_
 have I4:Inv X pins σ H3 { s3 with heap:=s3.heap.push { cls:=.type "slice",data:=.fields #[vl,vu,.none] } }:=I3.kept (t':=s3.toks) fun b ob q=>Heap.get?_push_of_some _ q
 obtain ⟨T,id,hT,ht,hg⟩:=hr pins { s3 with heap:=s3.heap.push { cls:=.type "slice",data:=.fields #[vl,vu,.none] } } σ H3 x v vl vu l u s3.heap.objs.size Q I4 r1 (Heap.IsSliceOf.new ..) pl pu q3
 show wpAny (model X.prog X.w) X.A (subscriptTail e (.Slice lo hi none p2) v (.ref s3.heap.objs.size)) (EP X pins σ Q) X.xe { s3 with heap:=s3.heap.push { cls:=.type "slice",data:=.fields #[vl,vu,.none] } }
 exact tail_any (ops:=[.ref s3.heap.objs.size,v]) ht hT hg (by with_unfolding_all rfl)
def cutV (xs:List V)(lo hi:Option Int):List V:=(xs.drop (HT.sIx xs.length 0 lo)).take (HT.sIx xs.length xs.length hi - HT.sIx xs.length 0 lo)
theorem cutV_length (xs:List V)(lo hi:Option Int):(cutV xs lo hi).length <= xs.length:=by
 unfold cutV
 rw [qO,List.length_drop]
 omega
end
end L2
namespace L2
open PySem PySem.Spec PyProof.Rows
def ixN (n:Nat)(i:Int):Option Nat:=if 0 <= i then (if i < n then some i.toNat else none) else if -(n:Int) <= i then some (i+n).toNat else none
def atI {α:Type}(xs:List α)(i:Int):Option α:=(ixN xs.length i).bind fun j=>xs[j]?
theorem ixN_seq {n:Nat}{i:Int}{j:Nat}(h:ixN n i=some j):seqIndex? i n=some j /\ j < n /\ -(n:Int) <= i /\ i < n:=by
 unfold ixN at h
 by_cases h0:0 <= i
 ·rw [if_pos h0] at h
  by_cases h1:i < n
  ·rw [if_pos h1] at h
   have e:i.toNat=j:=Option.some.inj h
   exact ⟨by rw [seqIndex_of h0 h1,e],by omega,by omega,h1⟩
  ·rw [if_neg h1] at h; cases h
 ·rw [if_neg h0] at h
  by_cases h1:-(n:Int) <= i
  ·rw [if_pos h1] at h
   have e:(i+n).toNat=j:=Option.some.inj h
   exact ⟨by rw [seqIndex_neg (by omega) h1,e],by omega,h1,by omega⟩
  ·rw [if_neg h1] at h; cases h
theorem atI_get {α:Type}{xs:List α}{i:Int}{v:α}(h:atI xs i=some v):∃ j,seqIndex? i xs.length=some j /\ xs[j]? = some v /\ j < xs.length /\ -(xs.length:Int) <= i /\ i < xs.length:=by
 unfold atI at h
 cases e:ixN xs.length i with
 | none=>rw [e] at h; cases h
 | some j =>
  rw [e] at h
  obtain ⟨h1,h2,h3,h4⟩:=ixN_seq e
  exact ⟨j,h1,h,h2,h3,h4⟩
theorem yz {α:Type}{xs:List α}{j:Nat}{v:α}(h:xs[j]? = some v):atI xs (j:Int)=some v:=by
 have hj:j < xs.length:=(qB.mp h).1
 have e:ixN xs.length (j:Int)=some j:=by
  unfold ixN
  rw [if_pos (by omega),if_pos (by omega)]; simp
 unfold atI; rw [e]; exact h
theorem atI_last {α:Type}(xs:List α)(v:α):atI (xs ++ [v]) (-1)=some v:=by
 have hl:(xs ++ [v]).length=xs.length+1:=by simp
 have e:ixN (xs ++ [v]).length (-1)=some xs.length:=by
  unfold ixN
  rw [hl,if_neg (by decide),if_pos (by omega)]
  congr 1
  omega
 unfold atI
 rw [e]
 show (xs ++ [v])[xs.length]? = some v
 simp
def PlainIx (b:Expr):Prop:=∀ o i,subscripted b false o i=operate [o,i] (getItem o i)
def IxR (X:Cx)(r:R2):Prop :=
 ∀ (value slice:Expr) (pins:List (Addr × Obj)) (s:Shared) (σ:St) (H:Hp) (x y:V) (v u:Value) (Q:VK),Inv X pins σ H s -> RelV x v -> RelV y u -> r x y H Q ->
  subscripted slice false v u=operate [v,u] (getItem v u) -> wpAny (model X.prog X.w) X.A (subscriptTail value slice v u) (EP X pins σ Q) X.xe s
def MtR (X:Cx)(id:String)(r:V -> List V -> Hp -> VK -> Prop):Prop :=
 ∀ (pins:List (Addr × Obj)) (s:Shared) (σ:St) (H:Hp) (x:V) (xs:List V) (v:Value) (us:List Value) (Q:VK),Inv X pins σ H s -> RelV x v -> Vals xs us -> r x xs H Q ->
  wpAny (model X.prog X.w) X.A (call (.builtin id) (v :: us)) (EP X pins σ Q) X.xe s
section
variable {X:Cx}{a b:Expr}{ta tb:TE}{pos:Pos}
theorem zQ {r:R2}(hr:IxR X r)(ha:PE X a ta)(hb:PE X b tb)(hs:PlainIx b):PE X (.Subscript a b pos) (tOp r ta tb):=by
 intro pins s σ H Q I h
 exact Subscript_ (binT ha hb I h fun v u s2 x y H2 I2 rx ry q=>hr a b pins s2 σ H2 x y v u Q I2 rx ry q (hs _ _))
def rIxL (K:zA):R2:=fun x y H Q=>∃ p xs i v,x = .ref p /\ y = .int i /\ SqL K H p xs /\ atI xs i=some v /\ Q v H
def rIxT (K:zA):R2:=fun x y H Q=>∃ p xs i v,x = .ref p /\ y = .int i /\ SqT K H p xs /\ atI xs i=some v /\ Q v H
theorem ix_list:IxR X (rIxL X.K):=by
 intro value slice pins s σ H x y v u Q I rx ry h hs
 obtain ⟨p,xs,i,z,rfl,rfl,hq,he,q⟩:=h
 cases rx
 obtain ⟨t,rfl⟩:=ry
 obtain ⟨its,r,pl,hz⟩:=I.list hq
 obtain ⟨j,h1,h2,h3,h4,h5⟩:=atI_get he
 obtain ⟨w,ew,rw'⟩:=r.get h2
 have hl:=r.length
 have hn:=line63
 have fin:EP X pins σ Q w s:=⟨z,H,I,rw',q⟩
 by_cases h0:0 <= i
 ·have hj:i.toNat=j:=by
   rw [seqIndex_of h0 h5] at h1
   exact Option.some.inj h1
  exact item_listR pl.isList h0 (by omega) (by rw [hj]; simpa using ew) fin hs
 ·have hj:(i+(its.toArray.size:Int)).toNat=j:=by
   rw [seqIndex_neg (by omega) h4] at h1
   rw [qM,← hl]
   exact Option.some.inj h1
  exact subscriptTail_builtinR (x:=w) pl.isList.typeIs slot_list_getitem.lookup
   (wpAny_getItem_list_neg (Q:=fun r s'=>r=w /\ EP X pins σ Q r s') pl.isList (by omega) (by rw [qM] <;> omega) (by omega) (by rw [hj]; simpa using ew) ⟨rfl,fin⟩) hs
theorem ix_tup:IxR X (rIxT X.K):=by
 intro value slice pins s σ H x y v u Q I rx ry h hs
 obtain ⟨p,xs,i,z,rfl,rfl,hq,he,q⟩:=h
 cases rx
 obtain ⟨t,rfl⟩:=ry
 obtain ⟨its,r,pl,hz⟩:=I.tuple hq
 obtain ⟨j,h1,h2,h3,h4,h5⟩:=atI_get he
 obtain ⟨w,ew,rw'⟩:=r.get h2
 have hl:=r.length
 have hn:=line63
 have fin:EP X pins σ Q w s:=⟨z,H,I,rw',q⟩
 exact subscriptTail_builtinR (x:=w) pl.typeIs slot_tuple_getitem.lookup
  (getItem_tuple (j:=j) (Q:=fun r s'=>r=w /\ EP X pins σ Q r s') pl (by omega) (by omega) (by rw [qM,← hl]; exact h1) (by simpa using ew) ⟨rfl,fin⟩) hs
theorem mapSeq_set (its:List Value)(n j:Nat)(u:Value):Obj.mapSeq (·.setIfInBounds j u) { cls:=.type "list",data:=.seq its.toArray n } = { cls:=.type "list",data:=.seq (its.set j u).toArray n }:=by
 simp [Obj.mapSeq]
theorem Inv.lst {pins:List (Addr × Obj)}{σ:St}{H:Hp}{s:Shared}{p:Addr}{xs:List V}(I:Inv X pins σ H s)(h:H p=some (.lst xs)) :
  ∃ (its:List Value) (n:Nat),Vals xs its /\ s.heap.get? p=some { cls:=.type "list",data:=.seq its.toArray n } /\ xs.length <= sizeLine:=by
 obtain ⟨z,its,n,r,e⟩:=I.hok p _ h
 exact ⟨its,n,r,e,z⟩
theorem Inv.lstUpd {pins:List (Addr × Obj)}{σ:St}{H:Hp}{s:Shared}{p:Addr}{xs ys:List V}{its its':List Value}{n n':Nat}{f:Obj -> Obj}(I:Inv X pins σ H s)(h:H p=some (.lst xs))
  (ho:s.heap.get? p=some { cls:=.type "list",data:=.seq its.toArray n }) (hf:f { cls:=.type "list",data:=.seq its.toArray n } = { cls:=.type "list",data:=.seq its'.toArray n' }) (r:Vals ys its') (hz:ys.length <= sizeLine) (t:Nat) :
  Inv X pins σ (upd H p (.lst ys)) { s with heap:=s.heap.update p f,toks:=t }:=by
 have e:(s.heap.update p f).get? p=some { cls:=.type "list",data:=.seq its'.toArray n' }:=by
  rw [Heap.get?_update_self f ho (by rw [hf] <;> rfl),hf]
 refine I.write (x:=p) (e:=p) (by rw [h]; trivial) (.inl rfl) (fun b u hb q=>(Heap.get?_update_other _ _ (Ne.symm hb)).trans q) ⟨_,e⟩ ?_
 exact ⟨hz,its',n',r,e⟩
def rSetL:V -> V -> V -> Hp -> (Hp -> Prop) -> Prop:=fun o i v H Q=>∃ p xs k j,o = .ref p /\ i = .int k /\ H p=some (.lst xs) /\ ixN xs.length k=some j /\ Q (upd H p (.lst (xs.set j v)))
theorem zBF:PSet X rSetL:=by
 intro pins s σ H o i v ov iv u Q I ro ri rv h
 obtain ⟨p,xs,k,j,rfl,rfl,hp,hj,q⟩:=h
 cases ro
 obtain ⟨t,rfl⟩:=ri
 obtain ⟨its,n,r,ho,hz⟩:=I.lst hp
 obtain ⟨h1,h2,h3,h4⟩:=ixN_seq hj
 have hl:=r.length
 have hn:=line63
 have I':Inv X pins σ (upd H p (.lst (xs.set j v))) { s with heap:=s.heap.update p (Obj.mapSeq (·.setIfInBounds j u)) } :=
  I.lstUpd hp ho (mapSeq_set its n j u) (r.set rv j) (by rw [List.length_set]; exact hz) s.toks
 by_cases h0:0 <= k
 ·have hk:k.toNat=j:=by
   rw [seqIndex_of h0 h4] at h1
   exact Option.some.inj h1
  exact PySem.W.ki_setAt ho h0 (by omega) (by rw [qM,← hl]; exact h4) (by rw [hk]; exact ⟨_,I',q⟩)
 ·have hk:(k+(its.toArray.size:Int)).toNat=j:=by
   rw [seqIndex_neg (by omega) h3] at h1
   rw [qM,← hl]
   exact Option.some.inj h1
  exact PySem.W.ki_setBack ho (by omega) (by rw [qM,← hl]; exact h3) (by omega) (by rw [hk]; exact ⟨_,I',q⟩)
theorem slice_bounds (lo hi:Option Int)(n:Nat):(sliceBounds lo hi none n).1=((HT.sIx n 0 lo:Nat):Int) /\ (sliceBounds lo hi none n).2.1=((HT.sIx n n hi:Nat):Int) /\ (sliceBounds lo hi none n).2.2=1:=by
 refine ⟨?_,?_,rfl⟩
 ·cases lo with
  | none=>simp [sliceBounds,HT.sIx]
  | some i =>
   simp only [sliceBounds,HT.sIx,Option.getD_none,show (1:Int) > 0 by decide,if_true]
   by_cases h:i < 0
   ·simp only [h,if_true] <;> omega
   ·simp only [h,if_false] <;> omega
 ·cases hi with
  | none=>simp [sliceBounds,HT.sIx]
  | some i =>
   simp only [sliceBounds,HT.sIx,Option.getD_none,show (1:Int) > 0 by decide,if_true]
   by_cases h:i < 0
   ·simp only [h,if_true] <;> omega
   ·simp only [h,if_false] <;> omega
theorem slicePick_cut (its:List Value)(lo hi:Option Int):slicePick its.toArray lo hi none=((its.drop (HT.sIx its.length 0 lo)).take (HT.sIx its.length its.length hi - HT.sIx its.length 0 lo)).toArray:=by
 obtain ⟨h1,h2,h3⟩:=slice_bounds lo hi its.toArray.size
 unfold slicePick
 rw [h1,h2,h3]
 simp only [sliceRange_one,pick_run,qM] <;> rfl
def rSlL (K:zA):V -> Option Int -> Option Int -> Hp -> VK -> Prop:=fun x lo hi H Q=>∃ a xs,x = .ref a /\ SqL K H a xs /\ ∀ p,H p=none -> Q (.ref p) (upd H p (.lst (cutV xs lo hi)))
theorem sl_list:SlR X (rSlL X.K):=by
 intro pins s σ H x v vl vu lo hi sl Q I rx hs pl pu h
 obtain ⟨a,xs,rfl,hx,q⟩:=h
 cases rx
 obtain ⟨its,r,ht,hz⟩:=I.list hx
 have hlen:=r.length
 refine ⟨"list",_,slot_list_getitem.lookup,ht.isList.typeIs,?_⟩
 refine wpAny_getItem_list_slice ht.isList hs pl pu .none (by simp) ?_ (by rw [qM] <;> omega)
 rw [slicePick_cut,← hlen]
 refine ⟨.ref s.heap.objs.size,_,I.laid (t':=s.toks) (o:=.lst (cutV xs lo hi)) (fun b ob q=>Heap.get?_push_of_some _ q) (zE _) ?_,rfl,q _ (I.hok.fresh (zE _))⟩
 exact ⟨zZ (cutV_length xs lo hi) hz,_,0,(r.drop (HT.sIx xs.length 0 lo)).take (HT.sIx xs.length xs.length hi - HT.sIx xs.length 0 lo),Heap.get?_push_size _ rfl⟩
def jN:V -> Bool
 | .non=>true
 | .bl _=>true
 | .int _=>true
 | .str _=>true
 | _=>false
def eqV:V -> V -> Bool
 | .non,.non=>true
 | .bl a,.bl b=>a == b
 | .bl a,.int b=>(if a then 1 else 0) == b
 | .int a,.bl b=>a == (if b then 1 else 0)
 | .int a,.int b=>a == b
 | .str a,.str b=>a == b
 | _,_=>false
theorem eqAt_V {A:Around}{s:Shared}{y x:V}{u v:Value}(ry:RelV y u)(rx:RelV x v)(fy:jN y=true)(fx:jN x=true):SeqAt.EqAt A s u v (eqV y x):=by
 cases y with
 | non =>
  cases ry
  cases x with
  | non=>cases rx; exact SeqAt.EqAt.same _
  | bl b=>cases rx; exact SeqAt.EqAt.none_bool b
  | int b=>obtain ⟨t,rfl⟩:=rx; exact SeqAt.EqAt.none_int b t
  | str b=>obtain ⟨t,rfl⟩:=rx; exact SeqAt.EqAt.none_str b t
  | _=>exact absurd (show false=true from fx) zc
 | bl a =>
  cases ry
  cases x with
  | non=>cases rx; exact SeqAt.EqAt.bool_none a
  | bl b=>cases rx; exact SeqAt.EqAt.bool_bool a b
  | int b=>obtain ⟨t,rfl⟩:=rx; exact SeqAt.EqAt.bool_int a b t
  | str b=>obtain ⟨t,rfl⟩:=rx; exact SeqAt.EqAt.bool_str a b t
  | _=>exact absurd (show false=true from fx) zc
 | int a =>
  obtain ⟨t',rfl⟩:=ry
  cases x with
  | non=>cases rx; exact SeqAt.EqAt.int_none a t'
  | bl b=>cases rx; exact SeqAt.EqAt.int_bool a t' b
  | int b=>obtain ⟨t,rfl⟩:=rx; exact SeqAt.EqAt.int_int a t' b t
  | str b=>obtain ⟨t,rfl⟩:=rx; exact SeqAt.EqAt.int_str a t' b t
  | _=>exact absurd (show false=true from fx) zc
 | str a =>
  obtain ⟨t',rfl⟩:=ry
  cases x with
  | non=>cases rx; exact SeqAt.EqAt.str_none a t'
  | bl b=>cases rx; exact SeqAt.EqAt.str_bool a t' b
  | int b=>obtain ⟨t,rfl⟩:=rx; exact SeqAt.EqAt.str_int a t' b t
  | str b=>obtain ⟨t,rfl⟩:=rx; exact SeqAt.EqAt.str_str a t' b t
  | _=>exact absurd (show false=true from fx) zc
 | _=>exact absurd (show false=true from fy) zc
def eqU (x:V)(u:Value):Bool:=match u with
 | .none=>eqV .non x
 | .bool b=>eqV (.bl b) x
 | .int i _=>eqV (.int i) x
 | .str z _=>eqV (.str z) x
 | _=>false
theorem eqU_of {x y:V}{u:Value}(r:RelV y u)(f:jN y=true):eqU x u=eqV y x:=by
 cases y with
 | non=>cases r; rfl
 | bl b=>cases r; rfl
 | int i=>obtain ⟨t,rfl⟩:=r; rfl
 | str z=>obtain ⟨t,rfl⟩:=r; rfl
 | _=>exact absurd (show false=true from f) zc
theorem zBG {x:V}:∀ {xs:List V} {us:List Value},Vals xs us -> xs.all jN=true -> us.any (eqU x)=xs.any fun y=>eqV y x
 | _,_,.nil,_=>rfl
 | y :: xs,u :: us,.cons r t,f=>by
  rw [List.all_cons,zX] at f
  rw [List.any_cons,List.any_cons,eqU_of r f.1,zBG t f.2]
theorem zAR {A:Around}{s:Shared}{x:V}{v:Value}(rx:RelV x v)(fx:jN x=true):∀ {xs:List V} {us:List Value},Vals xs us -> xs.all jN=true -> ∀ u ∈ us,SeqAt.EqAt A s u v (eqU x u)
 | _,_,.nil,_=>fun u hu=>by cases hu
 | y :: xs,u :: us,.cons r t,f=>fun u' hu=>by
  rw [List.all_cons,zX] at f
  rcases zV.mp hu with rfl | hu
  ·rw [eqU_of r f.1]; exact eqAt_V r rx f.1 fx
  ·exact zAR rx fx t f.2 u' hu
def inV (x:V)(xs:List V):Bool:=xs.any fun y=>eqV y x
def rIn (K:zA)(neg:Bool):R2:=fun x y H Q=>∃ p xs,y = .ref p /\ (SqL K H p xs \/ SqT K H p xs) /\ jN x=true /\ xs.all jN=true /\ Q (.bl (if neg then !inV x xs else inV x xs)) H
theorem op_in_seq:OpR X (compareOp .In) (rIn X.K false):=by
 intro pins s σ H x y v u Q I rx ry h
 obtain ⟨p,xs,rfl,hq,fx,fs,q⟩:=h
 cases ry
 rcases hq with hq | hq
 ·obtain ⟨its,r,pl,hz⟩:=I.list hq
  refine SeqAt.in_listAt (eqU x) pl.isList (fun w hw=>zAR rx fx r fs w (by simpa using hw)) ⟨.bl _,H,I,rfl,?_⟩
  rw [show its.toArray.any (eqU x)=its.any (eqU x) by simp,zBG r fs]
  exact q
 ·obtain ⟨its,r,pl,hz⟩:=I.tuple hq
  refine SeqAt.in_tupleAt (eqU x) pl (fun w hw=>zAR rx fx r fs w (by simpa using hw)) ⟨.bl _,H,I,rfl,?_⟩
  rw [show its.toArray.any (eqU x)=its.any (eqU x) by simp,zBG r fs]
  exact q
theorem op_notIn_seq:OpR X (compareOp .NotIn) (rIn X.K true):=by
 intro pins s σ H x y v u Q I rx ry h
 obtain ⟨p,xs,rfl,hq,fx,fs,q⟩:=h
 cases ry
 rcases hq with hq | hq
 ·obtain ⟨its,r,pl,hz⟩:=I.list hq
  refine SeqAt.notIn_listAt (eqU x) pl.isList (fun w hw=>zAR rx fx r fs w (by simpa using hw)) ⟨.bl _,H,I,rfl,?_⟩
  rw [show its.toArray.any (eqU x)=its.any (eqU x) by simp,zBG r fs]
  exact q
 ·obtain ⟨its,r,pl,hz⟩:=I.tuple hq
  refine SeqAt.notIn_tupleAt (eqU x) pl (fun w hw=>zAR rx fx r fs w (by simpa using hw)) ⟨.bl _,H,I,rfl,?_⟩
  rw [show its.toArray.any (eqU x)=its.any (eqU x) by simp,zBG r fs]
  exact q
theorem call_len_seq:CallR X (.builtin "len") (fun xs H Q=>∃ p ys,xs=[.ref p] /\ (SqL X.K H p ys \/ SqT X.K H p ys) /\ Q (.int ys.length) H):=by
 intro pins s σ H xs us Q I r h
 obtain ⟨p,ys,rfl,hq,q⟩:=h
 obtain ⟨u,rfl,rx⟩:=vals1 r
 cases rx
 have hn:=line63
 rcases hq with hq | hq
 ·obtain ⟨its,r',pl,hz⟩:=I.list hq
  have hlen:=r'.length
  exact Calls.call_len_list pl.isList (by simp only [qM] <;> omega) ⟨.int ys.length,H,I.tok _,⟨s.toks+1,by rw [qM,hlen]⟩,q⟩
 ·obtain ⟨its,r',pl,hz⟩:=I.tuple hq
  have hlen:=r'.length
  exact len_tuple pl (by simp only [qM] <;> omega) ⟨.int ys.length,H,I.tok _,⟨s.toks+1,by rw [qM,hlen]⟩,q⟩
theorem JB:CallR X (.type "list") (fun xs H Q=>∃ p ys,xs=[.ref p] /\ (SqL X.K H p ys \/ SqT X.K H p ys) /\ ∀ l,H l=none -> Q (.ref l) (upd H l (.lst ys))):=by
 intro pins s σ H xs us Q I r h
 obtain ⟨p,ys,rfl,hq,q⟩:=h
 obtain ⟨u,rfl,rx⟩:=vals1 r
 cases rx
 have fin:∀ (its:List Value),Vals ys its -> ys.length <= sizeLine -> ∀ (h':Heap) (c':Nat),(∀ b o',s.heap.get? b=some o' -> h'.get? b=some o') ->
   h'.get? s.heap.objs.size=some { cls:=.type "list",dict:=none,data:=.seq its.toArray c',slots:=#[] } -> EP X pins σ Q (.ref s.heap.objs.size) { s with heap:=h' }:=fun its r' hz h' c' kp e =>
  ⟨.ref s.heap.objs.size,_,I.laid (t':=s.toks) kp (zE _) (show ObjOk X.prog X.w _ h' _ (.lst ys) from ⟨hz,its,c',r',e⟩),rfl,q _ (I.hok.fresh (zE _))⟩
 rcases hq with hq | hq
 ·obtain ⟨its,r',pl,hz⟩:=I.list hq
  have hlen:=r'.length
  obtain ⟨o,ho,hc,n,hd⟩:=pl.isList
  exact call_list_seq p (.inl rfl) ho hc hd (fun h' c' kp e=>fin its r' hz h' c' kp e) (by simp only [qM] <;> omega)
 ·obtain ⟨its,r',pl,hz⟩:=I.tuple hq
  have hlen:=r'.length
  obtain ⟨o,ho,hc,n,hd⟩:=pl
  exact call_list_seq p (.inr rfl) ho hc hd (fun h' c' kp e=>fin its r' hz h' c' kp e) (by simp only [qM] <;> omega)
theorem jv:CallR X (.type "tuple") (fun xs H Q=>∃ p ys,xs=[.ref p] /\ ((SqL X.K H p ys /\ ∀ l,H l=none -> Q (.ref l) (upd H l (.tup ys))) \/ (SqT X.K H p ys /\ Q (.ref p) H))):=by
 intro pins s σ H xs us Q I r h
 obtain ⟨p,ys,rfl,h⟩:=h
 obtain ⟨u,rfl,rx⟩:=vals1 r
 cases rx
 rcases h with ⟨hq,q⟩ | ⟨hq,q⟩
 ·obtain ⟨its,r',pl,hz⟩:=I.list hq
  have hlen:=r'.length
  refine call_tuple_list pl.isList (fun h' kp=>?_) (by simp only [qM] <;> omega)
  have I1:Inv X pins σ H { s with heap:=h' }:=I.kept (t':=s.toks) kp
  have I2:Inv X pins σ (upd H h'.objs.size (.tup ys)) { s with heap:=h'.push { cls:=.type "tuple",data:=.seq its.toArray } } :=
   I1.laid (t':=s.toks) (fun b o e=>Heap.get?_push_of_some _ e) (zE _) (show ObjOk X.prog X.w _ _ _ (.tup ys) from ⟨hz,its,r',IsTup.new _ _⟩)
  exact ⟨.ref h'.objs.size,_,I2,rfl,q _ (I1.hok.fresh (zE _))⟩
 ·obtain ⟨its,r',pl,hz⟩:=I.tuple hq
  exact call_tuple_same pl ⟨.ref p,H,I,rfl,q⟩
def tyV (K:zA)(T:String)(x:V)(H:Hp):Prop:=match x with
 | .str _=>T = "str"
 | .int _=>T = "int"
 | .ref p=>(T = "list" /\ ∃ xs,SqL K H p xs) \/ (T = "tuple" /\ ∃ o,K.lookup p=some o /\ o.cls = .type "tuple" /\ o.dict=none) \/
   (T = "dict" /\ ((∃ kvs,H p=some (.dK kvs)) \/ ∃ kvs,H p=some (.dT kvs))) \/ (T = "set" /\ ∃ S n,H p=some (.set S n))
 | _=>False
theorem tyV_is {pins:List (Addr × Obj)}{σ:St}{H:Hp}{s:Shared}{T:String}{x:V}{v:Value}(I:Inv X pins σ H s)(r:RelV x v)(ty:tyV X.K T x H) :
  s.TypeIs v T /\ ∀ a,v = .ref a -> ∃ ob,s.heap.get? a=some ob /\ ob.dict=none:=by
 cases x with
 | str z =>
  obtain ⟨t,rfl⟩:=r
  cases (show T = "str" from ty)
  exact ⟨typeIs_str s z t,fun _ e=>nomatch e⟩
 | int i =>
  obtain ⟨t,rfl⟩:=r
  cases (show T = "int" from ty)
  exact ⟨typeIs_int s i t,fun _ e=>nomatch e⟩
 | ref p =>
  cases r
  rcases ty with ⟨rfl,xs,hq⟩ | ⟨rfl,o,hk,hc,hd⟩ | ⟨rfl,hk⟩ | ⟨rfl,S,n,hk⟩
  ·obtain ⟨its,_,pl,_⟩:=I.list hq
   refine ⟨pl.isList.typeIs,fun a e=>?_⟩
   cases e
   obtain ⟨o,n,e,c,hd,_⟩:=pl
   exact ⟨o,e,hd⟩
  ·refine ⟨⟨o,I.kIn p o hk,hc⟩,fun a e=>?_⟩
   cases e
   exact ⟨o,I.kIn _ o hk,hd⟩
  ·have z:∃ o,s.heap.get? p=some o /\ o.ExactDict:=by
    rcases hk with ⟨kvs,hk⟩ | ⟨kvs,hk⟩
    ·obtain ⟨_,_,_,_,o,_,_,e,ex,_⟩:=I.hok p _ hk
     exact ⟨o,e,ex⟩
    ·obtain ⟨_,_,_,_,o,_,_,e,ex,_⟩:=I.hok p _ hk
     exact ⟨o,e,ex⟩
   obtain ⟨o,e,ex⟩:=z
   refine ⟨⟨o,e,ex.1⟩,fun a e2=>?_⟩
   cases e2
   exact ⟨o,e,ex.2.1⟩
  ·obtain ⟨o,_,_,_,e,ex,_⟩:=I.hok p _ hk
   refine ⟨⟨o,e,ex.1⟩,fun a e2=>?_⟩
   cases e2
   exact ⟨o,e,ex.2.1⟩
 | _=>exact False.elim ty
def tBM0 (K:zA)(T:String)(r:V -> List V -> Hp -> VK -> Prop)(to:TE):TE:=fun σ H Q=>to σ H fun x H1=>tyV K T x H1 /\ r x [] H1 Q
def tBM (K:zA)(T:String)(r:V -> List V -> Hp -> VK -> Prop)(to:TE)(t:TA):TE:=fun σ H Q=>to σ H fun x H1=>tyV K T x H1 /\ t σ H1 fun xs H2=>r x xs H2 Q
variable {o e:Expr}{es:List Expr}{to:TE}{t:TA}{name:Str}{apos cpos:Pos}{T id:String}{r:V -> List V -> Hp -> VK -> Prop}
theorem pe_bm0 (pa:PlainAttrs T) (slot:Slot T name id) (hty:typeOf (.builtin id)=pure (.type "method_descriptor")) (hm:MtR X id r) (ho:PE X o to)
  (hbase:attributeBase o name X.env (eval o X.env)=eval o X.env:=by rfl) (hline:(apos.endLine == cpos.line)=true:=by rfl):PE X (.Call (.Attribute o name apos) [] [] cpos) (tBM0 X.K T r to):=by
 intro pins s σ H Q I h
 refine wpAny_Call_method0_late hbase hline (thn (ho pins s σ H _ I h) fun v s1 ⟨x,H1,I1,r1,ty,q1⟩=>?_)
 obtain ⟨h1,h2⟩:=tyV_is I1 r1 ty
 exact ⟨T,id,pa,slot,hty,h1,h2,Calls.callWith_builtin rfl (PySem.evalArgs_none (hm pins s1 σ H1 x [] v [] Q I1 r1 .nil q1))⟩
theorem j6 (pa:PlainAttrs T) (slot:Slot T name id) (hty:typeOf (.builtin id)=pure (.type "method_descriptor")) (hm:MtR X id r) (ho:PE X o to) (ha:PA X (e :: es) t)
  (hbase:attributeBase o name X.env (eval o X.env)=eval o X.env:=by rfl)
  (hfew:((backTo cpos (starEach (e :: es) X.env)).all (fun x=>!x.1) && (backToKw cpos (keywordEach [] X.env)).all (fun x=>x.1.isSome)
   && decide ((e :: es).length+([]:List Keyword).length+(if ([]:List Keyword).isEmpty then 0 else 1) < 30))=true:=by rfl)
  (hline:(apos.endLine == cpos.line)=true:=by rfl) (hs:starEach (e :: es) X.env=(false,eval e X.env) :: starEach es X.env:=by rfl) (hplain:(backTo cpos (starEach es X.env)).any (·.1)=false:=by rfl) :
  PE X (.Call (.Attribute o name apos) (e :: es) [] cpos) (tBM X.K T r to t):=by
 intro pins s σ H Q I h
 refine wpAny_Call_method_late hbase hfew hline rfl (thn (ho pins s σ H _ I h) fun v s1 ⟨x,H1,I1,r1,ty,q1⟩=>?_)
 obtain ⟨h1,h2⟩:=tyV_is I1 r1 ty
 refine ⟨T,id,pa,slot,hty,h1,h2,?_⟩
 have hA:=ha cpos pins s1 σ H1 _ I1 q1
 rw [hs] at hA ⊢
 refine Calls.callWith_builtin (by show (false || (backTo cpos (starEach es X.env)).any (·.1))=false; rw [hplain] <;> rfl) (Calls.evalArgs_plain ?_)
 exact thn hA fun us s2 ⟨vs,H2,I2,r2,q2⟩=>hm pins s2 σ H2 x vs v us Q I2 r1 r2 q2
end
end L2
namespace L2
open PySem PySem.Spec PyProof.Rows
def MtM (X:Cx)(id:String)(r:V -> List V -> Hp -> VK -> Prop):Prop :=
 ∀ (pins:List (Addr × Obj)) (s:Shared) (σ:St) (H:Hp) (x:V) (xs:List V) (v:Value) (us:List Value) (Q:VK),Inv X pins σ H s -> RelV x v -> Vals xs us -> r x xs H Q ->
  wpAny (model X.prog X.w) X.A (call (.builtin id) (v :: us)) (EP X pins σ Q) X.xe s
theorem Vals.one:∀ {x:V} {us:List Value},Vals [x] us -> ∃ u,us=[u] /\ RelV x u
 | _,_,.cons r .nil=>⟨_,rfl,r⟩
theorem Vals.two:∀ {x y:V} {us:List Value},Vals [x,y] us -> ∃ u v,us=[u,v] /\ RelV x u /\ RelV y v
 | _,_,_,.cons r (.cons q .nil)=>⟨_,_,rfl,r,q⟩
section
variable {X:Cx}{pins:List (Addr × Obj)}{σ:St}{H:Hp}{s:Shared}{l b:Addr}{xs ys zs:List V}
theorem Inv.lset {its its':List Value}{n:Nat}{f:Array Value -> Array Value}{t':Nat}(I:Inv X pins σ H s)(hH:H l=some (.lst xs))
  (e:s.heap.get? l=some { cls:=.type "list",data:=.seq its.toArray n }) (hf:f its.toArray=its'.toArray) (hv:Vals ys its') (hz:ys.length <= sizeLine) :
  Inv X pins σ (upd H l (.lst ys)) { s with heap:=s.heap.update l (Obj.mapSeq f),toks:=t' }:=by
 have q:=PySem.IsL.update e f
 rw [hf] at q
 refine I.write (x:=l) (e:=l) (by rw [hH]; exact trivial) (.inl rfl) (fun b' u hb hu=>(Heap.get?_update_other s.heap (Obj.mapSeq f) (Ne.symm hb)).trans hu) ⟨_,q⟩ ?_
 exact ⟨hz,its',_,hv,q⟩
theorem Inv.lnew {its:List Value}{t':Nat}(I:Inv X pins σ H s)(hv:Vals ys its)(hz:ys.length <= sizeLine) :
  Inv X pins σ (upd H s.heap.objs.size (.lst ys)) { s with heap:=s.heap.push { cls:=.type "list",data:=.seq its.toArray },toks:=t' } :=
 I.laid (fun _ _ q=>Heap.get?_push_of_some _ q) (zE _) ⟨hz,its,0,hv,Heap.get?_push_size _ rfl⟩
theorem Inv.fresh (I:Inv X pins σ H s):H s.heap.objs.size=none:=I.hok.fresh (zE _)
theorem Inv.lstM (I:Inv X pins σ H s)(hH:H l=some (.lst xs)):xs.length <= sizeLine /\ ∃ (its:List Value) (n:Nat),Vals xs its /\ xs.length=its.length /\ s.heap.get? l=some { cls:=.type "list",data:=.seq its.toArray n }:=by
 obtain ⟨z,its,n,r,e⟩:=I.hok l _ hH
 exact ⟨z,its,n,r,r.length,e⟩
end
section
variable {X:Cx}
def rAppend:V -> List V -> Hp -> VK -> Prop:=fun x vs H Q=>∃ l xs y,x = .ref l /\ vs=[y] /\ H l=some (.lst xs) /\ xs.length < sizeLine /\ Q .non (upd H l (.lst (xs ++ [y])))
theorem yd:MtM X "list.append" rAppend:=by
 intro pins s σ H x vs v us Q I rx rv h
 obtain ⟨l,xs,y,rfl,rfl,hH,hz,q⟩:=h
 cases rx
 obtain ⟨u,rfl,ru⟩:=rv.one
 obtain ⟨z,its,n,r,hl,e⟩:=I.lstM hH
 refine call_meets F.slot_list_append ⟨_,e,rfl⟩ F.entry_list_append (F.args_list_append_2 _ _) (PySem.list_append l its.toArray n u (by rw [qM]; omega)) ⟨e,?_⟩
 refine ⟨.non,_,I.lset (its':=its ++ [u]) hH e (by simp) (r.append (.cons ru .nil)) ?_,rfl,q⟩
 rw [qF,List.length_singleton]
 omega
def rExtend:V -> List V -> Hp -> VK -> Prop:=fun x vs H Q=>∃ l b xs zs,x = .ref l /\ vs=[.ref b] /\ H l=some (.lst xs) /\ H b=some (.lst zs) /\ xs.length+zs.length <= sizeLine /\ Q .non (upd H l (.lst (xs ++ zs)))
def rPop:V -> List V -> Hp -> VK -> Prop:=fun x vs H Q=>∃ l xs y,x = .ref l /\ vs=[] /\ H l=some (.lst xs) /\ xs[xs.length - 1]? = some y /\ Q y (upd H l (.lst xs.dropLast))
def rReverse:V -> List V -> Hp -> VK -> Prop:=fun x vs H Q=>∃ l xs,x = .ref l /\ vs=[] /\ H l=some (.lst xs) /\ Q .non (upd H l (.lst xs.reverse))
def rClear:V -> List V -> Hp -> VK -> Prop:=fun x vs H Q=>∃ l xs,x = .ref l /\ vs=[] /\ H l=some (.lst xs) /\ Q .non (upd H l (.lst []))
def rCat:R2:=fun x y H Q=>∃ l b xs zs,x = .ref l /\ y = .ref b /\ H l=some (.lst xs) /\ H b=some (.lst zs) /\ xs.length+zs.length <= sizeLine /\ ∀ p,H p=none -> Q (.ref p) (upd H p (.lst (xs ++ zs)))
theorem op_cat:OpR X (binaryOp .Add) rCat:=by
 intro pins s σ H x y v u Q I rx ry h
 obtain ⟨l,b,xs,zs,rfl,rfl,hH,hB,hz,q⟩:=h
 cases rx
 cases ry
 obtain ⟨z,its,n,r,hl,e⟩:=I.lstM hH
 obtain ⟨z2,its2,n2,r2,hl2,e2⟩:=I.lstM hB
 refine PySem.P.add_list e e2 ?_ (by rw [qM,qM]; omega)
 have ea:its.toArray ++ its2.toArray=(its ++ its2).toArray:=by simp
 rw [ea]
 exact ⟨.ref _,_,I.lnew (t':=s.toks) (r.append r2) (by rw [qF]; omega),rfl,q _ I.fresh⟩
end
section
variable {prog:Program}{w:World}{A:Around}{E:Value -> Shared -> Prop}{s:Shared}
end
section
variable {X:Cx}
end
end L2
namespace L2
open PySem PySem.Spec PyProof.Rows
section
variable {κ:Type}[DecidableEq κ]
def valV (kvs:List (κ × V))(k:κ):Option V:=(kvs.find? fun kv=>decide (kv.1=k)).map (·.2)
def putK (kvs:List (κ × V))(k:κ)(v:V):List (κ × V) :=
 if (kvs.any fun kv=>decide (kv.1=k))=true then kvs.map (fun kv=>if kv.1=k then (kv.1,v) else kv) else kvs ++ [(k,v)]
theorem valV_nil {k:κ}:valV ([]:List (κ × V)) k=none:=rfl
theorem xG {p:κ × V}{r:List (κ × V)}{k:κ}(e:p.1=k):valV (p :: r) k=some p.2:=by simp [valV,Jo,e]
theorem xH {p:κ × V}{r:List (κ × V)}{k:κ}(e:¬ p.1=k):valV (p :: r) k=valV r k:=by simp [valV,Jo,e]
theorem jz (k:κ):∀ kvs:List (κ × V),(kvs.any fun kv=>decide (kv.1=k))=(valV kvs k).isSome
 | []=>rfl
 | p :: r=>by
  rw [List.any_cons]
  by_cases e:p.1=k
  ·simp only [xG e,decide_eq_true e,Bool.true_or,Option.isSome_some]
  ·rw [xH e,decide_eq_false e,xQ]; exact jz k r
theorem valV_map (k j:κ)(y:V):∀ kvs:List (κ × V),valV (kvs.map fun kv=>if kv.1=k then (kv.1,y) else kv) j=(valV kvs j).map fun x=>if j=k then y else x
 | []=>rfl
 | p :: r=>by
  have ih:=valV_map k j y r
  rw [zR]
  by_cases h:p.1=k
  ·rw [if_pos h]
   by_cases e:p.1=j
   ·rw [xG (p:=(p.1,y)) e,xG e,jH,if_pos (e.symm.trans h)]
   ·rw [xH (p:=(p.1,y)) e,xH e,ih]
  ·rw [if_neg h]
   by_cases e:p.1=j
   ·rw [xG (p:=p) e,xG e,jH,if_neg (fun z=>h (e.trans z))]
   ·rw [xH (p:=p) e,xH e,ih]
theorem valV_snoc (k j:κ)(y:V):∀ kvs:List (κ × V),valV kvs k=none -> valV (kvs ++ [(k,y)]) j=if j=k then some y else valV kvs j
 | [],_=>by
  by_cases e:k=j
  ·rw [if_pos e.symm]; exact xG (p:=(k,y)) e
  ·rw [if_neg (fun z=>e z.symm)]; exact xH (p:=(k,y)) e
 | p :: r,hn=>by
  rw [yR]
  have hk:¬ p.1=k:=fun z=>by rw [xG z] at hn; cases hn
  rw [xH hk] at hn
  have ih:=valV_snoc k j y r hn
  by_cases e:p.1=j
  ·rw [xG e,xG e,if_neg (fun z=>hk (e.trans z))]
  ·rw [xH e,xH e,ih]
theorem zAS (kvs:List (κ × V))(k j:κ)(y:V):valV (putK kvs k y) j=if j=k then some y else valV kvs j:=by
 unfold putK
 by_cases a:(kvs.any fun kv=>decide (kv.1=k))=true
 ·rw [if_pos a,valV_map]
  rw [jz] at a
  by_cases e:j=k
  ·obtain ⟨x,hx⟩:=jL.mp a
   rw [if_pos e,e,hx,jH,if_pos rfl]
  ·rw [if_neg e]
   cases valV kvs j with
   | none=>rfl
   | some x=>rw [jH,if_neg e]
 ·rw [if_neg a]
  refine valV_snoc k j y kvs ?_
  rw [jz] at a
  cases q:valV kvs k with
  | none=>rfl
  | some x=>rw [q] at a; exact (a rfl).elim
theorem zAT (kvs:List (κ × V))(k:κ)(v:V):(putK kvs k v).length <= kvs.length+1:=by
 unfold putK
 split
 ·rw [qC]; omega
 ·rw [qF,zq,xj]; omega
theorem putK_new {kvs:List (κ × V)}{k:κ}(v:V)(h:valV kvs k=none):putK kvs k v=kvs ++ [(k,v)]:=by
 unfold putK
 rw [jz,h]
 exact if_neg (by decide)
theorem RelO.isSome_eq {o:Option V}{u:Option Value}(r:RelO o u):o.isSome=u.isSome:=by
 cases o with
 | none=>cases u with
  | none=>rfl
  | some _=>exact (show False from r).elim
 | some _=>cases u with
  | none=>exact (show False from r).elim
  | some _=>rfl
theorem KV.val {kvs:List (κ × V)}{vs:List (κ × Value)}(r:KV kvs vs)(k:κ):RelO (valV kvs k) (valueAt vs k):=by
 unfold KV at r
 induction r with
 | nil=>exact True.intro
 | @cons p q ps qs h t ih =>
  obtain ⟨h1,h2⟩:=h
  by_cases e:p.1=k
  ·have e':q.1=k:=h1.symm.trans e
   have b:valueAt (q :: qs) k=some q.2:=by simp [valueAt,Jo,e']
   rw [xG e,b]; exact h2
  ·have e':¬ q.1=k:=fun z=>e (h1.trans z)
   have b:valueAt (q :: qs) k=valueAt qs k:=by simp [valueAt,Jo,e']
   rw [xH e,b]; exact ih
theorem KV.any {kvs:List (κ × V)}{vs:List (κ × Value)}(r:KV kvs vs)(k:κ):(kvs.any fun kv=>decide (kv.1=k))=vs.any fun kv=>decide (kv.1=k):=by
 unfold KV at r
 induction r with
 | nil=>rfl
 | cons h t ih=>rw [List.any_cons,List.any_cons,ih,h.1]
theorem KV.repl {kvs:List (κ × V)}{vs:List (κ × Value)}(r:KV kvs vs)(k:κ){y:V}{u:Value}(ry:RelV y u) :
  KV (kvs.map fun kv=>if kv.1=k then (kv.1,y) else kv) (vs.map fun kv=>if kv.1=k then (kv.1,u) else kv):=by
 unfold KV at r ⊢
 induction r with
 | nil=>exact .nil
 | @cons p q ps qs h t ih =>
  rw [zR,zR]
  refine .cons ?_ ih
  obtain ⟨h1,h2⟩:=h
  by_cases e:p.1=k
  ·rw [if_pos e,if_pos (h1.symm.trans e)]; exact ⟨h1,ry⟩
  ·rw [if_neg e,if_neg (fun z=>e (h1.trans z))]; exact ⟨h1,h2⟩
theorem KV.put {kvs:List (κ × V)}{vs:List (κ × Value)}(r:KV kvs vs)(k:κ){y:V}{u:Value}(ry:RelV y u):KV (putK kvs k y) (stored vs k u):=by
 unfold putK stored
 rw [r.any k]
 by_cases e:(vs.any fun kv=>decide (kv.1=k))=true
 ·rw [if_pos e,if_pos e]; exact r.repl k ry
 ·rw [if_neg e,if_neg e]; exact Paired.snoc r ⟨rfl,ry⟩
theorem KV.length {kvs:List (κ × V)}{vs:List (κ × Value)}(r:KV kvs vs):kvs.length=vs.length:=Paired.length r
end
theorem kV_is {P:Program}{w:World}{k:Key}{u:Value}(r:RelV (kV k) u):(xY P w).is k u=true:=by
 cases k with
 | inl i=>obtain ⟨t,e⟩:=(show ∃ t,u=Value.int i t from r); subst e; exact mixKind_int P w i t
 | inr x=>obtain ⟨t,e⟩:=(show ∃ t,u=Value.str x t from r); subst e; exact mixKind_str P w x t
theorem items_are {P:Program}{w:World}:∀ {ks:List Key} {us:List Value},Vals (ks.map kV) us -> ItemsAre (xY P w) ks us
 | [],_,r=>by rw [jn] at r; cases r; exact .nil
 | k :: ks,_,r=>by
  rw [zR] at r
  cases r with
  | cons h t=>exact .cons (kV_is h) (items_are t)
abbrev KT (H:Hp):List (List Key × V) -> List (List Key × Addr × Value) -> Prop:=Paired fun p q=>p.1=q.1 /\ H q.2.1=some (.tup (p.1.map kV)) /\ RelV p.2 q.2.2
theorem KT.val {H:Hp}{kvs:List (List Key × V)}{xs:List (List Key × Addr × Value)}(r:KT H kvs xs)(k:List Key):RelO (valV kvs k) ((atKey xs k).map (·.2)):=by
 induction r with
 | nil=>exact True.intro
 | @cons p q ps qs h t ih =>
  obtain ⟨h1,_,h2⟩:=h
  by_cases e:p.1=k
  ·have e':q.1=k:=h1.symm.trans e
   have b:atKey (q :: qs) k=some q.2:=by simp [atKey,Jo,e']
   rw [xG e,b]; exact h2
  ·have e':¬ q.1=k:=fun z=>e (h1.trans z)
   have b:atKey (q :: qs) k=atKey qs k:=by simp [atKey,Jo,e']
   rw [xH e,b]; exact ih
theorem KT.repl {H:Hp}{kvs:List (List Key × V)}{xs:List (List Key × Addr × Value)}(r:KT H kvs xs)(k:List Key){y:V}{u:Value}(ry:RelV y u) :
  KT H (kvs.map fun kv=>if kv.1=k then (kv.1,y) else kv) (xs.map (putAt k u)):=by
 induction r with
 | nil=>exact .nil
 | @cons p q ps qs h t ih =>
  rw [zR,zR]
  refine .cons ?_ ih
  obtain ⟨h1,h2,h3⟩:=h
  unfold putAt
  by_cases e:p.1=k
  ·rw [if_pos e,if_pos (h1.symm.trans e)]; exact ⟨h1,h2,ry⟩
  ·rw [if_neg e,if_neg (fun z=>e (h1.trans z))]; exact ⟨h1,h2,h3⟩
theorem KT.put {H:Hp}{kvs:List (List Key × V)}{xs:List (List Key × Addr × Value)}(r:KT H kvs xs)(k:List Key){b:Addr}{y:V}{u:Value}(hb:H b=some (.tup (k.map kV)))(ry:RelV y u) :
  KT H (putK kvs k y) (storedH xs k b u):=by
 have e:(kvs.any fun kv=>decide (kv.1=k))=(atKey xs k).isSome:=by
  rw [jz,(r.val k).isSome_eq,Option.isSome_map]
 unfold putK storedH
 rw [e]
 by_cases q:(atKey xs k).isSome=true
 ·rw [if_pos q,if_pos q]; exact r.repl k ry
 ·rw [if_neg q,if_neg q]; exact Paired.snoc r ⟨rfl,hb,ry⟩
theorem KT.keeps {H H':Hp}{kvs:List (List Key × V)}{xs:List (List Key × Addr × Value)}(r:KT H kvs xs)(ht:∀ b ys,H b=some (.tup ys) -> H' b=some (.tup ys)):KT H' kvs xs :=
 Paired.mapP r fun _ _ z=>⟨z.1,ht _ _ z.2.1,z.2.2⟩
section
variable {P:Program}{w:World}{H:Hp}{h:Heap}{a:Addr}
theorem rd_of {u:HO}(ok:HOk P w H h)(e:Rd H a u):ObjOk P w H h a u:=e.ok ok
theorem dk_rd {kvs:List (Key × V)}(ok:HOk P w H h)(e:Rd H a (.dK kvs)):kvs.length <= sizeLine /\ (a == sysModules)=false /\ ∃ vs,KV kvs vs /\ h.DictOf (xY P w) a vs :=
 show ObjOk P w H h a (.dK kvs) from rd_of ok e
theorem dk_of {kvs:List (Key × V)}(ok:HOk P w H h)(e:H a=some (.dK kvs)):kvs.length <= sizeLine /\ (a == sysModules)=false /\ ∃ vs,KV kvs vs /\ h.DictOf (xY P w) a vs:=dk_rd ok (.inl e)
theorem key_of {ks:List Key}(ok:HOk P w H h)(e:H a=some (.tup (ks.map kV))):(tupleKind (xY P w)).is h ks a:=by
 obtain ⟨_,its,r,o,h1,h2,n,h3⟩:=(show ObjOk P w H h a (.tup (ks.map kV)) from ok a _ e)
 exact ⟨o,its.toArray,n,h1,h2,h3,by simpa using items_are r⟩
theorem dt_rd {kvs:List (List Key × V)}(ok:HOk P w H h)(e:Rd H a (.dT kvs)):kvs.length <= sizeLine /\ (a == sysModules)=false /\
  ∃ xs,KT H kvs xs /\ h.DictOfH (tupleKind (xY P w)) a xs:=by
 obtain ⟨z,y,xs,r,o,es,ep,h1,h2,h3,h4,h5⟩:=(show ObjOk P w H h a (.dT kvs) from rd_of ok e)
 refine ⟨z,y,xs,r,o,es,ep,h1,h2,h3,h4,fun x hx=>?_,h5⟩
 have all:∀ {l:List (List Key × V)} {m:List (List Key × Addr × Value)},KT H l m -> ∀ x ∈ m,(tupleKind (xY P w)).is h x.1 x.2.1:=by
  intro l m q
  induction q with
  | nil=>intro x hx; exact nomatch hx
  | @cons p q ps qs hq t ih =>
   intro x hx
   rcases zV.mp hx with e | hx
   ·subst e
    exact key_of ok (by rw [← hq.1]; exact hq.2.1)
   ·exact ih x hx
 exact all r x hx
theorem dt_of {kvs:List (List Key × V)}(ok:HOk P w H h)(e:H a=some (.dT kvs)):kvs.length <= sizeLine /\ (a == sysModules)=false /\
  ∃ xs,KT H kvs xs /\ h.DictOfH (tupleKind (xY P w)) a xs:=dt_rd ok (.inl e)
end
def DGet (H:Hp)(a:Addr)(y:V)(r:Option V):Prop :=
 (∃ kvs k,Rd H a (.dK kvs) /\ y=kV k /\ r=valV kvs k) \/ ∃ kvs k b,Rd H a (.dT kvs) /\ y = .ref b /\ H b=some (.tup (k.map kV)) /\ r=valV kvs k
def DPut (H:Hp)(a:Addr)(y v:V)(H':Hp):Prop :=
 (∃ kvs k,H a=some (.dK kvs) /\ y=kV k /\ kvs.length < sizeLine /\ H'=upd H a (.dK (putK kvs k v))) \/
 ∃ kvs k b,H a=some (.dT kvs) /\ y = .ref b /\ H b=some (.tup (k.map kV)) /\ kvs.length < sizeLine /\ H'=upd H a (.dT (putK kvs k v))
theorem DGet.k {H:Hp}{a:Addr}{kvs:List (Key × V)}{k:Key}(e:H a=some (.dK kvs)):DGet H a (kV k) (valV kvs k):=.inl ⟨kvs,k,.inl e,rfl,rfl⟩
theorem DGet.t {H:Hp}{a b:Addr}{kvs:List (List Key × V)}{k:List Key}(e:H a=some (.dT kvs))(eb:H b=some (.tup (k.map kV))):DGet H a (.ref b) (valV kvs k):=.inr ⟨kvs,k,b,.inl e,rfl,eb,rfl⟩
theorem DPut.k {H:Hp}{a:Addr}{kvs:List (Key × V)}{k:Key}{v:V}(e:H a=some (.dK kvs))(hl:kvs.length < sizeLine):DPut H a (kV k) v (upd H a (.dK (putK kvs k v))):=.inl ⟨kvs,k,e,rfl,hl,rfl⟩
theorem DPut.t {H:Hp}{a b:Addr}{kvs:List (List Key × V)}{k:List Key}{v:V}(e:H a=some (.dT kvs))(eb:H b=some (.tup (k.map kV)))(hl:kvs.length < sizeLine) :
  DPut H a (.ref b) v (upd H a (.dT (putK kvs k v))):=.inr ⟨kvs,k,b,e,rfl,eb,hl,rfl⟩
section
variable {X:Cx}{pins:List (Addr × Obj)}{σ:St}{H:Hp}{s:Shared}{a:Addr}{y v:V}{u r:Value}{o:Option V}{A:Around}{E:Value -> Shared -> Prop}
theorem Inv.big (I:Inv X pins σ H s):sysModules < s.heap.objs.size:=by
 have h:mainGlobals < s.heap.objs.size:=(I.mod.glob.keeps I.bk).lt
 exact Nat.lt_trans (by decide) h
theorem d_getItem {Q:Value -> Shared -> Prop}(hu:A.units+1 < cLine)(I:Inv X pins σ H s)(g:DGet H a y (some v))(ry:RelV y u)(h:∀ w' s',Inv X pins σ H s' -> RelV v w' -> Q w' s') :
  wpAny (model X.prog X.w) A (getItem (.ref a) u) Q E s:=by
 rcases g with ⟨kvs,k,e,ey,l⟩ | ⟨kvs,k,b,e,ey,eb,l⟩
 ·subst ey
  obtain ⟨z,hd,vs,rel,dd⟩:=dk_rd I.hok e
  obtain ⟨w',hw,rw'⟩:=RelO.some_of (v:=v) (o:=valueAt vs k) (by rw [l]; exact rel.val k)
  exact wpAny_getItem_of (kV_is ry) dd.mapOf hw (h w' _ (I.tok _) rw')
 ·subst ey
  cases (show u=Value.ref b from ry)
  obtain ⟨z,hd,xs,rel,dd⟩:=dt_rd I.hok e
  obtain ⟨w',hw,rw'⟩:=RelO.some_of (v:=v) (o:=(atKey xs k).map (·.2)) (by rw [l]; exact rel.val k)
  obtain ⟨p,hp,hp2⟩:=yW.mp hw
  refine wpAny_getItem_heap (tupleKind_room_in1 hu) (key_of I.hok eb) dd hp ?_
  rw [hp2]
  exact h w' _ (I.tok _) rw'
theorem d_in {Q:Value -> Shared -> Prop}(hu:A.units+1 < cLine)(I:Inv X pins σ H s)(g:DGet H a y o)(ry:RelV y u)(h:∀ s',Inv X pins σ H s' -> Q (.bool o.isSome) s') :
  wpAny (model X.prog X.w) A (compareOp .In u (.ref a)) Q E s:=by
 rcases g with ⟨kvs,k,e,ey,l⟩ | ⟨kvs,k,b,e,ey,eb,l⟩
 ·subst ey
  obtain ⟨z,hd,vs,rel,dd⟩:=dk_rd I.hok e
  refine wpAny_in_of (kV_is ry) hd dd.mapOf ?_
  rw [← (rel.val k).isSome_eq,← l]
  exact h _ (I.tok _)
 ·subst ey
  cases (show u=Value.ref b from ry)
  obtain ⟨z,hd,xs,rel,dd⟩:=dt_rd I.hok e
  refine wpAny_in_heap (tupleKind_room_in1 hu) (key_of I.hok eb) hd dd ?_
  have q:=(rel.val k).isSome_eq
  rw [Option.isSome_map] at q
  rw [← q,← l]
  exact h _ (I.tok _)
theorem d_write {h':Heap}{t':Nat}{ob:HO}(I:Inv X pins σ H s)(mu:Mut (H a))(hs:Heap.SameBut a s.heap h')(he:∃ q,h'.get? a=some q)(new:ObjOk X.prog X.w (upd H a ob) h' a ob) :
  Inv X pins σ (upd H a ob) { s with heap:=h',toks:=t' } :=
 I.write (x:=a) (e:=a) mu (.inl rfl) (fun b q hb z=>(hs.2 b hb).trans z) he new
theorem dk_new {P:Program}{w:World}{H':Hp}{h':Heap}{kvs:List (Key × V)}{vs:List (Key × Value)}(z:kvs.length <= sizeLine)(hd:(a == sysModules)=false)(rel:KV kvs vs)(dd:h'.DictOf (xY P w) a vs) :
  ObjOk P w H' h' a (.dK kvs):=⟨z,hd,vs,rel,dd⟩
theorem d_setItem {H':Hp}{Q:Unit -> Shared -> Prop}(hu:A.units+1 < cLine)(I:Inv X pins σ H s)(g:DPut H a y v H')(ry:RelV y u)(rv:RelV v r)(h:∀ s',Inv X pins σ H' s' -> Q () s') :
  wpAny (model X.prog X.w) A (setItem (.ref a) u r) Q E s:=by
 rcases g with ⟨kvs,k,e,ey,l,eH⟩ | ⟨kvs,k,b,e,ey,eb,l,eH⟩
 ·subst ey eH
  obtain ⟨z,hd,vs,rel,dd⟩:=dk_of I.hok e
  have hz:vs.length <= sizeLine:=by rw [← rel.length]; exact z
  have hl:(putK kvs k v).length <= sizeLine:=by have:=zAT kvs k v; omega
  refine wpAny_setItem_pairs (hsz:=hz) (kV_is ry) dd fun h' dd' hs=>h _ ?_
  have he:∃ q,h'.get? a=some q:=let ⟨q,_,_,hq,_⟩:=dd'; ⟨q,hq⟩
  exact d_write I (by rw [e]; exact True.intro) hs he (dk_new hl hd (rel.put k rv) dd')
 ·subst ey eH
  cases (show u=Value.ref b from ry)
  obtain ⟨z,hd,xs,rel,dd⟩:=dt_of I.hok e
  have hz:xs.length <= sizeLine:=by rw [← Paired.length rel]; exact z
  have hl:(putK kvs k v).length <= sizeLine:=by have:=zAT kvs k v; omega
  refine wpAny_setItem_heap (hsz:=hz) (tupleKind_room_in1 hu) (key_of I.hok eb) dd fun h' dd' hs=>h _ ?_
  obtain ⟨q,es,ep,hq,h2,h3,h4,_,h5⟩:=dd'
  refine d_write I (by rw [e]; exact True.intro) hs ⟨q,hq⟩ ⟨hl,hd,_,(rel.put k eb rv).keeps fun c ys ec=>?_,q,es,ep,hq,h2,h3,h4,h5⟩
  rw [yH (xU ec e (fun z=>nomatch z))]
  exact ec
end
section
variable {X:Cx}{pins:List (Addr × Obj)}{σ:St}{H:Hp}{s:Shared}{a:Addr}{kvs:List (Key × V)}{k:Key}{u:Value}{A:Around}{E:Value -> Shared -> Prop}
end
def NoSl (i:Expr):Prop:=∀ ov iv,subscripted i false ov iv=operate [ov,iv] (getItem ov iv)
theorem subD_of {prog:Program}{w:World}{A:Around}{E:Value -> Shared -> Prop}{s:Shared}{env:Env}{value slice:Expr}{pos:Pos}{T id:String}{Q:Value -> Shared -> Prop}
  (hl:typeLookup (.type T) "__getitem__" = pure (some (.builtin id))) (hs:NoSl slice)
  (h:wpAny (model prog w) A (eval value env) (fun o s₁=>wpAny (model prog w) A (eval slice env) (fun i s₂=>s₂.TypeIs o T /\ wpAny (model prog w) A (getItem o i) Q E s₂) E s₁) E s) :
  wpAny (model prog w) A (eval (.Subscript value slice pos) env) Q E s:=by
 refine Subscript_ (wpAny_mono h (fun o s₁ h₁=>wpAny_mono h₁ (fun i s₂ h₂=>?_) fun _ _ x=>x) fun _ _ x=>x)
 obtain ⟨hT,h₂⟩:=h₂
 unfold subscriptTail
 refine wpAny_bind ?_
 rw [getitemInPython_of_ne hT.not_modules]
 refine wpAny_bind (wpAny_specialOf hT hl ?_)
 have fin:wpAny (model prog w) A (subscripted slice false o i) (fun r s₃=>wpAny (model prog w) A (letTemporaryGo value o r >>= fun _=>pure r) Q E s₃) E s₂:=by
  rw [hs o i]
  exact wpAny_operating (wpAny_mono h₂ (fun r s₃ h₃=>wpAny_bind (wpAny_letTemporaryGo (wpAny_pure h₃))) fun _ _ x=>x)
 first
  | exact wpAny_pure (wpAny_bind fin)
  | exact wpAny_bind (wpAny_pure (wpAny_bind fin))
  | exact wpAny_bind fin
theorem zBw {X:Cx}{pins:List (Addr × Obj)}{σ:St}{H:Hp}{s:Shared}{a:Addr}{y:V}{o:Option V}(I:Inv X pins σ H s)(g:DGet H a y o):s.TypeIs (.ref a) "dict":=by
 rcases g with ⟨kvs,k,e,_,_⟩ | ⟨kvs,k,b,e,_,_,_⟩
 ·obtain ⟨_,_,vs,_,dd⟩:=dk_rd I.hok e
  exact dd.typeIs
 ·obtain ⟨_,_,xs,_,dd⟩:=dt_rd I.hok e
  exact dd.typeIs
section
variable {X:Cx}{o i e value:Expr}{pos pos' tpos:Pos}{td ty tv:TE}
end
theorem dk_empty {P:Program}{w:World}{H:Hp}(h:Heap)(hb:sysModules < h.objs.size):ObjOk P w H (h.push { cls:=.type "dict",data:=.dict #[] }) h.objs.size (.dK []) :=
 ⟨yM _,beq_eq_false_iff_ne.mpr (Ne.symm (zg hb)),[],.nil,Heap.DictOf.new h⟩
theorem dt_empty {P:Program}{w:World}{H:Hp}(h:Heap)(hb:sysModules < h.objs.size):ObjOk P w H (h.push { cls:=.type "dict",data:=.dict #[] }) h.objs.size (.dT []) :=
 ⟨yM _,beq_eq_false_iff_ne.mpr (Ne.symm (zg hb)),[],.nil,_,#[],0,Heap.get?_push_size _ rfl,⟨rfl,rfl,rfl⟩,rfl,rfl,List.nodup_nil⟩
def tDNewK:TE:=fun _ H Q=>∀ p,H p=none -> Q (.ref p) (upd H p (.dK []))
def tDNewT:TE:=fun _ H Q=>∀ p,H p=none -> Q (.ref p) (upd H p (.dT []))
section
variable {X:Cx}{pos:Pos}
theorem pe_dnewK:PE X (.Dict [] [] pos) tDNewK:=fun pins s σ H Q I h =>
 wpAny_Dict_empty ⟨.ref s.heap.objs.size,_,I.laid (a:=s.heap.objs.size) (o:=.dK []) (t':=s.toks) (fun _ _ q=>Heap.get?_push_of_some _ q) (zE _) (dk_empty s.heap I.big),rfl,h _ (I.hok.fresh (zE _))⟩
theorem pe_dnewT:PE X (.Dict [] [] pos) tDNewT:=fun pins s σ H Q I h =>
 wpAny_Dict_empty ⟨.ref s.heap.objs.size,_,I.laid (a:=s.heap.objs.size) (o:=.dT []) (t':=s.toks) (fun _ _ q=>Heap.get?_push_of_some _ q) (zE _) (dt_empty s.heap I.big),rfl,h _ (I.hok.fresh (zE _))⟩
end
def zA4:List (TE × TE) -> St -> Hp -> (List (V × V) -> Hp -> Prop) -> Prop
 | [],_,H,Q=>Q [] H
 | (tk,tv) :: r,σ,H,Q=>tk σ H fun x H1=>tv σ H1 fun y H2=>zA4 r σ H2 fun ps H3=>Q ((x,y) :: ps) H3
abbrev VV:List (V × V) -> List (Value × Value) -> Prop:=Paired fun p q=>RelV p.1 q.1 /\ RelV p.2 q.2
def PPs (X:Cx)(pos:Pos)(keys:List (Option Expr))(values:List Expr)(trs:List (TE × TE)):Prop :=
 ∀ (pins:List (Addr × Obj)) (s:Shared) (σ:St) (H:Hp) (Q:List (V × V) -> Hp -> Prop),Inv X pins σ H s -> zA4 trs σ H Q ->
  wpAny (model X.prog X.w) X.A (evalPairs (pairTrees keys values X.env pos)) (fun vs s'=>∃ ps H',Inv X pins σ H' s' /\ VV ps vs /\ Q ps H') X.xe s
theorem pps_nil {X:Cx}{pos:Pos}:PPs X pos [] [] []:=fun pins s σ H Q I h=>pairTrees_nil_walk ⟨[],H,I,.nil,h⟩
theorem pps_cons {X:Cx}{pos:Pos}{k v:Expr}{ks:List (Option Expr)}{vs:List Expr}{tk tv:TE}{trs:List (TE × TE)}(hk:PE X k tk)(hv:PE X v tv)(hr:PPs X pos ks vs trs) :
  PPs X pos (some k :: ks) (v :: vs) ((tk,tv) :: trs):=fun pins s σ H Q I h =>
 pairTrees_cons_walk (thn (hk pins s σ H _ I h) fun u s1 ⟨x,H1,I1,rx,q1⟩=>thn (hv pins s1 σ H1 _ I1 q1) fun w2 s2 ⟨y,H2,I2,ry,q2⟩ =>
  thn (hr pins s2 σ H2 _ I2 q2) fun ws s3 ⟨ps,H3,I3,rel,q3⟩=>⟨(x,y) :: ps,H3,I3,.cons ⟨rx,ry⟩ rel,q3⟩)
def zAU (kvs more:List (Key × V)):List (Key × V):=more.foldl (fun acc kv=>putK acc kv.1 kv.2) kvs
theorem KV.merge:∀ {more:List (Key × V)} {rs:List (Key × Value)} {kvs:List (Key × V)} {vs:List (Key × Value)},KV more rs -> KV kvs vs -> KV (zAU kvs more) (merged vs rs):=by
 intro more rs kvs vs r
 unfold KV at r
 induction r generalizing kvs vs with
 | nil=>intro q; exact q
 | @cons p q ps qs h t ih =>
  intro r0
  have e:KV (putK kvs p.1 p.2) (stored vs q.1 q.2):=by
   have:=r0.put p.1 h.2
   rw [← h.1]; exact this
  exact ih e
theorem zA0:∀ (more kvs:List (Key × V)),(zAU kvs more).length <= kvs.length+more.length
 | [],kvs=>by show kvs.length <= kvs.length+0; omega
 | p :: r,kvs=>by
  have h1:=zA0 r (putK kvs p.1 p.2)
  have h2:=zAT kvs p.1 p.2
  show (zAU (putK kvs p.1 p.2) r).length <= _
  rw [zq]; omega
theorem zB2 {P:Program}{w:World}:∀ {kvs:List (Key × V)} {ws:List (Value × Value)},VV (kvs.map fun kv=>(kV kv.1,kv.2)) ws -> ∃ rs,Carries (xY P w) ws rs /\ KV kvs rs
 | [],_,r=>by rw [jn] at r; cases r; exact ⟨[],True.intro,.nil⟩
 | p :: kvs,_,r=>by
  rw [zR] at r
  cases r with
  | @cons a b as bs h t =>
   obtain ⟨rs,c,q⟩:=zB2 (P:=P) (w:=w) t
   obtain ⟨b1,b2⟩:=b
   exact ⟨(p.1,b2) :: rs,⟨kV_is h.1,rfl,c⟩,.cons ⟨rfl,h.2⟩ q⟩
def tDisp (trs:List (TE × TE)):TE:=fun σ H Q=>∀ p,H p=none -> zA4 trs σ (upd H p (.dK [])) fun ps H2=>H2 p=some (.dK []) /\ ∃ kvs:List (Key × V),ps=kvs.map (fun kv=>(kV kv.1,kv.2)) /\ kvs.length <= 15 /\ Q (.ref p) (upd H2 p (.dK (zAU [] kvs)))
theorem pe_disp {X:Cx}{pos:Pos}{keys:List (Option Expr)}{values:List Expr}{trs:List (TE × TE)}(h:PPs X pos keys values trs)(hall:keys.all (·.isSome)=true)(hl:keys.length=values.length)(h0:keys ≠ [])
  (h15:keys.length <= 15):PE X (.Dict keys values pos) (tDisp trs):=by
 intro pins s σ H Q I q
 have hn:=I.hok.fresh (zE s.heap.objs.size)
 have I1:=I.laid (a:=s.heap.objs.size) (o:=.dK []) (h':=s.heap.push { cls:=.type "dict",data:=.dict #[] }) (t':=s.toks) (fun _ _ q=>Heap.get?_push_of_some _ q) (zE _) (dk_empty s.heap I.big)
 refine wpAny_Dict_walk (knd:=xY X.prog X.w) hall hl h0 h15 (thn (h pins _ σ _ _ I1 (q _ hn)) fun ws s2 ⟨ps,H2,I2,rel,e,kvs,ep,lk,q2⟩=>?_)
 subst ep
 obtain ⟨rs,c,rk⟩:=zB2 (P:=X.prog) (w:=X.w) rel
 obtain ⟨z,hd,vs0,r0,dd⟩:=dk_of I2.hok e
 cases r0
 refine ⟨rs,c,dd,fun h' dd' hs=>⟨.ref s.heap.objs.size,_,?_,rfl,q2⟩⟩
 have hz:(zAU [] kvs).length <= sizeLine:=by
  have h1:=zA0 kvs []
  rw [xj] at h1
  rw [sizeLine_eq]; omega
 have he:∃ q,h'.get? s.heap.objs.size=some q:=let ⟨q,_,_,hq,_⟩:=dd'; ⟨q,hq⟩
 exact d_write I2 (by rw [e]; exact True.intro) hs he (dk_new hz hd (rk.merge .nil) dd')
def IsD (H:Hp)(a:Addr):Prop:=(∃ kvs,Rd H a (.dK kvs)) \/ ∃ kvs,Rd H a (.dT kvs)
section
variable {X:Cx}{pins:List (Addr × Obj)}{σ:St}{H:Hp}{s:Shared}{a:Addr}{y d:V}{u r:Value}{o:Option V}{A:Around}{E:Value -> Shared -> Prop}
end
def tDGet1 (td ty:TE):TE:=fun σ H Q=>td σ H fun x H1=>∃ a,x = .ref a /\ IsD H1 a /\ ty σ H1 fun y H2=>∃ o,DGet H2 a y o /\ Q (o.getD .non) H2
def tDGet2 (td ty tx:TE):TE:=fun σ H Q=>td σ H fun x H1=>∃ a,x = .ref a /\ IsD H1 a /\ ty σ H1 fun y H2=>tx σ H2 fun z H3=>∃ o,DGet H3 a y o /\ Q (o.getD z) H3
section
variable {X:Cx}{o e f:Expr}{apos cpos:Pos}{td ty tx:TE}
end
section
variable {X:Cx}{pins:List (Addr × Obj)}{σ:St}{H:Hp}{s:Shared}{a:Addr}{kvs:List (Key × V)}{A:Around}{E:Value -> Shared -> Prop}
end
section
variable {X:Cx}{pins:List (Addr × Obj)}{σ:St}{H:Hp}{s:Shared}{a:Addr}{y:V}{u:Value}{A:Around}{E:Value -> Shared -> Prop}
end
end L2
namespace Att
open PySem PySem.W PySem.Calls PyProof.Rows
theorem zB1 {P:Params}{h:Heap}:∀ (ns:List Int) (vs:List Value),WellAll P h vs (ns.map WData.int) -> IntsAre vs ns:=by
 intro ns
 induction ns with
 | nil =>
  intro vs w
  rw [jn] at w
  cases w
  exact .nil
 | cons n ns ih =>
  intro vs w
  rw [zR] at w
  cases w with
  | cons a b =>
   cases a
   exact .cons _ _ (ih _ b)
theorem script_of {l:OpenLaw}{n:Nat}(hn:l.most=some n){P:Params}{h:Heap}{args:List WData}{vals:List Value}
  (hpre:l.row.toRowW.claim.pre args=true) (hwl:WellAll P h vals args) :
  ∃ a vs ns,vals=[Value.ref a] /\ args=[WData.list (ns.map WData.int)] /\ h.get? a=some { cls:=.type "list",data:=.seq vs.toArray } /\ IntsAre vs ns /\ ns.length <= n:=by
 have hsh:WShape.hasAll [] args [.list .int]=true:=(pre_splitW hpre).1
 have hc:l.pre.holds [] { args:=args } = true:=(pre_splitW hpre).2
 obtain ⟨d,r,rfl,h1,h2⟩:=hasAllW_cons hsh
 obtain rfl:=hasAllW_nil h2
 obtain ⟨xs,rfl,h3⟩:=hasW_list h1
 obtain ⟨ns,rfl⟩:=items_int h3
 have hlen:ns.length <= n:=by
  unfold OpenLaw.pre at hc
  have h4:(WTm.not (.lt (.lit (.int (n:Int))) (.len (.arg 0)))).holds [] { args:=[.list (ns.map .int)] } = true:=by
   have h4:=(holds_andW hc).1
   rw [hn] at h4
   exact h4
  have h5:=condW_of h4 (w_not (w_lt w_lit (w_len_list (w_arg rfl))))
  rw [qC] at h5
  refine Nat.le_of_not_lt fun q=>?_
  have q':(n:Int) < ((ns.length:Nat):Int):=by omega
  first
   | (rw [decide_eq_true q'] at h5; exact absurd h5 (by decide))
   | (simp at h5; omega)
 cases hwl with
 | cons w1 w2 =>
  cases w2
  cases w1 with
  | list ho hall=>exact ⟨_,_,ns,rfl,rfl,ho,zB1 ns _ hall,hlen⟩
theorem post_true (l:OpenLaw)(args:List WData):l.row.toRowW.claim.post args (.bool true) args=true :=
 postW_of (r:=l.row.toRowW) (X:=(true == true))
  (show WShape.has [] (.bool true) .bool=true by first | rfl | decide | simp [WShape.has,WShape.arms,WShape.armsAll])
  (show (WTm.eq .res (.lit (.bool true))).value [] { args:=args,res:=some (.bool true),after:=args } = some (.bool (true == true)) from w_eq_bool (w_res rfl) w_lit) rfl
theorem attach_call {l:OpenLaw}{n:Nat}{q:Program}{loose:List Str}{XP:(Str -> Option Value) -> Heap -> Prop}{YP:World -> Heap -> Prop}{d:DefRec}
  (hn:l.most=some n) (hdf:d.params.defaults=[])
  (call:∀ (w:World) (s₀ s₁:Shared) (mg mb:Str -> Option Value) (fa:Addr) (o:Obj) (pm cd doc:Value) (a:Addr) (vs:List Value) (ns:List Int),
   Ground q loose [] XP w s₀ mg mb s₁.heap -> YP w s₁.heap ->
   s₁.heap.get? fa=some o -> o.data = .func (docDef d.name d.params d.body d.scope pm cd doc) -> s₁.heap.CodeRec cd d.name -> mg d.name=some (.ref fa) ->
   s₁.heap.get? a=some { cls:=.type "list",data:=.seq vs.toArray } -> IntsAre vs ns -> ns.length <= n -> s₁.gens = #[] ->
   codeAny (model l.prog w) callerA (.call (.ref fa) ⟨[.ref a],[]⟩) (fun r s'=>r = .ok (.ret (.bool true)) /\ OldK s₁.heap s'.heap /\ s'.os=s₁.os /\ AllBare s'.gens) s₁) :
  WalkO q loose XP YP l.row.toRowW d [] (fun f vs=>PySem.call f vs):=by
 intro w s₀ s₁ mg mb G Y fa o pm cd doc dV kV ho hd hcd hD hmg hg args vals as hpre hlay hrd hwl hlo
 obtain rfl:dV = .none:=Dflts.none hD hdf
 obtain rfl:kV = .none:=Dflts.noKw hD
 obtain ⟨a,vs,ns,rfl,rfl,hobj,hints,hlen⟩:=script_of hn hpre hwl
 refine enter_call (codeAny_mono (call w s₀ s₁ mg mb fa o pm cd doc a vs ns G Y ho (fd_plain hd) hcd hmg hobj hints hlen hg) fun r s' hq=>?_)
 obtain ⟨rfl,h2,h3,h4⟩:=hq
 exact ⟨.inl ⟨.bool true,.bool true,[],rfl,fun _=>rfl,.bool true,post_true l _,fun _=>⟨List.Pairwise.nil,fun _ hm=>(nomatch hm)⟩⟩,h2,h3,h4⟩
section
variable {prog:Program}{w:World}{A:Around}{E:Value -> Shared -> Prop}{s:Shared}{K:Frag}
end
end Att
namespace L2
open PySem PySem.Spec PyProof.Rows
theorem vals_ints:∀ {vs:List Value} {ns:List Int},IntsAre vs ns -> Vals (ns.map V.int) vs
 | _,_,.nil=>.nil
 | _,_,.cons n t h=>.cons ⟨t,rfl⟩ (vals_ints h)
def Only (H:Hp):Prop:=∀ b,H b=none \/ ∃ o xs,H b=some (.frz o (.lst xs))
theorem law_call {P:Program}{w:World}{K:zA}{mg mb:Str -> Option Value}{CX:CXT}{k:Nat}{fa a:Addr}{fd:FuncData}{x:Str}{sp:Sp}{s₁:Shared}{vs:List Value}{ns:List Int}
  (KX:K.In s₁.heap) (hns:s₁.heap.Ns mainGlobals mg) (hb:s₁.heap.Ns builtinsNs mb) (hbb:∀ x:Str,x ≠ "__name__" -> mb x=bootBuiltins x) (hlim:s₁.heap.NoLimit) (hg:s₁.gens = #[])
  (ha:s₁.heap.get? a=some { cls:=.type "list",data:=.seq vs.toArray }) (hi:IntsAre vs ns) (hl:ns.length <= sizeLine) (hr:Room k callerA)
  (F:∀ base:Heap,K.In base -> base.Ns mainGlobals mg -> FnOk P w K mg base CX k fa fd [x] sp) (hbind:∀ (s:Shared) (u:Value),BindsTo s fd ⟨[u],[]⟩ [(x,u)])
  (hsp:∀ H:Hp,Only H -> SqL K H a (ns.map V.int) -> sp [.ref a] H (fun v _=>v = .bl true) fun _ _ _=>False)
  (hCX:∀ H e s',CX [] H s₁ (fun _ _ _=>False) e s' -> False) :
  codeAny (model P w) callerA (.call (.ref fa) ⟨[.ref a],[]⟩) (fun r s'=>r = .ok (.ret (.bool true)) /\ OldK s₁.heap s'.heap /\ s'.os=s₁.os /\ AllBare s'.gens) s₁:=by
 have rv:=vals_ints hi
 have lenV:=hi.length
 -- from an abstract heap in which nothing but the script may be tracked
 have core:∀ H:Hp,Only H -> SqL K H a (ns.map V.int) -> HOk P w H s₁.heap -> (∀ b,H b ≠ none -> b=a) -> (H a ≠ none -> K.lookup a=none) ->
   codeAny (model P w) callerA (.call (.ref fa) ⟨[.ref a],[]⟩) (fun r s'=>r = .ok (.ret (.bool true)) /\ OldK s₁.heap s'.heap /\ s'.os=s₁.os /\ AllBare s'.gens) s₁:=by
  intro H hO hS hok hA hK
  have base_of:∀ {b:Addr} {o:Obj},s₁.heap.get? b=some o -> H b=none -> (hidT s₁.heap H).get? b=some o:=fun e n=>hidT_get e n
  have noA:∀ {b:Addr} {o:Obj} {es:Array DictEntry} {ep:Nat},s₁.heap.get? b=some o -> o.data = .dict es ep -> H b=none:=fun {b o es ep} e d=>by
   cases q:H b with
   | none=>rfl
   | some u =>
    have e':b=a:=hA b (by rw [q]; simp)
    subst e'
    rw [ha] at e; cases e
    have d':Data.seq vs.toArray _=Data.dict es ep:=d
    cases d'
  have nsK:∀ {b:Addr} {m:Str -> Option Value},s₁.heap.Ns b m -> (hidT s₁.heap H).Ns b m:=fun {b m} ⟨o,es,ep,e,d,r⟩=>⟨o,es,ep,base_of e (noA e d),d,r⟩
  have hKb:K.In (hidT s₁.heap H):=fun b o e=>base_of (KX b o e) (by
   cases q:H b with
   | none=>rfl
   | some u =>
    have e':b=a:=hA b (by rw [q]; simp)
    subst e'
    rw [hK (by rw [q]; simp)] at e; cases e)
  have hM:Mod K mg (hidT s₁.heap H):=⟨hKb,nsK hns,⟨mb,nsK hb,hbb⟩,let ⟨mc,h1,h2⟩:=hlim; ⟨mc,nsK h1,h2⟩⟩
  have e0:Env0 P w K mg (hidT s₁.heap H) callerA [] s₁ H:=⟨rfl,hM,fun b o e=>of_hidT e,Nat.le_of_eq (hidT_size _ _),trivial,fun b hb=>absurd (show b ∈ ([]:List Addr) from hb) (by simp),hok,.of_eq hg⟩
  refine codeAny_mono ((F _ hKb (nsK hns)).run callerA [] s₁ H ⟨[.ref a],[]⟩ [.ref a] [.ref a] _ _ hr e0 (hbind s₁ (.ref a)) (.cons rfl .nil) (hsp H hO hS)) fun r s' h=>?_
  cases r with
  | error e=>exact (hCX H e s' h).elim
  | ok fl =>
   cases fl with
   | next=>exact False.elim h
   | brk=>exact False.elim h
   | cont=>exact False.elim h
   | ret u =>
    obtain ⟨v,H',os,bare,un,hok',r',q⟩:=h
    have q':v = .bl true:=q
    subst q'
    obtain rfl:u=Value.bool true:=r'
    refine ⟨rfl,OldK.of_keep fun b o e=>?_,os,bare⟩
    cases q:H b with
    | none=>exact un.keep b o e q (by intro z; exact absurd (show b ∈ ([]:List Addr) from z) (by simp)) (by simp)
    | some u =>
     rcases hO b with z | ⟨ob,xs,z⟩
     ·rw [q] at z; cases z
     ·have z2:=un.frzs b ob _ z
      obtain ⟨e1,_⟩:=hok b _ z
      obtain ⟨e2,_⟩:=hok' b _ z2
      rw [e] at e1; cases e1
      exact e2
 cases hk:K.lookup a with
 | some o =>
  -- the script is one of the module's own objects
  have e:=KX a o hk
  rw [ha] at e
  cases e
  refine core (fun _=>none) (fun _=>.inl rfl) (.inr ⟨_,vs.toArray,_,hk,rfl,rfl,rfl,by rw [qM,lenV]; exact hl,by simpa using rv⟩) (fun b u z=>by have z':(none:Option HO)=some u:=z; cases z') (fun b z=>absurd rfl z) fun z=>absurd rfl z
 | none =>
  refine core (fun b=>if b=a then some (.frz { cls:=.type "list",data:=.seq vs.toArray } (.lst (ns.map V.int))) else none) (fun b=>?_) (.inl (.inr ⟨{ cls:=.type "list",data:=.seq vs.toArray },if_pos rfl⟩)) (fun b u z=>?_) (fun b z=>?_) fun _=>hk
  ·by_cases hb:b=a
   ·exact .inr ⟨_,_,if_pos hb⟩
   ·exact .inl (if_neg hb)
  ·by_cases hb:b=a
   ·have z':=(if_pos hb).symm.trans z
    cases z'
    subst hb
    exact ⟨ha,by rw [qC]; exact hl,vs,_,rv,ha⟩
   ·have z':=(if_neg hb).symm.trans z
    cases z'
  ·by_cases hb:b=a
   ·exact hb
   ·exact absurd (if_neg hb) z
end L2
namespace L2
open PySem PySem.Spec PyProof.Rows
theorem walk_of {l:PySem.W.OpenLaw}{n k:Nat}{q:Program}{loose:List Str}{XP:(Str -> Option Value) -> Heap -> Prop}{YP:World -> Heap -> Prop}{d:DefRec}{K:Params -> zA}{CX:World -> CXT}{sp:World -> Sp}{x:Str}
  (hn:l.most=some n) (hn2:n <= sizeLine) (hdf:d.params.defaults=[]) (hr:Room k callerA)
  (hY:∀ (w:World) (h:Heap),YP w h -> (K w.params).In h)
  (F:∀ (w:World) (mg:Str -> Option Value) (fa:Addr) (h:Heap),(K w.params).In h -> h.Ns mainGlobals mg -> mg d.name=some (.ref fa) ->
   ∃ fd:FuncData,(∀ (s:Shared) (u:Value),BindsTo s fd ⟨[u],[]⟩ [(x,u)]) /\
    ∀ base:Heap,(K w.params).In base -> base.Ns mainGlobals mg -> FnOk l.prog w (K w.params) mg base (CX w) k fa fd [x] (sp w))
  (hsp:∀ (w:World) (H:Hp) (a:Addr) (ns:List Int),ns.length <= n -> Only H -> SqL (K w.params) H a (ns.map V.int) -> sp w [.ref a] H (fun v _=>v = .bl true) fun _ _ _=>False)
  (hCX:∀ (w:World) (H:Hp) (s:Shared) (e:Value) (s':Shared),CX w [] H s (fun _ _ _=>False) e s' -> False) :
  PySem.W.WalkO q loose XP YP l.row.toRowW d [] (fun f vs=>PySem.call f vs):=by
 refine Att.attach_call hn hdf fun w s₀ s₁ mg mb fa o pm cd doc a vs ns G Y ho hd hcd hmg hobj hints hlen hg=>?_
 have KX:=hY w _ Y
 obtain ⟨fd,hb,hF⟩:=F w mg fa _ KX G.T.g hmg
 exact law_call KX G.T.g G.T.b G.T.builtins G.T.nolimit hg hobj hints (zZ hlen hn2) hr hF hb (fun H hO hS=>hsp w H a ns hlen hO hS) fun H e s'=>hCX w H s₁ e s'
end L2
namespace L2
open PySem PySem.Spec PyProof.Rows
def zl (s:Stmt):Arguments:=match s with
 | .FunctionDef _ a _ _ _ _ _ _ _ _=>a
 | _=>{ posonlyargs:=[],args:=[],vararg:=none,kwonlyargs:=[],kw_defaults:=[],kwarg:=none,defaults:=[] }
def zh (s:Stmt):List Stmt:=match s with
 | .FunctionDef _ _ b _ _ _ _ _ _ _=>b
 | _=>[]
def zH (s:Stmt):Scope:=match s with
 | .FunctionDef _ _ _ _ _ _ sc _ _ _=>sc
 | _=>{ kind:=.function,names:=[],isGenerator:=false,isCoroutine:=false }
abbrev CX0:CXT:=fun _ _ _ _ _ _=>False
abbrev E0:XK:=fun _ _ _=>False
theorem pass0 {X:Cx}:Passes CX0 X E0:=fun _ _ _ _ _ _ _ h=>h.elim
structure Fun (K:zA) (x qual:Str) (st:Stmt) (f:Addr) (fd:FuncData):Prop where
 ex:∃ (oc:Value) (od:Option Addr) (kV doc pm:Value) (an:Option Addr) (cdv ct:Value) (osl:Array (Option Value)),
  fd=zN x qual (zl st) (zh st) (zH st) .none kV doc pm an cdv ct /\ K.lookup f=some ⟨oc,od,.func fd,osl⟩ /\ zK K cdv qual=true
 kp:zJ K (.ref f)=true
section
variable {P:Program}{w:World}{K:zA}{mg:Str -> Option Value}{base:Heap}
theorem Fun.ok {x qual:Str}{st:Stmt}{f:Addr}{fd:FuncData}{N ps:List Str}{k:Nat}{sp:Sp}(F:Fun K x qual st f fd)(S:FnScope N ps (zH st))(len:∀ vs H Q E,sp vs H Q E -> vs.length=ps.length)
  (hbody:∀ (cdv:Value) (A:Around) (outer:List Env) (s:Shared) (H:Hp) (vs:List V) (Q:VK) (E:XK),Room k (A.deeper (envOfC qual (zH st) s.heap.objs.size f cdv)) -> sp vs H Q E ->
   ∃ t,PSs (cxOf CX0 P w K mg base N qual (zH st) f cdv A outer s H E).nox (zh st) t /\ t { nx:=fun _ H'=>Q .non H',rt:=Q } (yJ N vs) H):FnOk P w K mg base CX0 (k+1) f fd ps sp:=by
 obtain ⟨oc,od,kV,doc,pm,an,cdv,ct,osl,rfl,lk,hcd⟩:=F.ex
 refine fn_of lk hcd S len fun A outer s H vs Q E hr hsp=>?_
 obtain ⟨t,h,q⟩:=hbody cdv A outer s H vs Q E hr hsp
 exact ⟨t,h.nox,q⟩
theorem Fun.binds {x qual:Str}{st:Stmt}{f:Addr}{fd:FuncData}{ps:List Str}(F:Fun K x qual st f fd)
  (h:∀ (kV doc pm:Value) (an:Option Addr) (cdv ct:Value) (us:List Value),us.length=ps.length -> bindArgs (zN x qual (zl st) (zh st) (zH st) .none kV doc pm an cdv ct) ⟨us,[]⟩=pure (ps.zip us)):Binds K fd ps []:=by
 obtain ⟨oc,od,kV,doc,pm,an,cdv,ct,osl,rfl,lk,hcd⟩:=F.ex
 exact .all (h kV doc pm an cdv ct)
theorem yD {x qual:Str}{st:Stmt}{f:Addr}{oc:Value}{od an:Option Addr}{osl:Array (Option Value)}{kV doc pm cdv ct:Value}(l:K.lookup f=some ⟨oc,od,.func (zN x qual (zl st) (zh st) (zH st) .none kV doc pm an cdv ct),osl⟩)
  (c:zK K cdv qual=true) (k:zJ K (.ref f)=true):Fun K x qual st f (zN x qual (zl st) (zh st) (zH st) .none kV doc pm an cdv ct):=⟨⟨oc,od,kV,doc,pm,an,cdv,ct,osl,rfl,l,c⟩,k⟩
end
theorem j7 {A:Around}{k:Nat}(hr:Room k A):A.units+1 < cLine:=yB (Nat.add_le_add_left (by decide:1 <= 64) _) hr.units
theorem small1000 {n:Nat}(h:n <= 1000):n < sizeLine:=yB h (by decide)
section
variable {X:Cx}
theorem pv (i:Nat) {x:Str} {pos:Pos} (hN:X.N[i]? = some x:=by rfl) (hv:Vis X.env.scope x:=by first | exact Or.inl rfl | exact Or.inr (Or.inl rfl) | exact Or.inr (Or.inr rfl)) (hd:(x == ("__debug__" : Str))=false:=by decide)
  (hcd:(x == ("__classdict__" : Str))=false:=by decide):PE X (.Name x pos) (tVar i):=pe_var hN hv hd hcd
end
theorem xS {c A B:Prop}[Decidable c](h1:c -> A)(h2:¬ c -> B):if c then A else B:=by
 by_cases h:c
 ·rw [if_pos h]
  exact h1 h
 ·rw [if_neg h]
  exact h2 h
def Same (H H':Hp):Prop:=∀ b o,H b=some o -> H' b=some o
theorem Same.refl (H:Hp):Same H H:=fun _ _ h=>h
theorem Same.trans {H H1 H2:Hp}(a:Same H H1)(b:Same H1 H2):Same H H2:=fun c o h=>b c o (a c o h)
theorem Same.free {H H':Hp}(e:Same H H'){l:Addr}(h:H' l=Option.none):H l=Option.none:=by
 cases q:H l with
 | none=>rfl
 | some o =>
  rw [e l o q] at h
  cases h
theorem Same.seq {K:zA}{H H':Hp}{a:Addr}{xs:List V}(e:Same H H')(h:SqL K H a xs):SqL K H' a xs:=by
 rcases h with (h | ⟨o,h⟩) | h
 ·exact .inl (.inl (e _ _ h))
 ·exact .inl (.inr ⟨o,e _ _ h⟩)
 ·exact .inr h
end L2
namespace L2
open PySem PySem.Spec PyProof.Rows
section
variable {X:Cx}
end
end L2
namespace L2
open PySem PySem.Spec PyProof.Rows
section
variable {κ:Type}[DecidableEq κ]
end
end L2
namespace L2
open PySem PySem.Spec PyProof.Rows
section
variable {σ:St}{H:Hp}{Q:VK}{D:Ends}
theorem w_var {i:Nat}:tVar i σ H Q = ∃ v,σ[i]? = some (some v) /\ Q v H:=rfl
theorem w_C {v:V}:tC v σ H Q=Q v H:=rfl
theorem w_op {r:R2}{ta tb:TE}:tOp r ta tb σ H Q=ta σ H fun x H1=>tb σ H1 fun y H2=>r x y H2 Q:=rfl
theorem w_un {r:V -> Hp -> VK -> Prop}{ta:TE}:tUn r ta σ H Q=ta σ H fun x H1=>r x H1 Q:=rfl
theorem w_rI {C:Int -> Int -> Prop}{g:Int -> Int -> V}{i j:Int}:rI C g (.int i) (.int j) H Q=(C i j /\ Q (g i j) H) :=
 propext ⟨fun ⟨a,b,e1,e2,c,q⟩=>by cases e1; cases e2; exact ⟨c,q⟩,fun ⟨c,q⟩=>⟨i,j,rfl,rfl,c,q⟩⟩
theorem w_rI0 {g:Int -> Int -> V}{i j:Int}:rI0 g (.int i) (.int j) H Q=Q (g i j) H :=
 propext ⟨fun ⟨a,b,e1,e2,q⟩=>by cases e1; cases e2; exact q,fun q=>⟨i,j,rfl,rfl,q⟩⟩
theorem w_rU {g:Int -> V}{i:Int}:rU g (.int i) H Q=Q (g i) H :=
 propext ⟨fun ⟨a,e1,q⟩=>by cases e1; exact q,fun q=>⟨i,rfl,q⟩⟩
theorem w_eqI {i j:Int}:rEq (.int i) (.int j) H Q=Q (.bl (decide (i=j))) H :=
 propext (by
  have e:decide (V.int i=V.int j)=decide (i=j):=by by_cases h:i=j <;> simp [h]
  unfold rEq; rw [e]; exact ⟨fun h=>h.2,fun h=>⟨rfl,h⟩⟩)
theorem w_neI {i j:Int}:rNe (.int i) (.int j) H Q=Q (.bl (!decide (i=j))) H :=
 propext (by
  have e:decide (V.int i=V.int j)=decide (i=j):=by by_cases h:i=j <;> simp [h]
  unfold rNe; rw [e]; exact ⟨fun h=>h.2,fun h=>⟨rfl,h⟩⟩)
theorem w_seq {t u:TS}:tSeq t u D σ H=t { D with nx:=u D } σ H:=rfl
theorem w_next:tNext D σ H=D.nx σ H:=rfl
theorem w_break:tBreak D σ H=D.bk σ H:=rfl
theorem w_cont:tCont D σ H=D.ct σ H:=rfl
theorem w_ifS {c:TT}{t u:TS}:tIfS c t u D σ H=c σ H fun b H1=>if b=true then t D σ H1 else u D σ H1:=rfl
theorem w_ret {te:TE}:tRet te D σ H=te σ H D.rt:=rfl
theorem w_retN:tRetN D σ H=D.rt .non H:=rfl
theorem w_drop {te:TE}:tDrop te D σ H=te σ H fun _ H1=>D.nx σ H1:=rfl
theorem w_asg {te:TE}{g:TG}:tAsg te g D σ H=te σ H fun x H1=>g x σ H1 D.nx:=rfl
theorem xN {i:Nat}{v:V}{R:St -> Hp -> Prop}:xk i v σ H R=R (σ.set i (some v)) H:=rfl
theorem w_gSub {to ti:TE}{t:TSet}{v:V}{R:St -> Hp -> Prop}:gSub to ti t v σ H R=to σ H fun o H1=>ti σ H1 fun i H2=>t o i v H2 fun H3=>R σ H3:=rfl
theorem w_test {t:TE}{R:Bool -> Hp -> Prop}:tTest t σ H R=t σ H fun x H'=>∃ k,x = .bl k /\ R k H':=rfl
theorem w_B {t:TE}{R:Bool -> Hp -> Prop}:tB t σ H R=t σ H fun x H'=>∃ k,x = .bl k /\ R k H':=rfl
theorem w_and {t u:TT}{R:Bool -> Hp -> Prop}:tAnd t u σ H R=t σ H fun c H1=>if c=true then u σ H1 R else R false H1:=rfl
theorem w_or {t u:TT}{R:Bool -> Hp -> Prop}:tOr t u σ H R=t σ H fun c H1=>if c=true then R true H1 else u σ H1 R:=rfl
theorem w_not {t:TT}{R:Bool -> Hp -> Prop}:tNot t σ H R=t σ H fun c H1=>R (!c) H1:=rfl
theorem w_andV {ta tb:TE}:tAndV ta tb σ H Q=ta σ H fun x H1=>∃ c,x = .bl c /\ if c=true then tb σ H1 Q else Q (.bl false) H1:=rfl
theorem w_orV {ta tb:TE}:tOrV ta tb σ H Q=ta σ H fun x H1=>∃ c,x = .bl c /\ if c=true then Q (.bl true) H1 else tb σ H1 Q:=rfl
theorem w_notV {ta:TE}:tNotV ta σ H Q=ta σ H fun x H1=>∃ c,x = .bl c /\ Q (.bl (!c)) H1:=rfl
theorem w_if {t:TT}{ta tb:TE}:tIf t ta tb σ H Q=t σ H fun c H1=>if c=true then ta σ H1 Q else tb σ H1 Q:=rfl
theorem w_call {sp:Sp}{dvs:List V}{E:XK}{t:TA}:tCall sp dvs E t σ H Q=t σ H fun vs H1=>sp (vs ++ dvs) H1 Q E:=rfl
theorem w_nil {R:List V -> Hp -> Prop}:tNil σ H R=R [] H:=rfl
theorem w_cons {ta:TE}{tr:TA}{R:List V -> Hp -> Prop}:tCons ta tr σ H R=ta σ H fun x H1=>tr σ H1 fun xs H2=>R (x :: xs) H2:=rfl
theorem w_CB {r:List V -> Hp -> VK -> Prop}{t:TA}:tCB r t σ H Q=t σ H fun vs H1=>r vs H1 Q:=rfl
theorem w_lst {t:TA}:tLst t σ H Q=t σ H fun xs H1=>xs.length <= sizeLine /\ ∀ p,H1 p=none -> Q (.ref p) (upd H1 p (.lst xs)):=rfl
theorem w_tup {t:TA}:tTup t σ H Q=t σ H fun xs H1=>xs.length <= sizeLine /\ ∀ p,H1 p=none -> Q (.ref p) (upd H1 p (.tup xs)):=rfl
theorem w_isN {ta:TE}:tIsN ta σ H Q=ta σ H fun x H1=>Q (.bl (decide (x = .non))) H1:=rfl
theorem w_notN {ta:TE}:tNotN ta σ H Q=ta σ H fun x H1=>Q (.bl (!decide (x = .non))) H1:=rfl
theorem w_chain {r r':R2}{ta tb tc:TE}:tChain r r' ta tb tc σ H Q=(ta σ H fun x H1=>tb σ H1 fun y H2=>r x y H2 fun z H3=>∃ k,z = .bl k /\
 if k=true then tc σ H3 fun w H4=>r' y w H4 Q else Q (.bl false) H3):=by first | rfl | (unfold tChain; rfl)
end
section
variable {X:Cx}{st:Stmt}{rest:List Stmt}{t u:TS}
def tMid (t u:TS):TS:=fun D σ H=>∃ mid:St -> Hp -> Prop,t { D with nx:=mid } σ H /\ ∀ σ' H',mid σ' H' -> u D σ' H'
theorem xO (h1:PS X st t)(h2:PSs X rest u):PSs X (st :: rest) (tMid t u):=by
 intro pins s σ H D I h
 obtain ⟨mid,q,k⟩:=h
 refine wpAny_execs_cons (thn (h1 pins s σ H { D with nx:=mid } I q) fun f s1 q=>?_)
 cases f with
 | next =>
  obtain ⟨σ',H',I',q⟩:=q
  exact h2 pins s1 σ' H' D I' (k _ _ q)
 | ret v=>exact q
 | brk=>exact q
 | cont=>exact q
end
structure Cal (P:Program) (w:World) (K:zA) (mg:Str -> Option Value) (base:Heap) (k:Nat) (x:Str) (ps:List Str) (sp:Sp):Prop where
 ex:∃ (f:Addr) (fd:FuncData),FnOk P w K mg base CX0 k f fd ps sp /\ mg x=some (.ref f) /\ zJ K (.ref f)=true /\ Binds K fd ps []
theorem Cal.mono {P:Program}{w:World}{K:zA}{mg:Str -> Option Value}{base:Heap}{j k:Nat}{x:Str}{ps:List Str}{sp:Sp}(C:Cal P w K mg base j x ps sp)(h:j <= k):Cal P w K mg base k x ps sp:=by
 obtain ⟨f,fd,a,b,c,d⟩:=C.ex
 exact ⟨f,fd,a.mono h,b,c,d⟩
theorem Cal.imp {P:Program}{w:World}{K:zA}{mg:Str -> Option Value}{base:Heap}{k:Nat}{x:Str}{ps:List Str}{sp sp':Sp}(C:Cal P w K mg base k x ps sp)(h:∀ vs H Q E,sp' vs H Q E -> sp vs H Q E):Cal P w K mg base k x ps sp':=by
 obtain ⟨f,fd,a,b,c,d⟩:=C.ex
 exact ⟨f,fd,a.imp h,b,c,d⟩
section
variable {X:Cx}{k:Nat}{x:Str}{ps:List Str}{sp:Sp}{e:Expr}{es:List Expr}{t:TA}{p pos:Pos}
theorem zP (C:Cal X.prog X.w X.K X.mg X.base k x ps sp) (hr:Room k X.A) (hg:Gl X x) (ha:PA X (e :: es) t) (hd:(x == ("__debug__" : Str))=false:=by decide)
  (he:starEach (e :: es) X.env=(false,eval e X.env) :: starEach es X.env:=by rfl) (hpl:(backTo pos (starEach es X.env)).any (·.1)=false:=by rfl):PE X (.Call (.Name x p) (e :: es) [] pos) (tCall sp [] E0 t):=by
 obtain ⟨f,fd,a,b,c,d⟩:=C.ex
 exact pe_call a hr hg b c d .nil pass0 ha hd he hpl
end
theorem zBH {i:Int}{n:Nat}(h:i.natAbs < 2 ^ n):Builtin.Int.intBits i <= n:=by
 unfold Builtin.Int.intBits
 split
 ·exact yM _
 ·rename_i h0
  have hp:i.natAbs ≠ 0:=by
   intro z
   exact h0 (by simpa using z)
  have:i.natAbs.log2 < n:=(Nat.log2_lt hp).mpr h
  omega
def CShl (i j:Int):Prop:=0 <= j /\ j <= 1000000 /\ Builtin.Int.intBits i <= 1000000
def CDivB (i j:Int):Prop:=0 < j /\ j.natAbs.log2 < 9000
section
variable {X:Cx}
theorem jh:OpR X (binaryOp .LShift) (rI CShl fun i j=>.int (i * 2 ^ j.toNat)):=opI fun i j _ _ _ _ _ hc q=>lshift_int hc.1 (by have h1:=hc.2.1; have h2:=hc.2.2; omega) q
theorem yX:OpR X (binaryOp .Mult) (rI IntMulOk fun i j=>.int (i * j)):=opI fun _ _ _ _ _ _ _ hc q=>mul_int q hc
theorem Js:OpR X (binaryOp .FloorDiv) (rI CDivB fun i j=>.int (i / j)):=opI fun i j _ _ _ _ _ hc q=>by
 have e:i / j=i.fdiv j:=(Int.fdiv_eq_ediv_of_nonneg i (Int.le_of_lt hc.1)).symm
 rw [e] at q
 exact floordiv_int (by have:=hc.1; omega) q (.inl (PyProof.noPylong_of_log2 hc.2))
def rIsI (K:zA):List V -> Hp -> VK -> Prop:=fun xs H Q=>∃ x T t b,xs=[x,.ty T] /\ TyOf K H x t /\ yw K t (.type T)=some b /\ Q (.bl b) H
theorem Jt:CallR X (.builtin "isinstance") (rIsI X.K):=by
 intro pins s σ H xs us Q I r h
 obtain ⟨x,T,t,b,rfl,ty,e,q⟩:=h
 obtain ⟨u1,u2,rfl,r1,r2⟩:=Vals.two r
 cases r2
 exact isinst_ok I r1 ty e fun tk=>⟨.bl b,H,I.tok _,rfl,q⟩
end
theorem mul_l {i j:Int}(h1:-(2 ^ 64) < i)(h2:i < 2 ^ 64):IntMulOk i j:=.of_left (intBits_le_64 h1 h2)
theorem mul_r {i j:Int}(h1:-(2 ^ 64) < j)(h2:j < 2 ^ 64):IntMulOk i j:=.of_right (intBits_le_64 h1 h2)
theorem mul_b {i j:Int}{m n:Nat}(h1:i.natAbs < 2 ^ m)(h2:j.natAbs < 2 ^ n)(h:m+n <= 2 ^ 27):IntMulOk i j:=by
 have a:=zBH h1
 have b:=zBH h2
 unfold IntMulOk
 have c:Builtin.Int.intTooBig (((Builtin.Int.intBits i+Builtin.Int.intBits j:Nat):Int))=false:=decide_eq_false (Int.not_lt.mpr (show ((Builtin.Int.intBits i+Builtin.Int.intBits j:Nat):Int) <= 2 ^ 27 by omega))
 intro z
 rw [zX] at z
 have z2:=z.2
 first | (rw [show ((Builtin.Int.intBits i:Nat):Int)+((Builtin.Int.intBits j:Nat):Int)=((Builtin.Int.intBits i+Builtin.Int.intBits j:Nat):Int) from rfl,c] at z2; cases z2) | (simp [c] at z2)
theorem kit_same {K:zA}(T:String):yw K (.type T) (.type T)=some true:=by unfold yw; rw [if_pos (by simp)]
theorem kit_int_bool {K:zA}:yw K (.type "int") (.type "bool")=some false:=by first | rfl | decide +kernel | (unfold yw PySem.W.kitCls; decide +kernel)
theorem kit_bool_int {K:zA}:yw K (.type "bool") (.type "int")=some true:=by first | rfl | decide +kernel
theorem kit_non_int {K:zA}:yw K (.type "NoneType") (.type "int")=some false:=by first | rfl | decide +kernel
theorem kit_str_int {K:zA}:yw K (.type "str") (.type "int")=some false:=by first | rfl | decide +kernel
end L2
namespace L2
open PySem PySem.Spec PyProof.Rows
theorem xI:bootBuiltins "len" = some (.builtin "len"):=by decide +kernel
theorem bo_abs:bootBuiltins "abs" = some (.builtin "abs"):=by decide +kernel
theorem bo_min:bootBuiltins "min" = some (.builtin "min"):=by decide +kernel
theorem bo_max:bootBuiltins "max" = some (.builtin "max"):=by decide +kernel
theorem bo_sum:bootBuiltins "sum" = some (.builtin "sum"):=by decide +kernel
theorem bo_all:bootBuiltins "all" = some (.builtin "all"):=by decide +kernel
theorem xt:bootBuiltins "isinstance" = some (.builtin "isinstance"):=by decide +kernel
theorem bo_int:bootBuiltins "int" = some (.type "int"):=by decide +kernel
theorem bo_bool:bootBuiltins "bool" = some (.type "bool"):=by decide +kernel
theorem Je:bootBuiltins "list" = some (.type "list"):=by decide +kernel
theorem Ju:bootBuiltins "tuple" = some (.type "tuple"):=by decide +kernel
theorem bo_zip:bootBuiltins "zip" = some (.type "zip"):=by decide +kernel
theorem bo_reversed:bootBuiltins "reversed" = some (.type "reversed"):=by decide +kernel
def CPowB (i j:Int):Prop:=0 <= j /\ j <= 1000000 /\ -(2 ^ 64) < i /\ i < 2 ^ 64
section
variable {X:Cx}
theorem JC:OpR X (binaryOp .Pow) (rI CPowB fun i j=>.int (i ^ j.toNat)):=opI fun i j _ _ _ _ _ hc q=>pow_int_small hc.1 hc.2.1 (by have h1:=hc.2.2.1; have h2:=hc.2.2.2; omega) q
end
theorem w_shl1 {j:Int}:CShl 1 j=(0 <= j /\ j <= 1000000):=propext ⟨fun h=>⟨h.1,h.2.1⟩,fun h=>⟨h.1,h.2,zZ (zBH (n:=1) (by decide)) (by decide)⟩⟩
theorem divB {i j:Int}(h:0 < j)(h2:j < 2 ^ 64):CDivB i j:=⟨h,by
 have e:j.natAbs < 2 ^ 64:=by omega
 have e2:j.natAbs ≠ 0:=by omega
 have:=(Nat.log2_lt e2).mpr e
 omega⟩
section
variable {P:Program}{w:World}{K:zA}{mg:Str -> Option Value}{base:Heap}
theorem yT {x qual:Str}{st:Stmt}{N ps:List Str}{k:Nat}{sp:Sp}(T:∃ (f:Addr) (fd:FuncData),Fun K x qual st f fd /\ mg x=some (.ref f) /\ Binds K fd ps [])(S:FnScope N ps (zH st))(len:∀ vs H Q E,sp vs H Q E -> vs.length=ps.length)
  (hbody:∀ (f:Addr) (cdv:Value) (A:Around) (outer:List Env) (s:Shared) (H:Hp) (vs:List V) (Q:VK) (E:XK),Room k (A.deeper (envOfC qual (zH st) s.heap.objs.size f cdv)) -> sp vs H Q E ->
   ∃ t,PSs (cxOf CX0 P w K mg base N qual (zH st) f cdv A outer s H E).nox (zh st) t /\ t { nx:=fun _ H'=>Q .non H',rt:=Q } (yJ N vs) H):Cal P w K mg base (k+1) x ps sp:=by
 obtain ⟨f,fd,F,m,b⟩:=T
 exact ⟨f,fd,F.ok S len fun cdv A outer s H vs Q E hr h=>hbody f cdv A outer s H vs Q E hr h,m,F.kp,b⟩
end
def Chg (p:Addr)(H H':Hp):Prop:=∀ b o,b ≠ p -> H b=some o -> H' b=some o
theorem Chg.refl {p:Addr}{H:Hp}:Chg p H H:=fun _ _ _ h=>h
theorem Chg.trans {p:Addr}{H H1 H2:Hp}(a:Chg p H H1)(b:Chg p H1 H2):Chg p H H2:=fun c o n h=>b c o n (a c o n h)
theorem Same.chg {p:Addr}{H H':Hp}(h:Same H H'):Chg p H H':=fun b o _ q=>h b o q
theorem Chg.upd {p:Addr}{H:Hp}(o:HO):Chg p H (upd H p o):=fun b u n q=>by rw [yH n]; exact q
theorem zO {H:Hp}{p:Addr}(h:H p=none)(o:HO):Same H (upd H p o):=fun b u q=>by rw [yH (ne_of_none q h)]; exact q
def Scr (K:zA)(H:Hp)(a:Addr)(ns:List Int):Prop :=
 (∃ o,H a=some (.frz o (.lst (ns.map V.int)))) \/ (∃ (o:Obj) (its:Array Value) (n:Nat),K.lookup a=some o /\ o.cls = .type "list" /\ o.dict=none /\ o.data = .seq its n /\ its.size <= sizeLine /\ Vals (ns.map V.int) its.toList)
section
variable {K:zA}{H H':Hp}{a p:Addr}{ns:List Int}
theorem Scr.sq (h:Scr K H a ns):SqL K H a (ns.map V.int):=by
 rcases h with h | h
 ·exact .inl (.inr h)
 ·exact .inr h
theorem scr_of (hO:Only H)(hS:SqL K H a (ns.map V.int)):Scr K H a ns:=by
 rcases hS with (h | h) | h
 ·rcases hO a with z | ⟨o,xs,z⟩
  ·rw [z] at h; cases h
  ·rw [z] at h; cases h
 ·exact .inl h
 ·exact .inr h
theorem Scr.same (h:Scr K H a ns)(s:Same H H'):Scr K H' a ns:=by
 rcases h with ⟨o,h⟩ | h
 ·exact .inl ⟨o,s _ _ h⟩
 ·exact .inr h
theorem Scr.chg {xs:List V}(h:Scr K H a ns)(hp:H p=some (.lst xs))(s:Chg p H H'):Scr K H' a ns:=by
 rcases h with ⟨o,h⟩ | h
 ·exact .inl ⟨o,s _ _ (xU h hp (by intro z; cases z)) h⟩
 ·exact .inr h
theorem Scr.chgD {kvs:List (Key × V)}(h:Scr K H a ns)(hp:H p=some (.dK kvs))(s:Chg p H H'):Scr K H' a ns:=by
 rcases h with ⟨o,h⟩ | h
 ·exact .inl ⟨o,s _ _ (xU h hp (by intro z; cases z)) h⟩
 ·exact .inr h
end
def spLaw (K:zA):Sp:=fun vs H Q _=>∃ (a:Addr) (ns:List Int),vs=[.ref a] /\ Scr K H a ns /\ ns.length <= 63 /\ ∀ H',Q (.bl true) H'
theorem atI_int {ns:List Int}{i:Int}(h0:0 <= i)(h1:i < (ns.length:Int)):∃ v:Int,atI (ns.map V.int) i=some (.int v) /\ ns[i.toNat]? = some v:=by
 have hk:i.toNat < ns.length:=by omega
 have e:i=((i.toNat:Nat):Int):=by omega
 have q:atI (ns.map V.int) ((i.toNat:Nat):Int)=some (.int ns[i.toNat]):=yz (by rw [qI,qA hk] <;> rfl)
 rw [← e] at q
 exact ⟨ns[i.toNat],q,qA hk⟩
def lim:Nat -> Int
 | 0=>11
 | n+1=>1000000 * (lim n - 1)
def rIxM:R2:=fun x y H Q=>∃ p xs i v,x = .ref p /\ y = .int i /\ H p=some (.lst xs) /\ atI xs i=some v /\ Q v H
def rIxU:R2:=fun x y H Q=>∃ p xs i v,x = .ref p /\ y = .int i /\ H p=some (.tup xs) /\ atI xs i=some v /\ Q v H
section
variable {X:Cx}
theorem IxR.mono {r r':R2}(h:IxR X r)(m:∀ x y H Q,r' x y H Q -> r x y H Q):IxR X r':=fun va sl pins s σ H x y v u Q I rx ry q hs=>h va sl pins s σ H x y v u Q I rx ry (m _ _ _ _ q) hs
theorem x6:IxR X rIxM:=ix_list.mono fun x y H Q ⟨p,xs,i,v,e1,e2,h,a,q⟩=>⟨p,xs,i,v,e1,e2,SqL.of h,a,q⟩
theorem yL:IxR X rIxU:=ix_tup.mono fun x y H Q ⟨p,xs,i,v,e1,e2,h,a,q⟩=>⟨p,xs,i,v,e1,e2,SqT.of h,a,q⟩
theorem CallR.mono {f:Value}{r r':List V -> Hp -> VK -> Prop}(h:CallR X f r)(m:∀ xs H Q,r' xs H Q -> r xs H Q):CallR X f r':=fun pins s σ H xs us Q I rx q=>h pins s σ H xs us Q I rx (m _ _ _ q)
theorem ye:CallR X (.builtin "len") (fun xs H Q=>∃ p ys,xs=[.ref p] /\ H p=some (.lst ys) /\ Q (.int ys.length) H):=call_len_seq.mono fun xs H Q ⟨p,ys,e,h,q⟩=>⟨p,ys,e,.inl (SqL.of h),q⟩
theorem call_lenU:CallR X (.builtin "len") (fun xs H Q=>∃ p ys,xs=[.ref p] /\ H p=some (.tup ys) /\ Q (.int ys.length) H):=call_len_seq.mono fun xs H Q ⟨p,ys,e,h,q⟩=>⟨p,ys,e,.inr (SqT.of h),q⟩
theorem call_lenS:CallR X (.builtin "len") (fun xs H Q=>∃ p ys,xs=[.ref p] /\ SqL X.K H p ys /\ Q (.int ys.length) H):=call_len_seq.mono fun xs H Q ⟨p,ys,e,h,q⟩=>⟨p,ys,e,.inl h,q⟩
end
section
variable {H:Hp}{Q:VK}
theorem w_ixM {p:Addr}{i:Int}:rIxM (.ref p) (.int i) H Q = ∃ xs,H p=some (.lst xs) /\ ∃ v,atI xs i=some v /\ Q v H :=
 propext ⟨fun ⟨p',xs,i',v,e1,e2,h,a,q⟩=>by cases e1; cases e2; exact ⟨xs,h,v,a,q⟩,fun ⟨xs,h,v,a,q⟩=>⟨p,xs,i,v,rfl,rfl,h,a,q⟩⟩
theorem w_ixU {p:Addr}{i:Int}:rIxU (.ref p) (.int i) H Q = ∃ xs,H p=some (.tup xs) /\ ∃ v,atI xs i=some v /\ Q v H :=
 propext ⟨fun ⟨p',xs,i',v,e1,e2,h,a,q⟩=>by cases e1; cases e2; exact ⟨xs,h,v,a,q⟩,fun ⟨xs,h,v,a,q⟩=>⟨p,xs,i,v,rfl,rfl,h,a,q⟩⟩
theorem w_ixL {K:zA}{p:Addr}{i:Int}:rIxL K (.ref p) (.int i) H Q = ∃ xs,SqL K H p xs /\ ∃ v,atI xs i=some v /\ Q v H :=
 propext ⟨fun ⟨p',xs,i',v,e1,e2,h,a,q⟩=>by cases e1; cases e2; exact ⟨xs,h,v,a,q⟩,fun ⟨xs,h,v,a,q⟩=>⟨p,xs,i,v,rfl,rfl,h,a,q⟩⟩
theorem w_setL {p:Addr}{k:Int}{v:V}{R:Hp -> Prop}:rSetL (.ref p) (.int k) v H R = ∃ xs,H p=some (.lst xs) /\ ∃ j,ixN xs.length k=some j /\ R (upd H p (.lst (xs.set j v))) :=
 propext ⟨fun ⟨p',xs,k',j,e1,e2,h,a,q⟩=>by cases e1; cases e2; exact ⟨xs,h,j,a,q⟩,fun ⟨xs,h,j,a,q⟩=>⟨p,xs,k,j,rfl,rfl,h,a,q⟩⟩
end
theorem at_0 {α:Type}{a:α}{l:List α}:atI (a :: l) 0=some a:=yz (j:=0) rfl
theorem at_1 {α:Type}{a b:α}{l:List α}:atI (a :: b :: l) 1=some b:=yz (j:=1) rfl
theorem at_2 {α:Type}{a b c:α}{l:List α}:atI (a :: b :: c :: l) 2=some c:=yz (j:=2) rfl
theorem at_3 {α:Type}{a b c d:α}{l:List α}:atI (a :: b :: c :: d :: l) 3=some d:=yz (j:=3) rfl
theorem ixN_0 {n:Nat}:ixN (n+1) 0=some 0:=by unfold ixN; rw [if_pos (zAA 0),if_pos (by omega)]; rfl
theorem ixN_1 {n:Nat}:ixN (n+1+1) 1=some 1:=by unfold ixN; rw [if_pos (by decide),if_pos (by omega)]; rfl
theorem ixN_2 {n:Nat}:ixN (n+1+1+1) 2=some 2:=by unfold ixN; rw [if_pos (by decide),if_pos (by omega)]; rfl
section
variable {CX:CXT}{P:Program}{w:World}{K:zA}{mg:Str -> Option Value}{base:Heap}{N:List Str}{qual:Str}{scope:Scope}{f:Addr}{cd:Value}{A:Around}{outer:List Env}{s:Shared}{H:Hp}{E:XK}
theorem w_cxK:(cxOf CX P w K mg base N qual scope f cd A outer s H E).K=K:=rfl
end
theorem yG {n:Nat}(h:n <= 1000):n <= sizeLine:=Nat.le_of_lt (small1000 h)
theorem sl_1:(0+1 <= sizeLine)=True:=eq_true (yG (by decide))
theorem sl_2:(0+1+1 <= sizeLine)=True:=eq_true (yG (by decide))
theorem sl_3:(0+1+1+1 <= sizeLine)=True:=eq_true (yG (by decide))
theorem sl_4:(0+1+1+1+1 <= sizeLine)=True:=eq_true (yG (by decide))
theorem sl_5:(0+1+1+1+1+1 <= sizeLine)=True:=eq_true (yG (by decide))
theorem sl_6:(0+1+1+1+1+1+1 <= sizeLine)=True:=eq_true (yG (by decide))
theorem sl_7:(0+1+1+1+1+1+1+1 <= sizeLine)=True:=eq_true (yG (by decide))
theorem sl_8:(0+1+1+1+1+1+1+1+1 <= sizeLine)=True:=eq_true (yG (by decide))
theorem sl_0:(0 <= sizeLine)=True:=eq_true (yG (by decide))
theorem divq {g m:Int}(hg:0 <= g)(hm:0 < m):0 <= g / m:=Int.ediv_nonneg hg (Int.le_of_lt hm)
theorem modq {g m:Int}(hm:0 < m):0 <= g % m /\ g % m < m:=⟨Int.emod_nonneg _ (by omega),Int.emod_lt_of_pos _ hm⟩
def ForR (lo:Int)(n:Nat)(g:TG)(tb:TS)(D:Ends)(σ:St)(H:Hp):Prop:=∃ W:Nat -> Nat -> St -> Hp -> Prop,(∃ m,W 0 m σ H) /\ ∀ i m σ H,W i m σ H ->
 ((Itr lo n).stop i H /\ D.nx σ H) \/ ((Itr lo n).go i H /\ ∃ N:St -> Hp -> Prop,(∀ σ' H',N σ' H' -> ∃ m',m' < m /\ W (i+1) m' σ' H') /\ ∀ x H',(Itr lo n).yld i H x H' -> g x σ H' fun σ2 H2=>tb { D with nx:=N,ct:=N,bk:=D.nx } σ2 H2)
def ForL (K:zA)(a:Addr)(g:TG)(tb:TS)(D:Ends)(σ:St)(H:Hp):Prop:=∃ W:Nat -> Nat -> St -> Hp -> Prop,(∃ m,W 0 m σ H) /\ ∀ i m σ H,W i m σ H ->
 ((Itl K a).stop i H /\ D.nx σ H) \/ ((Itl K a).go i H /\ ∃ N:St -> Hp -> Prop,(∀ σ' H',N σ' H' -> ∃ m',m' < m /\ W (i+1) m' σ' H') /\ ∀ x H',(Itl K a).yld i H x H' -> g x σ H' fun σ2 H2=>tb { D with nx:=N,ct:=N,bk:=D.nx } σ2 H2)
def ForT (K:zA)(a:Addr)(g:TG)(tb:TS)(D:Ends)(σ:St)(H:Hp):Prop:=∃ W:Nat -> Nat -> St -> Hp -> Prop,(∃ m,W 0 m σ H) /\ ∀ i m σ H,W i m σ H ->
 ((Itt K a).stop i H /\ D.nx σ H) \/ ((Itt K a).go i H /\ ∃ N:St -> Hp -> Prop,(∀ σ' H',N σ' H' -> ∃ m',m' < m /\ W (i+1) m' σ' H') /\ ∀ x H',(Itt K a).yld i H x H' -> g x σ H' fun σ2 H2=>tb { D with nx:=N,ct:=N,bk:=D.nx } σ2 H2)
section
variable {σ:St}{H:Hp}{D:Ends}{g:TG}{tb:TS}{K:zA}{a:Addr}
theorem w_for1 {ta:TA}:tFor (iRng1 ta) g tb D σ H=(ta σ H fun vs H1=>∃ j:Int,vs=[.int j] /\ -(2 ^ 62) <= j /\ j < 2 ^ 62 /\ ForR 0 j.toNat g tb D σ H1):=rfl
theorem w_forL {tl:TE}:tFor (iList K tl) g tb D σ H=(tl σ H fun x H1=>∃ a,x = .ref a /\ (∃ xs,SqL K H1 a xs) /\ ForL K a g tb D σ H1):=rfl
theorem w_forT {tl:TE}:tFor (iTup K tl) g tb D σ H=(tl σ H fun x H1=>∃ a,x = .ref a /\ (∃ xs,SqT K H1 a xs) /\ ForT K a g tb D σ H1):=rfl
theorem forR {lo:Int}{n:Nat}(Pv:Nat -> St -> Hp -> Prop)(h0:Pv 0 σ H)
  (hs:∀ i σ H (N:St -> Hp -> Prop),i < n -> Pv i σ H -> (∀ σ' H',Pv (i+1) σ' H' -> N σ' H') -> g (.int (lo+i)) σ H fun σ2 H2=>tb { D with nx:=N,ct:=N,bk:=D.nx } σ2 H2) (hd:∀ σ H,Pv n σ H -> D.nx σ H):ForR lo n g tb D σ H :=
 for_range Pv h0 (fun i σ H h p=>hs i σ H _ h p fun _ _ q=>q) hd
theorem forL {xs:List V}(Pv:Nat -> St -> Hp -> Prop)(h0:Pv 0 σ H)(hl:∀ i σ H,i <= xs.length -> Pv i σ H -> SqL K H a xs)
  (hs:∀ i x σ H (N:St -> Hp -> Prop),xs[i]? = some x -> Pv i σ H -> (∀ σ' H',Pv (i+1) σ' H' -> N σ' H') -> g x σ H fun σ2 H2=>tb { D with nx:=N,ct:=N,bk:=D.nx } σ2 H2) (hd:∀ σ H,Pv xs.length σ H -> D.nx σ H):ForL K a g tb D σ H:=for_list Pv h0 hl (fun i x σ H h p=>hs i x σ H _ h p fun _ _ q=>q) hd
theorem forT {xs:List V}(Pv:Nat -> St -> Hp -> Prop)(h0:Pv 0 σ H)(hl:∀ i σ H,i <= xs.length -> Pv i σ H -> SqT K H a xs)
  (hs:∀ i x σ H (N:St -> Hp -> Prop),xs[i]? = some x -> Pv i σ H -> (∀ σ' H',Pv (i+1) σ' H' -> N σ' H') -> g x σ H fun σ2 H2=>tb { D with nx:=N,ct:=N,bk:=D.nx } σ2 H2) (hd:∀ σ H,Pv xs.length σ H -> D.nx σ H):ForT K a g tb D σ H:=for_tup Pv h0 hl (fun i x σ H h p=>hs i x σ H _ h p fun _ _ q=>q) hd
end
theorem shl_ok {n s:Int}{k:Nat}(h0:0 <= s)(h1:s <= 1000000)(h:n.natAbs < 2 ^ k)(hk:k <= 1000000):CShl n s:=⟨h0,h1,zZ (zBH h) hk⟩
theorem abs_div {n:Int}{k:Nat}{d:Int}(hd:0 < d)(h:n.natAbs < 2 ^ k):(n / d).natAbs < 2 ^ k:=by
 refine yB ?_ h
 have e1:n / d <= (n.natAbs:Int):=by
  rcases Int.lt_or_le n 0 with z | z
  ·have:=Int.ediv_neg_of_neg_of_pos z hd
   omega
  ·have:=Int.ediv_le_self d z
   omega
 have e2:-(n.natAbs:Int) <= n / d:=by
  rcases Int.lt_or_le n 0 with z | z
  ·have h1:n <= n / d:=by
    refine Int.le_ediv_of_mul_le hd ?_
    have:n * d <= n * 1:=Int.mul_le_mul_of_nonpos_left (Int.le_of_lt z) hd
    omega
   omega
  ·have:=Int.ediv_nonneg z (Int.le_of_lt hd)
   omega
 omega
theorem jA {t u:TS}{D:Ends}{σ:St}{H:Hp}(M:St -> Hp -> Prop)(h1:∀ N:St -> Hp -> Prop,(∀ σ H,M σ H -> N σ H) -> t { D with nx:=N } σ H)(h2:∀ σ H,M σ H -> u D σ H):tMid t u D σ H:=⟨M,h1 M fun _ _ q=>q,h2⟩
section
variable {K:zA}{H:Hp}{Q:VK}
theorem Ji {x:V}{T:String}{t:Value}{b:Bool}(ty:TyOf K H x t)(u:∀ t',TyOf K H x t' -> t'=t)(k:yw K t (.type T)=some b):rIsI K [x,.ty T] H Q=Q (.bl b) H :=
 propext ⟨fun ⟨x',T',t',b',e,ty',k',q⟩=>by
  cases e
  rw [u _ ty',k] at k'
  cases k'
  exact q,fun q=>⟨x,T,t,b,rfl,ty,k,q⟩⟩
theorem kit_non_bool:yw K (.type "NoneType") (.type "bool")=some false:=by first | rfl | decide +kernel
theorem kit_str_bool:yw K (.type "str") (.type "bool")=some false:=by first | rfl | decide +kernel
theorem w_isI_ii {i:Int}:rIsI K [.int i,.ty "int"] H Q=Q (.bl true) H:=Ji (.int i) (fun _ h=>by cases h; rfl) (kit_same _)
theorem w_isI_ib {i:Int}:rIsI K [.int i,.ty "bool"] H Q=Q (.bl false) H:=Ji (.int i) (fun _ h=>by cases h; rfl) kit_int_bool
theorem w_isI_bi {i:Bool}:rIsI K [.bl i,.ty "int"] H Q=Q (.bl true) H:=Ji (.bl i) (fun _ h=>by cases h; rfl) kit_bool_int
theorem w_isI_bb {i:Bool}:rIsI K [.bl i,.ty "bool"] H Q=Q (.bl true) H:=Ji (.bl i) (fun _ h=>by cases h; rfl) (kit_same _)
theorem w_isI_ni:rIsI K [.non,.ty "int"] H Q=Q (.bl false) H:=Ji .non (fun _ h=>by cases h; rfl) kit_non_int
theorem w_isI_nb:rIsI K [.non,.ty "bool"] H Q=Q (.bl false) H:=Ji .non (fun _ h=>by cases h; rfl) kit_non_bool
theorem w_isI_si {x:Str}:rIsI K [.str x,.ty "int"] H Q=Q (.bl false) H:=Ji (.str x) (fun _ h=>by cases h; rfl) kit_str_int
theorem w_isI_sb {x:Str}:rIsI K [.str x,.ty "bool"] H Q=Q (.bl false) H:=Ji (.str x) (fun _ h=>by cases h; rfl) kit_str_bool
end
theorem xf (k:Nat):(0:Int) < 2 ^ k:=Int.pow_pos (by decide)
theorem ediv_iff {n d:Int}:n / d * d=n ↔ d ∣ n:=⟨fun h=>⟨n / d,by rw [yF]; exact h.symm⟩,fun h=>Int.ediv_mul_cancel h⟩
end L2
namespace L2
open PySem PySem.Spec PyProof.Rows
def xL (scope:Scope)(env:Env):List (Str × Addr):=(scope.names.filterMap fun x=>if x.2 == .free then (env.cells.lookup x.1).map fun c=>(x.1,c) else none).reverse
theorem Jj {scope:Scope}{env:Env}(h:∀ x ∈ scope.names,x.2 = .free -> ∃ c,env.cells.lookup x.1=some c):closureFor scope env=pure (xL scope env):=by
 unfold closureFor xL
 have all:∀ (l:List (Str × NameKind)) (acc:List (Str × Addr)),(∀ x ∈ l,x.2 = .free -> ∃ c,env.cells.lookup x.1=some c) ->
   (forIn l acc fun x r=>(match x with | (name,kind)=>if (kind == .free)=true then do let a ← cellOf env name; pure (ForInStep.yield ((name,a) :: r)) else pure (ForInStep.yield r):Sem (ForInStep (List (Str × Addr))))) =
    pure ((l.filterMap fun x=>if x.2 == .free then (env.cells.lookup x.1).map fun c=>(x.1,c) else none).reverse ++ acc):=by
  intro l
  induction l with
  | nil=>intro acc _; simp
  | cons x r ih =>
   intro acc hx
   obtain ⟨n,k⟩:=x
   have hr:∀ y ∈ r,y.2 = .free -> ∃ c,env.cells.lookup y.1=some c:=fun y hy=>hx y (ze _ hy)
   by_cases hk:k = .free
   ·subst hk
    obtain ⟨c,hc⟩:=hx (n,.free) zb rfl
    have e1:cellOf env n=pure c:=by unfold cellOf; rw [show env.cells.lookup n=some c from hc]
    simp only [List.forIn_cons,beq_self_eq_true,if_true,e1,pure_bind,yK]
    rw [ih _ hr]
    simp [show env.cells.lookup n=some c from hc]
   ·have hb:(k == NameKind.free)=false:=by simpa using hk
    simp only [List.forIn_cons,hb,Bool.false_eq_true,if_false,pure_bind,yK]
    rw [ih _ hr]
 have:=all scope.names [] h
 rw [zp] at this
 simp only [bind_pure]
 first | exact this | (rw [this]) | (simpa using this)
theorem zBI {scope:Scope}{env:Env}{x:Str}{c:Addr}(h:(xL scope env).lookup x=some c):env.cells.lookup x=some c:=by
 have m:=PySem.mem_of_lookup h
 unfold xL at m
 rw [JS,Jq] at m
 obtain ⟨y,hy,e⟩:=m
 split at e
 ·cases q:env.cells.lookup y.1 with
  | none=>rw [q] at e; cases e
  | some d =>
   rw [q] at e
   simp only [jH,Option.some.injEq,Prod.mk.injEq] at e
   rw [← e.1,q,e.2]
 ·cases e
theorem zAC {α:Type}:∀ {l:List (Str × α)} {x:Str} {c:α},(x,c) ∈ l -> ∃ d,l.lookup x=some d
 | (k,v) :: r,x,c,h=>by
  rw [jc]
  cases hb:x == k with
  | true=>exact ⟨v,rfl⟩
  | false =>
   rcases zV.mp h with e | e
   ·injection e with e1 e2
    subst e1
    simp at hb
   ·exact zAC e
theorem zBJ {scope:Scope}{env:Env}{x:Str}{c:Addr}(h:(x,NameKind.free) ∈ scope.names)(hc:env.cells.lookup x=some c):(xL scope env).lookup x=some c:=by
 have m:(x,c) ∈ xL scope env:=by
  unfold xL
  rw [JS,Jq]
  exact ⟨(x,.free),h,by simp [hc]⟩
 obtain ⟨d,hd⟩:=zAC m
 have:=zBI hd
 rw [hc] at this
 rw [hd,← this]
theorem xg {env:Env}:∀ {names:List (Str × NameKind)} {x:Str} {k:NameKind},
  (names.map fun (n,k)=>if (k == NameKind.free && env.scope.kind == .function && env.kindOf n == some .cell) then (n,NameKind.cell) else (n,k)).lookup x=some k ->
  ∃ k0,names.lookup x=some k0 /\ (k0=k \/ (k0 = .free /\ k = .cell))
 | [],_,_,h=>by simp at h
 | (n,k) :: r,x,k',h=>by
  simp only [zR] at h
  by_cases hc:(k == NameKind.free && env.scope.kind == .function && env.kindOf n == some .cell)=true
  ·rw [if_pos hc,jc] at h
   rw [jc]
   cases hb:x == n with
   | true =>
    rw [hb] at h
    simp only [Option.some.injEq] at h
    refine ⟨k,rfl,.inr ⟨?_,h.symm⟩⟩
    simp only [zX,beq_iff_eq] at hc
    exact hc.1.1
   | false =>
    rw [hb] at h
    exact xg h
  ·rw [if_neg hc,jc] at h
   rw [jc]
   cases hb:x == n with
   | true =>
    rw [hb] at h
    simp only [Option.some.injEq] at h
    exact ⟨k,rfl,.inl h⟩
   | false =>
    rw [hb] at h
    exact xg h
theorem jB {prog:Program}{w:World}{A:Around}{R:Result -> Shared -> Prop}{s:Shared}{elt target iter:Expr}{ifs:List Expr}{scope:Scope}{pos:Pos}{it acc:Value}{env:Env}(I:Nat -> Shared -> Prop)
  (turn:∀ n s,I n s -> wpAny (model prog w) A (pyNext it) (fun r s₁=>match r with
   | none=>R (.ok .next) s₁
   | some v=>wpAny (model prog w) A (letOwnedTupleGo target it v) (fun _ s₁'=>wpAny (model prog w) A (assign target env v) (fun _ s₂ =>
     wpAny (model prog w) A (forIn ifs true fun c r=>if r=true then do let ok ← isTrue c env (eval c env); pure (ForInStep.yield ok) else pure (ForInStep.yield r)) (fun ok s₃ =>
      if ok=true then wpAny (model prog w) A (eval elt env) (fun x s₄ =>
       wpAny (model prog w) A (call (.builtin "list.append") [acc,x]) (fun _ s₅=>∃ m,m < n /\ I m s₅) (fun _ _=>False) s₄) (fun _ _=>False) s₃
      else ∃ m,m < n /\ I m s₃) (fun _ _=>False) s₂) (fun _ _=>False) s₁') (fun _ _=>False) s₁) (fun _ _=>False) s)
  (n:Nat) (h:I n s) :
  codeAny (model prog w) A (.compLoop (.ListComp elt [⟨target,iter,ifs,0⟩] scope pos) 0 it acc env) R s:=by
 refine codeAny_loop rfl I (fun n s hI=>?_) n h
 show wpAny _ A ((compTurn (.ListComp elt [⟨target,iter,ifs,0⟩] scope pos) 0 it acc env).onRaise (fun x=>do noteFrame x env; theTreesLotGoes x)) _ _ s
 refine wpAny_noted ?_
 rw [compTurn_list]
 refine wpAny_bind (wpAny_standAt (wpAny_bind (wpAny_mono (turn n s hI) (fun r s₁ h₁=>?_) fun _ _ h'=>h'.elim)))
 cases r with
 | none=>exact wpAny_pure h₁
 | some v =>
  refine wpAny_bind (wpAny_mono h₁ (fun _ s₁' h₁'=>?_) fun _ _ h'=>h'.elim)
  refine wpAny_bind (wpAny_mono h₁' (fun _ s₂ h₂=>wpAny_bind (wpAny_mono h₂ (fun ok s₃ h₃=>?_) fun _ _ h'=>h'.elim)) fun _ _ h'=>h'.elim)
  cases ok with
  | false=>exact wpAny_pure ⟨rfl,h₃⟩
  | true =>
   exact wpAny_bind (wpAny_bind (wpAny_mono h₃ (fun x s₄ h₄=>wpAny_bind (wpAny_mono h₄ (fun _ s₅ h₅=>wpAny_pure (wpAny_pure ⟨rfl,h₅⟩)) fun _ _ h'=>h'.elim)) fun _ _ h'=>h'.elim))
def PN (X:Cx)(ifs:List Expr)(t:TT):Prop :=
 ∀ (pins:List (Addr × Obj)) (s:Shared) (σ:St) (H:Hp) (Q:Bool -> Hp -> Prop),Inv X pins σ H s -> t σ H Q ->
  wpAny (model X.prog X.w) X.A (forIn ifs true fun c r=>if r=true then do let ok ← isTrue c X.env (eval c X.env); pure (ForInStep.yield ok) else pure (ForInStep.yield r)) (TP X pins σ Q) X.xe s
def tYes:TT:=fun _ H Q=>Q true H
section
variable {X:Cx}
theorem yq:PN X [] tYes:=fun _ _ σ H Q I h=>wpAny_pure ⟨H,I,h⟩
theorem pn_one {c:Expr}{t:TT}(h:PT X c t):PN X [c] t:=by
 intro pins s σ H Q I q
 refine PySem.wpAny_tests_one (h pins s σ H Q I q)
end
def zAD (X:Cx)(N:List Str)(scope:Scope)(C:Addr)(s:Shared)(H:Hp)(fp:List Addr):Cx :=
 { X with N:=N,s₀:=s,H₀:=H,env:=compEnvC scope (xL scope X.env) C X.env,outer:=X.stack,stack:=X.stack,ex:=fp,fn:=fun _=>false,pn:=[],xe:=fun _ _=>False }
structure CompBody (X:Cx) (tg:Expr) (ifs:List Expr) (elt:Expr) (g:TG) (tt:TT) (te:TE):Prop where
 tg:PG X tg g
 tt:PN X ifs tt
 te:PE X elt te
def scB (sc xsc:Scope):Bool:=(sc.kind == .function) && sc.names.all fun x=>(x.2 != .cell) && (x.2 != .local || sc.names.lookup x.1 == some .local) && (x.2 != .free || (xsc.names.lookup x.1 == some .cell) || (xsc.names.lookup x.1 == some .free))
def capB (cs:List Nat)(ns XN:List Str)(sc xsc:Scope):Bool:=(cs.zip ns).all fun p=>(XN[p.1]? == some p.2) && (sc.names.lookup p.2 == some .free) && (xsc.names.lookup p.2 != some .local)
def JU (nt:Nat)(cs:List Nat)(σ:St):St:=qQ nt none ++ cs.map fun c=>(σ[c]?).join
def zAV (wi:TI)(nt:Nat)(cs:List Nat)(g:TG)(tt:TT)(te:TE):TE:=fun σ H Q=>wi σ H fun J H1=>∀ acc,H1 acc=none ->
 ∃ W:Nat -> Nat -> List V -> St -> Hp -> Prop,(∃ m,W 0 m [] (JU nt cs σ) (upd H1 acc (.lst []))) /\ ∀ i m ys σ' H',W i m ys σ' H' -> H' acc=some (.lst ys) /\
  ((J.stop i H' /\ Q (.ref acc) H') \/ (J.go i H' /\ ys.length < sizeLine /\ ∃ N:List V -> St -> Hp -> Prop,(∀ zs σ2 H2,N zs σ2 H2 -> ∃ m',m' < m /\ W (i+1) m' zs σ2 H2) /\
   ∀ x H2,J.yld i H' x H2 -> g x σ' H2 fun σ3 H3=>tt σ3 H3 fun b H4=>if b=true then te σ3 H4 fun y H5=>H5 acc=some (.lst ys) /\ N (ys ++ [y]) σ3 (upd H5 acc (.lst (ys ++ [y]))) else N ys σ3 H4))
section
variable {X:Cx}
theorem zB3 {pins:List (Addr × Obj)}{σ:St}{H:Hp}{s:Shared}{N:List Str}{scope:Scope}{nt:Nat}{cs:List Nat}{fp:List Addr}{h1:Heap}{tk:Nat}(I:Inv X pins σ H s)
  (hsc:scB scope X.env.scope=true) (hcap:capB cs (N.drop nt) X.N scope X.env.scope=true) (hlen:N.length=nt+cs.length)
  (hf:∀ b ∈ fp,FpOk X pins H b) (hfl:∀ b ∈ fp,b < s.heap.objs.size) (hn:h1.Ns s.heap.objs.size fun _=>none) (hk:∀ b o,s.heap.get? b=some o -> h1.get? b=some o) :
  Inv (zAD X N scope s.heap.objs.size s H fp) [] (JU nt cs σ) H { s with heap:=h1,toks:=tk }:=by
 unfold scB at hsc
 rw [zX] at hsc
 obtain ⟨hkd,hall⟩:=hsc
 have hkd:scope.kind = .function:=by simpa using hkd
 rw [xM] at hall
 have nocell:∀ x ∈ scope.names,x.2 ≠ .cell:=fun x hx e=>by have:=hall x hx; rw [e] at this; simp at this
 have free2:∀ x,(x,NameKind.free) ∈ scope.names -> X.env.kindOf x=some .cell \/ X.env.kindOf x=some .free:=fun x hx=>by
  have:=hall _ hx
  simp only [bne_self_eq_false,xQ,zX,Jp,beq_iff_eq] at this
  exact this.2
 have kinds:∀ x,((zAD X N scope s.heap.objs.size s H fp).env.kindOf x=some .cell \/ (zAD X N scope s.heap.objs.size s H fp).env.kindOf x=some .free) -> (x,NameKind.free) ∈ scope.names:=fun x hx=>by
  have q:∃ k,(relabel scope X.env).names.lookup x=some k /\ (k = .cell \/ k = .free):=by
   rcases hx with e | e
   ·exact ⟨_,e,.inl rfl⟩
   ·exact ⟨_,e,.inr rfl⟩
  obtain ⟨k,e,hk'⟩:=q
  obtain ⟨k0,e0,r⟩:=xg e
  have m:=PySem.mem_of_lookup e0
  rcases r with r | ⟨r,_⟩
  ·subst r
   rcases hk' with z | z
   ·exact absurd z (nocell _ m)
   ·rw [z] at m; exact m
  ·rw [r] at m; exact m
 have cellOf:∀ x c,(xL scope X.env).lookup x=some c -> X.env.cells.lookup x=some c:=fun x c e=>zBI e
 have clt:∀ x c,X.env.cells.lookup x=some c -> c < s.heap.objs.size:=fun x c e=>by
  obtain ⟨v,q⟩:=I.cell x c e
  exact q.lt
 refine ⟨⟨I.ok.mod,?_,I.ok.glob,I.ok.blt,zE _,?_,?_,?_,I.ok.hd,I.ok.frames,.inl rfl,?_,?_,?_,?_,?_,?_,?_⟩,rfl,I.bare,Un.kept hk,⟨_,hn,?_⟩,?_,?_,?_,?_,I.hok.kept hk,?_⟩
 ·show (relabel scope X.env).kind=_
  exact hkd
 ·intro x y c e1 e2
  exact I.ok.inj x y c (cellOf x c e1) (cellOf y c e2)
 ·intro x hx
  have m:=kinds x hx
  obtain ⟨c,hc⟩:=I.ok.has x (free2 x m)
  exact ⟨c,zBJ m hc⟩
 ·intro x c z
  cases z
 ·intro b hb
  obtain ⟨f0,f1,f2,f3,f4,f5⟩:=hf b hb
  exact ⟨zg (hfl b hb),fun x c e=>f4 x c (cellOf x c e)⟩
 ·intro b o e
  exact I.bs b o e
 ·exact zZ I.ok.bsz I.sz
 ·intro b o e hb
  obtain ⟨f0,f1,f2,f3,f4,f5⟩:=hf b hb
  rcases f3 with z | z
  ·exact I.ok.noex b o e z
  ·exact absurd (qJ (Heap.lt_size (I.ok.bs b o e).1) z) (yg _)
 ·intro b hb hs
  obtain ⟨f0,f1,f2,f3,f4,f5⟩:=hf b hb
  rcases zV.mp (I.stkSub b hs) with z | z
  ·exact f1 z
  ·exact f2 z
 ·exact I.stack
 ·exact I.stkFree
 ·intro i x v e1 e2 _
  have hi:nt <= i:=by
   refine Nat.le_of_not_lt fun z=>?_
   unfold JU at e2
   rw [qH (by simpa using z),je,if_pos z] at e2
   cases e2
  unfold JU at e2
  rw [qG (by simpa using hi),qL,qI] at e2
  cases q:cs[i - nt]? with
  | none=>rw [q] at e2; cases e2
  | some c =>
   rw [q] at e2
   simp only [jH,Option.some.injEq] at e2
   have e3:σ[c]? = some (some v):=by
    cases z:σ[c]? with
    | none=>rw [z] at e2; cases e2
    | some o=>rw [z] at e2; exact congrArg some e2
   unfold capB at hcap
   rw [xM] at hcap
   have e4:(N.drop nt)[i - nt]? = some x:=by
    rw [List.getElem?_drop,show nt+(i - nt)=i by omega]
    exact e1
   have m:(c,x) ∈ cs.zip (N.drop nt):=by
    have:(cs.zip (N.drop nt))[i - nt]? = some (c,x):=by rw [List.getElem?_zip_eq_some]; exact ⟨q,e4⟩
    exact qE this
   have hm:=hcap _ m
   simp only [zX,beq_iff_eq,bne_iff_ne,ne_eq] at hm
   obtain ⟨⟨h1',h2'⟩,h3'⟩:=hm
   have hlk:scope.names.lookup x=some .free:=h2'
   have h2':(x,NameKind.free) ∈ scope.names:=PySem.mem_of_lookup hlk
   obtain ⟨mm,hmm,hl⟩:=I.loc
   have vis:Vis X.env.scope x:=.inr (free2 x h2')
   obtain ⟨u,r,l⟩:=hl c x v h1' e3 vis
   rcases l with ⟨z,_⟩ | ⟨z,d,hd,hcell⟩
   ·exact absurd z h3'
   ·refine ⟨u,r,.inr ⟨?_,d,zBJ h2' hd,?_⟩⟩
    ·-- its kind in the block
     have isf:∃ k,(relabel scope X.env).names.lookup x=some k:=by
      have:∃ k',(x,k') ∈ (relabel scope X.env).names:=by
       unfold relabel
       by_cases cc:(X.env.scope.kind == .function && X.env.kindOf x == some .cell)=true
       ·refine ⟨.cell,qP.mpr ⟨(x,.free),h2',?_⟩⟩
        simp only [zX] at cc
        simp [cc.1,cc.2]
       ·refine ⟨.free,qP.mpr ⟨(x,.free),h2',?_⟩⟩
        simp only [zX] at cc
        have cc':¬ ((NameKind.free == NameKind.free && X.env.scope.kind == .function && X.env.kindOf x == some .cell)=true):=by
         simp only [beq_self_eq_true,Bool.true_and,zX]
         exact cc
        show (if (NameKind.free == NameKind.free && X.env.scope.kind == .function && X.env.kindOf x == some .cell)=true then (x,NameKind.cell) else (x,NameKind.free))=(x,NameKind.free)
        rw [if_neg cc']
      obtain ⟨k',hk'⟩:=this
      exact zAC hk'
     obtain ⟨k,ek⟩:=isf
     obtain ⟨k0,e0,rr⟩:=xg ek
     rcases rr with rr | ⟨_,rr⟩
     ·subst rr
      rw [hlk] at e0
      cases e0
      exact .inr ek
     ·subst rr
      exact .inl ek
    ·obtain ⟨o,ho,hd'⟩:=hcell
     exact ⟨o,hk _ _ ho,hd'⟩
 ·intro x c e
  obtain ⟨v,o,ho,hd⟩:=I.cell x c (cellOf x c e)
  exact ⟨v,o,hk _ _ ho,hd⟩
 ·exact I.hok.fresh (zE _)
 ·intro x c e
  exact I.freeC x c (cellOf x c e)
 ·intro p hp
  cases hp
 ·show (JU nt cs σ).length=N.length
  unfold JU
  rw [qF,qL,qC,hlen]
theorem un_same {fs ex:List Addr}{H H':Hp}{h h1 h':Heap}{C:Addr}(u:Un fs ex H H' h h1)(hs:Heap.SameBut C h1 h')(hC:h.objs.size <= C):Un fs ex H H' h h' where
 keep:=fun b o e n hb hx=>(hs.2 b (zg (qJ (Heap.lt_size e) hC))).trans (u.keep b o e n hb hx)
 slot:=fun b o e n hb hx=>by
  obtain ⟨sl,q⟩:=u.slot b o e n hb hx
  exact ⟨sl,(hs.2 b (zg (qJ (Heap.lt_size e) hC))).trans q⟩
 free:=u.free
 there:=fun b o e hx=>by
  obtain ⟨o',q⟩:=u.there b o e hx
  exact ⟨o',(hs.2 b (zg (qJ (Heap.lt_size e) hC))).trans q⟩
 tups:=u.tups
 frzs:=u.frzs
 tbls:=u.tbls
theorem hok_same {P:Program}{w:World}{H:Hp}{h h':Heap}{C:Addr}(x:HOk P w H h)(hs:Heap.SameBut C h h')(hC:H C=none):HOk P w H h':=fun b u e =>
 (x b u e).stay (fun c v hc q=>(hs.2 c (fun z=>by
  subst z
  rcases hc with z | z
  ·subst z; rw [hC] at e; cases e
  ·rw [hC] at z; cases z)).trans q) (fun _ q=>q) fun _ _ q=>q
theorem yU {tg iter elt:Expr}{ifs:List Expr}{scope:Scope}{pos:Pos}{wi:TI}{N:List Str}{nt:Nat}{cs:List Nat}{g:TG}{tt:TT}{te:TE}(hc:X.calm=true)(hi:PI X tg iter wi)
  (hb:N.Nodup -> ∀ (C:Addr) (s:Shared) (H:Hp) (fp:List Addr),CompBody (zAD X N scope C s H fp) tg ifs elt g tt te)
  (hnd:N.Nodup) (hsc:scB scope X.env.scope=true) (hcap:capB cs (N.drop nt) X.N scope X.env.scope=true) (hlen:N.length=nt+cs.length)
  (hs:∀ x,foldedSetIterable iter X.env x=pure x):PE X (.ListComp elt [⟨tg,iter,ifs,0⟩] scope pos) (zAV wi nt cs g tt te):=by
 intro pins s σ H Q I h
 have hsc':=hsc
 unfold scB at hsc'
 rw [zX] at hsc'
 obtain ⟨hkd,hall⟩:=hsc'
 have hkd:scope.kind = .function:=by simpa using hkd
 rw [xM] at hall
 have nocell:∀ x ∈ scope.names,x.2 ≠ .cell:=fun x hx e=>by have:=hall x hx; rw [e] at this; simp at this
 have hnames:∀ x ∈ scope.names,x.2 = .local -> scope.names.lookup x.1=some .local:=fun x hx e=>by
  have:=hall x hx
  rw [e] at this
  simp only [bne_self_eq_false,xQ,zX,beq_iff_eq] at this
  exact this.1.2
 have hclos:closureFor scope X.env=pure (xL scope X.env):=Jj fun x hx e=>by
  have:=hall x hx
  rw [e] at this
  simp only [bne_self_eq_false,xQ,zX,Jp,beq_iff_eq] at this
  exact I.ok.has x.1 this.2
 rw [eval_ListComp]
 refine wpAny_comprehension_free (use:=none) rfl hs hclos hkd hnames (thn (hi pins s σ H _ I h) fun v s1 h1=>thn h1 fun itv s2 h2=>?_)
 obtain ⟨it,fp,tn,J,H2,e,I2,T,st2,f2,hR⟩:=h2
 subst e
 refine wpAny_newObj_type (wpAny_newFunctionEnv nocell (by intro y hy; simp at hy) (fun h3 hn3 hs3=>?_) hkd)
 have fr:=I2.fresh
 have I3:Inv X pins σ (upd H2 s2.heap.objs.size (.lst [])) { s2 with heap:=s2.heap.push { cls:=.type "list",data:=.seq ([]:List Value).toArray },toks:=s2.toks }:=I2.lnew .nil (yG (by decide))
 obtain ⟨W,⟨m0,w0⟩,turn⟩:=hR _ fr
 generalize hacc:s2.heap.objs.size=acc at *
 generalize hsx:({ s2 with heap:=s2.heap.push { cls:=.type "list",data:=.seq ([]:List Value).toArray },toks:=s2.toks }:Shared)=sx at *
 have hC:sx.heap.objs.size=acc+1:=by rw [← hsx,← hacc]; exact Heap.size_push _ _
 have fpl:∀ b ∈ fp,b < acc:=fun b hb=>by
  obtain ⟨o,ho,_⟩:=T.obj _ _ st2 b hb
  rw [← hacc]
  exact Heap.lt_size ho
 have f3:∀ b ∈ fp,FpOk X pins (upd H2 acc (.lst [])) b:=fun b hb=>by
  obtain ⟨f0,f1⟩:=f2 b hb
  exact ⟨by rw [yH (zg (fpl b hb))]; exact f0,f1⟩
 have keep3:∀ b o,sx.heap.get? b=some o -> h3.get? b=some o:=fun b o e=>by
  have hne:b ≠ sx.heap.objs.size:=zg (Heap.lt_size e)
  exact (hs3.2 b hne).trans (Heap.get?_push_of_some _ e)
 have IC:Inv (zAD X N scope sx.heap.objs.size sx (upd H2 acc (.lst [])) fp) [] (JU nt cs σ) (upd H2 acc (.lst [])) { sx with heap:=h3,toks:=sx.toks+([]:List (Str × Value)).length } :=
  zB3 I3 hsc hcap hlen f3 (fun b hb=>by rw [hC]; exact xD (fpl b hb)) (by simpa using hn3) keep3
 have hn3':H2 acc=none:=fr
 generalize hXC:zAD X N scope sx.heap.objs.size sx (upd H2 acc (.lst [])) fp=XC at IC
 have ctxP:XC.prog=X.prog:=by rw [← hXC]; rfl
 have ctxW:XC.w=X.w:=by rw [← hXC]; rfl
 have ctxK:XC.K=X.K:=by rw [← hXC]; rfl
 have ctxA:XC.A=X.A:=by rw [← hXC]; rfl
 have ctxC:XC.calm=true:=by rw [← hXC]; exact hc
 have ctxX:XC.xe=fun _ _=>False:=by rw [← hXC]; rfl
 have ctxE:XC.env=compEnvC scope (xL scope X.env) sx.heap.objs.size X.env:=by rw [← hXC]; rfl
 have body:CompBody XC tg ifs elt g tt te:=by rw [← hXC]; exact hb hnd _ _ _ _
 have st3:tn 0 h3:=T.keep _ _ _ st2 fun b hb o e=>keep3 b o (by rw [← hsx]; exact Heap.get?_push_of_some _ e)
 have stat:∀ {H':Hp},(∀ b ∈ fp,H' b=none) -> ∀ b ∈ fp,FpOk XC [] H' b:=fun hn b hb=>by
  obtain ⟨f0,f1,f2',f3',f4,f5⟩:=f3 b hb
  refine ⟨hn b hb,?_,?_,.inl (by rw [← hXC]; exact hb),fun x c e=>?_,fun p hp=>?_⟩
  ·rw [ctxE]
   exact zg (by rw [hC]; exact xD (fpl b hb))
  ·rw [← hXC]
   intro z
   rcases zV.mp (I3.stkSub b z) with z | z
   ·exact f1 z
   ·exact f2' z
  ·rw [ctxE] at e
   exact f4 x c (zBI e)
  ·rw [← hXC] at hp
   cases hp
 have fin:∀ {σ':St} {H':Hp} {s':Shared},Inv XC [] σ' H' s' -> Q (.ref acc) H' -> compPost (model X.prog X.w) X.A X.xe none (EP X pins σ Q) (.ref acc) sx.heap.objs.size (.ok .next) s':=by
  intro σ' H' s' J' q
  obtain ⟨m,hm,_⟩:=J'.loc
  have hfree:=J'.free
  rw [ctxE] at hm hfree
  refine ⟨m,hm,fun h' hs'=>⟨.ref acc,H',?_,rfl,q⟩⟩
  have u:=J'.base
  rw [← hXC] at u
  have ok:=J'.hok
  rw [ctxP,ctxW] at ok
  have os:=J'.os
  rw [← hXC] at os
  refine I3.call' (s':={ s' with heap:=h' }) os (un_same u hs' (zE _)) (hok_same ok hs' hfree) J'.bare fun b hb=>?_
  obtain ⟨f0,f1,f2',f3',f4,f5⟩:=f3 b hb
  exact ⟨f3',f1,f4,f5⟩
 have loop:codeAny (model X.prog X.w) X.A (.compLoop (.ListComp elt [⟨tg,iter,ifs,0⟩] scope pos) 0 (.ref it) (.ref acc) XC.env) (compPost (model X.prog X.w) X.A X.xe none (EP X pins σ Q) (.ref acc) sx.heap.objs.size)
   { sx with heap:=h3,toks:=sx.toks+([]:List (Str × Value)).length }:=by
  rw [← ctxP,← ctxW,← ctxA]
  refine jB (fun n s'=>∃ i ys σ' H',Inv XC [] σ' H' s' /\ tn i s'.heap /\ (∀ b ∈ fp,H' b=none) /\ W i n ys σ' H') ?_ m0 ⟨0,[],_,_,IC,st3,fun b hb=>(f3 b hb).1,w0⟩
  rintro n s3 ⟨i,ys,σ3,H3,I3',st3',fr3,w3⟩
  have T':=T
  rw [← ctxP,← ctxW,← ctxK] at T'
  obtain ⟨hacc3,alt⟩:=turn i n ys σ3 H3 w3
  rcases alt with ⟨stop,qn⟩ | ⟨go,hsz,NN,hNN,step⟩
  ·refine thn (T'.done XC rfl rfl rfl ctxC i [] s3 σ3 H3 _ I3' (stat fr3) st3' stop) fun r s4 ⟨hr,I4⟩=>?_
   subst hr
   rw [ctxP,ctxW,ctxA]
   exact fin I4 qn
  ·refine thn (T'.item XC rfl rfl rfl ctxC i [] s3 σ3 H3 _ I3' (stat fr3) st3' go) fun r s4 ⟨u,hr,h4⟩=>?_
   subst hr
   refine thn h4 fun _ s5 ⟨x,H5,I5,r5,y5,st5,fr5⟩=>?_
   have I5':=I5.pinned (stat fr5) (T'.obj _ _ st5)
   have a1:=body.tg _ s5 σ3 H5 x u _ I5' r5 (step x H5 y5)
   rw [ctxX] at a1
   refine thn a1 fun _ s6 ⟨σ6,H6,I6,q6⟩=>?_
   have a2:=body.tt _ s6 σ6 H6 _ I6 q6
   rw [ctxX] at a2
   refine thn a2 fun b s7 ⟨H7,I7,q7⟩=>?_
   have again:∀ {s8:Shared} {σ7:St} {H7:Hp} {zs:List V},Inv XC ([] ++ zA3 fp s5.heap) σ7 H7 s8 -> NN zs σ7 H7 -> ∃ m,m < n /\ ∃ i ys σ' H',Inv XC [] σ' H' s8 /\ tn i s8.heap /\ (∀ b ∈ fp,H' b=none) /\ W i m ys σ' H':=fun {s8 σ7 H7 zs} I7 n7=>by
    obtain ⟨m',hm,w7⟩:=hNN zs σ7 H7 n7
    refine ⟨m',hm,i+1,zs,σ7,H7,I7.unpinned,T'.keep _ _ _ st5 fun b hb o e=>(I7.pin (b,o) (qK _ (qK _ (x9 hb e)))).1,fun b hb=>?_,w7⟩
    obtain ⟨o,e,d⟩:=T'.obj _ _ st5 b hb
    exact (I7.pin (b,o) (qK _ (qK _ (x9 hb e)))).2.1
   cases b with
   | false =>
    rw [if_neg zc] at q7 ⊢
    exact again I7 q7
   | true =>
    rw [if_pos rfl] at q7 ⊢
    have a3:=body.te _ s7 σ6 H7 _ I7 q7
    rw [ctxX] at a3
    refine thn a3 fun xv s8 ⟨y,H8,I8,r8,q8⟩=>?_
    obtain ⟨hl8,n8⟩:=q8
    have a4:=yd (X:=XC) _ s8 σ6 H8 (.ref acc) [y] (.ref acc) [xv] (fun _ H9=>NN (ys ++ [y]) σ6 H9) I8 rfl (.cons r8 .nil) ⟨acc,ys,y,rfl,rfl,hl8,hsz,n8⟩
    rw [ctxX] at a4
    refine thn a4 fun _ s9 ⟨_,H9,I9,_,q9⟩=>?_
    exact again I9 q9
 rw [ctxE] at loop
 exact codeAny_compStart_list loop (T.self X.A 0 _ _ _ st3 loop)
theorem jU {y:Str}{py spos:Pos}{ix:Nat}{tg iter elt:Expr}{ifs:List Expr}{scope:Scope}{pos:Pos}{wi:TI}{N:List Str}{nt:Nat}{cs:List Nat}{g:TG}{tt:TT}{te:TE}(hc:X.calm=true)(hi:PI X tg iter wi)
  (hb:N.Nodup -> ∀ (C:Addr) (s:Shared) (H:Hp) (fp:List Addr),CompBody (zAD X N scope C s H fp) tg ifs elt g tt te)
  (hnd:N.Nodup) (hsc:scB scope X.env.scope=true) (hcap:capB cs (N.drop nt) X.N scope X.env.scope=true) (hlen:N.length=nt+cs.length)
  (hs:∀ x,foldedSetIterable iter X.env x=pure x) (hN:X.N.Nodup) (hix:X.N[ix]? = some y) (hy:Loc X.env.scope y) (hf:X.fn y=true \/ X.env.scope.names.lookup y=some .local)
  (hsw:swapsWith (.ListComp elt [⟨tg,iter,ifs,0⟩] scope pos) (some (.Name y py)) spos.line X.env=pure true):PS X (.Assign [.Name y py] (.ListComp elt [⟨tg,iter,ifs,0⟩] scope pos) spos) (tAsg (zAV wi nt cs g tt te) (xk ix)):=by
 intro pins s σ H D I h
 have hsc':=hsc
 unfold scB at hsc'
 rw [zX] at hsc'
 obtain ⟨hkd,hall⟩:=hsc'
 have hkd:scope.kind = .function:=by simpa using hkd
 rw [xM] at hall
 have nocell:∀ x ∈ scope.names,x.2 ≠ .cell:=fun x hx e=>by have:=hall x hx; rw [e] at this; simp at this
 have hnames:∀ x ∈ scope.names,x.2 = .local -> scope.names.lookup x.1=some .local:=fun x hx e=>by
  have:=hall x hx
  rw [e] at this
  simp only [bne_self_eq_false,xQ,zX,beq_iff_eq] at this
  exact this.1.2
 have hclos:closureFor scope X.env=pure (xL scope X.env):=Jj fun x hx e=>by
  have:=hall x hx
  rw [e] at this
  simp only [bne_self_eq_false,xQ,zX,Jp,beq_iff_eq] at this
  exact I.ok.has x.1 this.2
 rw [exec_Assign_Name_used _ _ _ _ hsw]
 refine wpAny_bind (wpAny_standAt (wpAny_bind ?_))
 show wpAny _ X.A (do let _ ← comprehension (.ListComp elt [⟨tg,iter,ifs,0⟩] scope pos) scope X.env _ (newList []) false (eval iter X.env) (some (assign (.Name y py) X.env))) _ _ s
 refine wpAny_bind (wpAny_mono (wpAny_comprehension_free (use:=some (assign (.Name y py) X.env)) (Q:=fun _ s'=>SP X pins D .next s') rfl hs hclos hkd hnames
  (thn (hi pins s σ H _ I h) fun v s1 h1=>thn h1 fun itv s2 h2=>?_)) (fun _ s' hq=>wpAny_pure (wpAny_pure hq)) fun _ _ e=>e)
 obtain ⟨it,fp,tn,J,H2,e,I2,T,st2,f2,hR⟩:=h2
 subst e
 refine wpAny_newObj_type (wpAny_newFunctionEnv nocell (by intro y hy; simp at hy) (fun h3 hn3 hs3=>?_) hkd)
 have fr:=I2.fresh
 have I3:Inv X pins σ (upd H2 s2.heap.objs.size (.lst [])) { s2 with heap:=s2.heap.push { cls:=.type "list",data:=.seq ([]:List Value).toArray },toks:=s2.toks }:=I2.lnew .nil (yG (by decide))
 obtain ⟨W,⟨m0,w0⟩,turn⟩:=hR _ fr
 generalize hacc:s2.heap.objs.size=acc at *
 generalize hsx:({ s2 with heap:=s2.heap.push { cls:=.type "list",data:=.seq ([]:List Value).toArray },toks:=s2.toks }:Shared)=sx at *
 have hC:sx.heap.objs.size=acc+1:=by rw [← hsx,← hacc]; exact Heap.size_push _ _
 have fpl:∀ b ∈ fp,b < acc:=fun b hb=>by
  obtain ⟨o,ho,_⟩:=T.obj _ _ st2 b hb
  rw [← hacc]
  exact Heap.lt_size ho
 have f3:∀ b ∈ fp,FpOk X pins (upd H2 acc (.lst [])) b:=fun b hb=>by
  obtain ⟨f0,f1⟩:=f2 b hb
  exact ⟨by rw [yH (zg (fpl b hb))]; exact f0,f1⟩
 have keep3:∀ b o,sx.heap.get? b=some o -> h3.get? b=some o:=fun b o e=>by
  have hne:b ≠ sx.heap.objs.size:=zg (Heap.lt_size e)
  exact (hs3.2 b hne).trans (Heap.get?_push_of_some _ e)
 have IC:Inv (zAD X N scope sx.heap.objs.size sx (upd H2 acc (.lst [])) fp) [] (JU nt cs σ) (upd H2 acc (.lst [])) { sx with heap:=h3,toks:=sx.toks+([]:List (Str × Value)).length } :=
  zB3 I3 hsc hcap hlen f3 (fun b hb=>by rw [hC]; exact xD (fpl b hb)) (by simpa using hn3) keep3
 have hn3':H2 acc=none:=fr
 generalize hXC:zAD X N scope sx.heap.objs.size sx (upd H2 acc (.lst [])) fp=XC at IC
 have ctxP:XC.prog=X.prog:=by rw [← hXC]; rfl
 have ctxW:XC.w=X.w:=by rw [← hXC]; rfl
 have ctxK:XC.K=X.K:=by rw [← hXC]; rfl
 have ctxA:XC.A=X.A:=by rw [← hXC]; rfl
 have ctxC:XC.calm=true:=by rw [← hXC]; exact hc
 have ctxX:XC.xe=fun _ _=>False:=by rw [← hXC]; rfl
 have ctxE:XC.env=compEnvC scope (xL scope X.env) sx.heap.objs.size X.env:=by rw [← hXC]; rfl
 have body:CompBody XC tg ifs elt g tt te:=by rw [← hXC]; exact hb hnd _ _ _ _
 have st3:tn 0 h3:=T.keep _ _ _ st2 fun b hb o e=>keep3 b o (by rw [← hsx]; exact Heap.get?_push_of_some _ e)
 have stat:∀ {H':Hp},(∀ b ∈ fp,H' b=none) -> ∀ b ∈ fp,FpOk XC [] H' b:=fun hn b hb=>by
  obtain ⟨f0,f1,f2',f3',f4,f5⟩:=f3 b hb
  refine ⟨hn b hb,?_,?_,.inl (by rw [← hXC]; exact hb),fun x c e=>?_,fun p hp=>?_⟩
  ·rw [ctxE]
   exact zg (by rw [hC]; exact xD (fpl b hb))
  ·rw [← hXC]
   intro z
   rcases zV.mp (I3.stkSub b z) with z | z
   ·exact f1 z
   ·exact f2' z
  ·rw [ctxE] at e
   exact f4 x c (zBI e)
  ·rw [← hXC] at hp
   cases hp
 have fin:∀ {σ':St} {H':Hp} {s':Shared},Inv XC [] σ' H' s' -> D.nx (σ.set ix (some (.ref acc))) H' -> compPost (model X.prog X.w) X.A X.xe (some (assign (.Name y py) X.env)) (fun _ s'=>SP X pins D .next s') (.ref acc) sx.heap.objs.size (.ok .next) s':=by
  intro σ' H' s' J' q
  obtain ⟨m,hm,_⟩:=J'.loc
  have hfree:=J'.free
  rw [ctxE] at hm hfree
  have u:=J'.base
  rw [← hXC] at u
  have ok:=J'.hok
  rw [ctxP,ctxW] at ok
  have os:=J'.os
  rw [← hXC] at os
  have IX:Inv X pins σ H' s':=I3.call' os u ok J'.bare fun b hb=>by
   obtain ⟨f0,f1,f2',f3',f4,f5⟩:=f3 b hb
   exact ⟨f3',f1,f4,f5⟩
  have hCL:sx.heap.objs.size ≠ X.env.locals:=Nat.ne_of_gt I3.lt
  have hCc:∀ x c,X.env.cells.lookup x=some c -> c ≠ sx.heap.objs.size:=fun x c e=>by
   obtain ⟨v,z⟩:=I3.cell x c e
   exact zg z.lt
  have hCp:∀ p ∈ X.pn ++ pins,p.1 ≠ sx.heap.objs.size:=fun p hp=>zg (Heap.lt_size (I3.pin p hp).1)
  show wpAny _ X.A (assign (.Name y py) X.env (.ref acc)) _ _ s'
  refine wpAny_assign_Name (zBY IX hN hix hy (v:=.ref acc) rfl (fun s'' I'' ⟨a,hsb,ha⟩=>?_) hf)
  have hCa:sx.heap.objs.size ≠ a:=fun z=>by
   rcases ha with e | e
   ·exact hCL (z.trans e)
   ·exact hCc _ _ e z.symm
  refine ⟨m,hm.sameBut hsb hCa,fun h' hs'=>⟨_,H',?_,q⟩⟩
  exact I''.turned (t':=s''.toks) (fun b o hb e=>(hs'.2 b hb).trans e) hfree hCL (.inr I3.sz) hCc hCp
 have loop:codeAny (model X.prog X.w) X.A (.compLoop (.ListComp elt [⟨tg,iter,ifs,0⟩] scope pos) 0 (.ref it) (.ref acc) XC.env) (compPost (model X.prog X.w) X.A X.xe (some (assign (.Name y py) X.env)) (fun _ s'=>SP X pins D .next s') (.ref acc) sx.heap.objs.size)
   { sx with heap:=h3,toks:=sx.toks+([]:List (Str × Value)).length }:=by
  rw [← ctxP,← ctxW,← ctxA]
  refine jB (fun n s'=>∃ i ys σ' H',Inv XC [] σ' H' s' /\ tn i s'.heap /\ (∀ b ∈ fp,H' b=none) /\ W i n ys σ' H') ?_ m0 ⟨0,[],_,_,IC,st3,fun b hb=>(f3 b hb).1,w0⟩
  rintro n s3 ⟨i,ys,σ3,H3,I3',st3',fr3,w3⟩
  have T':=T
  rw [← ctxP,← ctxW,← ctxK] at T'
  obtain ⟨hacc3,alt⟩:=turn i n ys σ3 H3 w3
  rcases alt with ⟨stop,qn⟩ | ⟨go,hsz,NN,hNN,step⟩
  ·refine thn (T'.done XC rfl rfl rfl ctxC i [] s3 σ3 H3 _ I3' (stat fr3) st3' stop) fun r s4 ⟨hr,I4⟩=>?_
   subst hr
   rw [ctxP,ctxW,ctxA]
   exact fin I4 qn
  ·refine thn (T'.item XC rfl rfl rfl ctxC i [] s3 σ3 H3 _ I3' (stat fr3) st3' go) fun r s4 ⟨u,hr,h4⟩=>?_
   subst hr
   refine thn h4 fun _ s5 ⟨x,H5,I5,r5,y5,st5,fr5⟩=>?_
   have I5':=I5.pinned (stat fr5) (T'.obj _ _ st5)
   have a1:=body.tg _ s5 σ3 H5 x u _ I5' r5 (step x H5 y5)
   rw [ctxX] at a1
   refine thn a1 fun _ s6 ⟨σ6,H6,I6,q6⟩=>?_
   have a2:=body.tt _ s6 σ6 H6 _ I6 q6
   rw [ctxX] at a2
   refine thn a2 fun b s7 ⟨H7,I7,q7⟩=>?_
   have again:∀ {s8:Shared} {σ7:St} {H7:Hp} {zs:List V},Inv XC ([] ++ zA3 fp s5.heap) σ7 H7 s8 -> NN zs σ7 H7 -> ∃ m,m < n /\ ∃ i ys σ' H',Inv XC [] σ' H' s8 /\ tn i s8.heap /\ (∀ b ∈ fp,H' b=none) /\ W i m ys σ' H':=fun {s8 σ7 H7 zs} I7 n7=>by
    obtain ⟨m',hm,w7⟩:=hNN zs σ7 H7 n7
    refine ⟨m',hm,i+1,zs,σ7,H7,I7.unpinned,T'.keep _ _ _ st5 fun b hb o e=>(I7.pin (b,o) (qK _ (qK _ (x9 hb e)))).1,fun b hb=>?_,w7⟩
    obtain ⟨o,e,d⟩:=T'.obj _ _ st5 b hb
    exact (I7.pin (b,o) (qK _ (qK _ (x9 hb e)))).2.1
   cases b with
   | false =>
    rw [if_neg zc] at q7 ⊢
    exact again I7 q7
   | true =>
    rw [if_pos rfl] at q7 ⊢
    have a3:=body.te _ s7 σ6 H7 _ I7 q7
    rw [ctxX] at a3
    refine thn a3 fun xv s8 ⟨y,H8,I8,r8,q8⟩=>?_
    obtain ⟨hl8,n8⟩:=q8
    have a4:=yd (X:=XC) _ s8 σ6 H8 (.ref acc) [y] (.ref acc) [xv] (fun _ H9=>NN (ys ++ [y]) σ6 H9) I8 rfl (.cons r8 .nil) ⟨acc,ys,y,rfl,rfl,hl8,hsz,n8⟩
    rw [ctxX] at a4
    refine thn a4 fun _ s9 ⟨_,H9,I9,_,q9⟩=>?_
    exact again I9 q9
 rw [ctxE] at loop
 exact codeAny_compStart_list loop (T.self X.A 0 _ _ _ st3 loop)
end
end L2
namespace L2
open PySem PySem.Spec PyProof.Rows
inductive Dt where
 | f (x:V)
 | l (xs:List Dt)
 | t (xs:List Dt)
mutual
def Is (K:zA)(H:Hp)(x:V):Dt -> Prop
 | .f y=>x=y /\ jN y=true
 | .l ds=>∃ p xs,x = .ref p /\ SqL K H p xs /\ IsL K H xs ds
 | .t ds=>∃ p xs,x = .ref p /\ SqT K H p xs /\ IsL K H xs ds
def IsL (K:zA)(H:Hp)(xs:List V):List Dt -> Prop
 | []=>xs=[]
 | d :: ds=>∃ x r,xs=x :: r /\ Is K H x d /\ IsL K H r ds
end
mutual
def deq:Dt -> Dt -> Bool
 | .f x,.f y=>eqV x y
 | .l xs,.l ys=>deqL xs ys
 | .t xs,.t ys=>deqL xs ys
 | _,_=>false
def deqL:List Dt -> List Dt -> Bool
 | [],[]=>true
 | x :: xs,y :: ys=>deq x y && deqL xs ys
 | _,_=>false
end
mutual
def dep:Dt -> Nat
 | .f _=>0
 | .l xs=>depL xs+1
 | .t xs=>depL xs+1
def depL:List Dt -> Nat
 | []=>0
 | d :: ds=>max (dep d) (depL ds)
end
theorem IsL.len {K:zA}{H:Hp}:∀ {ds:List Dt} {xs:List V},IsL K H xs ds -> xs.length=ds.length
 | [],xs,h=>by rw [IsL] at h; subst h; rfl
 | d :: ds,xs,h=>by
  rw [IsL] at h
  obtain ⟨x,r,rfl,_,h⟩:=h
  rw [zq,zq,IsL.len h]
theorem IsL.get {K:zA}{H:Hp}:∀ {ds:List Dt} {xs:List V} {j:Nat} {x:V},IsL K H xs ds -> xs[j]? = some x -> ∃ d,ds[j]? = some d /\ Is K H x d
 | [],xs,j,x,h,e=>by rw [IsL] at h; subst h; simp at e
 | d :: ds,xs,j,x,h,e=>by
  rw [IsL] at h
  obtain ⟨y,r,rfl,hy,h⟩:=h
  cases j with
  | zero=>simp at e; subst e; exact ⟨d,rfl,hy⟩
  | succ j=>exact IsL.get (j:=j) h (by simpa using e)
theorem depL_mem {ds:List Dt}:∀ {d:Dt} {j:Nat},ds[j]? = some d -> dep d <= depL ds:=by
 induction ds with
 | nil=>intro d j e; simp at e
 | cons a r ih =>
  intro d j e
  rw [depL]
  cases j with
  | zero=>simp at e; subst e; omega
  | succ j=>have:=ih (d:=d) (j:=j) (by simpa using e); omega
mutual
theorem zBK:∀ (d:Dt) {K:zA} {H:Hp} {x:V},Is K H x d -> deq d d=true
 | .f y,K,H,x,h=>by
  rw [Is] at h
  rw [deq]
  have hy:=h.2
  cases y <;> first | (simp [eqV]; done) | (exact absurd hy (by decide)) | (cases hy)
 | .l ds,K,H,x,h=>by
  rw [Is] at h
  obtain ⟨p,xs,_,_,h⟩:=h
  rw [deq]
  exact zBc ds h
 | .t ds,K,H,x,h=>by
  rw [Is] at h
  obtain ⟨p,xs,_,_,h⟩:=h
  rw [deq]
  exact zBc ds h
theorem zBc:∀ (ds:List Dt) {K:zA} {H:Hp} {xs:List V},IsL K H xs ds -> deqL ds ds=true
 | [],_,_,_,_=>by rw [deqL]
 | d :: ds,K,H,xs,h=>by
  rw [IsL] at h
  obtain ⟨y,r,_,hy,h⟩:=h
  rw [deqL,zBK d hy,zBc ds h]
  rfl
end
theorem deqL_get:∀ {ds es:List Dt},deqL ds es=(decide (ds.length=es.length) && (yr ds.length).all fun j=>match ds[j]?,es[j]? with | some d,some e=>deq d e | _,_=>false)
 | [],[]=>by simp [deqL]
 | [],e :: es=>by simp [deqL]
 | d :: ds,[]=>by simp [deqL]
 | d :: ds,e :: es=>by
  rw [deqL,deqL_get]
  have r:yr (d :: ds).length=0 :: (yr ds.length).map (· + 1):=by rw [zq,List.range_succ_eq_map]
  rw [r,List.all_cons,List.all_map]
  simp only [jf,zq,Nat.add_right_cancel_iff]
  have c:((fun j=>match (d :: ds)[j]?,(e :: es)[j]? with | some d,some e=>deq d e | _,_=>false) ∘ fun x=>x+1)=(fun j=>match ds[j]?,es[j]? with | some d,some e=>deq d e | _,_=>false):=by
   funext j
   simp
  rw [c]
  cases deq d e <;> cases decide (ds.length=es.length) <;> rfl
section
variable {X:Cx}{pins:List (Addr × Obj)}{σ:St}{H:Hp}{s:Shared}
mutual
theorem Is.inj:∀ (d:Dt) {e:Dt} {x:V},Inv X pins σ H s -> Is X.K H x d -> Is X.K H x e -> (∀ p xs ys,SqL X.K H p xs -> ¬ SqT X.K H p ys) -> d=e
 | .f y,e,x,I,h,h',hk=>by
  rw [Is] at h
  obtain ⟨rfl,hy⟩:=h
  cases e with
  | f z=>rw [Is] at h'; rw [h'.1]
  | l ds=>rw [Is] at h'; obtain ⟨p,xs,e,_⟩:=h'; subst e; cases hy
  | t ds=>rw [Is] at h'; obtain ⟨p,xs,e,_⟩:=h'; subst e; cases hy
 | .l ds,e,x,I,h,h',hk=>by
  rw [Is] at h
  obtain ⟨p,xs,rfl,hs,h⟩:=h
  cases e with
  | f z=>rw [Is] at h'; obtain ⟨e,hz⟩:=h'; subst e; cases hz
  | l es =>
   rw [Is] at h'
   obtain ⟨q,ys,e,hs',h'⟩:=h'
   cases e
   rw [I.list_inj hs' hs] at h'
   rw [IsL.inj ds I h h' hk]
  | t es =>
   rw [Is] at h'
   obtain ⟨q,ys,e,hs',h'⟩:=h'
   cases e
   exact absurd hs' (hk _ _ _ hs)
 | .t ds,e,x,I,h,h',hk=>by
  rw [Is] at h
  obtain ⟨p,xs,rfl,hs,h⟩:=h
  cases e with
  | f z=>rw [Is] at h'; obtain ⟨e,hz⟩:=h'; subst e; cases hz
  | l es =>
   rw [Is] at h'
   obtain ⟨q,ys,e,hs',h'⟩:=h'
   cases e
   exact absurd hs (hk _ _ _ hs')
  | t es =>
   rw [Is] at h'
   obtain ⟨q,ys,e,hs',h'⟩:=h'
   cases e
   rw [I.tuple_inj hs' hs] at h'
   rw [IsL.inj ds I h h' hk]
theorem IsL.inj:∀ (ds:List Dt) {es:List Dt} {xs:List V},Inv X pins σ H s -> IsL X.K H xs ds -> IsL X.K H xs es -> (∀ p xs ys,SqL X.K H p xs -> ¬ SqT X.K H p ys) -> ds=es
 | [],es,xs,I,h,h',hk=>by
  rw [IsL] at h
  subst h
  cases es with
  | nil=>rfl
  | cons e es=>rw [IsL] at h'; obtain ⟨_,_,e,_⟩:=h'; cases e
 | d :: ds,es,xs,I,h,h',hk=>by
  rw [IsL] at h
  obtain ⟨y,r,rfl,hy,h⟩:=h
  cases es with
  | nil=>rw [IsL] at h'; cases h'
  | cons e es =>
   rw [IsL] at h'
   obtain ⟨y',r',e1,hy',h'⟩:=h'
   cases e1
   rw [Is.inj d I hy hy' hk,IsL.inj ds I h h' hk]
end
theorem Inv.apart (I:Inv X pins σ H s):∀ p xs ys,SqL X.K H p xs -> ¬ SqT X.K H p ys:=fun p xs ys h h'=>by
 obtain ⟨its,_,⟨o,n,e,c,_⟩,_⟩:=I.list h
 obtain ⟨its',_,⟨o',e',c',_⟩,_⟩:=I.tuple h'
 rw [e] at e'
 cases e'
 rw [c] at c'
 exact absurd c' (by decide)
theorem eqAt_F {x:V}(e:Dt){A:Around}{y:V}{u v:Value}(hu:A.units < cLine)(I:Inv X pins σ H s)(fx:jN x=true)(hy:Is X.K H y e)(rx:RelV x u)(ry:RelV y v):SeqAt.EqAt A s u v (deq (.f x) e):=by
 cases e with
 | f y' =>
  rw [Is] at hy
  obtain ⟨rfl,fy⟩:=hy
  rw [deq]
  exact eqAt_V rx ry fx fy
 | l ds =>
  rw [Is] at hy
  obtain ⟨p,ys,rfl,hs,_⟩:=hy
  cases ry
  obtain ⟨its,_,pl,_⟩:=I.list hs
  have hl:=pl.isList
  rw [show deq (.f x) (.l ds)=false by rw [deq]; all_goals (intros; simp_all)]
  cases x with
  | non=>cases rx; exact SeqAt.EqAt.none_list hl hu
  | bl b=>cases rx; exact SeqAt.EqAt.bool_list b hl hu
  | int i=>obtain ⟨t,rfl⟩:=rx; exact SeqAt.EqAt.int_list i t hl hu
  | str z=>obtain ⟨t,rfl⟩:=rx; exact SeqAt.EqAt.str_list z t hl hu
  | _=>cases fx
 | t ds =>
  rw [Is] at hy
  obtain ⟨p,ys,rfl,hs,_⟩:=hy
  cases ry
  obtain ⟨its,_,pl,_⟩:=I.tuple hs
  have hl:s.heap.IsTuple p its.toArray:=pl
  rw [show deq (.f x) (.t ds)=false by rw [deq]; all_goals (intros; simp_all)]
  cases x with
  | non=>cases rx; exact SeqAt.EqAt.none_tuple hl hu
  | bl b=>cases rx; exact SeqAt.EqAt.bool_tuple b hl hu
  | int i=>obtain ⟨t,rfl⟩:=rx; exact SeqAt.EqAt.int_tuple i t hl hu
  | str z=>obtain ⟨t,rfl⟩:=rx; exact SeqAt.EqAt.str_tuple z t hl hu
  | _=>cases fx
def deqAt (ds es:List Dt)(j:Nat):Bool:=match ds[j]?,es[j]? with | some d,some e=>deq d e | _,_=>false
theorem elems {n:Nat}{A:Around}(ih:∀ (d e:Dt) {A:Around} {x y:V} {u v:Value},dep d <= n -> A.units+n < cLine -> Inv X pins σ H s -> Is X.K H x d -> Is X.K H y e -> RelV x u -> RelV y v -> SeqAt.EqAt A s u v (deq d e))(hu:A.units+(n+1) < cLine)(I:Inv X pins σ H s)
  {ds es:List Dt} {xs ys:List V} {its its':List Value} (hd:depL ds <= n) (hx:IsL X.K H xs ds) (hy:IsL X.K H ys es) (rx:Vals xs its) (ry:Vals ys its') :
  ∀ j (h1:j < its.toArray.size) (h2:j < its'.toArray.size),SeqAt.EqAt A.in1 s its.toArray[j] its'.toArray[j] (deqAt ds es j):=by
 intro j h1 h2
 have l1:=rx.length
 have l2:=ry.length
 have k1:j < xs.length:=by simpa [l1] using h1
 have k2:j < ys.length:=by simpa [l2] using h2
 obtain ⟨d,e1,q1⟩:=hx.get (qA k1)
 obtain ⟨e,e2,q2⟩:=hy.get (qA k2)
 obtain ⟨u,hu',ru⟩:=rx.get (qA k1)
 obtain ⟨v,hv',rv⟩:=ry.get (qA k2)
 have f1:its.toArray[j]=u:=by
  have:its[j]? = some its.toArray[j]:=by simp
  rw [hu'] at this
  exact (Option.some.inj this).symm
 have f2:its'.toArray[j]=v:=by
  have:its'[j]? = some its'.toArray[j]:=by simp
  rw [hv'] at this
  exact (Option.some.inj this).symm
 rw [f1,f2]
 unfold deqAt
 rw [e1,e2]
 exact ih d e (zZ (depL_mem e1) hd) (by rw [Around.in1_units]; omega) I q1 q2 ru rv
theorem zAg {ds es:List Dt}(h:ds.length=es.length):(yr ds.length).all (deqAt ds es)=deqL ds es:=by
 rw [deqL_get,decide_eq_true h,Bool.true_and]
 rfl
theorem deqL_ne {ds es:List Dt}(h:ds.length ≠ es.length):deqL ds es=false:=by
 rw [deqL_get,decide_eq_false h,Bool.false_and]
theorem rcAt_D:∀ (n:Nat) (d e:Dt) {A:Around} {x y:V} {u v:Value},dep d <= n -> A.units+n < cLine -> Inv X pins σ H s -> Is X.K H x d -> Is X.K H y e -> RelV x u -> RelV y v -> SeqAt.EqAt A s u v (deq d e) /\ (∀ p,x = .ref p -> SeqAt.RcAt A s u v (deq d e))
 | n,.f x',e,A,x,y,u,v,hn,hu,I,hx,hy,rx,ry=>by
  rw [Is] at hx
  obtain ⟨rfl,fx⟩:=hx
  exact ⟨eqAt_F e (by omega) I fx hy rx ry,fun p e=>by subst e; cases fx⟩
 | 0,.l ds,e,A,x,y,u,v,hn,hu,I,hx,hy,rx,ry=>by rw [dep] at hn; omega
 | 0,.t ds,e,A,x,y,u,v,hn,hu,I,hx,hy,rx,ry=>by rw [dep] at hn; omega
 | n+1,.l ds,e,A,x,y,u,v,hn,hu,I,hx,hy,rx,ry=>by
  rw [dep] at hn
  have hx0:=hx
  rw [Is] at hx
  obtain ⟨p,xs,rfl,hs,hxs⟩:=hx
  cases rx
  obtain ⟨its,rv,pl,_⟩:=I.list hs
  have hl:=pl.isList
  have hu':A.units < cLine:=by omega
  have ih:=fun (d e:Dt) {A:Around} {x y:V} {u v:Value} (a:dep d <= n) (b:A.units+n < cLine) (c:Inv X pins σ H s) (f:Is X.K H x d) (g:Is X.K H y e) (h:RelV x u) (i:RelV y v)=>(rcAt_D n d e a b c f g h i).1
  cases e with
  | f y' =>
   rw [Is] at hy
   obtain ⟨rfl,fy⟩:=hy
   rw [show deq (.l ds) (.f y)=false by rw [deq]; all_goals (intros; simp_all)]
   cases y with
   | non=>cases ry; exact ⟨SeqAt.EqAt.list_none hl hu',fun _ _=>SeqAt.RcAt.list_none hl hu'⟩
   | bl b=>cases ry; exact ⟨SeqAt.EqAt.list_bool b hl hu',fun _ _=>SeqAt.RcAt.list_bool b hl hu'⟩
   | int i=>obtain ⟨t,rfl⟩:=ry; exact ⟨SeqAt.EqAt.list_int i t hl hu',fun _ _=>SeqAt.RcAt.list_int i t hl hu'⟩
   | str z=>obtain ⟨t,rfl⟩:=ry; exact ⟨SeqAt.EqAt.list_str z t hl hu',fun _ _=>SeqAt.RcAt.list_str z t hl hu'⟩
   | _=>cases fy
  | l es =>
   have hy0:=hy
   rw [Is] at hy
   obtain ⟨q,ys,rfl,hs',hys⟩:=hy
   cases ry
   obtain ⟨its',rv',pl',_⟩:=I.list hs'
   have hl':=pl'.isList
   have e1:its.toArray.size=ds.length:=by rw [qM,← rv.length,hxs.len]
   have e2:its'.toArray.size=es.length:=by rw [qM,← rv'.length,hys.len]
   have rc:SeqAt.RcAt A s (.ref p) (.ref q) (deq (.l ds) (.l es)):=by
    rw [deq]
    by_cases hz:ds.length=es.length
    ·have:=SeqAt.RcAt.lists hl hl' (by omega) hu' (elems ih hu I (by omega) hxs hys rv rv')
     rw [e1,zAg hz] at this
     exact this
    ·rw [deqL_ne hz]
     exact SeqAt.RcAt.lists_lengths hl hl' (by rw [bne_iff_ne]; omega) hu'
   refine ⟨?_,fun _ _=>rc⟩
   by_cases hpq:p=q
   ·subst hpq
    have:=Is.inj _ I hx0 hy0 I.apart
    rw [← this,zBK _ hx0]
    exact SeqAt.EqAt.same _
   ·exact SeqAt.EqAt.of_refs hpq rc
  | t es =>
   rw [Is] at hy
   obtain ⟨q,ys,rfl,hs',hys⟩:=hy
   cases ry
   obtain ⟨its',rv',pl',_⟩:=I.tuple hs'
   have hl':s.heap.IsTuple q its'.toArray:=pl'
   rw [show deq (.l ds) (.t es)=false by rw [deq]; all_goals (intros; simp_all)]
   exact ⟨SeqAt.EqAt.list_tuple hl hl' hu',fun _ _=>SeqAt.RcAt.list_tuple hl hl' hu'⟩
 | n+1,.t ds,e,A,x,y,u,v,hn,hu,I,hx,hy,rx,ry=>by
  rw [dep] at hn
  have hx0:=hx
  rw [Is] at hx
  obtain ⟨p,xs,rfl,hs,hxs⟩:=hx
  cases rx
  obtain ⟨its,rv,pl,_⟩:=I.tuple hs
  have hl:s.heap.IsTuple p its.toArray:=pl
  have hu':A.units < cLine:=by omega
  have ih:=fun (d e:Dt) {A:Around} {x y:V} {u v:Value} (a:dep d <= n) (b:A.units+n < cLine) (c:Inv X pins σ H s) (f:Is X.K H x d) (g:Is X.K H y e) (h:RelV x u) (i:RelV y v)=>(rcAt_D n d e a b c f g h i).1
  cases e with
  | f y' =>
   rw [Is] at hy
   obtain ⟨rfl,fy⟩:=hy
   rw [show deq (.t ds) (.f y)=false by rw [deq]; all_goals (intros; simp_all)]
   cases y with
   | non=>cases ry; exact ⟨SeqAt.EqAt.tuple_none hl hu',fun _ _=>SeqAt.RcAt.tuple_none hl hu'⟩
   | bl b=>cases ry; exact ⟨SeqAt.EqAt.tuple_bool b hl hu',fun _ _=>SeqAt.RcAt.tuple_bool b hl hu'⟩
   | int i=>obtain ⟨t,rfl⟩:=ry; exact ⟨SeqAt.EqAt.tuple_int i t hl hu',fun _ _=>SeqAt.RcAt.tuple_int i t hl hu'⟩
   | str z=>obtain ⟨t,rfl⟩:=ry; exact ⟨SeqAt.EqAt.tuple_str z t hl hu',fun _ _=>SeqAt.RcAt.tuple_str z t hl hu'⟩
   | _=>cases fy
  | l es =>
   rw [Is] at hy
   obtain ⟨q,ys,rfl,hs',hys⟩:=hy
   cases ry
   obtain ⟨its',rv',pl',_⟩:=I.list hs'
   have hl':=pl'.isList
   rw [show deq (.t ds) (.l es)=false by rw [deq]; all_goals (intros; simp_all)]
   exact ⟨SeqAt.EqAt.tuple_list hl hl' hu',fun _ _=>SeqAt.RcAt.tuple_list hl hl' hu'⟩
  | t es =>
   have hy0:=hy
   rw [Is] at hy
   obtain ⟨q,ys,rfl,hs',hys⟩:=hy
   cases ry
   obtain ⟨its',rv',pl',_⟩:=I.tuple hs'
   have hl':s.heap.IsTuple q its'.toArray:=pl'
   have e1:its.toArray.size=ds.length:=by rw [qM,← rv.length,hxs.len]
   have e2:its'.toArray.size=es.length:=by rw [qM,← rv'.length,hys.len]
   have rc:SeqAt.RcAt A s (.ref p) (.ref q) (deq (.t ds) (.t es)):=by
    rw [deq]
    have:=SeqAt.RcAt.tuples hl hl' hu' (elems ih hu I (by omega) hxs hys rv rv')
    rw [e1,e2] at this
    by_cases hz:ds.length=es.length
    ·rw [← hz,Nat.min_self,zAg hz,beq_self_eq_true,Bool.and_true] at this
     exact this
    ·rw [deqL_ne hz]
     have:(ds.length == es.length)=false:=by simpa using hz
     simp_all
   refine ⟨?_,fun _ _=>rc⟩
   by_cases hpq:p=q
   ·subst hpq
    have:=Is.inj _ I hx0 hy0 I.apart
    rw [← this,zBK _ hx0]
    exact SeqAt.EqAt.same _
   ·exact SeqAt.EqAt.of_refs hpq rc
end
def rEqD (K:zA):R2:=fun x y H Q=>∃ p d e,x = .ref p /\ Is K H x d /\ Is K H y e /\ dep d <= 50 /\ Q (.bl (deq d e)) H
def rNeD (K:zA):R2:=fun x y H Q=>∃ p d e,x = .ref p /\ Is K H x d /\ Is K H y e /\ dep d <= 50 /\ Q (.bl (!deq d e)) H
section
variable {X:Cx}
theorem op_eqD {k:Nat}(hr:Room k X.A):OpR X (compareOp .Eq) (rEqD X.K):=by
 intro pins s σ H x y v u Q I rx ry h
 obtain ⟨p,d,e,rfl,hx,hy,hd,q⟩:=h
 have:=(rcAt_D 50 d e (A:=X.A) hd (by have:=hr.units; omega) I hx hy rx ry).2 p rfl
 exact this X.prog X.w X.xe _ ⟨.bl _,H,I,rfl,q⟩
end
end L2
namespace L2
open PySem PySem.Spec PyProof.Rows
section
variable {X:Cx}{pins:List (Addr × Obj)}{σ:St}{H:Hp}{s:Shared}
theorem ih50 (n:Nat)(d e:Dt){A:Around}{x y:V}{u v:Value}(a:dep d <= n)(b:A.units+n < cLine)(c:Inv X pins σ H s)(f:Is X.K H x d)(g:Is X.K H y e)(h:RelV x u)(i:RelV y v):SeqAt.EqAt A s u v (deq d e):=(rcAt_D n d e a b c f g h i).1
theorem neAt_D (n:Nat)(d e:Dt){A:Around}{p:Addr}{y:V}{v:Value}(hn:dep d <= n+1)(hu:A.units+(n+1) < cLine)(I:Inv X pins σ H s)(hx:Is X.K H (.ref p) d)(hy:Is X.K H y e)(ry:RelV y v):SeqAt.RcNeAt A s (.ref p) v (!deq d e):=by
 have hu':A.units < cLine:=by omega
 cases d with
 | f x=>rw [Is] at hx; obtain ⟨e,hz⟩:=hx; subst e; cases hz
 | l ds =>
  rw [dep] at hn
  rw [Is] at hx
  obtain ⟨p',xs,e0,hs,hxs⟩:=hx
  cases e0
  obtain ⟨its,rv,pl,_⟩:=I.list hs
  have hl:=pl.isList
  cases e with
  | f y' =>
   rw [Is] at hy
   obtain ⟨rfl,fy⟩:=hy
   rw [show deq (.l ds) (.f y)=false by rw [deq]; all_goals (intros; simp_all)]
   cases y with
   | non=>cases ry; exact SeqAt.RcNeAt.list_none hl hu'
   | bl b=>cases ry; exact SeqAt.RcNeAt.list_bool b hl hu'
   | int i=>obtain ⟨t,rfl⟩:=ry; exact SeqAt.RcNeAt.list_int i t hl hu'
   | str z=>obtain ⟨t,rfl⟩:=ry; exact SeqAt.RcNeAt.list_str z t hl hu'
   | _=>cases fy
  | l es =>
   rw [Is] at hy
   obtain ⟨q,ys,rfl,hs',hys⟩:=hy
   cases ry
   obtain ⟨its',rv',pl',_⟩:=I.list hs'
   have hl':=pl'.isList
   have e1:its.toArray.size=ds.length:=by rw [qM,← rv.length,hxs.len]
   have e2:its'.toArray.size=es.length:=by rw [qM,← rv'.length,hys.len]
   rw [deq]
   by_cases hz:ds.length=es.length
   ·have:=SeqAt.RcNeAt.lists hl hl' (by omega) hu' (elems (ih50 n) hu I (by omega) hxs hys rv rv')
    rw [e1,zAg hz] at this
    exact this
   ·rw [deqL_ne hz]
    exact SeqAt.RcNeAt.lists_lengths hl hl' (by rw [bne_iff_ne]; omega) hu'
  | t es =>
   rw [Is] at hy
   obtain ⟨q,ys,rfl,hs',hys⟩:=hy
   cases ry
   obtain ⟨its',rv',pl',_⟩:=I.tuple hs'
   have hl':s.heap.IsTuple q its'.toArray:=pl'
   rw [show deq (.l ds) (.t es)=false by rw [deq]; all_goals (intros; simp_all)]
   exact SeqAt.RcNeAt.list_tuple hl hl' hu'
 | t ds =>
  rw [dep] at hn
  rw [Is] at hx
  obtain ⟨p',xs,e0,hs,hxs⟩:=hx
  cases e0
  obtain ⟨its,rv,pl,_⟩:=I.tuple hs
  have hl:s.heap.IsTuple p its.toArray:=pl
  cases e with
  | f y' =>
   rw [Is] at hy
   obtain ⟨rfl,fy⟩:=hy
   rw [show deq (.t ds) (.f y)=false by rw [deq]; all_goals (intros; simp_all)]
   cases y with
   | non=>cases ry; exact SeqAt.RcNeAt.tuple_none hl hu'
   | bl b=>cases ry; exact SeqAt.RcNeAt.tuple_bool b hl hu'
   | int i=>obtain ⟨t,rfl⟩:=ry; exact SeqAt.RcNeAt.tuple_int i t hl hu'
   | str z=>obtain ⟨t,rfl⟩:=ry; exact SeqAt.RcNeAt.tuple_str z t hl hu'
   | _=>cases fy
  | l es =>
   rw [Is] at hy
   obtain ⟨q,ys,rfl,hs',hys⟩:=hy
   cases ry
   obtain ⟨its',rv',pl',_⟩:=I.list hs'
   have hl':=pl'.isList
   rw [show deq (.t ds) (.l es)=false by rw [deq]; all_goals (intros; simp_all)]
   exact SeqAt.RcNeAt.tuple_list hl hl' hu'
  | t es =>
   rw [Is] at hy
   obtain ⟨q,ys,rfl,hs',hys⟩:=hy
   cases ry
   obtain ⟨its',rv',pl',_⟩:=I.tuple hs'
   have hl':s.heap.IsTuple q its'.toArray:=pl'
   have e1:its.toArray.size=ds.length:=by rw [qM,← rv.length,hxs.len]
   have e2:its'.toArray.size=es.length:=by rw [qM,← rv'.length,hys.len]
   rw [deq]
   have:=SeqAt.RcNeAt.tuples hl hl' hu' (elems (ih50 n) hu I (by omega) hxs hys rv rv')
   rw [e1,e2] at this
   by_cases hz:ds.length=es.length
   ·rw [← hz,Nat.min_self,zAg hz,beq_self_eq_true,Bool.and_true] at this
    exact this
   ·rw [deqL_ne hz]
    have:(ds.length == es.length)=false:=by simpa using hz
    simp_all
end
section
variable {X:Cx}
theorem op_neD {k:Nat}(hr:Room k X.A):OpR X (compareOp .NotEq) (rNeD X.K):=by
 intro pins s σ H x y v u Q I rx ry h
 obtain ⟨p,d,e,rfl,hx,hy,hd,q⟩:=h
 cases rx
 have:=neAt_D 50 d e (A:=X.A) (by omega) (by have:=hr.units; omega) I hx hy ry
 exact this X.prog X.w X.xe _ ⟨.bl _,H,I,rfl,q⟩
end
theorem isL_flat {K:zA}{H:Hp}:∀ {xs:List V},xs.all jN=true -> IsL K H xs (xs.map Dt.f)
 | [],_=>by rw [jn,IsL]
 | x :: r,h=>by
  rw [List.all_cons,zX] at h
  rw [zR,IsL]
  exact ⟨x,r,rfl,by rw [Is]; exact ⟨rfl,h.1⟩,isL_flat h.2⟩
theorem zBd {K:zA}{H:Hp}{p:Addr}{xs:List V}(h:SqL K H p xs)(f:xs.all jN=true):Is K H (.ref p) (.l (xs.map Dt.f)):=by rw [Is]; exact ⟨p,xs,rfl,h,isL_flat f⟩
theorem is_tup {K:zA}{H:Hp}{p:Addr}{xs:List V}(h:SqT K H p xs)(f:xs.all jN=true):Is K H (.ref p) (.t (xs.map Dt.f)):=by rw [Is]; exact ⟨p,xs,rfl,h,isL_flat f⟩
theorem zBe:∀ {xs:List V},depL (xs.map Dt.f)=0
 | []=>by rw [jn,depL]
 | x :: r=>by rw [zR,depL,zBe,dep]; rfl
theorem dep_l {xs:List V}:dep (.l (xs.map Dt.f))=1:=by rw [dep,zBe]
theorem dep_t {xs:List V}:dep (.t (xs.map Dt.f))=1:=by rw [dep,zBe]
theorem jV (ns:List Int):(ns.map V.int).all jN=true:=by rw [List.all_map]; simp [jN]
theorem zBf:∀ (ns ms:List Int),deqL ((ns.map V.int).map Dt.f) ((ms.map V.int).map Dt.f)=decide (ns=ms)
 | [],[]=>by simp [deqL]
 | [],m :: ms=>by simp [deqL]
 | n :: ns,[]=>by simp [deqL]
 | n :: ns,m :: ms=>by
  rw [zR,zR,zR,zR,deqL,zBf ns ms,deq]
  by_cases h1:n=m <;> by_cases h2:ns=ms <;> simp [eqV,h1,h2]
theorem deq_lints (ns ms:List Int):deq (.l ((ns.map V.int).map Dt.f)) (.l ((ms.map V.int).map Dt.f))=decide (ns=ms):=by rw [deq,zBf]
theorem deq_tints (ns ms:List Int):deq (.t ((ns.map V.int).map Dt.f)) (.t ((ms.map V.int).map Dt.f))=decide (ns=ms):=by rw [deq,zBf]
theorem eqLI {K:zA}{H:Hp}{p q:Addr}{ns ms:List Int}{Q:VK}(h1:SqL K H p (ns.map V.int))(h2:SqL K H q (ms.map V.int))(h:Q (.bl (decide (ns=ms))) H):rEqD K (.ref p) (.ref q) H Q :=
 ⟨p,_,_,rfl,zBd h1 (jV _),zBd h2 (jV _),by rw [dep_l]; decide,by rw [deq_lints]; exact h⟩
theorem neLI {K:zA}{H:Hp}{p q:Addr}{ns ms:List Int}{Q:VK}(h1:SqL K H p (ns.map V.int))(h2:SqL K H q (ms.map V.int))(h:Q (.bl (!decide (ns=ms))) H):rNeD K (.ref p) (.ref q) H Q :=
 ⟨p,_,_,rfl,zBd h1 (jV _),zBd h2 (jV _),by rw [dep_l]; decide,by rw [deq_lints]; exact h⟩
theorem eqTI {K:zA}{H:Hp}{p q:Addr}{ns ms:List Int}{Q:VK}(h1:SqT K H p (ns.map V.int))(h2:SqT K H q (ms.map V.int))(h:Q (.bl (decide (ns=ms))) H):rEqD K (.ref p) (.ref q) H Q :=
 ⟨p,_,_,rfl,is_tup h1 (jV _),is_tup h2 (jV _),by rw [dep_t]; decide,by rw [deq_tints]; exact h⟩
def y9 (J:It)(nt:Nat)(cs:List Nat)(g:TG)(tt:TT)(te:TE)(σ:St)(H1:Hp)(Q:VK):Prop:=∀ acc,H1 acc=none ->
 ∃ W:Nat -> Nat -> List V -> St -> Hp -> Prop,(∃ m,W 0 m [] (JU nt cs σ) (upd H1 acc (.lst []))) /\ ∀ i m ys σ' H',W i m ys σ' H' -> H' acc=some (.lst ys) /\
  ((J.stop i H' /\ Q (.ref acc) H') \/ (J.go i H' /\ ys.length < sizeLine /\ ∃ N:List V -> St -> Hp -> Prop,(∀ zs σ2 H2,N zs σ2 H2 -> ∃ m',m' < m /\ W (i+1) m' zs σ2 H2) /\
   ∀ x H2,J.yld i H' x H2 -> g x σ' H2 fun σ3 H3=>tt σ3 H3 fun b H4=>if b=true then te σ3 H4 fun y H5=>H5 acc=some (.lst ys) /\ N (ys ++ [y]) σ3 (upd H5 acc (.lst (ys ++ [y]))) else N ys σ3 H4))
section
variable {K:zA}{σ:St}{H:Hp}{Q:VK}{nt:Nat}{cs:List Nat}{g:TG}{tt:TT}{te:TE}{a:Addr}
theorem w_compL {tl:TE}:zAV (iList K tl) nt cs g tt te σ H Q=(tl σ H fun x H1=>∃ a,x = .ref a /\ (∃ xs,SqL K H1 a xs) /\ y9 (Itl K a) nt cs g tt te σ H1 Q):=rfl
theorem w_compT {tl:TE}:zAV (iTup K tl) nt cs g tt te σ H Q=(tl σ H fun x H1=>∃ a,x = .ref a /\ (∃ xs,SqT K H1 a xs) /\ y9 (Itt K a) nt cs g tt te σ H1 Q):=rfl
theorem w_comp1 {ta:TA}:zAV (iRng1 ta) nt cs g tt te σ H Q=(ta σ H fun vs H1=>∃ j:Int,vs=[.int j] /\ -(2 ^ 62) <= j /\ j < 2 ^ 62 /\ y9 (Itr 0 j.toNat) nt cs g tt te σ H1 Q):=rfl
theorem zA1 {R:Bool -> Hp -> Prop}:tYes σ H R=R true H:=rfl
def yZ (cs:List Nat)(σ:St):St:=cs.map fun c=>(σ[c]?).join
theorem comp_inv {J:It}{xs:List V}(Pv:Addr -> Nat -> List V -> Hp -> Prop)(hz:xs.length <= sizeLine)
  (hgo:∀ acc i ys H',i < xs.length -> Pv acc i ys H' -> J.go i H') (hyl:∀ acc i ys H' x H2,Pv acc i ys H' -> J.yld i H' x H2 -> H2=H' /\ xs[i]? = some x) (hst:∀ acc ys H',Pv acc xs.length ys H' -> J.stop xs.length H')
  (h0:∀ acc,H acc=none -> Pv acc 0 [] (upd H acc (.lst []))) (hacc:∀ acc i ys H',Pv acc i ys H' -> H' acc=some (.lst ys) /\ ys.length <= i)
  (hs:∀ acc i ys H' x (R:Option V -> Hp -> Prop),H acc=none -> xs[i]? = some x -> Pv acc i ys H' -> (∀ y H5,H5 acc=some (.lst ys) -> Pv acc (i+1) (ys ++ [y]) (upd H5 acc (.lst (ys ++ [y]))) -> R (some y) H5) -> (∀ H5,Pv acc (i+1) ys H5 -> R none H5) ->
   tt (some x :: yZ cs σ) H' fun b H4=>if b=true then te (some x :: yZ cs σ) H4 fun y H5=>R (some y) H5 else R none H4)
  (hd:∀ acc ys H',H acc=none -> Pv acc xs.length ys H' -> Q (.ref acc) H'):y9 J 1 cs (xk 0) tt te σ H Q:=by
 intro acc hn
 refine ⟨fun i m ys σ' H'=>m=xs.length - i /\ i <= xs.length /\ (∃ o,σ'=o :: yZ cs σ) /\ Pv acc i ys H',⟨_,rfl,yM _,⟨none,rfl⟩,h0 acc hn⟩,?_⟩
 rintro i m ys σ' H' ⟨rfl,hi,⟨o,rfl⟩,p⟩
 obtain ⟨ha,hl⟩:=hacc acc i ys H' p
 refine ⟨ha,?_⟩
 by_cases hlt:i < xs.length
 ·refine .inr ⟨hgo acc i ys H' hlt p,by omega,fun zs σ2 H2=>(∃ o,σ2=o :: yZ cs σ) /\ Pv acc (i+1) zs H2,fun zs σ2 H2 ⟨q1,q2⟩=>⟨xs.length - (i+1),by omega,rfl,hlt,q1,q2⟩,fun x H2 y=>?_⟩
  obtain ⟨e,hx⟩:=hyl acc i ys H' x H2 p y
  subst e
  show tt (some x :: yZ cs σ) _ _
  exact hs acc i ys _ x (fun o H5=>match o with | some y=>H5 acc=some (.lst ys) /\ (∃ o,some x :: yZ cs σ = o :: yZ cs σ) /\ Pv acc (i+1) (ys ++ [y]) (upd H5 acc (.lst (ys ++ [y]))) | none=>(∃ o,some x :: yZ cs σ = o :: yZ cs σ) /\ Pv acc (i+1) ys H5) hn hx p
   (fun y H5 z1 z2=>⟨z1,⟨_,rfl⟩,z2⟩) (fun H5 z=>⟨⟨_,rfl⟩,z⟩)
 ·have e:i=xs.length:=by omega
  subst e
  exact .inl ⟨hst acc ys H' p,hd acc ys H' hn p⟩
theorem zBg {J:It}{xs:List V}(f:V -> Option V)(hz:xs.length <= sizeLine)
  (hJ:∀ H',Same H H' -> (∀ i,i < xs.length -> J.go i H') /\ (∀ i x H2,J.yld i H' x H2 -> H2=H' /\ (i < xs.length -> xs[i]? = some x)) /\ J.stop xs.length H')
  (hb:∀ x H' (R:Option V -> Hp -> Prop),x ∈ xs -> Same H H' -> R (f x) H' -> tt (some x :: yZ cs σ) H' fun b H4=>if b=true then te (some x :: yZ cs σ) H4 fun y H5=>R (some y) H5 else R none H4)
  (hd:∀ acc,H acc=none -> Q (.ref acc) (upd H acc (.lst (xs.filterMap f)))):y9 J 1 cs (xk 0) tt te σ H Q:=by
 intro acc hn
 have sm:∀ ys,Same H (upd H acc (.lst ys)):=fun ys=>zO hn _
 refine ⟨fun i m ys σ' H'=>m=xs.length - i /\ i <= xs.length /\ (∃ o,σ'=o :: yZ cs σ) /\ ys=(xs.take i).filterMap f /\ H'=upd H acc (.lst ys),⟨_,rfl,yM _,⟨none,rfl⟩,by simp,rfl⟩,?_⟩
 rintro i m ys σ' H' ⟨rfl,hi,⟨o,rfl⟩,hys,rfl⟩
 refine ⟨zF,?_⟩
 have hl:ys.length <= i:=by
  rw [hys]
  exact zZ (List.length_filterMap_le _ _) (by rw [qO]; omega)
 by_cases hlt:i < xs.length
 ·refine .inr ⟨(hJ _ (sm ys)).1 i hlt,by omega,fun zs σ2 H2=>(∃ o,σ2=o :: yZ cs σ) /\ zs=(xs.take (i+1)).filterMap f /\ H2=upd H acc (.lst zs),fun zs σ2 H2 ⟨q1,q2,q3⟩=>⟨xs.length - (i+1),by omega,rfl,hlt,q1,q2,q3⟩,fun x H2 y=>?_⟩
  obtain ⟨e,hx⟩:=(hJ _ (sm ys)).2.1 i x H2 y
  have hx:=hx hlt
  subst e
  show tt (some x :: yZ cs σ) _ _
  have tk:xs.take (i+1)=xs.take i ++ [x]:=by rw [za,hx]; rfl
  refine hb x _ (fun o H5=>match o with | some y=>H5 acc=some (.lst ys) /\ (∃ o,some x :: yZ cs σ = o :: yZ cs σ) /\ ys ++ [y]=(xs.take (i+1)).filterMap f /\ upd H5 acc (.lst (ys ++ [y]))=upd H acc (.lst (ys ++ [y])) | none=>(∃ o,some x :: yZ cs σ = o :: yZ cs σ) /\ ys=(xs.take (i+1)).filterMap f /\ H5=upd H acc (.lst ys)) (qE hx) (sm ys) ?_
  cases hf:f x with
  | none =>
   refine ⟨⟨_,rfl⟩,?_,rfl⟩
   rw [tk,x8,← hys]
   simp [hf]
  | some y =>
   refine ⟨zF,⟨_,rfl⟩,?_,upd_upd⟩
   rw [tk,x8,← hys]
   simp [hf]
 ·have e:i=xs.length:=by omega
  subst e
  rw [zt] at hys
  subst hys
  exact .inl ⟨(hJ _ (sm _)).2.2,hd acc hn⟩
theorem zA5 {xs:List V}(h:SqL K H a xs)(hz:xs.length <= sizeLine)(f:V -> Option V)
  (hb:∀ x H' (R:Option V -> Hp -> Prop),x ∈ xs -> Same H H' -> R (f x) H' -> tt (some x :: yZ cs σ) H' fun b H4=>if b=true then te (some x :: yZ cs σ) H4 fun y H5=>R (some y) H5 else R none H4)
  (hd:∀ acc,H acc=none -> Q (.ref acc) (upd H acc (.lst (xs.filterMap f)))):y9 (Itl K a) 1 cs (xk 0) tt te σ H Q :=
 zBg f hz (fun H' s=>by
  have h':=s.seq h
  exact ⟨fun i hi=>⟨xs,xs[i],h',by simp [hi]⟩,fun i x H2 y=>⟨y.1,fun _=>y.2 xs h'⟩,⟨xs,h',zE _⟩⟩) hb hd
theorem Same.seqT {K:zA}{H H':Hp}{a:Addr}{xs:List V}(e:Same H H')(h:SqT K H a xs):SqT K H' a xs:=by
 rcases h with (h | ⟨o,h⟩) | h
 ·exact .inl (.inl (e _ _ h))
 ·exact .inl (.inr ⟨o,e _ _ h⟩)
 ·exact .inr h
theorem comp_T {xs:List V}(h:SqT K H a xs)(hz:xs.length <= sizeLine)(f:V -> Option V)
  (hb:∀ x H' (R:Option V -> Hp -> Prop),x ∈ xs -> Same H H' -> R (f x) H' -> tt (some x :: yZ cs σ) H' fun b H4=>if b=true then te (some x :: yZ cs σ) H4 fun y H5=>R (some y) H5 else R none H4)
  (hd:∀ acc,H acc=none -> Q (.ref acc) (upd H acc (.lst (xs.filterMap f)))):y9 (Itt K a) 1 cs (xk 0) tt te σ H Q :=
 zBg f hz (fun H' s=>by
  have h':=s.seqT h
  exact ⟨fun i hi=>⟨xs,xs[i],h',by simp [hi]⟩,fun i x H2 y=>⟨y.1,fun _=>y.2 xs h'⟩,⟨xs,h',zE _⟩⟩) hb hd
def Jk (lo:Int)(n:Nat):List V:=(yr n).map fun (i:Nat)=>V.int (lo+(i:Int))
theorem rngV_get {lo:Int}{n i:Nat}(h:i < n):(Jk lo n)[i]? = some (.int (lo+i)):=by unfold Jk; rw [qI,Jc h]; rfl
theorem ji {lo:Int}{n:Nat}:(Jk lo n).length=n:=by unfold Jk; rw [qC,jJ]
theorem comp_R {lo:Int}{n:Nat}(hz:n <= sizeLine)(f:V -> Option V)
  (hb:∀ x H' (R:Option V -> Hp -> Prop),x ∈ Jk lo n -> Same H H' -> R (f x) H' -> tt (some x :: yZ cs σ) H' fun b H4=>if b=true then te (some x :: yZ cs σ) H4 fun y H5=>R (some y) H5 else R none H4)
  (hd:∀ acc,H acc=none -> Q (.ref acc) (upd H acc (.lst ((Jk lo n).filterMap f)))):y9 (Itr lo n) 1 cs (xk 0) tt te σ H Q :=
 zBg (xs:=Jk lo n) f (by rw [ji]; exact hz) (fun H' s=>by
  rw [ji]
  exact ⟨fun i hi=>hi,fun i x H2 y=>⟨y.1,fun hi=>by rw [rngV_get hi,y.2]⟩,zE _⟩) hb hd
end
end L2
namespace L2
open PySem PySem.Spec PyProof.Rows
section
variable {X:Cx}
theorem zB4:∀ {bs:List Bool} {us:List Value},Vals (bs.map V.bl) us -> us=bs.map Value.bool
 | [],_,h=>by cases h; rfl
 | b :: r,_,h=>by
  cases h with
  | cons q t =>
   cases q
   rw [zB4 t]
   rfl
theorem truth_bools {prog:Program}{w:World}{A:Around}{bs:List Bool}:TruthOf prog w A (fun i v=>(bs.map Value.bool).toArray[i]? = some v) (fun i=>bs.getD i true):=by
 intro i v s Q E h hq
 rw [List.getElem?_toArray,qI] at h
 cases e:bs[i]? with
 | none=>rw [e] at h; cases h
 | some b =>
  rw [e] at h
  cases h
  have:bs.getD i true=b:=by simp [List.getD,e]
  exact wpAny_truthy_bool (by rw [← this]; exact hq)
theorem all_getD:∀ (bs:List Bool),(yr bs.length).all (fun i=>bs.getD i true)=bs.all id
 | []=>rfl
 | b :: r=>by
  rw [zq,List.range_succ_eq_map,List.all_cons,List.all_map,List.all_cons]
  have:((fun i=>(b :: r).getD i true) ∘ Nat.succ)=fun i=>r.getD i true:=by funext i; simp [List.getD]
  rw [this,all_getD r]
  rfl
def rAll:List V -> Hp -> VK -> Prop:=fun xs H Q=>∃ (p:Addr) (bs:List Bool),xs=[.ref p] /\ H p=some (.lst (bs.map V.bl)) /\ Q (.bl (bs.all id)) H
theorem zBh {pins:List (Addr × Obj)}{σ:St}{H:Hp}{s:Shared}{p:Addr}{xs:List V}(hc:X.calm=true)(I:Inv X pins σ H s)(hp:H p=some (.lst xs)){Q:Value -> Shared -> Prop}{E:Value -> Shared -> Prop}
  (h:∀ (its:List Value),Vals xs its -> ∀ s2:Shared,s2.heap.IsListIter s.heap.objs.size p 0 /\ s2.heap.IsList p its.toArray -> (∀ b ∈ [s.heap.objs.size,p],b < s2.heap.objs.size) -> p ≠ s.heap.objs.size -> Walks X.prog X.w X.A.in1 s.heap.objs.size [s.heap.objs.size,p] [s.heap.objs.size] its.toArray.size (fun i v=>its.toArray[i]? = some v) (fun i h=>h.IsListIter s.heap.objs.size p i /\ h.IsList p its.toArray) ->
   (∀ h' tk,(∀ b o,b ∉ [s.heap.objs.size] -> s2.heap.get? b=some o -> h'.get? b=some o) -> Inv X pins σ H { s2 with heap:=h',toks:=tk }) -> Q (.ref s.heap.objs.size) s2):wpAny (model X.prog X.w) X.A.in1 (pyIter (.ref p)) Q E s:=by
 obtain ⟨its,rv,pl,_⟩:=I.list (SqL.of hp)
 have hlt:p < s.heap.objs.size:=I.hok.lt hp
 refine wpAny_pyIter_list pl.isList (h its rv _ ⟨⟨_,Heap.get?_push_size _ rfl,rfl,rfl⟩,pl.isList.push _⟩ (fun b hb=>?_) (zg hlt) (Walks.list (A:=X.A.in1) (I.ok.hd hc) _ p (zg hlt) its.toArray) fun h' tk hk=>?_)
 ·show b < (s.heap.push _).objs.size
  rw [Heap.size_push]
  rcases zV.mp hb with e | e
  ·rw [e]; exact Nat.lt_succ_self _
  ·have:b=p:=by simpa using e
   rw [this]; exact xD hlt
 ·exact I.kept (h':=h') (t':=tk) fun b o e=>hk b o (by simpa using zg (Heap.lt_size e)) (Heap.get?_push_of_some _ e)
theorem call_all (hc:X.calm=true):CallR X (.builtin "all") rAll:=by
 intro pins s σ H xs us Q I r h
 obtain ⟨p,bs,rfl,hp,q⟩:=h
 obtain ⟨u,rfl,ru⟩:=Vals.one r
 cases ru
 refine call_all_walk (zBh hc I hp fun its rv s2 st hfp hne W hI=>?_)
 have e:=zB4 rv
 subst e
 refine ⟨_,_,_,_,_,_,_,rfl,W,st,truth_bools,fun h' tk hk=>⟨.bl (bs.all id),H,hI h' tk hk,?_,q⟩⟩
 have:(bs.map Value.bool).toArray.size=bs.length:=by simp
 rw [this,all_getD]
 rfl
theorem jw:∀ {ns:List Int} {us:List Value},Vals (ns.map V.int) us -> ∃ xs:List (Int × Tok),us=xs.map (fun p=>Value.int p.1 p.2) /\ xs.map (·.1)=ns
 | [],_,h=>by cases h; exact ⟨[],rfl,rfl⟩
 | n :: r,_,h=>by
  cases h with
  | cons q t =>
   obtain ⟨tk,rfl⟩:=q
   obtain ⟨xs,rfl,e⟩:=jw t
   exact ⟨(n,tk) :: xs,rfl,by simp [e]⟩
def rSum:List V -> Hp -> VK -> Prop:=fun xs H Q=>∃ (p:Addr) (ns:List Int),xs=[.ref p] /\ H p=some (.lst (ns.map V.int)) /\ Q (.int ns.sum) H
theorem call_sum (hc:X.calm=true):CallR X (.builtin "sum") rSum:=by
 intro pins s σ H xs us Q I r h
 obtain ⟨p,ns,rfl,hp,q⟩:=h
 obtain ⟨u,rfl,ru⟩:=Vals.one r
 cases ru
 obtain ⟨its,rv,pl,_⟩:=I.list (SqL.of hp)
 obtain ⟨xs,rfl,e⟩:=jw rv
 have hl:s.heap.IsList p (intItems xs.toArray):=by
  have:=pl.isList
  rw [show (List.map (fun p=>Value.int p.1 p.2) xs).toArray=intItems xs.toArray by unfold intItems; simp] at this
  exact this
 refine sum_intListG (I.ok.hd hc) hl fun h' tk t' hk=>⟨.int ns.sum,H,I.kept hk,⟨t',?_⟩,q⟩
 rw [preSum_eq,xF (by simp),← e]
def rBits:V -> List V -> Hp -> VK -> Prop:=fun x vs H Q=>∃ i,x = .int i /\ vs=[] /\ Q (.int (Builtin.Int.intBits i:Nat)) H
theorem mt_bits:MtR X "int.bit_length" rBits:=by
 intro pins s σ H x xs v us Q I rx rs h
 obtain ⟨i,rfl,rfl,q⟩:=h
 obtain ⟨t,rfl⟩:=rx
 cases rs
 exact call_gives slot_int_bit_length (typeIs_int s i t) entry_int_bit_length (args_int_bit_length _) (AutoIntG2.int_bit_length_int_0 i t) ⟨.int _,H,I.tok _,⟨_,rfl⟩,q⟩
theorem w_rBits {i:Int}{H:Hp}{Q:VK}:rBits (.int i) [] H Q=Q (.int (Builtin.Int.intBits i:Nat)) H:=propext ⟨fun ⟨j,e,_,q⟩=>by cases e; exact q,fun q=>⟨i,rfl,rfl,q⟩⟩
theorem w_tyInt {K:zA}{i:Int}{H:Hp}:tyV K "int" (.int i) H=True:=eq_true (by first | exact rfl | (unfold tyV; rfl) | (unfold tyV; simp))
end
section
variable {K:zA}{σ:St}{H:Hp}{Q:VK}
theorem w_bm {T:String}{r:V -> List V -> Hp -> VK -> Prop}{to:TE}{t:TA}:tBM K T r to t σ H Q=(to σ H fun x H1=>tyV K T x H1 /\ t σ H1 fun xs H2=>r x xs H2 Q):=rfl
theorem w_bm0 {T:String}{r:V -> List V -> Hp -> VK -> Prop}{to:TE}:tBM0 K T r to σ H Q=(to σ H fun x H1=>tyV K T x H1 /\ r x [] H1 Q):=rfl
theorem w_append {l:Addr}{y:V}:rAppend (.ref l) [y] H Q = ∃ xs,H l=some (.lst xs) /\ xs.length < sizeLine /\ Q .non (upd H l (.lst (xs ++ [y]))) :=
 propext ⟨fun ⟨l',xs,y',e1,e2,h,z,q⟩=>by cases e1; cases e2; exact ⟨xs,h,z,q⟩,fun ⟨xs,h,z,q⟩=>⟨l,xs,y,rfl,rfl,h,z,q⟩⟩
theorem xb {l:Addr}{xs:List V}(h:H l=some (.lst xs)):tyV K "list" (.ref l) H:=by
 first | exact .inl ⟨rfl,_,SqL.of h⟩ | (unfold tyV; exact .inl ⟨rfl,_,SqL.of h⟩)
end
end L2
namespace L2
open PySem PySem.Spec PyProof.Rows PySem.W
theorem bits_pow (k:Nat):Builtin.Int.intBits ((2:Int) ^ k)=k+1:=by
 unfold Builtin.Int.intBits
 have p:=xf k
 rw [if_neg (by simp; omega),JA]
 show Nat.log2 (2 ^ k)+1=k+1
 rw [Nat.log2_two_pow]
theorem odd_part:∀ (n:Nat),0 < n -> ∃ m k,n=(2 * m+1) * 2 ^ k:=by
 intro n
 induction n using Nat.strongRecOn with
 | ind n ih =>
  intro h
  by_cases e:n % 2=1
  ·exact ⟨n / 2,0,by simp; omega⟩
  ·obtain ⟨m,k,hk⟩:=ih (n / 2) (by omega) (by omega)
   exact ⟨m,k+1,by rw [Nat.pow_succ,← Nat.mul_assoc,← hk]; omega⟩
def absI (n:Int):Int:=if n < 0 then -n else n
def lowK (n:Int):Int:=(Builtin.Int.intBits (Builtin.bitAnd (absI n) (-absI n)):Int) - 1
def zAO (n:Int):List Int:=if n=0 then [0,0,0] else [absI n / 2 ^ (lowK n).toNat,lowK n,if 0 < n then 1 else -1]
theorem zBi {n:Int}(h:n ≠ 0):∃ (m k:Nat),absI n=(2 * m+1) * 2 ^ k /\ zAO n=[2 * (m:Int)+1,(k:Int),if 0 < n then 1 else -1]:=by
 obtain ⟨m,k,e⟩:=odd_part n.natAbs (by omega)
 have ea:absI n=((n.natAbs:Nat):Int):=by unfold absI; split <;> omega
 have e1:absI n=(2 * m+1) * 2 ^ k:=by rw [ea,e,Int.natCast_mul,jI]; rfl
 refine ⟨m,k,e1,?_⟩
 have e2:absI n=2 ^ k * (2 * (m:Int)+1):=by rw [e1,yF]
 have e3:lowK n=k:=by
  unfold lowK
  rw [e2,kbt_low,bits_pow]
  omega
 unfold zAO
 rw [if_neg h,e3,yn,e1,Int.mul_ediv_cancel _ (Int.ne_of_gt (xf k))]
end L2
namespace L2
open PySem PySem.Spec PyProof.Rows
def gTupM (n:Nat)(t:TGs):TG:=fun v σ H Q=>∃ a xs,v = .ref a /\ H a=some (.tup xs) /\ xs.length=n /\ t xs σ H Q
theorem jQ {X:Cx}{es:List Expr}{k:Nat}{t:TGs}{pos:Pos}(n:Nat)(hc:X.calm=true)(h:PGs X es t)(hn:(assignEach es X.env).length=n:=by rfl)(hst:(assignEach es X.env).findIdx? (·.1)=none:=by rfl):PG X (.Tuple es k pos) (gTupM n t):=by
 intro pins s σ H v u Q I r hw
 obtain ⟨a,xs,e1,hq,hl,hw⟩:=hw
 exact pg_tup (X:=X) (n:=n) hc h hn hst pins s σ H v u Q I r ⟨a,xs,e1,SqT.of hq,hl,hw⟩
section
variable {K:zA}{σ:St}{H:Hp}{Q:VK}{R:St -> Hp -> Prop}
theorem w_gTupM {n:Nat}{t:TGs}{a:Addr}:gTupM n t (.ref a) σ H R = ∃ xs,H a=some (.tup xs) /\ xs.length=n /\ t xs σ H R :=
 propext ⟨fun ⟨a',xs,e,h,l,q⟩=>by cases e; exact ⟨xs,h,l,q⟩,fun ⟨xs,h,l,q⟩=>⟨a,xs,rfl,h,l,q⟩⟩
theorem jj {t:TG}{u:TGs}{v:V}{r:List V}:zAy t u (v :: r) σ H R=t v σ H fun σ' H'=>u r σ' H' R :=
 propext ⟨fun ⟨v',r',e,q⟩=>by cases e; exact q,fun q=>⟨v,r,rfl,q⟩⟩
theorem zBj:gNil [] σ H R=R σ H:=propext ⟨fun ⟨_,q⟩=>q,fun q=>⟨rfl,q⟩⟩
theorem isI_tt {t:Addr}{xs:List V}(h:H t=some (.tup xs)):rIsI K [.ref t,.ty "tuple"] H Q=Q (.bl true) H:=Ji (.tup h) (fun _ z=>by cases z <;> first | rfl | (rename_i e; rw [h] at e; cases e) | (rename_i e _ _ _ _ _; rw [h] at e; cases e)) (kit_same _)
theorem isI_ll {t:Addr}{xs:List V}(h:H t=some (.lst xs)):rIsI K [.ref t,.ty "list"] H Q=Q (.bl true) H:=Ji (.lst h) (fun _ z=>by cases z <;> first | rfl | (rename_i e; rw [h] at e; cases e) | (rename_i e _ _ _ _ _; rw [h] at e; cases e)) (kit_same _)
theorem in_tup {x:V}{t:Addr}{xs:List V}{neg:Bool}(h:H t=some (.tup xs))(fx:jN x=true)(fs:xs.all jN=true)(q:Q (.bl (if neg then !inV x xs else inV x xs)) H):rIn K neg x (.ref t) H Q:=⟨t,xs,rfl,.inr (SqT.of h),fx,fs,q⟩
end
end L2
namespace L2
open PySem PySem.Spec PyProof.Rows
def rDG:R2:=fun x y H Q=>∃ a k,x = .ref a /\ y=kV k /\ ∃ kvs,H a=some (.dK kvs) /\ ∃ v,valV kvs k=some v /\ Q v H
def rDP:V -> V -> V -> Hp -> (Hp -> Prop) -> Prop:=fun x y v H R=>∃ a k,x = .ref a /\ y=kV k /\ ∃ kvs,H a=some (.dK kvs) /\ kvs.length < sizeLine /\ R (upd H a (.dK (putK kvs k v)))
def sDP (td ty tv:TE):TS:=fun D σ H=>tv σ H fun v H1=>td σ H1 fun x H2=>ty σ H2 fun y H3=>rDP x y v H3 fun H4=>D.nx σ H4
def rDI (neg:Bool):R2:=fun y x H Q=>∃ a k,x = .ref a /\ y=kV k /\ ∃ kvs,H a=some (.dK kvs) /\ Q (.bl (if neg then !(valV kvs k).isSome else (valV kvs k).isSome)) H
section
variable {X:Cx}{o i e value:Expr}{pos pos' tpos:Pos}{td ty tv:TE}
theorem zBk (hu:X.A.units+1 < cLine)(ho:PE X o td)(hi:PE X i ty)(hs:NoSl i):PE X (.Subscript o i pos) (tOp rDG td ty):=by
 intro pins s σ H Q I h
 refine subD_of PySem.F.slot_dict_getitem.lookup hs (thn (ho pins s σ H _ I h) fun u s1 ⟨x,H1,I1,rx,q1⟩=>thn (hi pins s1 σ H1 _ I1 q1) fun iv s2 ⟨y,H2,I2,ry,q2⟩=>?_)
 obtain ⟨a,k,rfl,rfl,kvs,hk,v,hv,q⟩:=q2
 obtain rfl:u=Value.ref a:=rx
 have g:DGet H2 a (kV k) (some v):=by rw [← hv]; exact DGet.k hk
 exact ⟨zBw I2 g,d_getItem hu I2 g ry fun w' s3 I3 rw'=>⟨v,H2,I3,rw',q⟩⟩
theorem zBl (hu:X.A.units+1 < cLine)(ho:PE X o td)(hi:PE X i ty)(hv:PE X value tv)(hs:swapsWith value (some (.Subscript o i pos')) pos.line X.env=pure false):PS X (.Assign [.Subscript o i pos'] value pos) (sDP td ty tv):=by
 intro pins s σ H D I h
 refine wpAny_Assign_Subscript (thn (hv pins s σ H _ I h) fun r s1 ⟨v,H1,I1,rv,q1⟩=>thn (ho pins s1 σ H1 _ I1 q1) fun u s2 ⟨x,H2,I2,rx,q2⟩=>thn (hi pins s2 σ H2 _ I2 q2) fun iv s3 ⟨y,H3,I3,ry,q3⟩=>?_) hs
 obtain ⟨a,k,rfl,rfl,kvs,hk,hz,q⟩:=q3
 obtain rfl:u=Value.ref a:=rx
 exact d_setItem hu I3 (DPut.k (v:=v) hk hz) ry rv fun s4 I4=>⟨σ,_,I4,q⟩
end
section
variable {σ:St}{H:Hp}{Q:VK}{D:Ends}{a:Addr}{v:V}{R:Hp -> Prop}
theorem kV_s {k:Key}{x:Str}:(V.str x=kV k)=(k = .inr x):=propext ⟨fun e=>by cases k <;> cases e; rfl,fun e=>by subst e; rfl⟩
theorem kV_i {k:Key}{x:Int}:(V.int x=kV k)=(k = .inl x):=propext ⟨fun e=>by cases k <;> cases e; rfl,fun e=>by subst e; rfl⟩
theorem w_dgS {x:Str}:rDG (.ref a) (.str x) H Q = ∃ kvs,H a=some (.dK kvs) /\ ∃ v,valV kvs (.inr x)=some v /\ Q v H :=
 propext ⟨fun ⟨a',k,e1,e2,q⟩=>by cases e1; rw [kV_s] at e2; subst e2; exact q,fun q=>⟨a,.inr x,rfl,rfl,q⟩⟩
theorem w_dgI {x:Int}:rDG (.ref a) (.int x) H Q = ∃ kvs,H a=some (.dK kvs) /\ ∃ v,valV kvs (.inl x)=some v /\ Q v H :=
 propext ⟨fun ⟨a',k,e1,e2,q⟩=>by cases e1; rw [kV_i] at e2; subst e2; exact q,fun q=>⟨a,.inl x,rfl,rfl,q⟩⟩
theorem w_sDP {td ty tv:TE}:sDP td ty tv D σ H=(tv σ H fun v H1=>td σ H1 fun x H2=>ty σ H2 fun y H3=>rDP x y v H3 fun H4=>D.nx σ H4):=rfl
theorem w_dpS {x:Str}:rDP (.ref a) (.str x) v H R = ∃ kvs,H a=some (.dK kvs) /\ kvs.length < sizeLine /\ R (upd H a (.dK (putK kvs (.inr x) v))) :=
 propext ⟨fun ⟨a',k,e1,e2,q⟩=>by cases e1; rw [kV_s] at e2; subst e2; exact q,fun q=>⟨a,.inr x,rfl,rfl,q⟩⟩
theorem w_dpI {x:Int}:rDP (.ref a) (.int x) v H R = ∃ kvs,H a=some (.dK kvs) /\ kvs.length < sizeLine /\ R (upd H a (.dK (putK kvs (.inl x) v))) :=
 propext ⟨fun ⟨a',k,e1,e2,q⟩=>by cases e1; rw [kV_i] at e2; subst e2; exact q,fun q=>⟨a,.inl x,rfl,rfl,q⟩⟩
theorem w_dII {neg:Bool}{x:Int}:rDI neg (.int x) (.ref a) H Q = ∃ kvs,H a=some (.dK kvs) /\ Q (.bl (if neg then !(valV kvs (.inl x)).isSome else (valV kvs (.inl x)).isSome)) H :=
 propext ⟨fun ⟨a',k,e1,e2,q⟩=>by cases e1; rw [kV_i] at e2; subst e2; exact q,fun q=>⟨a,.inl x,rfl,rfl,q⟩⟩
theorem w_disp {trs:List (TE × TE)}:tDisp trs σ H Q = ∀ p,H p=none -> zA4 trs σ (upd H p (.dK [])) fun ps H2=>H2 p=some (.dK []) /\ ∃ kvs:List (Key × V),ps=kvs.map (fun kv=>(kV kv.1,kv.2)) /\ kvs.length <= 15 /\ Q (.ref p) (upd H2 p (.dK (zAU [] kvs))):=rfl
end
def penKV (a:Addr)(at_ l:Int):List (Key × V):=[(.inr "script",.ref a),(.inr "at",.int at_),(.inr "left",.int l)]
theorem pen_s {a:Addr}{t l:Int}:valV (penKV a t l) (.inr "script")=some (.ref a):=by unfold penKV; rw [xG rfl]
theorem key_sa:¬ (Sum.inr "script" : Key)=(Sum.inr "at" : Key):=by decide
theorem key_sl:¬ (Sum.inr "script" : Key)=(Sum.inr "left" : Key):=by decide
theorem key_al:¬ (Sum.inr "at" : Key)=(Sum.inr "left" : Key):=by decide
theorem pen_a {a:Addr}{t l:Int}:valV (penKV a t l) (.inr "at")=some (.int t):=by unfold penKV; rw [xH key_sa,xG rfl]
theorem pen_l {a:Addr}{t l:Int}:valV (penKV a t l) (.inr "left")=some (.int l):=by unfold penKV; rw [xH key_sl,xH key_al,xG rfl]
theorem pen_len {a:Addr}{t l:Int}:((penKV a t l).length < sizeLine)=True:=eq_true (qJ (by decide:3 < 1000) (yG (by decide)))
theorem pen_pa {a:Addr}{t l x:Int}:putK (penKV a t l) (.inr "at") (.int x)=penKV a x l:=by
 unfold putK
 rw [jz,pen_a]
 rfl
theorem pen_pl {a:Addr}{t l x:Int}:putK (penKV a t l) (.inr "left") (.int x)=penKV a t x:=by
 unfold putK
 rw [jz,pen_l]
 rfl
theorem pen_mk {a:Addr}{t l:Int}:zAU [] (penKV a t l)=penKV a t l:=by
 unfold zAU penKV
 rfl
def Pen (H:Hp)(p a:Addr)(c:Int):Prop:=∃ t l:Int,H p=some (.dK (penKV a t l)) /\ 0 <= t /\ t <= c /\ 0 <= l
theorem Pen.mono {H:Hp}{p a:Addr}{c d:Int}(h:Pen H p a c)(l:c <= d):Pen H p a d:=by
 obtain ⟨t,x,e,h0,h1,h2⟩:=h
 exact ⟨t,x,e,h0,by omega,h2⟩
theorem Pen.same {H H':Hp}{p a:Addr}{c:Int}(h:Pen H p a c)(s:Same H H'):Pen H' p a c:=by
 obtain ⟨t,x,e,r⟩:=h
 exact ⟨t,x,s _ _ e,r⟩
theorem Pen.dK {H:Hp}{p a:Addr}{c:Int}(h:Pen H p a c):∃ kvs,H p=some (.dK kvs):=by
 obtain ⟨t,x,e,r⟩:=h
 exact ⟨_,e⟩
theorem Pen.ne {H:Hp}{p a q:Addr}{c:Int}(h:Pen H p a c)(hq:H q=none):q ≠ p:=by
 obtain ⟨xs,h⟩:=h.dK
 exact (ne_of_none h hq).symm
theorem pen_of {H:Hp}{p a:Addr}{t l c:Int}(h0:0 <= t)(h1:t <= c)(h2:0 <= l):Pen (upd H p (.dK (penKV a t l))) p a c:=⟨t,l,zF,h0,h1,h2⟩
theorem Scr.pen {K:zA}{H H':Hp}{p a:Addr}{c:Int}{ns:List Int}(h:Scr K H a ns)(hp:Pen H p a c)(s:Chg p H H'):Scr K H' a ns:=by
 obtain ⟨kvs,e⟩:=hp.dK
 exact h.chgD e s
def spPen (K:zA):Sp:=fun vs H Q _=>∃ (a:Addr),vs=[.ref a] /\ ∀ p H',H p=none -> Same H H' -> Pen H' p a 0 -> Q (.ref p) H'
def spDraw (K:zA):Sp:=fun vs H Q _=>∃ (p a:Addr) (ns:List Int) (m c:Int),vs=[.ref p,.int m] /\ Pen H p a c /\ Scr K H a ns /\ ns.length <= 63 /\ c <= 1000000000 /\ 1 <= m /\ m < 2 ^ 64 /\
 ∀ (r:Int) H',0 <= r -> r < m -> Pen H' p a (c+1) -> Scr K H' a ns -> Chg p H H' -> Q (.int r) H'
theorem jW {K:zA}{H:Hp}{p a:Addr}{ns:List Int}{m c:Int}{Q:VK}{E:XK}(hP:Pen H p a c)(hS:Scr K H a ns)(h63:ns.length <= 63)(hc:c <= 1000000000)(h1:1 <= m)(h2:m < 2 ^ 64)
  (q:∀ (r:Int) H',0 <= r -> r < m -> Pen H' p a (c+1) -> Scr K H' a ns -> Chg p H H' -> Q (.int r) H'):spDraw K [.ref p,.int m] H Q E:=⟨p,a,ns,m,c,rfl,hP,hS,h63,hc,h1,h2,q⟩
end L2
namespace L2
open PySem PySem.Spec PyProof.Rows
def Itv (K:zA)(a:Addr)(n:Nat):It :=
 ⟨fun i H=>i < n /\ ∃ xs,SqL K H a xs /\ xs.length=n,fun i H x H'=>H'=H /\ ∀ xs,SqL K H a xs -> xs.length=n -> xs[n - 1 - i]? = some x,fun i H=>i=n⟩
theorem turn_rev {P:Program}{w:World}{K:zA}{tg:Expr}(a it:Addr)(n:Nat):Turn P w K tg (Itv K a n) [it] it (fun i h=>i <= n /\ h.IsRevIter it a ((n:Int) - 1 - (i:Int))) where
 mem:=by simp
 obj:=fun i h st b hb=>by
  have e:b=it:=by simpa using hb
  subst e
  obtain ⟨_,o,e,c,d⟩:=st
  exact ⟨o,e,fun v z=>by rw [d] at z; cases z⟩
 keep:=fun i h h' st k=>⟨st.1,st.2.at fun o e=>k it (by simp) o e⟩
 item:=by
  intro X hP hw hK hc i pins s σ H E I hf st hg
  subst hP hw hK
  obtain ⟨hi,xs,hq,hn⟩:=hg
  obtain ⟨its,rv,p,hz⟩:=I.list hq
  have hlt:n - 1 - i < xs.length:=by omega
  obtain ⟨u,hu,ru⟩:=rv.get (qA hlt)
  obtain ⟨f0,f1,f2,f3,f4,f5⟩:=hf it (by simp)
  have e1:(n:Int) - 1 - (i:Int)=((n - 1 - i:Nat):Int):=by omega
  have st2:=st.2
  rw [e1] at st2
  refine wpAny_pyNext_rev_item st2 p.isList (x:=u) (by simpa using hu) fun h' st' sb=>?_
  have I1:Inv X pins σ H { s with heap:=h' }:=I.turned (t':=s.toks) (fun b o hb e=>(sb.2 b hb).trans e) f0 f1 f3 f4 f5
  obtain ⟨o,e,c,d⟩:=id st'
  have e2:((n - 1 - i:Nat):Int) - 1=(n:Int) - 1 - ((i+1:Nat):Int):=by omega
  rw [e2] at st'
  exact ⟨u,rfl,go_of (s:={ s with heap:=h' }) e c d (by decide) ⟨xs[n - 1 - i],H,I1,ru,⟨rfl,fun ys hy _=>by rw [I.list_inj hy hq]; exact qA hlt⟩,⟨hi,st'⟩,fun b hb=>(hf b hb).1⟩⟩
 done:=by
  intro X hP hw hK hc i pins s σ H E I hf st hg
  subst hP hw hK
  obtain ⟨f0,f1,f2,f3,f4,f5⟩:=hf it (by simp)
  have hg:i=n:=hg
  have st2:=st.2
  rw [show (n:Int) - 1 - (i:Int) = -1 by omega] at st2
  exact wpAny_pyNext_rev_end (I.ok.hd hc) st2 fun h' eb=>⟨rfl,I.turned (t':=s.toks) (fun b o hb e=>eb b o hb e) f0 f1 f3 f4 f5⟩
 self:=fun _ _ _ _ _ st h=>wpAny_pyIter_revIter st.2 h
def iRev (K:zA)(ta:TA):TI:=fun σ H R=>ta σ H fun vs H1=>∃ a xs,vs=[.ref a] /\ SqL K H1 a xs /\ R (Itv K a xs.length) H1
theorem pi_rev {X:Cx} {tg a:Expr} {ta:TA} {p pos:Pos} (hg:Gl X "reversed") (hm:X.mg "reversed" = none) (ha:PA X [a] ta) (hs:starEach [a] X.env=[(false,eval a X.env)]:=by rfl):PI X tg (.Call (.Name "reversed" p) [a] [] pos) (iRev X.K ta):=by
 intro pins s σ H R I h
 refine Call_ (JT I hg hm bo_reversed (PyProof.Rows.callWith_type1 (thn (ha pos pins s σ H _ I h) fun us s1 ⟨vs,H1,I1,r1,q1⟩=>?_) hs rfl))
 obtain ⟨l,xs,e,hq,q⟩:=q1
 subst e
 obtain ⟨u,rfl,ru⟩:=Vals.one r1
 cases ru
 obtain ⟨its,rv,pl,hz⟩:=I1.list hq
 have hlen:its.toArray.size=xs.length:=by rw [qM,rv.length]
 refine call_reversed_list pl.isList ?_
 rw [hlen]
 have I2:Inv X pins σ H1 { s1 with heap:=s1.heap.push (revObj l ((xs.length:Int) - 1)) }:=I1.kept (t':=s1.toks) fun b o e=>Heap.get?_push_of_some _ e
 have st:(s1.heap.push (revObj l ((xs.length:Int) - 1))).IsRevIter s1.heap.objs.size l ((xs.length:Int) - 1 - ((0:Nat):Int)):=by
  rw [show (xs.length:Int) - 1 - ((0:Nat):Int)=(xs.length:Int) - 1 by omega]
  exact ⟨_,Heap.get?_push_size _ rfl,rfl,rfl⟩
 refine wpAny_pyIter_revIter st ?_
 refine ⟨s1.heap.objs.size,[s1.heap.objs.size],_,_,H1,rfl,I2,turn_rev l _ xs.length,⟨yM _,st⟩,fun b hb=>?_,q⟩
 have e:b=s1.heap.objs.size:=by simpa using hb
 subst e
 exact I1.fpOk (zE _) (I1.hok.fresh (zE _))
def ForV (K:zA)(a:Addr)(n:Nat)(g:TG)(tb:TS)(D:Ends)(σ:St)(H:Hp):Prop:=∃ W:Nat -> Nat -> St -> Hp -> Prop,(∃ m,W 0 m σ H) /\ ∀ i m σ H,W i m σ H ->
 ((Itv K a n).stop i H /\ D.nx σ H) \/ ((Itv K a n).go i H /\ ∃ N:St -> Hp -> Prop,(∀ σ' H',N σ' H' -> ∃ m',m' < m /\ W (i+1) m' σ' H') /\ ∀ x H',(Itv K a n).yld i H x H' -> g x σ H' fun σ2 H2=>tb { D with nx:=N,ct:=N,bk:=D.nx } σ2 H2)
section
variable {σ:St}{H:Hp}{D:Ends}{g:TG}{tb:TS}{K:zA}{a:Addr}
theorem w_forV {ta:TA}:tFor (iRev K ta) g tb D σ H=(ta σ H fun vs H1=>∃ a xs,vs=[.ref a] /\ SqL K H1 a xs /\ ForV K a xs.length g tb D σ H1):=rfl
theorem forV {xs:List V}(Pv:Nat -> St -> Hp -> Prop)(h0:Pv 0 σ H)(hl:∀ i σ H,i <= xs.length -> Pv i σ H -> SqL K H a xs)
  (hs:∀ i x σ H (N:St -> Hp -> Prop),xs.reverse[i]? = some x -> Pv i σ H -> (∀ σ' H',Pv (i+1) σ' H' -> N σ' H') -> g x σ H fun σ2 H2=>tb { D with nx:=N,ct:=N,bk:=D.nx } σ2 H2) (hd:∀ σ H,Pv xs.length σ H -> D.nx σ H):ForV K a xs.length g tb D σ H:=by
 refine ⟨fun i m σ H=>m=xs.length - i /\ i <= xs.length /\ Pv i σ H,⟨xs.length,by simp,yM _,h0⟩,?_⟩
 rintro i m σ H ⟨rfl,hi,p⟩
 have q:=hl i σ H hi p
 by_cases hlt:i < xs.length
 ·refine .inr ⟨⟨hlt,xs,q,rfl⟩,Pv (i+1),fun σ' H' p'=>⟨xs.length - (i+1),by omega,rfl,hlt,p'⟩,fun x H' y=>?_⟩
  obtain ⟨e,y⟩:=y
  subst e
  refine hs i x σ _ (Pv (i+1)) ?_ p fun _ _ z=>z
  rw [List.getElem?_reverse hlt]
  exact y xs q rfl
 ·have e:i=xs.length:=by omega
  subst e
  exact .inl ⟨rfl,hd σ H p⟩
end
end L2
namespace L2
open PySem
def fs (n:Int):Int:=if n % 2=0 then 0 else 2 - n % 4
def nafF:Nat -> Int -> List Int
 | 0,_=>[]
 | k+1,n=>if n=0 then [] else fs n :: nafF k ((n - fs n) / 2)
def naf (n:Int):List Int:=nafF n.natAbs n
theorem fs_cases (n:Int):(fs n=0 /\ n % 2=0) \/ (fs n=1 /\ n % 4=1) \/ (fs n = -1 /\ n % 4=3):=by
 unfold fs
 split <;> omega
theorem fs_lt {n:Int}(h:n ≠ 0):((n - fs n) / 2).natAbs < n.natAbs:=by
 rcases fs_cases n with ⟨e,_⟩ | ⟨e,_⟩ | ⟨e,_⟩ <;> rw [e] <;> omega
theorem nafF_fuel:∀ (k:Nat) (n:Int),n.natAbs <= k -> nafF k n=nafF n.natAbs n:=by
 intro k
 induction k using Nat.strongRecOn with
 | ind k ih =>
  intro n h
  by_cases z:n=0
  ·subst z
   cases k <;> simp [nafF]
  ·obtain ⟨k',rfl⟩:∃ k',k=k'+1:=⟨k - 1,by omega⟩
   obtain ⟨j,hj⟩:∃ j,n.natAbs=j+1:=⟨n.natAbs - 1,by omega⟩
   have lt:=fs_lt z
   rw [hj,nafF,nafF,if_neg z,if_neg z,ih k' (by omega) _ (by omega)]
   by_cases e:k'=j
   ·subst e
    rw [ih k' (by omega) _ (by omega)]
   ·rw [ih j (by omega) _ (by omega)]
theorem Jv:naf 0=[]:=rfl
theorem jC {n:Int}(h:n ≠ 0):naf n=fs n :: naf ((n - fs n) / 2):=by
 have lt:=fs_lt h
 obtain ⟨j,hj⟩:∃ j,n.natAbs=j+1:=⟨n.natAbs - 1,by omega⟩
 unfold naf
 rw [hj,nafF,if_neg h,nafF_fuel j _ (by omega)]
theorem zBL {p : Int → Prop}(h0 : p 0)(hs : ∀ n, n ≠ 0 → p ((n - fs n) / 2) → p n) : ∀ n, p n := by
  have all : ∀ k (n : Int), n.natAbs ≤ k → p n := by
    intro k
    induction k with
    | zero => intro n h; have : n = 0 := by omega
              subst this; exact h0
    | succ k ih =>
      intro n h
      by_cases z : n = 0
      · subst z; exact h0
      · exact hs n z (ih _ (by have := fs_lt z; omega))
  exact fun n => all n.natAbs n (zE _)
def val:List Int -> Int
 | []=>0
 | d :: r=>d+2 * val r
theorem val_naf:∀ n,val (naf n)=n:=zBL rfl fun n h ih=>by
 rw [jC h,val,ih]
 rcases fs_cases n with ⟨e,_⟩ | ⟨e,_⟩ | ⟨e,_⟩ <;> rw [e] <;> omega
theorem naf_dig:∀ n,∀ d ∈ naf n,d = -1 \/ d=0 \/ d=1:=zBL (by simp [Jv]) fun n h ih=>by
 rw [jC h]
 intro d hd
 rcases zV.mp hd with e | e
 ·rw [e]
  rcases fs_cases n with ⟨e,_⟩ | ⟨e,_⟩ | ⟨e,_⟩ <;> rw [e] <;> simp
 ·exact ih d e
theorem naf_ne {n:Int}(h:n ≠ 0):naf n ≠ []:=by rw [jC h]; simp
theorem fs_neg (n:Int):fs (-n) = -fs n:=by
 rcases fs_cases n with ⟨e,_⟩ | ⟨e,_⟩ | ⟨e,_⟩ <;> rcases fs_cases (-n) with ⟨e',_⟩ | ⟨e',_⟩ | ⟨e',_⟩ <;> rw [e,e'] <;> omega
theorem naf_neg:∀ n,naf (-n)=(naf n).map fun d=>0 - d:=zBL rfl fun n h ih=>by
 rw [jC h,jC (n:=-n) (by omega),zR,← ih,fs_neg]
 have e:(-n - -fs n) / 2 = -((n - fs n) / 2):=by
  rcases fs_cases n with ⟨e,_⟩ | ⟨e,_⟩ | ⟨e,_⟩ <;> rw [e] <;> omega
 rw [e,Int.zero_sub]
theorem naf_dbl {n:Int}(h:n ≠ 0):naf (2 * n)=0 :: naf n:=by
 have e:fs (2 * n)=0:=by unfold fs; rw [if_pos (by omega)]
 rw [jC (n:=2 * n) (by omega),e]
 congr 2
 omega
theorem naf_shl {n:Int}(h:n ≠ 0):∀ k:Nat,naf (n * 2 ^ k)=qQ k 0 ++ naf n
 | 0=>by simp
 | k+1=>by
  have p:=xf k
  have e:n * 2 ^ (k+1)=2 * (n * 2 ^ k):=by rw [yo,← zW,yF]
  rw [e,naf_dbl (Int.mul_ne_zero h (by omega)),naf_shl h k,List.replicate_succ]
  rfl
theorem zAE:∀ (k:Nat) (n:Int),n.natAbs < 2 ^ k -> (naf n).length <= k+1
 | 0,n,h=>by
  have:n=0:=by omega
  subst this
  simp [Jv]
 | k+1,n,h=>by
  by_cases z:n=0
  ·subst z
   simp [Jv]
  ·rw [jC z,zq]
   by_cases z2:(n - fs n) / 2=0
   ·rw [z2,Jv]
    simp
   ·have hp:2 ^ (k+1)=2 * 2 ^ k:=by rw [Nat.pow_succ,Nat.mul_comm]
    rcases xE ((n - fs n) / 2).natAbs (2 ^ k) with l | l
    ·have:=zAE k _ l
     omega
    ·-- the only number left is the power itself
     have e:(n - fs n) / 2=2 ^ k \/ (n - fs n) / 2 = -(2 ^ k):=by
      have hc:((2 ^ k:Nat):Int)=(2:Int) ^ k:=by rw [jI]; rfl
      rcases fs_cases n with ⟨e,_⟩ | ⟨e,_⟩ | ⟨e,_⟩ <;> rw [e] at l ⊢ <;> omega
     have len:(naf ((2:Int) ^ k)).length=k+1:=by
      have:=naf_shl (n:=1) (by decide) k
      rw [yN] at this
      rw [this]
      simp [show naf 1=[1] from rfl]
     rcases e with e | e
     ·rw [e,len]
      omega
     ·rw [e,naf_neg,qC,len]
      omega
theorem m_nonneg {n:Int}(h:0 < n):0 <= (n - fs n) / 2:=by
 rcases fs_cases n with ⟨e,_⟩ | ⟨e,_⟩ | ⟨e,_⟩ <;> rw [e] <;> omega
end L2
namespace L2
open PySem PySem.Spec PyProof.Rows
theorem and1 (x:Int):Builtin.bitAnd x 1=x % 2:=by
 have:=PySem.W.kbt_mask x 1
 simpa using this
theorem and3 (x:Int):Builtin.bitAnd x 3=x % 4:=by
 have:=PySem.W.kbt_mask x 2
 simpa using this
def spFirst:Sp:=fun vs H Q _=>∃ n:Int,vs=[.int n] /\ Q (.int (fs n)) H
def spSigns:Sp:=fun vs H Q _=>∃ n:Int,vs=[.int n] /\ n.natAbs < 2 ^ 5000 /\ ∀ r,H r=none -> Q (.ref r) (upd H r (.lst ((naf n).map V.int)))
def wt (ds:List Int):Nat:=(ds.filter fun d=>decide (d ≠ 0)).length
def spLeast:Sp:=fun vs H Q _=>∃ n:Int,vs=[.int n] /\ n.natAbs < 2 ^ 5000 /\ ∀ H',Same H H' -> Q (.int (wt (naf n):Int)) H'
def spWhole:Sp:=fun vs H Q _=>∃ i:Int,vs=[.int i] /\ Q (.bl true) H
theorem val_rev {ds:List Int}{i:Nat}{d:Int}(h:ds.reverse[i]? = some d):val (ds.reverse.take (i+1)).reverse=2 * val (ds.reverse.take i).reverse+d:=by
 rw [za,h]
 show val (ds.reverse.take i ++ [d]).reverse=_
 rw [List.reverse_append]
 show d+2 * val (ds.reverse.take i).reverse=_
 omega
theorem val_bound:∀ (ds:List Int),(∀ d ∈ ds,d = -1 \/ d=0 \/ d=1) -> (val ds).natAbs < 2 ^ ds.length
 | [],_=>by simp [val]
 | d :: r,h=>by
  have ih:=val_bound r fun x hx=>h x (ze _ hx)
  have hd:=h d zb
  rw [val,zq,Nat.pow_succ]
  omega
def tWhl (c:TT)(tb:TS):TS:=fun D σ H=>∃ W:Nat -> St -> Hp -> Prop,(∃ m,W m σ H) /\ ∀ m σ H,W m σ H -> ∀ N:St -> Hp -> Prop,(∀ m' σ' H',m' < m -> W m' σ' H' -> N σ' H') ->
 c σ H fun b H1=>if b=true then tb { D with nx:=N,ct:=N,bk:=D.nx } σ H1 else D.nx σ H1
theorem ps_whl {X:Cx}{pos:Pos}{c:Expr}{body:List Stmt}{tc:TT}{tb:TS}(hp:PassesOwn (model X.prog X.w) X.A X.env X.xe)(hc:PT X c tc)(hb:PSs X body tb):PS X (.While c body [] pos) (tWhl tc tb):=by
 intro pins s σ H D I h
 obtain ⟨W,⟨m0,w0⟩,turn⟩:=h
 refine wpAny_While (codeAny_whileLoop (fun n s'=>∃ σ' H',Inv X pins σ' H' s' /\ W n σ' H') ?_ m0 ⟨σ,H,I,w0⟩)
 rintro n s1 ⟨σ1,H1,I1,w1⟩
 refine wpAny_passesOwn hp (thn (hc pins s1 σ1 H1 _ I1 (turn n σ1 H1 w1 (fun σ' H'=>∃ m',m' < n /\ W m' σ' H') fun m' _ _ l z=>⟨m',l,z⟩)) fun b s2 ⟨H2,I2,q2⟩=>?_)
 cases b with
 | true =>
  rw [if_pos rfl] at q2 ⊢
  refine wpAny_passesOwn hp (thn (hb pins s2 σ1 H2 _ I2 q2) fun f s3 q3=>?_)
  cases f with
  | next =>
   obtain ⟨σ3,H3,I3,m',hm,w3⟩:=q3
   exact ⟨m',hm,σ3,H3,I3,w3⟩
  | cont =>
   obtain ⟨σ3,H3,I3,m',hm,w3⟩:=q3
   exact ⟨m',hm,σ3,H3,I3,w3⟩
  | brk=>exact q3
  | ret v=>exact q3
 | false =>
  rw [if_neg zc] at q2 ⊢
  exact wpAny_execs_nil ⟨σ1,H2,I2,q2⟩
theorem whl {c:TT}{tb:TS}{D:Ends}{σ:St}{H:Hp}(Pv:Nat -> St -> Hp -> Prop)(m:Nat)(h0:Pv m σ H)
  (hs:∀ m σ H (N:St -> Hp -> Prop),Pv m σ H -> (∀ m' σ' H',m' < m -> Pv m' σ' H' -> N σ' H') -> c σ H fun b H1=>if b=true then tb { D with nx:=N,ct:=N,bk:=D.nx } σ H1 else D.nx σ H1):tWhl c tb D σ H :=
 ⟨Pv,⟨m,h0⟩,fun m σ H p N hN=>hs m σ H N p hN⟩
theorem jk {α β:Type}(f:α -> β)(xs:List α):xs.filterMap (fun x=>some (f x))=xs.map f:=by
 induction xs with
 | nil=>rfl
 | cons x r ih=>rw [yK,ih]; rfl
end L2
namespace L2
open PySem
theorem p2le {e k:Nat}(h:e <= k):0 < (2:Int) ^ e /\ (2:Int) ^ e <= 2 ^ k:=by
 refine ⟨xf e,?_⟩
 obtain ⟨j,rfl⟩:∃ j,k=e+j:=⟨k - e,by omega⟩
 rw [jm]
 have h1:=xf e
 have h2:=xf j
 have:(2:Int) ^ e * 1 <= 2 ^ e * 2 ^ j:=Int.mul_le_mul_of_nonneg_left (by omega) (by omega)
 omega
theorem zA6 {e:Int}{k:Nat}(h1:e <= k):0 < 1 * (2:Int) ^ e.toNat /\ 1 * (2:Int) ^ e.toNat <= 2 ^ k:=by
 have:=p2le (e:=e.toNat) (k:=k) (by omega)
 omega
theorem jK {n:Nat}(h:n <= 100000):n <= sizeLine:=zZ h (by decide)
theorem zAW {n:Nat}(h:n < 100000):n < sizeLine:=qJ h (by decide)
theorem same_upd {H H':Hp}{r:Addr}{o:HO}(h:H r=none)(s:Same H H'):Same H (upd H' r o):=fun b u q=>by rw [yH (ne_of_none q h)]; exact s b u q
def shV (n s:Int):V:=if 0 <= s then .int (n * 2 ^ s.toNat) else if n / 2 ^ (-s).toNat * 2 ^ (-s).toNat=n then .int (n / 2 ^ (-s).toNat) else .non
def spShifted:Sp:=fun vs H Q _=>∃ n s:Int,vs=[.int n,.int s] /\ -4000 <= s /\ s <= 4000 /\ n.natAbs < 2 ^ 10000 /\ Q (shV n s) H
theorem big_of {n:Int}{j k:Nat}(h:n.natAbs < 2 ^ j)(l:j <= k):n.natAbs < 2 ^ k:=qJ h (qN (by decide) l)
def On2 (vs:List V)(P:Int -> Int -> Prop):Prop:=∃ i j,vs=[.int i,.int j] /\ P i j
theorem w_On2 {i j:Int}{P:Int -> Int -> Prop}:On2 [.int i,.int j] P=P i j:=propext ⟨fun ⟨i',j',e,q⟩=>by cases e; exact q,fun q=>⟨i,j,rfl,q⟩⟩
section
variable {σ:St}{H:Hp}{D:Ends}{g:TG}{tb:TS}{K:zA}{Q:VK}{nt:Nat}{cs:List Nat}{tt:TT}{te:TE}
theorem w_for2b {ta:TA}:tFor (iRng2 ta) g tb D σ H=(ta σ H fun vs H1=>On2 vs fun i j=>(-(2 ^ 62) <= i /\ i < 2 ^ 62 /\ -(2 ^ 62) <= j /\ j < 2 ^ 62) /\ ForR i (j - i).toNat g tb D σ H1):=rfl
theorem w_comp2b {ta:TA}:zAV (iRng2 ta) nt cs g tt te σ H Q=(ta σ H fun vs H1=>On2 vs fun i j=>(-(2 ^ 62) <= i /\ i < 2 ^ 62 /\ -(2 ^ 62) <= j /\ j < 2 ^ 62) /\ y9 (Itr i (j - i).toNat) nt cs g tt te σ H1 Q):=rfl
end
end L2
namespace L2
open PySem
def fltV:V -> Option V:=fun x=>match x with
 | .int d=>if d ≠ 0 then some (.int d) else none
 | _=>none
theorem fltV_ne {d:Int}(h:¬d=0):fltV (.int d)=some (.int d):=by unfold fltV; exact if_pos h
theorem zAX:∀ (ds:List Int),(ds.map V.int).filterMap fltV=(ds.filter fun d=>decide (d ≠ 0)).map V.int
 | []=>rfl
 | d :: r=>by
  rw [zR,yK,List.filter_cons]
  by_cases h:d=0
  ·subst h
   show ((r.map V.int).filterMap fltV)=_
   rw [zAX r]
   rfl
  ·rw [fltV_ne h,if_pos (by simpa using h),zR,zAX r]
abbrev wn (n:Int):Nat:=wt (naf n)
theorem zAF (d:Int)(r:List Int):wt (d :: r)=(if d=0 then 0 else 1)+wt r:=by
 unfold wt
 rw [List.filter_cons]
 by_cases h:d=0
 ·simp [h]
 ·simp [h]; omega
theorem wn_zero:wn 0=0:=rfl
theorem zAh (n:Int):wn n=(if fs n=0 then 0 else 1)+wn ((n - fs n) / 2):=by
 by_cases h:n=0
 ·subst h; rfl
 ·show wt (naf n)=_
  rw [jC h,zAF]
theorem wt_neg:∀ ds:List Int,wt (ds.map fun d=>0 - d)=wt ds
 | []=>rfl
 | d :: r=>by
  rw [zR,zAF,zAF,wt_neg r]
  have:(0 - d=0) ↔ (d=0):=by omega
  simp only [this]
theorem wn_neg (n:Int):wn (-n)=wn n:=by show wt (naf (-n))=_; rw [naf_neg,wt_neg]
theorem wn_dbl (n:Int):wn (2 * n)=wn n:=by
 rw [zAh (2 * n)]
 have e:fs (2 * n)=0:=by unfold fs; rw [if_pos (by omega)]
 rw [e,if_pos rfl,yf]
 congr 2
 omega
theorem wn_1 (j:Int):wn (4 * j+1)=1+wn j:=by
 rw [zAh]
 have e:fs (4 * j+1)=1:=by unfold fs; rw [if_neg (by omega)]; omega
 rw [e,if_neg (by decide),← wn_dbl j]
 congr 2
 omega
theorem wn_3 (j:Int):wn (4 * j - 1)=1+wn j:=by
 rw [zAh]
 have e:fs (4 * j - 1) = -1:=by unfold fs; rw [if_neg (by omega)]; omega
 rw [e,if_neg (by decide),← wn_dbl j]
 congr 2
 omega
theorem wn_succ:∀ n:Int,wn (n+1) <= wn n+1 /\ wn n <= wn (n+1)+1:=by
 have all:∀ k (n:Int),n.natAbs <= k -> wn (n+1) <= wn n+1 /\ wn n <= wn (n+1)+1:=by
  intro k
  induction k with
  | zero =>
   intro n h
   have:n=0:=by omega
   subst this
   decide
  | succ k ih =>
   intro n h
   have cases4:n=4 * (n / 4) \/ n=4 * (n / 4)+1 \/ n=4 * (n / 4)+2 \/ n=4 * (n / 4)+3:=by omega
   by_cases z:n = -1
   ·subst z; decide
   by_cases z0:n=0
   ·subst z0; decide
   have hj:=ih (n / 4) (by omega)
   generalize n / 4=j at *
   rcases cases4 with e | e | e | e <;> subst e
   ·rw [show 4 * j=2 * (2 * j) by omega,wn_dbl,wn_dbl,show 2 * (2 * j)+1=4 * j+1 by omega,wn_1]
    omega
   ·rw [wn_1,show 4 * j+1+1=2 * (2 * j+1) by omega,wn_dbl]
    have h3:wn (2 * j+1) <= wn j+2:=by
     by_cases e:j % 2=0
     ·have e1:2 * j+1=4 * (j / 2)+1:=by omega
      have e2:wn j=wn (j / 2):=by rw [← wn_dbl (j / 2)]; congr 2; omega
      rw [e1,wn_1,← e2]; omega
     ·have e1:2 * j+1=4 * ((j+1) / 2) - 1:=by omega
      have e2:wn (j+1)=wn ((j+1) / 2):=by rw [← wn_dbl ((j+1) / 2)]; congr 2; omega
      rw [e1,wn_3,← e2]; omega
    have h4:wn j <= wn (2 * j+1):=by
     by_cases e:j % 2=0
     ·have e1:2 * j+1=4 * (j / 2)+1:=by omega
      have e2:wn j=wn (j / 2):=by rw [← wn_dbl (j / 2)]; congr 2; omega
      rw [e1,wn_1,← e2]; omega
     ·have e1:2 * j+1=4 * ((j+1) / 2) - 1:=by omega
      have e2:wn (j+1)=wn ((j+1) / 2):=by rw [← wn_dbl ((j+1) / 2)]; congr 2; omega
      rw [e1,wn_3,← e2]; omega
    have h5:wn (2 * j+1) <= 1+wn j+1:=by omega
    exact ⟨h5,by omega⟩
   ·rw [show 4 * j+2=2 * (2 * j+1) by omega,wn_dbl,show 2 * (2 * j+1)+1=4 * (j+1) - 1 by omega,wn_3]
    have h4:wn (2 * j+1) <= wn (j+1)+2 /\ wn (j+1) <= wn (2 * j+1):=by
     by_cases e:j % 2=0
     ·have e1:2 * j+1=4 * (j / 2)+1:=by omega
      have e2:wn j=wn (j / 2):=by rw [← wn_dbl (j / 2)]; congr 2; omega
      rw [e1,wn_1,← e2]; omega
     ·have e1:2 * j+1=4 * ((j+1) / 2) - 1:=by omega
      have e2:wn (j+1)=wn ((j+1) / 2):=by rw [← wn_dbl ((j+1) / 2)]; congr 2; omega
      rw [e1,wn_3,← e2]; omega
    omega
   ·rw [show 4 * j+3=4 * (j+1) - 1 by omega,wn_3,show 4 * (j+1) - 1+1=2 * (2 * (j+1)) by omega,wn_dbl,wn_dbl]
    omega
 exact fun n=>all n.natAbs n (zE _)
theorem wn_pow:∀ (k:Nat) (n:Int),wn (n+2 ^ k) <= wn n+1
 | 0,n=>by simpa using (wn_succ n).1
 | k+1,n=>by
  have e2:(2:Int) ^ (k+1)=2 * 2 ^ k:=by rw [yo]; omega
  by_cases h:n % 2=0
  ·have h1:=wn_pow k (n / 2)
   have e:n+2 ^ (k+1)=2 * (n / 2+2 ^ k):=by rw [e2]; omega
   have e':wn n=wn (n / 2):=by rw [← wn_dbl (n / 2)]; congr 2; omega
   rw [e,wn_dbl,e']; exact h1
  ·cases k with
   | zero =>
    have c:n % 4=1 \/ n % 4=3:=by omega
    rcases c with c | c
    ·have e1:n=4 * (n / 4)+1:=by omega
     have e3:n+2 ^ (0+1)=4 * (n / 4+1) - 1:=by rw [e2]; omega
     rw [e3,wn_3,e1,wn_1]
     have:=(wn_succ (n / 4)).1
     rw [show (4 * (n / 4)+1) / 4=n / 4 by omega]
     omega
    ·have e1:n=4 * ((n+1) / 4) - 1:=by omega
     have e3:n+2 ^ (0+1)=4 * ((n+1) / 4)+1:=by rw [e2]; omega
     have a1:wn n=1+wn ((n+1) / 4):=by rw [← wn_3 ((n+1) / 4)]; congr 2
     rw [e3,wn_1,a1]
     omega
   | succ k =>
    have e4:(2:Int) ^ (k+1+1)=4 * 2 ^ k:=by rw [yo,yo]; omega
    have ef:fs (n+2 ^ (k+1+1))=fs n:=by
     unfold fs
     rw [e4,if_neg (by omega),if_neg h]
     omega
    have h1:=wn_pow (k+1) ((n - fs n) / 2)
    rw [zAh (n+2 ^ (k+1+1)),zAh n,ef]
    have e5:(n+2 ^ (k+1+1) - fs n) / 2=(n - fs n) / 2+2 ^ (k+1):=by
     rw [e4,show (2:Int) ^ (k+1)=2 * 2 ^ k by rw [yo]; omega]
     omega
    rw [e5]
    omega
theorem wn_powm (k:Nat)(n:Int):wn (n - 2 ^ k) <= wn n+1:=by
 have:=wn_pow k (-n)
 rw [wn_neg] at this
 rw [← wn_neg]
 rw [show -(n - 2 ^ k) = -n+2 ^ k by omega]
 exact this
def IsPw (x:Int):Prop:=∃ k:Nat,x=2 ^ k \/ x = -(2 ^ k)
theorem wn_val:∀ (ds:List Int),(∀ d ∈ ds,d = -1 \/ d=0 \/ d=1) -> ∀ (k:Nat) (n:Int),wn (n+2 ^ k * val ds) <= wn n+wt ds
 | [],_,k,n=>by simp [val,wt]
 | d :: r,h,k,n=>by
  have hd:=h d zb
  have h1:=wn_val r (fun y hy=>h y (ze _ hy)) (k+1) (n+2 ^ k * d)
  rw [val,zAF]
  have e:n+2 ^ k * (d+2 * val r)=n+2 ^ k * d+2 ^ (k+1) * val r:=by
   rw [yo,Int.mul_add,← zW,zW (2 ^ k) 2]
   omega
  rw [e]
  rcases hd with z | z | z
  ·subst z
   have h2:=wn_powm k n
   rw [show n+2 ^ k * -1=n - 2 ^ k by omega] at h1 ⊢
   rw [if_neg (by decide)]
   omega
  ·subst z
   rw [Int.mul_zero,Int.add_zero] at h1 ⊢
   rw [if_pos rfl]
   omega
  ·subst z
   have h2:=wn_pow k n
   rw [yj] at h1 ⊢
   rw [if_neg (by decide)]
   omega
theorem wn_add (a b:Int):wn (a+b) <= wn a+wn b:=by
 have:=wn_val (naf b) (naf_dig b) 0 a
 rw [val_naf,show a+2 ^ 0 * b=a+b by simp] at this
 exact this
theorem wn_eq0 {n:Int}:wn n=0 ↔ n=0:=by
 constructor
 ·refine zBL (p:=fun n=>wn n=0 -> n=0) (fun _=>rfl) (fun n h ih hw=>?_) n
  rw [zAh] at hw
  have h1:fs n=0:=by
   by_cases z:fs n=0
   ·exact z
   ·rw [if_neg z] at hw; omega
  rw [h1] at hw ih
  have:=ih (by rw [if_pos rfl] at hw; omega)
  rcases fs_cases n with ⟨e,_⟩ | ⟨e,_⟩ | ⟨e,_⟩
  ·omega
  ·rw [e] at h1; cases h1
  ·rw [e] at h1; cases h1
 ·intro e; subst e; rfl
theorem wn_ispw {n:Int}(h:IsPw n):wn n=1:=by
 have w1:∀ k:Nat,wn ((2:Int) ^ k)=1:=by
  intro k
  induction k with
  | zero=>rfl
  | succ k ih=>rw [show (2:Int) ^ (k+1)=2 * 2 ^ k by rw [yo]; omega,wn_dbl,ih]
 obtain ⟨k,e | e⟩:=h
 ·rw [e,w1]
 ·rw [e,wn_neg,w1]
theorem w_neB {a b:Bool}{H:Hp}{Q:VK}:rNe (.bl a) (.bl b) H Q=Q (.bl (!decide (a=b))) H :=
 propext (by
  have e:decide (V.bl a=V.bl b)=decide (a=b):=by by_cases h:a=b <;> simp [h]
  unfold rNe; rw [e]; exact ⟨fun h=>h.2,fun h=>⟨rfl,h⟩⟩)
theorem w_eqB {a b:Bool}{H:Hp}{Q:VK}:rEq (.bl a) (.bl b) H Q=Q (.bl (decide (a=b))) H :=
 propext (by
  have e:decide (V.bl a=V.bl b)=decide (a=b):=by by_cases h:a=b <;> simp [h]
  unfold rEq; rw [e]; exact ⟨fun h=>h.2,fun h=>⟨rfl,h⟩⟩)
theorem lt_bits (n:Int):n.natAbs < 2 ^ Builtin.Int.intBits n:=by
 unfold Builtin.Int.intBits
 split
 ·rename_i h
  have:n=0:=by simpa using h
  subst this
  decide
 ·exact Nat.lt_log2_self
end L2
namespace L2
open PySem
abbrev SS:=List (Int × Int) × List Int
def stp (m:Int)(s:SS)(o:Int):SS:=if (s.1.lookup o).isSome=false /\ (if o < 0 then -o else o) < 200 then (s.1 ++ [(o,m)],s.2 ++ [o]) else s
def kin (m n:Int)(s:SS)(k:Nat):SS:=stp m (stp m s (n+1 * 2 ^ k)) (n - 1 * 2 ^ k)
theorem zAY {l:List (Int × Int)}{o m n:Int}:(l ++ [(o,m)]).lookup n=(l.lookup n).or (if n=o then some m else none):=by
 rw [List.lookup_append,jc]
 by_cases h:n=o
 ·subst h; simp
 ·have:(n == o)=false:=by simpa using h
  rw [this,if_neg h]
  rfl
end L2
namespace L2
open PySem PySem.Spec PyProof.Rows
theorem nmx:(toString "max" ++ toString ".loop" : String) = "max.loop":=by decide
theorem ak_max (a d:Value):argsOk "max" ⟨[a],[(Str.ofString "default",d)]⟩:=by
 unfold argsOk; kernel_rfl
section
variable {prog:Program}{w:World}{A:Around}{R:Result -> Shared -> Prop}{I S:Addr}{fp wr:List Addr}{n:Nat}{P:Nat -> Value -> Prop}{St:Nat -> Heap -> Prop}{bt:Nat -> Nat -> Bool}{d:Value}
abbrev lsO (its:Array Value) (c:Nat):Obj:={ cls:=.type "list",dict:=none,data:=.seq its c,slots:=#[] }
abbrev mxC (I S:Addr) (d:Value):Code:=.builtin "max.loop" ⟨[.ref I,.none,.ref S],[(Str.ofString "default",d)]⟩
theorem mx_next (W:Walks prog w A.in1 I fp wr n P St)(hc:CmpOf prog w A.in1 .Gt P bt)(hf:S ∉ fp)(k:Nat):∀ (j:Nat) (s:Shared) (vb:Value) (c:Nat),n=j+1+k -> St (j+1) s.heap -> P (argBest bt j) vb -> s.heap.get? S=some (lsO #[vb,vb] c) ->
  (∀ v h' tk,P (argBest bt (n - 1)) v -> (∀ b o,b ∉ wr -> b ≠ S -> s.heap.get? b=some o -> h'.get? b=some o) -> R (.ok (.ret v)) { s with heap:=h',toks:=tk }) -> codeAny (model prog w) A (mxC I S d) R s:=by
 have hw:S ∉ wr:=fun h=>hf (W.sub _ h)
 induction k with
 | zero =>
  intro j s vb c hk st pb hS hR
  refine codeAny_builtin PySem.F.entry_max_loop (by rw [Around.under_plainId xC _]; show wpAny _ A.in1 (seqItems? (.ref S) >>= _) _ _ s; refine wpAny_bind (wpAny_seqItems hS rfl ?_); show wpAny _ A.in1 (tryCatch (pyNext (.ref I)) _ >>= _) _ _ s; refine wpAny_bind (wpAny_tryCatch (W.done s _ _ (by rw [hk]; exact st) fun h' tk hk'=>?_)); have hS':=hk' S _ hw hS; show wpAny _ A.in1 (updateSeq S (fun _=>#[]) >>= _) _ _ _; refine wpAny_bind ?_; refine wpAny_updateSeq hS' rfl (wpAny_bind (wpAny_letGo (wpAny_pure ?_))); exact hR vb _ tk (by rw [hk]; exact pb) fun b o h1 h2 e=>(Heap.get?_update_other _ _ (Ne.symm h2)).trans (hk' b o h1 e))
 | succ k ih =>
  intro j s vb c hk st pb hS hR
  refine codeAny_builtin PySem.F.entry_max_loop (by rw [Around.under_plainId xC _]; show wpAny _ A.in1 (seqItems? (.ref S) >>= _) _ _ s; refine wpAny_bind (wpAny_seqItems hS rfl ?_); show wpAny _ A.in1 (tryCatch (pyNext (.ref I)) _ >>= _) _ _ s; exact wpAny_bind (wpAny_tryCatch (W.item (j+1) s _ _ (by omega) st fun v h' tk hP st' hk'=>by
   have hS':=hk' S _ hw hS
   show wpAny _ A.in1 (tryCatch (holding [v,v] (richCompare .Gt v vb >>= _)) _ >>= _) _ _ _
   refine wpAny_bind (wpAny_tryCatch (wpAny_holding (wpAny_bind (hc (j+1) (argBest bt j) v vb _ _ _ hP pb (wpAny_bind (wpAny_holding (wpAny_truthy_bool (wpAny_bind (wpAny_letGo (wpAny_pure ?_))))))))))
   cases hb:bt (j+1) (argBest bt j) with
   | true =>
    rw [if_pos rfl]
    refine wpAny_bind (wpAny_updateSeq hS' rfl (wpAny_bind (wpAny_letGo ?_)))
    rw [nmx]
    exact wpAny_pure ⟨plainId_quiet xC _,ih (j+1) _ v _ (by omega) (W.frame _ _ _ st' fun b hbf o e=>(Heap.get?_update_other _ _ (fun h:S=b=>hf (by rw [h]; exact hbf))).trans e) (by rw [argBest,hb]; exact hP) (Heap.get?_update_self _ hS' rfl) fun v' h2 tk2 hP2 hk2=>hR v' h2 tk2 hP2 fun b o h1 h3 e=>hk2 b o h1 h3 ((Heap.get?_update_other _ _ (Ne.symm h3)).trans (hk' b o h1 e))⟩
   | false =>
    rw [if_neg (by decide)]
    refine wpAny_bind (wpAny_letGo ?_)
    rw [nmx]
    exact wpAny_pure ⟨plainId_quiet xC _,ih (j+1) _ vb c (by omega) st' (by rw [argBest,hb]; exact pb) hS' fun v' h2 tk2 hP2 hk2=>hR v' h2 tk2 hP2 fun b o h1 h3 e=>hk2 b o h1 h3 (hk' b o h1 e)⟩)))
theorem mx_first (W:Walks prog w A.in1 I fp wr n P St)(hc:CmpOf prog w A.in1 .Gt P bt)(hf:S ∉ fp){s:Shared}{c:Nat}(st:St 0 s.heap)(hS:s.heap.get? S=some (lsO #[] c))
  (h0:n=0 -> ∀ h' tk,(∀ b o,b ∉ wr -> b ≠ S -> s.heap.get? b=some o -> h'.get? b=some o) -> R (.ok (.ret d)) { s with heap:=h',toks:=tk })
  (hR:0 < n -> ∀ v h' tk,P (argBest bt (n - 1)) v -> (∀ b o,b ∉ wr -> b ≠ S -> s.heap.get? b=some o -> h'.get? b=some o) -> R (.ok (.ret v)) { s with heap:=h',toks:=tk }):codeAny (model prog w) A (mxC I S d) R s:=by
 have hw:S ∉ wr:=fun h=>hf (W.sub _ h)
 refine codeAny_builtin PySem.F.entry_max_loop (by
  rw [Around.under_plainId xC _]; show wpAny _ A.in1 (seqItems? (.ref S) >>= _) _ _ s; refine wpAny_bind (wpAny_seqItems hS rfl ?_); show wpAny _ A.in1 (tryCatch (pyNext (.ref I)) _ >>= _) _ _ s
  by_cases hn:n=0
  ·refine wpAny_bind (wpAny_tryCatch (W.done s _ _ (by rw [hn]; exact st) fun h' tk hk'=>?_)); show wpAny _ A.in1 (rule _ >>= _) _ _ _; refine wpAny_bind (wpAny_rule (wpAny_pure (h0 hn h' tk fun b o h1 _ e=>hk' b o h1 e)))
  ·exact wpAny_bind (wpAny_tryCatch (W.item 0 s _ _ (by omega) st fun v h' tk hP st' hk'=>by
    have hS':=hk' S _ hw hS
    show wpAny _ A.in1 (updateSeq S (fun _=>#[v,v]) >>= _) _ _ _
    refine wpAny_bind (wpAny_updateSeq hS' rfl ?_); rw [nmx]
    exact wpAny_pure ⟨plainId_quiet xC _,mx_next W hc hf (n - 1) 0 _ v _ (by omega) (W.frame _ _ _ st' fun b hbf o e=>(Heap.get?_update_other _ _ (fun h:S=b=>hf (by rw [h]; exact hbf))).trans e) hP (Heap.get?_update_self _ hS' rfl) fun v' h2 tk2 hP2 hk2=>hR (by omega) v' h2 tk2 hP2 fun b o h1 h3 e=>hk2 b o h1 h3 ((Heap.get?_update_other _ _ (Ne.symm h3)).trans (hk' b o h1 e))⟩)))
end
section
variable {prog:Program}{w:World}{A:Around}{E:Value -> Shared -> Prop}{s:Shared}{d x:Value}
theorem mx_dflt {Q : Value → Shared → Prop} (h : wpAny (model prog w) A.in1 (pyIter x) (fun it s2 => ∃ I fp wr n P St bt, it = .ref I ∧ Walks prog w A.in1 I fp wr n P St ∧ St 0 s2.heap ∧ (∀ b ∈ fp, b < s2.heap.objs.size) ∧ CmpOf prog w A.in1 .Gt P bt ∧
      (n = 0 → ∀ h' tk, (∀ b o, b ∉ wr → s2.heap.get? b = some o → h'.get? b = some o) → Q d { s2 with heap := h', toks := tk }) ∧ (0 < n → ∀ v h' tk, P (argBest bt (n - 1)) v → (∀ b o, b ∉ wr → s2.heap.get? b = some o → h'.get? b = some o) → Q v { s2 with heap := h', toks := tk })) E s) :
    wpAny (model prog w) A (call (.builtin "max") [x] [(Str.ofString "default", d)]) Q E s := by
  refine kmb_tree PySem.F.kind_max PySem.F.plain_max PySem.F.entry_max (ak_max _ _) ?_
  show wpAny _ A.in1 (Builtin.Builtins.bindParams "max" ["key", "default"] 0 ⟨[], [(Str.ofString "default", d)]⟩ >>= _) _ _ s
  refine wpAny_bind (wpAny_of_eq (show Builtin.Builtins.bindParams "max" ["key", "default"] 0 ⟨[], [(Str.ofString "default", d)]⟩ = pure [none, some d] from rfl) (wpAny_bind (wpAny_pure ?_)))
  refine wpAny_bind (wpAny_mono h (fun it s2 hh => ?_) fun _ _ e => e)
  obtain ⟨I, fp, wr, n, P, St, bt, rfl, W, st, hfp, hc, q0, q1⟩ := hh
  refine wpAny_bind (wpAny_newObj_type ?_)
  have hf : s2.heap.objs.size ∉ fp := fun hm => yg _ (hfp _ hm)
  rw [nmx]
  refine wpAny_pure ⟨plainId_quiet xC _, mx_first W hc hf (W.frame _ _ _ st fun b _ o e => Heap.get?_push_of_some _ e) (Heap.get?_push_size _ rfl) (fun hn h' tk hk => q0 hn h' tk fun b o hb e => hk b o hb (zg (Heap.lt_size e)) (Heap.get?_push_of_some _ e)) fun hn v h' tk hP hk => q1 hn v h' tk hP fun b o hb e => hk b o hb (zg (Heap.lt_size e)) (Heap.get?_push_of_some _ e)⟩
end
def mz:List Int -> Int
 | []=>0
 | x :: r=>if mz r < x then x else mz r
theorem Jw:∀ (ns:List Int),0 <= mz ns
 | []=>zAA 0
 | x :: r=>by
  have:=Jw r
  unfold mz
  split <;> omega
theorem mz_ge {x:Int}:∀ {ns:List Int},x ∈ ns -> x <= mz ns
 | y :: r,h=>by
  unfold mz
  rcases zV.mp h with e | e
  ·subst e
   split <;> omega
  ·have:=mz_ge e
   split <;> omega
theorem mz_mem:∀ {ns:List Int},ns ≠ [] -> (∀ n ∈ ns,0 <= n) -> mz ns ∈ ns
 | [x],_,h=>by
  have:=h x zb
  show (if (0:Int) < x then x else 0) ∈ [x]
  by_cases hx:0 < x
  ·rw [if_pos hx]; exact zb
  ·rw [if_neg hx,show x=0 by omega]; exact zb
 | x :: y :: r,_,h=>by
  have ih:=mz_mem (ns:=y :: r) (by simp) fun n hn=>h n (ze _ hn)
  rw [mz]
  by_cases hx:mz (y :: r) < x
  ·rw [if_pos hx]; exact zb
  ·rw [if_neg hx]; exact ze _ ih
theorem mz_unique {ns:List Int}{v:Int}(hm:v ∈ ns)(hp:∀ n ∈ ns,0 <= n)(hv:∀ n ∈ ns,n <= v):v=mz ns:=by
 have h1:=mz_ge hm
 have h2:=hv _ (mz_mem (by intro z; rw [z] at hm; cases hm) hp)
 omega
theorem best_val (val:Nat -> Int):∀ k i,i <= k -> val i <= val (argBest (fun i j=>decide (val i > val j)) k)
 | 0,i,h=>by
  have:i=0:=by omega
  subst this
  exact zAA _
 | k+1,i,h=>by
  rw [argBest]
  by_cases hb:val (k+1) > val (argBest (fun i j=>decide (val i > val j)) k)
  ·rw [if_pos (by simpa using hb)]
   by_cases e:i=k+1
   ·subst e; exact zAA _
   ·have:=best_val val k i (by omega)
    omega
  ·rw [if_neg (by simpa using hb)]
   by_cases e:i=k+1
   ·subst e; omega
   ·exact best_val val k i (by omega)
theorem best_le (bt:Nat -> Nat -> Bool):∀ k,argBest bt k <= k
 | 0=>zE 0
 | k+1=>by
  have:=best_le bt k
  rw [argBest]
  split <;> omega
section
variable {X:Cx}{e:Expr}{es:List Expr}{kws:List Keyword}{t tk:TA}{p pos:Pos}
theorem best_mz {xs:List (Int × Tok)}{ns:List Int}(e:xs.map (·.1)=ns)(hn:0 < xs.length)(hp:∀ n ∈ ns,0 <= n){v:Value}(hv:(xs.map fun p=>Value.int p.1 p.2).toArray[argBest (fun i j=>decide (ns.getD i 0 > ns.getD j 0)) (xs.length - 1)]? = some v):∃ tk,v = .int (mz ns) tk:=by
 have hl:ns.length=xs.length:=by rw [← e,qC]
 have hb:=best_le (fun i j=>decide (ns.getD i 0 > ns.getD j 0)) (xs.length - 1)
 have hm:=best_val (fun i=>ns.getD i 0) (xs.length - 1)
 generalize argBest (fun i j=>decide (ns.getD i 0 > ns.getD j 0)) (xs.length - 1)=k at hv hb hm
 rw [List.getElem?_toArray,qI] at hv
 cases hx:xs[k]? with
 | none=>rw [hx] at hv; cases hv
 | some q =>
  rw [hx] at hv
  cases hv
  have hq:ns[k]? = some q.1:=by rw [← e,qI,hx]; rfl
  refine ⟨q.2,?_⟩
  show Value.int q.1 q.2=Value.int (mz ns) q.2
  rw [mz_unique (qE hq) hp fun n hn'=>?_]
  obtain ⟨i,hi,rfl⟩:=List.getElem_of_mem hn'
  have:=hm i (by omega)
  simp only [List.getD,hq,Option.getD_some] at this
  rw [qA hi] at this
  exact this
theorem at_int {xs:List (Int × Tok)}{ns:List Int}(e:xs.map (·.1)=ns)(i:Nat)(v:Value)(h:(xs.map fun p=>Value.int p.1 p.2).toArray[i]? = some v):∃ t,v = .int (ns.getD i 0) t:=by
 rw [List.getElem?_toArray,qI] at h
 cases hx:xs[i]? with
 | none=>rw [hx] at h; cases h
 | some q =>
  rw [hx] at h
  cases h
  refine ⟨q.2,?_⟩
  have:ns[i]? = some q.1:=by rw [← e,qI,hx]; rfl
  simp [List.getD,this]
def tMaxD (t tk:TA):TE:=fun σ H Q=>t σ H fun vs H1=>tk σ H1 fun zs H2=>∃ (p:Addr) (ns:List Int),vs=[.ref p] /\ zs=[.int 0] /\ H2 p=some (.lst (ns.map V.int)) /\ (∀ n ∈ ns,0 <= n) /\ Q (.int (mz ns)) H2
theorem pe_maxD (hc:X.calm=true) (hg:Gl X "max") (hm:X.mg "max" = none) (ha:PA X (e :: es) t) (hk:PK X kws tk) (hks:(backToKw pos (keywordEach kws X.env)).filterMap (·.1)=[Str.ofString "default"]:=by rfl)
  (he:backTo pos (starEach (e :: es) X.env)=(false,eval e X.env) :: backTo pos (starEach es X.env):=by rfl) (h1:(backTo pos (starEach (e :: es) X.env)).any (·.1)=false:=by rfl)
  (h2:(backToKw pos (keywordEach kws X.env)).all (·.1.isSome)=true:=by rfl) (h3:(backToKw pos (keywordEach kws X.env)).any (·.1.isNone)=false:=by rfl):PE X (.Call (.Name "max" p) (e :: es) kws pos) (tMaxD t tk):=by
 intro pins s σ H Q I h
 refine wpAny_Call_Name_kw (JT I hg hm bo_max ?_ (by decide) (by decide))
 refine callWith_kw (thn (ha pos pins s σ H _ I h) fun us s1 ⟨vs,H1,I1,r,q⟩=>thn (hk pos pins s1 σ H1 _ I1 q) fun ws s2 ⟨zs,H2,I2,rz,q2⟩=>?_) he h1 h2 h3
 rw [hks]
 obtain ⟨p,ns,rfl,rfl,hp,h0,q3⟩:=q2
 obtain ⟨u,rfl,ru⟩:=Vals.one r
 cases ru
 obtain ⟨z,rfl,tz,rfl⟩:=Vals.one rz
 refine mx_dflt (zBh hc I2 hp fun its rv s3 st hfp hne2 W hI=>?_)
 obtain ⟨xs,rfl,e⟩:=jw rv
 refine ⟨_,_,_,_,_,_,fun i j=>decide (ns.getD i 0 > ns.getD j 0),rfl,W,st,hfp,CmpOf.ints_gt (fun i=>ns.getD i 0) (at_int e),fun hn h' tk hk=>?_,fun hn v h' tk hP hk=>?_⟩
 ·have hx:xs=[]:=by simpa using hn
  subst hx
  subst e
  exact ⟨.int 0,H2,hI h' tk hk,⟨_,rfl⟩,q3⟩
 ·have hx:0 < xs.length:=by simpa using hn
  obtain ⟨t,rfl⟩:=best_mz e hx h0 (v:=v) (by simpa using hP)
  exact ⟨.int (mz ns),H2,hI h' tk hk,⟨_,rfl⟩,q3⟩
end
section
variable {K:zA}{σ:St}{H:Hp}{Q:VK}
theorem w_maxD {t tk:TA}:tMaxD t tk σ H Q=t σ H fun vs H1=>tk σ H1 fun zs H2=>∃ (p:Addr) (ns:List Int),vs=[.ref p] /\ zs=[.int 0] /\ H2 p=some (.lst (ns.map V.int)) /\ (∀ n ∈ ns,0 <= n) /\ Q (.int (mz ns)) H2:=rfl
theorem w_sl {r:V -> Option Int -> Option Int -> Hp -> VK -> Prop}{te:TE}{tl th:TO}:tSl r te tl th σ H Q=te σ H fun x H1=>tl σ H1 fun l H2=>th σ H2 fun u H3=>r x l u H3 Q:=rfl
theorem w_noPart {R:Option Int -> Hp -> Prop}:tNoPart σ H R=R none H:=rfl
theorem w_part {t:TE}{R:Option Int -> Hp -> Prop}:tPart t σ H R=t σ H fun x H1=>∃ i,x = .int i /\ R (some i) H1:=rfl
theorem w_slL {a:Addr}{lo hi:Option Int}:rSlL K (.ref a) lo hi H Q = ∃ xs,SqL K H a xs /\ ∀ p,H p=none -> Q (.ref p) (upd H p (.lst (cutV xs lo hi))) :=
 propext ⟨fun ⟨a',xs,e,h,q⟩=>by cases e; exact ⟨xs,h,q⟩,fun ⟨xs,h,q⟩=>⟨a,xs,rfl,h,q⟩⟩
theorem comp_new {J:It}{xs:List V}{cs:List Nat}{tt:TT}{te:TE}(f:V -> Option V)(hz:xs.length <= sizeLine)
  (hJ:∀ H',Same H H' -> (∀ i,i < xs.length -> J.go i H') /\ (∀ i x H2,J.yld i H' x H2 -> H2=H' /\ (i < xs.length -> xs[i]? = some x)) /\ J.stop xs.length H')
  (hb:∀ x H' (R:Option V -> Hp -> Prop),x ∈ xs -> Same H H' -> (∀ H5,Same H' H5 -> R (f x) H5) -> tt (some x :: yZ cs σ) H' fun b H4=>if b=true then te (some x :: yZ cs σ) H4 fun y H5=>R (some y) H5 else R none H4)
  (hd:∀ acc H',H acc=none -> Same H H' -> H' acc=some (.lst (xs.filterMap f)) -> Q (.ref acc) H'):y9 J 1 cs (xk 0) tt te σ H Q:=by
 intro acc hn
 refine ⟨fun i m ys σ' H'=>m=xs.length - i /\ i <= xs.length /\ (∃ o,σ'=o :: yZ cs σ) /\ ys=(xs.take i).filterMap f /\ H' acc=some (.lst ys) /\ Same H H',⟨_,rfl,yM _,⟨none,rfl⟩,by simp,zF,zO hn _⟩,?_⟩
 rintro i m ys σ' H' ⟨rfl,hi,⟨o,rfl⟩,hys,ha,sm⟩
 refine ⟨ha,?_⟩
 have hl:ys.length <= i:=by
  rw [hys]
  exact zZ (List.length_filterMap_le _ _) (by rw [qO]; omega)
 by_cases hlt:i < xs.length
 ·refine .inr ⟨(hJ _ sm).1 i hlt,by omega,fun zs σ2 H2=>(∃ o,σ2=o :: yZ cs σ) /\ zs=(xs.take (i+1)).filterMap f /\ H2 acc=some (.lst zs) /\ Same H H2,fun zs σ2 H2 ⟨q1,q2,q3,q4⟩=>⟨xs.length - (i+1),by omega,rfl,hlt,q1,q2,q3,q4⟩,fun x H2 y=>?_⟩
  obtain ⟨e,hx⟩:=(hJ _ sm).2.1 i x H2 y
  have hx:=hx hlt
  subst e
  have tk:xs.take (i+1)=xs.take i ++ [x]:=by rw [za,hx]; rfl
  show tt (some x :: yZ cs σ) _ _
  refine hb x _ (fun o H5=>match o with | some y=>H5 acc=some (.lst ys) /\ (∃ o,some x :: yZ cs σ = o :: yZ cs σ) /\ ys ++ [y]=(xs.take (i+1)).filterMap f /\ upd H5 acc (.lst (ys ++ [y])) acc=some (.lst (ys ++ [y])) /\ Same H (upd H5 acc (.lst (ys ++ [y]))) | none=>(∃ o,some x :: yZ cs σ = o :: yZ cs σ) /\ ys=(xs.take (i+1)).filterMap f /\ H5 acc=some (.lst ys) /\ Same H H5) (qE hx) sm fun H5 s5=>?_
  cases hf:f x with
  | none =>
   refine ⟨⟨_,rfl⟩,?_,s5 _ _ ha,sm.trans s5⟩
   rw [tk,x8,← hys]
   simp [hf]
  | some y =>
   refine ⟨s5 _ _ ha,⟨_,rfl⟩,?_,zF,same_upd hn (sm.trans s5)⟩
   rw [tk,x8,← hys]
   simp [hf]
 ·have e:i=xs.length:=by omega
  subst e
  rw [zt] at hys
  subst hys
  exact .inl ⟨(hJ _ sm).2.2,hd acc H' hn sm ha⟩
theorem comp_newL {a:Addr}{xs:List V}{cs:List Nat}{tt:TT}{te:TE}(h:SqL K H a xs)(hz:xs.length <= sizeLine)(f:V -> Option V)
  (hb:∀ x H' (R:Option V -> Hp -> Prop),x ∈ xs -> Same H H' -> (∀ H5,Same H' H5 -> R (f x) H5) -> tt (some x :: yZ cs σ) H' fun b H4=>if b=true then te (some x :: yZ cs σ) H4 fun y H5=>R (some y) H5 else R none H4)
  (hd:∀ acc H',H acc=none -> Same H H' -> H' acc=some (.lst (xs.filterMap f)) -> Q (.ref acc) H'):y9 (Itl K a) 1 cs (xk 0) tt te σ H Q :=
 comp_new f hz (fun H' s=>by
  have h':=s.seq h
  exact ⟨fun i hi=>⟨xs,xs[i],h',by simp [hi]⟩,fun i x H2 y=>⟨y.1,fun _=>y.2 xs h'⟩,⟨xs,h',zE _⟩⟩) hb hd
def liI (g:Int -> Int):V -> Option V:=fun x=>match x with
 | .int n=>some (.int (g n))
 | _=>none
theorem zAG (g:Int -> Int):∀ (ns:List Int),(ns.map V.int).filterMap (liI g)=(ns.map g).map V.int
 | []=>rfl
 | n :: r=>by
  rw [zR,List.filterMap_cons_some (f:=liI g) (a:=V.int n) (b:=V.int (g n)) rfl,zAG g r]
  rfl
end
def halN (c:Int):Nat:=if c > 1 then Builtin.Int.intBits (c - 1) else 0
theorem hal_iff {c:Int}{d:Nat}:halN c <= d ↔ c <= 2 ^ d:=by
 have p:=xf d
 unfold halN
 by_cases h:c > 1
 ·rw [if_pos h]
  constructor
  ·intro hb
   have h1:=lt_bits (c - 1)
   have h2:(c - 1).natAbs < 2 ^ d:=qJ h1 (qN (by decide) hb)
   have e:((2 ^ d:Nat):Int)=2 ^ d:=by rw [jI]; rfl
   omega
  ·intro hb
   refine zBH ?_
   have e:((2 ^ d:Nat):Int)=2 ^ d:=by rw [jI]; rfl
   omega
 ·rw [if_neg h]
  constructor
  ·intro _; omega
  ·intro _; omega
def ld (ns:List Int):Int:=mz (ns.map fun n=>((halN (wn n:Nat):Nat):Int))
def spLD:Sp:=fun vs H Q _=>∃ (a:Addr) (ns:List Int),vs=[.ref a] /\ H a=some (.lst (ns.map V.int)) /\ ns.length <= 1000 /\ (∀ n ∈ ns,n.natAbs < 2 ^ 5000) /\ ∀ H',Same H H' -> Q (.int (ld ns)) H'
def spHal:Sp:=fun vs H Q _=>∃ c:Int,vs=[.int c] /\ Q (.int (halN c:Nat)) H
theorem wn_bound {n:Int}{k:Nat}(h:n.natAbs < 2 ^ k):wn n <= k+1:=zZ (List.length_filter_le _ _) (zAE k n h)
end L2
namespace L2
open PySem PySem.Spec PyProof.Rows
def rListD:List V -> Hp -> VK -> Prop:=fun xs H Q=>∃ (p:Addr) (kvs:List (Key × V)),xs=[.ref p] /\ H p=some (.dK kvs) /\ ∀ l,H l=none -> Q (.ref l) (upd H l (.lst (kvs.map fun q=>kV q.1)))
theorem key_rel {k:Key}{v:Value}(h:keyIs k v=true):RelV (kV k) v:=by
 rcases keyIs_shape h with ⟨i,t,rfl,rfl⟩ | ⟨x,t,rfl,rfl⟩
 ·exact ⟨t,rfl⟩
 ·exact ⟨t,rfl⟩
theorem keys_vals {kvs:List (Key × V)}{vs:List (Key × Value)}(r:KV kvs vs):∀ (us:List Value),us.length=vs.length -> (∀ (j:Nat) (v:Value),us[j]? = some v -> ∃ (k:Key) (x:Value),vs[j]? = some (k,x) /\ keyIs k v=true) -> Vals (kvs.map fun q=>kV q.1) us:=by
 induction r with
 | nil =>
  intro us hl _
  have:us=[]:=List.length_eq_zero_iff.mp hl
  subst this
  exact .nil
 | cons h _ ih =>
  intro us hl hv
  cases us with
  | nil=>simp at hl
  | cons u us =>
   obtain ⟨k,x,e,hk⟩:=hv 0 u rfl
   simp only [jf,Option.some.injEq] at e
   rw [zR]
   refine .cons ?_ (ih us (by simpa using hl) fun j v hj=>by simpa using hv (j+1) v (by simpa using hj))
   rw [h.1,e]
   exact key_rel hk
theorem zB5 {X:Cx}(hc:X.calm=true):CallR X (.type "list") rListD:=by
 intro pins s σ H xs us Q I r h
 obtain ⟨p,kvs,rfl,hp,q⟩:=h
 obtain ⟨u,rfl,rx⟩:=vals1 r
 cases rx
 obtain ⟨z,hd,vs,rel,dd⟩:=dk_rd I.hok (.inl hp)
 obtain ⟨ep,hat⟩:=dd.dictAt
 have hl:kvs.length=vs.length:=by
  have:∀ {a:List (Key × V)} {b:List (Key × Value)},KV a b -> a.length=b.length:=by
   intro a b r
   induction r with
   | nil=>rfl
   | cons _ _ ih=>simp [ih]
  exact this rel
 refine PySem.W.kdl_call (PySem.W.kdl_dict (knd:=xY X.prog X.w) (kvs:=vs) (ep:=ep) hd) (I.ok.hd hc) hat (by omega) fun h' tk acc' c' kp e it=>?_
 have rv:Vals (kvs.map fun q=>kV q.1) acc'.toList:=keys_vals rel _ (by rw [Array.length_toList]; exact it.1) fun j v hj=>it.2 j v (by rw [← Array.getElem?_toList]; exact hj)
 exact ⟨.ref s.heap.objs.size,_,I.laid (t':=tk) kp (zE _) (show ObjOk X.prog X.w _ h' _ (.lst _) from ⟨by rw [qC]; exact z,acc'.toList,c',rv,by simpa using e⟩),rfl,q _ (I.hok.fresh (zE _))⟩
section
variable {σ:St}{H:Hp}{Q:VK}{D:Ends}
theorem w_aug {i:Nat}{te:TE}{ti:TIp}:tAug i te ti D σ H = ∃ x,σ[i]? = some (some x) /\ te σ H fun y H1=>ti x y H1 fun z H2=>D.nx (σ.set i (some z)) H2:=rfl
theorem w_ipI {f:Int -> Int -> Int}{i j:Int}:ipI f (.int i) (.int j) H Q=Q (.int (f i j)) H:=propext ⟨fun ⟨_,_,e1,e2,q⟩=>by cases e1; cases e2; exact q,fun q=>⟨i,j,rfl,rfl,q⟩⟩
theorem w_dnK:tDNewK σ H Q = ∀ p,H p=none -> Q (.ref p) (upd H p (.dK [])):=rfl
end
structure Dd where
 g:Int
 a:Nat
 s:Nat
 b:Nat
 t:Nat
def dnum (ns:List Int)(d:Dd):Int:=ns.getD d.a 0 * 2 ^ d.s+d.g * (ns.getD d.b 0 * 2 ^ d.t)
def ev (ds:List Dd):List Int:=ds.foldl (fun ns d=>ns ++ [dnum ns d]) [1]
theorem zAH (ds:List Dd)(d:Dd):ev (ds ++ [d])=ev ds ++ [dnum (ev ds) d]:=by unfold ev; rw [j2]; rfl
theorem yu {α:Type}{p:List α -> Prop}(h0:p [])(hs:∀ xs x,p xs -> p (xs ++ [x]))(xs:List α):p xs:=by
 have:p xs.reverse.reverse:=by
  generalize xs.reverse=ys
  induction ys with
  | nil=>exact h0
  | cons y r ih=>rw [List.reverse_cons]; exact hs _ _ ih
 rwa [List.reverse_reverse] at this
theorem JV (ds:List Dd):(ev ds).length=ds.length+1:=by
 refine yu (p:=fun ds=>(ev ds).length=ds.length+1) rfl (fun xs x h=>?_) ds
 rw [zAH,qF,qF,h]
 rfl
theorem zAZ (ds new:List Dd){k:Nat}{n:Int}(h:(ev ds)[k]? = some n):(ev (ds ++ new))[k]? = some n:=by
 refine yu (p:=fun new=>(ev (ds ++ new))[k]? = some n) (by rw [zp]; exact h) (fun xs x ih=>?_) new
 rw [← zr,zAH,qH (qB.mp ih).1]
 exact ih
structure DOk (ds:List Dd):Prop where
 at_:∀ (k:Nat) (d:Dd),ds[k]? = some d -> d.a <= k /\ d.b <= k /\ d.s <= 300 /\ d.t <= 300 /\ (d.g=1 \/ d.g = -1)
 big:∀ n ∈ ev ds,n.natAbs < 2 ^ 300
theorem DOk.snoc {ds:List Dd}{d:Dd}(h:DOk ds)(h1:d.a <= ds.length)(h1':d.b <= ds.length)(h2:d.s <= 300)(h2':d.t <= 300)(h3:d.g=1 \/ d.g = -1)(h4:(dnum (ev ds) d).natAbs < 2 ^ 300):DOk (ds ++ [d]):=by
 refine ⟨fun k e he=>?_,fun n hn=>?_⟩
 ·by_cases hk:k < ds.length
  ·rw [qH hk] at he
   exact h.at_ k e he
  ·rw [qG (by omega)] at he
   have hk0:k - ds.length=0:=by
    cases hz:k - ds.length with
    | zero=>rfl
    | succ j=>rw [hz] at he; simp at he
   rw [hk0] at he
   cases he
   exact ⟨by omega,by omega,h2,h2',h3⟩
 ·rw [zAH] at hn
  rcases yS.mp hn with z | z
  ·exact h.big n z
  ·rw [zT.mp z]; exact h4
theorem dok_nil:DOk []:=⟨fun k d h=>by simp at h,fun n hn=>by rw [zT.mp hn]; exact qJ (by decide:1 < 2 ^ 1) (qN (by decide) (by decide))⟩
def zA7 (g:Int):Str:=if g=1 then "sum" else "less"
def dTup (d:Dd):List V:=[.str (zA7 d.g),.int d.a,.int d.s,.int d.b,.int d.t]
def xh (a s:Nat)(g:Int)(b t:Nat)(h:Int):Dd:=if g=h then ⟨1,a,s,b,t⟩ else if g=1 then ⟨-1,a,s,b,t⟩ else ⟨-1,b,t,a,s⟩
def jD (g h:Int):Int:=if g=h then g else 1
structure HDs (H:Hp) (vs:List V) (ds:List Dd):Prop where
 len:vs.length=ds.length
 at_:∀ (k:Nat) (d:Dd),ds[k]? = some d -> ∃ x:Addr,vs[k]? = some (.ref x) /\ H x=some (.tup (dTup d))
theorem HDs.same {H H':Hp}{vs:List V}{ds:List Dd}(h:HDs H vs ds)(s:Same H H'):HDs H' vs ds:=⟨h.len,fun k d e=>by
 obtain ⟨x,e1,e2⟩:=h.at_ k d e
 exact ⟨x,e1,s _ _ e2⟩⟩
theorem HDs.chgL {H H':Hp}{vs us:List V}{ds:List Dd}{l:Addr}(h:HDs H vs ds)(hl:H l=some (.lst us))(c:Chg l H H'):HDs H' vs ds:=⟨h.len,fun k d e=>by
 obtain ⟨x,e1,e2⟩:=h.at_ k d e
 exact ⟨x,e1,c _ _ (xU e2 hl (by intro z; cases z)) e2⟩⟩
theorem HDs.chgD {H H':Hp}{vs:List V}{kvs:List (Key × V)}{ds:List Dd}{l:Addr}(h:HDs H vs ds)(hl:H l=some (.dK kvs))(c:Chg l H H'):HDs H' vs ds:=⟨h.len,fun k d e=>by
 obtain ⟨x,e1,e2⟩:=h.at_ k d e
 exact ⟨x,e1,c _ _ (xU e2 hl (by intro z; cases z)) e2⟩⟩
theorem HDs.snoc {H:Hp}{vs:List V}{ds:List Dd}{d:Dd}{x:Addr}(h:HDs H vs ds)(hx:H x=some (.tup (dTup d))):HDs H (vs ++ [.ref x]) (ds ++ [d]):=by
 refine ⟨by simp [h.len],fun k e he=>?_⟩
 by_cases hk:k < ds.length
 ·rw [qH hk] at he
  obtain ⟨y,e1,e2⟩:=h.at_ k e he
  exact ⟨y,by rw [qH (by rw [h.len]; exact hk)]; exact e1,e2⟩
 ·rw [qG (by omega)] at he
  have hk0:k - ds.length=0:=by
   cases hz:k - ds.length with
   | zero=>rfl
   | succ j=>rw [hz] at he; simp at he
  rw [hk0] at he
  cases he
  refine ⟨x,?_,hx⟩
  rw [qG (by rw [h.len]; omega),h.len,hk0]
  rfl
theorem hds_nil {H:Hp}:HDs H [] []:=⟨rfl,fun k d h=>by simp at h⟩
theorem naf_top:∀ n:Int,0 < n -> (naf n).getLast? = some 1:=zBL (fun h=>by omega) fun n h ih hn=>by
 have hm:=m_nonneg hn
 rw [jC h]
 by_cases z:(n - fs n) / 2=0
 ·rw [z,Jv]
  rcases fs_cases n with ⟨e,e2⟩ | ⟨e,e2⟩ | ⟨e,e2⟩
  ·rw [e] at z; omega
  ·rw [e]; rfl
  ·rw [e] at z; omega
 ·rw [List.getLast?_cons,ih (by omega)]
  rfl
def topV (n:Int)(i:Nat):Int:=val ((naf n).reverse.take (i+1)).reverse
theorem naf_rev {n:Int}(h:0 < n):(naf n).reverse=1 :: (naf n).dropLast.reverse:=by
 have ht:=naf_top n h
 have hne:=naf_ne (n:=n) (by omega)
 have e:=List.dropLast_concat_getLast hne
 have:(naf n).getLast hne=1:=by
  rw [List.getLast?_eq_some_getLast hne] at ht
  exact Option.some.inj ht
 rw [this] at e
 conv=>lhs; rw [← e]
 rw [List.reverse_append]
 rfl
theorem topV_zero {n:Int}(h:0 < n):topV n 0=1:=by
 unfold topV
 rw [naf_rev h]
 rfl
theorem topV_step {n:Int}(h:0 < n){i:Nat}{d:Int}(hd:(naf n).dropLast.reverse[i]? = some d):topV n (i+1)=2 * topV n i+d:=by
 unfold topV
 exact val_rev (by rw [naf_rev h]; exact hd)
theorem topV_bound (n:Int)(i:Nat):(topV n i).natAbs < 2 ^ (i+1):=by
 unfold topV
 refine qJ (val_bound _ fun d hd=>?_) (qN (by decide) (by rw [xn,qO]; omega))
 exact naf_dig n d (JS.mp (List.mem_of_mem_take (JS.mp hd)))
theorem topV_end {n:Int}(h:0 < n):topV n (naf n).dropLast.length=n:=by
 unfold topV
 have hne:=naf_ne (n:=n) (by omega)
 have hl:(naf n).length=(naf n).dropLast.length+1:=by
  rw [List.length_dropLast]
  have:=xo.mpr hne
  omega
 rw [xF (by rw [xn]; omega),List.reverse_reverse,val_naf]
theorem wt_app (a b:List Int):wt (a ++ b)=wt a+wt b:=by unfold wt; rw [List.filter_append,qF]
theorem wt_rev (a:List Int):wt a.reverse=wt a:=by unfold wt; rw [List.filter_reverse,xn]
theorem wt_take_step {ds:List Int}{i:Nat}{d:Int}(h:ds[i]? = some d):wt (ds.take (i+1))=wt (ds.take i)+(if d=0 then 0 else 1):=by
 rw [za,h,wt_app]
 congr 1
 by_cases hd:d=0
 ·subst hd; rfl
 ·rw [if_neg hd]
  show wt [d]=1
  rw [zAF,if_neg hd]
  rfl
theorem wt_drop {n:Int}(h:0 < n):wt (naf n).dropLast.reverse+1=wn n:=by
 have:wn n=wt (naf n).reverse:=(wt_rev _).symm
 rw [this,naf_rev h,zAF,if_neg (by decide)]
 omega
theorem deed_chain {made gap:Nat}{g:Int}(hg:g=1 \/ g = -1):xh made gap 1 0 0 g=⟨g,made,gap,0,0⟩:=by
 unfold xh
 rcases hg with e | e <;> subst e <;> rfl
theorem chain_step {ds:List Dd}{made gap:Nat}{T:Int}{d n:Int}(h0:(ev ds)[0]? = some 1)(hm:(ev ds)[made]? = some n)(hT:n * 2 ^ gap=T):dnum (ev ds) ⟨d,made,gap+1,0,0⟩=2 * T+d:=by
 show (ev ds).getD made 0 * 2 ^ (gap+1)+d * ((ev ds).getD 0 0 * 2 ^ 0)=_
 rw [qD,qD,hm,h0,Option.getD_some,Option.getD_some,← hT,yo,← zW,yF (n * 2 ^ gap) 2,yt,yj,yj]
theorem chain_end {n k:Int}{gap:Nat}(h:n * 2 ^ gap=k)(ho:k % 2=1):gap=0 /\ n=k:=by
 cases gap with
 | zero=>exact ⟨rfl,by rw [← h,yt,yj]⟩
 | succ g =>
  rw [yo,← zW] at h
  omega
def coreN (n:Int):Int:=(zAO n).headD 0
def shN (n:Int):Int:=(zAO n).getD 1 0
def sgN (n:Int):Int:=(zAO n).getD 2 0
theorem core_three (n:Int):zAO n=[coreN n,shN n,sgN n]:=by
 by_cases h:n=0
 ·subst h; rfl
 ·obtain ⟨m,k,e1,e2⟩:=zBi h
  unfold coreN shN sgN
  rw [e2]
  rfl
theorem xA {n:Int}(h:n ≠ 0):0 < coreN n /\ coreN n % 2=1 /\ ∃ k:Nat,shN n=k /\ coreN n * 2 ^ k * sgN n=n /\ (sgN n=1 \/ sgN n = -1) /\ (coreN n).natAbs <= n.natAbs /\ 2 ^ k <= n.natAbs /\ wn (coreN n)=wn n:=by
 obtain ⟨m,k,e1,e2⟩:=zBi h
 have ec:coreN n=2 * (m:Int)+1:=by unfold coreN; rw [e2]; rfl
 have es:shN n=k:=by unfold shN; rw [e2]; rfl
 have eg:sgN n=if 0 < n then 1 else -1:=by unfold sgN; rw [e2]; rfl
 have en:coreN n * 2 ^ k * sgN n=n:=by
  rw [ec,eg,← e1]
  unfold absI
  split <;> split <;> omega
 have p:=xf k
 have ea:absI n=((n.natAbs:Nat):Int):=by unfold absI; split <;> omega
 have e3:((n.natAbs:Nat):Int)=(2 * (m:Int)+1) * 2 ^ k:=by rw [← ea,e1]
 have e4:n.natAbs=(2 * m+1) * 2 ^ k:=by
  have:((n.natAbs:Nat):Int)=(((2 * m+1) * 2 ^ k:Nat):Int):=by rw [e3,Int.natCast_mul,jI]; rfl
  exact Int.ofNat.inj this
 refine ⟨by omega,by omega,k,es,en,by rw [eg]; split <;> simp,?_,?_,?_⟩
 ·rw [ec,e4]
  have:(2 * (m:Int)+1).natAbs=2 * m+1:=by omega
  rw [this]
  exact Nat.le_mul_of_pos_right _ (Nat.two_pow_pos k)
 ·rw [e4]
  exact Nat.le_mul_of_pos_left _ (by omega)
 ·have hk:∀ (k:Nat) (c:Int),wn (c * 2 ^ k)=wn c:=by
   intro k
   induction k with
   | zero=>intro c; rw [yt,yj]
   | succ k ih=>intro c; rw [yo,← zW,yF _ 2,wn_dbl,ih]
  rcases (show sgN n=1 \/ sgN n = -1 by rw [eg]; split <;> simp) with e | e
  ·rw [e,yj] at en
   rw [← hk k,en]
  ·rw [e,Int.mul_neg,yj] at en
   rw [← hk k,← wn_neg,en]
def ucs (us:List Int)(n:Int):List Int:=if n=0 then us else if coreN n ∈ us then us else us ++ [coreN n]
def uc (xs:List Int):List Int:=xs.foldl ucs []
theorem ucs_sub {us:List Int}{n c:Int}(h:c ∈ us):c ∈ ucs us n:=by
 unfold ucs
 split
 ·exact h
 ·split
  ·exact h
  ·exact xW _ h
theorem ucs_has {us:List Int}{n:Int}(h:n ≠ 0):coreN n ∈ ucs us n:=by
 unfold ucs
 rw [if_neg h]
 by_cases hc:coreN n ∈ us
 ·rw [if_pos hc]; exact hc
 ·rw [if_neg hc]; exact qK _ zb
theorem zBM (xs:List Int)(n:Int):uc (xs ++ [n])=ucs (uc xs) n:=by unfold uc; rw [j2]; rfl
theorem uc_has (xs:List Int):∀ n ∈ xs,n ≠ 0 -> coreN n ∈ uc xs:=by
 refine yu (p:=fun xs=>∀ n ∈ xs,n ≠ 0 -> coreN n ∈ uc xs) (by simp) (fun xs x ih n hn h0=>?_) xs
 rw [zBM]
 rcases yS.mp hn with z | z
 ·exact ucs_sub (ih n z h0)
 ·rw [zT.mp z]
  rw [zT.mp z] at h0
  exact ucs_has h0
theorem uc_of (xs:List Int):∀ c ∈ uc xs,∃ n ∈ xs,n ≠ 0 /\ c=coreN n:=by
 refine yu (p:=fun xs=>∀ c ∈ uc xs,∃ n ∈ xs,n ≠ 0 /\ c=coreN n) (by intro c h; cases h) (fun xs x ih c hc=>?_) xs
 rw [zBM] at hc
 have old:c ∈ uc xs -> ∃ n ∈ xs ++ [x],n ≠ 0 /\ c=coreN n:=fun h=>by
  obtain ⟨n,hn,r⟩:=ih c h
  exact ⟨n,xW _ hn,r⟩
 unfold ucs at hc
 by_cases h0:x=0
 ·rw [if_pos h0] at hc; exact old hc
 ·rw [if_neg h0] at hc
  by_cases hm:coreN x ∈ uc xs
  ·rw [if_pos hm] at hc; exact old hc
  ·rw [if_neg hm] at hc
   rcases yS.mp hc with z | z
   ·exact old z
   ·exact ⟨x,qK _ zb,h0,zT.mp z⟩
theorem uc_len (xs:List Int):(uc xs).length <= xs.length:=by
 refine yu (p:=fun xs=>(uc xs).length <= xs.length) (zE _) (fun xs x ih=>?_) xs
 rw [zBM,qF]
 unfold ucs
 split
 ·simp; omega
 ·split
  ·simp; omega
  ·simp; omega
theorem uc_nodup (xs:List Int):(uc xs).Nodup:=by
 refine yu (p:=fun xs=>(uc xs).Nodup) List.nodup_nil (fun xs x ih=>?_) xs
 rw [zBM]
 unfold ucs
 split
 ·exact ih
 ·split
  ·exact ih
  ·rename_i h
   rw [List.nodup_append]
   exact ⟨ih,by simp,fun a ha b hb e=>h (by rw [← zT.mp hb,← e]; exact ha)⟩
def Jf (us:List Int):Nat:=(us.map fun c=>wn c - 1).sum
def ukv (us:List Int):List (Key × V):=us.map fun c=>(Sum.inl c,V.bl true)
theorem ukv_val:∀ (us:List Int) (c:Int),valV (ukv us) (.inl c)=if c ∈ us then some (.bl true) else none
 | [],c=>by simp [ukv,valV_nil]
 | u :: r,c=>by
  show valV ((Sum.inl u,V.bl true) :: ukv r) (.inl c)=_
  by_cases h:u=c
  ·subst h
   rw [xG rfl,if_pos zb]
  ·rw [xH (fun z=>h (Sum.inl.inj z)),ukv_val r c]
   by_cases hm:c ∈ r
   ·rw [if_pos hm,if_pos (ze _ hm)]
   ·rw [if_neg hm,if_neg (by intro z; rcases zV.mp z with e | e; exact h e.symm; exact hm e)]
theorem ukv_put (us:List Int)(c:Int):putK (ukv us) (.inl c) (.bl true)=ukv (if c ∈ us then us else us ++ [c]):=by
 by_cases h:c ∈ us
 ·rw [if_pos h]
  unfold putK
  rw [jz,ukv_val,if_pos h,if_pos (show (some (V.bl true)).isSome=true from rfl)]
  unfold ukv
  rw [yb]
  refine yi fun x _=>?_
  show (if (Sum.inl x:Key)=Sum.inl c then ((Sum.inl x:Key),V.bl true) else (Sum.inl x,V.bl true))=_
  split <;> rfl
 ·rw [if_neg h,putK_new _ (by rw [ukv_val,if_neg h])]
  unfold ukv
  rw [yC]
  rfl
theorem ukv_keys (us:List Int):(ukv us).map (fun q=>kV q.1)=us.map V.int:=by
 unfold ukv
 rw [yb]
 rfl
theorem cut_last {ns:List Int}:cutV (ns.map V.int) none (some (-1))=ns.dropLast.map V.int:=by
 unfold cutV
 rw [HT.sIx_none,List.drop_zero,Nat.sub_zero,List.dropLast_eq_take,List.map_take]
 congr 1
 show ((-1:Int)+((ns.map V.int).length:Int)).toNat=_
 rw [qC]
 omega
def spCoreT:Sp:=fun vs H Q _=>∃ n:Int,vs=[.int n] /\ ∀ p,H p=none -> Q (.ref p) (upd H p (.tup [.int (coreN n),.int (shN n),.int (sgN n)]))
def spUC:Sp:=fun vs H Q _=>∃ (a:Addr) (xs:List Int),vs=[.ref a] /\ H a=some (.lst (xs.map V.int)) /\ xs.length <= 1000 /\ ∀ l H',H l=none -> Same H H' -> H' l=some (.lst ((uc xs).map V.int)) -> Q (.ref l) H'
def spDeedOf:Sp:=fun vs H Q _=>∃ (x y:Addr) (a b t:Nat) (u:Nat) (g h:Int),vs=[.ref x,.ref y] /\ H x=some (.tup [.int a,.int u,.int g]) /\ H y=some (.tup [.int b,.int t,.int h]) /\ (g=1 \/ g = -1) /\ (h=1 \/ h = -1) /\
 ∀ r,H r=none -> Q (.ref r) (upd H r (.tup (dTup (xh a u g b t h))))
def spChain:Sp:=fun vs H Q _=>∃ (dl:Addr) (us:List V) (ds:List Dd) (odd:Int),vs=[.ref dl,.int odd] /\ H dl=some (.lst us) /\ HDs H us ds /\ DOk ds /\ ds.length <= 3000 /\ 0 < odd /\ odd % 2=1 /\ odd.natAbs < 2 ^ 200 /\
 ∀ (made:Nat) (us':List V) (new:List Dd) H',Chg dl H H' -> H' dl=some (.lst us') -> HDs H' us' (ds ++ new) -> DOk (ds ++ new) -> new.length+1=wn odd -> (ev (ds ++ new))[made]? = some odd -> Q (.int made) H'
def CT0 (K:zA)(t:Addr):Prop:=∃ (o:Obj) (its:Array Value) (n:Nat),K.lookup t=some o /\ o.cls = .type "tuple" /\ o.data = .seq its n /\ its.size <= sizeLine /\ Vals [.int 0,.int 0,.int 0] its.toList
theorem CT0.sq {K:zA}{t:Addr}(h:CT0 K t)(H:Hp):SqT K H t [.int 0,.int 0,.int 0]:=.inr h
structure OutOk (ns:List Int) (n:Int) (a b c:Int):Prop where
 ok:(n=0 /\ a=0 /\ b=0 /\ c=0) \/ (n ≠ 0 /\ ∃ (k j:Nat) (m:Int),a=k /\ b=j /\ j <= 300 /\ (c=1 \/ c = -1) /\ ns[k]? = some m /\ m * 2 ^ j * c=n)
structure HOs (K:zA) (H:Hp) (os:List V) (ns xs:List Int):Prop where
 len:os.length=xs.length
 at_:∀ (k:Nat) (n:Int),xs[k]? = some n -> ∃ (x:Addr) (a b c:Int),os[k]? = some (.ref x) /\ SqT K H x [.int a,.int b,.int c] /\ OutOk ns n a b c
theorem HOs.same {K:zA}{H H':Hp}{os:List V}{ns xs:List Int}(h:HOs K H os ns xs)(s:Same H H'):HOs K H' os ns xs:=⟨h.len,fun k n e=>by
 obtain ⟨x,a,b,c,e1,e2,e3⟩:=h.at_ k n e
 exact ⟨x,a,b,c,e1,s.seqT e2,e3⟩⟩
theorem HOs.snoc {K:zA}{H:Hp}{os:List V}{ns xs:List Int}{n a b c:Int}{x:Addr}(h:HOs K H os ns xs)(hx:SqT K H x [.int a,.int b,.int c])(ho:OutOk ns n a b c):HOs K H (os ++ [.ref x]) ns (xs ++ [n]):=by
 refine ⟨by simp [h.len],fun k e he=>?_⟩
 by_cases hk:k < xs.length
 ·rw [qH hk] at he
  obtain ⟨y,a',b',c',e1,e2⟩:=h.at_ k e he
  exact ⟨y,a',b',c',by rw [qH (by rw [h.len]; exact hk)]; exact e1,e2⟩
 ·rw [qG (by omega)] at he
  have hk0:k - xs.length=0:=by
   cases hz:k - xs.length with
   | zero=>rfl
   | succ j=>rw [hz] at he; simp at he
  rw [hk0] at he
  cases he
  refine ⟨x,a,b,c,?_,hx,ho⟩
  rw [qG (by rw [h.len]; omega),h.len,hk0]
  rfl
theorem SqT.updL {K:zA}{H:Hp}{x l:Addr}{xs us vs:List V}(h:SqT K H x xs)(hl:H l=some (.lst us)):SqT K (upd H l (.lst vs)) x xs:=by
 rcases h with (h | ⟨o,h⟩) | h
 ·exact .inl (.inl (by rw [yH (xU h hl (by intro z; cases z))]; exact h))
 ·exact .inl (.inr ⟨o,by rw [yH (xU h hl (by intro z; cases z))]; exact h⟩)
 ·exact .inr h
theorem HOs.updL {K:zA}{H:Hp}{os us vs:List V}{ns xs:List Int}{l:Addr}(h:HOs K H os ns xs)(hl:H l=some (.lst us)):HOs K (upd H l (.lst vs)) os ns xs:=⟨h.len,fun k n e=>by
 obtain ⟨x,a,b,c,e1,e2,e3⟩:=h.at_ k n e
 exact ⟨x,a,b,c,e1,e2.updL hl,e3⟩⟩
theorem zB6 {us:List Int}{i:Nat}{c:Int}(h:us[i]? = some c):Jf (us.take (i+1))=Jf (us.take i)+(wn c - 1):=by
 unfold Jf
 rw [za,h,yC,List.sum_append]
 show _+(List.map _ [c]).sum=_
 rw [zR,jn,xq,List.sum_nil,xP]
theorem zB7 {us:List Int}{i:Nat}{c:Int}(hn:us.Nodup)(h:us[i]? = some c):c ∉ us.take i:=by
 intro hm
 obtain ⟨j,hj,e⟩:=List.getElem_of_mem hm
 rw [qO] at hj
 rw [List.getElem_take] at e
 obtain ⟨hi,e2⟩:=qB.mp h
 have:=(List.nodup_iff_pairwise_ne.mp hn)
 have h3:=List.pairwise_iff_getElem.mp this j i (by omega) hi (by omega)
 exact h3 (e.trans e2.symm)
structure Row (K:zA) (H:Hp) (t dl ol:Addr) (ds:List Dd) (xs:List Int):Prop where
 tup:H t=some (.tup [.int 1,.ref dl,.ref ol])
 dls:∃ us,H dl=some (.lst us) /\ HDs H us ds
 ols:∃ os,H ol=some (.lst os) /\ HOs K H os (ev ds) xs
 ok:DOk ds
 ap:ol ≠ dl
def spBy (K:zA):Sp:=fun vs H Q _=>∃ (a:Addr) (xs:List Int),vs=[.ref a] /\ H a=some (.lst (xs.map V.int)) /\ xs.length <= 6 /\ (∀ x ∈ xs,x.natAbs < 2 ^ 200) /\
 ∀ (t dl ol:Addr) (ds:List Dd) H',Same H H' -> H t=none -> H dl=none -> H ol=none -> Row K H' t dl ol ds xs -> ds.length=Jf (uc xs) -> Q (.ref t) H'
theorem costS_le {us:List Int}(h:∀ c ∈ us,c.natAbs < 2 ^ 200):Jf us <= 200 * us.length:=by
 induction us with
 | nil=>exact zE 0
 | cons c r ih =>
  have h1:=ih fun x hx=>h x (ze _ hx)
  have h2:=wn_bound (h c zb)
  unfold Jf at h1 ⊢
  rw [zR,xq,zq]
  omega
section
variable {X:Cx}
end
section
variable {K:zA}{H:Hp}{Q:VK}
theorem w_ixT {p:Addr}{i:Int}:rIxT K (.ref p) (.int i) H Q = ∃ xs,SqT K H p xs /\ ∃ v,atI xs i=some v /\ Q v H :=
 propext ⟨fun ⟨p',xs,i',v,e1,e2,h,a,q⟩=>by cases e1; cases e2; exact ⟨xs,h,v,a,q⟩,fun ⟨xs,h,v,a,q⟩=>⟨p,xs,i,v,rfl,rfl,h,a,q⟩⟩
theorem w_eqS {x y:Str}:rEq (.str x) (.str y) H Q=Q (.bl (decide (x=y))) H :=
 propext (by
  have e:decide (V.str x=V.str y)=decide (x=y):=by by_cases h:x=y <;> simp [h]
  unfold rEq
  rw [e]
  exact ⟨fun h=>h.2,fun h=>⟨rfl,h⟩⟩)
end
end L2
namespace L2
open PySem PySem.Spec PyProof.Rows
theorem Inv.turnedL {X:Cx}{pins:List (Addr × Obj)}{σ:St}{H:Hp}{s:Shared}{h':Heap}{t':Nat}(ch:List Addr)(I:Inv X pins σ H s)(k:∀ b o,b ∉ ch -> s.heap.get? b=some o -> h'.get? b=some o)(hf:∀ b ∈ ch,FpOk X pins H b):Inv X pins σ H { s with heap:=h',toks:=t' }:=by
 have nit:∀ b u,H b=some u -> b ∉ ch:=fun b u e z=>by rw [(hf b z).1] at e; cases e
 refine I.step (g':=s.gens) (d':=s.drawn) (ch:=ch) (fun b hb=>?_) (fun b o _ _ hc e _=>k b o hc e) (fun b o _ _ hc e _=>⟨o.slots,k b o hc e⟩) (fun _ _ _ _ n=>n)
  (fun b o hc e=>⟨o,k b o hc e⟩) (fun _ _ e=>e) (fun _ _ _ e=>e) (fun b ps e=>⟨#[],by rw [e]; simp⟩) (fun m hm=>?_) (fun b u e=>?_) I.bare
 ·obtain ⟨f0,f1,f2,f3,f4,f5⟩:=hf b hb
  exact ⟨f3,f1,f4,f5⟩
 ·obtain ⟨o,es,ep,ho,r⟩:=hm
  exact ⟨o,es,ep,k _ o (fun z=>(hf _ z).2.1 rfl) ho,r⟩
 ·refine (I.hok b u e).stay (fun c v hc q=>k c v ?_ q) (fun _ q=>q) fun _ _ q=>q
  rcases hc with z | z
  ·rw [z]; exact nit b u e
  ·exact nit c _ z
theorem zBx {h:Heap}{b:Addr}{o o':Obj}(n:b ≠ h.objs.size)(e:(h.push o').get? b=some o):h.get? b=some o:=by
 rw [Heap.get?_push_ne h b o' n] at e
 exact e
def Itz (K : zA)(a b : Addr) : It :=
  ⟨fun i H => ∃ xs ys, SqL K H a xs ∧ SqL K H b ys ∧ i < xs.length ∧ i < ys.length,
   fun i H x H' => ∃ T u v, x = .ref T ∧ H T = none ∧ H' = upd H T (.tup [u, v]) ∧ (∀ xs, SqL K H a xs → xs[i]? = some u) ∧ (∀ ys, SqL K H b ys → ys[i]? = some v),
   fun i H => ∃ xs ys, SqL K H a xs ∧ SqL K H b ys ∧ (xs.length ≤ i ∨ ys.length ≤ i)⟩
def tnZ (z TI TO i1 i2 a b:Addr)(i:Nat)(h:Heap):Prop:=IsZip h z TI TO .none /\ IsPair h TI (.ref i1) (.ref i2) /\ (∃ x y,IsPair h TO x y) /\ h.IsListIter i1 a i /\ h.IsListIter i2 b i
theorem turn_zip {P:Program}{w:World}{K:zA}{elts:List Expr}{x1:Nat}{pos:Pos}{z TI TO i1 i2 a b:Addr}(D:ZipApart z TI TO i1 i2 a b):Turn P w K (.Tuple elts x1 pos) (Itz K a b) [z,TI,TO,i1,i2] z (tnZ z TI TO i1 i2 a b) where
 mem:=by simp
 obj:=fun i h st c hc=>by
  obtain ⟨t1,t2,⟨x0,y0,t3⟩,⟨o4,e4,c4,d4⟩,⟨o5,e5,c5,d5⟩⟩:=st
  simp only [zV,yQ,or_false] at hc
  rcases hc with e | e | e | e | e <;> subst e
  ·exact ⟨_,t1,fun v q=>by cases q⟩
  ·exact ⟨_,t2,fun v q=>by cases q⟩
  ·exact ⟨_,t3,fun v q=>by cases q⟩
  ·exact ⟨o4,e4,fun v q=>by rw [d4] at q; cases q⟩
  ·exact ⟨o5,e5,fun v q=>by rw [d5] at q; cases q⟩
 keep:=fun i h h' st k=>by
  obtain ⟨t1,t2,⟨x0,y0,t3⟩,t4,t5⟩:=st
  exact ⟨k z (by simp) _ t1,k TI (by simp) _ t2,⟨x0,y0,k TO (by simp) _ t3⟩,t4.at fun o e=>k i1 (by simp) o e,t5.at fun o e=>k i2 (by simp) o e⟩
 item:=by
  intro X hP hw hK hc i pins s σ H E I hf st hg
  subst hP hw hK
  obtain ⟨xs,ys,hq,hq2,hi,hi2⟩:=hg
  obtain ⟨its,rv,p,hz⟩:=I.list hq
  obtain ⟨its2,rv2,p2,hz2⟩:=I.list hq2
  obtain ⟨u,hu,ru⟩:=rv.get (qA hi)
  obtain ⟨v,hv,rv'⟩:=rv2.get (qA hi2)
  obtain ⟨t1,t2,⟨x0,y0,t3⟩,t4,t5⟩:=st
  have hl1:z < s.heap.objs.size:=Heap.lt_size t1
  have hl3:TO < s.heap.objs.size:=Heap.lt_size t3
  have hl2:TI < s.heap.objs.size:=Heap.lt_size t2
  have hl4:i1 < s.heap.objs.size:=by obtain ⟨o,e,_⟩:=t4; exact Heap.lt_size e
  have hl5:i2 < s.heap.objs.size:=by obtain ⟨o,e,_⟩:=t5; exact Heap.lt_size e
  refine wpAny_pyNext_zip_item D t1 t2 t3 t4 t5 p.isList p2.isList (x:=u) (y:=v) (by simpa using hu) (by simpa using hv) fun h' a1 a2 a3 a4 a5 a6 a7=>⟨_,rfl,?_⟩
  refine wpAny_letOwnedTupleGo_zip a1 fun h2 b1 b2=>?_
  have hT0:H s.heap.objs.size=none:=I.hok.fresh (zE _)
  have I1:Inv X pins σ (upd H s.heap.objs.size (.tup [xs[i],ys[i]])) { s with heap:=s.heap.push { cls:=.type "tuple",data:=.seq [u,v].toArray } } :=
   I.laid (t':=s.toks) (fun b o e=>Heap.get?_push_of_some _ e) (zE _) (show ObjOk X.prog X.w _ _ _ (.tup [xs[i],ys[i]]) from ⟨yG (by show 2 <= 1000; decide),[u,v],.cons ru (.cons rv' .nil),IsTup.new _ _⟩)
  have fpk:∀ c ∈ [z,TI,TO,i1,i2],c ≠ s.heap.objs.size:=fun c hc=>by
   simp only [zV,yQ,or_false] at hc
   rcases hc with e | e | e | e | e <;> subst e <;> exact zg (by assumption)
  have fp2:∀ c ∈ [z,TI,TO,i1,i2],FpOk X pins (upd H s.heap.objs.size (.tup [xs[i],ys[i]])) c:=fun c hc=>by
   obtain ⟨f0,f⟩:=hf c hc
   exact ⟨by rw [yH (fpk c hc)]; exact f0,f⟩
  have I2:Inv X pins σ (upd H s.heap.objs.size (.tup [xs[i],ys[i]])) { s with heap:=h2 }:=by
   refine Inv.turnedL (s:={ s with heap:=s.heap.push { cls:=.type "tuple",data:=.seq [u,v].toArray } }) (t':=s.toks) (h':=h2) [z,TO,i1,i2] I1 (fun b o hb e=>?_) (fun c hc=>fp2 c (by simp only [zV,yQ,or_false] at hc ⊢; rcases hc with e | e | e | e <;> simp [e]))
   simp only [zV,yQ,or_false,not_or] at hb
   obtain ⟨n1,n2,n3,n4⟩:=hb
   refine (b2.2 b n1).trans ?_
   by_cases hT:b=s.heap.objs.size
   ·subst hT
    rw [Heap.get?_push_size _ rfl] at e
    rw [← e]
    exact a5
   ·exact a7 b o n1 n2 n3 n4 (zBx hT e)
  have t4':h2.IsListIter i1 a (i+1):=a3.at fun o e=>(b2.2 _ D.i1z).trans e
  have t5':h2.IsListIter i2 b (i+1):=a4.at fun o e=>(b2.2 _ D.i2z).trans e
  refine ⟨.ref s.heap.objs.size,_,I2,rfl,⟨_,xs[i],ys[i],rfl,hT0,rfl,fun zs h=>?_,fun zs h=>?_⟩,⟨b1,(b2.2 _ D.TIz).trans (a7 TI _ D.TIz D.TITO D.TIi1 D.TIi2 t2),⟨_,_,(b2.2 _ D.TOz).trans a2⟩,t4',t5'⟩,fun c hc=>(fp2 c hc).1⟩
  ·rw [I.list_inj h hq]; exact qA hi
  ·rw [I.list_inj h hq2]; exact qA hi2
 done:=by
  intro X hP hw hK hc i pins s σ H E I hf st hg
  subst hP hw hK
  obtain ⟨xs,ys,hq,hq2,hend⟩:=hg
  obtain ⟨its,rv,p,hz⟩:=I.list hq
  obtain ⟨its2,rv2,p2,hz2⟩:=I.list hq2
  obtain ⟨t1,t2,⟨x0,y0,t3⟩,t4,t5⟩:=st
  refine wpAny_pyNext_zip_end (I.ok.hd hc) D t1 t2 t3 t4 t5 p.isList p2.isList ?_ fun h' a7=>⟨rfl,?_⟩
  ·rcases hend with e | e
   ·left; simp [← rv.length,e]
   ·right; simp [← rv2.length,e]
  ·refine Inv.turnedL (t':=s.toks) (h':=h') [z,TO,i1,i2] I (fun b o hb e=>?_) (fun c hc=>hf c (by simp only [zV,yQ,or_false] at hc ⊢; rcases hc with e | e | e | e <;> simp [e]))
   simp only [zV,yQ,or_false,not_or] at hb
   obtain ⟨n1,n2,n3,n4⟩:=hb
   exact a7 b o n1 n2 n3 n4 e
 self:=fun _ _ _ _ _ st h=>wpAny_pyIter_zip st.1 h
def iZip (K:zA)(ta:TA):TI:=fun σ H R=>ta σ H fun vs H1=>∃ a b xs ys,vs=[.ref a,.ref b] /\ SqL K H1 a xs /\ SqL K H1 b ys /\ R (Itz K a b) H1
theorem pi_zip {X:Cx} {elts:List Expr} {x1:Nat} {tpos:Pos} {a b:Expr} {ta:TA} {p pos:Pos} (hg:Gl X "zip") (hm:X.mg "zip" = none) (ha:PA X [a,b] ta) (hs:starEach [a,b] X.env=(false,eval a X.env) :: starEach [b] X.env:=by rfl) (hpl:(backTo pos (starEach [b] X.env)).any (·.1)=false:=by rfl) :
  PI X (.Tuple elts x1 tpos) (.Call (.Name "zip" p) [a,b] [] pos) (iZip X.K ta):=by
 intro pins s σ H R I h
 refine Call_ (JT I hg hm bo_zip (PyProof.Rows.callWith_type1 (thn (ha pos pins s σ H _ I h) fun us s1 ⟨vs,H1,I1,r1,q1⟩=>?_) hs hpl))
 obtain ⟨l1,l2,xs,ys,e,hq,hq2,q⟩:=q1
 subst e
 obtain ⟨u1,u2,rfl,ru1,ru2⟩:=vals2 r1
 cases (show u1=Value.ref l1 from ru1)
 cases (show u2=Value.ref l2 from ru2)
 obtain ⟨its,rv,pl,hz⟩:=I1.list hq
 obtain ⟨its2,rv2,pl2,hz2⟩:=I1.list hq2
 have lt1:l1 < s1.heap.objs.size:=by obtain ⟨o,e,_⟩:=pl.isList; exact Heap.lt_size e
 have lt2:l2 < s1.heap.objs.size:=by obtain ⟨o,e,_⟩:=pl2.isList; exact Heap.lt_size e
 refine call_zip_2 pl.isList pl2.isList fun h' z1 z2 z3 z4 z5 z6 z7=>?_
 have I2:Inv X pins σ H1 { s1 with heap:=h' }:=I1.kept (t':=s1.toks) z7
 refine wpAny_pyIter_zip z1 ?_
 have D:ZipApart (s1.heap.objs.size+4) (s1.heap.objs.size+2) (s1.heap.objs.size+3) s1.heap.objs.size (s1.heap.objs.size+1) l1 l2:=by
  have q1:@LT.lt Nat _ l1 s1.heap.objs.size:=lt1
  have q2:@LT.lt Nat _ l2 s1.heap.objs.size:=lt2
  constructor <;> (show ¬ @Eq Nat _ _; omega)
 refine ⟨s1.heap.objs.size+4,_,_,_,H1,rfl,I2,turn_zip D,⟨z1,z2,⟨_,_,z3⟩,z4,z5⟩,fun c hc=>?_,q⟩
 have hle:s1.heap.objs.size <= c:=by
  simp only [zV,yQ,or_false] at hc
  show (s1.heap.objs.size:Nat) <= c
  rcases hc with e | e | e | e | e <;> subst e <;> (show @LE.le Nat _ _ _; omega)
 exact I1.fpOk hle (I1.hok.fresh hle)
end L2
namespace L2
open PySem PySem.Spec PyProof.Rows
theorem bo_enumerate:bootBuiltins "enumerate" = some (.type "enumerate"):=by decide +kernel
def Ite (K : zA)(a : Addr) : It :=
  ⟨fun i H => ∃ xs, SqL K H a xs ∧ i < xs.length,
   fun i H x H' => ∃ T u, x = .ref T ∧ H T = none ∧ H' = upd H T (.tup [.int (i : Int), u]) ∧ (∀ xs, SqL K H a xs → xs[i]? = some u),
   fun i H => ∃ xs, SqL K H a xs ∧ xs.length ≤ i⟩
theorem turn_enum {P:Program}{w:World}{K:zA}{elts:List Expr}{x1:Nat}{pos:Pos}{e it a:Addr}(hne:e ≠ it):Turn P w K (.Tuple elts x1 pos) (Ite K a) [e,it] e (fun i h=>(∃ old,IsEnum h e it (i:Int) old) /\ h.IsListIter it a i) where
 mem:=by simp
 obj:=fun i h st c hc=>by
  obtain ⟨⟨old,t1⟩,⟨o2,e2,c2,d2⟩⟩:=st
  simp only [zV,yQ,or_false] at hc
  rcases hc with z | z <;> subst z
  ·exact ⟨_,t1,fun v q=>by cases q⟩
  ·exact ⟨o2,e2,fun v q=>by rw [d2] at q; cases q⟩
 keep:=fun i h h' st k=>by
  obtain ⟨⟨old,t1⟩,t2⟩:=st
  exact ⟨⟨old,k e (by simp) _ t1⟩,t2.at fun o z=>k it (by simp) o z⟩
 item:=by
  intro X hP hw hK hc i pins s σ H E I hf st hg
  subst hP hw hK
  obtain ⟨xs,hq,hi⟩:=hg
  obtain ⟨its,rv,p,hz⟩:=I.list hq
  obtain ⟨u,hu,ru⟩:=rv.get (qA hi)
  obtain ⟨⟨old,t1⟩,t2⟩:=st
  have hl1:e < s.heap.objs.size:=Heap.lt_size t1
  have hl2:it < s.heap.objs.size:=by obtain ⟨o,z,_⟩:=t2; exact Heap.lt_size z
  refine wpAny_pyNext_enum_item t1 t2 p.isList (x:=u) (by simpa using hu) hne fun h' a1 a2 a3 a4 a5=>⟨_,rfl,?_⟩
  refine wpAny_letOwnedTupleGo_enum (s:={ s with heap:=h',toks:=s.toks+1 }) a1 fun h2 b1 b2=>?_
  have hT0:H s.heap.objs.size=none:=I.hok.fresh (zE _)
  have I1:Inv X pins σ (upd H s.heap.objs.size (.tup [.int (i:Int),xs[i]])) { s with heap:=s.heap.push { cls:=.type "tuple",data:=.seq [Value.int (i:Int) s.toks,u].toArray } } :=
   I.laid (t':=s.toks) (fun b o z=>Heap.get?_push_of_some _ z) (zE _) (show ObjOk X.prog X.w _ _ _ (.tup [.int (i:Int),xs[i]]) from ⟨yG (by show 2 <= 1000; decide),[Value.int (i:Int) s.toks,u],.cons ⟨_,rfl⟩ (.cons ru .nil),IsTup.new _ _⟩)
  have fpk:∀ c ∈ [e,it],c ≠ s.heap.objs.size:=fun c hc=>by
   simp only [zV,yQ,or_false] at hc
   rcases hc with z | z <;> subst z <;> exact zg (by assumption)
  have fp2:∀ c ∈ [e,it],FpOk X pins (upd H s.heap.objs.size (.tup [.int (i:Int),xs[i]])) c:=fun c hc=>by
   obtain ⟨f0,f⟩:=hf c hc
   exact ⟨by rw [yH (fpk c hc)]; exact f0,f⟩
  have I2:Inv X pins σ (upd H s.heap.objs.size (.tup [.int (i:Int),xs[i]])) { s with heap:=h2,toks:=s.toks+1 }:=by
   refine Inv.turnedL (s:={ s with heap:=s.heap.push { cls:=.type "tuple",data:=.seq [Value.int (i:Int) s.toks,u].toArray } }) (t':=s.toks+1) (h':=h2) [e,it] I1 (fun b o hb z=>?_) fp2
   simp only [zV,yQ,or_false,not_or] at hb
   obtain ⟨n1,n2⟩:=hb
   refine (b2.2 b n1).trans ?_
   by_cases hT:b=s.heap.objs.size
   ·subst hT
    rw [Heap.get?_push_size _ rfl] at z
    rw [← z]
    exact a3
   ·exact a5 b o n1 n2 (zBx hT z)
  have e1:((i:Int)+1)=((i+1:Nat):Int):=by omega
  rw [e1] at b1
  refine ⟨.ref s.heap.objs.size,_,I2,rfl,⟨_,xs[i],rfl,hT0,rfl,fun zs h=>?_⟩,⟨⟨_,b1⟩,a2.at fun o z=>(b2.2 _ hne.symm).trans z⟩,fun c hc=>(fp2 c hc).1⟩
  rw [I.list_inj h hq]; exact qA hi
 done:=by
  intro X hP hw hK hc i pins s σ H E I hf st hg
  subst hP hw hK
  obtain ⟨xs,hq,hend⟩:=hg
  obtain ⟨its,rv,p,hz⟩:=I.list hq
  obtain ⟨⟨old,t1⟩,t2⟩:=st
  refine wpAny_pyNext_enum_end (I.ok.hd hc) t1 t2 p.isList (by simp [← rv.length,hend]) fun h' a7=>⟨rfl,?_⟩
  refine Inv.turnedL (t':=s.toks) (h':=h') [it] I (fun b o hb z=>a7 b o (by simpa using hb) z) (fun c hc=>hf c (by simp only [zV,yQ,or_false] at hc ⊢; exact .inr hc))
 self:=fun _ i s _ _ st h=>by
  obtain ⟨⟨old,t1⟩,t2⟩:=st
  exact wpAny_pyIter_enum t1 h
def iEnum (K:zA)(ta:TA):TI:=fun σ H R=>ta σ H fun vs H1=>∃ a xs,vs=[.ref a] /\ SqL K H1 a xs /\ R (Ite K a) H1
theorem zAi {X:Cx} {elts:List Expr} {x1:Nat} {tpos:Pos} {a:Expr} {ta:TA} {p pos:Pos} (hg:Gl X "enumerate") (hm:X.mg "enumerate" = none) (ha:PA X [a] ta) (hs:starEach [a] X.env=[(false,eval a X.env)]:=by rfl) :
  PI X (.Tuple elts x1 tpos) (.Call (.Name "enumerate" p) [a] [] pos) (iEnum X.K ta):=by
 intro pins s σ H R I h
 refine Call_ (JT I hg hm bo_enumerate (PyProof.Rows.callWith_type1 (thn (ha pos pins s σ H _ I h) fun us s1 ⟨vs,H1,I1,r1,q1⟩=>?_) hs rfl))
 obtain ⟨l1,xs,e,hq,q⟩:=q1
 subst e
 obtain ⟨u1,rfl,ru1⟩:=vals1 r1
 cases (show u1=Value.ref l1 from ru1)
 obtain ⟨its,rv,pl,hz⟩:=I1.list hq
 refine call_enumerate_list pl.isList fun h' z1 z2 z3 z4=>?_
 have I2:Inv X pins σ H1 { s1 with heap:=h' }:=I1.kept (t':=s1.toks) z4
 refine wpAny_pyIter_enum z1 ?_
 refine ⟨s1.heap.objs.size+1,_,_,_,H1,rfl,I2,turn_enum (by show ¬ @Eq Nat _ _; omega),⟨⟨_,z1⟩,z2⟩,fun c hc=>?_,q⟩
 have hle:s1.heap.objs.size <= c:=by
  simp only [zV,yQ,or_false] at hc
  rcases hc with z | z <;> subst z <;> (show @LE.le Nat _ _ _; omega)
 exact I1.fpOk hle (I1.hok.fresh hle)
section
variable {K:zA}{σ:St}{H:Hp}{Q:VK}
theorem jO {J:It}{nt:Nat}{cs:List Nat}{g:TG}{tt:TT}{te:TE}(n:Nat)(Pv:Addr -> Nat -> List V -> Hp -> Prop)(hz:n <= sizeLine)
  (hgo:∀ acc i ys H',i < n -> Pv acc i ys H' -> J.go i H') (hst:∀ acc ys H',Pv acc n ys H' -> J.stop n H')
  (h0:∀ acc,H acc=none -> Pv acc 0 [] (upd H acc (.lst []))) (hacc:∀ acc i ys H',Pv acc i ys H' -> H' acc=some (.lst ys) /\ ys.length <= i)
  (hs:∀ acc i ys H' (ts:St) x H2 (N:List V -> St -> Hp -> Prop),H acc=none -> i < n -> Pv acc i ys H' -> J.yld i H' x H2 -> ts.length=nt -> (∀ zs (ts':St) H3,ts'.length=nt -> Pv acc (i+1) zs H3 -> N zs (ts' ++ yZ cs σ) H3) ->
   g x (ts ++ yZ cs σ) H2 fun σ3 H3=>tt σ3 H3 fun b H4=>if b=true then te σ3 H4 fun y H5=>H5 acc=some (.lst ys) /\ N (ys ++ [y]) σ3 (upd H5 acc (.lst (ys ++ [y]))) else N ys σ3 H4)
  (hd:∀ acc ys H',H acc=none -> Pv acc n ys H' -> Q (.ref acc) H'):y9 J nt cs g tt te σ H Q:=by
 intro acc hn
 refine ⟨fun i m ys σ' H'=>m=n - i /\ i <= n /\ (∃ ts:St,ts.length=nt /\ σ'=ts ++ yZ cs σ) /\ Pv acc i ys H',⟨_,rfl,yM _,⟨qQ nt none,qL,rfl⟩,h0 acc hn⟩,?_⟩
 rintro i m ys σ' H' ⟨rfl,hi,⟨ts,hts,rfl⟩,p⟩
 obtain ⟨ha,hl⟩:=hacc acc i ys H' p
 refine ⟨ha,?_⟩
 by_cases hlt:i < n
 ·refine .inr ⟨hgo acc i ys H' hlt p,by omega,fun zs σ2 H2=>(∃ ts:St,ts.length=nt /\ σ2=ts ++ yZ cs σ) /\ Pv acc (i+1) zs H2,fun zs σ2 H2 ⟨q1,q2⟩=>⟨n - (i+1),by omega,rfl,hlt,q1,q2⟩,fun x H2 y=>?_⟩
  exact hs acc i ys H' ts x H2 (fun zs σ2 H2=>(∃ ts:St,ts.length=nt /\ σ2=ts ++ yZ cs σ) /\ Pv acc (i+1) zs H2) hn hlt p y hts fun zs ts' H3 h1 h2=>⟨⟨ts',h1,rfl⟩,h2⟩
 ·have e:i=n:=by omega
  subst e
  exact .inl ⟨hst acc ys H' p,hd acc ys H' hn p⟩
theorem w_compE {ta:TA}{nt:Nat}{cs:List Nat}{g:TG}{tt:TT}{te:TE}:zAV (iEnum K ta) nt cs g tt te σ H Q=(ta σ H fun vs H1=>∃ a xs,vs=[.ref a] /\ SqL K H1 a xs /\ y9 (Ite K a) nt cs g tt te σ H1 Q):=rfl
theorem w_compZ {ta:TA}{nt:Nat}{cs:List Nat}{g:TG}{tt:TT}{te:TE}:zAV (iZip K ta) nt cs g tt te σ H Q=(ta σ H fun vs H1=>∃ a b xs ys,vs=[.ref a,.ref b] /\ SqL K H1 a xs /\ SqL K H1 b ys /\ y9 (Itz K a b) nt cs g tt te σ H1 Q):=rfl
end
def Itr3 (lo c:Int)(n:Nat):It:=⟨fun i _=>i < n,fun i H x H'=>H'=H /\ x = .int (lo+i * c),fun i _=>n <= i⟩
theorem turn_range3 {P:Program}{w:World}{K:zA}{tg:Expr}(it:Addr)(lo c:Int)(n:Nat):Turn P w K tg (Itr3 lo c n) [it] it (fun i h=>IsRangeIter h it (lo+(i:Nat) * c) ((n:Int) - (i:Nat)) c) where
 mem:=by simp
 obj:=fun i h st b hb=>by
  have e:b=it:=by simpa using hb
  subst e
  exact ⟨_,st,fun v z=>by
   have z':Data.fields _=Data.cell v:=z
   cases z'⟩
 keep:=fun i h h' st k=>k it (by simp) _ st
 item:=by
  intro X hP hw hK hc i pins s σ H E I hf st hg
  subst hP hw hK
  obtain ⟨f0,f1,f2,f3,f4,f5⟩:=hf it (by simp)
  have W:=Walks.range (prog:=X.prog) (w:=X.w) (I.ok.hd hc) it lo c n
  refine W.item i s _ _ hg st fun v h' tk hv st' kk=>?_
  obtain ⟨t,rfl⟩:=hv
  have I1:Inv X pins σ H { s with heap:=h',toks:=tk }:=I.turned (fun b o hb e=>kk b o (by simpa using hb) e) f0 f1 f3 f4 f5
  exact ⟨_,rfl,go_of (s:={ s with heap:=h',toks:=tk }) (n:="range_iterator") st' rfl rfl (by decide) ⟨.int (lo+i * c),H,I1,⟨t,rfl⟩,⟨rfl,rfl⟩,st',fun b hb=>(hf b hb).1⟩⟩
 done:=by
  intro X hP hw hK hc i pins s σ H E I hf st hg
  subst hP hw hK
  obtain ⟨f0,f1,f2,f3,f4,f5⟩:=hf it (by simp)
  exact wpAny_pyNext_range_end (I.ok.hd hc) st (by have:n <= i:=hg; omega) fun h' eb=>⟨rfl,I.turned (t':=s.toks) (fun b o hb e=>eb b o hb e) f0 f1 f3 f4 f5⟩
 self:=fun _ _ _ _ _ st h=>wpAny_pyIter_rangeiter st h
def stepN (lo hi c:Int):Nat:=(Builtin.Range.rangeSize lo hi c).toNat
def iRng3 (ta:TA):TI:=fun σ H R=>ta σ H fun vs H1=>∃ i j c:Int,vs=[.int i,.int j,.int c] /\ (0 <= i /\ i < 2 ^ 31 /\ -1 <= j /\ j < 2 ^ 31 /\ c=2) /\ R (Itr3 i c (stepN i j c)) H1
theorem small_two {a b:Int}(h:0 <= a /\ a < 2 ^ 31 /\ -1 <= b /\ b < 2 ^ 31):Builtin.Range.small a b 2=true:=by
 unfold Builtin.Range.small
 simp only [Builtin.Range.rangeSize,Builtin.Range.rangeFitsLong,zX,Jp,decide_eq_true_eq,beq_iff_eq,show (2:Int) > 0 by decide,if_true]
 split <;> omega
theorem stepN_two {a b:Int}:((stepN a b 2:Nat):Int)=Builtin.Range.rangeSize a b 2:=by
 unfold stepN
 have:0 <= Builtin.Range.rangeSize a b 2:=by
  unfold Builtin.Range.rangeSize
  rw [if_pos (by decide)]
  split <;> omega
 omega
theorem stepN_val {n:Nat}:stepN 0 ((n:Int) - 1) 2=n / 2:=by
 unfold stepN Builtin.Range.rangeSize
 rw [if_pos (by decide)]
 split <;> omega
theorem pi_range3 {X:Cx} {tg:Expr} {a b c:Expr} {ta:TA} {p pos:Pos} (hg:Gl X "range") (hm:X.mg "range" = none) (ha:PA X [a,b,c] ta) (hs:starEach [a,b,c] X.env=(false,eval a X.env) :: starEach [b,c] X.env:=by rfl) (hpl:(backTo pos (starEach [b,c] X.env)).any (·.1)=false:=by rfl) :
  PI X tg (.Call (.Name "range" p) [a,b,c] [] pos) (iRng3 ta):=by
 intro pins s σ H R I h
 refine Call_ (JT I hg hm boot_range (PyProof.Rows.callWith_type1 (thn (ha pos pins s σ H _ I h) fun us s1 ⟨vs,H1,I1,r1,q1⟩=>?_) hs hpl))
 obtain ⟨i,j,c,e,⟨q1,q2,q3,q4,rfl⟩,q⟩:=q1
 subst e
 cases r1 with
 | cons r rr =>
  cases rr with
  | cons r' rr =>
   cases rr with
   | cons r3 rr =>
    cases rr
    obtain ⟨t,rfl⟩:=r
    obtain ⟨t',rfl⟩:=r'
    obtain ⟨t3,rfl⟩:=r3
    refine call_range_3 (by decide) ?_ (Or.inl (PyProof.noPylong_of_log2 (by decide +kernel)))
    refine wpAny_pyIter_range (IsRange.new ..) (small_two ⟨q1,q2,q3,q4⟩) ?_
    have I2:Inv X pins σ H1 { s1 with heap:=s1.heap.push { cls:=.type "range",data:=.fields #[.int i t,.int j t',.int 2 t3] },toks:=s1.toks }:=I1.kept fun b o e=>Heap.get?_push_of_some _ e
    refine ⟨(s1.heap.push { cls:=.type "range",data:=.fields #[.int i t,.int j t',.int 2 t3] }).objs.size,[(s1.heap.push { cls:=.type "range",data:=.fields #[.int i t,.int j t',.int 2 t3] }).objs.size],_,_,H1,rfl,I2.kept (t':=s1.toks) fun b o e=>Heap.get?_push_of_some _ e,turn_range3 _ i 2 (stepN i j 2),?_,fun b hb=>?_,q⟩
    ·have e1:i+((0:Nat):Int) * 2=i:=by omega
     have e2:((stepN i j 2:Nat):Int) - ((0:Nat):Int)=Builtin.Range.rangeSize i j 2:=by rw [stepN_two]; omega
     show IsRangeIter _ _ (i+((0:Nat):Int) * 2) (((stepN i j 2:Nat):Int) - ((0:Nat):Int)) 2
     rw [e1,e2]
     exact Heap.get?_push_size _ rfl
    ·have e:b=(s1.heap.push { cls:=.type "range",data:=.fields #[.int i t,.int j t',.int 2 t3] }).objs.size:=by simpa using hb
     subst e
     exact I2.fpOk (zE _) (I2.hok.fresh (zE _))
def ForR3 (lo c:Int)(n:Nat)(g:TG)(tb:TS)(D:Ends)(σ:St)(H:Hp):Prop:=∃ W:Nat -> Nat -> St -> Hp -> Prop,(∃ m,W 0 m σ H) /\ ∀ i m σ H,W i m σ H ->
 ((Itr3 lo c n).stop i H /\ D.nx σ H) \/ ((Itr3 lo c n).go i H /\ ∃ N:St -> Hp -> Prop,(∀ σ' H',N σ' H' -> ∃ m',m' < m /\ W (i+1) m' σ' H') /\ ∀ x H',(Itr3 lo c n).yld i H x H' -> g x σ H' fun σ2 H2=>tb { D with nx:=N,ct:=N,bk:=D.nx } σ2 H2)
section
variable {σ:St}{H:Hp}{D:Ends}{g:TG}{tb:TS}{lo c:Int}{n:Nat}
theorem w_for3 {ta:TA}:tFor (iRng3 ta) g tb D σ H=(ta σ H fun vs H1=>∃ i j c:Int,vs=[.int i,.int j,.int c] /\ (0 <= i /\ i < 2 ^ 31 /\ -1 <= j /\ j < 2 ^ 31 /\ c=2) /\ ForR3 i c (stepN i j c) g tb D σ H1):=rfl
theorem forR3 (Pv:Nat -> St -> Hp -> Prop)(h0:Pv 0 σ H)(hs:∀ i σ H (N:St -> Hp -> Prop),i < n -> Pv i σ H -> (∀ σ' H',Pv (i+1) σ' H' -> N σ' H') -> g (.int (lo+i * c)) σ H fun σ2 H2=>tb { D with nx:=N,ct:=N,bk:=D.nx } σ2 H2)
  (hd:∀ σ H,Pv n σ H -> D.nx σ H):ForR3 lo c n g tb D σ H:=by
 refine ⟨fun i m σ H=>m=n - i /\ i <= n /\ Pv i σ H,⟨n,by simp,yM _,h0⟩,?_⟩
 rintro i m σ H ⟨rfl,hi,p⟩
 by_cases hlt:i < n
 ·refine .inr ⟨hlt,Pv (i+1),fun σ' H' p'=>⟨n - (i+1),by omega,rfl,hlt,p'⟩,fun x H' y=>?_⟩
  obtain ⟨e,rfl⟩:=y
  subst e
  exact hs i σ _ (Pv (i+1)) hlt p fun _ _ z=>z
 ·have e:i=n:=by omega
  subst e
  exact .inl ⟨zE _,hd σ H p⟩
end
end L2
namespace L2
open PySem PySem.Spec
structure Pt where
 th:Nat
 sh:Nat
 g:Int
def pval (ns:List Int)(p:Pt):Int:=p.g * (ns.getD p.th 0 * 2 ^ p.sh)
def pvs (ns:List Int)(ps:List Pt):Int:=(ps.map (pval ns)).sum
theorem zAj (ns:List Int)(a b:List Pt):pvs ns (a ++ b)=pvs ns a+pvs ns b:=by unfold pvs; rw [yC,List.sum_append]
theorem zAI (ns:List Int)(p:Pt):pvs ns [p]=pval ns p:=by unfold pvs; rw [zR,jn,xq,List.sum_nil,Int.add_zero]
def dpt (ds:List Dd):List Nat:=ds.foldl (fun ps d=>ps ++ [1+max (ps.getD d.a 0) (ps.getD d.b 0)]) [0]
theorem zBN (ds:List Dd)(d:Dd):dpt (ds ++ [d])=dpt ds ++ [1+max ((dpt ds).getD d.a 0) ((dpt ds).getD d.b 0)]:=by unfold dpt; rw [j2]; rfl
theorem dpt_len (ds:List Dd):(dpt ds).length=ds.length+1:=by
 refine yu (p:=fun ds=>(dpt ds).length=ds.length+1) rfl (fun xs x h=>?_) ds
 rw [zBN,qF,qF,h]
 rfl
theorem zBO (ds new:List Dd){k:Nat}{n:Nat}(h:(dpt ds)[k]? = some n):(dpt (ds ++ new))[k]? = some n:=by
 refine yu (p:=fun new=>(dpt (ds ++ new))[k]? = some n) (by rw [zp]; exact h) (fun xs x ih=>?_) new
 rw [← zr,zBN,qH (qB.mp ih).1]
 exact ih
theorem deed_val {ns:List Int}{a s b t:Nat}{g h:Int}(hg:g=1 \/ g = -1)(hh:h=1 \/ h = -1):jD g h * dnum ns (xh a s g b t h)=g * (ns.getD a 0 * 2 ^ s)+h * (ns.getD b 0 * 2 ^ t):=by
 rcases hg with e | e <;> rcases hh with e2 | e2 <;> subst e <;> subst e2
 ·show 1 * (ns.getD a 0 * 2 ^ s+1 * (ns.getD b 0 * 2 ^ t))=_
  omega
 ·show 1 * (ns.getD a 0 * 2 ^ s + -1 * (ns.getD b 0 * 2 ^ t))=_
  omega
 ·show 1 * (ns.getD b 0 * 2 ^ t + -1 * (ns.getD a 0 * 2 ^ s))=_
  omega
 ·show -1 * (ns.getD a 0 * 2 ^ s+1 * (ns.getD b 0 * 2 ^ t))=_
  omega
theorem signOf_pm {g h:Int}(hg:g=1 \/ g = -1):jD g h=1 \/ jD g h = -1:=by
 unfold jD
 split
 ·exact hg
 ·exact .inl rfl
theorem signOf_one {g:Int}(hg:g=1 \/ g = -1):jD g 1=1:=by rcases hg with e | e <;> subst e <;> rfl
theorem deed_parts (a s b t:Nat)(g h:Int):(xh a s g b t h).g=1 \/ (xh a s g b t h).g = -1:=by
 unfold xh
 split
 ·exact .inl rfl
 ·split <;> exact .inr rfl
theorem deed_ab (a s b t:Nat)(g h:Int):((xh a s g b t h).a=a /\ (xh a s g b t h).b=b /\ (xh a s g b t h).s=s /\ (xh a s g b t h).t=t) \/ ((xh a s g b t h).a=b /\ (xh a s g b t h).b=a /\ (xh a s g b t h).s=t /\ (xh a s g b t h).t=s):=by
 unfold xh
 split
 ·exact .inl ⟨rfl,rfl,rfl,rfl⟩
 ·split
  ·exact .inl ⟨rfl,rfl,rfl,rfl⟩
  ·exact .inr ⟨rfl,rfl,rfl,rfl⟩
def PtOk (ds:List Dd)(j:Nat)(p:Pt):Prop:=(p.g=1 \/ p.g = -1) /\ p.sh <= 200 /\ ∃ (n:Int) (e:Nat),(ev ds)[p.th]? = some n /\ (dpt ds)[p.th]? = some e /\ e <= j /\ n.natAbs * 2 ^ p.sh <= 2 ^ (201+j)
theorem PtOk.pre {ds new:List Dd}{j k:Nat}{p:Pt}(h:PtOk ds j p)(hk:j <= k):PtOk (ds ++ new) k p:=by
 obtain ⟨h1,h2,n,e,h3,h4,h5,h6⟩:=h
 exact ⟨h1,h2,n,e,zAZ ds new h3,zBO ds new h4,by omega,zZ h6 (qN (by decide) (by omega))⟩
theorem zBP {ds new:List Dd}{j:Nat}{p:Pt}(h:PtOk ds j p):pval (ev (ds ++ new)) p=pval (ev ds) p:=by
 obtain ⟨h1,h2,n,e,h3,h4,h5,h6⟩:=h
 unfold pval
 rw [qD,qD,h3,zAZ ds new h3]
theorem pvs_pre {ds new:List Dd}{j:Nat}:∀ {ps:List Pt},(∀ p ∈ ps,PtOk ds j p) -> pvs (ev (ds ++ new)) ps=pvs (ev ds) ps
 | [],_=>rfl
 | p :: r,h=>by
  have e1:=zBP (new:=new) (h p zb)
  have e2:=pvs_pre (new:=new) (ps:=r) fun q hq=>h q (ze _ hq)
  show (pval _ p :: _).sum=(pval _ p :: _).sum
  unfold pvs at e2
  rw [xq,xq,e1]
  exact congrArg _ e2
structure PsOk (ds:List Dd) (j:Nat) (ps:List Pt):Prop where
 all:∀ p ∈ ps,PtOk ds j p
 up:∀ i p q,ps[i]? = some p -> ps[i+1]? = some q -> p.sh <= q.sh
 fst:∀ p,ps[0]? = some p -> (dpt ds)[p.th]? = some j
 lst:∀ p,ps.getLast? = some p -> p.g=1
structure PrI (ds:List Dd) (j:Nat) (ps:List Pt) (k:Nat) (new:List Dd) (qs:List Pt):Prop where
 ok:DOk (ds ++ new)
 nl:new.length=k
 ql:qs.length=k
 val:pvs (ev (ds ++ new)) qs=pvs (ev ds) (ps.take (2 * k))
 all:∀ q ∈ qs,PtOk (ds ++ new) (j+1) q
 shs:∀ (i:Nat) (q:Pt),qs[i]? = some q -> ∃ p,ps[2 * i]? = some p /\ q.sh=p.sh
 fst:∀ q,qs[0]? = some q -> (dpt (ds ++ new))[q.th]? = some (j+1)
 lst:∀ (i:Nat) (q p:Pt),qs[i]? = some q -> ps[2 * i+1]? = some p -> p.g=1 -> q.g=1
theorem pri_zero {ds:List Dd}{j:Nat}{ps:List Pt}(h:DOk ds):PrI ds j ps 0 [] []:=by
 refine ⟨by rw [zp]; exact h,rfl,rfl,rfl,by simp,fun i q h=>by simp at h,fun q h=>by simp at h,fun i q p h=>by simp at h⟩
theorem get_snoc {α:Type}{xs:List α}{x y:α}{i:Nat}(h:(xs ++ [x])[i]? = some y):(i < xs.length /\ xs[i]? = some y) \/ (i=xs.length /\ y=x):=by
 by_cases hi:i < xs.length
 ·rw [qH hi] at h
  exact .inl ⟨hi,h⟩
 ·rw [qG (by omega)] at h
  have hz:i - xs.length=0:=by
   cases hk:i - xs.length with
   | zero=>rfl
   | succ m=>rw [hk] at h; simp at h
  rw [hz] at h
  cases h
  exact .inr ⟨by omega,rfl⟩
theorem abs_le_of {a b:Int}{m n:Nat}{g h:Int}(hg:g=1 \/ g = -1)(hh:h=1 \/ h = -1)(ha:a.natAbs <= m)(hb:b.natAbs <= n):(g * a+h * b).natAbs <= m+n:=by
 rcases hg with e | e <;> rcases hh with e2 | e2 <;> subst e <;> subst e2 <;> omega
theorem pri_step {ds:List Dd}{j k:Nat}{ps:List Pt}{new:List Dd}{qs:List Pt}{p q:Pt}(hp:PsOk ds j ps)(hj:j <= 20)(I:PrI ds j ps k new qs)(h1:ps[2 * k]? = some p)(h2:ps[2 * k+1]? = some q) :
  PrI ds j ps (k+1) (new ++ [xh p.th 0 p.g q.th (q.sh - p.sh) q.g]) (qs ++ [⟨(ds ++ new).length+1,p.sh,jD p.g q.g⟩]):=by
 have hpo:=hp.all p (qE h1)
 have hqo:=hp.all q (qE h2)
 have hup:=hp.up _ p q h1 h2
 obtain ⟨pg,ps2,n,e,pn,pe,pj,pb⟩:=hpo.pre (new:=new) (zE _)
 obtain ⟨qg,qs2,n',e',qn,qe,qj,qb⟩:=hqo.pre (new:=new) (zE _)
 have pl:p.th < (ds ++ new).length+1:=by
  have:=(qB.mp pn).1
  rwa [JV] at this
 have ql:q.th < (ds ++ new).length+1:=by
  have:=(qB.mp qn).1
  rwa [JV] at this
 generalize hd:xh p.th 0 p.g q.th (q.sh - p.sh) q.g=d
 have dv:=deed_val (ns:=ev (ds ++ new)) (a:=p.th) (s:=0) (b:=q.th) (t:=q.sh - p.sh) pg qg
 rw [hd] at dv
 have gp:(ev (ds ++ new)).getD p.th 0=n:=by rw [qD,pn]; rfl
 have gq:(ev (ds ++ new)).getD q.th 0=n':=by rw [qD,qn]; rfl
 rw [gp,gq,yt,yj] at dv
 have hpow:(2:Int) ^ (q.sh - p.sh) * 2 ^ p.sh=2 ^ q.sh:=by rw [← jm,Nat.sub_add_cancel hup]
 have hpn:(2:Nat) ^ (q.sh - p.sh) * 2 ^ p.sh=2 ^ q.sh:=by rw [← Nat.pow_add,Nat.sub_add_cancel hup]
 have sg:=signOf_pm (h:=q.g) pg
 have val2:jD p.g q.g * (dnum (ev (ds ++ new)) d * 2 ^ p.sh)=p.g * (n * 2 ^ p.sh)+q.g * (n' * 2 ^ q.sh):=by
  rw [← zW,dv,Int.add_mul,← hpow,zW,zW,zW]
 have hbd:(dnum (ev (ds ++ new)) d).natAbs * 2 ^ p.sh <= 2 ^ (201+(j+1)):=by
  have e1:(jD p.g q.g * (dnum (ev (ds ++ new)) d * 2 ^ p.sh)).natAbs=(dnum (ev (ds ++ new)) d).natAbs * 2 ^ p.sh:=by
   rw [xX,xX,JA]
   rcases sg with z | z <;> rw [z] <;> simp
  rw [← e1,val2]
  have h3:=abs_le_of (a:=n * 2 ^ p.sh) (b:=n' * 2 ^ q.sh) (m:=2 ^ (201+j)) (n:=2 ^ (201+j)) pg qg (by rw [xX,JA]; exact pb) (by rw [xX,JA]; exact qb)
  have h4:(2:Nat) ^ (201+(j+1))=2 ^ (201+j)+2 ^ (201+j):=by rw [← Nat.add_assoc,Nat.pow_succ]; omega
  rw [h4]
  exact h3
 have hbig:(dnum (ev (ds ++ new)) d).natAbs < 2 ^ 300:=by
  have h5:(dnum (ev (ds ++ new)) d).natAbs <= 2 ^ (201+(j+1)):=zZ (Nat.le_mul_of_pos_right _ (Nat.two_pow_pos _)) hbd
  exact yB h5 (yO (by decide) (by omega))
 have dab:=deed_ab p.th 0 q.th (q.sh - p.sh) p.g q.g
 have dgg:=deed_parts p.th 0 q.th (q.sh - p.sh) p.g q.g
 rw [hd] at dab dgg
 have dok:DOk ((ds ++ new) ++ [d]):=I.ok.snoc (by rcases dab with z | z <;> omega) (by rcases dab with z | z <;> omega) (by rcases dab with z | z <;> omega) (by rcases dab with z | z <;> omega) dgg hbig
 have evn:(ev ((ds ++ new) ++ [d]))[(ds ++ new).length+1]? = some (dnum (ev (ds ++ new)) d):=by
  rw [zAH,qG (by rw [JV]; exact zE _),JV,ya]
  rfl
 have dep:(dpt (ds ++ new)).getD p.th 0=e:=by rw [qD,pe]; rfl
 have deq:(dpt (ds ++ new)).getD q.th 0=e':=by rw [qD,qe]; rfl
 have dpn:(dpt ((ds ++ new) ++ [d]))[(ds ++ new).length+1]? = some (1+max e e'):=by
  rw [zBN,qG (by rw [dpt_len]; exact zE _),dpt_len,ya]
  rcases dab with ⟨z1,z2,_⟩ | ⟨z1,z2,_⟩
  ·rw [z1,z2,dep,deq]; rfl
  ·rw [z1,z2,dep,deq,Nat.max_comm]; rfl
 have hev0:(ev (ds ++ new ++ [d])).getD ((ds ++ new).length+1) 0=dnum (ev (ds ++ new)) d:=by rw [qD,evn]; rfl
 have new_ok:PtOk (ds ++ new ++ [d]) (j+1) ⟨(ds ++ new).length+1,p.sh,jD p.g q.g⟩:=⟨sg,ps2,_,_,evn,dpn,by omega,hbd⟩
 refine ⟨by rw [← zr]; exact dok,by simp [I.nl],by simp [I.ql],?_,?_,?_,?_,?_⟩
 ·have e3:ps.take (2 * (k+1))=ps.take (2 * k) ++ [p,q]:=by
   rw [show 2 * (k+1)=2 * k+1+1 by omega,za,za,h1,h2]
   simp
  rw [← zr,e3,zAj,zAj,← I.val,zAI,pvs_pre I.all]
  have e4:pvs (ev ds) [p,q]=pval (ev ds) p+pval (ev ds) q:=by
   rw [show [p,q]=[p] ++ [q] from rfl,zAj,zAI,zAI]
  rw [e4,← zBP (new:=new) hpo,← zBP (new:=new) hqo]
  congr 1
  unfold pval
  show jD p.g q.g * ((ev (ds ++ new ++ [d])).getD ((ds ++ new).length+1) 0 * 2 ^ p.sh)=_
  rw [hev0,val2,gp,gq]
 ·intro r hr
  rw [← zr]
  rcases yS.mp hr with z | z
  ·exact (I.all r z).pre (zE _)
  ·rw [zT.mp z]
   exact new_ok
 ·intro i r hr
  rcases get_snoc hr with ⟨_,z⟩ | ⟨z,rfl⟩
  ·exact I.shs i r z
  ·rw [z,I.ql]
   exact ⟨p,h1,rfl⟩
 ·intro r hr
  rw [← zr]
  rcases get_snoc hr with ⟨_,z⟩ | ⟨z,rfl⟩
  ·exact zBO _ _ (I.fst r z)
  ·have hk0:k=0:=by rw [← I.ql]; exact z.symm
   subst hk0
   have e5:=hp.fst p h1
   have e6:=zBO ds new e5
   rw [e6] at pe
   cases pe
   rw [dpn]
   congr 1
   omega
 ·intro i r s hr hs hs1
  rcases get_snoc hr with ⟨_,z⟩ | ⟨z,rfl⟩
  ·exact I.lst i r s z hs hs1
  ·rw [z,I.ql,h2] at hs
   cases hs
   rw [hs1]
   exact signOf_one pg
theorem pri_end {ds:List Dd}{j:Nat}{ps:List Pt}{new:List Dd}{qs:List Pt}(hp:PsOk ds j ps)(h2:2 <= ps.length)(I:PrI ds j ps (ps.length / 2) new qs) :
  (ps.length % 2=0 -> PsOk (ds ++ new) (j+1) qs /\ pvs (ev (ds ++ new)) qs=pvs (ev ds) ps) /\ (∀ p,ps.length % 2=1 -> ps.getLast? = some p -> PsOk (ds ++ new) (j+1) (qs ++ [p]) /\ pvs (ev (ds ++ new)) (qs ++ [p])=pvs (ev ds) ps):=by
 have up2:∀ i a b,ps[2 * i]? = some a -> ps[2 * (i+1)]? = some b -> a.sh <= b.sh:=fun i a b ha hb=>by
  have hl:=(qB.mp hb).1
  have hm:ps[2 * i+1]? = some ps[2 * i+1]:=qA (by omega)
  have u1:=hp.up _ _ _ ha hm
  have u2:=hp.up (2 * i+1) _ _ hm (by rw [show 2 * i+1+1=2 * (i+1) by omega]; exact hb)
  omega
 have upq:∀ i a b,qs[i]? = some a -> qs[i+1]? = some b -> a.sh <= b.sh:=fun i a b ha hb=>by
  obtain ⟨p1,e1,e2⟩:=I.shs i a ha
  obtain ⟨p2,e3,e4⟩:=I.shs (i+1) b hb
  rw [e2,e4]
  exact up2 i p1 p2 e1 e3
 constructor
 ·intro hev
  refine ⟨⟨I.all,upq,I.fst,fun p hl=>?_⟩,?_⟩
  ·rw [JZ] at hl
   have hl2:ps[2 * (qs.length - 1)+1]? = ps.getLast?:=by
    rw [JZ,I.ql]
    congr 1
    omega
   cases hz:ps.getLast? with
   | none=>rw [List.getLast?_eq_none_iff] at hz; rw [hz] at h2; simp at h2
   | some z=>exact I.lst _ p z hl (hl2.trans hz) (hp.lst z hz)
  ·rw [I.val,xF (by omega)]
 ·intro p hodd hlast
  have hpm:=List.mem_of_getLast? hlast
  have hlast2:=hlast
  rw [JZ] at hlast2
  refine ⟨⟨?_,?_,?_,?_⟩,?_⟩
  ·intro r hr
   rcases yS.mp hr with z | z
   ·exact I.all r z
   ·rw [zT.mp z]
    exact (hp.all p hpm).pre (by omega)
  ·intro i a b ha hb
   rcases get_snoc hb with ⟨hi,z⟩ | ⟨hi,rfl⟩
   ·rcases get_snoc ha with ⟨_,z2⟩ | ⟨hi2,_⟩
    ·exact upq i a b z2 z
    ·omega
   ·rcases get_snoc ha with ⟨_,z2⟩ | ⟨hi2,_⟩
    ·obtain ⟨p1,e1,e2⟩:=I.shs i a z2
     rw [e2]
     refine up2 i p1 b e1 ?_
     rw [← hlast2]
     congr 1
     rw [I.ql] at hi
     omega
    ·omega
  ·intro r hr
   rcases get_snoc hr with ⟨_,z⟩ | ⟨hi,_⟩
   ·exact I.fst r z
   ·rw [I.ql] at hi
    omega
  ·intro r hr
   rw [List.getLast?_append] at hr
   simp at hr
   subst hr
   exact hp.lst p hlast
  ·rw [zAj,I.val,zAI,zBP (hp.all p hpm)]
   have e7:ps=ps.take (2 * (ps.length / 2)) ++ [p]:=by
    have e8:2 * (ps.length / 2)=ps.length - 1:=by omega
    rw [e8]
    have hl:ps.length=(ps.length - 1)+1:=by omega
    conv=>lhs; rw [← zt (l:=ps),hl,za,hlast2]
    rfl
   conv=>rhs; rw [e7,zAj,zAI]
def pts:List Int -> Nat -> List Pt
 | [],_=>[]
 | d :: r,k=>if d=0 then pts r (k+1) else ⟨0,k,d⟩ :: pts r (k+1)
theorem pts_snoc (d:Int):∀ (a:List Int) (k:Nat),pts (a ++ [d]) k=pts a k ++ (if d=0 then [] else [⟨0,k+a.length,d⟩])
 | [],k=>by
  show (if d=0 then ([]:List Pt) else [⟨0,k,d⟩])=_
  split <;> rfl
 | x :: r,k=>by
  rw [yR,pts,pts,pts_snoc d r (k+1)]
  have e:k+1+r.length=k+(x :: r).length:=by rw [zq]; omega
  rw [e]
  split
  ·rfl
  ·rfl
theorem zAk:∀ (a:List Int) (k:Nat),(pts a k).length=wt a
 | [],_=>rfl
 | x :: r,k=>by
  rw [pts,zAF]
  split
  ·rw [zAk r]; omega
  ·rw [zq,zAk r]; omega
theorem pts_val {ns:List Int}(h0:ns.getD 0 0=1):∀ (a:List Int) (k:Nat),pvs ns (pts a k)=2 ^ k * val a
 | [],k=>by show (0:Int)=2 ^ k * 0; omega
 | x :: r,k=>by
  have ih:=pts_val h0 r (k+1)
  rw [pts,show val (x :: r)=x+2 * val r from rfl]
  have e:(2:Int) ^ (k+1) * val r=2 ^ k * (2 * val r):=by rw [yo,zW]
  split
  ·rename_i hx
   subst hx
   rw [ih,e,Int.zero_add]
  ·rw [show (⟨0,k,x⟩ :: pts r (k+1):List Pt)=[⟨0,k,x⟩] ++ pts r (k+1) from rfl,zAj,zAI,ih,e,Int.mul_add]
   congr 1
   show x * (ns.getD 0 0 * 2 ^ k)=_
   rw [h0,yN,yF]
theorem pts_mem:∀ (a:List Int) (k:Nat),∀ p ∈ pts a k,p.th=0 /\ k <= p.sh /\ p.sh < k+a.length /\ p.g ∈ a /\ p.g ≠ 0
 | [],_,p,h=>by cases h
 | x :: r,k,p,h=>by
  rw [pts] at h
  have old:p ∈ pts r (k+1) -> p.th=0 /\ k <= p.sh /\ p.sh < k+(x :: r).length /\ p.g ∈ x :: r /\ p.g ≠ 0:=fun h=>by
   obtain ⟨h1,h2,h3,h4,h5⟩:=pts_mem r (k+1) p h
   rw [zq]
   exact ⟨h1,by omega,by omega,ze _ h4,h5⟩
  split at h
  ·exact old h
  ·rename_i hx
   rcases zV.mp h with e | e
   ·subst e
    exact ⟨rfl,zE _,by show k < k+(r.length+1); omega,zb,hx⟩
   ·exact old e
theorem pts_up:∀ (a:List Int) (k:Nat) (i:Nat) (p q:Pt),(pts a k)[i]? = some p -> (pts a k)[i+1]? = some q -> p.sh <= q.sh
 | [],_,i,p,q,h,_=>by simp [pts] at h
 | x :: r,k,i,p,q,hp,hq=>by
  rw [pts] at hp hq
  split at hp
  ·rename_i hx
   rw [if_pos hx] at hq
   exact pts_up r (k+1) i p q hp hq
  ·rename_i hx
   rw [if_neg hx] at hq
   rw [y8] at hq
   cases i with
   | zero =>
    cases hp
    have:=(pts_mem r (k+1) q (qE hq)).2.1
    show k <= q.sh
    omega
   | succ i =>
    rw [y8] at hp
    exact pts_up r (k+1) i p q hp hq
theorem pts_last {n:Int}(h:0 < n):∀ p,(pts (naf n) 0).getLast? = some p -> p.g=1:=by
 intro p hp
 have e:naf n=(naf n).dropLast ++ [1]:=by
  have:=naf_rev h
  have:=congrArg List.reverse this
  rw [List.reverse_reverse,List.reverse_cons,List.reverse_reverse] at this
  exact this
 rw [e,pts_snoc,if_neg (by decide),List.getLast?_append] at hp
 simp at hp
 rw [← hp]
theorem ps_start {ds:List Dd}{n:Int}(h:0 < n)(hb:n.natAbs < 2 ^ 200):PsOk ds 0 (pts (naf n) 0):=by
 have h0:(ev ds)[0]? = some 1:=zAZ [] ds (k:=0) rfl
 have d0:(dpt ds)[0]? = some 0:=zBO [] ds (k:=0) rfl
 have hl:=zAE 200 n hb
 refine ⟨fun p hp=>?_,pts_up _ _,fun p hp=>?_,pts_last h⟩
 ·obtain ⟨h1,h2,h3,h4,h5⟩:=pts_mem _ _ p hp
  refine ⟨?_,by omega,1,0,by rw [h1]; exact h0,by rw [h1]; exact d0,zE _,?_⟩
  ·rcases naf_dig n p.g h4 with z | z | z
   ·exact .inr z
   ·exact absurd z h5
   ·exact .inl z
  ·show 1 * 2 ^ p.sh <= _
   rw [Nat.one_mul]
   exact qN (by decide) (by omega)
 ·rw [(pts_mem _ _ p (qE hp)).1]
  exact d0
theorem hal_half {L:Nat}(h:2 <= L):halN (((L+1) / 2:Nat):Int)+1=halN (L:Int):=by
 have key:∀ d:Nat,halN (((L+1) / 2:Nat):Int) <= d ↔ halN (L:Int) <= d+1:=fun d=>by
  rw [hal_iff,hal_iff,yo]
  have e:((2 ^ d:Nat):Int)=2 ^ d:=by rw [jI]; rfl
  rw [← e]
  omega
 have h1:=(key (halN (((L+1) / 2:Nat):Int))).mp (zE _)
 have h0:¬ halN (L:Int) <= 0:=fun z=>by
  have:=hal_iff.mp z
  rw [yt] at this
  omega
 have h2:=(key (halN (L:Int) - 1)).mpr (by omega)
 omega
end L2
namespace L2
open PySem PySem.Spec PyProof.Rows
def pTup (p:Pt):List V:=[.int p.th,.int p.sh,.int p.g]
structure HPs (H:Hp) (vs:List V) (ps:List Pt):Prop where
 len:vs.length=ps.length
 at_:∀ (k:Nat) (p:Pt),ps[k]? = some p -> ∃ x:Addr,vs[k]? = some (.ref x) /\ H x=some (.tup (pTup p))
theorem HPs.same {H H':Hp}{vs:List V}{ps:List Pt}(h:HPs H vs ps)(s:Same H H'):HPs H' vs ps:=⟨h.len,fun k d e=>by
 obtain ⟨x,e1,e2⟩:=h.at_ k d e
 exact ⟨x,e1,s _ _ e2⟩⟩
theorem HPs.chgL {H H':Hp}{vs us:List V}{ps:List Pt}{l:Addr}(h:HPs H vs ps)(hl:H l=some (.lst us))(c:Chg l H H'):HPs H' vs ps:=⟨h.len,fun k d e=>by
 obtain ⟨x,e1,e2⟩:=h.at_ k d e
 exact ⟨x,e1,c _ _ (xU e2 hl (by intro z; cases z)) e2⟩⟩
theorem HPs.snoc {H:Hp}{vs:List V}{ps:List Pt}{p:Pt}{x:Addr}(h:HPs H vs ps)(hx:H x=some (.tup (pTup p))):HPs H (vs ++ [.ref x]) (ps ++ [p]):=by
 refine ⟨by simp [h.len],fun k e he=>?_⟩
 rcases get_snoc he with ⟨hk,z⟩ | ⟨hk,rfl⟩
 ·obtain ⟨y,e1,e2⟩:=h.at_ k e z
  exact ⟨y,by rw [qH (by rw [h.len]; exact hk)]; exact e1,e2⟩
 ·refine ⟨x,?_,hx⟩
  rw [qG (by rw [h.len]; omega),h.len,hk,ya]
  rfl
theorem hps_nil {H:Hp}:HPs H [] []:=⟨rfl,fun k d h=>by simp at h⟩
def spSignOf:Sp:=fun vs H Q _=>∃ (x y:Addr) (a b u t g h:Int),vs=[.ref x,.ref y] /\ H x=some (.tup [.int a,.int u,.int g]) /\ H y=some (.tup [.int b,.int t,.int h]) /\ Q (.int (jD g h)) H
def spPaired:Sp:=fun vs H Q _=>∃ (dl pl:Addr) (us:List V) (ds:List Dd) (ws:List V) (ps:List Pt) (j:Nat),vs=[.ref dl,.ref pl] /\ H dl=some (.lst us) /\ HDs H us ds /\ DOk ds /\ ds.length <= 4000 /\ H pl=some (.lst ws) /\ HPs H ws ps /\ PsOk ds j ps /\ j <= 20 /\ 2 <= ps.length /\ ps.length <= 300 /\ pl ≠ dl /\
 ∀ (r:Addr) (us':List V) (new:List Dd) (ws':List V) (qs:List Pt) H',Chg dl H H' -> H r=none -> H' dl=some (.lst us') -> HDs H' us' (ds ++ new) -> DOk (ds ++ new) -> H' r=some (.lst ws') -> HPs H' ws' qs -> PsOk (ds ++ new) (j+1) qs ->
  pvs (ev (ds ++ new)) qs=pvs (ev ds) ps -> new.length=ps.length / 2 -> qs.length=(ps.length+1) / 2 -> Q (.ref r) H'
def spTree:Sp:=fun vs H Q _=>∃ (dl:Addr) (us:List V) (ds:List Dd) (odd:Int),vs=[.ref dl,.int odd] /\ H dl=some (.lst us) /\ HDs H us ds /\ DOk ds /\ ds.length <= 3000 /\ 0 < odd /\ odd % 2=1 /\ odd.natAbs < 2 ^ 200 /\
 ∀ (made:Nat) (us':List V) (new:List Dd) H',Chg dl H H' -> H' dl=some (.lst us') -> HDs H' us' (ds ++ new) -> DOk (ds ++ new) -> new.length+1=wn odd -> (ev (ds ++ new))[made]? = some odd -> (dpt (ds ++ new))[made]? = some (halN (wn odd:Nat)) -> Q (.int made) H'
structure HOd (K:zA) (H:Hp) (os:List V) (ns:List Int) (es:List Nat) (xs:List Int):Prop where
 len:os.length=xs.length
 at_:∀ (k:Nat) (n:Int),xs[k]? = some n -> ∃ (x:Addr) (a b c:Int),os[k]? = some (.ref x) /\ SqT K H x [.int a,.int b,.int c] /\ OutOk ns n a b c /\ (n ≠ 0 -> ∃ i:Nat,a=i /\ es[i]? = some (halN (wn n:Nat)))
theorem HOd.fgt {K:zA}{H:Hp}{os:List V}{ns:List Int}{es:List Nat}{xs:List Int}(h:HOd K H os ns es xs):HOs K H os ns xs:=⟨h.len,fun k n e=>by
 obtain ⟨x,a,b,c,e1,e2,e3,_⟩:=h.at_ k n e
 exact ⟨x,a,b,c,e1,e2,e3⟩⟩
theorem HOd.same {K:zA}{H H':Hp}{os:List V}{ns:List Int}{es:List Nat}{xs:List Int}(h:HOd K H os ns es xs)(s:Same H H'):HOd K H' os ns es xs:=⟨h.len,fun k n e=>by
 obtain ⟨x,a,b,c,e1,e2,e3⟩:=h.at_ k n e
 exact ⟨x,a,b,c,e1,s.seqT e2,e3⟩⟩
theorem HOd.updL {K:zA}{H:Hp}{os us vs:List V}{ns:List Int}{es:List Nat}{xs:List Int}{l:Addr}(h:HOd K H os ns es xs)(hl:H l=some (.lst us)):HOd K (upd H l (.lst vs)) os ns es xs:=⟨h.len,fun k n e=>by
 obtain ⟨x,a,b,c,e1,e2,e3⟩:=h.at_ k n e
 exact ⟨x,a,b,c,e1,e2.updL hl,e3⟩⟩
theorem HOd.snoc {K:zA}{H:Hp}{os:List V}{ns:List Int}{es:List Nat}{xs:List Int}{n a b c:Int}{x:Addr}(h:HOd K H os ns es xs)(hx:SqT K H x [.int a,.int b,.int c])(ho:OutOk ns n a b c)(hd:n ≠ 0 -> ∃ i:Nat,a=i /\ es[i]? = some (halN (wn n:Nat))):HOd K H (os ++ [.ref x]) ns es (xs ++ [n]):=by
 refine ⟨by simp [h.len],fun k e he=>?_⟩
 rcases get_snoc he with ⟨hk,z⟩ | ⟨hk,rfl⟩
 ·obtain ⟨y,a',b',c',e1,e2⟩:=h.at_ k e z
  exact ⟨y,a',b',c',by rw [qH (by rw [h.len]; exact hk)]; exact e1,e2⟩
 ·refine ⟨x,a,b,c,?_,hx,ho,hd⟩
  rw [qG (by rw [h.len]; omega),h.len,hk,ya]
  rfl
def DpO (K:zA)(H:Hp)(ol:Addr)(ds:List Dd)(xs:List Int):Prop:=∃ os,H ol=some (.lst os) /\ HOd K H os (ev ds) (dpt ds) xs
def spDeep (K:zA):Sp:=fun vs H Q _=>∃ (a:Addr) (xs:List Int),vs=[.ref a] /\ H a=some (.lst (xs.map V.int)) /\ xs.length <= 6 /\ (∀ x ∈ xs,x.natAbs < 2 ^ 200) /\
 ∀ (t dl ol:Addr) (ds:List Dd) H',Same H H' -> H t=none -> H dl=none -> H ol=none -> Row K H' t dl ol ds xs -> DpO K H' ol ds xs -> ds.length=Jf (uc xs) -> Q (.ref t) H'
def gTupK (K:zA)(n:Nat)(t:TGs):TG:=gTup K n t
theorem pg_tupK {X:Cx}(K:zA){es:List Expr}{k:Nat}{t:TGs}{pos:Pos}(n:Nat)(hc:X.calm=true)(h:PGs X es t)(hK:X.K=K:=by rfl)(hn:(assignEach es X.env).length=n:=by rfl)(hst:(assignEach es X.env).findIdx? (·.1)=none:=by rfl):PG X (.Tuple es k pos) (gTupK K n t):=by
 subst hK
 exact pg_tup (X:=X) (n:=n) hc h hn hst
theorem atI_back {α:Type}{xs:List α}{v:α}(h0:0 < xs.length)(h:xs[xs.length - 1]? = some v):atI xs (-1)=some v:=by
 have hne:xs ≠ []:=xo.mp h0
 have e:=List.dropLast_concat_getLast hne
 have e2:xs.getLast hne=v:=by
  rw [List.getLast_eq_getElem]
  rw [qA (by omega)] at h
  exact Option.some.inj h
 rw [e2] at e
 rw [← e]
 exact atI_last _ _
section
variable {K:zA}{σ:St}{H:Hp}{R:St -> Hp -> Prop}
theorem zBQ {n:Nat}{t:TGs}{a:Addr}:gTupK K n t (.ref a) σ H R = ∃ xs,SqT K H a xs /\ xs.length=n /\ t xs σ H R :=
 propext ⟨fun ⟨a',xs,e,h,l,q⟩=>by cases e; exact ⟨xs,h,l,q⟩,fun ⟨xs,h,l,q⟩=>⟨a,xs,rfl,h,l,q⟩⟩
end
end L2
namespace L2
open PySem PySem.Spec PyProof.Rows
section
variable {X:Cx}{pins:List (Addr × Obj)}{σ:St}{H:Hp}{s:Shared}{p:Addr}{xs:List V}
def gLst (n:Nat)(t:TGs):TG:=fun v σ H Q=>∃ a xs,v = .ref a /\ H a=some (.lst xs) /\ xs.length=n /\ t xs σ H Q
end
section
variable {σ:St}{H:Hp}{R:St -> Hp -> Prop}
theorem w_gLst {n:Nat}{t:TGs}{a:Addr}:gLst n t (.ref a) σ H R = ∃ xs,H a=some (.lst xs) /\ xs.length=n /\ t xs σ H R :=
 propext ⟨fun ⟨a',xs,e,h,l,q⟩=>by cases e; exact ⟨xs,h,l,q⟩,fun ⟨xs,h,l,q⟩=>⟨a,xs,rfl,h,l,q⟩⟩
end
def ForE (K:zA)(a:Addr)(g:TG)(tb:TS)(D:Ends)(σ:St)(H:Hp):Prop:=∃ W:Nat -> Nat -> St -> Hp -> Prop,(∃ m,W 0 m σ H) /\ ∀ i m σ H,W i m σ H ->
 ((Ite K a).stop i H /\ D.nx σ H) \/ ((Ite K a).go i H /\ ∃ N:St -> Hp -> Prop,(∀ σ' H',N σ' H' -> ∃ m',m' < m /\ W (i+1) m' σ' H') /\ ∀ x H',(Ite K a).yld i H x H' -> g x σ H' fun σ2 H2=>tb { D with nx:=N,ct:=N,bk:=D.nx } σ2 H2)
section
variable {K:zA}{σ:St}{H:Hp}{D:Ends}{g:TG}{tb:TS}{a:Addr}
theorem w_forE {ta:TA}:tFor (iEnum K ta) g tb D σ H=(ta σ H fun vs H1=>∃ a xs,vs=[.ref a] /\ SqL K H1 a xs /\ ForE K a g tb D σ H1):=rfl
theorem forE {xs:List V}(Pv:Nat -> St -> Hp -> Prop)(h0:Pv 0 σ H)(hl:∀ i σ H,i <= xs.length -> Pv i σ H -> SqL K H a xs)
  (hs:∀ i x T σ H (N:St -> Hp -> Prop),xs[i]? = some x -> H T=none -> Pv i σ H -> (∀ σ' H',Pv (i+1) σ' H' -> N σ' H') -> g (.ref T) σ (upd H T (.tup [.int (i:Int),x])) fun σ2 H2=>tb { D with nx:=N,ct:=N,bk:=D.nx } σ2 H2)
  (hd:∀ σ H,Pv xs.length σ H -> D.nx σ H):ForE K a g tb D σ H:=by
 refine ⟨fun i m σ H=>m=xs.length - i /\ i <= xs.length /\ Pv i σ H,⟨_,rfl,yM _,h0⟩,?_⟩
 rintro i m σ H ⟨rfl,hi,p⟩
 have q:=hl i σ H hi p
 by_cases hlt:i < xs.length
 ·refine .inr ⟨⟨xs,q,hlt⟩,Pv (i+1),fun σ' H' p'=>⟨xs.length - (i+1),by omega,rfl,hlt,p'⟩,fun x H' y=>?_⟩
  obtain ⟨T,u,rfl,hT,rfl,hu⟩:=y
  exact hs i u T σ H (Pv (i+1)) (hu xs q) hT p fun _ _ z=>z
 ·have e:i=xs.length:=by omega
  subst e
  exact .inl ⟨⟨xs,q,zE _⟩,hd σ H p⟩
end
end L2
namespace L2
open PySem PySem.Spec
def mvI (s n:Int):Int:=n * 2 ^ (if 0 > s then (0:Int) else s).toNat / 2 ^ (if 0 > 0 - s then (0:Int) else 0 - s).toNat
end L2
namespace L2
open PySem PySem.Spec
structure Wd where
 w:Str
 a:Nat
 s:Int
 b:Nat
 t:Int
structure Go where
 th:Nat
 sh:Int
 sg:Int
def j5 (d:Wd):List V:=[.str d.w,.int d.a,.int d.s,.int d.b,.int d.t]
def gTp (g:Go):List V:=[.int g.th,.int g.sh,.int g.sg]
structure HTs {α:Type} (f:α -> List V) (H:Hp) (vs:List V) (xs:List α):Prop where
 len:vs.length=xs.length
 at_:∀ (k:Nat) (x:α),xs[k]? = some x -> ∃ p:Addr,vs[k]? = some (.ref p) /\ H p=some (.tup (f x))
section
variable {α:Type}{f:α -> List V}{H H':Hp}{vs us:List V}{xs:List α}{l:Addr}
theorem HTs.same (h:HTs f H vs xs)(s:Same H H'):HTs f H' vs xs:=⟨h.len,fun k d e=>by
 obtain ⟨x,e1,e2⟩:=h.at_ k d e
 exact ⟨x,e1,s _ _ e2⟩⟩
theorem HTs.chgL (h:HTs f H vs xs)(hl:H l=some (.lst us))(c:Chg l H H'):HTs f H' vs xs:=⟨h.len,fun k d e=>by
 obtain ⟨x,e1,e2⟩:=h.at_ k d e
 exact ⟨x,e1,c _ _ (xU e2 hl (by intro z; cases z)) e2⟩⟩
theorem HTs.snoc {x:α}{p:Addr}(h:HTs f H vs xs)(hx:H p=some (.tup (f x))):HTs f H (vs ++ [.ref p]) (xs ++ [x]):=by
 refine ⟨by simp [h.len],fun k e he=>?_⟩
 rcases get_snoc he with ⟨hk,z⟩ | ⟨hk,rfl⟩
 ·obtain ⟨y,e1,e2⟩:=h.at_ k e z
  exact ⟨y,by rw [qH (by rw [h.len]; exact hk)]; exact e1,e2⟩
 ·refine ⟨p,?_,hx⟩
  rw [qG (by rw [h.len]; omega),h.len,hk,ya]
  rfl
theorem hts_nil:HTs f H [] []:=⟨rfl,fun k d h=>by simp at h⟩
end
structure HRs (H:Hp) (ex:List Addr) (vs:List V) (rs:List (List Int)):Prop where
 len:vs.length=rs.length
 at_:∀ (k:Nat) (r:List Int),rs[k]? = some r -> ∃ p:Addr,vs[k]? = some (.ref p) /\ H p=some (.lst (r.map V.int)) /\ ∀ e ∈ ex,p ≠ e
section
variable {H H':Hp}{ex:List Addr}{vs:List V}{rs:List (List Int)}{l:Addr}
theorem HRs.same (h:HRs H ex vs rs)(s:Same H H'):HRs H' ex vs rs:=⟨h.len,fun k d e=>by
 obtain ⟨x,e1,e2,e3⟩:=h.at_ k d e
 exact ⟨x,e1,s _ _ e2,e3⟩⟩
theorem HRs.chg (h:HRs H ex vs rs)(hl:l ∈ ex)(c:Chg l H H'):HRs H' ex vs rs:=⟨h.len,fun k d e=>by
 obtain ⟨x,e1,e2,e3⟩:=h.at_ k d e
 exact ⟨x,e1,c _ _ (e3 l hl) e2,e3⟩⟩
theorem HRs.new (h:HRs H ex vs rs)(hl:H l=none):HRs H (l :: ex) vs rs:=⟨h.len,fun k d e=>by
 obtain ⟨x,e1,e2,e3⟩:=h.at_ k d e
 refine ⟨x,e1,e2,fun z hz=>?_⟩
 rcases zV.mp hz with e | e
 ·subst e; exact ne_of_none e2 hl
 ·exact e3 z e⟩
theorem HRs.snoc {r:List Int}{p:Addr}(h:HRs H ex vs rs)(hx:H p=some (.lst (r.map V.int)))(he:∀ e ∈ ex,p ≠ e):HRs H ex (vs ++ [.ref p]) (rs ++ [r]):=by
 refine ⟨by simp [h.len],fun k e he2=>?_⟩
 rcases get_snoc he2 with ⟨hk,z⟩ | ⟨hk,rfl⟩
 ·obtain ⟨y,e1,e2⟩:=h.at_ k e z
  exact ⟨y,by rw [qH (by rw [h.len]; exact hk)]; exact e1,e2⟩
 ·refine ⟨p,?_,hx,he⟩
  rw [qG (by rw [h.len]; omega),h.len,hk,ya]
  rfl
theorem hrs_nil:HRs H ex [] []:=⟨rfl,fun k d h=>by simp at h⟩
end
def RB (b:Nat)(rs:List (List Int)):Prop:=∀ r ∈ rs,r.length <= 12 /\ ∀ n ∈ r,n.natAbs <= 2 ^ b
theorem RB.snoc {b c:Nat}{rs:List (List Int)}{r:List Int}(h:RB b rs)(hc:b <= c)(hl:r.length <= 12)(hr:∀ n ∈ r,n.natAbs <= 2 ^ c):RB c (rs ++ [r]):=fun q hq=>by
 rcases yS.mp hq with z | z
 ·exact ⟨(h q z).1,fun n hn=>zZ ((h q z).2 n hn) (qN (by decide) hc)⟩
 ·rw [zT.mp z]; exact ⟨hl,hr⟩
theorem mvI_bound {s n:Int}{b:Nat}(h0:-40 <= s)(h1:s <= 40)(h:n.natAbs <= 2 ^ b):(mvI s n).natAbs <= 2 ^ (b+40):=by
 unfold mvI
 generalize hj:(if 0 > s then (0:Int) else s).toNat=j
 have hj40:j <= 40:=by rw [← hj]; split <;> omega
 generalize (if 0 > 0 - s then (0:Int) else 0 - s).toNat=k
 have p:=xf k
 have h2:(n * 2 ^ j).natAbs <= 2 ^ (b+40):=by
  rw [xX,JA]
  refine zZ (Nat.mul_le_mul h (qN (by decide) hj40:2 ^ j <= 2 ^ 40)) ?_
  rw [← Nat.pow_add]
  exact zE _
 generalize n * 2 ^ j=x at h2
 refine zZ ?_ h2
 have:(x / 2 ^ k).natAbs <= x.natAbs:=Int.natAbs_ediv_le_natAbs x (2 ^ k)
 exact this
structure WebOk (ins:Nat) (ds:List Wd) (gs:List Go):Prop where
 i1:1 <= ins
 i2:ins <= 12
 dk:∀ (k:Nat) (d:Wd),ds[k]? = some d -> d.a < ins+k /\ d.b < ins+k /\ (d.w = "sum" \/ d.w = "less")
 gk:∀ g ∈ gs,g.th < ins+ds.length
 dl:ds.length <= 60
 gl:gs.length <= 12
end L2
namespace L2
open PySem PySem.Spec PyProof.Rows
theorem cf_mem:∀ (names:List (Str × NameKind)) (n:Nat) (acc:List (Str × Addr)) (p:Str × Addr),p ∈ cellsFrom n names acc -> p ∈ acc \/ ((p.1,NameKind.cell) ∈ names /\ n <= p.2)
 | [],_,_,_,h=>.inl h
 | (y,k) :: r,n,acc,p,h=>by
  unfold cellsFrom at h
  by_cases hk:(k == .cell)=true
  ·rw [if_pos hk] at h
   have ek:k = .cell:=by simpa using hk
   subst ek
   rcases cf_mem r (n+1) _ p h with z | ⟨z,l⟩
   ·rcases zV.mp z with e | e
    ·subst e
     exact .inr ⟨zb,zE _⟩
    ·exact .inl e
   ·exact .inr ⟨ze _ z,yv l⟩
  ·rw [if_neg hk] at h
   rcases cf_mem r n acc p h with z | ⟨z,l⟩
   ·exact .inl z
   ·exact .inr ⟨ze _ z,l⟩
theorem cf_inj:∀ (names:List (Str × NameKind)) (n lo:Nat) (acc:List (Str × Addr)),lo <= n -> (∀ p ∈ acc,(p.2:Nat) < n) -> (∀ (x y:Str) (c:Addr),(x,c) ∈ acc -> (y,c) ∈ acc -> lo <= c -> x=y) ->
  ∀ (x y:Str) (c:Addr),(x,c) ∈ cellsFrom n names acc -> (y,c) ∈ cellsFrom n names acc -> lo <= c -> x=y
 | [],_,_,_,_,_,hi,x,y,c,h1,h2,l=>hi x y c h1 h2 l
 | (z,k) :: r,n,lo,acc,hl,hn,hi,x,y,c,h1,h2,l=>by
  unfold cellsFrom at h1 h2
  by_cases hk:(k == .cell)=true
  ·rw [if_pos hk] at h1 h2
   refine cf_inj r (n+1) lo _ (Nat.le_succ_of_le hl) (fun p hp=>?_) (fun x y c a b l=>?_) x y c h1 h2 l
   ·rcases zV.mp hp with e | e
    ·subst e; exact Nat.lt_succ_self _
    ·exact xD (hn p e)
   ·rcases zV.mp a with e | e <;> rcases zV.mp b with e' | e'
    ·rw [(Prod.mk.inj e).1,(Prod.mk.inj e').1]
    ·have:=hn _ e'
     rw [(Prod.mk.inj e).2] at this
     exact absurd this (yg _)
    ·have:=hn _ e
     rw [(Prod.mk.inj e').2] at this
     exact absurd this (yg _)
    ·exact hi x y c e e' l
  ·rw [if_neg hk] at h1 h2
   exact cf_inj r n lo acc hl hn hi x y c h1 h2 l
theorem cf_keep {x:Str}{c:Addr}:∀ (names:List (Str × NameKind)) (n:Nat) (acc:List (Str × Addr)),acc.lookup x=some c -> (x,NameKind.cell) ∉ names -> (cellsFrom n names acc).lookup x=some c
 | [],_,_,h,_=>h
 | (y,k) :: r,n,acc,h,hm=>by
  unfold cellsFrom
  have hr:(x,NameKind.cell) ∉ r:=fun z=>hm (ze _ z)
  by_cases hk:(k == .cell)=true
  ·rw [if_pos hk]
   have ek:k = .cell:=by simpa using hk
   subst ek
   refine cf_keep r (n+1) _ ?_ hr
   rw [jc]
   have hne:(x == y)=false:=by
    cases e:x == y with
    | false=>rfl
    | true=>rw [beq_iff_eq.mp e] at hm; exact absurd zb hm
   rw [hne]
   exact h
  ·rw [if_neg hk]
   exact cf_keep r n acc h hr
theorem cf_new:∀ (names:List (Str × NameKind)) (h:Heap) (acc:List (Str × Addr)) (p:Str × Addr),p ∈ cellsFrom h.objs.size names acc -> p ∈ acc \/ (pushCells h names).IsCell p.2 none
 | [],_,_,_,h=>.inl h
 | (y,k) :: r,h,acc,p,hp=>by
  unfold cellsFrom at hp
  unfold pushCells
  by_cases hk:(k == .cell)=true
  ·rw [if_pos hk] at hp ⊢
   have:=cf_new r (h.push { cls:=.type "cell",data:=.cell none }) ((y,h.objs.size) :: acc) p (by rw [Heap.size_push]; exact hp)
   rcases this with z | z
   ·rcases zV.mp z with e | e
    ·subst e
     exact .inr ⟨_,pushCells_keeps r _ _ _ (Heap.get?_push_size _ rfl),rfl⟩
    ·exact .inl e
   ·exact .inr z
  ·rw [if_neg hk] at hp ⊢
   exact cf_new r h acc p hp
theorem Jx {scope:Scope}{env:Env}{x:Str}{c:Addr}(m:(x,c) ∈ xL scope env):env.cells.lookup x=some c /\ (x,NameKind.free) ∈ scope.names:=by
 unfold xL at m
 rw [JS,Jq] at m
 obtain ⟨⟨n,k⟩,hy,e⟩:=m
 split at e
 ·rename_i hk
  have hk:k = .free:=by simpa using hk
  subst hk
  cases q:env.cells.lookup n with
  | none=>rw [q] at e; cases e
  | some d =>
   rw [q] at e
   simp only [jH,Option.some.injEq,Prod.mk.injEq] at e
   rw [← e.1,q,e.2]
   exact ⟨rfl,hy⟩
 ·cases e
def compEnvK (scope:Scope)(cl:List (Str × Addr))(C:Addr)(env:Env):Env :=
 { scope:=relabel scope env,locals:=C,globals:=env.globals,cells:=cellsFrom (C+1) scope.names cl,qual:=env.qual,func:=none,code:=env.code,frame:=env.frame,builtins:=env.builtins }
def nfeH (h:Heap)(names:List (Str × NameKind)):Heap:=pushCells (h.push { cls:=.type "dict",data:=.dict #[] }) names
theorem nfe_cells {M:Model}{A:Around}{E:Value -> Shared -> Prop}{s:Shared}{scope:Scope}{globals:Addr}{cl:List (Str × Addr)}{qual:Str}{env:Env}{Q:Env -> Shared -> Prop}
  (hQ:Q { scope:=scope,locals:=s.heap.objs.size,globals:=globals,cells:=cellsFrom (s.heap.objs.size+1) scope.names cl,qual:=qual,func:=none,code:=env.code,frame:=env.frame,builtins:=env.builtins } { s with heap:=nfeH s.heap scope.names }) :
  wpAny M A (newFunctionEnv scope globals cl [] qual none .none (some env)) Q E s:=by
 simp only [newFunctionEnv,Option.isSome_some,if_true]
 refine wpAny_bind (wpAny_alloc ?_)
 refine wpAny_bind (wpAny_layCells _ (fun name kind cells=>by cases hkc:kind == NameKind.cell <;> simp [hkc]) _ _ _ _ ?_)
 rw [show ({ s with heap:=s.heap.push { cls:=.type "dict",data:=.dict #[] } }:Shared).heap.objs.size=s.heap.objs.size+1 from Heap.size_push ..]
 rw [List.forIn_nil]
 exact wpAny_bind (wpAny_pure (wpAny_pure hQ))
def jx (X:Cx)(N:List Str)(scope:Scope)(C:Addr)(s:Shared)(H:Hp)(fp:List Addr):Cx :=
 { X with N:=N,s₀:=s,H₀:=H,env:=compEnvK scope (xL scope X.env) C X.env,outer:=X.stack,stack:=X.stack,ex:=fp,fn:=fun x=>scope.names.lookup x == some .cell,pn:=[],xe:=fun _ _=>False }
def scC (sc xsc:Scope):Bool:=(sc.kind == .function) && sc.names.all fun x=>(x.2 != .cell || sc.names.lookup x.1 == some .cell) && (x.2 != .local || sc.names.lookup x.1 == some .local) && (x.2 != .free || ((sc.names.lookup x.1 == some .free) && ((xsc.names.lookup x.1 == some .cell) || (xsc.names.lookup x.1 == some .free))))
section
variable {X:Cx}
theorem compCxC_inv {pins:List (Addr × Obj)}{σ:St}{H:Hp}{s:Shared}{N:List Str}{scope:Scope}{nt:Nat}{cs:List Nat}{fp:List Addr}{tk:Nat}(I:Inv X pins σ H s)
  (hsc:scC scope X.env.scope=true) (hcap:capB cs (N.drop nt) X.N scope X.env.scope=true) (hlen:N.length=nt+cs.length)
  (hf:∀ b ∈ fp,FpOk X pins H b) (hfl:∀ b ∈ fp,b < s.heap.objs.size) :
  Inv (jx X N scope s.heap.objs.size s H fp) [] (JU nt cs σ) H { s with heap:=nfeH s.heap scope.names,toks:=tk }:=by
 have hk:∀ b o,s.heap.get? b=some o -> (nfeH s.heap scope.names).get? b=some o:=fun b o e=>pushCells_keeps _ _ b o (Heap.get?_push_of_some _ e)
 have hn:(nfeH s.heap scope.names).Ns s.heap.objs.size fun _=>none:=(Heap.Ns.new s.heap (.type "dict")).keeps (pushCells_keeps _ _)
 unfold scC at hsc
 rw [zX] at hsc
 obtain ⟨hkd,hall⟩:=hsc
 have hkd:scope.kind = .function:=by simpa using hkd
 rw [xM] at hall
 have cellL:∀ x,(x,NameKind.cell) ∈ scope.names -> scope.names.lookup x=some .cell:=fun x hx=>by
  have:=hall _ hx
  simp only [bne_self_eq_false,xQ,zX,beq_iff_eq] at this
  exact this.1.1
 have freeL:∀ x,(x,NameKind.free) ∈ scope.names -> scope.names.lookup x=some .free:=fun x hx=>by
  have:=hall _ hx
  simp only [bne_self_eq_false,xQ,zX,beq_iff_eq] at this
  exact this.2.1
 have free2:∀ x,(x,NameKind.free) ∈ scope.names -> X.env.kindOf x=some .cell \/ X.env.kindOf x=some .free:=fun x hx=>by
  have:=hall _ hx
  simp only [bne_self_eq_false,xQ,zX,Jp,beq_iff_eq] at this
  exact this.2.2
 have kinds:∀ x,((jx X N scope s.heap.objs.size s H fp).env.kindOf x=some .cell \/ (jx X N scope s.heap.objs.size s H fp).env.kindOf x=some .free) -> scope.names.lookup x=some .cell \/ (x,NameKind.free) ∈ scope.names:=fun x hx=>by
  have q:∃ k,(relabel scope X.env).names.lookup x=some k /\ (k = .cell \/ k = .free):=by
   rcases hx with e | e
   ·exact ⟨_,e,.inl rfl⟩
   ·exact ⟨_,e,.inr rfl⟩
  obtain ⟨k,e,hk'⟩:=q
  obtain ⟨k0,e0,r⟩:=xg e
  have m:=PySem.mem_of_lookup e0
  rcases r with r | ⟨r,_⟩
  ·subst r
   rcases hk' with z | z
   ·rw [z] at e0; exact .inl e0
   ·rw [z] at m; exact .inr m
  ·rw [r] at m; exact .inr m
 have clt:∀ x c,X.env.cells.lookup x=some c -> c < s.heap.objs.size:=fun x c e=>by
  obtain ⟨v,q⟩:=I.cell x c e
  exact q.lt
 -- a cell of the block: one of the caller's,or one of its own
 have two:∀ x c,(jx X N scope s.heap.objs.size s H fp).env.cells.lookup x=some c -> (X.env.cells.lookup x=some c /\ (x,NameKind.free) ∈ scope.names) \/ ((x,NameKind.cell) ∈ scope.names /\ s.heap.objs.size+1 <= c /\ (nfeH s.heap scope.names).IsCell c none):=fun x c e=>by
  have m:=PySem.mem_of_lookup e
  rcases cf_mem _ _ _ _ m with z | ⟨z,l⟩
  ·exact .inl (Jx z)
  ·refine .inr ⟨z,l,?_⟩
   have m':(x,c) ∈ cellsFrom (s.heap.push { cls:=.type "dict",data:=.dict #[] }).objs.size scope.names (xL scope X.env):=by rw [Heap.size_push]; exact m
   rcases cf_new _ _ _ _ m' with q | q
   ·have:=clt x c (Jx q).1
    exact absurd (qJ this (yv l)) (yg _)
   ·exact q
 refine ⟨⟨I.ok.mod,?_,I.ok.glob,I.ok.blt,zE _,?_,?_,?_,I.ok.hd,I.ok.frames,.inl rfl,?_,?_,?_,?_,?_,?_,?_⟩,rfl,I.bare,Un.kept hk,⟨_,hn,?_⟩,?_,?_,?_,?_,I.hok.kept hk,?_⟩
 ·show (relabel scope X.env).kind=_
  exact hkd
 ·intro x y c e1 e2
  rcases two x c e1 with ⟨a,_⟩ | ⟨_,a,_⟩ <;> rcases two y c e2 with ⟨b,_⟩ | ⟨_,b,_⟩
  ·exact I.ok.inj x y c a b
  ·exact absurd (qJ (clt x c a) (yv b)) (yg _)
  ·exact absurd (qJ (clt y c b) (yv a)) (yg _)
  ·refine cf_inj scope.names (s.heap.objs.size+1) (s.heap.objs.size+1) (xL scope X.env) (zE _) (fun p hp=>xD (clt p.1 p.2 (Jx hp).1)) (fun x y c h1 h2 l=>?_) x y c (PySem.mem_of_lookup e1) (PySem.mem_of_lookup e2) a
   exact absurd (qJ (clt x c (Jx h1).1) (yv l)) (yg _)
 ·intro x hx
  rcases kinds x hx with m | m
  ·exact jL.mp (PySem.W.cellsFrom_some scope.names (s.heap.objs.size+1) (xL scope X.env) (.inl m))
  ·obtain ⟨c,hc⟩:=I.ok.has x (free2 x m)
   exact jL.mp (PySem.W.cellsFrom_some scope.names (s.heap.objs.size+1) (xL scope X.env) (.inr (by rw [zBJ m hc]; rfl)))
 ·intro x c z e
  have z:scope.names.lookup x=some .cell:=by simpa [jx] using z
  rcases two x c e with ⟨_,m⟩ | ⟨_,l,_⟩
  ·have:=freeL x m
   rw [z] at this
   cases this
  ·exact yv l
 ·intro b hb
  obtain ⟨f0,f1,f2,f3,f4,f5⟩:=hf b hb
  refine ⟨zg (hfl b hb),fun x c e=>?_⟩
  rcases two x c e with ⟨a,_⟩ | ⟨_,l,_⟩
  ·exact f4 x c a
  ·exact fun z=>absurd (qJ (hfl b hb) (yv (z ▸ l))) (yg _)
 ·intro b o e
  exact I.bs b o e
 ·exact zZ I.ok.bsz I.sz
 ·intro b o e hb
  obtain ⟨f0,f1,f2,f3,f4,f5⟩:=hf b hb
  rcases f3 with z | z
  ·exact I.ok.noex b o e z
  ·exact absurd (qJ (Heap.lt_size (I.ok.bs b o e).1) z) (yg _)
 ·intro b hb hs
  obtain ⟨f0,f1,f2,f3,f4,f5⟩:=hf b hb
  rcases zV.mp (I.stkSub b hs) with z | z
  ·exact f1 z
  ·exact f2 z
 ·exact I.stack
 ·exact I.stkFree
 ·intro i x v e1 e2 _
  have hi:nt <= i:=by
   refine Nat.le_of_not_lt fun z=>?_
   unfold JU at e2
   rw [qH (by simpa using z),je,if_pos z] at e2
   cases e2
  unfold JU at e2
  rw [qG (by simpa using hi),qL,qI] at e2
  cases q:cs[i - nt]? with
  | none=>rw [q] at e2; cases e2
  | some c =>
   rw [q] at e2
   simp only [jH,Option.some.injEq] at e2
   have e3:σ[c]? = some (some v):=by
    cases z:σ[c]? with
    | none=>rw [z] at e2; cases e2
    | some o=>rw [z] at e2; exact congrArg some e2
   unfold capB at hcap
   rw [xM] at hcap
   have e4:(N.drop nt)[i - nt]? = some x:=by
    rw [List.getElem?_drop,show nt+(i - nt)=i by omega]
    exact e1
   have m:(c,x) ∈ cs.zip (N.drop nt):=by
    have:(cs.zip (N.drop nt))[i - nt]? = some (c,x):=by rw [List.getElem?_zip_eq_some]; exact ⟨q,e4⟩
    exact qE this
   have hm:=hcap _ m
   simp only [zX,beq_iff_eq,bne_iff_ne,ne_eq] at hm
   obtain ⟨⟨h1',h2'⟩,h3'⟩:=hm
   have hlk:scope.names.lookup x=some .free:=h2'
   have h2':(x,NameKind.free) ∈ scope.names:=PySem.mem_of_lookup hlk
   have nocell:(x,NameKind.cell) ∉ scope.names:=fun z=>by
    have:=cellL x z
    rw [hlk] at this
    cases this
   obtain ⟨mm,hmm,hl⟩:=I.loc
   have vis:Vis X.env.scope x:=.inr (free2 x h2')
   obtain ⟨u,r,l⟩:=hl c x v h1' e3 vis
   rcases l with ⟨z,_⟩ | ⟨z,d,hd,hcell⟩
   ·exact absurd z h3'
   ·refine ⟨u,r,.inr ⟨?_,d,cf_keep _ _ _ (zBJ h2' hd) nocell,?_⟩⟩
    ·have isf:∃ k,(relabel scope X.env).names.lookup x=some k:=by
      have:∃ k',(x,k') ∈ (relabel scope X.env).names:=by
       unfold relabel
       by_cases cc:(X.env.scope.kind == .function && X.env.kindOf x == some .cell)=true
       ·refine ⟨.cell,qP.mpr ⟨(x,.free),h2',?_⟩⟩
        simp only [zX] at cc
        simp [cc.1,cc.2]
       ·refine ⟨.free,qP.mpr ⟨(x,.free),h2',?_⟩⟩
        simp only [zX] at cc
        have cc':¬ ((NameKind.free == NameKind.free && X.env.scope.kind == .function && X.env.kindOf x == some .cell)=true):=by
         simp only [beq_self_eq_true,Bool.true_and,zX]
         exact cc
        show (if (NameKind.free == NameKind.free && X.env.scope.kind == .function && X.env.kindOf x == some .cell)=true then (x,NameKind.cell) else (x,NameKind.free))=(x,NameKind.free)
        rw [if_neg cc']
      obtain ⟨k',hk'⟩:=this
      exact zAC hk'
     obtain ⟨k,ek⟩:=isf
     obtain ⟨k0,e0,rr⟩:=xg ek
     rcases rr with rr | ⟨_,rr⟩
     ·subst rr
      rw [hlk] at e0
      cases e0
      exact .inr ek
     ·subst rr
      exact .inl ek
    ·obtain ⟨o,ho,hd'⟩:=hcell
     exact ⟨o,hk _ _ ho,hd'⟩
 ·intro x c e
  rcases two x c e with ⟨a,_⟩ | ⟨_,_,a⟩
  ·obtain ⟨v,o,ho,hd⟩:=I.cell x c a
   exact ⟨v,o,hk _ _ ho,hd⟩
  ·exact ⟨none,a⟩
 ·exact I.hok.fresh (zE _)
 ·intro x c e
  rcases two x c e with ⟨a,_⟩ | ⟨_,l,_⟩
  ·exact I.freeC x c a
  ·exact I.hok.fresh (yv l)
 ·intro p hp
  cases hp
 ·show (JU nt cs σ).length=N.length
  unfold JU
  rw [qF,qL,qC,hlen]
theorem compC_core {use:Option (Value -> Sem Unit)}{QQ:Value -> Shared -> Prop}{ipos:Pos}{tg iter elt:Expr}{ifs:List Expr}{scope:Scope}{pos:Pos}{wi:TI}{N:List Str}{nt:Nat}{cs:List Nat}{g:TG}{tt:TT}{te:TE}(hc:X.calm=true)(hi:PI X tg iter wi)
  (hb:N.Nodup -> ∀ (C:Addr) (s:Shared) (H:Hp) (fp:List Addr),CompBody (jx X N scope C s H fp) tg ifs elt g tt te)
  (hnd:N.Nodup) (hsc:scC scope X.env.scope=true) (hcap:capB cs (N.drop nt) X.N scope X.env.scope=true) (hlen:N.length=nt+cs.length)
  (hs:∀ x,foldedSetIterable iter X.env x=pure x) {pins:List (Addr × Obj)} {s:Shared} {σ:St} {H:Hp} {Q:V -> Hp -> Prop} (I:Inv X pins σ H s) (h:zAV wi nt cs g tt te σ H Q)
  (hfin:∀ {acc:Addr} {fp:List Addr} {HX:Hp} {sx:Shared} {σ':St} {H':Hp} {s':Shared},Inv X pins σ HX sx -> (∀ b ∈ fp,FpOk X pins HX b) -> Inv (jx X N scope sx.heap.objs.size sx HX fp) [] σ' H' s' -> Q (.ref acc) H' -> compPost (model X.prog X.w) X.A X.xe use QQ (.ref acc) sx.heap.objs.size (.ok .next) s') :
  wpAny (model X.prog X.w) X.A (comprehension (.ListComp elt [⟨tg,iter,ifs,0⟩] scope pos) scope X.env ipos (newList []) false (eval iter X.env) use) QQ X.xe s:=by
 have hsc':=hsc
 unfold scC at hsc'
 rw [zX] at hsc'
 obtain ⟨hkd,hall⟩:=hsc'
 have hkd:scope.kind = .function:=by simpa using hkd
 rw [xM] at hall
 have hnames:∀ x ∈ scope.names,x.2 = .local -> scope.names.lookup x.1=some .local:=fun x hx e=>by
  have:=hall x hx
  rw [e] at this
  simp only [bne_self_eq_false,xQ,zX,beq_iff_eq] at this
  exact this.1.2
 have hclos:closureFor scope X.env=pure (xL scope X.env):=Jj fun x hx e=>by
  have:=hall x hx
  rw [e] at this
  simp only [bne_self_eq_false,xQ,zX,Jp,beq_iff_eq] at this
  exact I.ok.has x.1 this.2.2
 refine wpAny_comprehension_free (use:=use) rfl hs hclos hkd hnames (thn (hi pins s σ H _ I h) fun v s1 h1=>thn h1 fun itv s2 h2=>?_)
 obtain ⟨it,fp,tn,J,H2,e,I2,T,st2,f2,hR⟩:=h2
 subst e
 refine wpAny_newObj_type (nfe_cells ?_)
 have fr:=I2.fresh
 have I3:Inv X pins σ (upd H2 s2.heap.objs.size (.lst [])) { s2 with heap:=s2.heap.push { cls:=.type "list",data:=.seq ([]:List Value).toArray },toks:=s2.toks }:=I2.lnew .nil (yG (by decide))
 obtain ⟨W,⟨m0,w0⟩,turn⟩:=hR _ fr
 generalize hacc:s2.heap.objs.size=acc at *
 generalize hsx:({ s2 with heap:=s2.heap.push { cls:=.type "list",data:=.seq ([]:List Value).toArray },toks:=s2.toks }:Shared)=sx at *
 have hC:sx.heap.objs.size=acc+1:=by rw [← hsx,← hacc]; exact Heap.size_push _ _
 have fpl:∀ b ∈ fp,b < acc:=fun b hb=>by
  obtain ⟨o,ho,_⟩:=T.obj _ _ st2 b hb
  rw [← hacc]
  exact Heap.lt_size ho
 have f3:∀ b ∈ fp,FpOk X pins (upd H2 acc (.lst [])) b:=fun b hb=>by
  obtain ⟨f0,f1⟩:=f2 b hb
  exact ⟨by rw [yH (zg (fpl b hb))]; exact f0,f1⟩
 have keep3:∀ b o,sx.heap.get? b=some o -> (nfeH sx.heap scope.names).get? b=some o:=fun b o e=>pushCells_keeps _ _ b o (Heap.get?_push_of_some _ e)
 have hn3:(nfeH sx.heap scope.names).Ns sx.heap.objs.size fun _=>none:=(Heap.Ns.new sx.heap (.type "dict")).keeps (pushCells_keeps _ _)
 have IC:Inv (jx X N scope sx.heap.objs.size sx (upd H2 acc (.lst [])) fp) [] (JU nt cs σ) (upd H2 acc (.lst [])) { sx with heap:=nfeH sx.heap scope.names,toks:=sx.toks } :=
  compCxC_inv (tk:=sx.toks) I3 hsc hcap hlen f3 (fun b hb=>by rw [hC]; exact xD (fpl b hb))
 have hn3':H2 acc=none:=fr
 generalize hXC:jx X N scope sx.heap.objs.size sx (upd H2 acc (.lst [])) fp=XC at IC
 have ctxP:XC.prog=X.prog:=by rw [← hXC]; rfl
 have ctxW:XC.w=X.w:=by rw [← hXC]; rfl
 have ctxK:XC.K=X.K:=by rw [← hXC]; rfl
 have ctxA:XC.A=X.A:=by rw [← hXC]; rfl
 have ctxC:XC.calm=true:=by rw [← hXC]; exact hc
 have ctxX:XC.xe=fun _ _=>False:=by rw [← hXC]; rfl
 have ctxE:XC.env=compEnvK scope (xL scope X.env) sx.heap.objs.size X.env:=by rw [← hXC]; rfl
 have body:CompBody XC tg ifs elt g tt te:=by rw [← hXC]; exact hb hnd _ _ _ _
 have st3:tn 0 (nfeH sx.heap scope.names):=T.keep _ _ _ st2 fun b hb o e=>keep3 b o (by rw [← hsx]; exact Heap.get?_push_of_some _ e)
 have stat:∀ {H':Hp},(∀ b ∈ fp,H' b=none) -> ∀ b ∈ fp,FpOk XC [] H' b:=fun hn b hb=>by
  obtain ⟨f0,f1,f2',f3',f4,f5⟩:=f3 b hb
  refine ⟨hn b hb,?_,?_,.inl (by rw [← hXC]; exact hb),fun x c e=>?_,fun p hp=>?_⟩
  ·rw [ctxE]
   exact zg (by rw [hC]; exact xD (fpl b hb))
  ·rw [← hXC]
   intro z
   rcases zV.mp (I3.stkSub b z) with z | z
   ·exact f1 z
   ·exact f2' z
  ·rw [ctxE] at e
   rcases cf_mem _ _ _ _ (PySem.mem_of_lookup e) with z | ⟨_,z⟩
   ·exact f4 x c (Jx z).1
   ·have h9:=fpl b hb
    have z:sx.heap.objs.size+1 <= c:=z
    rw [hC] at z
    exact Nat.ne_of_gt (qJ h9 (yv (yv z)))
  ·rw [← hXC] at hp
   cases hp
 have fin:∀ {σ':St} {H':Hp} {s':Shared},Inv XC [] σ' H' s' -> Q (.ref acc) H' -> compPost (model X.prog X.w) X.A X.xe use QQ (.ref acc) sx.heap.objs.size (.ok .next) s':=fun {σ' H' s'} J' q=>hfin I3 f3 (by rw [hXC]; exact J') q
 have loop:codeAny (model X.prog X.w) X.A (.compLoop (.ListComp elt [⟨tg,iter,ifs,0⟩] scope pos) 0 (.ref it) (.ref acc) XC.env) (compPost (model X.prog X.w) X.A X.xe use QQ (.ref acc) sx.heap.objs.size)
   { sx with heap:=nfeH sx.heap scope.names,toks:=sx.toks }:=by
  rw [← ctxP,← ctxW,← ctxA]
  refine jB (fun n s'=>∃ i ys σ' H',Inv XC [] σ' H' s' /\ tn i s'.heap /\ (∀ b ∈ fp,H' b=none) /\ W i n ys σ' H') ?_ m0 ⟨0,[],_,_,IC,st3,fun b hb=>(f3 b hb).1,w0⟩
  rintro n s3 ⟨i,ys,σ3,H3,I3',st3',fr3,w3⟩
  have T':=T
  rw [← ctxP,← ctxW,← ctxK] at T'
  obtain ⟨hacc3,alt⟩:=turn i n ys σ3 H3 w3
  rcases alt with ⟨stop,qn⟩ | ⟨go,hsz,NN,hNN,step⟩
  ·refine thn (T'.done XC rfl rfl rfl ctxC i [] s3 σ3 H3 _ I3' (stat fr3) st3' stop) fun r s4 ⟨hr,I4⟩=>?_
   subst hr
   rw [ctxP,ctxW,ctxA]
   exact fin I4 qn
  ·refine thn (T'.item XC rfl rfl rfl ctxC i [] s3 σ3 H3 _ I3' (stat fr3) st3' go) fun r s4 ⟨u,hr,h4⟩=>?_
   subst hr
   refine thn h4 fun _ s5 ⟨x,H5,I5,r5,y5,st5,fr5⟩=>?_
   have I5':=I5.pinned (stat fr5) (T'.obj _ _ st5)
   have a1:=body.tg _ s5 σ3 H5 x u _ I5' r5 (step x H5 y5)
   rw [ctxX] at a1
   refine thn a1 fun _ s6 ⟨σ6,H6,I6,q6⟩=>?_
   have a2:=body.tt _ s6 σ6 H6 _ I6 q6
   rw [ctxX] at a2
   refine thn a2 fun b s7 ⟨H7,I7,q7⟩=>?_
   have again:∀ {s8:Shared} {σ7:St} {H7:Hp} {zs:List V},Inv XC ([] ++ zA3 fp s5.heap) σ7 H7 s8 -> NN zs σ7 H7 -> ∃ m,m < n /\ ∃ i ys σ' H',Inv XC [] σ' H' s8 /\ tn i s8.heap /\ (∀ b ∈ fp,H' b=none) /\ W i m ys σ' H':=fun {s8 σ7 H7 zs} I7 n7=>by
    obtain ⟨m',hm,w7⟩:=hNN zs σ7 H7 n7
    refine ⟨m',hm,i+1,zs,σ7,H7,I7.unpinned,T'.keep _ _ _ st5 fun b hb o e=>(I7.pin (b,o) (qK _ (qK _ (x9 hb e)))).1,fun b hb=>?_,w7⟩
    obtain ⟨o,e,d⟩:=T'.obj _ _ st5 b hb
    exact (I7.pin (b,o) (qK _ (qK _ (x9 hb e)))).2.1
   cases b with
   | false =>
    rw [if_neg zc] at q7 ⊢
    exact again I7 q7
   | true =>
    rw [if_pos rfl] at q7 ⊢
    have a3:=body.te _ s7 σ6 H7 _ I7 q7
    rw [ctxX] at a3
    refine thn a3 fun xv s8 ⟨y,H8,I8,r8,q8⟩=>?_
    obtain ⟨hl8,n8⟩:=q8
    have a4:=yd (X:=XC) _ s8 σ6 H8 (.ref acc) [y] (.ref acc) [xv] (fun _ H9=>NN (ys ++ [y]) σ6 H9) I8 rfl (.cons r8 .nil) ⟨acc,ys,y,rfl,rfl,hl8,hsz,n8⟩
    rw [ctxX] at a4
    refine thn a4 fun _ s9 ⟨_,H9,I9,_,q9⟩=>?_
    exact again I9 q9
 rw [ctxE] at loop
 exact codeAny_compStart_list loop (T.self X.A 0 _ _ _ st3 loop)
theorem ps_setCompC {y:Str}{py spos:Pos}{ix:Nat}{tg iter elt:Expr}{ifs:List Expr}{scope:Scope}{pos:Pos}{wi:TI}{N:List Str}{nt:Nat}{cs:List Nat}{g:TG}{tt:TT}{te:TE}(hc:X.calm=true)(hi:PI X tg iter wi)
  (hb:N.Nodup -> ∀ (C:Addr) (s:Shared) (H:Hp) (fp:List Addr),CompBody (jx X N scope C s H fp) tg ifs elt g tt te)
  (hnd:N.Nodup) (hsc:scC scope X.env.scope=true) (hcap:capB cs (N.drop nt) X.N scope X.env.scope=true) (hlen:N.length=nt+cs.length)
  (hs:∀ x,foldedSetIterable iter X.env x=pure x) (hN:X.N.Nodup) (hix:X.N[ix]? = some y) (hy:Loc X.env.scope y) (hf:X.fn y=true \/ X.env.scope.names.lookup y=some .local)
  (hsw:swapsWith (.ListComp elt [⟨tg,iter,ifs,0⟩] scope pos) (some (.Name y py)) spos.line X.env=pure true):PS X (.Assign [.Name y py] (.ListComp elt [⟨tg,iter,ifs,0⟩] scope pos) spos) (tAsg (zAV wi nt cs g tt te) (xk ix)):=by
 intro pins s σ H D I h
 rw [exec_Assign_Name_used _ _ _ _ hsw]
 refine wpAny_bind (wpAny_standAt (wpAny_bind ?_))
 show wpAny _ X.A (do let _ ← comprehension (.ListComp elt [⟨tg,iter,ifs,0⟩] scope pos) scope X.env _ (newList []) false (eval iter X.env) (some (assign (.Name y py) X.env))) _ _ s
 refine wpAny_bind (wpAny_mono (compC_core (use:=some (assign (.Name y py) X.env)) (QQ:=fun _ s'=>SP X pins D .next s') hc hi hb hnd hsc hcap hlen hs I h fun {acc fp HX sx σ' H' s'} I3 f3 J' q=>?_) (fun _ s' hq=>wpAny_pure (wpAny_pure hq)) fun _ _ e=>e)
 obtain ⟨m,hm,_⟩:=J'.loc
 have IX:Inv X pins σ H' s':=I3.call' J'.os J'.base J'.hok J'.bare fun b hb=>by
  obtain ⟨f0,f1,f2',f3',f4,f5⟩:=f3 b hb
  exact ⟨f3',f1,f4,f5⟩
 have hCL:sx.heap.objs.size ≠ X.env.locals:=Nat.ne_of_gt I3.lt
 have hCc:∀ x c,X.env.cells.lookup x=some c -> c ≠ sx.heap.objs.size:=fun x c e=>by
  obtain ⟨v,z⟩:=I3.cell x c e
  exact zg z.lt
 have hCp:∀ p ∈ X.pn ++ pins,p.1 ≠ sx.heap.objs.size:=fun p hp=>zg (Heap.lt_size (I3.pin p hp).1)
 show wpAny _ X.A (assign (.Name y py) X.env (.ref acc)) _ _ s'
 refine wpAny_assign_Name (zBY IX hN hix hy (v:=.ref acc) rfl (fun s'' I'' ⟨a,hsb,ha⟩=>?_) hf)
 have hCa:sx.heap.objs.size ≠ a:=fun z=>by
  rcases ha with e | e
  ·exact hCL (z.trans e)
  ·exact hCc _ _ e z.symm
 refine ⟨m,hm.sameBut hsb hCa,fun h' hs'=>⟨_,H',?_,q⟩⟩
 exact I''.turned (t':=s''.toks) (fun b o hb e=>(hs'.2 b hb).trans e) J'.free hCL (.inr I3.sz) hCc hCp
end
end L2
namespace L2
open PySem PySem.Spec
theorem Chg.updN {p q:Addr}{H H':Hp}{o:HO}(c:Chg p H H')(h:H q=none):Chg p H (L2.upd H' q o):=fun b u n e=>by rw [yH (ne_of_none e h)]; exact c b u n e
theorem Chg.new {p q:Addr}{H H':Hp}(c:Chg p H H')(n:q ≠ p)(h:H' q=none):H q=none:=by
 cases e:H q with
 | none=>rfl
 | some o=>rw [c q o n e] at h; cases h
section
variable {K:zA}{σ:St}{H:Hp}{Q:VK}{cs:List Nat}{te:TE}
theorem comp_zip {r1 r2:Addr}{us vs:List V}(h1:SqL K H r1 us)(h2:SqL K H r2 vs)(hl:vs.length=us.length)(hz:us.length <= 1000)(zs:List V)(hzl:zs.length=us.length)
  (hb:∀ (i:Nat) (x y z:V) H' (R:VK),us[i]? = some x -> vs[i]? = some y -> zs[i]? = some z -> Same H H' -> R z H' -> te ([some x,some y] ++ yZ cs σ) H' R)
  (hd:∀ acc H',H acc=none -> Same H H' -> H' acc=some (.lst zs) -> Q (.ref acc) H') :
  y9 (Itz K r1 r2) 2 cs (gTupM 2 (zAy (xk 0) (zAy (xk 1) gNil))) tYes te σ H Q:=by
 refine jO us.length (fun acc i ws H'=>Same H H' /\ H' acc=some (.lst ws) /\ ws=zs.take i) (yG hz) ?_ ?_ ?_ ?_ ?_ ?_
 ·rintro acc i ws H' hi ⟨s,_,_⟩
  exact ⟨_,_,s.seq h1,s.seq h2,hi,by omega⟩
 ·rintro acc ws H' ⟨s,_,_⟩
  exact ⟨_,_,s.seq h1,s.seq h2,.inl (zE _)⟩
 ·intro acc ha
  exact ⟨zO ha _,zF,rfl⟩
 ·rintro acc i ws H' ⟨s,ha,rfl⟩
  exact ⟨ha,by rw [qO]; omega⟩
 ·rintro acc i ws H' ts x H2 N hn hi ⟨s,ha,rfl⟩ ⟨T,u,v,rfl,hT,rfl,e1,e2⟩ hts hN
  have hu:=e1 _ (s.seq h1)
  have hv:=e2 _ (s.seq h2)
  obtain ⟨z,hzi⟩:∃ z,zs[i]? = some z:=⟨_,qA (by omega)⟩
  obtain ⟨t0,t1,rfl⟩:∃ t0 t1,ts=[t0,t1]:=by
   match ts,hts with
   | [a,b],_=>exact ⟨a,b,rfl⟩
  rw [w_gTupM]
  refine ⟨[u,v],zF,rfl,?_⟩
  rw [jj,xN,jj,xN,zBj,zA1,if_pos rfl]
  have sT:=zO hT (.tup [u,v])
  refine hb i u v z _ _ hu hv hzi (s.trans sT) ?_
  have tk:zs.take (i+1)=zs.take i ++ [z]:=by rw [za,hzi]; rfl
  refine ⟨sT _ _ ha,hN _ [some u,some v] _ rfl ⟨same_upd hn (s.trans sT),zF,tk.symm⟩⟩
 ·rintro acc ws H' hn ⟨s,ha,rfl⟩
  refine hd acc H' hn s ?_
  rw [ha,xF (by omega)]
theorem comp_rows {n:Nat}(hz:n <= 1000)(row:Nat -> List Int)(ex:List Addr)(hex:∀ e ∈ ex,H e ≠ none)
  (hb:∀ (i:Nat) H' (R:VK),i < n -> Same H H' -> (∀ r H5,H' r=none -> Same H' H5 -> H5 r=some (.lst ((row i).map V.int)) -> R (.ref r) H5) -> te (some (.int (0+(i:Int))) :: yZ cs σ) H' R)
  (hd:∀ acc ys H',H acc=none -> Same H H' -> H' acc=some (.lst ys) -> HRs H' (acc :: ex) ys ((yr n).map row) -> Q (.ref acc) H') :
  y9 (Itr 0 n) 1 cs (xk 0) tYes te σ H Q:=by
 refine jO n (fun acc i ws H'=>Same H H' /\ H acc=none /\ H' acc=some (.lst ws) /\ HRs H' (acc :: ex) ws ((yr i).map row)) (yG hz) ?_ ?_ ?_ ?_ ?_ ?_
 ·rintro acc i ws H' hi _
  exact hi
 ·rintro acc ws H' _
  exact zE _
 ·intro acc ha
  exact ⟨zO ha _,ha,zF,hrs_nil⟩
 ·rintro acc i ws H' ⟨s,_,ha,hr⟩
  exact ⟨ha,by rw [hr.len,qC,jJ]; exact zE _⟩
 ·rintro acc i ws H' ts x H2 N hn hi ⟨s,hn',ha,hr⟩ ⟨rfl,rfl⟩ hts hN
  obtain ⟨t0,rfl⟩:∃ t0,ts=[t0]:=by
   match ts,hts with
   | [a],_=>exact ⟨a,rfl⟩
  rw [xN,zA1,if_pos rfl]
  refine hb i _ _ hi s fun r H5 hr0 s5 h5=>?_
  refine ⟨s5 _ _ ha,hN _ [_] _ rfl ⟨same_upd hn (s.trans s5),hn,zF,?_⟩⟩
  have hra:r ≠ acc:=(ne_of_none ha hr0).symm
  have ne:∀ e ∈ acc :: ex,r ≠ e:=fun e he=>by
   rcases zV.mp he with z | z
   ·subst z; exact hra
   ·cases hh:H e with
    | none=>exact absurd hh (hex e z)
    | some o=>exact (ne_of_none (s _ _ hh) hr0).symm
  have h2:HRs (upd H5 acc (.lst (ws ++ [.ref r]))) (acc :: ex) (ws ++ [.ref r]) ((yr i).map row ++ [row i]):=by
   refine HRs.snoc ((hr.same s5).chg zb (Chg.upd _)) ?_ ne
   rw [yH hra]; exact h5
  rw [List.range_succ,yC]
  exact h2
 ·rintro acc ws H' hn ⟨s,_,ha,hr⟩
  exact hd acc ws H' hn s ha hr
end
def yY (n i:Nat):List Int:=(yr n).map fun k=>if k=i then 1 else 0
def unV (i:Nat):V -> Option V:=fun x=>match x with
 | .int k=>some (.int (if k=(i:Int) then 1 else 0))
 | _=>none
theorem unV_map (n i:Nat):(Jk 0 n).filterMap (unV i)=(yY n i).map V.int:=by
 unfold Jk yY
 rw [yb,List.filterMap_map]
 rw [show (unV i ∘ fun (k:Nat)=>V.int (0+(k:Int)))=fun k=>some ((V.int ∘ fun k=>if k=i then 1 else 0) k) from ?_,jk]
 funext k
 show some (V.int (if 0+(k:Int)=(i:Int) then 1 else 0))=some (V.int (if k=i then 1 else 0))
 by_cases h:k=i
 ·subst h; rw [if_pos (by omega),if_pos rfl]
 ·rw [if_neg (by omega),if_neg h]
theorem zBy (n i:Nat):(yY n i).length=n:=by unfold yY; rw [qC,jJ]
theorem unitRow_bound {n i:Nat}{x:Int}(h:x ∈ yY n i):x=0 \/ x=1:=by
 unfold yY at h
 obtain ⟨k,_,rfl⟩:=qP.mp h
 by_cases e:k=i
 ·rw [if_pos e]; exact .inr rfl
 ·rw [if_neg e]; exact .inl rfl
end L2
namespace L2
open PySem PySem.Spec
theorem zA8 {ns:List Int}{i:Nat}{x:V}(h:(ns.map V.int)[i]? = some x):∃ n,ns[i]? = some n /\ x=V.int n:=by
 rw [qI] at h
 cases e:ns[i]? with
 | none=>rw [e] at h; cases h
 | some n=>rw [e] at h; exact ⟨n,rfl,(Option.some.inj h).symm⟩
structure WI (H:Hp) (p:Addr) (ins:Nat) (tb dl:Addr) (k:Nat) (vs us:List V) (rs:List (List Int)) (ds:List Wd) (H':Hp):Prop where
 tbl:H' tb=some (.lst vs)
 hrs:HRs H' [dl,tb,p] vs rs
 rl:rs.length=ins+k
 rb:RB (41 * k) rs
 rw_:∀ r ∈ rs,r.length=ins
 dll:H' dl=some (.lst us)
 hds:HTs j5 H' us ds
 dlen:ds.length=k
 dk:∀ (j:Nat) (d:Wd),ds[j]? = some d -> d.a < ins+j /\ d.b < ins+j /\ (d.w = "sum" \/ d.w = "less")
 chg:Chg p H H'
 ntb:H tb=none
 ndl:H dl=none
 tp:tb ≠ p
 dp:dl ≠ p
 td:tb ≠ dl
theorem HRs.sub {H:Hp}{ex ex':List Addr}{vs:List V}{rs:List (List Int)}(h:HRs H ex vs rs)(s:∀ e ∈ ex',e ∈ ex):HRs H ex' vs rs:=⟨h.len,fun k r e=>by
 obtain ⟨p,e1,e2,e3⟩:=h.at_ k r e
 exact ⟨p,e1,e2,fun z hz=>e3 z (s z hz)⟩⟩
structure WG (H:Hp) (p:Addr) (ins:Nat) (tb dl gl:Addr) (k:Nat) (vs us os:List V) (rs:List (List Int)) (ds:List Wd) (gs:List Go) (H':Hp):Prop where
 wi:WI H p ins tb dl k vs us rs ds H'
 hrs:HRs H' [gl,dl,tb,p] vs rs
 gll:H' gl=some (.lst os)
 hgs:HTs gTp H' os gs
 gk:∀ g ∈ gs,g.th < ins+k
 ngl:H gl=none
 gp:gl ≠ p
 gd:gl ≠ dl
 gt:gl ≠ tb
theorem WG.app {H:Hp}{p:Addr}{ins:Nat}{tb dl gl:Addr}{k:Nat}{vs us os:List V}{rs:List (List Int)}{ds:List Wd}{gs:List Go}{H':Hp}(h:WG H p ins tb dl gl k vs us os rs ds gs H'){x:Addr}{g:Go}
  (hx:H' x=some (.tup (gTp g))) (hg:g.th < ins+k):WG H p ins tb dl gl k vs us (os ++ [.ref x]) rs ds (gs ++ [g]) (upd H' gl (.lst (os ++ [.ref x]))):=by
 have C:Chg gl H' (upd H' gl (.lst (os ++ [.ref x]))):=Chg.upd _
 have nx:x ≠ gl:=xU hx h.gll (by intro z; cases z)
 have r1:=h.hrs.chg (l:=gl) (by simp) C
 have w1:WI H p ins tb dl k vs us rs ds (upd H' gl (.lst (os ++ [.ref x]))) :=
  { h.wi with tbl:=C _ _ h.gt.symm h.wi.tbl,hrs:=r1.sub (by intro e he; exact ze _ he),dll:=C _ _ h.gd.symm h.wi.dll,hds:=h.wi.hds.chgL h.gll C,chg:=h.wi.chg.updN h.ngl }
 refine ⟨w1,r1,zF,(h.hgs.chgL h.gll C).snoc (by rw [yH nx]; exact hx),fun e he=>?_,h.ngl,h.gp,h.gd,h.gt⟩
 rcases yS.mp he with z | z
 ·exact h.gk e z
 ·rw [zT.mp z]; exact hg
end L2
namespace L2
open PySem PySem.Spec
structure Wb (H:Hp) (w dl gl:Addr) (ins:Nat) (us:List V) (ds:List Wd) (os:List V) (gs:List Go):Prop where
 tup:H w=some (.tup [.int ins,.ref dl,.ref gl])
 dll:H dl=some (.lst us)
 hds:HTs j5 H us ds
 gll:H gl=some (.lst os)
 hgs:HTs gTp H os gs
theorem Wb.same {H H':Hp}{w dl gl:Addr}{ins:Nat}{us:List V}{ds:List Wd}{os:List V}{gs:List Go}(h:Wb H w dl gl ins us ds os gs)(s:Same H H'):Wb H' w dl gl ins us ds os gs :=
 ⟨s _ _ h.tup,s _ _ h.dll,h.hds.same s,s _ _ h.gll,h.hgs.same s⟩
def sgW (w:Str):Int:=if w = "less" then -1 else 1
structure Ar where
 st:Nat
 go:Nat
 sh:Int
 sg:Int
def aTup (a:Ar):List V:=[.int a.st,.int a.go,.int a.sh,.int a.sg]
def arrF (ins:Nat):Nat -> List Wd -> List Ar
 | _,[]=>[]
 | k,d :: r=>⟨d.a,ins+k,d.s,1⟩ :: ⟨d.b,ins+k,d.t,sgW d.w⟩ :: arrF ins (k+1) r
theorem arrF_app (ins:Nat):∀ (xs ys:List Wd) (k:Nat),arrF ins k (xs ++ ys)=arrF ins k xs ++ arrF ins (k+xs.length) ys
 | [],ys,k=>rfl
 | d :: r,ys,k=>by
  show ⟨d.a,ins+k,d.s,1⟩ :: ⟨d.b,ins+k,d.t,sgW d.w⟩ :: arrF ins (k+1) (r ++ ys)=_
  rw [arrF_app ins r ys (k+1),show k+1+r.length=k+(d :: r).length by simp; omega]
  rfl
theorem JW (ins:Nat):∀ (xs:List Wd) (k:Nat),(arrF ins k xs).length=2 * xs.length
 | [],_=>rfl
 | d :: r,k=>by
  show (arrF ins (k+1) r).length+1+1=_
  rw [JW ins r (k+1)]; simp; omega
theorem arr_at {ins:Nat}:∀ {ds:List Wd} {k t:Nat} {a:Ar},(arrF ins k ds)[t]? = some a -> ∃ d,ds[t / 2]? = some d /\ a.go=ins+k+t / 2 /\ ((t % 2=0 /\ a=⟨d.a,ins+k+t / 2,d.s,1⟩) \/ (t % 2=1 /\ a=⟨d.b,ins+k+t / 2,d.t,sgW d.w⟩))
 | [],k,t,a,h=>by
  rw [show arrF ins k []=[] from rfl] at h
  simp at h
 | d :: r,k,t,a,h=>by
  match t,h with
  | 0,h=>cases h; exact ⟨d,rfl,rfl,.inl ⟨rfl,rfl⟩⟩
  | 1,h=>cases h; exact ⟨d,rfl,rfl,.inr ⟨rfl,rfl⟩⟩
  | t+2,h =>
   have h':(arrF ins (k+1) r)[t]? = some a:=h
   obtain ⟨e,e1,e2,e3⟩:=arr_at h'
   have q:(t+2) / 2=t / 2+1:=by omega
   have q2:ins+(k+1)+t / 2=ins+k+(t / 2+1):=by omega
   rw [q]
   rw [q2] at e2 e3
   refine ⟨e,e1,e2,?_⟩
   rcases e3 with ⟨z,e3⟩ | ⟨z,e3⟩
   ·exact .inl ⟨by omega,e3⟩
   ·exact .inr ⟨by omega,e3⟩
theorem arr_of {ins:Nat}:∀ {ds:List Wd} {k j:Nat} {d:Wd},ds[j]? = some d -> (arrF ins k ds)[2 * j]? = some ⟨d.a,ins+k+j,d.s,1⟩ /\ (arrF ins k ds)[2 * j+1]? = some ⟨d.b,ins+k+j,d.t,sgW d.w⟩
 | [],k,j,d,h=>by simp at h
 | e :: r,k,0,d,h=>by
  cases h
  exact ⟨rfl,rfl⟩
 | e :: r,k,j+1,d,h=>by
  obtain ⟨a,b⟩:=arr_of (ins:=ins) (k:=k+1) (j:=j) (d:=d) (ds:=r) h
  rw [show ins+(k+1)+j=ins+k+(j+1) by omega] at a b
  exact ⟨a,b⟩
inductive Rch (ins:Nat) (ds:List Wd) (gs:List Go):Nat -> Prop
 | root {g:Go}:g ∈ gs -> g.sg ≠ 0 -> Rch ins ds gs g.th
 | fst {k:Nat} {d:Wd}:ds[k]? = some d -> Rch ins ds gs (ins+k) -> Rch ins ds gs d.a
 | snd {k:Nat} {d:Wd}:ds[k]? = some d -> Rch ins ds gs (ins+k) -> Rch ins ds gs d.b
structure Us (ins:Nat) (ds:List Wd) (gs:List Go) (bs:List Bool):Prop where
 len:bs.length=ins+ds.length
 iff:∀ i,i < ins+ds.length -> (bs[i]? = some true ↔ Rch ins ds gs i)
structure Ps (ins:Nat) (ds:List Wd) (gs:List Go) (i:Nat) (bs:List Bool):Prop where
 len:bs.length=ins+ds.length
 snd:∀ j,bs[j]? = some true -> Rch ins ds gs j
 root:∀ g ∈ gs,g.sg ≠ 0 -> bs[g.th]? = some true
 clo:∀ t a,2 * ds.length - i <= t -> (arrF ins 0 ds)[t]? = some a -> bs[a.go]? = some true -> bs[a.st]? = some true
theorem set_true {bs:List Bool}{j i:Nat}(h:bs[i]? = some true):(bs.set j true)[i]? = some true:=by
 rw [List.getElem?_set]
 split
 ·split
  ·rfl
  ·rename_i e1 e2
   subst e1
   have:=(qB.mp h).1
   omega
 ·exact h
theorem Ps.done {ins:Nat}{ds:List Wd}{gs:List Go}{bs:List Bool}(h:Ps ins ds gs (2 * ds.length) bs):Us ins ds gs bs:=by
 refine ⟨h.len,fun i _=>⟨h.snd i,fun r=>?_⟩⟩
 induction r with
 | root hg hs=>exact h.root _ hg hs
 | @fst k d hk _ ih =>
  have l:=(qB.mp hk).1
  have a:=(arr_of (ins:=ins) (k:=0) hk).1
  exact h.clo _ _ (by omega) a (ih (by omega))
 | @snd k d hk _ ih =>
  have l:=(qB.mp hk).1
  have a:=(arr_of (ins:=ins) (k:=0) hk).2
  exact h.clo _ _ (by omega) a (ih (by omega))
structure Rt (ins:Nat) (ds:List Wd) (gs:List Go) (i:Nat) (bs:List Bool):Prop where
 len:bs.length=ins+ds.length
 snd:∀ j,bs[j]? = some true -> Rch ins ds gs j
 root:∀ k g,k < i -> gs[k]? = some g -> g.sg ≠ 0 -> bs[g.th]? = some true
theorem rt_zero {ins:Nat}{ds:List Wd}{gs:List Go}:Rt ins ds gs 0 (qQ (ins+ds.length) false) :=
 ⟨qL,fun j h=>by rw [je] at h; split at h <;> simp at h,fun k g h=>by omega⟩
theorem Rt.step {ins:Nat}{ds:List Wd}{gs:List Go}{i:Nat}{bs:List Bool}(h:Rt ins ds gs i bs){g:Go}(hg:gs[i]? = some g)(hlt:g.th < ins+ds.length):Rt ins ds gs (i+1) (if g.sg=0 then bs else bs.set g.th true):=by
 by_cases z:g.sg=0
 ·rw [if_pos z]
  refine ⟨h.len,h.snd,fun k e hk he hs=>?_⟩
  by_cases q:k=i
  ·subst q
   rw [hg] at he
   cases he
   exact absurd z hs
  ·exact h.root k e (by omega) he hs
 ·rw [if_neg z]
  refine ⟨by rw [List.length_set]; exact h.len,fun j hj=>?_,fun k e hk he hs=>?_⟩
  ·by_cases e:g.th=j
   ·rw [← e]; exact .root (qE hg) z
   ·rw [j9 e] at hj
    exact h.snd j hj
  ·by_cases q:k=i
   ·subst q
    rw [hg] at he
    cases he
    rw [List.getElem?_set_self (by rw [h.len]; exact hlt)]
   ·exact set_true (h.root k e (by omega) he hs)
theorem Rt.done {ins:Nat}{ds:List Wd}{gs:List Go}{bs:List Bool}(h:Rt ins ds gs gs.length bs):Ps ins ds gs 0 bs:=by
 refine ⟨h.len,h.snd,fun g hg hs=>?_,fun t a ht ha=>?_⟩
 ·obtain ⟨k,hk⟩:=zz hg
  exact h.root k g (qB.mp hk).1 hk hs
 ·have:=(qB.mp ha).1
  rw [JW] at this
  omega
def spSnd:Sp:=fun vs H Q _=>∃ (x:Addr) (d:Wd),vs=[.ref x] /\ H x=some (.tup (j5 d)) /\ Q (.int (sgW d.w)) H
theorem zBR {α:Type}{f:α -> V}{xs:List α}{j:Nat}{x:α}(h:xs[j]? = some x):atI (xs.map f) (j:Int)=some (f x):=yz (by rw [qI,h]; rfl)
theorem ixN_nat {n j:Nat}(h:j < n):ixN n (j:Int)=some j:=by unfold ixN; rw [if_pos (by omega),if_pos (by omega)]; rfl
end L2
namespace L2
open PySem PySem.Spec
section
variable {H:Hp}{Q:VK}
theorem w_pop {l:Addr}:rPop (.ref l) [] H Q = ∃ xs y,H l=some (.lst xs) /\ xs[xs.length - 1]? = some y /\ Q y (upd H l (.lst xs.dropLast)) :=
 propext ⟨fun ⟨l',xs,y,e,_,h,g,q⟩=>by cases e; exact ⟨xs,y,h,g,q⟩,fun ⟨xs,y,h,g,q⟩=>⟨l,xs,y,rfl,rfl,h,g,q⟩⟩
theorem w_extend {l b:Addr}:rExtend (.ref l) [.ref b] H Q = ∃ xs zs,H l=some (.lst xs) /\ H b=some (.lst zs) /\ xs.length+zs.length <= sizeLine /\ Q .non (upd H l (.lst (xs ++ zs))) :=
 propext ⟨fun ⟨l',b',xs,zs,e,e2,h⟩=>by cases e; cases e2; exact ⟨xs,zs,h⟩,fun ⟨xs,zs,h⟩=>⟨l,b,xs,zs,rfl,rfl,h⟩⟩
theorem zBm {l:Addr}:rReverse (.ref l) [] H Q = ∃ xs,H l=some (.lst xs) /\ Q .non (upd H l (.lst xs.reverse)) :=
 propext ⟨fun ⟨l',xs,e,_,h⟩=>by cases e; exact ⟨xs,h⟩,fun ⟨xs,h⟩=>⟨l,xs,rfl,rfl,h⟩⟩
theorem w_clear {l:Addr}:rClear (.ref l) [] H Q = ∃ xs,H l=some (.lst xs) /\ Q .non (upd H l (.lst [])) :=
 propext ⟨fun ⟨l',xs,e,_,h⟩=>by cases e; exact ⟨xs,h⟩,fun ⟨xs,h⟩=>⟨l,xs,rfl,rfl,h⟩⟩
theorem w_cat {l b:Addr}:rCat (.ref l) (.ref b) H Q = ∃ xs zs,H l=some (.lst xs) /\ H b=some (.lst zs) /\ xs.length+zs.length <= sizeLine /\ ∀ p,H p=none -> Q (.ref p) (upd H p (.lst (xs ++ zs))) :=
 propext ⟨fun ⟨l',b',xs,zs,e,e2,h⟩=>by cases e; cases e2; exact ⟨xs,zs,h⟩,fun ⟨xs,zs,h⟩=>⟨l,b,xs,zs,rfl,rfl,h⟩⟩
end
section
variable {X:Cx}
theorem call_listK (K:zA)(h:X.K=K:=by rfl):CallR X (.type "list") (fun xs H Q=>∃ p ys,xs=[.ref p] /\ (SqL K H p ys \/ SqT K H p ys) /\ ∀ l,H l=none -> Q (.ref l) (upd H l (.lst ys))):=by subst h; exact JB
theorem ix_tupK (K:zA)(h:X.K=K:=by rfl):IxR X (rIxT K):=by subst h; exact ix_tup
end
section
variable {K:zA}{σ:St}{H:Hp}{Q:VK}{cs:List Nat}{tt:TT}{te:TE}
end
def fr (ms:List Nat):Nat -> Nat
 | 0=>0
 | n+1=>(if n ∈ ms then 0 else 1)+fr ms n
theorem hts_isL {α:Type}{f:α -> List V}{K:zA}{H:Hp}(hf:∀ a,(f a).all jN=true):∀ {xs:List α} {vs:List V},HTs f H vs xs -> IsL K H vs (xs.map fun a=>.t ((f a).map Dt.f))
 | [],vs,h=>by
  have:vs=[]:=List.eq_nil_of_length_eq_zero h.len
  subst this
  rw [jn,IsL]
 | a :: r,vs,h=>by
  obtain ⟨p,h1,h2⟩:=h.at_ 0 a rfl
  cases vs with
  | nil=>cases h1
  | cons v vs =>
   cases h1
   rw [zR,IsL]
   refine ⟨_,_,rfl,is_tup (SqT.of h2) (hf a),hts_isL hf ⟨by have:=h.len; simpa using this,fun k x hx=>?_⟩⟩
   exact h.at_ (k+1) x hx
theorem depL_tups {α:Type}{f:α -> List V}:∀ (xs:List α),depL (xs.map fun a=>.t ((f a).map Dt.f)) <= 1
 | []=>by rw [jn,depL]; decide
 | a :: r=>by
  rw [zR,depL,dep_t]
  have:=depL_tups (f:=f) r
  omega
structure Hd (H:Hp) (ex:List Addr) (hs:List V):Prop where
 at_:∀ v ∈ hs,∃ (q f d:Addr) (bs:List Bool),v = .ref q /\ H q=some (.lst [.ref f,.ref d]) /\ H f=some (.lst (bs.map V.bl)) /\ H d=some (.lst (bs.map V.bl)) /\ bs.length <= 200 /\ ∀ e ∈ ex,q ≠ e /\ f ≠ e /\ d ≠ e
end L2
namespace L2
open PySem PySem.Spec PyProof.Rows
section
variable {prog:Program}{w:World}{A:Around}{E:Value -> Shared -> Prop}{s:Shared}
end
section
variable {prog:Program}{w:World}{A:Around}{s:Shared}{R:Result -> Shared -> Prop}{xs ys:Array Value}{z TI TO i1 i2 l1 l2 S lo:Addr}
end
section
variable {prog:Program}{w:World}{A:Around}{E:Value -> Shared -> Prop}{s:Shared}{xs ys:Array Value}{z TI TO i1 i2 l1 l2:Addr}
end
def tLZ (K:zA)(ta:TA):TE:=fun σ H Q=>ta σ H fun vs H1=>∃ a b us ws,vs=[.ref a,.ref b] /\ SqL K H1 a us /\ SqL K H1 b ws /\ ws.length=us.length /\ us.length <= 1000 /\
 ∀ l zs H',H1 l=none -> Same H1 H' -> H' l=some (.lst zs) -> zs.length=us.length -> (∀ (k:Nat) (x y:V),us[k]? = some x -> ws[k]? = some y -> ∃ t:Addr,zs[k]? = some (.ref t) /\ H' t=some (.tup [x,y])) -> Q (.ref l) H'
theorem w_LZ {K:zA}{ta:TA}{σ:St}{H:Hp}{Q:VK}:tLZ K ta σ H Q=(ta σ H fun vs H1=>∃ a b us ws,vs=[.ref a,.ref b] /\ SqL K H1 a us /\ SqL K H1 b ws /\ ws.length=us.length /\ us.length <= 1000 /\
 ∀ l zs H',H1 l=none -> Same H1 H' -> H' l=some (.lst zs) -> zs.length=us.length -> (∀ (k:Nat) (x y:V),us[k]? = some x -> ws[k]? = some y -> ∃ t:Addr,zs[k]? = some (.ref t) /\ H' t=some (.tup [x,y])) -> Q (.ref l) H'):=rfl
end L2
namespace L2
open PySem PySem.Spec
def rowD (rs:List (List Int))(d:Wd):List Int:=yy (fun x y=>mvI d.s x+sgW d.w * mvI d.t y) (rs.getD d.a []) (rs.getD d.b [])
def rowsW (ins:Nat)(ds:List Wd):List (List Int):=ds.foldl (fun rs d=>rs ++ [rowD rs d]) ((yr ins).map (yY ins))
theorem xT (ins:Nat)(ds:List Wd)(d:Wd):rowsW ins (ds ++ [d])=rowsW ins ds ++ [rowD (rowsW ins ds) d]:=by unfold rowsW; rw [j2]; rfl
theorem rowsW_len (ins:Nat)(ds:List Wd):(rowsW ins ds).length=ins+ds.length:=by
 refine yu (p:=fun ds=>(rowsW ins ds).length=ins+ds.length) ?_ (fun xs x ih=>?_) ds
 ·unfold rowsW; simp
 ·rw [xT,qF,ih]; simp; omega
theorem JE (ins:Nat)(ds new:List Wd){k:Nat}{r:List Int}(h:(rowsW ins ds)[k]? = some r):(rowsW ins (ds ++ new))[k]? = some r:=by
 refine yu (p:=fun new=>(rowsW ins (ds ++ new))[k]? = some r) (by rw [zp]; exact h) (fun xs x ih=>?_) new
 rw [← zr,xT,qH (qB.mp ih).1]
 exact ih
theorem zY {α:Type}{xs:List α}{k:Nat}{x d:α}(h:xs[k]? = some x):xs.getD k d=x:=by rw [qD,h]; rfl
def Dv (s:Int)(r:List Int):Prop:=s < 0 -> ∀ x ∈ r,(2:Int) ^ (-s).toNat ∣ x
def Sh (s:Int)(r:List Int):Prop:=-40 <= s /\ s <= 40 /\ Dv s r
def ShOk (ins:Nat)(ds:List Wd):Prop:=∀ (k:Nat) (d:Wd),ds[k]? = some d -> d.a < ins+k /\ d.b < ins+k /\ Sh d.s ((rowsW ins ds).getD d.a []) /\ Sh d.t ((rowsW ins ds).getD d.b [])
theorem zAl (ins:Nat)(ds:List Wd)(d:Wd){j:Nat}(h:j < ins+ds.length):(rowsW ins (ds ++ [d])).getD j []=(rowsW ins ds).getD j []:=by
 have hj:j < (rowsW ins ds).length:=by rw [rowsW_len]; exact h
 have e:=qA hj
 rw [zY e,zY (JE ins ds [d] e)]
theorem ShOk.snoc {ins:Nat}{ds:List Wd}{d:Wd}(h:ShOk ins ds)(h1:d.a < ins+ds.length)(h2:d.b < ins+ds.length)(h3:Sh d.s ((rowsW ins ds).getD d.a []))(h4:Sh d.t ((rowsW ins ds).getD d.b [])):ShOk ins (ds ++ [d]):=fun k e he=>by
 rcases get_snoc he with ⟨hk,z⟩ | ⟨hk,rfl⟩
 ·obtain ⟨a,b,c,f⟩:=h k e z
  rw [zAl ins ds d (by omega),zAl ins ds d (by omega)]
  exact ⟨a,b,c,f⟩
 ·rw [zAl ins ds _ h1,zAl ins ds _ h2,hk]
  exact ⟨h1,h2,h3,h4⟩
def GoOk (ins:Nat)(ds:List Wd)(gs:List Go):Prop:=∀ g ∈ gs,g=⟨0,0,0⟩ \/ ((g.sg=1 \/ g.sg = -1) /\ Sh g.sh ((rowsW ins ds).getD g.th []))
structure FWeb (ins:Nat) (ds:List Wd) (gs:List Go):Prop where
 ok:WebOk ins ds gs
 sh:ShOk ins ds
 go:GoOk ins ds gs
 rb:RB (41 * ds.length) (rowsW ins ds)
 wd:∀ r ∈ rowsW ins ds,r.length=ins
structure FI (H:Hp) (p:Addr) (ins:Nat) (tb dl:Addr) (k:Nat) (vs us:List V) (ds:List Wd) (H':Hp):Prop where
 wi:WI H p ins tb dl k vs us (rowsW ins ds) ds H'
 sh:ShOk ins ds
theorem row_of {H':Hp}{ex:List Addr}{vs:List V}{rs:List (List Int)}(h:HRs H' ex vs rs){j:Nat}(hj:j < rs.length):∃ (l:Addr) (r:List Int),rs[j]? = some r /\ atI vs (j:Int)=some (.ref l) /\ H' l=some (.lst (r.map V.int)) /\ r ∈ rs /\ ∀ e ∈ ex,l ≠ e:=by
 obtain ⟨l,e1,e2,e3⟩:=h.at_ j _ (qA hj)
 exact ⟨l,rs[j],qA hj,yz e1,e2,jd hj,e3⟩
theorem FI.app {H:Hp}{p:Addr}{ins:Nat}{tb dl:Addr}{k:Nat}{vs us:List V}{ds:List Wd}{H' H1 H3:Hp}(h:FI H p ins tb dl k vs us ds H')(hi:ins <= 12){d:Wd}{x:Addr}(s1:Same H' H1)(hx:H1 x=some (.tup (j5 d)))
  (s3:Same (upd H1 dl (.lst (us ++ [.ref x]))) H3) {l:Addr} (hl:H3 l=some (.lst ((rowD (rowsW ins ds) d).map V.int))) (nl:(upd H1 dl (.lst (us ++ [.ref x]))) l=none) (lp:l ≠ p) (h1:d.a < ins+k) (h2:d.b < ins+k) (hw:d.w = "sum" \/ d.w = "less")
  (h3:Sh d.s ((rowsW ins ds).getD d.a [])) (h4:Sh d.t ((rowsW ins ds).getD d.b [])) (hr:(rowD (rowsW ins ds) d).length=ins) (hb:∀ x ∈ rowD (rowsW ins ds) d,x.natAbs <= 2 ^ (41 * (k+1))) :
  FI H p ins tb dl (k+1) (vs ++ [.ref l]) (us ++ [.ref x]) (ds ++ [d]) (upd H3 tb (.lst (vs ++ [.ref l]))):=by
 have wi:=h.wi
 have d1:=s1 _ _ wi.dll
 have t1:=s1 _ _ wi.tbl
 have t2:(upd H1 dl (.lst (us ++ [.ref x]))) tb=some (.lst vs):=by rw [yH wi.td]; exact t1
 have t3:=s3 _ _ t2
 have d3:=s3 dl _ zF
 have ltb:l ≠ tb:=(ne_of_none t2 nl).symm
 have ldl:l ≠ dl:=by
  intro z
  rw [z,zF] at nl
  cases nl
 have r3:HRs H3 [dl,tb,p] vs (rowsW ins ds):=((wi.hrs.same s1).chg (l:=dl) (by simp) (Chg.upd _)).same s3
 have nx:x ≠ dl:=xU hx d1 (by intro z; cases z)
 have hd2:HTs j5 (upd H1 dl (.lst (us ++ [.ref x]))) (us ++ [.ref x]) (ds ++ [d]):=((wi.hds.same s1).chgL d1 (Chg.upd _)).snoc (by rw [yH nx]; exact hx)
 have hd3:=(hd2.same s3).chgL t3 (Chg.upd (.lst (vs ++ [.ref l])))
 have dlen:(ds ++ [d]).length=k+1:=by simp [wi.dlen]
 refine ⟨⟨zF,?_,?_,?_,?_,?_,hd3,dlen,fun j e he=>?_,?_,wi.ntb,wi.ndl,wi.tp,wi.dp,wi.td⟩,h.sh.snoc (by rw [wi.dlen]; exact h1) (by rw [wi.dlen]; exact h2) h3 h4⟩
 ·rw [xT]
  refine (r3.chg (l:=tb) (by simp) (Chg.upd _)).snoc (by rw [yH ltb]; exact hl) fun e he=>?_
  simp only [zV,yQ,or_false] at he
  rcases he with z | z | z <;> subst z <;> assumption
 ·rw [rowsW_len,dlen]
 ·rw [xT]
  exact wi.rb.snoc (by omega) (by omega) hb
 ·intro q hq
  rw [xT] at hq
  rcases yS.mp hq with z | z
  ·exact wi.rw_ q z
  ·rw [zT.mp z]; exact hr
 ·rw [yH wi.td.symm]; exact d3
 ·rcases get_snoc he with ⟨hj,z⟩ | ⟨hj,rfl⟩
  ·exact wi.dk j e z
  ·rw [hj,wi.dlen]; exact ⟨h1,h2,hw⟩
 ·exact Chg.updN (((wi.chg.trans s1.chg).updN wi.ndl).trans s3.chg) wi.ntb
theorem rowD_bound {rs:List (List Int)}{d:Wd}{k ins:Nat}(h:RB (41 * k) rs)(hw:∀ r ∈ rs,r.length=ins)(ha:d.a < rs.length)(hb:d.b < rs.length)(s0:-40 <= d.s)(s1:d.s <= 40)(t0:-40 <= d.t)(t1:d.t <= 40) :
  (rowD rs d).length=ins /\ ∀ x ∈ rowD rs d,x.natAbs <= 2 ^ (41 * (k+1)):=by
 have ea:=zY (d:=[]) (qA ha)
 have eb:=zY (d:=[]) (qA hb)
 have ma:=jd ha
 have mb:=jd hb
 unfold rowD
 rw [ea,eb]
 refine ⟨by rw [List.length_zipWith,hw _ ma,hw _ mb]; omega,fun x hx=>?_⟩
 obtain ⟨i,hi⟩:=zz hx
 rw [List.getElem?_zipWith] at hi
 cases h1:rs[d.a][i]? with
 | none=>rw [h1] at hi; cases hi
 | some u =>
  cases h2:rs[d.b][i]? with
  | none=>rw [h1,h2] at hi; cases hi
  | some v =>
   rw [h1,h2] at hi
   cases hi
   have b1:=mvI_bound s0 s1 ((h _ ma).2 u (qE h1))
   have b2:=mvI_bound t0 t1 ((h _ mb).2 v (qE h2))
   have pw:2 ^ (41 * (k+1))=2 ^ (41 * k+40)+2 ^ (41 * k+40):=by
    rw [show 41 * (k+1)=41 * k+40+1 by omega,Nat.pow_succ]; omega
   rw [pw]
   have hg:sgW d.w=1 \/ sgW d.w = -1:=by
    unfold sgW
    split
    ·exact .inr rfl
    ·exact .inl rfl
   have:=abs_le_of (g:=1) (h:=sgW d.w) (.inl rfl) hg b1 b2
   rw [yN] at this
   exact this
section
variable {K:zA}{σ:St}{H:Hp}{Q:VK}{cs:List Nat}{te:TE}
end
theorem Jl {s n:Int}(h:0 <= s):mvI s n=n * 2 ^ s.toNat:=by
 unfold mvI
 rw [if_neg (by omega)]
 by_cases z:0 > 0 - s
 ·rw [if_pos z]; simp
 ·rw [if_neg z,show s=0 by omega]; simp
theorem Jy {s n:Int}(h:s < 0):mvI s n=n / 2 ^ (-s).toNat:=by
 unfold mvI
 rw [if_pos (by omega),if_neg (by omega),show (0 - s) = -s by omega]
 simp
structure FG (H:Hp) (p:Addr) (ins:Nat) (tb dl gl:Addr) (k:Nat) (vs us os:List V) (ds:List Wd) (gs:List Go) (H':Hp):Prop where
 wg:WG H p ins tb dl gl k vs us os (rowsW ins ds) ds gs H'
 sh:ShOk ins ds
 go:GoOk ins ds gs
theorem FG.app {H:Hp}{p:Addr}{ins:Nat}{tb dl gl:Addr}{k:Nat}{vs us os:List V}{ds:List Wd}{gs:List Go}{H':Hp}(h:FG H p ins tb dl gl k vs us os ds gs H'){x:Addr}{g:Go}
  (hx:H' x=some (.tup (gTp g))) (hg:g.th < ins+k) (hs:g=⟨0,0,0⟩ \/ ((g.sg=1 \/ g.sg = -1) /\ Sh g.sh ((rowsW ins ds).getD g.th []))):FG H p ins tb dl gl k vs us (os ++ [.ref x]) ds (gs ++ [g]) (upd H' gl (.lst (os ++ [.ref x]))):=by
 refine ⟨h.wg.app hx hg,h.sh,fun e he=>?_⟩
 rcases yS.mp he with z | z
 ·exact h.go e z
 ·rw [zT.mp z]; exact hs
end L2
namespace L2
open PySem PySem.Spec
def iT (r:List Int):List V:=r.map V.int
theorem shV_mv {n s:Int}{r:List Int}(hn:n ∈ r)(h:Dv s r):shV n s = .int (mvI s n):=by
 unfold shV
 by_cases z:0 <= s
 ·rw [if_pos z,Jl z]
 ·rw [if_neg z,Jy (by omega),if_pos (ediv_iff.mpr (h (by omega) n hn))]
def shRV (s:Int):V -> Option V:=fun x=>match x with
 | .int n=>some (shV n s)
 | _=>none
theorem shRV_map {s:Int}{r:List Int}(h:Dv s r):(r.map V.int).filterMap (shRV s)=(r.map (mvI s)).map V.int:=by
 rw [List.filterMap_map,yb]
 have e:(r.filterMap (shRV s ∘ V.int))=r.map fun n=>shV n s:=jk (fun n=>shV n s) r
 rw [e]
 exact yi fun x hx=>shV_mv hx h
section
variable {K:zA}{σ:St}{H:Hp}{Q:VK}{cs:List Nat}{te:TE}
theorem comp_tups {J:It}{α:Type}{f:α -> List V}{xs:List V}(zs:List α)(hzl:zs.length=xs.length)(hz:xs.length <= 1000)
  (hJ:∀ H',Same H H' -> (∀ i,i < xs.length -> J.go i H') /\ (∀ i x H2,J.yld i H' x H2 -> H2=H' /\ (i < xs.length -> xs[i]? = some x)) /\ J.stop xs.length H')
  (hb:∀ (i:Nat) x z H' (R:VK),xs[i]? = some x -> zs[i]? = some z -> Same H H' -> (∀ r H5,H' r=none -> Same H' H5 -> H5 r=some (.tup (f z)) -> R (.ref r) H5) -> te (some x :: yZ cs σ) H' R)
  (hd:∀ acc ys H',H acc=none -> Same H H' -> H' acc=some (.lst ys) -> HTs f H' ys zs -> Q (.ref acc) H') :
  y9 J 1 cs (xk 0) tYes te σ H Q:=by
 refine jO xs.length (fun acc i ws H'=>Same H H' /\ H' acc=some (.lst ws) /\ HTs f H' ws (zs.take i)) (yG hz) ?_ ?_ ?_ ?_ ?_ ?_
 ·rintro acc i ws H' hi ⟨s,_,_⟩
  exact (hJ _ s).1 i hi
 ·rintro acc ws H' ⟨s,_,_⟩
  exact (hJ _ s).2.2
 ·intro acc ha
  exact ⟨zO ha _,zF,hts_nil⟩
 ·rintro acc i ws H' ⟨s,ha,ht⟩
  exact ⟨ha,by rw [ht.len,qO]; omega⟩
 ·rintro acc i ws H' ts v H2 N hn hi ⟨s,ha,ht⟩ y hts hN
  obtain ⟨e,hx⟩:=(hJ _ s).2.1 i v H2 y
  have hx:=hx hi
  subst e
  obtain ⟨t0,rfl⟩:∃ t0,ts=[t0]:=by
   match ts,hts with
   | [a],_=>exact ⟨a,rfl⟩
  have hz':zs[i]? = some (zs[i]'(by omega)):=qA _
  generalize (zs[i]'(by omega))=z at hz'
  rw [xN,zA1,if_pos rfl]
  refine hb i v z _ _ hx hz' s fun r H5 hr s5 h5=>?_
  have ha5:=s5 _ _ ha
  refine ⟨ha5,hN _ [_] _ rfl ⟨same_upd hn (s.trans s5),zF,?_⟩⟩
  have tk:zs.take (i+1)=zs.take i ++ [z]:=by rw [za,hz']; rfl
  rw [tk]
  exact ((ht.same s5).chgL ha5 (Chg.upd _)).snoc (by rw [yH (xU h5 ha5 (by intro z; cases z))]; exact h5)
 ·rintro acc ws H' hn ⟨s,ha,ht⟩
  rw [xF (by omega)] at ht
  exact hd acc ws H' hn s ha ht
theorem it_R {n:Nat}{H':Hp}:(∀ i,i < (Jk 0 n).length -> (Itr 0 n).go i H') /\ (∀ i x H2,(Itr 0 n).yld i H' x H2 -> H2=H' /\ (i < (Jk 0 n).length -> (Jk 0 n)[i]? = some x)) /\ (Itr 0 n).stop (Jk 0 n).length H':=by
 rw [ji]
 exact ⟨fun i hi=>hi,fun i x H2 y=>⟨y.1,fun hi=>by rw [rngV_get hi,y.2]⟩,zE _⟩
theorem it_Ls {K:zA}{a:Addr}{xs:List V}{H:Hp}(h:SqL K H a xs){H':Hp}(s:Same H H'):(∀ i,i < xs.length -> (Itl K a).go i H') /\ (∀ i x H2,(Itl K a).yld i H' x H2 -> H2=H' /\ (i < xs.length -> xs[i]? = some x)) /\ (Itl K a).stop xs.length H':=by
 have h':=s.seq h
 exact ⟨fun i hi=>⟨xs,xs[i],h',by simp [hi]⟩,fun i x H2 y=>⟨y.1,fun _=>y.2 xs h'⟩,⟨xs,h',zE _⟩⟩
end
def spInRow:Sp:=fun vs H Q _=>∃ (n i:Nat),vs=[.int n,.int i] /\ n <= 100 /\ ∀ r H',H r=none -> Same H H' -> H' r=some (.tup (iT (yY n i))) -> Q (.ref r) H'
def spInRows:Sp:=fun vs H Q _=>∃ (n:Nat),vs=[.int n] /\ n <= 100 /\ ∀ r ys H',H r=none -> Same H H' -> H' r=some (.lst ys) -> HTs iT H' ys ((yr n).map (yY n)) -> Q (.ref r) H'
def outR (rs:List (List Int))(g:Go):List Int:=(rs.getD g.th []).map fun x=>g.sg * mvI g.sh x
theorem tup_of {H':Hp}{ys:List V}{rs:List (List Int)}(h:HTs iT H' ys rs){j:Nat}(hj:j < rs.length):∃ (l:Addr),atI ys (j:Int)=some (.ref l) /\ H' l=some (.tup (iT (rs.getD j []))) /\ rs.getD j [] ∈ rs:=by
 obtain ⟨l,e1,e2⟩:=h.at_ j _ (qA hj)
 rw [zY (qA hj)]
 exact ⟨l,yz e1,e2,jd hj⟩
theorem RB.lt {b:Nat}{rs:List (List Int)}{r:List Int}(h:RB b rs)(hr:r ∈ rs)(hb:b <= 8000):∀ x ∈ r,x.natAbs < 2 ^ 9000:=fun x hx=>yB ((h r hr).2 x hx) (yO (by decide) (by omega))
theorem zAJ {ins:Nat}{ds:List Wd}{i:Nat}{d:Wd}(hd:ds[i]? = some d):rowsW ins (ds.take (i+1))=rowsW ins (ds.take i) ++ [rowD (rowsW ins (ds.take i)) d]:=by
 rw [za,hd]
 exact xT _ _ _
theorem Jg {ins:Nat}{ds:List Wd}{i j:Nat}(hi:i <= ds.length)(hj:j < ins+i):(rowsW ins (ds.take i)).getD j []=(rowsW ins ds).getD j []:=by
 have hl:j < (rowsW ins (ds.take i)).length:=by rw [rowsW_len,qO]; omega
 have e:=qA hl
 have e2:=JE ins (ds.take i) (ds.drop i) e
 rw [yk] at e2
 rw [zY e,zY e2]
theorem rowsW_sub {ins:Nat}{ds:List Wd}{i:Nat}:∀ r ∈ rowsW ins (ds.take i),r ∈ rowsW ins ds:=fun r hr=>by
 obtain ⟨k,hk⟩:=zz hr
 have:=JE ins (ds.take i) (ds.drop i) hk
 rw [yk] at this
 exact qE this
end L2
namespace L2
open PySem PySem.Spec
theorem rowsW_zero (ins:Nat)(ds:List Wd):(rowsW ins ds).take ins=rowsW ins []:=by
 refine yu (p:=fun ds=>(rowsW ins ds).take ins=rowsW ins []) ?_ (fun xs x ih=>?_) ds
 ·exact xF (by rw [rowsW_len]; simp)
 ·rw [xT,List.take_append_of_le_length (by rw [rowsW_len]; omega)]
  exact ih
theorem xB {ins:Nat}{ds:List Wd}{i:Nat}(hi:i < ins):(rowsW ins ds).getD i []=yY ins i:=by
 have e:((rowsW ins ds).take ins)[i]? = some (yY ins i):=by
  rw [rowsW_zero]
  show ((yr ins).map (yY ins))[i]? = _
  rw [qI,Jc hi]
  rfl
 rw [List.getElem?_take_of_lt hi] at e
 exact zY e
end L2
namespace L2
open PySem PySem.Spec
def tupsDt {α:Type}(f:α -> List V)(xs:List α):Dt:=.l (xs.map fun a=>.t ((f a).map Dt.f))
section
variable {α:Type}{f:α -> List V}{K:zA}{H:Hp}{l l':Addr}{ys ys':List V}{xs:List α}{Q:VK}
theorem tups_is (hf:∀ a,(f a).all jN=true)(h:H l=some (.lst ys))(ht:HTs f H ys xs):Is K H (.ref l) (tupsDt f xs):=by
 unfold tupsDt
 rw [Is]
 exact ⟨l,ys,rfl,SqL.of h,hts_isL hf ht⟩
theorem dep_tups (xs:List α):dep (tupsDt f xs) <= 50:=by
 unfold tupsDt
 have:=depL_tups (f:=f) xs
 rw [dep]
 omega
theorem ne_tups (hf:∀ a,(f a).all jN=true)(h:H l=some (.lst ys))(ht:HTs f H ys xs)(h':H l'=some (.lst ys'))(ht':HTs f H ys' xs)(q:Q (.bl false) H):rNeD K (.ref l) (.ref l') H Q :=
 ⟨l,_,_,rfl,tups_is hf h ht,tups_is hf h' ht',dep_tups _,by rw [zBK _ (tups_is (K:=K) hf h ht)]; exact q⟩
end
end L2
namespace L2
open PySem PySem.Spec PyProof.Rows
def tLR (ta:TA):TE:=fun σ H Q=>ta σ H fun vs H1=>∃ j:Nat,vs=[.int (j:Int)] /\ j <= 1000 /\ ∀ l H',H1 l=none -> Same H1 H' -> H' l=some (.lst (Jk 0 j)) -> Q (.ref l) H'
theorem w_LR {ta:TA}{σ:St}{H:Hp}{Q:VK}:tLR ta σ H Q=(ta σ H fun vs H1=>∃ j:Nat,vs=[.int (j:Int)] /\ j <= 1000 /\ ∀ l H',H1 l=none -> Same H1 H' -> H' l=some (.lst (Jk 0 j)) -> Q (.ref l) H'):=rfl
theorem vals_rng:∀ (n k:Nat) (us:List Value),us.length=n -> (∀ (j:Nat) (v:Value),us[j]? = some v -> ∃ t,v = .int (0+((k+j:Nat):Int) * 1) t) -> Vals ((List.range' k n).map fun (i:Nat)=>V.int (0+(i:Int))) us
 | 0,k,us,hl,_=>by
  have:us=[]:=List.eq_nil_of_length_eq_zero hl
  subst this
  exact .nil
 | n+1,k,us,hl,hv=>by
  cases us with
  | nil=>cases hl
  | cons u us =>
   obtain ⟨t,e⟩:=hv 0 u rfl
   rw [List.range'_succ,zR]
   refine .cons ⟨t,by rw [e,xP,yj]⟩ (vals_rng n (k+1) us (by simpa using hl) fun j v h=>?_)
   obtain ⟨t,e⟩:=hv (j+1) v h
   exact ⟨t,by rw [e,show k+(j+1)=k+1+j by omega]⟩
theorem pe_listrange {X:Cx} {a:Expr} {ta:TA} {p q pos pos2:Pos} (hc:X.calm=true) (hg:Gl X "list") (hm:X.mg "list" = none) (hg2:Gl X "range") (hm2:X.mg "range" = none) (ha:PA X [a] ta) (hs:starEach [a] X.env=[(false,eval a X.env)]:=by rfl)
  (he:starEach [.Call (.Name "range" q) [a] [] pos2] X.env=(false,eval (.Call (.Name "range" q) [a] [] pos2) X.env) :: starEach [] X.env:=by rfl) (hpl2:(backTo pos (starEach [] X.env)).any (·.1)=false:=by rfl) :
  PE X (.Call (.Name "list" p) [.Call (.Name "range" q) [a] [] pos2] [] pos) (tLR ta):=by
 intro pins s σ H Q I h
 refine Call_ (JT I hg hm Je (PyProof.Rows.callWith_type1 ?_ he hpl2))
 rw [he]
 show wpAny _ _ (spliced ((false,eval (.Call (.Name "range" q) [a] [] pos2) X.env) :: backTo pos (starEach [] X.env))) _ _ s
 refine Calls.spliced_cons (Call_ (JT I hg2 hm2 boot_range (PyProof.Rows.callWith_type1 (thn (ha pos2 pins s σ H _ I h) fun us s1 ⟨vs,H1,I1,r1,q1⟩=>?_) hs rfl)))
 obtain ⟨j,e,hj,fin⟩:=q1
 subst e
 obtain ⟨u,rfl,ru⟩:=Vals.one r1
 obtain ⟨t,rfl⟩:=ru
 refine call_range_1 ?_
 show wpAny _ _ (spliced (backTo pos (starEach [] X.env))) _ _ _
 refine Calls.spliced_nil ?_
 have hsz:Builtin.Range.rangeSize 0 (j:Int) 1=j:=by
  unfold Builtin.Range.rangeSize
  rw [if_pos (by decide)]
  split <;> omega
 refine call_list_range (n:=j) (I.ok.hd hc) (IsRange.new ..) ?_ hsz (by omega) fun h' tk acc c k' hS hit=>?_
 ·exact small_one (by decide) (by decide) (by omega) (by omega)
 have k2:∀ b o,s1.heap.get? b=some o -> h'.get? b=some o:=fun b o e=>k' b o (Heap.get?_push_of_some _ e)
 have lo:s1.heap.objs.size <= (s1.heap.push { cls:=.type "range",data:=.fields #[.int 0 s1.toks,.int (j:Int) t,.int 1 (s1.toks+1)] }).objs.size:=by rw [Heap.size_push]; exact Nat.le_succ _
 have rv:Vals (Jk 0 j) acc.toList:=by
  have:=vals_rng j 0 acc.toList (by rw [Array.length_toList]; exact hit.1) fun i v hv=>by
   obtain ⟨t,e⟩:=hit.2 i v (by rw [← hv,Array.getElem?_toList])
   exact ⟨t,by rw [e,yf]⟩
  rw [← List.range_eq_range'] at this
  exact this
 have hn:=I1.hok.fresh lo
 have IN:=I1.laid (h':=h') (t':=tk) (o:=.lst (Jk 0 j)) k2 lo ⟨yG (by rw [ji]; exact hj),acc.toList,c,rv,by rw [Array.toArray_toList]; exact hS⟩
 exact ⟨.ref _,_,IN,rfl,fin _ _ hn (zO hn _) zF⟩
def iRngD (ta:TA):TI:=fun σ H R=>ta σ H fun vs H1=>∃ i:Int,vs=[.int i,.int (-1),.int (-1)] /\ (-1 <= i /\ i < 2 ^ 31) /\ R (Itr3 i (-1) (i+1).toNat) H1
theorem w_forD {σ:St}{H:Hp}{D:Ends}{g:TG}{tb:TS}{ta:TA}:tFor (iRngD ta) g tb D σ H=(ta σ H fun vs H1=>∃ i:Int,vs=[.int i,.int (-1),.int (-1)] /\ (-1 <= i /\ i < 2 ^ 31) /\ ForR3 i (-1) (i+1).toNat g tb D σ H1):=rfl
def keptN (bs:List Bool)(ins:Nat):Nat -> Nat
 | 0=>0
 | k+1=>keptN bs ins k+(if bs.getD (ins+k) false=true then 1 else 0)
theorem zBS (bs:List Bool)(ins:Nat):∀ k,keptN bs ins k <= k
 | 0=>zE _
 | k+1=>by
  have:=zBS bs ins k
  unfold keptN
  split <;> omega
def renN (bs:List Bool)(ins j:Nat):Nat:=if j < ins then j else ins+keptN bs ins (j - ins)
def renD (bs:List Bool)(ins:Nat)(d:Wd):Wd:=⟨d.w,renN bs ins d.a,d.s,renN bs ins d.b,d.t⟩
def renG (bs:List Bool)(ins:Nat)(g:Go):Go:=⟨renN bs ins g.th,g.sh,g.sg⟩
def keptD (bs:List Bool)(ins:Nat):Nat -> List Wd -> List Wd
 | _,[]=>[]
 | k,d :: r=>(if bs.getD (ins+k) false=true then [renD bs ins d] else []) ++ keptD bs ins (k+1) r
theorem keptD_app (bs:List Bool)(ins:Nat):∀ (xs ys:List Wd) (k:Nat),keptD bs ins k (xs ++ ys)=keptD bs ins k xs ++ keptD bs ins (k+xs.length) ys
 | [],ys,k=>rfl
 | d :: r,ys,k=>by
  show (if bs.getD (ins+k) false=true then [_] else []) ++ keptD bs ins (k+1) (r ++ ys)=((if bs.getD (ins+k) false=true then [_] else []) ++ keptD bs ins (k+1) r) ++ _
  rw [keptD_app bs ins r ys (k+1),zr,show k+1+r.length=k+(d :: r).length by simp; omega]
theorem zAm (bs:List Bool)(ins:Nat):∀ (xs:List Wd) (k:Nat),(keptD bs ins k xs).length+keptN bs ins k=keptN bs ins (k+xs.length)
 | [],k=>by show 0+_=_; simp
 | d :: r,k=>by
  have ih:=zAm bs ins r (k+1)
  have e:(keptD bs ins k (d :: r)).length=(if bs.getD (ins+k) false=true then 1 else 0)+(keptD bs ins (k+1) r).length:=by
   show ((if bs.getD (ins+k) false=true then [_] else []) ++ keptD bs ins (k+1) r).length=_
   rw [qF]
   split <;> rfl
  have e2:keptN bs ins (k+1)=keptN bs ins k+(if bs.getD (ins+k) false=true then 1 else 0):=rfl
  rw [e,show k+(d :: r).length=k+1+r.length by simp; omega,← ih,e2]
  omega
def renL (bs:List Bool)(ins k:Nat):List Int:=(yr (ins+k)).map fun j=>((renN bs ins j:Nat):Int)
theorem renL_zero (bs:List Bool)(ins:Nat):(renL bs ins 0).map V.int=Jk 0 ins:=by
 unfold renL Jk
 rw [yb,xP]
 refine yi fun j hj=>?_
 have:=List.mem_range.mp hj
 show V.int ((renN bs ins j:Nat):Int)=V.int (0+(j:Int))
 unfold renN
 rw [if_pos this,Int.zero_add]
theorem renL_succ (bs:List Bool)(ins k:Nat):renL bs ins (k+1)=renL bs ins k ++ [((ins+keptN bs ins k:Nat):Int)]:=by
 unfold renL
 rw [← Nat.add_assoc,List.range_succ,yC]
 congr 1
 show [((renN bs ins (ins+k):Nat):Int)]=_
 unfold renN
 rw [if_neg (by omega),show ins+k - ins=k by omega]
theorem renL_at {bs:List Bool}{ins k j:Nat}(h:j < ins+k):(renL bs ins k)[j]? = some ((renN bs ins j:Nat):Int):=by
 unfold renL
 rw [qI,Jc h]
 rfl
section
variable {K:zA}{σ:St}{H:Hp}{Q:VK}{cs:List Nat}{te:TE}
end
end L2
namespace L2
open PySem PySem.Spec PyProof.Rows
section
variable {prog:Program}{w:World}{A:Around}{E:Value -> Shared -> Prop}{s:Shared}
end
section
variable {prog:Program}{w:World}{A:Around}{E:Value -> Shared -> Prop}{s:Shared}
end
def Itzt (K : zA)(a b : Addr) : It :=
  ⟨fun i H => ∃ xs ys, SqT K H a xs ∧ SqT K H b ys ∧ i < xs.length ∧ i < ys.length,
   fun i H x H' => ∃ T u v, x = .ref T ∧ H T = none ∧ H' = upd H T (.tup [u, v]) ∧ (∀ xs, SqT K H a xs → xs[i]? = some u) ∧ (∀ ys, SqT K H b ys → ys[i]? = some v),
   fun i H => ∃ xs ys, SqT K H a xs ∧ SqT K H b ys ∧ (xs.length ≤ i ∨ ys.length ≤ i)⟩
def iZip2 (K:zA)(ta:TA):TI:=fun σ H R=>ta σ H fun vs H1=>∃ a b xs ys,vs=[.ref a,.ref b] /\ ((SqL K H1 a xs /\ SqL K H1 b ys /\ R (Itz K a b) H1) \/ (SqT K H1 a xs /\ SqT K H1 b ys /\ R (Itzt K a b) H1))
theorem w_compZ2 {K:zA}{σ:St}{H:Hp}{Q:VK}{ta:TA}{nt:Nat}{cs:List Nat}{g:TG}{tt:TT}{te:TE}:zAV (iZip2 K ta) nt cs g tt te σ H Q=(ta σ H fun vs H1=>∃ a b xs ys,vs=[.ref a,.ref b] /\ ((SqL K H1 a xs /\ SqL K H1 b ys /\ y9 (Itz K a b) nt cs g tt te σ H1 Q) \/ (SqT K H1 a xs /\ SqT K H1 b ys /\ y9 (Itzt K a b) nt cs g tt te σ H1 Q))):=rfl
end L2
namespace L2
open PySem PySem.Spec PyProof.Rows
structure Gt (ins:Nat) (ds:List Wd) (gs:List Go) (i:Nat) (ms:List Nat):Prop where
 sd:∀ x ∈ ms,Rch ins ds gs x
 rt:∀ g ∈ gs,g.sg ≠ 0 -> g.th ∈ ms
 cl:∀ k d,ds[k]? = some d -> ds.length <= k+i -> ins+k ∈ ms -> d.a ∈ ms /\ d.b ∈ ms
 ln:ms.length <= gs.length+2 * i
def kp (bs:List Bool)(ins j:Nat):Prop:=j < ins \/ bs[j]? = some true
instance (bs:List Bool) (ins j:Nat):Decidable (kp bs ins j):=by unfold kp; infer_instance
theorem getD_true {bs:List Bool}{j:Nat}:bs.getD j false=true ↔ bs[j]? = some true:=by
 rw [qD]
 cases bs[j]? with
 | none=>simp
 | some b=>cases b <;> simp
theorem ren_step (bs:List Bool)(ins m:Nat):renN bs ins (m+1)=renN bs ins m+(if kp bs ins m then 1 else 0):=by
 by_cases h:m < ins
 ·rw [if_pos (show kp bs ins m from Or.inl h)]
  unfold renN
  rw [if_pos h]
  by_cases h2:m+1 < ins
  ·rw [if_pos h2]
  ·rw [if_neg h2,show m+1 - ins=0 by omega]
   show ins+0=m+1
   omega
 ·by_cases z:bs[m]? = some true
  ·rw [if_pos (show kp bs ins m from Or.inr z)]
   unfold renN
   rw [if_neg h,if_neg (by omega),show m+1 - ins=m - ins+1 by omega]
   show ins+(keptN bs ins (m - ins)+_)=_
   rw [show ins+(m - ins)=m by omega,if_pos (getD_true.mpr z)]; omega
  ·rw [if_neg (show ¬ kp bs ins m by rintro (q | q); exact h q; exact z q)]
   unfold renN
   rw [if_neg h,if_neg (by omega),show m+1 - ins=m - ins+1 by omega]
   show ins+(keptN bs ins (m - ins)+_)=_
   rw [show ins+(m - ins)=m by omega,if_neg (fun q=>z (getD_true.mp q))]; omega
theorem ren_zero (bs:List Bool)(ins:Nat):renN bs ins 0=0:=by
 unfold renN
 by_cases h:0 < ins
 ·rw [if_pos h]
 ·rw [if_neg h,Nat.zero_sub]
  show ins+0=0
  omega
theorem ren_mono (bs:List Bool)(ins:Nat):∀ {j m:Nat},j <= m -> renN bs ins j <= renN bs ins m:=by
 intro j m h
 induction m with
 | zero=>rw [show j=0 by omega]; exact zE _
 | succ m ih =>
  by_cases e:j=m+1
  ·subst e; exact zE _
  ·have:=ih (by omega)
   rw [ren_step]
   omega
theorem ren_lt {bs:List Bool}{ins j m:Nat}(k:kp bs ins j)(h:j < m):renN bs ins j < renN bs ins m:=by
 have:=ren_mono bs ins (show j+1 <= m from h)
 rw [ren_step,if_pos k] at this
 omega
def ZO (gs:List Go):Prop:=∀ g ∈ gs,g.sg=0 -> g=⟨0,0,0⟩
theorem kept_at {bs:List Bool}{ins:Nat}:∀ {ds:List Wd} {k i:Nat} {d:Wd},ds[i]? = some d -> bs[ins+(k+i)]? = some true -> (keptD bs ins k ds)[keptN bs ins (k+i) - keptN bs ins k]? = some (renD bs ins d) /\ keptN bs ins k <= keptN bs ins (k+i)
 | [],k,i,d,h,_=>by cases h
 | e :: r,k,0,d,h,hb=>by
  cases h
  rw [xP] at hb
  rw [xP,ya]
  refine ⟨?_,zE _⟩
  show ((if bs.getD (ins+k) false=true then [_] else []) ++ _)[0]? = _
  rw [if_pos (getD_true.mpr hb)]
  rfl
 | e :: r,k,i+1,d,h,hb=>by
  rw [show k+(i+1)=k+1+i by omega] at hb ⊢
  obtain ⟨ih,le⟩:=kept_at (ds:=r) (k:=k+1) (i:=i) (d:=d) (by simpa using h) hb
  show ((if bs.getD (ins+k) false=true then [_] else []) ++ _)[_]? = _ /\ _
  have st:keptN bs ins (k+1)=keptN bs ins k+(if bs.getD (ins+k) false=true then 1 else 0):=rfl
  by_cases z:bs.getD (ins+k) false=true
  ·rw [if_pos z] at st ⊢
   refine ⟨?_,by omega⟩
   rw [show keptN bs ins (k+1+i) - keptN bs ins k=(keptN bs ins (k+1+i) - keptN bs ins (k+1))+1 by omega]
   exact ih
  ·rw [if_neg z] at st ⊢
   rw [xP] at st
   rw [st] at ih le
   exact ⟨ih,le⟩
theorem zAn {bs:List Bool}{ins:Nat}:∀ {ds:List Wd} {k j:Nat} {e:Wd},(keptD bs ins k ds)[j]? = some e -> ∃ i d,ds[i]? = some d /\ bs[ins+(k+i)]? = some true /\ e=renD bs ins d /\ j+keptN bs ins k=keptN bs ins (k+i)
 | [],k,j,e,h=>by cases h
 | x :: r,k,j,e,h=>by
  have h':((if bs.getD (ins+k) false=true then [renD bs ins x] else []) ++ keptD bs ins (k+1) r)[j]? = some e:=h
  have st:keptN bs ins (k+1)=keptN bs ins k+(if bs.getD (ins+k) false=true then 1 else 0):=rfl
  by_cases z:bs.getD (ins+k) false=true
  ·rw [if_pos z] at h' st
   cases j with
   | zero =>
    cases h'
    exact ⟨0,x,rfl,getD_true.mp z,rfl,by rw [xP]; omega⟩
   | succ j =>
    obtain ⟨i,d,h1,h2,h3,h4⟩:=zAn (ds:=r) (k:=k+1) (j:=j) (e:=e) h'
    exact ⟨i+1,d,by simpa using h1,by rw [show k+(i+1)=k+1+i by omega]; exact h2,h3,by rw [show k+(i+1)=k+1+i by omega]; omega⟩
  ·rw [if_neg z] at h' st
   obtain ⟨i,d,h1,h2,h3,h4⟩:=zAn (ds:=r) (k:=k+1) (j:=j) (e:=e) h'
   exact ⟨i+1,d,by simpa using h1,by rw [show k+(i+1)=k+1+i by omega]; exact h2,h3,by rw [show k+(i+1)=k+1+i by omega]; omega⟩
section
variable {ins:Nat}{ds:List Wd}{gs:List Go}{bs:List Bool}
theorem zAo {k:Nat}:renN bs ins (ins+k)=ins+keptN bs ins k:=by
 unfold renN
 rw [if_neg (by omega),show ins+k - ins=k by omega]
end
section
variable {K:zA}{σ:St}{H:Hp}{Q:VK}{cs:List Nat}{te:TE}
end
end L2
namespace L2
open PySem PySem.Spec PyProof.Rows
def TrX (h:Heap)(e:Addr)(C:Value)(d:Option Addr)(T:Addr):Prop :=
 ∃ oe vs oT ts,h.get? e=some oe /\ oe.cls=C /\ oe.dict=d /\ oe.data = .fields vs /\ vs[1]? = some (.ref T) /\ T ≠ e /\ h.get? T=some oT /\ oT.data = .fields ts /\ ts[3]? = some .none
section
variable {M:Model}{A:Around}{E:Value -> Shared -> Prop}{s:Shared}{base:Heap}{env:Env}{outer:List Env}{L e:Addr}{oe:Obj}{vs:Array Value}{Q:Unit -> Shared -> Prop}
end
section
variable {P:Program}{w:World}{K:zA}{mg:Str -> Option Value}{base:Heap}{N:List Str}{qual:Str}{scope:Scope}{f:Addr}{cd:Value}{A:Around}{outer:List Env}{s:Shared}{H:Hp}{E:XK}
end
section
variable {X:Cx}{k:Nat}{x:Str}{ps:List Str}{sp:Sp}{e:Expr}{es:List Expr}{t:TA}{p pos:Pos}{E:XK}
end
section
variable {P:Program}{w:World}{K:zA}{mg:Str -> Option Value}{base:Heap}
end
end L2
namespace L2
open PySem PySem.Spec PyProof.Rows
section
variable {M:Model}{A:Around}{E:Value -> Shared -> Prop}
end
end L2
namespace L2
open PySem PySem.Spec PyProof.Rows
def XP (X:Cx)(pins:List (Addr × Obj))(σ:St)(E:XK)(e:Value)(s':Shared):Prop:=∃ (x T:Addr) (C:Value) (d:Option Addr) (H':Hp),e = .ref x /\ Inv X pins σ H' s' /\ TrX s'.heap x C d T /\
 (X.s₀.heap.get? x=none /\ X.s₀.heap.get? T=none) /\ (∀ p ∈ X.pn ++ pins,p.1 ≠ x /\ p.1 ≠ T) /\ H' x=none /\ H' T=none /\ E C d H'
end L2
namespace L2
open PySem PySem.Spec PyProof.Rows
end L2
namespace L2
open PySem PySem.Spec PyProof.Rows
section
variable {prog:Program}{w:World}{A:Around}{E:Value -> Shared -> Prop}{s:Shared}{K:zA}{x D:Addr}{o:Obj}
end
end L2
namespace L2
open PySem PySem.Spec PyProof.Rows
end L2
namespace L2
open PySem PySem.Spec
end L2
namespace L2
open PySem PySem.Spec
structure DKR (H:Hp) (kvs:List (Key × V)) (fd:List (Int × Int)):Prop where
 len:kvs.length=fd.length
 no:∀ c,fd.lookup c=none -> valV kvs (.inl c)=none
 at_:∀ c k,fd.lookup c=some k -> ∃ r,valV kvs (.inl c)=some (.ref r) /\ H r=some (.tup [.int k,.int 0,.int 1])
theorem DKR.nil {H:Hp}:DKR H [] []:=⟨rfl,fun _ _=>rfl,fun _ _ z=>by cases z⟩
theorem DKR.same {H H':Hp}{kvs:List (Key × V)}{fd:List (Int × Int)}(h:DKR H kvs fd)(s:Same H H'):DKR H' kvs fd:=⟨h.len,h.no,fun c k e=>by
 obtain ⟨r,e1,e2⟩:=h.at_ c k e
 exact ⟨r,e1,s _ _ e2⟩⟩
theorem DKR.chgL {H H':Hp}{kvs:List (Key × V)}{fd:List (Int × Int)}{l:Addr}{us:List V}(h:DKR H kvs fd)(hl:H l=some (.lst us))(s:Chg l H H'):DKR H' kvs fd:=⟨h.len,h.no,fun c k e=>by
 obtain ⟨r,e1,e2⟩:=h.at_ c k e
 exact ⟨r,e1,s _ _ (xU e2 hl (by intro z; cases z)) e2⟩⟩
theorem DKR.chgD {H H':Hp}{kvs ks:List (Key × V)}{fd:List (Int × Int)}{l:Addr}(h:DKR H kvs fd)(hl:H l=some (.dK ks))(s:Chg l H H'):DKR H' kvs fd:=⟨h.len,h.no,fun c k e=>by
 obtain ⟨r,e1,e2⟩:=h.at_ c k e
 exact ⟨r,e1,s _ _ (xU e2 hl (by intro z; cases z)) e2⟩⟩
theorem DKR.put {H:Hp}{kvs:List (Key × V)}{fd:List (Int × Int)}{c k:Int}{r:Addr}(h:DKR H kvs fd)(hn:fd.lookup c=none)(hr:H r=some (.tup [.int k,.int 0,.int 1])):DKR H (putK kvs (.inl c) (.ref r)) (fd ++ [(c,k)]):=by
 have e:=h.no c hn
 refine ⟨?_,fun d hd=>?_,fun d m hd=>?_⟩
 ·rw [putK_new _ e,qF,qF,h.len]
  rfl
 ·rw [zAY] at hd
  by_cases z:d=c
  ·rw [if_pos z] at hd
   cases h2:fd.lookup d <;> rw [h2] at hd <;> cases hd
  ·rw [if_neg z] at hd
   rw [zAS,if_neg (fun y=>z (Sum.inl.inj y))]
   refine h.no d ?_
   cases h2:fd.lookup d with
   | none=>rfl
   | some x=>rw [h2] at hd; cases hd
 ·rw [zAY] at hd
  by_cases z:d=c
  ·subst z
   rw [hn,if_pos rfl] at hd
   cases hd
   exact ⟨r,by rw [zAS,if_pos rfl],hr⟩
  ·rw [if_neg z] at hd
   rw [zAS,if_neg (fun y=>z (Sum.inl.inj y))]
   refine h.at_ d m ?_
   cases h2:fd.lookup d with
   | none=>rw [h2] at hd; cases hd
   | some x=>rw [h2] at hd; exact hd
def spOutP (K:zA):Sp:=fun vs H Q _=>∃ (n:Int) (t:Addr) (kvs:List (Key × V)) (fd:List (Int × Int)) (ns:List Int),vs=[.int n,.ref t] /\ H t=some (.dK kvs) /\ DKR H kvs fd /\ n.natAbs < 2 ^ 200 /\ (n ≠ 0 -> ∃ k:Nat,fd.lookup (coreN n)=some (k:Int) /\ ns[k]? = some (coreN n)) /\
 ∀ (r:Addr) (a b c:Int) H',SqT K H' r [.int a,.int b,.int c] -> OutOk ns n a b c -> (n ≠ 0 -> fd.lookup (coreN n)=some a) -> Same H H' -> Q (.ref r) H'
def spMovedP (K:zA):Sp:=fun vs H Q _=>∃ (p:Addr) (a b c s g:Int),vs=[.ref p,.int s,.int g] /\ H p=some (.tup [.int a,.int b,.int c]) /\ c * g ≠ 0 /\ (-(2 ^ 64) < c) /\ c < 2 ^ 64 /\
 ∀ (r:Addr),H r=none -> Q (.ref r) (upd H r (.tup [.int a,.int (b+s),.int (c * g)]))
end L2
namespace L2
open PySem PySem.Spec
def valD (vs:List Int)(d:Wd):Int:=mvI d.s (vs.getD d.a 0)+sgW d.w * mvI d.t (vs.getD d.b 0)
def valsW (xs:List Int)(ds:List Wd):List Int:=ds.foldl (fun vs d=>vs ++ [valD vs d]) xs
theorem zA9 (xs:List Int)(ds:List Wd)(d:Wd):valsW xs (ds ++ [d])=valsW xs ds ++ [valD (valsW xs ds) d]:=by unfold valsW; rw [j2]; rfl
theorem zBn (xs:List Int)(ds:List Wd):(valsW xs ds).length=xs.length+ds.length:=by
 refine yu (p:=fun ds=>(valsW xs ds).length=xs.length+ds.length) rfl (fun ys y ih=>?_) ds
 rw [zA9,qF,ih]; simp; omega
theorem valsW_pre (xs:List Int)(ds new:List Wd){k:Nat}{r:Int}(h:(valsW xs ds)[k]? = some r):(valsW xs (ds ++ new))[k]? = some r:=by
 refine yu (p:=fun new=>(valsW xs (ds ++ new))[k]? = some r) (by rw [zp]; exact h) (fun ys y ih=>?_) new
 rw [← zr,zA9,qH (qB.mp ih).1]
 exact ih
theorem zB8 {xs:List Int}{ds:List Wd}{i:Nat}{d:Wd}(hd:ds[i]? = some d):valsW xs (ds.take (i+1))=valsW xs (ds.take i) ++ [valD (valsW xs (ds.take i)) d]:=by
 rw [za,hd]
 exact zA9 _ _ _
theorem valsW_takeD {xs:List Int}{ds:List Wd}{i j:Nat}(hi:i <= ds.length)(hj:j < xs.length+i):(valsW xs (ds.take i)).getD j 0=(valsW xs ds).getD j 0:=by
 have hl:j < (valsW xs (ds.take i)).length:=by rw [zBn,qO]; omega
 have e:=qA hl
 have e2:=valsW_pre xs (ds.take i) (ds.drop i) e
 rw [yk] at e2
 rw [zY e,zY e2]
def j8 (xs:List Int)(ds:List Wd)(i:Nat):List Int :=
 if i % 2=0 then valsW xs (ds.take (i / 2)) ++ qQ (ds.length - i / 2) 0
 else match ds[i / 2]? with
  | some d=>valsW xs (ds.take (i / 2)) ++ mvI d.s ((valsW xs (ds.take (i / 2))).getD d.a 0) :: qQ (ds.length - i / 2 - 1) 0
  | none=>[]
theorem toldA_end (xs:List Int)(ds:List Wd):j8 xs ds (2 * ds.length)=valsW xs ds:=by
 unfold j8
 rw [if_pos (by omega),show 2 * ds.length / 2=ds.length by omega,zt,ya]
 simp
theorem zBA {xs:List Int}{ds:List Wd}{i:Nat}{d:Wd}(h:i % 2=0)(hd:ds[i / 2]? = some d):j8 xs ds i=valsW xs (ds.take (i / 2)) ++ 0 :: qQ (ds.length - i / 2 - 1) 0:=by
 have hi:=(qB.mp hd).1
 unfold j8
 rw [if_pos h,show ds.length - i / 2=(ds.length - i / 2 - 1)+1 by omega,List.replicate_succ]
 rfl
theorem zAp {xs:List Int}{ds:List Wd}{i:Nat}{d:Wd}(h:i % 2=1)(hd:ds[i / 2]? = some d):j8 xs ds i=valsW xs (ds.take (i / 2)) ++ mvI d.s ((valsW xs (ds.take (i / 2))).getD d.a 0) :: qQ (ds.length - i / 2 - 1) 0:=by
 unfold j8
 rw [if_neg (by omega),hd]
theorem set_mid {α:Type}{as bs:List α}{x y:α}{n:Nat}(h:as.length=n):(as ++ x :: bs).set n y=as ++ y :: bs:=by
 subst h
 induction as with
 | nil=>rfl
 | cons a r ih=>simp [ih]
theorem set_mapI {xs:List Int}{k:Nat}{x:Int}:(xs.map V.int).set k (.int x)=(xs.set k x).map V.int:=by rw [List.map_set]
end L2
namespace L2
open PySem PySem.Spec
theorem valsW_at {xs:List Int}{ds:List Wd}{j:Nat}(h:j < xs.length+ds.length):∃ x,(valsW xs ds)[j]? = some x /\ (valsW xs ds).getD j 0=x /\ x ∈ valsW xs ds:=by
 have e:=qA (l:=valsW xs ds) (i:=j) (by rw [zBn]; exact h)
 exact ⟨_,e,zY e,qE e⟩
end L2
namespace L2
open PySem PySem.Spec
def outV (vs:List Int)(g:Go):Int:=g.sg * mvI g.sh (vs.getD g.th 0)
end L2
namespace L2
open PySem PySem.Spec PyProof PyProof.Rows
section
variable {P:Program}{w:World}{A:Around}{E:Value -> Shared -> Prop}{s:Shared}
end
section
variable {X:Cx}
end
end L2
namespace L2
open PySem PySem.Spec
def ForZ (K:zA)(a b:Addr)(g:TG)(tb:TS)(D:Ends)(σ:St)(H:Hp):Prop:=∃ W:Nat -> Nat -> St -> Hp -> Prop,(∃ m,W 0 m σ H) /\ ∀ i m σ H,W i m σ H ->
 ((Itz K a b).stop i H /\ D.nx σ H) \/ ((Itz K a b).go i H /\ ∃ N:St -> Hp -> Prop,(∀ σ' H',N σ' H' -> ∃ m',m' < m /\ W (i+1) m' σ' H') /\ ∀ x H',(Itz K a b).yld i H x H' -> g x σ H' fun σ2 H2=>tb { D with nx:=N,ct:=N,bk:=D.nx } σ2 H2)
section
variable {K:zA}{σ:St}{H:Hp}{D:Ends}{g:TG}{tb:TS}{a b:Addr}
theorem w_forZ {ta:TA}:tFor (iZip K ta) g tb D σ H=(ta σ H fun vs H1=>∃ a b xs ys,vs=[.ref a,.ref b] /\ SqL K H1 a xs /\ SqL K H1 b ys /\ ForZ K a b g tb D σ H1):=rfl
theorem forZ {xs ys:List V}(hxy:ys.length=xs.length)(Pv:Nat -> St -> Hp -> Prop)(h0:Pv 0 σ H)(hl:∀ i σ H,i <= xs.length -> Pv i σ H -> SqL K H a xs /\ SqL K H b ys)
  (hs:∀ i x y T σ H (N:St -> Hp -> Prop),xs[i]? = some x -> ys[i]? = some y -> H T=none -> Pv i σ H -> (∀ σ' H',Pv (i+1) σ' H' -> N σ' H') -> g (.ref T) σ (upd H T (.tup [x,y])) fun σ2 H2=>tb { D with nx:=N,ct:=N,bk:=D.nx } σ2 H2)
  (hd:∀ σ H,Pv xs.length σ H -> D.nx σ H):ForZ K a b g tb D σ H:=by
 refine ⟨fun i m σ H=>m=xs.length - i /\ i <= xs.length /\ Pv i σ H,⟨_,rfl,yM _,h0⟩,?_⟩
 rintro i m σ H ⟨rfl,hi,p⟩
 obtain ⟨q1,q2⟩:=hl i σ H hi p
 by_cases hlt:i < xs.length
 ·refine .inr ⟨⟨xs,ys,q1,q2,hlt,by omega⟩,Pv (i+1),fun σ' H' p'=>⟨xs.length - (i+1),by omega,rfl,hlt,p'⟩,fun x H' y=>?_⟩
  obtain ⟨T,u,v,rfl,hT,rfl,e1,e2⟩:=y
  exact hs i u v T σ H (Pv (i+1)) (e1 _ q1) (e2 _ q2) hT p fun _ _ z=>z
 ·have e:i=xs.length:=by omega
  subst e
  exact .inl ⟨⟨xs,ys,q1,q2,.inl (zE _)⟩,hd σ H p⟩
end
section
variable {K:zA}{σ:St}{H:Hp}{Q:VK}{cs:List Nat}{te:TE}
end
end L2
namespace L2
open PySem PySem.Spec
def vGD (g:Int -> Int -> Int -> Int -> Int)(z:Int)(vs:List Int)(d:Wd):Int:=g (g z d.s 1 (vs.getD d.a 0)) d.t (sgW d.w) (vs.getD d.b 0)
def vG (g:Int -> Int -> Int -> Int -> Int)(z:Int)(xs:List Int)(ds:List Wd):List Int:=ds.foldl (fun vs d=>vs ++ [vGD g z vs d]) xs
section
variable {g:Int -> Int -> Int -> Int -> Int}{z:Int}
theorem zBT (xs:List Int)(ds:List Wd)(d:Wd):vG g z xs (ds ++ [d])=vG g z xs ds ++ [vGD g z (vG g z xs ds) d]:=by unfold vG; rw [j2]; rfl
theorem vG_len (xs:List Int)(ds:List Wd):(vG g z xs ds).length=xs.length+ds.length:=by
 refine yu (p:=fun ds=>(vG g z xs ds).length=xs.length+ds.length) rfl (fun ys y ih=>?_) ds
 rw [zBT,qF,ih]; simp; omega
theorem vG_pre (xs:List Int)(ds new:List Wd){k:Nat}{r:Int}(h:(vG g z xs ds)[k]? = some r):(vG g z xs (ds ++ new))[k]? = some r:=by
 refine yu (p:=fun new=>(vG g z xs (ds ++ new))[k]? = some r) (by rw [zp]; exact h) (fun ys y ih=>?_) new
 rw [← zr,zBT,qH (qB.mp ih).1]
 exact ih
theorem vG_take {xs:List Int}{ds:List Wd}{i:Nat}{d:Wd}(hd:ds[i]? = some d):vG g z xs (ds.take (i+1))=vG g z xs (ds.take i) ++ [vGD g z (vG g z xs (ds.take i)) d]:=by
 rw [za,hd]
 exact zBT _ _ _
theorem vG_takeD {xs:List Int}{ds:List Wd}{i j:Nat}(hi:i <= ds.length)(hj:j < xs.length+i):(vG g z xs (ds.take i)).getD j 0=(vG g z xs ds).getD j 0:=by
 have hl:j < (vG g z xs (ds.take i)).length:=by rw [vG_len,qO]; omega
 have e:=qA hl
 have e2:=vG_pre xs (ds.take i) (ds.drop i) e
 rw [yk] at e2
 rw [zY e,zY e2]
end
def tG (g:Int -> Int -> Int -> Int -> Int)(z:Int)(xs:List Int)(ds:List Wd)(i:Nat):List Int :=
 if i % 2=0 then vG g z xs (ds.take (i / 2)) ++ qQ (ds.length - i / 2) z
 else match ds[i / 2]? with
  | some d=>vG g z xs (ds.take (i / 2)) ++ g z d.s 1 ((vG g z xs (ds.take (i / 2))).getD d.a 0) :: qQ (ds.length - i / 2 - 1) z
  | none=>[]
section
variable {g:Int -> Int -> Int -> Int -> Int}{z:Int}
theorem tG_end (xs:List Int)(ds:List Wd):tG g z xs ds (2 * ds.length)=vG g z xs ds:=by
 unfold tG
 rw [if_pos (by omega),show 2 * ds.length / 2=ds.length by omega,zt,ya]
 simp
theorem tG_even {xs:List Int}{ds:List Wd}{i:Nat}{d:Wd}(h:i % 2=0)(hd:ds[i / 2]? = some d):tG g z xs ds i=vG g z xs (ds.take (i / 2)) ++ z :: qQ (ds.length - i / 2 - 1) z:=by
 have hi:=(qB.mp hd).1
 unfold tG
 rw [if_pos h,show ds.length - i / 2=(ds.length - i / 2 - 1)+1 by omega,List.replicate_succ]
 rfl
theorem tG_odd {xs:List Int}{ds:List Wd}{i:Nat}{d:Wd}(h:i % 2=1)(hd:ds[i / 2]? = some d):tG g z xs ds i=vG g z xs (ds.take (i / 2)) ++ g z d.s 1 ((vG g z xs (ds.take (i / 2))).getD d.a 0) :: qQ (ds.length - i / 2 - 1) z:=by
 unfold tG
 rw [if_neg (by omega),hd]
theorem tG_step {xs:List Int}{ds:List Wd}(dk:∀ (k:Nat) (d:Wd),ds[k]? = some d -> d.a < xs.length+k /\ d.b < xs.length+k){i:Nat}{a:Ar}(ha:(arrF xs.length 0 ds)[i]? = some a) :
  ∃ x y:Int,(tG g z xs ds i)[a.st]? = some x /\ (tG g z xs ds i)[a.go]? = some y /\ x ∈ vG g z xs ds /\ (∃ d,ds[i / 2]? = some d /\ (a.sh=d.s \/ a.sh=d.t)) /\ (a.sg=1 \/ a.sg = -1) /\ (tG g z xs ds i).set a.go (g y a.sh a.sg x)=tG g z xs ds (i+1):=by
 obtain ⟨d,hd,hg,hc⟩:=arr_at ha
 rw [xP] at hg hc
 have hi:=(qB.mp hd).1
 obtain ⟨da,db⟩:=dk _ _ hd
 have tl:(vG g z xs (ds.take (i / 2))).length=xs.length+i / 2:=by rw [vG_len,qO]; omega
 have hb:∀ j,j < xs.length+i / 2 -> ∃ x,(vG g z xs (ds.take (i / 2)))[j]? = some x /\ x=(vG g z xs (ds.take (i / 2))).getD j 0 /\ x ∈ vG g z xs ds:=fun j hj=>by
  have e:=qA (l:=vG g z xs (ds.take (i / 2))) (i:=j) (by omega)
  refine ⟨_,e,(zY e).symm,?_⟩
  have e2:=vG_pre xs (ds.take (i / 2)) (ds.drop (i / 2)) e
  rw [yk] at e2
  exact qE e2
 rcases hc with ⟨hm,rfl⟩ | ⟨hm,rfl⟩
 ·obtain ⟨x,e1,e2,e3⟩:=hb d.a da
  refine ⟨x,z,?_,?_,e3,⟨d,hd,.inl rfl⟩,.inl rfl,?_⟩
  ·rw [tG_even hm hd,qH (by show d.a < _; omega)]
   exact e1
  ·rw [tG_even hm hd,qG (by show _ <= xs.length+i / 2; omega),tl]
   show (z :: _)[xs.length+i / 2 - (xs.length+i / 2)]? = _
   rw [ya]
   rfl
  ·rw [tG_even hm hd,set_mid tl,tG_odd (i:=i+1) (d:=d) (by omega) (by rw [show (i+1) / 2=i / 2 by omega]; exact hd),show (i+1) / 2=i / 2 by omega,← e2]
 ·obtain ⟨x,e1,e2,e3⟩:=hb d.b db
  have hs:sgW d.w=1 \/ sgW d.w = -1:=by
   unfold sgW
   split
   ·exact .inr rfl
   ·exact .inl rfl
  refine ⟨x,g z d.s 1 ((vG g z xs (ds.take (i / 2))).getD d.a 0),?_,?_,e3,⟨d,hd,.inr rfl⟩,hs,?_⟩
  ·rw [tG_odd hm hd,qH (by show d.b < _; omega)]
   exact e1
  ·rw [tG_odd hm hd,qG (by show _ <= xs.length+i / 2; omega),tl]
   show (_ :: _)[xs.length+i / 2 - (xs.length+i / 2)]? = _
   rw [ya]
   rfl
  ·rw [tG_odd hm hd,set_mid tl]
   unfold tG
   rw [if_pos (by omega),show (i+1) / 2=i / 2+1 by omega,vG_take hd,zr,Nat.sub_add_eq]
   show _=_ ++ (vGD _ _ _ _ :: _)
   unfold vGD
   rw [← e2]
   rfl
end
end L2
namespace L2
open PySem PySem.Spec
end L2
namespace L2
open PySem PySem.Spec
section
variable {K:zA}{σ:St}{H:Hp}{Q:VK}{cs:List Nat}{te:TE}
end
end L2
namespace L2
open PySem PySem.Spec PyProof.Rows
section
variable {prog:Program}{w:World}{A:Around}{E:Value -> Shared -> Prop}{s:Shared}
end
section
variable {prog:Program}{w:World}{A:Around}{E:Value -> Shared -> Prop}{s:Shared}
end
section
variable {K:zA}{σ:St}{H:Hp}{D:Ends}{g:TG}{tb:TS}{a b c:Addr}
end
end L2
namespace L2
open PySem PySem.Spec
end L2
namespace L2
open PySem PySem.Spec PyProof PyProof.Rows
section
variable {prog:Program}{w:World}{A:Around}{E:Value -> Shared -> Prop}{s:Shared}
end
section
variable {prog:Program}{w:World}{A:Around}{E:Value -> Shared -> Prop}{s:Shared}
end
section
variable {K:zA}{σ:St}{H:Hp}{Q:VK}{cs:List Nat}{te:TE}
end
section
variable {X:Cx}
theorem best_low (val:Nat -> Int):∀ k i,i <= k -> val (argBest (fun i j=>decide (val i < val j)) k) <= val i
 | 0,i,h=>by
  have:i=0:=by omega
  subst this
  exact zAA _
 | k+1,i,h=>by
  rw [argBest]
  by_cases hb:val (k+1) < val (argBest (fun i j=>decide (val i < val j)) k)
  ·rw [if_pos (by simpa using hb)]
   by_cases e:i=k+1
   ·subst e; exact zAA _
   ·have:=best_low val k i (by omega)
    omega
  ·rw [if_neg (by simpa using hb)]
   by_cases e:i=k+1
   ·subst e; omega
   ·exact best_low val k i (by omega)
def rMinG:List V -> Hp -> VK -> Prop:=fun xs H Q=>∃ (p:Addr) (ns:List Int),xs=[.ref p] /\ H p=some (.lst (ns.map V.int)) /\ ns ≠ [] /\ ∀ v,v ∈ ns -> (∀ n ∈ ns,v <= n) -> Q (.int v) H
theorem best_at {xs:List (Int × Tok)}{ns:List Int}(e:xs.map (·.1)=ns){bt:Nat -> Nat -> Bool}{v:Value}(hv:(xs.map fun p=>Value.int p.1 p.2).toArray[argBest bt (xs.length - 1)]? = some v):∃ m tk,v = .int m tk /\ ns[argBest bt (xs.length - 1)]? = some m:=by
 rw [List.getElem?_toArray,qI] at hv
 cases hx:xs[argBest bt (xs.length - 1)]? with
 | none=>rw [hx] at hv; cases hv
 | some q =>
  rw [hx] at hv
  cases hv
  exact ⟨q.1,q.2,rfl,by rw [← e,qI,hx]; rfl⟩
theorem call_minG (hc:X.calm=true):CallR X (.builtin "min") rMinG:=by
 intro pins s σ H xs us Q I r h
 obtain ⟨p,ns,rfl,hp,hne,q⟩:=h
 obtain ⟨u,rfl,ru⟩:=Vals.one r
 cases ru
 refine call_min_walk (zBh hc I hp fun its rv s2 st hfp hne2 W hI=>?_)
 obtain ⟨xs,rfl,e⟩:=jw rv
 have hl:xs.length=ns.length:=by rw [← e,qC]
 have hx:0 < xs.length:=by
  rw [hl]
  exact xo.mpr hne
 refine ⟨_,_,_,_,_,_,fun i j=>decide (ns.getD i 0 < ns.getD j 0),rfl,W,st,hfp,by simpa using hx,CmpOf.ints_lt (fun i=>ns.getD i 0) (at_int e),fun v h' tk hP hk=>?_⟩
 obtain ⟨m,t,rfl,hm⟩:=best_at e (v:=v) (bt:=fun i j=>decide (ns.getD i 0 < ns.getD j 0)) (by simpa using hP)
 refine ⟨.int m,H,hI h' tk hk,⟨_,rfl⟩,q m (qE hm) fun n hn=>?_⟩
 obtain ⟨i,hi,rfl⟩:=List.getElem_of_mem hn
 have b:=best_low (fun i=>ns.getD i 0) (xs.length - 1) i (by omega)
 rw [zY hm,zY (qA hi)] at b
 exact b
end
end L2
namespace L2
open PySem PySem.Spec
def Lies (w x:Int):Prop:=-(2 ^ (w - 1).toNat) <= x /\ x < 2 ^ (w - 1).toNat
instance (w x:Int):Decidable (Lies w x):=by unfold Lies; infer_instance
def nz (ns:List Int):List Int:=ns.filter fun n=>decide (n ≠ 0)
theorem divBig {i j:Int}(h:0 < j)(h2:j.natAbs < 2 ^ 9000):CDivB i j:=⟨h,(Nat.log2_lt (by omega)).mpr h2⟩
end L2
namespace L2
open PySem PySem.Spec
end L2
namespace L2
open PySem PySem.Spec
end L2
namespace L2
open PySem PySem.Spec
theorem jT {t u:TS}{D:Ends}{σ:St}{H:Hp}(h:∀ R:TS,R=u -> tSeq t R D σ H):tSeq t u D σ H:=h u rfl
theorem seq_inG {g:TG}{x:V}{t u:TS}{D:Ends}{σ:St}{H:Hp}(h:∀ R:TS,R=u -> g x σ H fun σ2 H2=>tSeq t R D σ2 H2):g x σ H fun σ2 H2=>tSeq t u D σ2 H2:=h u rfl
theorem jR {R u:TS}{D:Ends}{σ:St}{H:Hp}(e:R=u)(h:u D σ H):R D σ H:=by rw [e]; exact h
end L2
namespace L2
open PySem PySem.Spec
section
variable {K:zA}{σ:St}{H:Hp}{Q:VK}{cs:List Nat}{te:TE}
end
end L2
namespace L2
open PySem PySem.Spec
section
variable {K:zA}{σ:St}{H:Hp}{Q:VK}{cs:List Nat}{te:TE}
end
end L2
namespace L2
open PySem PySem.Spec PyProof.Rows
end L2
namespace L2
open PySem PySem.Spec PyProof.Rows
section
variable {H H':Hp}{x dl gl:Addr}{ins:Nat}{us:List V}{ds:List Wd}{os:List V}{gs:List Go}
end
section
variable {α:Type}{f:α -> List V}{H0 H H':Hp}{p dl:Addr}{us:List V}{ds:List α}
end
section
variable {H:Hp}{w:Str}{a b d1 g1 d2 g2:Addr}{i1 i2:Nat}{u1 u2:List V}{s1 s2:List Wd}{o1 o2:List V}{t1 t2:List Go}{Q:VK}{E:XK}
end
end L2
namespace L2
open PySem PySem.Spec PyProof.Rows
theorem mvI_0 (s:Int):mvI s 0=0:=by
 unfold mvI
 simp
section
variable {I ins l m:Nat}{f:Nat -> Nat}{ds0 ds:List Wd}{gs0 gs:List Go}
end
end L2
namespace L2
open PySem PySem.Spec PyProof.Rows
structure HKs {α:Type} (K:zA) (f:α -> List V) (H:Hp) (vs:List V) (xs:List α):Prop where
 len:vs.length=xs.length
 at_:∀ (k:Nat) (x:α),xs[k]? = some x -> ∃ p:Addr,vs[k]? = some (.ref p) /\ SqT K H p (f x)
section
variable {α:Type}{K:zA}{f:α -> List V}{H H':Hp}{vs us:List V}{xs:List α}{l:Addr}
theorem HTs.hk (h:HTs f H vs xs):HKs K f H vs xs:=⟨h.len,fun k x e=>by
 obtain ⟨p,e1,e2⟩:=h.at_ k x e
 exact ⟨p,e1,SqT.of e2⟩⟩
theorem HKs.same (h:HKs K f H vs xs)(s:Same H H'):HKs K f H' vs xs:=⟨h.len,fun k d e=>by
 obtain ⟨x,e1,e2⟩:=h.at_ k d e
 exact ⟨x,e1,s.seqT e2⟩⟩
end
structure WbK (K:zA) (H:Hp) (w dl gl:Addr) (ins:Nat) (us:List V) (ds:List Wd) (os:List V) (gs:List Go):Prop where
 tup:H w=some (.tup [.int ins,.ref dl,.ref gl])
 dll:H dl=some (.lst us)
 hds:HTs j5 H us ds
 gll:H gl=some (.lst os)
 hgs:HKs K gTp H os gs
theorem Wb.wk {K:zA}{H:Hp}{w dl gl:Addr}{ins:Nat}{us:List V}{ds:List Wd}{os:List V}{gs:List Go}(h:Wb H w dl gl ins us ds os gs):WbK K H w dl gl ins us ds os gs:=⟨h.tup,h.dll,h.hds,h.gll,h.hgs.hk⟩
theorem WbK.same {K:zA}{H H':Hp}{w dl gl:Addr}{ins:Nat}{us:List V}{ds:List Wd}{os:List V}{gs:List Go}(h:WbK K H w dl gl ins us ds os gs)(s:Same H H'):WbK K H' w dl gl ins us ds os gs :=
 ⟨s _ _ h.tup,s _ _ h.dll,h.hds.same s,s _ _ h.gll,h.hgs.same s⟩
def sT (n:Nat):List V:=[.int n,.int 0,.int 1]
end L2
namespace L2
open PySem PySem.Spec PyProof.Rows
section
variable {X:Cx}
end
section
variable {K:zA}{σ:St}{H:Hp}{Q:VK}{cs:List Nat}{te:TE}
end
def outsR (ins:Nat)(ds:List Wd)(gs:List Go):List (List Int):=gs.map (outR (rowsW ins ds))
end L2
namespace L2
open PySem PySem.Spec PyProof.Rows
section
variable {c:Bool}{i1 i2:Nat}{s1 s2:List Wd}{t1 t2:List Go}
end
section
variable {K:zA}{σ:St}{H:Hp}{Q:VK}{cs:List Nat}{te:TE}
end
end L2
namespace L2
open PySem PySem.Spec PyProof.Rows
end L2
namespace L2
open PySem PySem.Spec PyProof.Rows
section
variable {prog:Program}{w:World}{A:Around}{E:Value -> Shared -> Prop}{s:Shared}
end
end L2
namespace L2
open PySem PySem.Spec PyProof.Rows
section
variable {prog:Program}{w:World}{A:Around}{E:Value -> Shared -> Prop}{s:Shared}
end
section
variable {prog:Program}{w:World}{A:Around}{R:Result -> Shared -> Prop}{I:Addr}{fp wr:List Addr}{G:Array GenState -> Array GenState -> Prop}{P:Nat -> Value -> Prop}{St:Nat -> Shared -> Prop}
end
section
variable {prog:Program}{w:World}{A:Around}{E:Value -> Shared -> Prop}{s:Shared}
end
end L2
namespace L2
open PySem PySem.Spec PyProof.Rows
section
variable {prog:Program}{w:World}{A:Around}{E:Value -> Shared -> Prop}{s:Shared}{it S:Addr}{f:Value}{i n ep:Nat}{es:Array (Int × Value)}{t:SetTable}
end
end L2
namespace L2
open PySem PySem.Spec PyProof.Rows
section
variable {prog:Program}{w:World}{A:Around}{E:Value -> Shared -> Prop}{s:Shared}{S:Addr}{i ep:Nat}{es:Array (Int × Value)}{t:SetTable}{ks:List Int}
end
end L2
namespace L2
open PySem PySem.Spec PyProof.Rows
section
variable {prog:Program}{w:World}{A:Around}{E:Value -> Shared -> Prop}{s:Shared}{S it:Addr}{ep:Nat}{es:Array (Int × Value)}{t:SetTable}{ks:List Int}
end
end L2
namespace L2
open PySem PySem.Spec PyProof.Rows
section
variable {prog:Program}{w:World}{A:Around}{E:Value -> Shared -> Prop}{s:Shared}{T:String}{r:Addr}{C:Nat -> (Nat -> Value -> Prop) -> Prop}{OK:Heap -> Prop}
end
section
variable {X:Cx}
end
end L2
namespace L2
open PySem PySem.Spec PyProof.Rows
section
variable {X:Cx}
end
end L2
namespace L2
open PySem PySem.Spec PyProof.Rows
section
variable {X:Cx}
end
end L2
namespace L2
open PySem PySem.Spec PyProof.Rows
def gDe:Int -> Int -> Int -> Int -> Int:=fun y _ _ x=>max y (x+1)
def dpW (ins:Nat)(ds:List Wd):List Int:=vG gDe 0 (qQ ins 0) ds
def Dko (ins:Nat)(ds:List Wd):Prop:=∀ (k:Nat) (d:Wd),ds[k]? = some d -> d.a < ins+k /\ d.b < ins+k
section
variable {ins:Nat}{ds:List Wd}
theorem dpW_len:(dpW ins ds).length=ins+ds.length:=by unfold dpW; rw [vG_len,qL]
theorem dpW_nn:∀ x ∈ dpW ins ds,0 <= x:=by
 refine yu (p:=fun ds=>∀ x ∈ dpW ins ds,0 <= x) (fun x hx=>?_) (fun ys y ih x hx=>?_) ds
 ·rw [List.eq_of_mem_replicate hx]; exact zAA _
 ·unfold dpW at hx
  rw [zBT] at hx
  rcases yS.mp hx with z | z
  ·exact ih x z
  ·rw [zT.mp z]
   unfold vGD gDe
   omega
theorem dp_nn (j:Nat):0 <= (dpW ins ds).getD j 0:=by
 by_cases h:j < (dpW ins ds).length
 ·have e:=qA h
  rw [zY e]
  exact dpW_nn _ (qE e)
 ·rw [qD,jy (by omega)]
  exact zAA _
theorem dp_in {j:Nat}(h:j < ins):(dpW ins ds).getD j 0=0:=by
 have e:(vG gDe 0 (qQ ins 0) ([]:List Wd))[j]? = some 0:=by
  show (qQ ins (0:Int))[j]? = some 0
  rw [je,if_pos h]
 have e2:=vG_pre (g:=gDe) (z:=0) (qQ ins 0) [] ds e
 rw [Jm] at e2
 exact zY e2
theorem dp_at (D:Dko ins ds){k:Nat}{d:Wd}(hd:ds[k]? = some d):(dpW ins ds).getD (ins+k) 0=max ((dpW ins ds).getD d.a 0+1) ((dpW ins ds).getD d.b 0+1):=by
 have kl:=(qB.mp hd).1
 obtain ⟨ha,hb⟩:=D k d hd
 have rl:(qQ ins (0:Int)).length=ins:=qL
 have e:=vG_take (g:=gDe) (z:=0) (xs:=qQ ins 0) hd
 have l1:(vG gDe 0 (qQ ins 0) (ds.take k)).length=ins+k:=by rw [vG_len,rl,qO]; omega
 have e1:(vG gDe 0 (qQ ins 0) (ds.take (k+1)))[ins+k]? = some (vGD gDe 0 (vG gDe 0 (qQ ins 0) (ds.take k)) d):=by
  rw [e,qG (by omega),l1,ya]
  rfl
 have e2:=vG_pre (g:=gDe) (z:=0) (qQ ins 0) (ds.take (k+1)) (ds.drop (k+1)) e1
 rw [yk] at e2
 unfold dpW
 rw [zY e2]
 unfold vGD
 rw [vG_takeD (by omega) (by rw [rl]; exact ha),vG_takeD (by omega) (by rw [rl]; exact hb)]
 have h1:=dp_nn (ins:=ins) (ds:=ds) d.a
 have h2:=dp_nn (ins:=ins) (ds:=ds) d.b
 unfold dpW at h1 h2
 unfold gDe at h1 h2 ⊢
 omega
theorem dp_le (D:Dko ins ds):∀ k,k <= ds.length -> ∀ j,j < ins+k -> (dpW ins ds).getD j 0 <= k:=by
 intro k
 induction k with
 | zero =>
  intro _ j hj
  rw [dp_in (by omega)]
  omega
 | succ k ih =>
  intro hk j hj
  by_cases q:j < ins+k
  ·have:=ih (by omega) j q
   omega
  ·have ej:j=ins+k:=by omega
   subst ej
   have hd:=qA (l:=ds) (i:=k) (by omega)
   obtain ⟨ha,hb⟩:=D k _ hd
   rw [dp_at D hd]
   have h1:=ih (by omega) _ ha
   have h2:=ih (by omega) _ hb
   omega
end
section
variable {ins:Nat}{ds:List Wd}{j lo:Nat}{far:List Int}
end
end L2
namespace L2
open PySem PySem.Spec PyProof.Rows
section
variable {K:zA}{σ:St}{H:Hp}{Q:VK}{cs:List Nat}{te:TE}
end
def goD (dp:List Int)(gs:List Go):List Int:=(gs.filter fun g=>decide (g.sg ≠ 0)).map fun g=>dp.getD g.th 0
end L2
namespace L2
open PySem PySem.Spec PyProof.Rows
section
variable {K:zA}{σ:St}{H:Hp}{Q:VK}{cs:List Nat}{tt:TT}{te:TE}
end
end L2
namespace L2
open PySem PySem.Spec PyProof.Rows
section
variable {X:Cx}
end
end L2
namespace L2
open PySem PySem.Spec PyProof.Rows
def pm (some_:List Int)(h:Int):List Int:=some_.flatMap fun r=>[h+r,h - r]
end L2
namespace L2
open PySem PySem.Spec PyProof.Rows
section
variable {K:zA}{σ:St}{H:Hp}{Q:VK}{cs:List Nat}{te:TE}
end
end L2
namespace L2
open PySem PySem.Spec PyProof.Rows
section
variable {prog:Program}{w:World}{A:Around}{E:Value -> Shared -> Prop}{s:Shared}{K:zA}{x C dx:Addr}{ox:Obj}{name:Str}{v:Value}
end
section
variable {prog:Program}{w:World}{A:Around}{E:Value -> Shared -> Prop}{h:Heap}{g:Array GenState}{d:Drawn}{t:Nat}{os:OsState}
variable {nm q:Str}{C N:Addr}{bs bm bmB:List Value}{hdct:Bool}{sn:List Str}{sub:List Value}{ab:Bool}{col:Option Bool}{dd:Option Addr}{k0 k1 k2 k3 k5:Option Value}{B newId initId:String}
end
end L2
namespace L2
open PySem PySem.Spec PyProof.Rows
section
variable {X:Cx}{pins:List (Addr × Obj)}{σ:St}{H:Hp}{s:Shared}{x C t:Addr}{f:Str}
end
end L2
namespace L2
open PySem PySem.Spec PyProof.Rows
section
variable {M:Model}{A:Around}{E:Value -> Shared -> Prop}{env:Env}
variable {nm q:Str}{C N:Addr}{bs bm:List Value}{hdct:Bool}{sn:List Str}{sub:List Value}{ab:Bool}{col:Option Bool}{dd:Option Addr}{k0 k1 k2 k3 k5:Option Value}{newId:String}
end
section
variable {X:Cx}{C:Addr}{f:Str}
end
end L2
namespace L2
open PySem PySem.Spec PyProof.Rows
section
variable {prog:Program}{w:World}{A:Around}{E:Value -> Shared -> Prop}{s:Shared}{K:zA}{x D:Addr}{o:Obj}{od:Option Obj}
end
end L2
namespace L2
open PySem PySem.Spec PyProof.Rows
section
variable {α:Type}{p:α -> Bool}{l:List α}{i:Nat}{x:α}
end
section
variable {K:zA}{σ:St}{H:Hp}{Q:VK}{cs:List Nat}{te:TE}
end
section
variable {K:zA}{σ:St}{H:Hp}{Q:VK}{cs:List Nat}{te:TE}
end
end L2
namespace L2
open PySem PySem.Spec PyProof.Rows
end L2
namespace L2
open PySem PySem.Spec PyProof.Rows PySem.W
section
variable {key:Nat -> Int}{n:Nat}{p q:Array Nat}
end
end L2
namespace L2
open PySem PySem.Spec PyProof.Rows PySem.W
section
variable {prog:Program}{w:World}{A:Around}{E:Value -> Shared -> Prop}{s:Shared}{vs:List Value}{ks:List Int}
end
end L2
namespace L2
open PySem PySem.Spec PyProof.Rows PySem.W
section
variable {K:zA}{σ:St}{H:Hp}{Q:VK}{cs:List Nat}{te:TE}
end
end L2
namespace L2
open PySem PySem.Spec PyProof.Rows
end L2
namespace L2
open PySem PySem.Spec PyProof.Rows
section
variable {X:Cx}{pos:Pos}
end
end L2
namespace L2
open PySem PySem.Spec PyProof.Rows
end L2
namespace L2
open PySem PySem.Spec PyProof.Rows
def xV (p q:Go):Wd:=if p.sg=q.sg then ⟨Str.ofString "sum",p.th,p.sh,q.th,q.sh⟩ else if p.sg=1 then ⟨Str.ofString "less",p.th,p.sh,q.th,q.sh⟩ else ⟨Str.ofString "less",q.th,q.sh,p.th,p.sh⟩
def JX (p q:Go):Int:=if p.sg=q.sg then p.sg else 1
def g0:Go:=⟨0,0,0⟩
def SgOk (p:Go):Prop:=p=g0 \/ p.sg=1 \/ p.sg = -1
end L2
namespace L2
open PySem PySem.Spec PyProof.Rows
def Sh14 (s x:Int):Prop:=-4000 <= s /\ s <= 4000 /\ (s < 0 -> (2:Int) ^ (-s).toNat ∣ x)
theorem Sh14.shV {s x:Int}(h:Sh14 s x):L2.shV x s = .int (mvI s x):=shV_mv (r:=[x]) (zT.mpr rfl) fun z y hy=>by
 rw [zT.mp hy]
 exact h.2.2 z
def spDArrK (K:zA):Sp:=fun vs H Q _=>∃ (w dl gl:Addr) (ins:Nat) (us:List V) (ds:List Wd) (os:List V) (gs:List Go),vs=[.ref w] /\ WbK K H w dl gl ins us ds os gs /\ ds.length <= 400 /\
 ∀ r ws H',H r=none -> Same H H' -> H' r=some (.lst ws) -> HTs aTup H' ws (arrF ins 0 ds) -> Q (.ref r) H'
section
variable {K:zA}{σ:St}{H:Hp}{Q:VK}{cs:List Nat}{te:TE}{tt:TT}
theorem zBz {gl:Addr}{os:List V}{gs:List Go}(hl:H gl=some (.lst os))(hg:HKs K gTp H os gs)(hz:gs.length <= 1000)(f:Go -> Option V)
  (hb:∀ g H' (R:Option V -> Hp -> Prop),g ∈ gs -> Same H H' -> R (f g) H' -> tt ([some (.int (g.th:Int)),some (.int g.sh),some (.int g.sg)] ++ yZ cs σ) H' fun b H4=>if b=true then te ([some (.int (g.th:Int)),some (.int g.sh),some (.int g.sg)] ++ yZ cs σ) H4 fun y H5=>R (some y) H5 else R none H4)
  (hd:∀ acc H',H acc=none -> Same H H' -> H' acc=some (.lst (gs.filterMap f)) -> Q (.ref acc) H') :
  y9 (Itl K gl) 3 cs (gTupK K 3 (zAy (xk 0) (zAy (xk 1) (zAy (xk 2) gNil)))) tt te σ H Q:=by
 refine jO gs.length (fun acc i ws H'=>Same H H' /\ H' acc=some (.lst ws) /\ ws=(gs.take i).filterMap f) (yG hz) ?_ ?_ ?_ ?_ ?_ ?_
 ·rintro acc i ws H' hi ⟨s,_,_⟩
  exact ⟨os,os[i]'(by rw [hg.len]; exact hi),SqL.of (s _ _ hl),qA _⟩
 ·rintro acc ws H' ⟨s,_,_⟩
  exact ⟨os,SqL.of (s _ _ hl),by rw [hg.len]; exact zE _⟩
 ·intro acc ha
  exact ⟨zO ha _,zF,rfl⟩
 ·rintro acc i ws H' ⟨s,ha,rfl⟩
  exact ⟨ha,zZ (List.length_filterMap_le _ _) (by rw [qO]; omega)⟩
 ·rintro acc i ws H' ts x H2 N hn hi ⟨s,ha,hws⟩ y hts hN
  obtain ⟨e,hx0⟩:=y
  have hx:=hx0 os (SqL.of (s _ _ hl))
  clear hx0
  subst e
  obtain ⟨p,hp1,hp2⟩:=hg.at_ i _ (qA hi)
  have hgi:gs[i]? = some gs[i]:=qA hi
  have hgm:gs[i] ∈ gs:=jd hi
  generalize gs[i]=g at hp2 hgi hgm
  rw [hx] at hp1
  cases hp1
  obtain ⟨t0,t1,t2,rfl⟩:∃ t0 t1 t2,ts=[t0,t1,t2]:=by
   match ts,hts with
   | [a,b,c],_=>exact ⟨a,b,c,rfl⟩
  have hp3:=s.seqT hp2
  unfold gTp at hp3
  rw [zBQ]
  refine ⟨_,hp3,rfl,?_⟩
  rw [jj,xN,jj,xN,jj,xN,zBj]
  have tk:gs.take (i+1)=gs.take i ++ [g]:=by rw [za,hgi]; rfl
  refine hb g _ (fun o H5=>match o with | some y=>H5 acc=some (.lst ws) /\ N (ws ++ [y]) ([some (.int (g.th:Int)),some (.int g.sh),some (.int g.sg)] ++ yZ cs σ) (upd H5 acc (.lst (ws ++ [y]))) | none=>N ws ([some (.int (g.th:Int)),some (.int g.sh),some (.int g.sg)] ++ yZ cs σ) H5) hgm s ?_
  cases hf:f g with
  | none =>
   refine hN _ _ _ rfl ⟨s,ha,?_⟩
   rw [tk,x8,← hws]
   simp [hf]
  | some y =>
   refine ⟨ha,hN _ _ _ rfl ⟨same_upd hn s,zF,?_⟩⟩
   rw [tk,x8,← hws]
   simp [hf]
 ·rintro acc ws H' hn ⟨s,ha,hws⟩
  rw [zt] at hws
  subst hws
  exact hd acc H' hn s ha
end
def spDeedE (K:zA):Sp:=fun vs H Q _=>∃ (p q:Addr) (P R:Go),vs=[.ref p,.ref q] /\ SqT K H p (gTp P) /\ SqT K H q (gTp R) /\ ∀ r H',H r=none -> Same H H' -> H' r=some (.tup (j5 (xV P R))) -> Q (.ref r) H'
def spSignE (K:zA):Sp:=fun vs H Q _=>∃ (p q:Addr) (P R:Go),vs=[.ref p,.ref q] /\ SqT K H p (gTp P) /\ SqT K H q (gTp R) /\ Q (.int (JX P R)) H
end L2
namespace L2
open PySem PySem.Spec PyProof.Rows
def Sh4 (s:Int)(r:List Int):Prop:=-4000 <= s /\ s <= 4000 /\ Dv s r
theorem Sh.s4 {s:Int}{r:List Int}(h:Sh s r):Sh4 s r:=⟨by have:=h.1; omega,by have:=h.2.1; omega,h.2.2⟩
structure FW4 (ins:Nat) (ds:List Wd) (gs:List Go):Prop where
 ok:WebOk ins ds gs
 sh:∀ (k:Nat) (d:Wd),ds[k]? = some d -> d.a < ins+k /\ d.b < ins+k /\ Sh4 d.s ((rowsW ins ds).getD d.a []) /\ Sh4 d.t ((rowsW ins ds).getD d.b [])
 go:∀ g ∈ gs,g=⟨0,0,0⟩ \/ ((g.sg=1 \/ g.sg = -1) /\ Sh4 g.sh ((rowsW ins ds).getD g.th []))
 rb:RB 8000 (rowsW ins ds)
 wd:∀ r ∈ rowsW ins ds,r.length=ins
theorem FWeb.f4 {ins:Nat}{ds:List Wd}{gs:List Go}(F:FWeb ins ds gs):FW4 ins ds gs :=
 ⟨F.ok,fun k d h=>⟨(F.sh k d h).1,(F.sh k d h).2.1,(F.sh k d h).2.2.1.s4,(F.sh k d h).2.2.2.s4⟩,fun g hg=>(F.go g hg).imp id fun z=>⟨z.1,z.2.s4⟩,
  fun r hr=>⟨(F.rb r hr).1,fun n hn=>zZ ((F.rb r hr).2 n hn) (qN (by decide) (by have:=F.ok.dl; omega))⟩,F.wd⟩
section
variable {ins m:Nat}{s1 s2:List Wd}{t1 t2:List Go}
end
end L2
namespace L2
open PySem PySem.Spec PyProof.Rows
section
variable {K:zA}{σ:St}{H:Hp}{Q:VK}{cs:List Nat}{te:TE}
end
section
variable {K:zA}{σ:St}{H:Hp}{Q:VK}{cs:List Nat}{te:TE}
end
end L2
namespace L2
open PySem PySem.Spec PyProof.Rows
end L2
namespace L2
open PySem PySem.Spec PyProof.Rows
end L2
namespace L2
open PySem PySem.Spec PyProof.Rows
theorem mvI_bd {s n:Int}{b c:Nat}(h0:0 <= s)(h1:s.toNat <= c)(h:n.natAbs <= 2 ^ b):(mvI s n).natAbs <= 2 ^ (b+c):=by
 rw [Jl h0,xX,JA,Nat.pow_add]
 exact Nat.mul_le_mul h (qN (by decide) h1)
section
variable {ins:Nat}{ds:List Wd}{gs:List Go}{μ:List Int}{B:Int}
end
section
variable {ins:Nat}{ds:List Wd}{gs:List Go}{μ:List Int}{B:Int}
end
end L2
namespace L2
open PySem PySem.Spec PyProof.Rows
def spCntK (K:zA):Sp:=fun vs H Q _=>∃ (w dl gl:Addr) (ins:Nat) (us:List V) (ds:List Wd) (os:List V) (gs:List Go),vs=[.ref w] /\ WbK K H w dl gl ins us ds os gs /\ Q (.int ((ins:Int)+(ds.length:Nat))) H
section
variable {α:Type}{K:zA}{f:α -> List V}{H H':Hp}{vs us:List V}{xs:List α}{l:Addr}
end
section
variable {K:zA}{σ:St}{H:Hp}{Q:VK}{cs:List Nat}{te:TE}
end
end L2
namespace L2
open PySem PySem.Spec PyProof.Rows
def GOkU (n:Nat)(g:Go):Prop:=g.th < n /\ 0 <= g.sh /\ g.sh <= 40 /\ SgOk g
structure GW (H:Hp) (p gl:Addr) (n j:Nat) (os:List V) (gs:List Go) (H':Hp):Prop where
 gll:H' gl=some (.lst os)
 hgs:HTs gTp H' os gs
 glen:gs.length=j
 gk:∀ g ∈ gs,GOkU n g
 ngl:H gl=none
 gp:gl ≠ p
section
variable {H:Hp}{p dl gl a:Addr}{ins k n j:Nat}{us os:List V}{ds:List Wd}{gs:List Go}{H' H'':Hp}{c:Int}
end
end L2
namespace L2
open PySem PySem.Spec PyProof.Rows
section
variable {K:zA}{σ:St}{H:Hp}{Q:VK}{cs:List Nat}{tt:TT}
end
end L2
namespace L2
open PySem PySem.Spec PyProof.Rows
section
variable {K:zA}{σ:St}{H:Hp}{Q:VK}{cs:List Nat}{te:TE}
end
end L2
namespace L2
open PySem PySem.Spec PyProof.Rows
def spShRowN:Sp:=fun vs H Q _=>∃ (l:Addr) (s:Int) (xs:List Int),vs=[.ref l,.int s] /\ H l=some (.tup (iT xs)) /\ xs.length <= 100 /\ (∀ x ∈ xs,x.natAbs < 2 ^ 9000) /\ -4000 <= s /\ s <= 4000 /\
 ∀ r H',H r=none -> Same H H' -> H' r=some (.lst (xs.map fun n=>shV n s)) -> Q (.ref r) H'
theorem zBo {s:Int}:∀ r:List Int,(r.map V.int).filterMap (shRV s)=r.map fun n=>shV n s
 | []=>rfl
 | a :: r=>by
  rw [zR,yK,zR,← zBo r]
  rfl
end L2
namespace L2
open PySem PySem.Spec PyProof.Rows
def spDRow4 (K:zA):Sp:=fun vs H Q _=>∃ (x l:Addr) (d:Wd) (ys:List V) (rs:List (List Int)) (ins:Nat),vs=[.ref x,.ref l] /\ SqT K H x (j5 d) /\ H l=some (.lst ys) /\ HTs iT H ys rs /\ d.a < rs.length /\ d.b < rs.length /\ Sh4 d.s (rs.getD d.a []) /\ Sh4 d.t (rs.getD d.b []) /\ (∀ r ∈ rs,r.length=ins) /\ ins <= 12 /\ RB 8000 rs /\
 ∀ r H',H r=none -> Same H H' -> H' r=some (.tup (iT (rowD rs d))) -> Q (.ref r) H'
def spSecond (K:zA):Sp:=fun vs H Q _=>∃ (x:Addr) (d:Wd),vs=[.ref x] /\ SqT K H x (j5 d) /\ Q (.int (sgW d.w)) H
theorem zBU {s:Int}{r:List Int}(h:Dv s r):(r.map fun n=>shV n s)=(r.map (mvI s)).map V.int:=by rw [← shRV_map h,zBo]
end L2
namespace L2
open PySem PySem.Spec PyProof.Rows
section
variable {prog:Program}{w:World}{A:Around}{E:Value -> Shared -> Prop}{s:Shared}
end
end L2
namespace L2
open PySem PySem.Spec PyProof.Rows
end L2
namespace L2
open PySem PySem.Spec PyProof.Rows
theorem mvI_any {s n:Int}{b c:Nat}(h1:s.toNat <= c)(h:n.natAbs <= 2 ^ b):(mvI s n).natAbs <= 2 ^ (b+c):=by
 by_cases h0:0 <= s
 ·exact mvI_bd h0 h1 h
 ·rw [Jy (by omega)]
  refine zZ ?_ (zZ h (qN (by decide) (by omega)))
  exact Int.natAbs_ediv_le_natAbs _ _
end L2
namespace L2
open PySem PySem.Spec PyProof.Rows
section
variable {K:zA}{H:Hp}
end
end L2
namespace L2
open PySem PySem.Spec PyProof.Rows
end L2
namespace L2
open PySem PySem.Spec PyProof.Rows
end L2
namespace L2
open PySem PySem.Spec PyProof.Rows
end L2
namespace L2
open PySem PySem.Spec PyProof.Rows
@[elab_as_elim] theorem JD {C:Hp -> Prop} {H:Hp} {p:Addr} {o:HO} (np:H p=none) (k:∀ H',Same H H' -> H' p=some o -> C H'):C (upd H p o):=k _ (zO np _) zF
def NoT (H:Hp)(v:V):Prop:=jN v=true \/ ∃ p,v = .ref p /\ ((∃ xs,H p=some (.lst xs)) \/ ∃ kvs,H p=some (.dK kvs))
section
variable {K:zA}{H:Hp}
end
end L2
namespace L2
open PySem PySem.Spec PyProof.Rows
section
variable {X:Cx}{o i:Expr}{pos:Pos}{td ty:TE}
end
section
variable {σ:St}{H:Hp}{Q:VK}{a:Addr}
end
section
variable {α:Type}
def lk (rows:List (Int × α))(c:Int):Option α:=(rows.find? fun r=>decide (r.1=c)).map (·.2)
variable {R:V -> α -> Prop}{kvs:List (Key × V)}{rows:List (Int × α)}
end
end L2
namespace L2
open PySem PySem.Spec PyProof.Rows
section
variable {σ:St}{H:Hp}{D:Ends}{g:TG}{tb:TS}{d:Addr}{o:Obj}{kvs:List (Key × V)}
end
theorem w_dget2 {td ty tx:TE}{σ:St}{H:Hp}{Q:VK}:tDGet2 td ty tx σ H Q=(td σ H fun x H1=>∃ a,x = .ref a /\ IsD H1 a /\ ty σ H1 fun y H2=>tx σ H2 fun z H3=>∃ o,DGet H3 a y o /\ Q (o.getD z) H3):=rfl
theorem it_Ts {K:zA}{a:Addr}{xs:List V}{H:Hp}(h:SqT K H a xs){H':Hp}(s:Same H H'):(∀ i,i < xs.length -> (Itt K a).go i H') /\ (∀ i x H2,(Itt K a).yld i H' x H2 -> H2=H' /\ (i < xs.length -> xs[i]? = some x)) /\ (Itt K a).stop xs.length H':=by
 have h':=s.seqT h
 exact ⟨fun i hi=>⟨xs,xs[i],h',by simp [hi]⟩,fun i x H2 y=>⟨y.1,fun _=>y.2 xs h'⟩,⟨xs,h',zE _⟩⟩
section
variable {L:Nat}{n:Int}
end
end L2
namespace L2
open PySem PySem.Spec PyProof.Rows
section
variable {X:Cx}
end
end L2
namespace L2
open PySem PySem.Spec PyProof.Rows PySem.W
section
variable {prog:Program}{w:World}{A:Around}{E:Value -> Shared -> Prop}{s:Shared}{vs:List Value}{xss:List (List Int)}{a:Addr}
end
end L2
namespace L2
open PySem PySem.Spec PyProof.Rows
end L2
namespace L2
open PySem PySem.Spec PyProof.Rows PySem.W
section
variable {prog:Program}{w:World}{A:Around}{E:Value -> Shared -> Prop}{κ:SortKind}{it:Array Keyed}{vs:List Value}{s:Shared}
variable {xss:List (List Int)}{a:Addr}
end
end L2
namespace L2
open PySem PySem.Spec PyProof.Rows
end L2
namespace L2
open PySem PySem.Spec PyProof.Rows
section
variable {prog:Program}{w:World}{A:Around}{E:Value -> Shared -> Prop}
end
end L2
namespace L2
open PySem PySem.Spec PyProof.Rows
inductive Tg where
 | f (x:V)
 | l (xs:List Tg)
 | t (xs:List Tg)
 | d (xs:List Tg)
section
variable {X:Cx}{pins:List (Addr × Obj)}{σ:St}{H:Hp}{s:Shared}
end
abbrev FSt:=Int × Int × Int
def mx1 (d st:Int):Int:=(d+40692 * st * st+69621 * st) % 2147483647
def mx2 (m st:Int):Int:=(m * m+39373 * m+st) % 2147483579
def mx3 (m:Int):Int:=(m * m+16807 * m) % 2147483549
def tkS (m:Int)(s:FSt):Int × FSt:=if s.1 > 0 then (s.1 % m,(s.1 / m,s.2.1,s.2.2)) else (mx3 (mx2 (mx1 s.2.1 (s.2.2+1)) (s.2.2+1)) / 64 % m,(s.1,s.2.1,s.2.2+1))
def tk:Nat -> Int -> FSt -> Int × FSt
 | 0,_,s=>(0,s)
 | n+1,m,s=>if m > 10000000 then (((tk n (m / 1000000+1) s).1 * 1000000+(tk n 1000000 (tk n (m / 1000000+1) s).2).1) % m,(tk n 1000000 (tk n (m / 1000000+1) s).2).2) else tkS m s
def pk (xs:List Int)(i:Int):Int:=xs.getD i.toNat 0
def pkV (xs:List V)(i:Int):V:=xs.getD i.toNat .non
def txs:List V:=[.str (Str.ofString ""),.str (Str.ofString "0"),.str (Str.ofString "7"),.str (Str.ofString "-1"),.str (Str.ofString "True"),.str (Str.ofString "None")]
def flt (way:Int)(s:FSt):Tg × FSt :=
 if way < 3 then (.f (.int (tk 10 (pk [3,1000,10 ^ 60] way) s).1),(tk 10 (pk [3,1000,10 ^ 60] way) s).2)
 else if way < 5 then (.f (.int (-(tk 10 (pk [9,10 ^ 60] (way - 3)) s).1)),(tk 10 (pk [9,10 ^ 60] (way - 3)) s).2)
 else if way=5 then (.f (pkV [.bl true,.bl false,.non] (tk 10 3 s).1),(tk 10 3 s).2)
 else (.f (pkV txs (tk 10 6 s).1),(tk 10 6 s).2)
def knd (way:Int)(gs:List Tg):Tg:=if way=7 then .l gs else if way=8 then .t gs else .d gs
section
variable {σ:St}{H:Hp}{Q:VK}{cs:List Nat}{te:TE}
end
section
variable {σ:St}{H:Hp}{Q:VK}{cs:List Nat}{te:TE}
end
end L2
namespace L2
open PySem PySem.Spec PyProof.Rows PySem.W
end L2
namespace L2
open PySem PySem.Spec PyProof.Rows PySem.W
section
variable {σ:St}{H:Hp}{Q:VK}{cs:List Nat}{te:TE}{K:zA}
end
end L2
namespace L2
open PySem PySem.Spec PyProof.Rows PySem.W
end L2
namespace L2
open PySem PySem.Spec PyProof.Rows PySem.W
section
variable {prog:Program}{w:World}{A:Around}{E:Value -> Shared -> Prop}{s:Shared}
end
section
variable {prog:Program}{w:World}{d:Addr}{es:Array DictEntry}{ep:Nat}
end
end L2
namespace L2
open PySem PySem.Spec PyProof.Rows PySem.W
section
variable {prog:Program}{w:World}{A:Around}{E:Value -> Shared -> Prop}{s:Shared}
end
end L2
namespace L2
open PySem PySem.Spec PyProof.Rows PySem.W
section
variable {σ:St}{H:Hp}{Q:VK}{cs:List Nat}{te:TE}{K:zA}
theorem comp_tupI {l:Addr}{xs:List Int}(f:Int -> List Int)(hl:H l=some (.lst (xs.map V.int)))(hz:xs.length <= 1000)
  (hb:∀ x H' (R:VK),x ∈ xs -> Same H H' -> (∀ r H5,Same H' H5 -> H' r=none -> H5 r=some (.tup ((f x).map V.int)) -> R (.ref r) H5) -> te (some (.int x) :: yZ cs σ) H' R)
  (hd:∀ acc ws H',H acc=none -> Same H H' -> H' acc=some (.lst ws) -> HTs iT H' ws (xs.map f) -> Q (.ref acc) H'):y9 (Itl K l) 1 cs (xk 0) tYes te σ H Q:=by
 refine jO xs.length (fun acc i ws H'=>Same H H' /\ H' acc=some (.lst ws) /\ HTs iT H' ws ((xs.take i).map f)) (yG hz) ?_ ?_ ?_ ?_ ?_ ?_
 ·rintro acc i ws H' hi ⟨s,_⟩
  exact ⟨xs.map V.int,.int xs[i],SqL.of (s _ _ hl),by rw [qI,qA hi]; rfl⟩
 ·rintro acc ws H' ⟨s,_⟩
  exact ⟨_,SqL.of (s _ _ hl),by rw [qC]; exact zE _⟩
 ·intro acc ha
  exact ⟨zO ha _,zF,hts_nil⟩
 ·rintro acc i ws H' ⟨_,ha,ht⟩
  exact ⟨ha,by rw [ht.len,qC,qO]; omega⟩
 ·rintro acc i ws H' ts x H2 N hn hi ⟨s,ha,ht⟩ ⟨rfl,hx⟩ hts hN
  have hx:=hx _ (SqL.of (s _ _ hl))
  obtain ⟨t0,rfl⟩:∃ t0,ts=[t0]:=by
   match ts,hts with
   | [a],_=>exact ⟨a,rfl⟩
  rw [xN,zA1,if_pos rfl]
  rw [qI,qA hi] at hx
  cases hx
  refine hb _ _ _ (jd hi) s fun r H5 s5 nr h5=>?_
  have ha5:=s5 _ _ ha
  have ra:r ≠ acc:=(ne_of_none ha nr).symm
  refine ⟨ha5,hN _ [_] _ rfl ⟨same_upd hn (s.trans s5),zF,?_⟩⟩
  rw [List.take_succ,qA hi,Option.toList_some,yC]
  exact ((ht.same s5).chgL ha5 (Chg.upd _)).snoc (by rw [yH ra]; exact h5)
 ·rintro acc ws H' hn ⟨s,ha,ht⟩
  rw [zt] at ht
  exact hd acc ws H' hn s ha ht
end
end L2
namespace L2
open PySem PySem.Spec PyProof.Rows
section
variable {X:Cx}{e:Expr}{es:List Expr}{te:TE}{tj:Str -> TE}{pos:Pos}
def figI (i:Int):Str:=Str.ofString (toString i)
end
section
variable {X:Cx}
end
def CD (pm:Params)(K:zA)(d:Addr)(kvs:List (Str × Str)):Prop :=
 ∃ es n,K.lookup d=some ⟨.type "dict",none,.dict es n,#[]⟩ /\ PySem.W.KeysLit pm es.toList /\ ∀ kv ∈ kvs,∃ t,zI K d kv.1=some (some (.str kv.2 t))
section
variable {X:Cx}
end
end L2
namespace L2
open PySem PySem.Spec PyProof.Rows
section
variable {K:zA}{σ:St}{H:Hp}{Q:VK}{cs:List Nat}{te:TE}
end
def fig (n:Nat):Str:=figI n
section
variable {K:zA}{H:Hp}{Q:VK}
end
@[elab_as_elim] theorem absU {C:Hp -> Prop} {H H2:Hp} {p:Addr} {o:HO} (np:H p=none) (s:Same H H2) (k:∀ H',Same H H' -> H' p=some o -> C H'):C (upd H2 p o):=k _ (same_upd np s) zF
def stS (n:Nat)(l:List Str):Str:=Builtin.Str.glued "\n" (("in " ++ fig n) :: l)
end L2
namespace L2
open PySem PySem.Spec PyProof.Rows
end L2
namespace L2
open PySem PySem.Spec PyProof.Rows PySem.W
def tkey (S:List Int):List Key:=S.map Sum.inl
theorem tkey_kV (S:List Int):(tkey S).map kV=S.map V.int:=by
 unfold tkey
 rw [yb]
 rfl
theorem tkey_inj {S S':List Int}(h:tkey S=tkey S'):S=S':=(List.map_inj_right (fun a b e=>by cases e; rfl)).mp h
def rDPT:V -> V -> V -> Hp -> (Hp -> Prop) -> Prop:=fun x y v H R=>∃ a b S kvs,x = .ref a /\ y = .ref b /\ H a=some (.dT kvs) /\ H b=some (.tup (S.map V.int)) /\ kvs.length < sizeLine /\ R (upd H a (.dT (putK kvs (tkey S) v)))
def sDPT (td ty tv:TE):TS:=fun D σ H=>tv σ H fun v H1=>td σ H1 fun x H2=>ty σ H2 fun y H3=>rDPT x y v H3 fun H4=>D.nx σ H4
def rDIT (neg:Bool):R2:=fun y x H Q=>∃ a b S kvs,x = .ref a /\ y = .ref b /\ H a=some (.dT kvs) /\ H b=some (.tup (S.map V.int)) /\ Q (.bl (if neg then !(valV kvs (tkey S)).isSome else (valV kvs (tkey S)).isSome)) H
def rDGT:R2:=fun x y H Q=>∃ a b S kvs,x = .ref a /\ y = .ref b /\ H a=some (.dT kvs) /\ H b=some (.tup (S.map V.int)) /\ ∃ v,valV kvs (tkey S)=some v /\ Q v H
section
variable {X:Cx}{o i e value:Expr}{pos pos' tpos:Pos}{td ty tv:TE}
theorem pe_dgT (hu:X.A.units+1 < cLine)(ho:PE X o td)(hi:PE X i ty)(hs:NoSl i):PE X (.Subscript o i pos) (tOp rDGT td ty):=by
 intro pins s σ H Q I h
 refine subD_of PySem.F.slot_dict_getitem.lookup hs (thn (ho pins s σ H _ I h) fun u s1 ⟨x,H1,I1,rx,q1⟩=>thn (hi pins s1 σ H1 _ I1 q1) fun iv s2 ⟨y,H2,I2,ry,q2⟩=>?_)
 obtain ⟨a,b,S,kvs,rfl,rfl,hk,hb,v,hv,q⟩:=q2
 obtain rfl:u=Value.ref a:=rx
 have g:DGet H2 a (.ref b) (some v):=by rw [← hv]; exact DGet.t hk (by rw [tkey_kV]; exact hb)
 exact ⟨zBw I2 g,d_getItem hu I2 g ry fun w' s3 I3 rw'=>⟨v,H2,I3,rw',q⟩⟩
theorem ps_dpT (hu:X.A.units+1 < cLine)(ho:PE X o td)(hi:PE X i ty)(hv:PE X value tv)(hs:swapsWith value (some (.Subscript o i pos')) pos.line X.env=pure false):PS X (.Assign [.Subscript o i pos'] value pos) (sDPT td ty tv):=by
 intro pins s σ H D I h
 refine wpAny_Assign_Subscript (thn (hv pins s σ H _ I h) fun r s1 ⟨v,H1,I1,rv,q1⟩=>thn (ho pins s1 σ H1 _ I1 q1) fun u s2 ⟨x,H2,I2,rx,q2⟩=>thn (hi pins s2 σ H2 _ I2 q2) fun iv s3 ⟨y,H3,I3,ry,q3⟩=>?_) hs
 obtain ⟨a,b,S,kvs,rfl,rfl,hk,hb,hz,q⟩:=q3
 obtain rfl:u=Value.ref a:=rx
 exact d_setItem hu I3 (DPut.t (v:=v) hk (by rw [tkey_kV]; exact hb) hz) ry rv fun s4 I4=>⟨σ,_,I4,q⟩
theorem op_dIT (hu:X.A.units+1 < cLine):OpR X (compareOp .In) (rDIT false):=by
 intro pins s σ H x y v u Q I rx ry h
 obtain ⟨a,b,S,kvs,rfl,rfl,hk,hb,q⟩:=h
 obtain rfl:u=Value.ref a:=ry
 exact d_in hu I (DGet.t hk (by rw [tkey_kV]; exact hb)) rx fun s' I'=>⟨.bl _,H,I',rfl,q⟩
end
section
variable {σ:St}{H:Hp}{Q:VK}{D:Ends}{a b:Addr}{v:V}{R:Hp -> Prop}
theorem w_sDPT {td ty tv:TE}:sDPT td ty tv D σ H=(tv σ H fun v H1=>td σ H1 fun x H2=>ty σ H2 fun y H3=>rDPT x y v H3 fun H4=>D.nx σ H4):=rfl
theorem w_dpT:rDPT (.ref a) (.ref b) v H R = ∃ S kvs,H a=some (.dT kvs) /\ H b=some (.tup (S.map V.int)) /\ kvs.length < sizeLine /\ R (upd H a (.dT (putK kvs (tkey S) v))) :=
 propext ⟨fun ⟨a',b',S,kvs,e1,e2,q⟩=>by cases e1; cases e2; exact ⟨S,kvs,q⟩,fun ⟨S,kvs,q⟩=>⟨a,b,S,kvs,rfl,rfl,q⟩⟩
theorem w_dIT {neg:Bool}:rDIT neg (.ref b) (.ref a) H Q = ∃ S kvs,H a=some (.dT kvs) /\ H b=some (.tup (S.map V.int)) /\ Q (.bl (if neg then !(valV kvs (tkey S)).isSome else (valV kvs (tkey S)).isSome)) H :=
 propext ⟨fun ⟨a',b',S,kvs,e1,e2,q⟩=>by cases e1; cases e2; exact ⟨S,kvs,q⟩,fun ⟨S,kvs,q⟩=>⟨a,b,S,kvs,rfl,rfl,q⟩⟩
theorem w_dgT:rDGT (.ref a) (.ref b) H Q = ∃ S kvs,H a=some (.dT kvs) /\ H b=some (.tup (S.map V.int)) /\ ∃ v,valV kvs (tkey S)=some v /\ Q v H :=
 propext ⟨fun ⟨a',b',S,kvs,e1,e2,q⟩=>by cases e1; cases e2; exact ⟨S,kvs,q⟩,fun ⟨S,kvs,q⟩=>⟨a,b,S,kvs,rfl,rfl,q⟩⟩
theorem w_dnT:tDNewT σ H Q = ∀ p,H p=none -> Q (.ref p) (upd H p (.dT [])):=rfl
end
end L2
namespace L2
open PySem PySem.Spec PyProof.Rows PySem.W
def rEqE (K:zA):R2:=fun x y H Q=>∃ p q xs,x = .ref p /\ y = .ref q /\ SqL K H p xs /\ SqL K H q [] /\ Q (.bl (decide (xs.length=0))) H
theorem op_eqE {X:Cx}{k:Nat}(hr:Room k X.A):OpR X (compareOp .Eq) (rEqE X.K):=by
 intro pins s σ H x y v u Q I rx ry h
 obtain ⟨p,q,xs,rfl,rfl,hp,hq,qq⟩:=h
 cases rx
 cases ry
 have hu:X.A.units < cLine:=by have:=hr.units; omega
 cases xs with
 | nil =>
  have h1:=zBd (xs:=[]) hp rfl
  have h2:=zBd (xs:=[]) hq rfl
  have:=(rcAt_D 50 _ _ (A:=X.A) (by rw [dep_l]; decide) (by have:=hr.units; omega) I h1 h2 rfl rfl).2 p rfl
  exact this X.prog X.w X.xe _ ⟨.bl _,H,I,rfl,qq⟩
 | cons x r =>
  obtain ⟨its,rv,pl,_⟩:=I.list hp
  obtain ⟨its',rv',pl',_⟩:=I.list hq
  have e1:its.toArray.size=r.length+1:=by rw [qM,← rv.length]; rfl
  have e2:its'.toArray.size=0:=by rw [qM,← rv'.length]; rfl
  have:=SeqAt.RcAt.lists_lengths (A:=X.A) pl.isList pl'.isList (by rw [bne_iff_ne]; omega) hu
  exact this X.prog X.w X.xe _ ⟨.bl _,H,I,rfl,qq⟩
theorem w_eqE {K:zA}{p q:Addr}{H:Hp}{Q:VK}:rEqE K (.ref p) (.ref q) H Q = ∃ xs,SqL K H p xs /\ SqL K H q [] /\ Q (.bl (decide (xs.length=0))) H :=
 propext ⟨fun ⟨p',q',xs,e1,e2,h⟩=>by cases e1; cases e2; exact ⟨xs,h⟩,fun ⟨xs,h⟩=>⟨p,q,xs,rfl,rfl,h⟩⟩
end L2
namespace L2
open PySem PySem.Spec PyProof.Rows PySem.W
end L2
namespace L2
open PySem PySem.Spec PyProof.Rows PySem.W
end L2
namespace L2
open PySem PySem.Spec PyProof.Rows PySem.W
end L2
namespace L2
open PySem PySem.Spec PyProof.Rows PySem.W
theorem sg_mul {g s:Int}(h:g=1 \/ g = -1)(h':s=1 \/ s = -1):g * s=1 \/ g * s = -1:=by
 rcases h with e | e <;> rcases h' with e' | e' <;> rw [e,e'] <;> decide
section
variable {K:zA}{σ:St}{H:Hp}{Q:VK}{cs:List Nat}{te:TE}
end
end L2
namespace L2
open PySem PySem.Spec PyProof.Rows PySem.W
def rNeE (K:zA):R2:=fun x y H Q=>∃ p q xs,x = .ref p /\ y = .ref q /\ SqL K H p xs /\ SqL K H q [] /\ Q (.bl (decide (xs.length ≠ 0))) H
theorem w_neE {K:zA}{p q:Addr}{H:Hp}{Q:VK}:rNeE K (.ref p) (.ref q) H Q = ∃ xs,SqL K H p xs /\ SqL K H q [] /\ Q (.bl (decide (xs.length ≠ 0))) H :=
 propext ⟨fun ⟨p',q',xs,e1,e2,h⟩=>by cases e1; cases e2; exact ⟨xs,h⟩,fun ⟨xs,h⟩=>⟨p,q,xs,rfl,rfl,h⟩⟩
section
variable {K:zA}{σ:St}{H:Hp}{Q:VK}{cs:List Nat}{tt:TT}
end
end L2
namespace L2
open PySem PySem.Spec PyProof.Rows PySem.W
def tRevL (te:TE)(ts:TO):TE:=fun σ H Q=>te σ H fun x H1=>ts σ H1 fun st H2=>st=some (-1) /\ ∃ a xs,x = .ref a /\ H2 a=some (.lst xs) /\ ∀ p,H2 p=none -> Q (.ref p) (upd H2 p (.lst xs.reverse))
theorem w_revL {te:TE}{ts:TO}{σ:St}{H:Hp}{Q:VK}:tRevL te ts σ H Q=(te σ H fun x H1=>ts σ H1 fun st H2=>st=some (-1) /\ ∃ a xs,x = .ref a /\ H2 a=some (.lst xs) /\ ∀ p,H2 p=none -> Q (.ref p) (upd H2 p (.lst xs.reverse))):=rfl
theorem w_dget1 {td ty:TE}{σ:St}{H:Hp}{Q:VK}:tDGet1 td ty σ H Q=(td σ H fun x H1=>∃ a,x = .ref a /\ IsD H1 a /\ ty σ H1 fun y H2=>∃ o,DGet H2 a y o /\ Q (o.getD .non) H2):=rfl
end L2
namespace L2
open PySem PySem.Spec PyProof.Rows PySem.W
section
variable {K:zA}{σ:St}{H:Hp}{Q:VK}{cs:List Nat}{te:TE}
end
end L2
namespace L2
open PySem PySem.Spec PyProof.Rows PySem.W
def x5 (c:Int)(fs:List Int):List Int:=fs.map fun x=>c * x
def Lead (fs:List Int):Prop:=∃ (i:Nat) (x:Int),fs[i]? = some x /\ 0 < x /\ ∀ j y,j < i -> fs[j]? = some y -> y=0
structure Frm (row fs:List Int) (k:Nat) (g:Int):Prop where
 sg:g=1 \/ g = -1
 eq:row=x5 (g * 2 ^ k) fs
 od:∃ x ∈ fs,x % 2=1
 ld:Lead fs
theorem j1 (c:Int)(fs:List Int):(x5 c fs).length=fs.length:=qC ..
theorem zAq {c:Int}{fs:List Int}{i:Nat}{x:Int}(h:fs[i]? = some x):(x5 c fs)[i]? = some (c * x):=by
 unfold x5
 rw [qI,h]
 rfl
theorem mulR_mul (c d:Int)(fs:List Int):x5 c (x5 d fs)=x5 (c * d) fs:=by
 unfold x5
 rw [yb]
 exact yi fun x _=>(zW c d x).symm
theorem zAa (fs:List Int):x5 1 fs=fs:=by
 unfold x5
 rw [show (fun x:Int=>1 * x)=id from funext fun x=>yN x]
 exact List.map_id _
theorem zAb (k:Nat):(2:Int) ^ k ≠ 0:=by
 have:(0:Int) < 2 ^ k:=Int.pow_pos (by decide)
 omega
theorem mulR_inj {c:Int}(hc:c ≠ 0){fs gs:List Int}(h:x5 c fs=x5 c gs):fs=gs:=by
 have hl:fs.length=gs.length:=by have:=congrArg List.length h; rwa [j1,j1] at this
 refine List.ext_getElem? fun i=>?_
 cases e:fs[i]? with
 | none =>
  rw [Ja] at e
  exact (Ja.mpr (by omega)).symm
 | some x =>
  have hi:=(qB.mp e).1
  have e2:gs[i]? = some gs[i]:=qA (by omega)
  have h1:=zAq (c:=c) e
  rw [h,zAq e2] at h1
  rw [e2,Jb hc (Option.some.inj h1)]
theorem zBV {fs gs:List Int}{k j:Nat}{g s:Int}(hg:g=1 \/ g = -1)(hs:s=1 \/ s = -1)(h:x5 (g * 2 ^ k) fs=x5 (s * 2 ^ j) gs)(ho:∃ x ∈ fs,x % 2=1):j <= k:=by
 refine Nat.not_lt.mp fun z=>?_
 obtain ⟨x,hx,ox⟩:=ho
 obtain ⟨i,hi⟩:=zz hx
 have h1:=zAq (c:=g * 2 ^ k) hi
 have hl:fs.length=gs.length:=by have:=congrArg List.length h; rwa [j1,j1] at this
 have hil:=(qB.mp hi).1
 have e2:gs[i]? = some gs[i]:=qA (by omega)
 rw [h,zAq e2] at h1
 have h2:=Option.some.inj h1
 generalize gs[i]=y at h2
 obtain ⟨m,rfl⟩:∃ m,j=k+1+m:=⟨j - k - 1,by omega⟩
 have e3:s * 2 ^ (k+1+m) * y=2 ^ k * (2 * (s * 2 ^ m * y)):=by
  rw [jm,yo]
  simp only [zW,Int.mul_left_comm,yF]
 have e4:g * 2 ^ k * x=2 ^ k * (g * x):=by rw [yF g,zW]
 rw [e3,e4] at h2
 have h3:=Jb (zAb k) h2
 rcases hg with rfl | rfl <;> omega
theorem jP {row fs gs:List Int}{k j:Nat}{g s:Int}(h:Frm row fs k g)(h':Frm row gs j s):fs=gs /\ k=j /\ g=s:=by
 have e:x5 (g * 2 ^ k) fs=x5 (s * 2 ^ j) gs:=h.eq.symm.trans h'.eq
 have l1:=zBV h.sg h'.sg e h.od
 have l2:=zBV h'.sg h.sg e.symm h'.od
 have kj:k=j:=by omega
 subst kj
 have hl:fs.length=gs.length:=by have:=congrArg List.length e; rwa [j1,j1] at this
 have el:∀ i x y,fs[i]? = some x -> gs[i]? = some y -> g * x=s * y:=fun i x y hx hy=>by
  have h1:=zAq (c:=g * 2 ^ k) hx
  rw [e,zAq hy] at h1
  have h2:=Option.some.inj h1
  rw [yF s,yF g,zW,zW] at h2
  exact (Jb (zAb k) h2).symm
 have gs':g=s:=by
  obtain ⟨i,x,hx,px,zx⟩:=h.ld
  obtain ⟨i',y,hy,py,zy⟩:=h'.ld
  have hi:=(qB.mp hx).1
  have hi':=(qB.mp hy).1
  have ii:i=i':=by
   rcases Nat.lt_trichotomy i i' with z | z | z
   ·have e2:gs[i]? = some gs[i]:=qA (by omega)
    have:=el i x _ hx e2
    rw [zy i _ z e2] at this
    rcases h.sg with r | r <;> rcases h'.sg with r' | r' <;> rw [r,r'] at this <;> omega
   ·exact z
   ·have e2:fs[i']? = some fs[i']:=qA (by omega)
    have:=el i' _ y e2 hy
    rw [zx i' _ z e2] at this
    rcases h.sg with r | r <;> rcases h'.sg with r' | r' <;> rw [r,r'] at this <;> omega
  subst ii
  have:=el i x y hx hy
  rcases h.sg with r | r <;> rcases h'.sg with r' | r' <;> rw [r,r'] at this ⊢ <;> omega
 refine ⟨?_,rfl,gs'⟩
 subst gs'
 refine mulR_inj ?_ e
 rcases h.sg with r | r <;> rw [r]
 ·rw [yN]; exact zAb k
 ·rw [Int.neg_mul,yN]
  have:=zAb k
  omega
theorem sg_sq {g:Int}(h:g=1 \/ g = -1):g * g=1:=by rcases h with rfl | rfl <;> rfl
theorem frm_mul {row fs:List Int}{k j:Nat}{g s:Int}(h:Frm row fs k g)(hs:s=1 \/ s = -1):Frm (x5 (s * 2 ^ j) row) fs (k+j) (s * g):=by
 refine ⟨sg_mul hs h.sg,?_,h.od,h.ld⟩
 rw [h.eq,mulR_mul,jm]
 congr 1
 simp only [zW,Int.mul_left_comm,yF]
theorem zAK {n:Int}{k:Nat}(hn:n ≠ 0)(hk:(k:Int) <= shN n):∃ m:Nat,shN n=((k+m:Nat):Int) /\ n / 2 ^ k=coreN n * 2 ^ m * sgN n /\ 2 ^ k * (n / 2 ^ k)=n:=by
 obtain ⟨_,_,k',e1,e2,_⟩:=xA hn
 obtain ⟨m,rfl⟩:∃ m,k'=k+m:=⟨k' - k,by omega⟩
 have e3:n=2 ^ k * (coreN n * 2 ^ m * sgN n):=by
  rw [← zW,← zW,yF (2 ^ k) (coreN n),zW (coreN n),← jm,e2]
 have e4:n / 2 ^ k=coreN n * 2 ^ m * sgN n:=by
  have:=jM (coreN n * 2 ^ m * sgN n) (zAb k)
  rwa [← e3] at this
 exact ⟨m,e1,e4,by rw [e4]; exact e3.symm⟩
theorem frm_of {row:List Int}{k:Nat}{g:Int}(hmin:∀ n ∈ row,n ≠ 0 -> (k:Int) <= shN n)(hat:∃ n ∈ row,n ≠ 0 /\ shN n=k)(hg:∃ (i:Nat) (n:Int),row[i]? = some n /\ n ≠ 0 /\ sgN n=g /\ ∀ (j:Nat) y,j < i -> row[j]? = some y -> y=0):Frm row (row.map fun n=>g * (n / 2 ^ k)) k g:=by
 obtain ⟨i,n,hi,n0,sg,hz⟩:=hg
 have hs:g=1 \/ g = -1:=by
  obtain ⟨_,_,k',e1,e2,e3,_⟩:=xA n0
  rw [← sg]
  exact e3
 refine ⟨hs,?_,?_,i,g * (n / 2 ^ k),by rw [qI,hi]; rfl,?_,fun j y hj hy=>?_⟩
 ·unfold x5
  rw [yb]
  refine (List.map_id row).symm.trans (yi fun x hx=>?_)
  show x=g * 2 ^ k * (g * (x / 2 ^ k))
  have e:2 ^ k * (x / 2 ^ k)=x:=by
   by_cases z:x=0
   ·rw [z]; simp
   ·exact (zAK z (hmin x hx z)).choose_spec.2.2
  rw [yF g (2 ^ k),zW,← zW g g,sg_sq hs,yN,e]
 ·obtain ⟨x,hx,x0,ex⟩:=hat
  obtain ⟨m,e1,e2,_⟩:=zAK x0 (by omega:(k:Int) <= shN x)
  have m0:m=0:=by omega
  subst m0
  obtain ⟨_,od,_,_,_,sx,_⟩:=xA x0
  refine ⟨_,qP.mpr ⟨x,hx,rfl⟩,?_⟩
  rw [e2,yt,yj]
  rcases hs with r | r <;> rcases sx with r' | r' <;> rw [r,r'] <;> omega
 ·obtain ⟨m,e1,e2,_⟩:=zAK n0 (hmin n (qE hi) n0)
  rw [e2,sg,yF (coreN n * 2 ^ m) g,← zW,sg_sq hs,yN]
  exact Int.mul_pos (xA n0).1 (Int.pow_pos (by decide))
 ·rw [qI] at hy
  obtain ⟨x,hx,rfl⟩:=yW.mp hy
  rw [hz j x hj hx]
  simp
def coT (n:Int):List V:=[.int (coreN n),.int (shN n),.int (sgN n)]
def spForm:Sp:=fun vs H Q _=>∃ (r:Addr) (row:List Int),vs=[.ref r] /\ H r=some (.tup (row.map V.int)) /\ row.length <= 100 /\ (∀ x ∈ row,x.natAbs < 2 ^ 4000) /\
 ((∀ x ∈ row,x=0) -> ∀ t H',Same H H' -> H' t=some (.tup [.ref r,.int 0,.int 0]) -> Q (.ref t) H') /\
 ∀ t f fs (k:Nat) (g:Int) H',Same H H' -> H' t=some (.tup [.ref f,.int k,.int g]) -> H' f=some (.tup (fs.map V.int)) -> Frm row fs k g -> Q (.ref t) H'
section
variable {K:zA}{σ:St}{H:Hp}{Q:VK}{cs:List Nat}{te:TE}{tt:TT}
theorem comp_tupF {row:List Int}{t:Addr}(pr:Int -> Bool)(f:Int -> List V)(ht:H t=some (.tup (row.map V.int)))(hz:row.length <= 1000)
  (hb1:∀ n H' (R:Bool -> Hp -> Prop),n ∈ row -> Same H H' -> R (pr n) H' -> tt (some (.int n) :: yZ cs σ) H' R)
  (hb2:∀ n H' (R:VK),n ∈ row -> Same H H' -> (∀ p H5,Same H' H5 -> H5 p=some (.tup (f n)) -> R (.ref p) H5) -> te (some (.int n) :: yZ cs σ) H' R)
  (hd:∀ acc ws H',H acc=none -> Same H H' -> H' acc=some (.lst ws) -> HTs f H' ws (row.filter pr) -> Q (.ref acc) H') :
  y9 (Itt K t) 1 cs (xk 0) tt te σ H Q:=by
 have lm:(row.map V.int).length=row.length:=qC ..
 refine jO row.length (fun acc i ws H'=>Same H H' /\ H' acc=some (.lst ws) /\ ws.length <= i /\ HTs f H' ws ((row.take i).filter pr)) (yG hz) ?_ ?_ ?_ ?_ ?_ ?_
 ·rintro acc i ws H' hi ⟨s,_⟩
  exact ⟨_,(row.map V.int)[i]'(by rw [lm]; exact hi),SqT.of (s _ _ ht),qA _⟩
 ·rintro acc ws H' ⟨s,_⟩
  exact ⟨_,SqT.of (s _ _ ht),by rw [lm]; exact zE _⟩
 ·intro acc ha
  exact ⟨zO ha _,zF,zE _,hts_nil⟩
 ·rintro acc i ws H' ⟨s,ha,hl,_⟩
  exact ⟨ha,hl⟩
 ·rintro acc i ws H' ts x H2 N hn hi ⟨s,ha,hl,hy⟩ ⟨rfl,hx⟩ hts hN
  have hx:=hx _ (SqT.of (s _ _ ht))
  obtain ⟨t0,rfl⟩:∃ t0,ts=[t0]:=List.length_eq_one_iff.mp hts
  obtain ⟨n,hSi,rfl⟩:=zA8 hx
  have hm:=qE hSi
  rw [xN]
  refine hb1 n _ _ hm s ?_
  cases hp:pr n with
  | true =>
   rw [if_pos rfl]
   refine hb2 n _ _ hm s fun p H5 s5 h5=>?_
   have ha5:=s5 _ _ ha
   refine ⟨ha5,hN _ [_] _ rfl ⟨same_upd hn (s.trans s5),zF,by rw [qF]; exact Nat.succ_le_succ hl,?_⟩⟩
   rw [List.take_succ,hSi,Option.toList_some,List.filter_append,J8 hp,List.filter_nil]
   exact ((hy.same s5).snoc h5).chgL ha5 (Chg.upd _)
  | false =>
   rw [if_neg (by decide)]
   refine hN _ [_] _ rfl ⟨s,ha,Nat.le_succ_of_le hl,?_⟩
   rw [List.take_succ,hSi,Option.toList_some,List.filter_append,J9 (by rw [hp]; decide),List.filter_nil,zp]
   exact hy
 ·rintro acc ws H' hn ⟨s,ha,hl,hy⟩
  rw [zt] at hy
  exact hd acc ws H' hn s ha hy
theorem comp_hi {α:Type}{f:α -> List V}{v:Addr}{us:List V}{xs:List α}(h:α -> Int)(hv:H v=some (.lst us))(ht:HTs f H us xs)(hz:xs.length <= 1000)
  (hb:∀ t x H' (R:VK),x ∈ xs -> H t=some (.tup (f x)) -> Same H H' -> R (.int (h x)) H' -> te (some (.ref t) :: yZ cs σ) H' R)
  (hd:∀ acc H',H acc=none -> Same H H' -> H' acc=some (.lst ((xs.map h).map V.int)) -> Q (.ref acc) H') :
  y9 (Itl K v) 1 cs (xk 0) tYes te σ H Q:=by
 have ul:=ht.len
 refine jO us.length (fun acc i ys H'=>Same H H' /\ H' acc=some (.lst ys) /\ ys.length <= i /\ ys=((xs.take i).map h).map V.int) (yG (by omega)) ?_ ?_ ?_ ?_ ?_ ?_
 ·rintro acc i ys H' hi ⟨s,_⟩
  exact ⟨us,us[i],SqL.of (s _ _ hv),qA hi⟩
 ·rintro acc ys H' ⟨s,_⟩
  exact ⟨us,SqL.of (s _ _ hv),zE _⟩
 ·intro acc ha
  exact ⟨zO ha _,zF,zE _,rfl⟩
 ·rintro acc i ys H' ⟨s,ha,hl,_⟩
  exact ⟨ha,hl⟩
 ·rintro acc i ys H' ts x H2 N hn hi ⟨s,ha,hl,rfl⟩ ⟨rfl,hx⟩ hts hN
  have hx:=hx us (SqL.of (s _ _ hv))
  obtain ⟨t0,rfl⟩:∃ t0,ts=[t0]:=List.length_eq_one_iff.mp hts
  have hiL:i < xs.length:=by rw [← ul]; exact hi
  obtain ⟨t,hy1,hy2⟩:=ht.at_ i _ (qA hiL)
  have hSi:xs[i]? = some xs[i]:=qA hiL
  generalize xs[i]=S at hy2 hSi
  rw [hx] at hy1
  cases hy1
  rw [xN,zA1,if_pos rfl]
  refine hb t S _ _ (qE hSi) hy2 s ?_
  refine ⟨ha,hN _ [_] _ rfl ⟨same_upd hn s,zF,by rw [qF]; exact Nat.succ_le_succ hl,?_⟩⟩
  rw [List.take_succ,hSi,Option.toList_some,yC,yC]
  rfl
 ·rintro acc ys H' hn ⟨s,ha,hl,rfl⟩
  rw [ul,zt] at ha
  exact hd acc H' hn s ha
end
def fmV (g:Int)(k:Nat):V -> Option V
 | .int n=>some (.int (g * (n / 2 ^ k)))
 | _=>none
theorem fmV_map (g:Int)(k:Nat):∀ ns:List Int,(ns.map V.int).filterMap (fmV g k)=(ns.map fun n=>g * (n / 2 ^ k)).map V.int
 | []=>rfl
 | n :: r=>by
  rw [zR,zR,zR,yK,fmV_map g k r]
  rfl
theorem first_nz {row:List Int}{n:Int}{r:List Int}(h:(row.filter fun x=>decide (x ≠ 0))=n :: r):∃ i:Nat,row[i]? = some n /\ n ≠ 0 /\ ∀ (j:Nat) y,j < i -> row[j]? = some y -> y=0:=by
 induction row with
 | nil=>cases h
 | cons x xs ih =>
  by_cases z:x=0
  ·rw [J9 (by simp [z])] at h
   obtain ⟨i,a,b,c⟩:=ih h
   refine ⟨i+1,by rw [y8]; exact a,b,fun j y hj hy=>?_⟩
   cases j with
   | zero=>simp at hy; omega
   | succ j=>rw [y8] at hy; exact c j y (by omega) hy
  ·rw [J8 (by simp [z])] at h
   cases h
   exact ⟨0,rfl,z,fun j y hj=>absurd hj (Nat.not_lt_zero _)⟩
theorem shV_div {n:Int}{k:Nat}(h:2 ^ k * (n / 2 ^ k)=n):shV n (-(k:Int)) = .int (n / 2 ^ k):=by
 unfold shV
 have e:(- -(k:Int)).toNat=k:=by omega
 by_cases z:k=0
 ·subst z
  rw [if_pos (by simp)]
  simp
 ·rw [if_neg (by omega),e,if_pos (by rw [yF]; exact h)]
theorem div_row {row:List Int}{k:Nat}(hmin:∀ n ∈ row,n ≠ 0 -> (k:Int) <= shN n):∀ n ∈ row,2 ^ k * (n / 2 ^ k)=n:=fun n hn=>by
 by_cases z:n=0
 ·rw [z]; simp
 ·exact (zAK z (hmin n hn z)).choose_spec.2.2
theorem sh_le {n:Int}(h:n ≠ 0)(hb:n.natAbs < 2 ^ 4000):∃ k:Nat,shN n=k /\ k <= 4000:=by
 obtain ⟨_,_,k,e1,_,_,_,hk,_⟩:=xA h
 refine ⟨k,e1,Nat.not_lt.mp fun z=>?_⟩
 have:2 ^ 4000 <= 2 ^ k:=qN (by decide) (by omega)
 omega
end L2
namespace L2
open PySem PySem.Spec PyProof.Rows PySem.W
theorem mv_pow {e c x:Int}{a m:Nat}(h:(a:Int)+e=m):mvI e (c * 2 ^ a * x)=c * 2 ^ m * x:=by
 unfold mvI
 by_cases z:0 <= e
 ·obtain ⟨j,rfl⟩:∃ j:Nat,e=j:=⟨e.toNat,by omega⟩
  have e1:(if 0 > (j:Int) then (0:Int) else j).toNat=j:=by rw [if_neg (by omega)]; omega
  have e2:(if 0 > 0 - (j:Int) then (0:Int) else 0 - j).toNat=0:=by split <;> omega
  rw [e1,e2,yt,Int.ediv_one,show m=a+j by omega,jm]
  simp only [zW,Int.mul_left_comm,yF]
 ·obtain ⟨j,rfl⟩:∃ j:Nat,e = -(j:Int):=⟨(-e).toNat,by omega⟩
  have e1:(if 0 > -(j:Int) then (0:Int) else -(j:Int)).toNat=0:=by split <;> omega
  have e2:(if 0 > 0 - -(j:Int) then (0:Int) else 0 - -(j:Int)).toNat=j:=by split <;> omega
  rw [e1,e2,yt,yj,show a=j+m by omega,jm]
  have:c * (2 ^ j * 2 ^ m) * x=2 ^ j * (c * 2 ^ m * x):=by simp only [zW,Int.mul_left_comm,yF]
  rw [this,jM _ (zAb j)]
theorem mv_stand {s sg g h x:Int}{k b m:Nat}(hh:h=1 \/ h = -1)(hm:s+k=m):sg * g * h * mvI (s+k - b) (h * 2 ^ b * x)=sg * mvI s (g * 2 ^ k * x):=by
 rw [mv_pow (m:=m) (by omega),mv_pow (m:=m) (by omega)]
 have:=sg_sq hh
 calc sg * g * h * (h * 2 ^ m * x)=sg * g * (h * h) * 2 ^ m * x:=by simp only [zW]
  _=sg * (g * 2 ^ m * x):=by rw [this,yj]; simp only [zW]
theorem mvR_stand {s sg g h:Int}{k b m:Nat}(fs:List Int)(hh:h=1 \/ h = -1)(hm:s+k=m):(x5 (h * 2 ^ b) fs).map (fun y=>sg * g * h * mvI (s+k - b) y)=(x5 (g * 2 ^ k) fs).map fun y=>sg * mvI s y:=by
 unfold x5
 rw [yb,yb]
 exact yi fun x _=>mv_stand hh hm
theorem frm_down {row fs:List Int}{k:Nat}{g s:Int}(F:Frm row fs k g)(hs:s < 0 -> ∀ x ∈ row,x % 2 ^ (-s).toNat=0):∃ m:Nat,s+k=m:=by
 by_cases z:0 <= s+k
 ·exact ⟨(s+k).toNat,by omega⟩
 ·exfalso
  obtain ⟨x,hx,ox⟩:=F.od
  have hm:g * 2 ^ k * x ∈ row:=by rw [F.eq]; exact qP.mpr ⟨x,hx,rfl⟩
  have h0:=hs (by omega) _ hm
  obtain ⟨j,hj⟩:∃ j:Nat,(-s).toNat=k+1+j:=⟨(-s).toNat - k - 1,by omega⟩
  rw [hj] at h0
  obtain ⟨c,hc⟩:=Int.dvd_of_emod_eq_zero h0
  have e:g * 2 ^ k * x=2 ^ k * (g * x):=by rw [yF g,zW]
  have e2:(2:Int) ^ (k+1+j) * c=2 ^ k * (2 * (2 ^ j * c)):=by
   rw [jm,yo]
   simp only [zW]
  rw [e,e2] at hc
  have:=Jb (zAb k) hc
  rcases F.sg with r | r <;> rw [r] at this <;> omega
def fmI (H:Hp)(v:V)(row:List Int):Prop:=∃ t,v = .ref t /\ (((∀ x ∈ row,x=0) /\ ∃ r,H t=some (.tup [.ref r,.int 0,.int 0])) \/ ∃ (f:Addr) (fs:List Int) (k:Nat) (g:Int),H t=some (.tup [.ref f,.int k,.int g]) /\ H f=some (.tup (fs.map V.int)) /\ Frm row fs k g)
theorem fmI.same {H H':Hp}{v:V}{row:List Int}(h:fmI H v row)(s:Same H H'):fmI H' v row:=by
 obtain ⟨t,e,⟨z,r,h1⟩ | ⟨f,fs,k,g,h1,h2,F⟩⟩:=h
 ·exact ⟨t,e,.inl ⟨z,r,s _ _ h1⟩⟩
 ·exact ⟨t,e,.inr ⟨f,fs,k,g,s _ _ h1,s _ _ h2,F⟩⟩
def FmL (H:Hp)(us:List V)(rows:List (List Int)):Prop:=us.length=rows.length /\ ∀ (i:Nat) u row,us[i]? = some u -> rows[i]? = some row -> fmI H u row
theorem FmL.same {H H':Hp}{us:List V}{rows:List (List Int)}(h:FmL H us rows)(s:Same H H'):FmL H' us rows:=⟨h.1,fun i u row a b=>(h.2 i u row a b).same s⟩
def Std (H:Hp)(kvs:List (List Key × V))(R':List (List Int)):Prop:=∀ (fs:List Int) v,valV kvs (tkey fs)=some v -> ∃ (t:Addr) (i b:Nat) (h:Int),v = .ref t /\ H t=some (.tup [.int i,.int b,.int h]) /\ (h=1 \/ h = -1) /\ R'[i]? = some (x5 (h * 2 ^ b) fs)
theorem Std.same {H H':Hp}{kvs:List (List Key × V)}{R':List (List Int)}(h:Std H kvs R')(s:Same H H'):Std H' kvs R':=fun fs v e=>by
 obtain ⟨t,i,b,g,e1,h1,h2,h3⟩:=h fs v e
 exact ⟨t,i,b,g,e1,s _ _ h1,h2,h3⟩
def spPartBy (K:zA):Sp:=fun vs H Q _=>∃ (d l p:Addr) (kvs:List (List Key × V)) (us:List V) (rows R':List (List Int)) (a:Nat) (s sg:Int) (row:List Int),vs=[.ref d,.ref l,.ref p] /\ H d=some (.dT kvs) /\ Std H kvs R' /\ H l=some (.lst us) /\ FmL H us rows /\ H p=some (.tup [.int a,.int s,.int sg]) /\ rows[a]? = some row /\ (sg=0 \/ sg=1 \/ sg = -1) /\
 ((sg=0 \/ ∀ x ∈ row,x=0) -> ∀ t,SqT K H t [.int 0,.int 0,.int 0] -> Q (.ref t) H) /\
 ∀ (fs:List Int) (k:Nat) (g:Int),sg ≠ 0 -> Frm row fs k g -> (valV kvs (tkey fs)).isSome=true /\ ∀ (r:Addr) (i b:Nat) (h:Int) H',Same H H' -> H' r=some (.tup [.int i,.int (s+k - b),.int (sg * g * h)]) -> (h=1 \/ h = -1) -> R'[i]? = some (x5 (h * 2 ^ b) fs) -> Q (.ref r) H'
def spPts29:Sp:=fun vs H Q _=>∃ (x:Addr) (d:Wd),vs=[.ref x] /\ H x=some (.tup (j5 d)) /\ ∀ (l t u:Addr) H',Same H H' -> H' l=some (.lst [.ref t,.ref u]) -> H' t=some (.tup [.int d.a,.int d.s,.int 1]) -> H' u=some (.tup [.int d.b,.int d.t,.int (sgW d.w)]) -> Q (.ref l) H'
end L2
namespace L2
open PySem PySem.Spec PyProof.Rows PySem.W
theorem std_put {H:Hp}{kvs:List (List Key × V)}{R' R'':List (List Int)}{fs:List Int}{t:Addr}{i b:Nat}{h:Int}(st:Std H kvs R')(ht:H t=some (.tup [.int i,.int b,.int h]))(hh:h=1 \/ h = -1)(hr:R''[i]? = some (x5 (h * 2 ^ b) fs))(hx:∀ (j:Nat) row,R'[j]? = some row -> R''[j]? = some row):Std H (putK kvs (tkey fs) (.ref t)) R'':=fun gs v e=>by
 rw [zAS] at e
 by_cases z:tkey gs=tkey fs
 ·rw [if_pos z] at e
  cases e
  rw [tkey_inj z]
  exact ⟨t,i,b,h,rfl,ht,hh,hr⟩
 ·rw [if_neg z] at e
  obtain ⟨t',i',b',h',e1,h1,h2,h3⟩:=st gs v e
  exact ⟨t',i',b',h',e1,h1,h2,hx _ _ h3⟩
end L2
namespace L2
open PySem PySem.Spec PyProof.Rows
section
variable {X:Cx}{pins:List (Addr × Obj)}{σ:St}{H:Hp}{s:Shared}
end
structure LS (H H':Hp):Prop where
 st:∀ b o,H b=some o -> (∀ xs,o ≠ .lst xs) -> H' b=some o
 ls:∀ b xs,H b=some (.lst xs) -> ∃ ys,H' b=some (.lst ys)
theorem Same.ls {H H':Hp}(s:Same H H'):LS H H':=⟨fun b o h _=>s _ _ h,fun b xs h=>⟨xs,s _ _ h⟩⟩
theorem Chg.ls {H H':Hp}{p:Addr}{xs ys:List V}(c:Chg p H H')(h:H p=some (.lst xs))(h':H' p=some (.lst ys)):LS H H' :=
 ⟨fun b o e n=>c _ _ (fun z=>n xs (by rw [z,h] at e; exact (Option.some.inj e).symm)) e,fun b zs e=>by
  by_cases z:b=p
  ·rw [z]; exact ⟨_,h'⟩
  ·exact ⟨_,c _ _ z e⟩⟩
theorem LS.seqT {K:zA}{H H':Hp}{p:Addr}{xs:List V}(l:LS H H')(h:SqT K H p xs):SqT K H' p xs:=by
 rcases h with (h | ⟨o,h⟩) | h
 ·exact .inl (.inl (l.st _ _ h (fun _ z=>by cases z)))
 ·exact .inl (.inr ⟨o,l.st _ _ h (fun _ z=>by cases z)⟩)
 ·exact .inr h
end L2
namespace L2
open PySem PySem.Spec PyProof.Rows PySem.W
theorem zBW {n:Nat}{ds:List Wd}{k:Nat}{d:Wd}(h:ds[k]? = some d)(ha:d.a < n+k)(hb:d.b < n+k):(rowsW n ds).getD (n+k) []=rowD (rowsW n ds) d:=by
 have hk:=(qB.mp h).1
 have e:(rowsW n (ds.take (k+1)))[n+k]? = some (rowD (rowsW n (ds.take k)) d):=by
  rw [zAJ h,qG (by rw [rowsW_len,qO]; omega),rowsW_len,qO,show n+k - (n+min k ds.length)=0 by omega]
  rfl
 have e2:=JE n (ds.take (k+1)) (ds.drop (k+1)) e
 rw [yk] at e2
 rw [zY e2]
 unfold rowD
 rw [Jg (by omega) ha,Jg (by omega) hb]
section
variable {n:Nat}{ds:List Wd}{gs:List Go}{bs:List Bool}
end
structure BW (n:Nat) (ds:List Wd) (gs:List Go):Prop where
 f:FW4 n ds gs
 sd:∀ d ∈ ds,-100 <= d.s /\ d.s <= 100 /\ -100 <= d.t /\ d.t <= 100
 sg:∀ g ∈ gs,-100 <= g.sh /\ g.sh <= 100
 rb:RB 3000 (rowsW n ds)
section
variable {n:Nat}{ds:List Wd}{gs:List Go}{bs:List Bool}
end
def BareP (n:Nat)(es:List Wd):Prop:=(∀ j,j < n+es.length -> ∃ fs b h,Frm ((rowsW n es).getD j []) fs b h) /\ ∀ i j fs b h b' h',i < n+es.length -> j < n+es.length -> Frm ((rowsW n es).getD i []) fs b h -> Frm ((rowsW n es).getD j []) fs b' h' -> i=j
theorem frm_nz {row fs:List Int}{k:Nat}{g:Int}(F:Frm row fs k g):¬ ∀ x ∈ row,x=0:=fun z=>by
 obtain ⟨x,hx,ox⟩:=F.od
 have:=z (g * 2 ^ k * x) (by rw [F.eq]; exact qP.mpr ⟨x,hx,rfl⟩)
 have pk:=zAb k
 rcases F.sg with r | r <;> rw [r] at this
 ·rw [yN] at this
  rcases Int.mul_eq_zero.mp this with y | y
  ·exact pk y
  ·omega
 ·rw [Int.neg_one_mul,Int.neg_mul] at this
  rcases Int.mul_eq_zero.mp (Int.neg_eq_zero.mp this) with y | y
  ·exact pk y
  ·omega
theorem frm_k {row fs:List Int}{k:Nat}{g:Int}(F:Frm row fs k g){b:Nat}(hb:∀ x ∈ row,x.natAbs <= 2 ^ b):k <= b:=by
 obtain ⟨x,hx,ox⟩:=F.od
 have h:=hb (g * 2 ^ k * x) (by rw [F.eq]; exact qP.mpr ⟨x,hx,rfl⟩)
 have e:(g * 2 ^ k * x).natAbs=2 ^ k * x.natAbs:=by
  rw [xX,xX,JA]
  rcases F.sg with r | r <;> rw [r] <;> simp
 rw [e] at h
 have x1:1 <= x.natAbs:=by omega
 have h2:2 ^ k <= 2 ^ b:=zZ (Nat.le_mul_of_pos_right _ x1) h
 exact (Nat.pow_le_pow_iff_right (by decide)).mp h2
theorem unit_at {n i:Nat}(hi:i < n):(yY n i)[i]? = some 1:=by
 unfold yY
 rw [qI,Jc hi]
 show some (if i=i then (1:Int) else 0)=some 1
 rw [if_pos rfl]
theorem unit_off {n i j:Nat}{y:Int}(h:(yY n i)[j]? = some y)(hj:j ≠ i):y=0:=by
 unfold yY at h
 rw [qI] at h
 obtain ⟨k,hk,rfl⟩:=yW.mp h
 have:k=j:=by
  have:=(qB.mp hk).2
  rw [List.getElem_range] at this
  exact this.symm
 rw [if_neg (by omega)]
theorem zBX {n i:Nat}(hi:i < n):Frm (yY n i) (yY n i) 0 1:=by
 refine ⟨.inl rfl,by rw [yt,yj,zAa],⟨1,qE (unit_at hi),by decide⟩,i,1,unit_at hi,by decide,fun j y hj hy=>unit_off hy (by omega)⟩
theorem unit_inj {n i j:Nat}(hi:i < n)(h:yY n i=yY n j):i=j:=Classical.byContradiction fun z=>by
 have:=unit_at hi
 rw [h] at this
 have:=unit_off this z
 omega
structure Pst (n:Nat) (R R':List (List Int)) (a:Nat) (s sg:Int) (p:Go):Prop where
 lt:p.th < R'.length
 sn:p.sg=1 \/ p.sg = -1
 sh:Sh4 p.sh (R'.getD p.th [])
 eq:(R'.getD p.th []).map (fun y=>p.sg * mvI p.sh y)=(R.getD a []).map fun y=>sg * mvI s y
theorem zip_map {α:Type}(f:Int -> Int -> α)(u v:Int -> Int)(X Y:List Int):yy (fun x y=>f (u x) (v y)) X Y=yy f (X.map u) (Y.map v):=by
 rw [List.zipWith_map]
theorem zAc (R:List (List Int))(d:Wd):rowD R d=yy (fun x y=>x+y) ((R.getD d.a []).map (mvI d.s)) ((R.getD d.b []).map fun y=>sgW d.w * mvI d.t y):=by
 unfold rowD
 rw [← zip_map]
theorem mulR_zip (c:Int)(X Y:List Int):x5 c (yy (fun x y=>x+y) X Y)=yy (fun x y=>x+y) (X.map fun x=>c * x) (Y.map fun y=>c * y):=by
 unfold x5
 rw [List.map_zipWith,← zip_map]
 congr 1
 funext x y
 exact Int.mul_add c x y
theorem zip_comm (X Y:List Int):yy (fun x y:Int=>x+y) X Y=yy (fun x y=>x+y) Y X:=by
 rw [List.zipWith_comm]
 congr 1
 funext a b
 exact Int.add_comm b a
theorem rowD_G {R':List (List Int)}{p q:Go}(hp:p.sg=1 \/ p.sg = -1)(hq:q.sg=1 \/ q.sg = -1):rowD R' (xV p q)=x5 (JX p q) (yy (fun x y=>x+y) ((R'.getD p.th []).map fun y=>p.sg * mvI p.sh y) ((R'.getD q.th []).map fun y=>q.sg * mvI q.sh y)):=by
 have l1:sgW (Str.ofString "sum")=1:=by decide
 have l2:sgW (Str.ofString "less") = -1:=by decide
 have one:∀ s:Int,(fun y:Int=>1 * mvI s y)=mvI s:=fun s=>funext fun y=>yN _
 have mm:∀ s:Int,(fun x:Int=>-1 * (-1 * mvI s x))=mvI s:=fun s=>funext fun y=>by omega
 unfold xV JX
 rcases hp with z | z <;> rcases hq with y | y <;> rw [z,y]
 ·rw [if_pos rfl,if_pos rfl,zAa,zAc]
  simp only [l1,one]
 ·rw [if_neg (by decide),if_pos rfl,if_neg (by decide),zAa,zAc]
  simp only [l2,one]
 ·rw [if_neg (by decide),if_neg (by decide),if_neg (by decide),zAa,zAc,zip_comm]
  simp only [l2,one]
 ·rw [if_pos rfl,if_pos rfl,mulR_zip,zAc,yb,yb]
  simp only [l1,one,Function.comp_def,mm]
theorem signG_or {p q:Go}(hp:p.sg=1 \/ p.sg = -1):JX p q=1 \/ JX p q = -1:=by
 unfold JX
 split
 ·exact hp
 ·exact .inl rfl
theorem deedG_parts (p q:Go):((xV p q).w = "sum" \/ (xV p q).w = "less") /\ (((xV p q).a=p.th /\ (xV p q).s=p.sh /\ (xV p q).b=q.th /\ (xV p q).t=q.sh) \/ ((xV p q).a=q.th /\ (xV p q).s=q.sh /\ (xV p q).b=p.th /\ (xV p q).t=p.sh)):=by
 unfold xV
 split
 ·exact ⟨.inl rfl,.inl ⟨rfl,rfl,rfl,rfl⟩⟩
 ·split
  ·exact ⟨.inr rfl,.inl ⟨rfl,rfl,rfl,rfl⟩⟩
  ·exact ⟨.inr rfl,.inr ⟨rfl,rfl,rfl,rfl⟩⟩
theorem new_row {n:Nat}{R R':List (List Int)}{d:Wd}{p q:Go}(hp:Pst n R R' d.a d.s 1 p)(hq:Pst n R R' d.b d.t (sgW d.w) q):rowD R' (xV p q)=x5 (JX p q) (rowD R d):=by
 rw [rowD_G hp.sn hq.sn,hp.eq,hq.eq,zAc]
 have:(fun y:Int=>1 * mvI d.s y)=mvI d.s:=funext fun y=>yN _
 rw [this]
structure Mrg (n:Nat) (R:List (List Int)) (i:Nat) (kvs:List (List Key × V)) (es:List Wd):Prop where
 le:es.length <= i - n
 dk:∀ (k:Nat) (d:Wd),es[k]? = some d -> d.a < n+k /\ d.b < n+k /\ (d.w = "sum" \/ d.w = "less") /\ Sh4 d.s ((rowsW n es).getD d.a []) /\ Sh4 d.t ((rowsW n es).getD d.b [])
 rw_:∀ j,n <= j -> j < n+es.length -> ∃ m c,m < i /\ m < R.length /\ (c=1 \/ c = -1) /\ (rowsW n es).getD j []=x5 c (R.getD m [])
 kd:∀ j,n <= j -> j < n+es.length -> ∃ fs b h,Frm ((rowsW n es).getD j []) fs b h /\ (valV kvs (tkey fs)).isSome=true
 un:∀ i j fs b h b' h',i < n+es.length -> j < n+es.length -> Frm ((rowsW n es).getD i []) fs b h -> Frm ((rowsW n es).getD j []) fs b' h' -> i=j
 cv:∀ j,j < i -> ∀ fs k g,Frm (R.getD j []) fs k g -> (valV kvs (tkey fs)).isSome=true
section
variable {n i:Nat}{R:List (List Int)}{kvs:List (List Key × V)}{es:List Wd}
theorem mrg_zero:Mrg n R 0 kvs []:=⟨yM _,(fun k d h=>by cases h),(fun j h1 h2=>by simp only [xj] at h2; omega),(fun j h1 h2=>by simp only [xj] at h2; omega),fun i j fs b h b' h' hi hj f1 f2=>by
 simp only [xj,xP] at hi hj
 rw [xB hi] at f1
 rw [xB hj] at f2
 have e1:=(jP f1 (zBX hi)).1
 have e2:=(jP f2 (zBX hj)).1
 exact unit_inj hi (e1.symm.trans e2),fun j hj=>absurd hj (Nat.not_lt_zero _)⟩
theorem Mrg.skip (M:Mrg n R i kvs es)(h:∀ fs k g,Frm (R.getD i []) fs k g -> (valV kvs (tkey fs)).isSome=true):Mrg n R (i+1) kvs es :=
 ⟨by have:=M.le; omega,M.dk,fun j h1 h2=>by obtain ⟨m,c,a1,a2⟩:=M.rw_ j h1 h2; exact ⟨m,c,by omega,a2⟩,M.kd,M.un,fun j hj fs k g F=>by
  rcases xE j i with z | z
  ·exact M.cv j z fs k g F
  ·rw [show j=i by omega] at F
   exact h fs k g F⟩
theorem some_put {kvs:List (List Key × V)}{fs gs:List Int}{v:V}:(valV (putK kvs (tkey fs) v) (tkey gs)).isSome=true ↔ (gs=fs \/ (valV kvs (tkey gs)).isSome=true):=by
 rw [zAS]
 by_cases z:tkey gs=tkey fs
 ·rw [if_pos z]
  exact ⟨fun _=>.inl (tkey_inj z),fun _=>rfl⟩
 ·rw [if_neg z]
  exact ⟨.inr,fun h=>h.resolve_left fun y=>z (by rw [y])⟩
theorem Mrg.inp {fs:List Int}{k:Nat}{g:Int}{v:V}(M:Mrg n R i kvs es)(F:Frm (R.getD i []) fs k g):Mrg n R (i+1) (putK kvs (tkey fs) v) es :=
 ⟨by have:=M.le; omega,M.dk,fun j h1 h2=>by obtain ⟨m,c,a1,a2⟩:=M.rw_ j h1 h2; exact ⟨m,c,by omega,a2⟩,fun j h1 h2=>by
  obtain ⟨fs',b,h,F',s⟩:=M.kd j h1 h2
  exact ⟨fs',b,h,F',some_put.mpr (.inr s)⟩,M.un,fun j hj fs' k' g' F'=>by
  rcases xE j i with z | z
  ·exact some_put.mpr (.inr (M.cv j z fs' k' g' F'))
  ·rw [show j=i by omega] at F'
   exact some_put.mpr (.inl (jP F' F).1)⟩
theorem Mrg.deed {fs:List Int}{k:Nat}{g:Int}{v:V}{d:Wd}{p q:Go}(M:Mrg n R i kvs es)(F:Frm (R.getD i []) fs k g)(hn:n <= i)(hi:i < R.length)(hu:∀ j,j < n -> R.getD j []=yY n j)(hno:(valV kvs (tkey fs)).isSome=false)(hd:R.getD i []=rowD R d)(hp:Pst n R (rowsW n es) d.a d.s 1 p)(hq:Pst n R (rowsW n es) d.b d.t (sgW d.w) q) :
  Mrg n R (i+1) (putK kvs (tkey fs) v) (es ++ [xV p q]) /\ (rowsW n (es ++ [xV p q]))[n+es.length]? = some (x5 (g * JX p q * 2 ^ k) fs):=by
 have hs:=signG_or (q:=q) hp.sn
 have er:rowD (rowsW n es) (xV p q)=x5 (JX p q) (R.getD i []):=by rw [hd,new_row hp hq]
 have lr:=rowsW_len n es
 have old:∀ j,j < n+es.length -> (rowsW n (es ++ [xV p q])).getD j []=(rowsW n es).getD j []:=fun j hj=>by
  rw [xT,qD,qH (by rw [lr]; exact hj),← qD]
 have neu:(rowsW n (es ++ [xV p q]))[n+es.length]? = some (rowD (rowsW n es) (xV p q)):=by
  rw [xT,qG (by rw [lr]; exact zE _),lr,ya]
  rfl
 have neg:(rowsW n (es ++ [xV p q])).getD (n+es.length) []=x5 (JX p q) (R.getD i []):=by rw [zY neu,er]
 have Fn:Frm ((rowsW n (es ++ [xV p q])).getD (n+es.length) []) fs k (JX p q * g):=by
  rw [neg]
  have:=frm_mul (j:=0) F hs
  rw [yt,yj,xP] at this
  exact this
 have len:(es ++ [xV p q]).length=es.length+1:=by rw [qF]; rfl
 have fresh:∀ j,j < n+es.length -> ∀ b h,¬ Frm ((rowsW n es).getD j []) fs b h:=fun j hj b h F'=>by
  rcases xE j n with z | z
  ·rw [xB z,← hu j z] at F'
   have:=M.cv j (by omega) fs b h F'
   rw [hno] at this
   cases this
  ·obtain ⟨fs',b',h',F'',s⟩:=M.kd j z hj
   rw [(jP F'' F').1,hno] at s
   cases s
 refine ⟨⟨by rw [len]; have:=M.le; omega,fun k' d' hk=>?_,fun j h1 h2=>?_,fun j h1 h2=>?_,fun a b' fs' b h b'' h'' ha hb f1 f2=>?_,fun j hj fs' k' g' F'=>?_⟩,?_⟩
 ·rcases get_snoc hk with ⟨kl,z⟩ | ⟨kl,rfl⟩
  ·obtain ⟨a1,a2,a3,a4,a5⟩:=M.dk k' d' z
   rw [old _ (by omega),old _ (by omega)]
   exact ⟨a1,a2,a3,a4,a5⟩
  ·have lp:p.th < n+es.length:=by have:=hp.lt; omega
   have lq:q.th < n+es.length:=by have:=hq.lt; omega
   have sp:=hp.sh
   have sq:=hq.sh
   rw [← old _ lp] at sp
   rw [← old _ lq] at sq
   obtain ⟨w1,⟨c1,c2,c3,c4⟩ | ⟨c1,c2,c3,c4⟩⟩:=deedG_parts p q
   ·rw [c1,c2,c3,c4]
    exact ⟨by omega,by omega,w1,sp,sq⟩
   ·rw [c1,c2,c3,c4]
    exact ⟨by omega,by omega,w1,sq,sp⟩
 ·rw [len] at h2
  rcases xE j (n+es.length) with z | z
  ·obtain ⟨m,c,a1,a2,a3,a4⟩:=M.rw_ j h1 z
   exact ⟨m,c,by omega,a2,a3,by rw [old j z]; exact a4⟩
  ·rw [show j=n+es.length by omega]
   exact ⟨i,JX p q,by omega,hi,hs,neg⟩
 ·rw [len] at h2
  rcases xE j (n+es.length) with z | z
  ·obtain ⟨fs',b,h,F',s⟩:=M.kd j h1 z
   exact ⟨fs',b,h,by rw [old j z]; exact F',some_put.mpr (.inr s)⟩
  ·rw [show j=n+es.length by omega]
   exact ⟨fs,k,_,Fn,some_put.mpr (.inl rfl)⟩
 ·rw [len] at ha hb
  rcases xE a (n+es.length) with z | z <;> rcases xE b' (n+es.length) with y | y
  ·rw [old a z] at f1
   rw [old b' y] at f2
   exact M.un a b' fs' b h b'' h'' z y f1 f2
  ·rw [show b'=n+es.length by omega] at f2
   rw [old a z,(jP f2 Fn).1] at f1
   exact (fresh a z _ _ f1).elim
  ·rw [show a=n+es.length by omega] at f1
   rw [old b' y,(jP f1 Fn).1] at f2
   exact (fresh b' y _ _ f2).elim
  ·omega
 ·rcases xE j i with z | z
  ·exact some_put.mpr (.inr (M.cv j z fs' k' g' F'))
  ·rw [show j=i by omega] at F'
   exact some_put.mpr (.inl (jP F' F).1)
 ·rw [neu,er,F.eq,mulR_mul]
  congr 2
  rw [yF g (JX p q),zW]
def GoM (R R':List (List Int))(g g':Go):Prop:=((g.sg=0 \/ ∀ x ∈ R.getD g.th [],x=0) /\ g'=⟨0,0,0⟩) \/ (g.sg ≠ 0 /\ Pst 0 R R' g.th g.sh g.sg g')
theorem zero_map {l:List Int}{c s:Int}(h:c=0 \/ ∀ x ∈ l,x=0):l.map (fun y=>c * mvI s y)=l.map fun _=>0:=yi fun x hx=>by
 rcases h with z | z
 ·rw [z,Int.zero_mul]
 ·rw [z x hx,mvI_0,Int.mul_zero]
theorem const_map {l m:List Int}(h:l.length=m.length):l.map (fun _=>(0:Int))=m.map fun _=>0:=by
 rw [List.map_const',List.map_const',h]
theorem mul1_nat {c x:Int}(h:c=1 \/ c = -1):(c * x).natAbs=x.natAbs:=by
 rcases h with z | z <;> rw [z] <;> simp
end
end L2
namespace L2
open PySem PySem.Spec PyProof.Rows PySem.W
section
variable {K:zA}{σ:St}{H:Hp}{Q:VK}{cs:List Nat}{te:TE}
theorem comp_goalsTK {gl:Addr}{os:List V}{gs:List Go}(hl:H gl=some (.lst os))(hg:HKs K gTp H os gs)(hz:gs.length <= 1000){β:Type}(F:β -> List V)(h:Go -> β)
  (hb:∀ g H' (R:VK),g ∈ gs -> Same H H' -> (∀ r,H' r=none -> R (.ref r) (upd H' r (.tup (F (h g))))) -> te ([some (.int (g.th:Int)),some (.int g.sh),some (.int g.sg)] ++ yZ cs σ) H' R)
  (hd:∀ acc ys H',H acc=none -> Same H H' -> H' acc=some (.lst ys) -> HTs F H' ys (gs.map h) -> Q (.ref acc) H') :
  y9 (Itl K gl) 3 cs (gTupK K 3 (zAy (xk 0) (zAy (xk 1) (zAy (xk 2) gNil)))) tYes te σ H Q:=by
 refine jO gs.length (fun acc i ws H'=>Same H H' /\ H' acc=some (.lst ws) /\ HTs F H' ws ((gs.take i).map h)) (yG hz) ?_ ?_ ?_ ?_ ?_ ?_
 ·rintro acc i ws H' hi ⟨s,_,_⟩
  exact ⟨os,os[i]'(by rw [hg.len]; exact hi),SqL.of (s _ _ hl),qA _⟩
 ·rintro acc ws H' ⟨s,_,_⟩
  exact ⟨os,SqL.of (s _ _ hl),by rw [hg.len]; exact zE _⟩
 ·intro acc ha
  exact ⟨zO ha _,zF,hts_nil⟩
 ·rintro acc i ws H' ⟨s,ha,ht⟩
  exact ⟨ha,by rw [ht.len,qC,qO]; omega⟩
 ·rintro acc i ws H' ts x H2 N hn hi ⟨s,ha,ht⟩ y hts hN
  obtain ⟨e,hx0⟩:=y
  have hx:=hx0 os (SqL.of (s _ _ hl))
  clear hx0
  subst e
  obtain ⟨p,hp1,hp2⟩:=hg.at_ i _ (qA hi)
  have hgi:gs[i]? = some gs[i]:=qA hi
  have hgm:gs[i] ∈ gs:=jd hi
  generalize gs[i]=g at hp2 hgi hgm
  rw [hx] at hp1
  cases hp1
  obtain ⟨t0,t1,t2,rfl⟩:∃ t0 t1 t2,ts=[t0,t1,t2]:=by
   match ts,hts with
   | [a,b,c],_=>exact ⟨a,b,c,rfl⟩
  have hp3:=s.seqT hp2
  unfold gTp at hp3
  rw [zBQ]
  refine ⟨_,hp3,rfl,?_⟩
  rw [jj,xN,jj,xN,jj,xN,zBj,zA1,if_pos rfl]
  refine hb g _ _ hgm s fun r hr=>?_
  have sr:=zO hr (.tup (F (h g)))
  have ha5:=sr _ _ ha
  have tk:(gs.take (i+1)).map h=(gs.take i).map h ++ [h g]:=by rw [za,hgi,yC]; rfl
  refine ⟨ha5,hN _ [_,_,_] _ rfl ⟨same_upd hn (s.trans sr),zF,?_⟩⟩
  rw [tk]
  exact ((ht.same sr).chgL ha5 (Chg.upd _)).snoc (by rw [yH (ne_of_none ha hr).symm,zF])
 ·rintro acc ws H' hn ⟨s,ha,ht⟩
  rw [zt] at ht
  exact hd acc ws H' hn s ha ht
theorem comp_rel {α:Type}{f:α -> List V}{Rl:Hp -> V -> α -> Prop}{v:Addr}{us:List V}{xs:List α}(mono:∀ H H' u x,Rl H u x -> LS H H' -> Rl H' u x)(hv:H v=some (.lst us))(ht:HTs f H us xs)(hz:xs.length <= 1000)
  (hb:∀ (i:Nat) t x H' (R:VK),xs[i]? = some x -> H' t=some (.tup (f x)) -> Same H H' -> (∀ u H5,Same H' H5 -> Rl H5 u x -> R u H5) -> te (some (.ref t) :: yZ cs σ) H' R)
  (hd:∀ acc ws H',H acc=none -> Same H H' -> H' acc=some (.lst ws) -> ws.length=xs.length -> (∀ (i:Nat) u x,ws[i]? = some u -> xs[i]? = some x -> Rl H' u x) -> Q (.ref acc) H') :
  y9 (Itl K v) 1 cs (xk 0) tYes te σ H Q:=by
 have ul:=ht.len
 refine jO us.length (fun acc i ys H'=>Same H H' /\ H' acc=some (.lst ys) /\ ys.length=i /\ ∀ (j:Nat) u x,ys[j]? = some u -> xs[j]? = some x -> Rl H' u x) (yG (by omega)) ?_ ?_ ?_ ?_ ?_ ?_
 ·rintro acc i ys H' hi ⟨s,_⟩
  exact ⟨us,us[i],SqL.of (s _ _ hv),qA hi⟩
 ·rintro acc ys H' ⟨s,_⟩
  exact ⟨us,SqL.of (s _ _ hv),zE _⟩
 ·intro acc ha
  exact ⟨zO ha _,zF,rfl,fun j u x h=>by cases h⟩
 ·rintro acc i ys H' ⟨s,ha,hl,_⟩
  exact ⟨ha,Nat.le_of_eq hl⟩
 ·rintro acc i ys H' ts x H2 N hn hi ⟨s,ha,hl,hy⟩ ⟨rfl,hx⟩ hts hN
  have hx:=hx us (SqL.of (s _ _ hv))
  obtain ⟨t0,rfl⟩:∃ t0,ts=[t0]:=List.length_eq_one_iff.mp hts
  have hiL:i < xs.length:=by rw [← ul]; exact hi
  obtain ⟨t,hy1,hy2⟩:=ht.at_ i _ (qA hiL)
  have hSi:xs[i]? = some xs[i]:=qA hiL
  generalize xs[i]=S at hy2 hSi
  rw [hx] at hy1
  cases hy1
  rw [xN,zA1,if_pos rfl]
  refine hb i t S _ _ hSi (s _ _ hy2) s fun u H5 s5 h5=>?_
  have ha5:=s5 _ _ ha
  have L:LS H5 (upd H5 acc (.lst (ys ++ [u]))):=(Chg.upd _).ls ha5 zF
  refine ⟨ha5,hN _ [_] _ rfl ⟨same_upd hn (s.trans s5),zF,by rw [qF,hl]; rfl,fun j u' x' hu hx'=>?_⟩⟩
  rcases get_snoc hu with ⟨jl,z⟩ | ⟨jl,rfl⟩
  ·exact mono _ _ _ _ (mono _ _ _ _ (hy j u' x' z hx') s5.ls) L
  ·rw [show j=i by omega,hSi] at hx'
   cases hx'
   exact mono _ _ _ _ h5 L
 ·rintro acc ys H' hn ⟨s,ha,hl,hy⟩
  exact hd acc ys H' hn s ha (by omega) hy
end
theorem fmI.ls {H H':Hp}{v:V}{row:List Int}(h:fmI H v row)(l:LS H H'):fmI H' v row:=by
 have nt:∀ xs ys:List V,HO.tup xs ≠ .lst ys:=fun _ _ z=>by cases z
 obtain ⟨t,e,⟨z,r,h1⟩ | ⟨f,fs,k,g,h1,h2,F⟩⟩:=h
 ·exact ⟨t,e,.inl ⟨z,r,l.st _ _ h1 (nt _)⟩⟩
 ·exact ⟨t,e,.inr ⟨f,fs,k,g,l.st _ _ h1 (nt _),l.st _ _ h2 (nt _),F⟩⟩
end L2
namespace L2
open PySem PySem.Spec PyProof.Rows PySem.W
def TpS (H H':Hp):Prop:=∀ b xs,H b=some (.tup xs) -> H' b=some (.tup xs)
theorem LS.tp {H H':Hp}(s:LS H H'):TpS H H':=fun b xs h=>s.st _ _ h (fun _ z=>by cases z)
theorem Chg.tp {H H':Hp}{p:Addr}{o:HO}(c:Chg p H H')(h:H p=some o)(ho:∀ xs,o ≠ .tup xs):TpS H H':=fun b xs e=>c _ _ (fun z=>by rw [z,h] at e; cases e; exact ho xs rfl) e
theorem fmI.tp {H H':Hp}{v:V}{row:List Int}(h:fmI H v row)(l:TpS H H'):fmI H' v row:=by
 obtain ⟨t,e,⟨z,r,h1⟩ | ⟨f,fs,k,g,h1,h2,F⟩⟩:=h
 ·exact ⟨t,e,.inl ⟨z,r,l _ _ h1⟩⟩
 ·exact ⟨t,e,.inr ⟨f,fs,k,g,l _ _ h1,l _ _ h2,F⟩⟩
theorem FmL.tp {H H':Hp}{us:List V}{rows:List (List Int)}(h:FmL H us rows)(l:TpS H H'):FmL H' us rows:=⟨h.1,fun i u row a b=>(h.2 i u row a b).tp l⟩
theorem Std.tp {H H':Hp}{kvs:List (List Key × V)}{R':List (List Int)}(h:Std H kvs R')(l:TpS H H'):Std H' kvs R':=fun fs v e=>by
 obtain ⟨t,i,b,g,e1,h1,h2,h3⟩:=h fs v e
 exact ⟨t,i,b,g,e1,l _ _ h1,h2,h3⟩
theorem HTs.tp {α:Type}{f:α -> List V}{H H':Hp}{vs:List V}{xs:List α}(h:HTs f H vs xs)(l:TpS H H'):HTs f H' vs xs:=⟨h.len,fun k x e=>by
 obtain ⟨p,a,b⟩:=h.at_ k x e
 exact ⟨p,a,l _ _ b⟩⟩
theorem frm_ex {row:List Int}(h:¬ ∀ x ∈ row,x=0):∃ fs k g,Frm row fs k g:=by
 have ex:∃ k:Nat,∃ n ∈ row,n ≠ 0 /\ shN n=k:=by
  obtain ⟨x,hx⟩:=Classical.not_forall.mp h
  obtain ⟨h1,h2⟩:=Classical.not_imp.mp hx
  obtain ⟨_,_,k,e1,_⟩:=xA h2
  exact ⟨k,x,h1,h2,e1⟩
 obtain ⟨k0,hk0⟩:=ex
 have mn:∃ k:Nat,(∃ n ∈ row,n ≠ 0 /\ shN n=k) /\ ∀ j:Nat,j < k -> ¬ ∃ n ∈ row,n ≠ 0 /\ shN n=j:=by
  induction k0 using Nat.strongRecOn with
  | ind k ih =>
   by_cases z:∃ j:Nat,j < k /\ ∃ n ∈ row,n ≠ 0 /\ shN n=j
   ·obtain ⟨j,h1,h2⟩:=z
    exact ih j h1 h2
   ·exact ⟨k,hk0,fun j hj y=>z ⟨j,hj,y⟩⟩
 obtain ⟨k,hat,hlt⟩:=mn
 have hmin:∀ n ∈ row,n ≠ 0 -> (k:Int) <= shN n:=fun n hn n0=>by
  obtain ⟨_,_,j,e1,_⟩:=xA n0
  rcases xE j k with z | z
  ·exact (hlt j z ⟨n,hn,n0,e1⟩).elim
  ·rw [e1]; omega
 have nf:(row.filter fun x=>decide (x ≠ 0)) ≠ []:=fun z=>by
  obtain ⟨n,hn,n0,_⟩:=hat
  have:n ∈ row.filter fun x=>decide (x ≠ 0):=Jn.mpr ⟨hn,decide_eq_true n0⟩
  rw [z] at this
  cases this
 obtain ⟨n,rest,ef⟩:=List.exists_cons_of_ne_nil nf
 obtain ⟨i0,a,b,c⟩:=first_nz ef
 exact ⟨_,k,sgN n,frm_of hmin hat ⟨i0,n,a,b,rfl,c⟩⟩
theorem frm_mv {row fs:List Int}{k:Nat}{g s c:Int}(F:Frm row fs k g)(hs:Dv s row)(hc:c=1 \/ c = -1):∃ m:Nat,Frm (row.map fun y=>c * mvI s y) fs m (c * g):=by
 obtain ⟨m,em⟩:=frm_down F (fun z x hx=>Int.emod_eq_zero_of_dvd (hs z x hx))
 refine ⟨m,sg_mul hc F.sg,?_,F.od,F.ld⟩
 rw [F.eq]
 unfold x5
 rw [yb]
 refine yi fun x _=>?_
 show c * mvI s (g * 2 ^ k * x)=c * g * 2 ^ m * x
 rw [mv_pow (m:=m) (by omega)]
 simp only [zW]
theorem zip_left0 {X Y:List Int}(f:Int -> Int)(h:∀ x ∈ X,x=0)(hl:X.length=Y.length)(s:Int):yy (fun x y=>mvI s x+f y) X Y=Y.map f:=by
 induction X generalizing Y with
 | nil=>cases Y with
  | nil=>rfl
  | cons _ _=>cases hl
 | cons x X ih=>cases Y with
  | nil=>cases hl
  | cons y Y =>
   rw [List.zipWith_cons_cons,zR,ih (fun z hz=>h z (ze _ hz)) (by simpa using hl),h x zb,mvI_0,Int.zero_add]
theorem zip_right0 {X Y:List Int}(c t:Int)(h:∀ y ∈ Y,y=0)(hl:X.length=Y.length)(s:Int):yy (fun x y=>mvI s x+c * mvI t y) X Y=X.map (mvI s):=by
 induction X generalizing Y with
 | nil=>cases Y with
  | nil=>rfl
  | cons _ _=>cases hl
 | cons x X ih=>cases Y with
  | nil=>cases hl
  | cons y Y =>
   rw [List.zipWith_cons_cons,zR,ih (fun z hz=>h z (ze _ hz)) (by simpa using hl),h y zb,mvI_0,Int.mul_zero,Int.add_zero]
theorem sgW_or (w:Str):sgW w=1 \/ sgW w = -1:=by
 unfold sgW
 split
 ·exact .inr rfl
 ·exact .inl rfl
section
variable {n i:Nat}{R:List (List Int)}{kvs:List (List Key × V)}{es:List Wd}
theorem Mrg.nz {fs:List Int}{k:Nat}{g:Int}{d:Wd}(M:Mrg n R i kvs es)(F:Frm (R.getD i []) fs k g)(hno:(valV kvs (tkey fs)).isSome=false)(hd:R.getD i []=rowD R d)(ha:d.a < i)(hb:d.b < i)(hl:(R.getD d.a []).length=(R.getD d.b []).length)(sa:Dv d.s (R.getD d.a []))(sb:Dv d.t (R.getD d.b [])):(¬ ∀ x ∈ R.getD d.a [],x=0) /\ ¬ ∀ x ∈ R.getD d.b [],x=0:=by
 have con:∀ (j:Nat) (s c:Int),j < i -> (c=1 \/ c = -1) -> Dv s (R.getD j []) -> R.getD i []=(R.getD j []).map (fun y=>c * mvI s y) -> False:=fun j s c hj hc hs e=>by
  by_cases z:∀ x ∈ R.getD j [],x=0
  ·refine frm_nz F fun x hx=>?_
   rw [e,zero_map (.inr z)] at hx
   obtain ⟨_,_,rfl⟩:=qP.mp hx
   rfl
  ·obtain ⟨fs',k',g',F'⟩:=frm_ex z
   obtain ⟨m,F''⟩:=frm_mv F' hs hc
   rw [← e] at F''
   have:=M.cv j hj fs' k' g' F'
   rw [(jP F'' F).1,hno] at this
   cases this
 refine ⟨fun z=>con d.b d.t (sgW d.w) hb (sgW_or _) sb ?_,fun z=>con d.a d.s 1 ha (.inl rfl) sa ?_⟩
 ·rw [hd]
  exact zip_left0 (fun y=>sgW d.w * mvI d.t y) z hl d.s
 ·rw [hd,show (fun y:Int=>1 * mvI d.s y)=mvI d.s from funext fun y=>yN _]
  exact zip_right0 _ _ z hl d.s
end
theorem pick_list {α β:Type}{P:Nat -> α -> β -> Prop}:∀ {xs:List α},(∀ (i:Nat) x,xs[i]? = some x -> ∃ y,P i x y) -> ∃ ys:List β,ys.length=xs.length /\ ∀ (i:Nat) x y,xs[i]? = some x -> ys[i]? = some y -> P i x y
 | [],_=>⟨[],rfl,fun i x y h=>by cases h⟩
 | a :: r,h=>by
  obtain ⟨y0,h0⟩:=h 0 a rfl
  obtain ⟨ys,l,hy⟩:=pick_list (P:=fun i x y=>P (i+1) x y) (xs:=r) (fun i x e=>h (i+1) x (by simpa using e))
  refine ⟨y0 :: ys,by rw [zq,zq,l],fun i x y e1 e2=>?_⟩
  cases i with
  | zero=>cases e1; cases e2; exact h0
  | succ i=>exact hy i x y (by simpa using e1) (by simpa using e2)
theorem putK_len {kvs:List (List Key × V)}{k:List Key}{v:V}:(putK kvs k v).length <= kvs.length+1:=by
 unfold putK
 split
 ·rw [qC]; omega
 ·rw [qF]; exact zE _
end L2
namespace L2
open PySem PySem.Spec PyProof.Rows PySem.W
end L2
namespace L2
open PySem PySem.Spec PyProof.Rows PySem.W
section
variable {n i:Nat}{ds:List Wd}{gs:List Go}{ms:List Nat}
end
end L2
namespace L2
open PySem PySem.Spec PyProof.Rows PySem.W
end L2
namespace L2
open PySem PySem.Spec PyProof.Rows PySem.W
section
variable {K:zA}{σ:St}{H:Hp}{Q:VK}{cs:List Nat}{te:TE}
end
end L2
namespace L2
open PySem PySem.Spec PyProof.Rows
section
variable {ins m:Nat}{s1 s2:List Wd}{t1 t2:List Go}
end
section
variable {ins:Nat}{ds:List Wd}{gs:List Go}{μ:List Int}{B:Int}
end
end L2
namespace L2
open PySem PySem.Spec PyProof.Rows
def advM (m:Nat)(p:SetTable.Probe):SetTable.Probe :=
 if p.more > 0 then { p with j:=p.j+1,more:=p.more - 1 } else
 { p with j:=(p.i * 5+1+p.perturb / 32) % (m+1),more:=SetTable.runEnd m ((p.i * 5+1+p.perturb / 32) % (m+1)) - (p.i * 5+1+p.perturb / 32) % (m+1),i:=(p.i * 5+1+p.perturb / 32) % (m+1),perturb:=p.perturb / 32 }
def pn (m:Nat):Nat -> SetTable.Probe -> SetTable.Probe
 | 0,p=>p
 | n+1,p=>pn m n (advM m p)
def stP (m:Nat)(x:Int):SetTable.Probe:={ j:=SetTable.bits x % (m+1),more:=SetTable.runEnd m (SetTable.bits x % (m+1)) - SetTable.bits x % (m+1),i:=SetTable.bits x % (m+1),perturb:=SetTable.bits x,dummy:=none }
def sl (m:Nat)(x:Int)(n:Nat):Nat:=(pn m n (stP m x)).j
section
variable {led:Bool}{t:SetTable}{es:Array (Int × Value)}
end
end L2
namespace L2
open PySem PySem.Spec PyProof.Rows
section
variable {prog:Program}{w:World}{ok:Addr -> Prop}{A:Around}{E:Value -> Shared -> Prop}{s:Shared}
end
section
variable {prog:Program}{w:World}{ok:Addr -> Prop}{A:Around}{R:Result -> Shared -> Prop}{I:Addr}{fp wr:List Addr}{G:Array GenState -> Array GenState -> Prop}{P:Nat -> Value -> Prop}{St:Nat -> Shared -> Prop}
end
end L2
namespace L2
open PySem PySem.Spec PyProof.Rows
section
variable {prog:Program}{w:World}{A:Around}{E:Value -> Shared -> Prop}{s:Shared}
end
end L2
namespace L2
open PySem PySem.Spec PyProof.Rows
theorem zAd {α:Type}{P:Nat -> α -> Prop}:∀ n:Nat,(∀ i,i < n -> ∃ x,P i x) -> ∃ xs:List α,xs.length=n /\ ∀ (i:Nat) x,xs[i]? = some x -> P i x
 | 0,_=>⟨[],rfl,fun i x h=>by simp at h⟩
 | n+1,h=>by
  obtain ⟨xs,h1,h2⟩:=zAd n fun i hi=>h i (by omega)
  obtain ⟨x,hx⟩:=h n (by omega)
  refine ⟨xs ++ [x],by rw [qF,h1]; rfl,fun i y hy=>?_⟩
  rcases get_snoc hy with ⟨_,z⟩ | ⟨il,rfl⟩
  ·exact h2 i y z
  ·rw [il,h1]; exact hx
end L2
namespace L2
open PySem PySem.Spec PyProof.Rows
section
variable {K:zA}{σ:St}{H:Hp}{Q:VK}{cs:List Nat}{te:TE}
end
end L2
namespace L2
open PySem PySem.Spec PyProof.Rows
theorem zBB {n:Nat}{ds:List Wd}(i:Nat){j:Nat}{r:List Int}(h:(rowsW n (ds.take i))[j]? = some r):(rowsW n ds)[j]? = some r:=by
 have:=JE n (ds.take i) (ds.drop i) h
 rwa [yk] at this
theorem zAe {n:Nat}{ds:List Wd}(i:Nat){r:List Int}(h:r ∈ rowsW n (ds.take i)):r ∈ rowsW n ds:=by
 obtain ⟨j,hj⟩:=zz h
 exact qE (zBB i hj)
theorem zB0 {n:Nat}{ds:List Wd}{i j:Nat}(hi:i <= ds.length)(hj:j < n+i):(rowsW n (ds.take i)).getD j []=(rowsW n ds).getD j []:=by
 have e:=qA (l:=rowsW n (ds.take i)) (i:=j) (by rw [rowsW_len,qO]; omega)
 rw [zY e,zY (zBB i e)]
theorem Sh.zero (r:List Int):Sh 0 r:=⟨by decide,by decide,fun z=>absurd z (by decide)⟩
end L2
namespace L2
open PySem PySem.Spec PyProof.Rows
structure WebOkB (ins:Nat) (ds:List Wd) (gs:List Go):Prop where
 i1:1 <= ins
 i2:ins <= 12
 dk:∀ (k:Nat) (d:Wd),ds[k]? = some d -> d.a < ins+k /\ d.b < ins+k /\ (d.w = "sum" \/ d.w = "less")
 gk:∀ g ∈ gs,g.th < ins+ds.length
 dl:ds.length <= 400
 gl:gs.length <= 12
theorem arr_ltB {ins:Nat}{ds:List Wd}{gs:List Go}(ok:WebOkB ins ds gs){t:Nat}{a:Ar}(h:(arrF ins 0 ds)[t]? = some a):a.st < a.go /\ a.go=ins+t / 2 /\ a.go < ins+ds.length:=by
 obtain ⟨d,h1,h2,h3⟩:=arr_at h
 have k:=ok.dk _ d h1
 have hl:=(qB.mp h1).1
 rcases h3 with ⟨_,z⟩ | ⟨_,z⟩ <;> rw [z] <;> refine ⟨?_,by show ins+0+t / 2=_; omega,by show ins+0+t / 2 < _; omega⟩
 ·show d.a < ins+0+t / 2
  omega
 ·show d.b < ins+0+t / 2
  omega
theorem Ps.stepB {ins:Nat}{ds:List Wd}{gs:List Go}{i:Nat}{bs:List Bool}(ok:WebOkB ins ds gs)(h:Ps ins ds gs i bs){a:Ar}(hi:i < 2 * ds.length)(ha:(arrF ins 0 ds)[2 * ds.length - 1 - i]? = some a) :
  ∃ b,bs[a.go]? = some b /\ a.st < bs.length /\ Ps ins ds gs (i+1) (if b=true then bs.set a.st true else bs):=by
 obtain ⟨l1,l2,l3⟩:=arr_ltB ok ha
 have hl:a.go < bs.length:=by rw [h.len]; exact l3
 refine ⟨bs[a.go],qA hl,by omega,?_⟩
 have at_:∀ t b,2 * ds.length - (i+1) <= t -> (arrF ins 0 ds)[t]? = some b -> t=2 * ds.length - 1 - i /\ b=a \/ 2 * ds.length - i <= t /\ a.go <= b.go:=fun t b ht hb=>by
  by_cases e:t=2 * ds.length - 1 - i
  ·subst e
   rw [ha] at hb
   exact .inl ⟨rfl,(Option.some.inj hb).symm⟩
  ·refine .inr ⟨by omega,?_⟩
   obtain ⟨_,m2,_⟩:=arr_ltB ok hb
   rw [l2,m2]
   have:(2 * ds.length - 1 - i) / 2 <= t / 2:=Nat.div_le_div_right (by omega)
   omega
 cases hb:bs[a.go] with
 | false =>
  rw [if_neg (by decide)]
  refine ⟨h.len,h.snd,h.root,fun t b ht hb' hg=>?_⟩
  rcases at_ t b ht hb' with ⟨_,z⟩ | ⟨z,_⟩
  ·subst z
   rw [qA hl,hb] at hg
   cases hg
  ·exact h.clo t b z hb' hg
 | true =>
  rw [if_pos rfl]
  have ra:Rch ins ds gs a.go:=h.snd _ (by rw [qA hl,hb])
  have rs:Rch ins ds gs a.st:=by
   obtain ⟨d,h1,h2,h3⟩:=arr_at ha
   rw [h2,xP] at ra
   rcases h3 with ⟨_,z⟩ | ⟨_,z⟩
   ·rw [z]; exact .fst h1 ra
   ·rw [z]; exact .snd h1 ra
  refine ⟨by rw [List.length_set]; exact h.len,fun j hj=>?_,fun g hg hs=>set_true (h.root g hg hs),fun t b ht hb' hg=>?_⟩
  ·by_cases e:a.st=j
   ·rw [← e]; exact rs
   ·rw [j9 e] at hj
    exact h.snd j hj
  ·rcases at_ t b ht hb' with ⟨_,z⟩ | ⟨z,m⟩
   ·subst z
    rw [List.getElem?_set_self (by omega)]
   ·rw [j9 (by omega)] at hg
    exact set_true (h.clo t b z hb' hg)
section
variable {ins:Nat}{ds:List Wd}{gs:List Go}{bs:List Bool}
theorem rch_ltB (ok:WebOkB ins ds gs){j:Nat}(h:Rch ins ds gs j):j < ins+ds.length:=by
 induction h with
 | root hg _=>exact ok.gk _ hg
 | fst hd _ ih=>have:=(ok.dk _ _ hd).1; omega
 | snd hd _ ih=>have:=(ok.dk _ _ hd).2.1; omega
end
section
variable {ins:Nat}{ds:List Wd}{gs:List Go}{bs:List Bool}
theorem Us.kpB (ok:WebOkB ins ds gs)(U:Us ins ds gs bs){j:Nat}(h:Rch ins ds gs j):L2.kp bs ins j:=.inr ((U.iff j (rch_ltB ok h)).mpr h)
end
section
variable {ins:Nat}{ds:List Wd}{gs:List Go}{bs:List Bool}
theorem kept_okB (ok:WebOkB ins ds gs)(zo:ZO gs)(U:Us ins ds gs bs):WebOkB ins (keptD bs ins 0 ds) (gs.map (renG bs ins)):=by
 have hl:(keptD bs ins 0 ds).length=keptN bs ins ds.length:=by
  have:=zAm bs ins ds 0
  rw [yf] at this
  exact this
 refine ⟨ok.i1,ok.i2,fun k d h=>?_,fun g hg=>?_,?_,by rw [qC]; exact ok.gl⟩
 ·obtain ⟨i,e,h1,h2,rfl,h4⟩:=zAn h
  rw [yf] at h2 h4
  have hi:i < ds.length:=(qB.mp h1).1
  have hr:=(U.iff _ (by omega)).mp h2
  obtain ⟨a1,a2,a3⟩:=ok.dk i e h1
  have b1:=ren_lt (U.kpB ok (.fst h1 hr)) a1
  have b2:=ren_lt (U.kpB ok (.snd h1 hr)) a2
  rw [zAo] at b1 b2
  have h4':k=keptN bs ins i:=by rw [← h4]; rfl
  exact ⟨by show renN bs ins e.a < _; omega,by show renN bs ins e.b < _; omega,a3⟩
 ·obtain ⟨g0,h0,rfl⟩:=qP.mp hg
  rw [hl]
  show renN bs ins g0.th < _
  by_cases z:g0.sg=0
  ·rw [zo g0 h0 z]
   show renN bs ins 0 < _
   rw [ren_zero]
   have:=ok.i1
   omega
  ·have:=ren_lt (U.kpB ok (.root h0 z)) (ok.gk g0 h0)
   rw [zAo] at this
   exact this
 ·rw [hl]
  have:=zBS bs ins ds.length
  have:=ok.dl
  omega
end
section
variable {ins:Nat}{ds:List Wd}{gs:List Go}{bs:List Bool}
theorem kept_rchB (ok:WebOkB ins ds gs)(U:Us ins ds gs bs){j:Nat}(h:Rch ins ds gs j):Rch ins (keptD bs ins 0 ds) (gs.map (renG bs ins)) (renN bs ins j):=by
 induction h with
 | @root g hg z=>exact Rch.root (g:=renG bs ins g) (qP.mpr ⟨g,hg,rfl⟩) z
 | @fst k d hd hr ih =>
  have hk:=(qB.mp hd).1
  have:=(kept_at (bs:=bs) (ins:=ins) (k:=0) hd (by rw [yf]; exact (U.iff _ (by omega)).mpr hr)).1
  rw [yf] at this
  rw [zAo] at ih
  exact Rch.fst (d:=renD bs ins d) this ih
 | @snd k d hd hr ih =>
  have hk:=(qB.mp hd).1
  have:=(kept_at (bs:=bs) (ins:=ins) (k:=0) hd (by rw [yf]; exact (U.iff _ (by omega)).mpr hr)).1
  rw [yf] at this
  rw [zAo] at ih
  exact Rch.snd (d:=renD bs ins d) this ih
end
structure FW4B (ins:Nat) (ds:List Wd) (gs:List Go):Prop where
 ok:WebOkB ins ds gs
 sh:∀ (k:Nat) (d:Wd),ds[k]? = some d -> d.a < ins+k /\ d.b < ins+k /\ Sh4 d.s ((rowsW ins ds).getD d.a []) /\ Sh4 d.t ((rowsW ins ds).getD d.b [])
 go:∀ g ∈ gs,g=⟨0,0,0⟩ \/ ((g.sg=1 \/ g.sg = -1) /\ Sh4 g.sh ((rowsW ins ds).getD g.th []))
 rb:RB 8000 (rowsW ins ds)
 wd:∀ r ∈ rowsW ins ds,r.length=ins
structure BWB (n:Nat) (ds:List Wd) (gs:List Go):Prop where
 f:FW4B n ds gs
 sd:∀ d ∈ ds,-900 <= d.s /\ d.s <= 900 /\ -900 <= d.t /\ d.t <= 900
 sg:∀ g ∈ gs,-900 <= g.sh /\ g.sh <= 900
 rb:RB 3000 (rowsW n ds)
section
variable {n:Nat}{ds:List Wd}{gs:List Go}{bs:List Bool}
theorem zB9 (ok:WebOkB n ds gs)(zo:ZO gs)(U:Us n ds gs bs):∀ j,j < n+ds.length -> (j < n \/ Rch n ds gs j) -> (rowsW n (keptD bs n 0 ds)).getD (renN bs n j) []=(rowsW n ds).getD j []:=by
 intro j
 induction j using Nat.strongRecOn with
 | ind j ih =>
  intro hj h
  by_cases z:j < n
  ·rw [show renN bs n j=j from if_pos z,xB z,xB z]
  ·have hr:Rch n ds gs j:=h.resolve_left z
   obtain ⟨k,rfl⟩:∃ k,j=n+k:=⟨j - n,by omega⟩
   have hk:k < ds.length:=by omega
   have e:=qA hk
   generalize ds[k]=d at e
   obtain ⟨a1,a2,_⟩:=ok.dk k d e
   have ka:=(kept_at (bs:=bs) (ins:=n) (k:=0) e (by rw [yf]; exact (U.iff _ hj).mpr hr)).1
   rw [yf] at ka
   have kk:(keptD bs n 0 ds)[keptN bs n k]? = some (renD bs n d):=ka
   obtain ⟨b1,b2,_⟩:=(kept_okB ok zo U).dk _ _ kk
   rw [zAo,zBW kk b1 b2,zBW e a1 a2]
   unfold rowD
   show yy _ ((rowsW n (keptD bs n 0 ds)).getD (renN bs n d.a) []) ((rowsW n (keptD bs n 0 ds)).getD (renN bs n d.b) [])=_
   rw [ih d.a a1 (by omega) (.inr (.fst e hr)),ih d.b a2 (by omega) (.inr (.snd e hr))]
   rfl
end
section
variable {n:Nat}{ds:List Wd}{gs:List Go}{bs:List Bool}
theorem Jz (ok:WebOkB n ds gs)(U:Us n ds gs bs){j:Nat}(h:j < n+(keptD bs n 0 ds).length):∃ i,i < n+ds.length /\ (i < n \/ Rch n ds gs i) /\ renN bs n i=j:=by
 by_cases z:j < n
 ·exact ⟨j,by omega,.inl z,if_pos z⟩
 ·obtain ⟨k,rfl⟩:∃ k,j=n+k:=⟨j - n,by omega⟩
  have hk:k < (keptD bs n 0 ds).length:=by omega
  obtain ⟨i,d,h1,h2,_,h4⟩:=zAn (qA hk)
  rw [yf] at h2 h4
  have hi:=(qB.mp h1).1
  exact ⟨n+i,by omega,.inr ((U.iff _ (by omega)).mp h2),by rw [zAo,← h4]; rfl⟩
end
section
variable {n:Nat}{ds:List Wd}{gs:List Go}{bs:List Bool}
theorem kept_all_rchB (ok:WebOkB n ds gs)(U:Us n ds gs bs){j:Nat}(h:j < n+(keptD bs n 0 ds).length)(hj:n <= j):Rch n (keptD bs n 0 ds) (gs.map (renG bs n)) j:=by
 obtain ⟨i,h1,h2,h3⟩:=Jz ok U h
 rcases h2 with z | z
 ·rw [show renN bs n i=i from if_pos z] at h3
  omega
 ·rw [← h3]
  exact kept_rchB ok U z
end
theorem FW4B.zo {n:Nat}{ds:List Wd}{gs:List Go}(F:FW4B n ds gs):ZO gs:=fun g hg z=>(F.go g hg).elim id fun y=>by rcases y.1 with e | e <;> omega
section
variable {n:Nat}{ds:List Wd}{gs:List Go}{bs:List Bool}
theorem FW4B.kept (F:FW4B n ds gs)(U:Us n ds gs bs):FW4B n (keptD bs n 0 ds) (gs.map (renG bs n)) /\ (∀ r ∈ rowsW n (keptD bs n 0 ds),r ∈ rowsW n ds) /\ outsR n (keptD bs n 0 ds) (gs.map (renG bs n))=outsR n ds gs:=by
 have zo:=F.zo
 have KR:=zB9 F.ok zo U
 have KO:=kept_okB F.ok zo U
 have sub:∀ r ∈ rowsW n (keptD bs n 0 ds),r ∈ rowsW n ds:=fun r hr=>by
  obtain ⟨j,hj⟩:=zz hr
  have hl:=(qB.mp hj).1
  rw [rowsW_len] at hl
  obtain ⟨i,h1,h2,h3⟩:=Jz F.ok U hl
  have:=KR i h1 h2
  rw [h3,zY hj] at this
  have e:=qA (show i < (rowsW n ds).length by rw [rowsW_len]; exact h1)
  rw [zY e] at this
  rw [this]
  exact qE e
 have th:∀ g ∈ gs,g.th < n+ds.length /\ (g.th < n \/ Rch n ds gs g.th):=fun g hg=>by
  refine ⟨F.ok.gk g hg,?_⟩
  by_cases z:g.sg=0
  ·rw [zo g hg z]
   exact .inl (by have:=F.ok.i1; show 0 < n; omega)
  ·exact .inr (.root hg z)
 refine ⟨⟨KO,fun k d hk=>?_,fun g hg=>?_,fun r hr=>F.rb r (sub r hr),fun r hr=>F.wd r (sub r hr)⟩,sub,?_⟩
 ·obtain ⟨b1,b2,_⟩:=KO.dk k d hk
  obtain ⟨i,e,h1,h2,rfl,h4⟩:=zAn hk
  rw [yf] at h2 h4
  have hi:=(qB.mp h1).1
  have hr:=(U.iff _ (by omega)).mp h2
  obtain ⟨a1,a2,a3,a4⟩:=F.sh i e h1
  refine ⟨b1,b2,?_,?_⟩
  ·show Sh4 e.s ((rowsW n (keptD bs n 0 ds)).getD (renN bs n e.a) [])
   rw [KR e.a (by omega) (.inr (.fst h1 hr))]
   exact a3
  ·show Sh4 e.t ((rowsW n (keptD bs n 0 ds)).getD (renN bs n e.b) [])
   rw [KR e.b (by omega) (.inr (.snd h1 hr))]
   exact a4
 ·obtain ⟨g0,h0,rfl⟩:=qP.mp hg
  rcases F.go g0 h0 with z | ⟨z1,z2⟩
  ·left
   rw [z]
   show (⟨renN bs n 0,0,0⟩:Go)=_
   rw [ren_zero]
  ·right
   refine ⟨z1,?_⟩
   show Sh4 g0.sh ((rowsW n (keptD bs n 0 ds)).getD (renN bs n g0.th) [])
   rw [KR g0.th (th g0 h0).1 (th g0 h0).2]
   exact z2
 ·unfold outsR
  rw [yb]
  refine yi fun g hg=>?_
  show outR _ (renG bs n g)=outR _ g
  unfold outR
  show ((rowsW n (keptD bs n 0 ds)).getD (renN bs n g.th) []).map _=_
  rw [KR g.th (th g hg).1 (th g hg).2]
  rfl
end
section
variable {n:Nat}{ds:List Wd}{gs:List Go}{bs:List Bool}
theorem BWB.kept (W:BWB n ds gs)(U:Us n ds gs bs):BWB n (keptD bs n 0 ds) (gs.map (renG bs n)):=by
 obtain ⟨F,sub,_⟩:=W.f.kept U
 refine ⟨F,fun d hd=>?_,fun g hg=>?_,fun r hr=>W.rb r (sub r hr)⟩
 ·obtain ⟨k,hk⟩:=zz hd
  obtain ⟨i,e,h1,_,rfl,_⟩:=zAn hk
  exact W.sd e (qE h1)
 ·obtain ⟨g0,h0,rfl⟩:=qP.mp hg
  exact W.sg g0 h0
end
theorem BareP.keptB {n:Nat}{es:List Wd}{gs:List Go}{bs:List Bool}(B:BareP n es)(ok:WebOkB n es gs)(zo:ZO gs)(U:Us n es gs bs):BareP n (keptD bs n 0 es):=by
 have KR:=zB9 ok zo U
 refine ⟨fun j hj=>?_,fun i j fs b h b' h' hi hj f1 f2=>?_⟩
 ·obtain ⟨i,h1,h2,h3⟩:=Jz ok U hj
  obtain ⟨fs,b,h,F⟩:=B.1 i h1
  exact ⟨fs,b,h,by rw [← h3,KR i h1 h2]; exact F⟩
 ·obtain ⟨i0,a1,a2,a3⟩:=Jz ok U hi
  obtain ⟨j0,b1,b2,b3⟩:=Jz ok U hj
  rw [← a3,KR i0 a1 a2] at f1
  rw [← b3,KR j0 b1 b2] at f2
  rw [← a3,← b3,B.2 i0 j0 fs b h b' h' a1 b1 f1 f2]
theorem pst_ofB {n:Nat}{R R':List (List Int)}{a i b k:Nat}{s sg g h:Int}{fs:List Int}(F:Frm (R.getD a []) fs k g)(hs:Sh4 s (R.getD a []))(s1:-900 <= s /\ s <= 900)(hsg:sg=1 \/ sg = -1)(hr:∀ x ∈ R.getD a [],x.natAbs <= 2 ^ 3000)(hr':∀ r ∈ R',∀ x ∈ r,x.natAbs <= 2 ^ 3000)(hh:h=1 \/ h = -1)(e:R'[i]? = some (x5 (h * 2 ^ b) fs)):Pst n R R' a s sg ⟨i,s+k - b,sg * g * h⟩:=by
 have k3:=frm_k F hr
 have hm:x5 (h * 2 ^ b) fs ∈ R':=qE e
 have b3:b <= 3000:=frm_k (row:=x5 (h * 2 ^ b) fs) ⟨hh,rfl,F.od,F.ld⟩ (hr' _ hm)
 obtain ⟨m,em⟩:=frm_down F (fun z x hx=>Int.emod_eq_zero_of_dvd (hs.2.2 z x hx))
 have eg:R'.getD i []=x5 (h * 2 ^ b) fs:=zY e
 refine ⟨(qB.mp e).1,sg_mul (sg_mul hsg F.sg) hh,⟨by show -4000 <= s+k - b; omega,by show s+k - b <= 4000; omega,fun z x hx=>?_⟩,?_⟩
 ·have z:s+k - b < 0:=z
  have hx:x ∈ R'.getD i []:=hx
  rw [eg] at hx
  obtain ⟨y,hy,rfl⟩:=qP.mp hx
  show (2:Int) ^ (-(s+k - b)).toNat ∣ _
  obtain ⟨c,ec⟩:∃ c,b=(-(s+k - b)).toNat+c:=⟨b - (-(s+k - b)).toNat,by omega⟩
  refine ⟨h * 2 ^ c * y,?_⟩
  conv=>lhs; rw [ec,jm]
  generalize (2:Int) ^ (-(s+k - b)).toNat=u
  simp only [zW,Int.mul_left_comm,yF]
 ·show (R'.getD i []).map (fun y=>sg * g * h * mvI (s+k - b) y)=_
  rw [eg,F.eq]
  exact mvR_stand fs hh em
section
variable {n i:Nat}{R:List (List Int)}{kvs:List (List Key × V)}{es:List Wd}
theorem Mrg.fwB {ds:List Wd}{gs gs':List Go}(W:BWB n ds gs)(M:Mrg n (rowsW n ds) (n+ds.length) kvs es)(lg:gs.length=gs'.length)(G:∀ (k:Nat) g g',gs[k]? = some g -> gs'[k]? = some g' -> GoM (rowsW n ds) (rowsW n es) g g'):FW4B n es gs' /\ BareP n es /\ outsR n es gs'=outsR n ds gs /\ es.length <= ds.length:=by
 have i1:=W.f.ok.i1
 have lr:=rowsW_len n ds
 have lr':=rowsW_len n es
 have le:es.length <= ds.length:=by have:=M.le; omega
 have rows:∀ j,j < n+es.length -> ((rowsW n es).getD j []).length=n /\ ∀ x ∈ (rowsW n es).getD j [],x.natAbs <= 2 ^ 3000:=fun j hj=>by
  rcases xE j n with z | z
  ·rw [xB z]
   refine ⟨by unfold yY; rw [qC,jJ],fun x hx=>?_⟩
   rcases unitRow_bound hx with y | y <;> subst y
   ·exact yM _
   ·exact Nat.one_le_two_pow
  ·obtain ⟨m,c,_,a2,a3,a4⟩:=M.rw_ j z hj
   have hm:(rowsW n ds).getD m [] ∈ rowsW n ds:=by
    have e:=qA a2
    rw [zY e]
    exact qE e
   rw [a4]
   refine ⟨by rw [j1]; exact W.f.wd _ hm,fun x hx=>?_⟩
   obtain ⟨y,hy,rfl⟩:=qP.mp hx
   rw [mul1_nat a3]
   exact (W.rb _ hm).2 y hy
 have mem:∀ r ∈ rowsW n es,r.length=n /\ ∀ x ∈ r,x.natAbs <= 2 ^ 3000:=fun r hr=>by
  obtain ⟨j,hj⟩:=zz hr
  have:=(qB.mp hj).1
  rw [lr'] at this
  have R:=rows j this
  rw [zY hj] at R
  exact R
 have all:∀ g' ∈ gs',∃ g,g ∈ gs /\ GoM (rowsW n ds) (rowsW n es) g g':=fun g' hg=>by
  obtain ⟨k,hk⟩:=zz hg
  have kl:=(qB.mp hk).1
  have e:=qA (show k < gs.length by omega)
  exact ⟨_,qE e,G k _ g' e hk⟩
 refine ⟨⟨⟨i1,W.f.ok.i2,fun k d hk=>⟨(M.dk k d hk).1,(M.dk k d hk).2.1,(M.dk k d hk).2.2.1⟩,fun g hg=>?_,by have:=W.f.ok.dl; omega,by rw [← lg]; exact W.f.ok.gl⟩,fun k d hk=>⟨(M.dk k d hk).1,(M.dk k d hk).2.1,(M.dk k d hk).2.2.2.1,(M.dk k d hk).2.2.2.2⟩,fun g hg=>?_,fun r hr=>⟨by rw [(mem r hr).1]; exact W.f.ok.i2,fun x hx=>zZ ((mem r hr).2 x hx) (qN (by decide) (by decide))⟩,fun r hr=>(mem r hr).1⟩,⟨fun j hj=>?_,M.un⟩,?_,le⟩
 ·obtain ⟨g0,_,⟨_,z⟩ | ⟨_,z⟩⟩:=all g hg
  ·rw [z]
   show 0 < n+es.length
   omega
  ·have:=z.lt
   omega
 ·obtain ⟨g0,_,⟨_,z⟩ | ⟨_,z⟩⟩:=all g hg
  ·exact .inl z
  ·exact .inr ⟨z.sn,z.sh⟩
 ·rcases xE j n with z | z
  ·rw [xB z]
   exact ⟨_,_,_,zBX z⟩
  ·obtain ⟨fs,b,h,F,_⟩:=M.kd j z hj
   exact ⟨fs,b,h,F⟩
 ·unfold outsR
  refine List.ext_getElem? fun k=>?_
  rw [qI,qI]
  cases e:gs[k]? with
  | none =>
   rw [Ja] at e
   rw [Ja.mpr (by omega)]
   rfl
  | some g =>
   have kl:=(qB.mp e).1
   have e':=qA (show k < gs'.length by omega)
   rw [e']
   have GM:=G k g _ e e'
   generalize gs'[k]=g' at GM
   show some (outR _ g')=some (outR _ g)
   congr 1
   unfold outR
   rcases GM with ⟨z,rfl⟩ | ⟨_,z⟩
   ·rw [zero_map z,zero_map (.inl rfl)]
    refine const_map ?_
    have tl:=W.f.ok.gk g (qE e)
    have hm:(rowsW n ds).getD g.th [] ∈ rowsW n ds:=by
     have e2:=qA (show g.th < (rowsW n ds).length by omega)
     rw [zY e2]
     exact qE e2
    rw [W.f.wd _ hm]
    exact (rows 0 (by omega)).1
   ·exact z.eq
end
def spNums4B (K:zA):Sp:=fun vs H Q _=>∃ (w dl gl:Addr) (ins:Nat) (us:List V) (ds:List Wd) (os:List V) (gs:List Go),vs=[.ref w] /\ WbK K H w dl gl ins us ds os gs /\ FW4B ins ds gs /\
 ∀ r ys H',H r=none -> Same H H' -> H' r=some (.lst ys) -> HTs iT H' ys (rowsW ins ds) -> Q (.ref r) H'
def spUsedKB (K:zA):Sp:=fun vs H Q _=>∃ (w dl gl:Addr) (ins:Nat) (us:List V) (ds:List Wd) (os:List V) (gs:List Go),vs=[.ref w] /\ WbK K H w dl gl ins us ds os gs /\ WebOkB ins ds gs /\
 ∀ r bs H',H r=none -> Same H H' -> H' r=some (.lst (bs.map V.bl)) -> Us ins ds gs bs -> Q (.ref r) H'
def spPrunedKB (K:zA):Sp:=fun vs H Q _=>∃ (w dl gl:Addr) (ins:Nat) (us:List V) (ds:List Wd) (os:List V) (gs:List Go),vs=[.ref w] /\ WbK K H w dl gl ins us ds os gs /\ WebOkB ins ds gs /\
 ∀ (r dl' gl':Addr) (us' os':List V) (bs:List Bool) H',H r=none -> H dl'=none -> H gl'=none -> dl' ≠ gl' -> Same H H' -> Us ins ds gs bs -> Wb H' r dl' gl' ins us' (keptD bs ins 0 ds) os' (gs.map (renG bs ins)) -> Q (.ref r) H'
section
variable {n i:Nat}{R:List (List Int)}{kvs:List (List Key × V)}{es:List Wd}
theorem Mrg.memB {ds:List Wd}{gs:List Go}(W:BWB n ds gs)(M:Mrg n (rowsW n ds) i kvs es):∀ r ∈ rowsW n es,r.length=n /\ ∀ x ∈ r,x.natAbs <= 2 ^ 3000:=fun r hr=>by
 obtain ⟨j,hj⟩:=zz hr
 have jl:=(qB.mp hj).1
 rw [rowsW_len] at jl
 have eg:(rowsW n es).getD j []=r:=zY hj
 rcases xE j n with z | z
 ·rw [xB z] at eg
  rw [← eg]
  refine ⟨by unfold yY; rw [qC,jJ],fun x hx=>?_⟩
  rcases unitRow_bound hx with y | y <;> subst y
  ·exact yM _
  ·exact Nat.one_le_two_pow
 ·obtain ⟨m,c,_,a2,a3,a4⟩:=M.rw_ j z jl
  have hm:(rowsW n ds).getD m [] ∈ rowsW n ds:=by
   have e:=qA a2
   rw [zY e]
   exact qE e
  rw [← eg,a4]
  refine ⟨by rw [j1]; exact W.f.wd _ hm,fun x hx=>?_⟩
  obtain ⟨y,hy,rfl⟩:=qP.mp hx
  rw [mul1_nat a3]
  exact (W.rb _ hm).2 y hy
end
end L2
namespace L2
open PySem PySem.Spec PyProof.Rows
def toW (d:Dd):Wd:=⟨zA7 d.g,d.a,d.s,d.b,d.t⟩
theorem sgW_word {g:Int}(h:g=1 \/ g = -1):sgW (zA7 g)=g:=by
 rcases h with z | z <;> subst z <;> decide
theorem word_ok (g:Int):zA7 g = "sum" \/ zA7 g = "less":=by
 unfold zA7
 split
 ·exact .inl rfl
 ·exact .inr rfl
theorem DOk.pre {ds:List Dd}{d:Dd}(h:DOk (ds ++ [d])):DOk ds :=
 ⟨fun k e he=>h.at_ k e (by rw [qH (qB.mp he).1]; exact he),fun n hn=>h.big n (by rw [zAH]; exact xW _ hn)⟩
theorem ev_rows (ds:List Dd):DOk ds -> rowsW 1 (ds.map toW)=(ev ds).map fun n=>[n]:=by
 refine yu (p:=fun ds=>DOk ds -> rowsW 1 (ds.map toW)=(ev ds).map fun n=>[n]) (fun _=>rfl) (fun xs d ih h=>?_) ds
 have e:=ih h.pre
 obtain ⟨h1,h2,h3,h4,h5⟩:=h.at_ xs.length d (by rw [qG (zE _),ya]; rfl)
 rw [yC,show [d].map toW=[toW d] from rfl,xT,e,zAH,yC]
 congr 1
 have la:d.a < (ev xs).length:=by rw [JV]; omega
 have lb:d.b < (ev xs).length:=by rw [JV]; omega
 have ga:((ev xs).map fun n=>[n]).getD d.a []=[(ev xs).getD d.a 0]:=by
  rw [zY (by rw [qI,qA la]; rfl),zY (qA la)]
 have gb:((ev xs).map fun n=>[n]).getD d.b []=[(ev xs).getD d.b 0]:=by
  rw [zY (by rw [qI,qA lb]; rfl),zY (qA lb)]
 unfold rowD
 show [yy _ (((ev xs).map fun n=>[n]).getD d.a []) (((ev xs).map fun n=>[n]).getD d.b [])]=[[dnum (ev xs) d]]
 rw [ga,gb]
 show [[mvI (d.s:Int) ((ev xs).getD d.a 0)+sgW (zA7 d.g) * mvI (d.t:Int) ((ev xs).getD d.b 0)]]=_
 rw [Jl (by omega),Jl (by omega),sgW_word h5,yn,yn]
 rfl
theorem HDs.hts {H:Hp}{us:List V}{ds:List Dd}(h:HDs H us ds):HTs j5 H us (ds.map toW):=⟨by rw [h.len,qC],fun k x hx=>by
 rw [qI] at hx
 obtain ⟨d,hd,rfl⟩:=yW.mp hx
 exact h.at_ k d hd⟩
theorem Row.web {K:zA}{H:Hp}{t dl ol:Addr}{ds:List Dd}{xs:List Int}(h:Row K H t dl ol ds xs)(hl:xs.length <= 12)(hd:ds.length <= 400) :
  ∃ us os gs,WbK K H t dl ol 1 us (ds.map toW) os gs /\ BWB 1 (ds.map toW) gs /\ outsR 1 (ds.map toW) gs=xs.map fun n=>[n]:=by
 obtain ⟨us,u1,u2⟩:=h.dls
 obtain ⟨os,o1,o2⟩:=h.ols
 have er:=ev_rows ds h.ok
 have el:=JV ds
 obtain ⟨gs,g1,g2⟩:=zAd (P:=fun i (g:Go)=>∃ n x,xs[i]? = some n /\ os[i]? = some (.ref x) /\ SqT K H x (gTp g) /\ ((n=0 /\ g=⟨0,0,0⟩) \/ ((g.sg=1 \/ g.sg = -1) /\ 0 <= g.sh /\ g.sh <= 300 /\ ∃ m,(ev ds)[g.th]? = some m /\ g.sg * (m * 2 ^ g.sh.toNat)=n))) xs.length fun i hi=>by
  have ex:=qA hi
  obtain ⟨x,a,b,c,e1,e2,e3⟩:=o2.at_ i _ ex
  rcases e3.ok with ⟨n0,rfl,rfl,rfl⟩ | ⟨n0,k,j,m,rfl,rfl,j3,hc,hk,hv⟩
  ·exact ⟨⟨0,0,0⟩,_,x,ex,e1,e2,.inl ⟨n0,rfl⟩⟩
  ·exact ⟨⟨k,j,c⟩,_,x,ex,e1,e2,.inr ⟨hc,by show (0:Int) <= j; omega,by show (j:Int) <= 300; omega,m,hk,by show c * (m * 2 ^ (j:Int).toNat)=_; rw [yn,yF]; exact hv⟩⟩
 have ge:∀ g ∈ gs,g=⟨0,0,0⟩ \/ ((g.sg=1 \/ g.sg = -1) /\ 0 <= g.sh /\ g.sh <= 300 /\ g.th < 1+ds.length):=fun g hg=>by
  obtain ⟨i,hi⟩:=zz hg
  obtain ⟨n,x,_,_,_,⟨_,z⟩ | ⟨z1,z2,z3,m,z4,_⟩⟩:=g2 i g hi
  ·exact .inl z
  ·have:=(qB.mp z4).1
   exact .inr ⟨z1,z2,z3,by omega⟩
 have rr:∀ r ∈ rowsW 1 (ds.map toW),r.length=1 /\ ∀ n ∈ r,n.natAbs < 2 ^ 300:=fun r hr=>by
  rw [er] at hr
  obtain ⟨n,hn,rfl⟩:=qP.mp hr
  exact ⟨rfl,fun y hy=>by rw [zT.mp hy]; exact h.ok.big n hn⟩
 have rb:∀ b:Nat,300 <= b -> RB b (rowsW 1 (ds.map toW)):=fun b hb r hr=>⟨by rw [(rr r hr).1]; decide,fun n hn=>zZ (Nat.le_of_lt ((rr r hr).2 n hn)) (qN (by decide) hb)⟩
 have up:∀ {s:Int} {r:List Int},0 <= s -> s <= 300 -> Sh4 s r:=fun a b=>⟨by omega,by omega,fun z=>by omega⟩
 have dk:∀ (k:Nat) (d:Wd),(ds.map toW)[k]? = some d -> d.a < 1+k /\ d.b < 1+k /\ (d.w = "sum" \/ d.w = "less") /\ (0 <= d.s /\ d.s <= 300) /\ (0 <= d.t /\ d.t <= 300):=fun k d hk=>by
  rw [qI] at hk
  obtain ⟨e,he,rfl⟩:=yW.mp hk
  obtain ⟨h1,h2,h3,h4,_⟩:=h.ok.at_ k e he
  exact ⟨by show e.a < _; omega,by show e.b < _; omega,word_ok _,⟨by show (0:Int) <= (e.s:Int); omega,by show (e.s:Int) <= 300; omega⟩,⟨by show (0:Int) <= (e.t:Int); omega,by show (e.t:Int) <= 300; omega⟩⟩
 refine ⟨us,os,gs,⟨h.tup,u1,u2.hts,o1,by rw [o2.len,g1],fun k g hk=>?_⟩,⟨⟨⟨by decide,by decide,fun k d hk=>⟨(dk k d hk).1,(dk k d hk).2.1,(dk k d hk).2.2.1⟩,fun g hg=>?_,by rw [qC]; exact hd,by omega⟩,fun k d hk=>⟨(dk k d hk).1,(dk k d hk).2.1,up (dk k d hk).2.2.2.1.1 (dk k d hk).2.2.2.1.2,up (dk k d hk).2.2.2.2.1 (dk k d hk).2.2.2.2.2⟩,fun g hg=>?_,rb 8000 (by decide),fun r hr=>(rr r hr).1⟩,fun d hd=>?_,fun g hg=>?_,rb 3000 (by decide)⟩,?_⟩
 ·obtain ⟨n,x,_,e2,e3,_⟩:=g2 k g hk
  exact ⟨x,e2,e3⟩
 ·rw [qC]
  rcases ge g hg with z | z
  ·rw [z]; show 0 < _; omega
  ·exact z.2.2.2
 ·rcases ge g hg with z | z
  ·exact .inl z
  ·exact .inr ⟨z.1,up z.2.1 z.2.2.1⟩
 ·obtain ⟨k,hk⟩:=zz hd
  have:=dk k d hk
  exact ⟨by omega,by omega,by omega,by omega⟩
 ·rcases ge g hg with z | z
  ·rw [z]; exact ⟨by decide,by decide⟩
  ·exact ⟨by omega,by omega⟩
 ·unfold outsR
  refine List.ext_getElem? fun i=>?_
  rw [qI,qI]
  by_cases c:i < xs.length
  ·have eg:=qA (l:=gs) (i:=i) (by omega)
   obtain ⟨n,x,e1,_,_,e4⟩:=g2 i _ eg
   rw [eg,e1]
   show some (outR _ _)=some [n]
   congr 1
   generalize gs[i]=g at e4
   unfold outR
   rw [er]
   rcases e4 with ⟨n0,z⟩ | ⟨_,z2,_,m,z4,z5⟩
   ·rw [z,n0]
    show (((ev ds).map fun n=>[n]).getD 0 []).map _=[0]
    have e0:=qA (l:=ev ds) (i:=0) (by omega)
    rw [zY (by rw [qI,e0]; rfl)]
    show [0 * mvI 0 _]=[0]
    rw [Int.zero_mul]
   ·rw [zY (by rw [qI,z4]; rfl)]
    show [g.sg * mvI g.sh m]=[n]
    rw [Jl z2,z5]
  ·rw [jy (by omega),jy (by omega)]
   rfl
theorem cost40 {xs:List Int}(hl:xs.length <= 6)(hb:∀ x ∈ xs,x.natAbs < 2 ^ 40):Jf (uc xs) <= 240:=by
 have key:∀ us:List Int,(∀ c ∈ us,c.natAbs < 2 ^ 40) -> Jf us <= 40 * us.length:=by
  intro us
  induction us with
  | nil=>intro _; exact zE 0
  | cons c r ih =>
   intro h
   have h1:=ih fun x hx=>h x (ze _ hx)
   have h2:=wn_bound (h c zb)
   unfold Jf at h1 ⊢
   rw [zR,xq,zq]
   omega
 have:=key (uc xs) fun c hc=>by
  obtain ⟨n,hn,h0,rfl⟩:=uc_of xs c hc
  obtain ⟨_,_,j,_,_,_,c6,_⟩:=xA h0
  exact yB c6 (hb n hn)
 have h2:=uc_len xs
 omega
def nm (ds:List Wd):List Int:=(rowsW 1 ds).map fun r=>r.headD 0
theorem nm_len (ds:List Wd):(nm ds).length=1+ds.length:=by unfold nm; rw [qC,rowsW_len]
theorem nm_at {ds:List Wd}(hw:∀ r ∈ rowsW 1 ds,r.length=1){j:Nat}(hj:j < 1+ds.length):(rowsW 1 ds).getD j []=[(nm ds).getD j 0]:=by
 have e:=qA (l:=rowsW 1 ds) (i:=j) (by rw [rowsW_len]; exact hj)
 have l:=hw _ (qE e)
 rw [zY e,zY (xs:=nm ds) (by unfold nm; rw [qI,e]; rfl)]
 generalize (rowsW 1 ds)[j]'(by rw [rowsW_len]; exact hj)=r at l
 match r,l with
 | [x],_=>rfl
theorem nm_take {ds:List Wd}(hw:∀ r ∈ rowsW 1 ds,r.length=1){i:Nat}{d:Wd}(hd:ds[i]? = some d)(ha:d.a < 1+i)(hb:d.b < 1+i):nm (ds.take (i+1))=nm (ds.take i) ++ [mvI d.s ((nm (ds.take i)).getD d.a 0)+sgW d.w * mvI d.t ((nm (ds.take i)).getD d.b 0)]:=by
 have il:=(qB.mp hd).1
 have hw':∀ r ∈ rowsW 1 (ds.take i),r.length=1:=fun r hr=>hw r (zAe i hr)
 have tl:(ds.take i).length=i:=by rw [qO]; omega
 have e1:=nm_at hw' (j:=d.a) (by rw [tl]; exact ha)
 have e2:=nm_at hw' (j:=d.b) (by rw [tl]; exact hb)
 conv=>lhs; unfold nm
 rw [zAJ hd,yC]
 congr 1
 show [(rowD (rowsW 1 (ds.take i)) d).headD 0]=_
 unfold rowD
 rw [e1,e2]
 rfl
theorem nm_part {ds:List Wd}{i j:Nat}(hi:i <= ds.length)(hj:j < 1+i):(nm (ds.take i)).getD j 0=(nm ds).getD j 0:=by
 have e:=qA (l:=rowsW 1 (ds.take i)) (i:=j) (by rw [rowsW_len,qO]; omega)
 have e':=zBB i e
 rw [zY (xs:=nm (ds.take i)) (by unfold nm; rw [qI,e]; rfl),zY (xs:=nm ds) (by unfold nm; rw [qI,e']; rfl)]
def spClose (K:zA):Sp:=fun vs H Q _=>∃ (p a l:Addr) (ns:List Int) (c:Int) (xs:List Int),vs=[.ref p,.ref l] /\ Pen H p a c /\ Scr K H a ns /\ ns.length <= 63 /\ c <= 2000000 /\ H l=some (.lst (xs.map V.int)) /\ l ≠ p /\ xs.length <= 6 /\ (∀ x ∈ xs,x.natAbs < 2 ^ 40) /\
 ∀ (n:Int) H',n.natAbs < 2 ^ 40 -> Pen H' p a (c+20) -> Scr K H' a ns -> Chg p H H' -> Q (.int n) H'
def spFew24 (K:zA):Sp:=fun vs H Q _=>∃ (p a:Addr) (ns:List Int) (c:Int),vs=[.ref p] /\ Pen H p a c /\ Scr K H a ns /\ ns.length <= 63 /\ c <= 1000000 /\
 ∀ (l:Addr) (xs:List Int) H',H l=none -> H' l=some (.lst (xs.map V.int)) -> l ≠ p -> xs.length <= 6 -> (∀ x ∈ xs,x.natAbs < 2 ^ 40) -> Pen H' p a (c+1000) -> Scr K H' a ns -> Chg p H H' -> Q (.ref l) H'
theorem JY {a b:Int}{m n k:Nat}(ha:a.natAbs < 2 ^ m)(hb:b.natAbs < 2 ^ n)(h:m+n <= k):(a * b).natAbs < 2 ^ k:=by
 rw [xX]
 refine qJ (Nat.mul_lt_mul'' ha hb) ?_
 rw [← Nat.pow_add]
 exact qN (by decide) h
end L2
namespace L2
open PySem PySem.Spec PyProof.Rows
structure VOk4B (xs:List Int) (ds:List Wd):Prop where
 dk:∀ (k:Nat) (d:Wd),ds[k]? = some d -> d.a < xs.length+k /\ d.b < xs.length+k /\ Sh14 d.s ((valsW xs ds).getD d.a 0) /\ Sh14 d.t ((valsW xs ds).getD d.b 0)
 vb:∀ v ∈ valsW xs ds,v.natAbs < 2 ^ 9000
 xl:xs.length <= 12
 dl:ds.length <= 400
theorem toldA_step4B {xs:List Int}{ds:List Wd}(V:VOk4B xs ds){i:Nat}{a:Ar}(ha:(arrF xs.length 0 ds)[i]? = some a) :
  ∃ x y:Int,(j8 xs ds i)[a.st]? = some x /\ (j8 xs ds i)[a.go]? = some y /\ Sh14 a.sh x /\ x.natAbs < 2 ^ 9000 /\ (a.sg=1 \/ a.sg = -1) /\ (j8 xs ds i).set a.go (y+a.sg * mvI a.sh x)=j8 xs ds (i+1):=by
 obtain ⟨d,hd,hg,hc⟩:=arr_at ha
 rw [xP] at hg hc
 have hi:=(qB.mp hd).1
 obtain ⟨da,db,sa,sb⟩:=V.dk _ _ hd
 have tl:(valsW xs (ds.take (i / 2))).length=xs.length+i / 2:=by rw [zBn,qO]; omega
 have hb:∀ j,j < xs.length+i / 2 -> ∃ x,(valsW xs (ds.take (i / 2)))[j]? = some x /\ x=(valsW xs (ds.take (i / 2))).getD j 0 /\ x=(valsW xs ds).getD j 0 /\ x.natAbs < 2 ^ 9000:=fun j hj=>by
  have e:=qA (l:=valsW xs (ds.take (i / 2))) (i:=j) (by omega)
  refine ⟨_,e,(zY e).symm,?_,?_⟩
  ·rw [← valsW_takeD (i:=i / 2) (by omega) hj,zY e]
  ·have e2:=valsW_pre xs (ds.take (i / 2)) (ds.drop (i / 2)) e
   rw [yk] at e2
   exact V.vb _ (qE e2)
 rcases hc with ⟨hm,rfl⟩ | ⟨hm,rfl⟩
 ·obtain ⟨x,e1,e2,e3,e4⟩:=hb d.a da
  refine ⟨x,0,?_,?_,by rw [e3]; exact sa,e4,.inl rfl,?_⟩
  ·rw [zBA hm hd,qH (by show d.a < _; omega)]
   exact e1
  ·rw [zBA hm hd,qG (by show _ <= xs.length+i / 2; omega),tl]
   show (0 :: _)[xs.length+i / 2 - (xs.length+i / 2)]? = _
   rw [ya]
   rfl
  ·rw [zBA hm hd,set_mid tl,zAp (i:=i+1) (d:=d) (by omega) (by rw [show (i+1) / 2=i / 2 by omega]; exact hd),show (i+1) / 2=i / 2 by omega,← e2]
   simp
 ·obtain ⟨x,e1,e2,e3,e4⟩:=hb d.b db
  have hs:sgW d.w=1 \/ sgW d.w = -1:=by
   unfold sgW
   split
   ·exact .inr rfl
   ·exact .inl rfl
  refine ⟨x,mvI d.s ((valsW xs (ds.take (i / 2))).getD d.a 0),?_,?_,by rw [e3]; exact sb,e4,hs,?_⟩
  ·rw [zAp hm hd,qH (by show d.b < _; omega)]
   exact e1
  ·rw [zAp hm hd,qG (by show _ <= xs.length+i / 2; omega),tl]
   show (_ :: _)[xs.length+i / 2 - (xs.length+i / 2)]? = _
   rw [ya]
   rfl
  ·rw [zAp hm hd,set_mid tl]
   unfold j8
   rw [if_pos (by omega),show (i+1) / 2=i / 2+1 by omega,zB8 hd,zr,Nat.sub_add_eq]
   show _=_ ++ (valD _ _ :: _)
   unfold valD
   rw [← e2]
   rfl
def spRunKB (K:zA):Sp:=fun vs H Q _=>∃ (x v dl gl:Addr) (us:List V) (ds:List Wd) (os:List V) (gs:List Go) (xs:List Int),vs=[.ref x,.ref v] /\ WbK K H x dl gl xs.length us ds os gs /\ H v=some (.lst (xs.map V.int)) /\ VOk4B xs ds /\
 ∀ r H',H r=none -> Same H H' -> H' r=some (.lst ((valsW xs ds).map V.int)) -> Q (.ref r) H'
def spRunOKB (K:zA):Sp:=fun vs H Q _=>∃ (x v dl gl:Addr) (us:List V) (ds:List Wd) (os:List V) (gs:List Go) (xs:List Int),vs=[.ref x,.ref v] /\ WbK K H x dl gl xs.length us ds os gs /\ H v=some (.lst (xs.map V.int)) /\ VOk4B xs ds /\ gs.length <= 12 /\
 (∀ g ∈ gs,g.th < xs.length+ds.length /\ Sh14 g.sh ((valsW xs ds).getD g.th 0) /\ (g.sg=0 \/ g.sg=1 \/ g.sg = -1)) /\
 ∀ r H',H r=none -> Same H H' -> H' r=some (.lst ((gs.map (outV (valsW xs ds))).map V.int)) -> Q (.ref r) H'
def spMergedC (K:zA):Sp:=fun vs H Q _=>∃ (w dl gl:Addr) (ins:Nat) (us:List V) (ds:List Wd) (os:List V) (gs:List Go),vs=[.ref w] /\ Wb H w dl gl ins us ds os gs /\ BWB ins ds gs /\
 ∀ (r dl' gl':Addr) (us' os':List V) (es:List Wd) (gs':List Go) H',Same H H' -> WbK K H' r dl' gl' ins us' es os' gs' -> FW4B ins es gs' -> RB 3000 (rowsW ins es) -> BareP ins es -> outsR ins es gs'=outsR ins ds gs -> es.length <= ds.length -> Q (.ref r) H'
def spBareC (K:zA):Sp:=fun vs H Q _=>∃ (w dl gl:Addr) (ins:Nat) (us:List V) (ds:List Wd) (os:List V) (gs:List Go),vs=[.ref w] /\ WbK K H w dl gl ins us ds os gs /\ BWB ins ds gs /\
 ∀ (r dl' gl':Addr) (us' os':List V) (es:List Wd) (gs':List Go) (bs:List Bool) H',H r=none -> H dl'=none -> H gl'=none -> dl' ≠ gl' -> Same H H' -> Wb H' r dl' gl' ins us' es os' gs' -> FW4B ins es gs' -> RB 3000 (rowsW ins es) -> BareP ins es -> outsR ins es gs'=outsR ins ds gs -> (∀ j,ins <= j -> j < ins+es.length -> Rch ins es gs' j) -> Us ins ds gs bs -> es.length <= (keptD bs ins 0 ds).length -> Q (.ref r) H'
structure GWb (K:zA) (H:Hp) (w dl gl:Addr) (ins:Nat) (us:List V) (ds:List Wd) (os:List V) (gs:List Go):Prop where
 wb:WbK K H w dl gl ins us ds os gs
 fw:FW4B ins ds gs
 rb:RB 3000 (rowsW ins ds)
 ob:∀ r ∈ outsR ins ds gs,∀ x ∈ r,x.natAbs < 2 ^ 5000
theorem GWb.same {K:zA}{H H':Hp}{w dl gl:Addr}{ins:Nat}{us:List V}{ds:List Wd}{os:List V}{gs:List Go}(h:GWb K H w dl gl ins us ds os gs)(s:Same H H'):GWb K H' w dl gl ins us ds os gs:=⟨h.wb.same s,h.fw,h.rb,h.ob⟩
theorem FWeb.b4 {n:Nat}{ds:List Wd}{gs:List Go}(F:FWeb n ds gs):FW4B n ds gs /\ RB 3000 (rowsW n ds):=by
 have d60:=F.ok.dl
 have G:=F.f4
 refine ⟨⟨⟨F.ok.i1,F.ok.i2,F.ok.dk,F.ok.gk,by omega,F.ok.gl⟩,G.sh,G.go,G.rb,G.wd⟩,fun r hr=>⟨(F.rb r hr).1,fun x hx=>zZ ((F.rb r hr).2 x hx) (qN (by decide) (by omega))⟩⟩
theorem FW4B.dko {n:Nat}{ds:List Wd}{gs:List Go}(F:FW4B n ds gs):Dko n ds:=fun k d h=>⟨(F.sh k d h).1,(F.sh k d h).2.1⟩
def spDepthsB (K:zA):Sp:=fun vs H Q _=>∃ (x dl gl:Addr) (ins:Nat) (us:List V) (ds:List Wd) (os:List V) (gs:List Go),vs=[.ref x] /\ WbK K H x dl gl ins us ds os gs /\ Dko ins ds /\ ds.length <= 400 /\ ins <= 12 /\
 ∀ r H',H r=none -> Same H H' -> H' r=some (.lst ((dpW ins ds).map V.int)) -> Q (.ref r) H'
def spDepthB (K:zA):Sp:=fun vs H Q _=>∃ (x dl gl:Addr) (ins:Nat) (us:List V) (ds:List Wd) (os:List V) (gs:List Go),vs=[.ref x] /\ WbK K H x dl gl ins us ds os gs /\ Dko ins ds /\ ds.length <= 400 /\ ins <= 12 /\ gs.length <= 12 /\ (∀ g ∈ gs,g.th < ins+ds.length) /\
 ∀ H',Same H H' -> Q (.int (mz (goD (dpW ins ds) gs))) H'
def spORowB (K:zA):Sp:=fun vs H Q _=>∃ (x l:Addr) (g:Go) (ys:List V) (rs:List (List Int)) (ins b:Nat),vs=[.ref x,.ref l] /\ SqT K H x (gTp g) /\ H l=some (.lst ys) /\ HTs iT H ys rs /\ g.th < rs.length /\ Sh4 g.sh (rs.getD g.th []) /\ (g.sg=0 \/ g.sg=1 \/ g.sg = -1) /\ (∀ r ∈ rs,r.length=ins) /\ ins <= 12 /\ RB b rs /\ b <= 8000 /\
 ∀ r H',H r=none -> Same H H' -> H' r=some (.tup (iT (outR rs g))) -> Q (.ref r) H'
def spONumsB (K:zA):Sp:=fun vs H Q _=>∃ (w dl gl:Addr) (ins:Nat) (us:List V) (ds:List Wd) (os:List V) (gs:List Go),vs=[.ref w] /\ WbK K H w dl gl ins us ds os gs /\ FW4B ins ds gs /\
 ∀ r ys H',H r=none -> Same H H' -> H' r=some (.lst ys) -> HTs iT H' ys (outsR ins ds gs) -> Q (.ref r) H'
def sumW (r:List Int):Nat:=(r.map wn).sum
theorem wn_mul2:∀ (k:Nat) (n:Int),wn (n * 2 ^ k)=wn n
 | 0,n=>by rw [yt,yj]
 | k+1,n=>by rw [yo,← zW,yF _ 2,wn_dbl,wn_mul2 k n]
theorem wn_mv {s n:Int}(h:s < 0 -> (2:Int) ^ (-s).toNat ∣ n):wn (mvI s n)=wn n:=by
 by_cases c:0 <= s
 ·rw [Jl c,wn_mul2]
 ·rw [Jy (by omega)]
  obtain ⟨m,hm⟩:=h (by omega)
  rw [hm,jM _ (Int.ne_of_gt (xf _)),yF,wn_mul2]
theorem wn_sg {g n:Int}(h:g=1 \/ g = -1):wn (g * n)=wn n:=by
 rcases h with z | z <;> rw [z]
 ·rw [yN]
 ·rw [Int.neg_mul,yN,wn_neg]
theorem sumW_mv {s:Int}{r:List Int}(h:Dv s r):sumW (r.map (mvI s))=sumW r:=by
 unfold sumW
 rw [yb]
 congr 1
 exact yi fun x hx=>wn_mv fun z=>h z x hx
theorem sumW_zip {g s t:Int}(hg:g=1 \/ g = -1):∀ (xs ys:List Int),sumW (yy (fun x y=>mvI s x+g * mvI t y) xs ys) <= sumW (xs.map (mvI s))+sumW (ys.map (mvI t))
 | [],_=>by simp [sumW]
 | _ :: _,[]=>by simp [sumW]
 | x :: xs,y :: ys=>by
  have ih:=sumW_zip (s:=s) (t:=t) hg xs ys
  unfold sumW at ih ⊢
  simp only [List.zipWith_cons_cons,zR,xq]
  have h1:=wn_add (mvI s x) (g * mvI t y)
  rw [wn_sg hg] at h1
  omega
theorem sumW_rowD {R:List (List Int)}{d:Wd}(h1:Dv d.s (R.getD d.a []))(h2:Dv d.t (R.getD d.b [])):sumW (rowD R d) <= sumW (R.getD d.a [])+sumW (R.getD d.b []):=by
 have:=sumW_zip (s:=d.s) (t:=d.t) (sgW_or d.w) (R.getD d.a []) (R.getD d.b [])
 rw [sumW_mv h1,sumW_mv h2] at this
 exact this
theorem sumW_unit {n i:Nat}:sumW (yY n i) <= 1:=by
 unfold sumW yY
 rw [yb]
 have key:∀ m:Nat,((yr m).map (wn ∘ fun k=>if k=i then (1:Int) else 0)).sum=if i < m then 1 else 0:=by
  intro m
  induction m with
  | zero=>simp
  | succ m ih =>
   rw [List.range_succ,yC,List.sum_append,ih]
   have w1:wn 1=1:=wn_ispw ⟨0,.inl (by decide)⟩
   show _+(wn (if m=i then 1 else 0)+0)=_
   by_cases c:m=i
   ·subst c
    rw [if_neg (by omega),if_pos rfl,if_pos (by omega),w1]
   ·rw [if_neg c,wn_zero]
    by_cases c':i < m
    ·rw [if_pos c',if_pos (by omega)]
    ·rw [if_neg c',if_neg (by omega)]
 rw [key]
 split <;> omega
theorem dep_sum {n:Nat}{ds:List Wd}(hd:∀ (k:Nat) (d:Wd),ds[k]? = some d -> d.a < n+k /\ d.b < n+k /\ Dv d.s ((rowsW n ds).getD d.a []) /\ Dv d.t ((rowsW n ds).getD d.b [])):∀ j,j < n+ds.length -> sumW ((rowsW n ds).getD j []) <= 2 ^ ((dpW n ds).getD j 0).toNat:=by
 have D:Dko n ds:=fun k d h=>⟨(hd k d h).1,(hd k d h).2.1⟩
 intro j
 induction j using Nat.strongRecOn with
 | ind j ih =>
  intro hj
  by_cases z:j < n
  ·rw [xB z]
   exact zZ sumW_unit Nat.one_le_two_pow
  ·obtain ⟨k,rfl⟩:∃ k,j=n+k:=⟨j - n,by omega⟩
   have e:=qA (l:=ds) (i:=k) (by omega)
   generalize ds[k]'(by omega)=d at e
   obtain ⟨ha,hb,sa,sb⟩:=hd k d e
   rw [zBW e ha hb,dp_at D e]
   have i1:=ih d.a ha (by omega)
   have i2:=ih d.b hb (by omega)
   have n1:=dp_nn (ins:=n) (ds:=ds) d.a
   have n2:=dp_nn (ins:=n) (ds:=ds) d.b
   have key:=sumW_rowD (R:=rowsW n ds) (d:=d) sa sb
   generalize (dpW n ds).getD d.a 0=u at i1 n1
   generalize (dpW n ds).getD d.b 0=v at i2 n2
   have eM:(max (u+1) (v+1)).toNat=max u.toNat v.toNat+1:=by omega
   rw [eM,Nat.pow_succ]
   have p1:2 ^ u.toNat <= 2 ^ max u.toNat v.toNat:=qN (by decide) (by omega)
   have p2:2 ^ v.toNat <= 2 ^ max u.toNat v.toNat:=qN (by decide) (by omega)
   omega
theorem FW4B.dep {n:Nat}{ds:List Wd}{gs:List Go}(F:FW4B n ds gs):∀ j,j < n+ds.length -> sumW ((rowsW n ds).getD j []) <= 2 ^ ((dpW n ds).getD j 0).toNat :=
 dep_sum fun k d h=>⟨(F.sh k d h).1,(F.sh k d h).2.1,(F.sh k d h).2.2.1.2.2,(F.sh k d h).2.2.2.2.2⟩
theorem wn_le_sum {x:Int}:∀ {r:List Int},x ∈ r -> wn x <= sumW r
 | y :: r,h=>by
  unfold sumW
  rw [zR,xq]
  rcases zV.mp h with z | z
  ·rw [z]; omega
  ·have:=wn_le_sum z
   unfold sumW at this
   omega
theorem ld_le {ns:List Int}{d:Int}(h0:0 <= d)(h:∀ n ∈ ns,((halN (wn n:Nat):Nat):Int) <= d):ld ns <= d:=by
 unfold ld
 by_cases c:ns=[]
 ·rw [c]; exact h0
 ·have:=mz_mem (ns:=ns.map fun n=>((halN (wn n:Nat):Nat):Int)) (by simpa using c) (fun x hx=>by obtain ⟨n,_,rfl⟩:=qP.mp hx; exact Int.natCast_nonneg _)
  obtain ⟨n,hn,e⟩:=qP.mp this
  rw [← e]
  exact h n hn
theorem out_ld {n:Nat}{ds:List Wd}{gs:List Go}(F:FW4B n ds gs){g:Go}(hg:g ∈ gs):∀ x ∈ outR (rowsW n ds) g,((halN (wn x:Nat):Nat):Int) <= mz (goD (dpW n ds) gs):=fun x hx=>by
 have m0:=Jw (goD (dpW n ds) gs)
 unfold outR at hx
 obtain ⟨y,hy,rfl⟩:=qP.mp hx
 rcases F.go g hg with z | ⟨z,s⟩
 ·rw [z]
  show ((halN (wn (0 * _):Nat):Nat):Int) <= _
  rw [Int.zero_mul,wn_zero]
  show ((halN 0:Nat):Int) <= _
  have:halN 0=0:=by decide
  rw [this]
  exact m0
 ·rw [wn_sg z,wn_mv fun c=>s.2.2 c y hy]
  have th:=F.ok.gk g hg
  have k1:=zZ (wn_le_sum hy) (F.dep g.th th)
  have nn:=dp_nn (ins:=n) (ds:=ds) g.th
  have mem:(dpW n ds).getD g.th 0 ∈ goD (dpW n ds) gs:=qP.mpr ⟨g,Jn.mpr ⟨hg,decide_eq_true (by rcases z with e | e <;> rw [e] <;> decide)⟩,rfl⟩
  have k2:=mz_ge mem
  have k3:halN ((wn y:Nat):Int) <= ((dpW n ds).getD g.th 0).toNat:=hal_iff.mpr (by
   have:((wn y:Nat):Int) <= ((2 ^ ((dpW n ds).getD g.th 0).toNat:Nat):Int):=Int.ofNat_le.mpr k1
   rwa [jI] at this)
  omega
theorem mv_times {s n x:Int}(h:s < 0 -> (2:Int) ^ (-s).toNat ∣ n):mvI s (n * x)=mvI s n * x:=by
 by_cases c:0 <= s
 ·rw [Jl c,Jl c]
  ac_rfl
 ·rw [Jy (by omega),Jy (by omega)]
  obtain ⟨m,hm⟩:=h (by omega)
  have p:=Int.ne_of_gt (xf (-s).toNat)
  rw [hm,zW,jM _ p,jM _ p]
theorem vals_one {ds:List Wd}{gs:List Go}(F:FW4B 1 ds gs)(x:Int):valsW [x] ds=(nm ds).map fun n=>n * x:=by
 have key:∀ i,i <= ds.length -> valsW [x] (ds.take i)=(nm (ds.take i)).map fun n=>n * x:=by
  intro i
  induction i with
  | zero =>
   intro _
   show [x]=[1 * x]
   rw [yN]
  | succ i ih =>
   intro hi
   have e:=qA (l:=ds) (i:=i) (by omega)
   generalize ds[i]'(by omega)=d at e
   obtain ⟨ha,hb,sa,sb⟩:=F.sh i d e
   have ih':=ih (by omega)
   have nl:(nm (ds.take i)).length=1+i:=by rw [nm_len,qO]; omega
   rw [zB8 e,ih',nm_take F.wd e ha hb,yC]
   congr 1
   unfold valD
   have g1:((nm (ds.take i)).map fun n=>n * x).getD d.a 0=(nm (ds.take i)).getD d.a 0 * x:=by
    have e1:=qA (l:=nm (ds.take i)) (i:=d.a) (by omega)
    rw [zY e1,zY (by rw [qI,e1]; rfl)]
   have g2:((nm (ds.take i)).map fun n=>n * x).getD d.b 0=(nm (ds.take i)).getD d.b 0 * x:=by
    have e1:=qA (l:=nm (ds.take i)) (i:=d.b) (by omega)
    rw [zY e1,zY (by rw [qI,e1]; rfl)]
   rw [g1,g2,nm_part (by omega) ha,nm_part (by omega) hb]
   rw [nm_at F.wd (by omega)] at sa sb
   show [_]=[_]
   rw [mv_times fun c=>sa.2.2 c _ (zT.mpr rfl),mv_times fun c=>sb.2.2 c _ (zT.mpr rfl)]
   show _=[(_+_) * x]
   rw [Int.add_mul,zW]
 have:=key ds.length (zE _)
 rwa [zt] at this
def spBtwG:Sp:=fun vs H Q _=>∃ n lo hi:Int,vs=[.int n,.int lo,.int hi] /\ lo <= n /\ n <= hi /\ Q (.bl true) H
def spPartG:Sp:=fun vs H Q _=>∃ (t:Nat) (sh:Int) (l:Addr) (ys:List V) (rs:List (List Int)),vs=[.int (t:Int),.int sh,.ref l] /\ H l=some (.lst ys) /\ HTs iT H ys rs /\ t < rs.length /\ Sh sh (rs.getD t []) /\ rs.length <= 100 /\ RB 8000 rs /\ ∀ H',Same H H' -> Q (.bl true) H'
def spDeedG:Sp:=fun vs H Q _=>∃ (x l:Addr) (d:Wd) (ys:List V) (rs:List (List Int)),vs=[.ref x,.ref l] /\ H x=some (.tup (j5 d)) /\ H l=some (.lst ys) /\ HTs iT H ys rs /\ (d.w = "sum" \/ d.w = "less") /\ d.a < rs.length /\ d.b < rs.length /\ Sh d.s (rs.getD d.a []) /\ Sh d.t (rs.getD d.b []) /\ rs.length <= 100 /\ RB 8000 rs /\ ∀ H',Same H H' -> Q (.bl true) H'
def spOutG:Sp:=fun vs H Q _=>∃ (x l:Addr) (g:Go) (ys:List V) (rs:List (List Int)),vs=[.ref x,.ref l] /\ H x=some (.tup (gTp g)) /\ H l=some (.lst ys) /\ HTs iT H ys rs /\ (g.sg=1 \/ g.sg = -1) /\ g.th < rs.length /\ Sh g.sh (rs.getD g.th []) /\ rs.length <= 100 /\ RB 8000 rs /\ ∀ H',Same H H' -> Q (.bl true) H'
def spWebG:Sp:=fun vs H Q _=>∃ (n:Nat) (dl gl:Addr) (us os:List V) (ds:List Wd) (gs:List Go),vs=[.int (n:Int),.ref dl,.ref gl] /\ H dl=some (.lst us) /\ H gl=some (.lst os) /\ HTs j5 H us ds /\ HTs gTp H os gs /\ (FWeb n ds gs /\ ∀ g ∈ gs,g.sg ≠ 0) /\
 ∀ r a b H',Same H H' -> H' r=some (.tup [.int (n:Int),.ref a,.ref b]) -> H' a=some (.lst us) -> H' b=some (.lst os) -> Q (.ref r) H'
theorem HTs.chgD {α:Type}{f:α -> List V}{H H':Hp}{vs:List V}{xs:List α}{l:Addr}{kvs:List (Key × V)}(h:HTs f H vs xs)(hl:H l=some (.dK kvs))(c:Chg l H H'):HTs f H' vs xs:=⟨h.len,fun k d e=>by
 obtain ⟨x,e1,e2⟩:=h.at_ k d e
 exact ⟨x,e1,c _ _ (xU e2 hl (by intro z; cases z)) e2⟩⟩
theorem FI.stepQ {H:Hp}{p a:Addr}{c:Int}{ins:Nat}{tb dl:Addr}{k:Nat}{vs us:List V}{ds:List Wd}{H' H'':Hp}(h:FI H p ins tb dl k vs us ds H')(F:Pen H' p a c)(C:Chg p H' H''):FI H p ins tb dl k vs us ds H'':=by
 obtain ⟨t,l,hp,_⟩:=F
 exact ⟨{ h.wi with tbl:=C _ _ h.wi.tp h.wi.tbl,hrs:=h.wi.hrs.chg (by simp) C,dll:=C _ _ h.wi.dp h.wi.dll,hds:=h.wi.hds.chgD hp C,chg:=h.wi.chg.trans C },h.sh⟩
theorem FG.stepQ {H:Hp}{p a:Addr}{c:Int}{ins:Nat}{tb dl gl:Addr}{k:Nat}{vs us os:List V}{ds:List Wd}{gs:List Go}{H' H'':Hp}(h:FG H p ins tb dl gl k vs us os ds gs H')(F:Pen H' p a c)(C:Chg p H' H''):FG H p ins tb dl gl k vs us os ds gs H'':=by
 have w:=(FI.stepQ ⟨h.wg.wi,h.sh⟩ F C).wi
 obtain ⟨t,l,hp,_⟩:=F
 exact ⟨{ h.wg with wi:=w,hrs:=h.wg.hrs.chg (by simp) C,gll:=C _ _ h.wg.gp h.wg.gll,hgs:=h.wg.hgs.chgD hp C },h.sh,h.go⟩
theorem Pen.chg {H H':Hp}{p a q:Addr}{c:Int}(h:Pen H p a c)(n:p ≠ q)(C:Chg q H H'):Pen H' p a c:=by
 obtain ⟨t,l,e,r⟩:=h
 exact ⟨t,l,C _ _ n e,r⟩
def spMvP:Sp:=fun vs H Q _=>∃ (l:Addr) (row:List Int) (sh:Int),vs=[.ref l,.int sh] /\ H l=some (.lst (row.map V.int)) /\ row.length <= 12 /\ Sh sh row /\ (∀ n ∈ row,n.natAbs < 2 ^ 8000) /\
 ∀ m H',H m=none -> Same H H' -> H' m=some (.lst ((row.map (mvI sh)).map V.int)) -> Q (.ref m) H'
def spShP (K:zA):Sp:=fun vs H Q _=>∃ (p a l:Addr) (ns:List Int) (c:Int) (row:List Int),vs=[.ref p,.ref l] /\ Pen H p a c /\ Scr K H a ns /\ ns.length <= 63 /\ c <= 5000000 /\ H l=some (.lst (row.map V.int)) /\ row.length <= 12 /\ l ≠ p /\
 ∀ (s:Int) H',Sh s row -> Pen H' p a (c+10) -> Scr K H' a ns -> Chg p H H' -> Q (.int s) H'
def spGen25 (K:zA):Sp:=fun vs H Q _=>∃ (p a:Addr) (ns:List Int) (c:Int),vs=[.ref p] /\ Pen H p a c /\ Scr K H a ns /\ ns.length <= 63 /\ c <= 1000000 /\
 ∀ (w dl gl:Addr) (ins:Nat) (us:List V) (ds:List Wd) (os:List V) (gs:List Go) H',Wb H' w dl gl ins us ds os gs -> FWeb ins ds gs -> Pen H' p a (c+10000) -> Scr K H' a ns -> Chg p H H' -> Q (.ref w) H'
def spBnd25 (K:zA):Sp:=fun vs H Q _=>∃ (w dl gl:Addr) (ins:Nat) (us:List V) (ds:List Wd) (os:List V) (gs:List Go),vs=[.ref w] /\ GWb K H w dl gl ins us ds os gs /\
 ∀ H',Same H H' -> Q (.bl true) H'
def spRowR25 (K:zA):Sp:=fun vs H Q _=>∃ (w dl gl l:Addr) (us:List V) (ds:List Wd) (os:List V) (gs:List Go) (xs:List Int) (x:Int),vs=[.ref w,.ref l,.int x] /\ GWb K H w dl gl 1 us ds os gs /\ outsR 1 ds gs=xs.map (fun n=>[n]) /\ H l=some (.lst (xs.map V.int)) /\ xs.length <= 6 /\ (∀ n ∈ xs,n.natAbs < 2 ^ 40) /\ x.natAbs < 2 ^ 200 /\
 ∀ H',Same H H' -> Q (.bl true) H'
def evV (low:Nat):V -> Option V:=fun x=>match x with
 | .int n=>some (.bl (decide (n % (1 * 2 ^ ((low:Int)+1).toNat)=0)))
 | _=>none
theorem evV_map (low:Nat):∀ xs:List Int,(xs.map V.int).filterMap (evV low)=(xs.map fun n=>decide (n % (1 * 2 ^ ((low:Int)+1).toNat)=0)).map V.bl
 | []=>rfl
 | x :: r=>by
  rw [zR,yK,evV_map low r]
  rfl
theorem FWeb.gw {K:zA}{H:Hp}{w dl gl:Addr}{n:Nat}{us:List V}{ds:List Wd}{os:List V}{gs:List Go}(W:Wb H w dl gl n us ds os gs)(F:FWeb n ds gs):GWb K H w dl gl n us ds os gs:=by
 refine ⟨W.wk,F.b4.1,F.b4.2,fun r hr x hx=>?_⟩
 obtain ⟨g,hg,rfl⟩:=qP.mp hr
 unfold outR at hx
 obtain ⟨y,hy,rfl⟩:=qP.mp hx
 have lr:=rowsW_len n ds
 have e:=qA (l:=rowsW n ds) (i:=g.th) (by have:=F.ok.gk g hg; omega)
 rw [zY e] at hy
 have b:=(F.b4.2 _ (qE e)).2 y hy
 have sh:g.sh.toNat <= 40:=by
  rcases F.go g hg with z | ⟨_,z⟩
  ·rw [z]; decide
  ·have:=z.2.1; omega
 have c:=mvI_any sh b
 have sg:g.sg=0 \/ g.sg=1 \/ g.sg = -1:=by
  rcases F.go g hg with z | z
  ·rw [z]; exact .inl rfl
  ·exact .inr z.1
 refine yB ?_ (yB c (yO (by decide) (by decide)))
 rw [xX]
 rcases sg with z | z | z <;> rw [z]
 ·simp
 ·simp
 ·simp
theorem one_gw {K:zA}{H:Hp}{w dl gl:Addr}{us:List V}{ds:List Wd}{os:List V}{gs:List Go}{xs:List Int}(W:WbK K H w dl gl 1 us ds os gs)(F:FW4B 1 ds gs)(R:RB 3000 (rowsW 1 ds))(O:outsR 1 ds gs=xs.map fun n=>[n])(hb:∀ n ∈ xs,n.natAbs < 2 ^ 40):GWb K H w dl gl 1 us ds os gs:=by
 refine ⟨W,F,R,fun r hr x hx=>?_⟩
 rw [O] at hr
 obtain ⟨n,hn,rfl⟩:=qP.mp hr
 rw [zT.mp hx]
 exact Nat.lt_trans (hb n hn) (yO (by decide) (by decide))
def spSharedC (K:zA):Sp:=fun vs H Q _=>∃ (a:Addr) (xs:List Int),vs=[.ref a] /\ H a=some (.lst (xs.map V.int)) /\ xs.length <= 6 /\ (∀ x ∈ xs,x.natAbs < 2 ^ 40) /\
 ∀ (r dl gl:Addr) (us os:List V) (es:List Wd) (gs:List Go) H',Same H H' -> GWb K H' r dl gl 1 us es os gs -> outsR 1 es gs=xs.map (fun n=>[n]) -> Q (.ref r) H'
theorem dpt_w (ds:List Dd):DOk ds -> dpW 1 (ds.map toW)=(dpt ds).map fun (n:Nat)=>(n:Int):=by
 refine yu (p:=fun ds=>DOk ds -> dpW 1 (ds.map toW)=(dpt ds).map fun (n:Nat)=>(n:Int)) (fun _=>rfl) (fun xs d ih h=>?_) ds
 have e:=ih h.pre
 obtain ⟨h1,h2,_⟩:=h.at_ xs.length d (by rw [qG (zE _),ya]; rfl)
 have dl:=dpt_len xs
 rw [yC,zBN,yC,← e]
 unfold dpW
 rw [show [d].map toW=[toW d] from rfl,zBT]
 congr 1
 have key:∀ j,j <= xs.length -> (vG gDe 0 (qQ 1 0) (xs.map toW)).getD j 0=(((dpt xs).getD j 0:Nat):Int):=fun j hj=>by
  show (dpW 1 (xs.map toW)).getD j 0=_
  have e1:=qA (l:=dpt xs) (i:=j) (by omega)
  rw [e,zY e1,zY (by rw [qI,e1]; rfl)]
 unfold vGD gDe
 show [max (max 0 (_+1)) (_+1)]=[_]
 have k1:=key d.a h1
 have k2:=key d.b h2
 show [max (max 0 ((vG gDe 0 (qQ 1 0) (xs.map toW)).getD d.a 0+1)) ((vG gDe 0 (qQ 1 0) (xs.map toW)).getD d.b 0+1)]=[((1+max ((dpt xs).getD d.a 0) ((dpt xs).getD d.b 0):Nat):Int)]
 rw [k1,k2]
 congr 1
 omega
theorem ld_out {ds:List Dd}{xs:List Int}{gs:List Go}(hl:gs.length=xs.length)(h:∀ (i:Nat) n g,xs[i]? = some n -> gs[i]? = some g -> (n=0 /\ g=⟨0,0,0⟩) \/ (n ≠ 0 /\ g.sg ≠ 0 /\ (dpt ds)[g.th]? = some (halN (wn n:Nat))))(ok:DOk ds):mz (goD (dpW 1 (ds.map toW)) gs)=ld xs:=by
 rw [dpt_w ds ok]
 have key:∀ (xs:List Int) (gs:List Go),gs.length=xs.length -> (∀ (i:Nat) n g,xs[i]? = some n -> gs[i]? = some g -> (n=0 /\ g=⟨0,0,0⟩) \/ (n ≠ 0 /\ g.sg ≠ 0 /\ (dpt ds)[g.th]? = some (halN (wn n:Nat)))) -> mz (goD ((dpt ds).map fun (n:Nat)=>(n:Int)) gs)=ld xs:=by
  intro xs
  induction xs with
  | nil =>
   intro gs hl _
   have:gs=[]:=List.eq_nil_of_length_eq_zero hl
   rw [this]
   rfl
  | cons n xs ih =>
   intro gs hl h
   match gs,hl with
   | g :: gs,hl =>
    have ih':=ih gs (by simpa using hl) (fun i n' g' h1 h2=>h (i+1) n' g' h1 h2)
    unfold goD ld at ih' ⊢
    rcases h 0 n g rfl rfl with ⟨z,y⟩ | ⟨z,y,x⟩
    ·rw [J9 (by rw [y]; decide),ih',zR,z,wn_zero]
     show _=if mz _ < ((halN 0:Nat):Int) then _ else _
     have h0:halN 0=0:=by decide
     have:=Jw (xs.map fun n=>((halN (wn n:Nat):Nat):Int))
     rw [h0,if_neg (by omega)]
    ·rw [J8 (by simpa using y),zR,zR,zY (by rw [qI,x]; rfl)]
     show (if mz _ < _ then _ else _)=if mz _ < _ then _ else _
     rw [ih']
 exact key xs gs hl h
theorem row_webG {K:zA}{H:Hp}{t dl ol:Addr}{ds:List Dd}{xs:List Int}{us os:List V}{gs:List Go}(h:Row K H t dl ol ds xs)(hl:xs.length <= 12)(hd:ds.length <= 400)(u1:H dl=some (.lst us))(u2:HDs H us ds)(o1:H ol=some (.lst os))(o2:os.length=xs.length)(g1:gs.length=xs.length)
  (g2:∀ (i:Nat) g,gs[i]? = some g -> ∃ n x,xs[i]? = some n /\ os[i]? = some (.ref x) /\ SqT K H x (gTp g) /\ ((n=0 /\ g=⟨0,0,0⟩) \/ ((g.sg=1 \/ g.sg = -1) /\ 0 <= g.sh /\ g.sh <= 300 /\ ∃ m,(ev ds)[g.th]? = some m /\ g.sg * (m * 2 ^ g.sh.toNat)=n))) :
  WbK K H t dl ol 1 us (ds.map toW) os gs /\ BWB 1 (ds.map toW) gs /\ outsR 1 (ds.map toW) gs=xs.map fun n=>[n]:=by
 have er:=ev_rows ds h.ok
 have el:=JV ds
 have ge:∀ g ∈ gs,g=⟨0,0,0⟩ \/ ((g.sg=1 \/ g.sg = -1) /\ 0 <= g.sh /\ g.sh <= 300 /\ g.th < 1+ds.length):=fun g hg=>by
  obtain ⟨i,hi⟩:=zz hg
  obtain ⟨n,x,_,_,_,⟨_,z⟩ | ⟨z1,z2,z3,m,z4,_⟩⟩:=g2 i g hi
  ·exact .inl z
  ·have:=(qB.mp z4).1
   exact .inr ⟨z1,z2,z3,by omega⟩
 have rr:∀ r ∈ rowsW 1 (ds.map toW),r.length=1 /\ ∀ n ∈ r,n.natAbs < 2 ^ 300:=fun r hr=>by
  rw [er] at hr
  obtain ⟨n,hn,rfl⟩:=qP.mp hr
  exact ⟨rfl,fun y hy=>by rw [zT.mp hy]; exact h.ok.big n hn⟩
 have rb:∀ b:Nat,300 <= b -> RB b (rowsW 1 (ds.map toW)):=fun b hb r hr=>⟨by rw [(rr r hr).1]; decide,fun n hn=>zZ (Nat.le_of_lt ((rr r hr).2 n hn)) (qN (by decide) hb)⟩
 have up:∀ {s:Int} {r:List Int},0 <= s -> s <= 300 -> Sh4 s r:=fun a b=>⟨by omega,by omega,fun z=>by omega⟩
 have dk:∀ (k:Nat) (d:Wd),(ds.map toW)[k]? = some d -> d.a < 1+k /\ d.b < 1+k /\ (d.w = "sum" \/ d.w = "less") /\ (0 <= d.s /\ d.s <= 300) /\ (0 <= d.t /\ d.t <= 300):=fun k d hk=>by
  rw [qI] at hk
  obtain ⟨e,he,rfl⟩:=yW.mp hk
  obtain ⟨h1,h2,h3,h4,_⟩:=h.ok.at_ k e he
  exact ⟨by show e.a < _; omega,by show e.b < _; omega,word_ok _,⟨by show (0:Int) <= (e.s:Int); omega,by show (e.s:Int) <= 300; omega⟩,⟨by show (0:Int) <= (e.t:Int); omega,by show (e.t:Int) <= 300; omega⟩⟩
 refine ⟨⟨h.tup,u1,u2.hts,o1,by rw [o2,g1],fun k g hk=>?_⟩,⟨⟨⟨by decide,by decide,fun k d hk=>⟨(dk k d hk).1,(dk k d hk).2.1,(dk k d hk).2.2.1⟩,fun g hg=>?_,by rw [qC]; exact hd,by omega⟩,fun k d hk=>⟨(dk k d hk).1,(dk k d hk).2.1,up (dk k d hk).2.2.2.1.1 (dk k d hk).2.2.2.1.2,up (dk k d hk).2.2.2.2.1 (dk k d hk).2.2.2.2.2⟩,fun g hg=>?_,rb 8000 (by decide),fun r hr=>(rr r hr).1⟩,fun d hd=>?_,fun g hg=>?_,rb 3000 (by decide)⟩,?_⟩
 ·obtain ⟨n,x,_,e2,e3,_⟩:=g2 k g hk
  exact ⟨x,e2,e3⟩
 ·rw [qC]
  rcases ge g hg with z | z
  ·rw [z]; show 0 < _; omega
  ·exact z.2.2.2
 ·rcases ge g hg with z | z
  ·exact .inl z
  ·exact .inr ⟨z.1,up z.2.1 z.2.2.1⟩
 ·obtain ⟨k,hk⟩:=zz hd
  have:=dk k d hk
  exact ⟨by omega,by omega,by omega,by omega⟩
 ·rcases ge g hg with z | z
  ·rw [z]; exact ⟨by decide,by decide⟩
  ·exact ⟨by omega,by omega⟩
 ·unfold outsR
  refine List.ext_getElem? fun i=>?_
  rw [qI,qI]
  by_cases c:i < xs.length
  ·have eg:=qA (l:=gs) (i:=i) (by omega)
   obtain ⟨n,x,e1,_,_,e4⟩:=g2 i _ eg
   rw [eg,e1]
   show some (outR _ _)=some [n]
   congr 1
   generalize gs[i]=g at e4
   unfold outR
   rw [er]
   rcases e4 with ⟨n0,z⟩ | ⟨_,z2,_,m,z4,z5⟩
   ·rw [z,n0]
    show (((ev ds).map fun n=>[n]).getD 0 []).map _=[0]
    have e0:=qA (l:=ev ds) (i:=0) (by omega)
    rw [zY (by rw [qI,e0]; rfl)]
    show [0 * mvI 0 _]=[0]
    rw [Int.zero_mul]
   ·rw [zY (by rw [qI,z4]; rfl)]
    show [g.sg * mvI g.sh m]=[n]
    rw [Jl z2,z5]
  ·rw [jy (by omega),jy (by omega)]
   rfl
theorem Row.webD {K:zA}{H:Hp}{t dl ol:Addr}{ds:List Dd}{xs:List Int}(h:Row K H t dl ol ds xs)(D:DpO K H ol ds xs)(hl:xs.length <= 12)(hd:ds.length <= 400) :
  ∃ us os gs,WbK K H t dl ol 1 us (ds.map toW) os gs /\ BWB 1 (ds.map toW) gs /\ outsR 1 (ds.map toW) gs=xs.map (fun n=>[n]) /\ mz (goD (dpW 1 (ds.map toW)) gs)=ld xs:=by
 obtain ⟨us,u1,u2⟩:=h.dls
 obtain ⟨os,o1,o2⟩:=D
 obtain ⟨gs,g1,g2⟩:=zAd (P:=fun i (g:Go)=>∃ n x,xs[i]? = some n /\ os[i]? = some (.ref x) /\ SqT K H x (gTp g) /\ ((n=0 /\ g=⟨0,0,0⟩) \/ ((g.sg=1 \/ g.sg = -1) /\ 0 <= g.sh /\ g.sh <= 300 /\ ∃ m,(ev ds)[g.th]? = some m /\ g.sg * (m * 2 ^ g.sh.toNat)=n)) /\ ((n=0 /\ g=⟨0,0,0⟩) \/ (n ≠ 0 /\ g.sg ≠ 0 /\ (dpt ds)[g.th]? = some (halN (wn n:Nat))))) xs.length fun i hi=>by
  have ex:=qA hi
  obtain ⟨x,a,b,c,e1,e2,e3,e4⟩:=o2.at_ i _ ex
  rcases e3.ok with ⟨n0,rfl,rfl,rfl⟩ | ⟨n0,k,j,m,rfl,rfl,j3,hc,hk,hv⟩
  ·exact ⟨⟨0,0,0⟩,_,x,ex,e1,e2,.inl ⟨n0,rfl⟩,.inl ⟨n0,rfl⟩⟩
  ·obtain ⟨i',ei,e5⟩:=e4 n0
   have:k=i':=by omega
   subst this
   exact ⟨⟨k,j,c⟩,_,x,ex,e1,e2,.inr ⟨hc,by show (0:Int) <= j; omega,by show (j:Int) <= 300; omega,m,hk,by show c * (m * 2 ^ (j:Int).toNat)=_; rw [yn,yF]; exact hv⟩,.inr ⟨n0,by show c ≠ 0; omega,e5⟩⟩
 obtain ⟨A,B,C⟩:=row_webG h hl hd u1 u2 o1 o2.len g1 fun i g hg=>by
  obtain ⟨n,x,e1,e2,e3,e4,_⟩:=g2 i g hg
  exact ⟨n,x,e1,e2,e3,e4⟩
 refine ⟨us,os,gs,A,B,C,ld_out g1 (fun i n g hn hg=>?_) h.ok⟩
 obtain ⟨n',x,e1,_,_,_,e5⟩:=g2 i g hg
 rw [hn] at e1
 cases e1
 exact e5
theorem sumW_int:∀ row:List Int,(row.map fun n=>((wn n:Nat):Int)).sum=((sumW row:Nat):Int)
 | []=>rfl
 | a :: r=>by
  have ih:=sumW_int r
  unfold sumW at ih ⊢
  rw [zR,xq,ih,zR,xq]
  omega
def spDrawB (K:zA):Sp:=fun vs H Q _=>∃ (p a:Addr) (ns:List Int) (m c:Int),vs=[.ref p,.int m] /\ Pen H p a c /\ Scr K H a ns /\ ns.length <= 63 /\ c <= 1000000000 /\ 1 <= m /\ m.natAbs < 2 ^ 9000 /\
 ∀ (r:Int) H',0 <= r -> r < m -> Pen H' p a (c+1) -> Scr K H' a ns -> Chg p H H' -> Q (.int r) H'
end L2
namespace L2
open PySem PySem.Spec PyProof.Rows
section
variable {K:zA}{σ:St}{H:Hp}{Q:VK}{cs:List Nat}{te:TE}
end
end L2
end
section
namespace Law
open PySem L2
open Option.some renaming injEq → qJs
open L2.HO.tup renaming injEq → qJt
open L2.HO.lst renaming injEq → qJl
open L2.HO.dK renaming injEq → qJd
def top (i:Nat):Stmt:=PySem.Challenge.pw_shiftsums_k25_whole_none_less_deep.main.body.getD i (.Pass ⟨0,0,0,0⟩)
abbrev jo:Stmt:=top 1
theorem sc_is_whole:FnScope ["thing"] ["thing"] (zH jo):=⟨rfl,rfl,rfl,by decide +kernel,rfl,by decide +kernel,by decide +kernel⟩
abbrev zBp:Stmt:=top 2
theorem sc_core:FnScope ["number","size","shift","sign"] ["number"] (zH zBp):=⟨rfl,rfl,rfl,by decide +kernel,rfl,by decide +kernel,by decide +kernel⟩
abbrev JF:Stmt:=top 3
theorem sc_shifted:FnScope ["number","shift","halved"] ["number","shift"] (zH JF):=⟨rfl,rfl,rfl,by decide +kernel,rfl,by decide +kernel,by decide +kernel⟩
abbrev J0:Stmt:=top 13
theorem sc_web_of:FnScope ["ins","deeds","outs","rows","place","deed","out"] ["ins","deeds","outs"] (zH J0):=⟨rfl,rfl,rfl,by decide +kernel,rfl,by decide +kernel,by decide +kernel⟩
abbrev jE:Stmt:=top 14
theorem sc_is_between:FnScope ["thing","low","high"] ["thing","low","high"] (zH jE):=⟨rfl,rfl,rfl,by decide +kernel,rfl,by decide +kernel,by decide +kernel⟩
abbrev JG:Stmt:=top 15
theorem sc_is_deed:FnScope ["deed","rows"] ["deed","rows"] (zH JG):=⟨rfl,rfl,rfl,by decide +kernel,rfl,by decide +kernel,by decide +kernel⟩
abbrev J1:Stmt:=top 16
theorem sc_is_out:FnScope ["out","rows"] ["out","rows"] (zH J1):=⟨rfl,rfl,rfl,by decide +kernel,rfl,by decide +kernel,by decide +kernel⟩
abbrev JH:Stmt:=top 17
theorem sc_is_part:FnScope ["thing","shift","rows"] ["thing","shift","rows"] (zH JH):=⟨rfl,rfl,rfl,by decide +kernel,rfl,by decide +kernel,by decide +kernel⟩
abbrev xu:Stmt:=top 18
theorem zCA:FnScope ["row","shift"] ["row","shift"] (zH xu):=⟨rfl,rfl,rfl,by decide +kernel,rfl,by decide +kernel,by decide +kernel⟩
abbrev jF:Stmt:=top 19
theorem sc_input_rows:FnScope ["ins"] ["ins"] (zH jF):=⟨rfl,rfl,rfl,by decide +kernel,rfl,by decide +kernel,by decide +kernel⟩
abbrev jX:Stmt:=top 20
theorem sc_input_row:FnScope ["ins","thing"] ["ins","thing"] (zH jX):=⟨rfl,rfl,rfl,by decide +kernel,rfl,by decide +kernel,by decide +kernel⟩
abbrev jp:Stmt:=top 21
theorem sc_deed_row:FnScope ["deed","rows","left","right","sign"] ["deed","rows"] (zH jp):=⟨rfl,rfl,rfl,by decide +kernel,rfl,by decide +kernel,by decide +kernel⟩
abbrev xw:Stmt:=top 22
theorem zCB:FnScope ["deed"] ["deed"] (zH xw):=⟨rfl,rfl,rfl,by decide +kernel,rfl,by decide +kernel,by decide +kernel⟩
abbrev JI:Stmt:=top 23
theorem sc_numbers:FnScope ["web","rows","deed"] ["web"] (zH JI):=⟨rfl,rfl,rfl,by decide +kernel,rfl,by decide +kernel,by decide +kernel⟩
abbrev xx:Stmt:=top 24
theorem sc_out_numbers:FnScope ["web","rows"] ["web"] (zH xx):=⟨rfl,rfl,rfl,by decide +kernel,rfl,by decide +kernel,by decide +kernel⟩
abbrev JJ:Stmt:=top 25
theorem sc_out_row:FnScope ["out","rows"] ["out","rows"] (zH JJ):=⟨rfl,rfl,rfl,by decide +kernel,rfl,by decide +kernel,by decide +kernel⟩
abbrev xy:Stmt:=top 26
theorem sc_deed_arrows:FnScope ["web","told","place","deed","thing"] ["web"] (zH xy):=⟨rfl,rfl,rfl,by decide +kernel,rfl,by decide +kernel,by decide +kernel⟩
abbrev xz:Stmt:=top 27
theorem zCC:FnScope ["web"] ["web"] (zH xz):=⟨rfl,rfl,rfl,by decide +kernel,rfl,by decide +kernel,by decide +kernel⟩
abbrev jq:Stmt:=top 29
theorem sc_parts_of:FnScope ["deed"] ["deed"] (zH jq):=⟨rfl,rfl,rfl,by decide +kernel,rfl,by decide +kernel,by decide +kernel⟩
abbrev zAr:Stmt:=top 30
theorem sc_moved:FnScope ["part","shift","sign"] ["part","shift","sign"] (zH zAr):=⟨rfl,rfl,rfl,by decide +kernel,rfl,by decide +kernel,by decide +kernel⟩
abbrev JK:Stmt:=top 31
theorem zCD:FnScope ["one","other"] ["one","other"] (zH JK):=⟨rfl,rfl,rfl,by decide +kernel,rfl,by decide +kernel,by decide +kernel⟩
abbrev JL:Stmt:=top 32
theorem zCE:FnScope ["one","other"] ["one","other"] (zH JL):=⟨rfl,rfl,rfl,by decide +kernel,rfl,by decide +kernel,by decide +kernel⟩
abbrev JM:Stmt:=top 33
theorem sc_out_for:FnScope ["number","parts","found"] ["number","parts"] (zH JM):=⟨rfl,rfl,rfl,by decide +kernel,rfl,by decide +kernel,by decide +kernel⟩
abbrev zAs:Stmt:=top 35
theorem sc_signs:FnScope ["number","digits","rest","digit"] ["number"] (zH zAs):=⟨rfl,rfl,rfl,by decide +kernel,rfl,by decide +kernel,by decide +kernel⟩
abbrev jG:Stmt:=top 36
theorem sc_first_sign:FnScope ["number"] ["number"] (zH jG):=⟨rfl,rfl,rfl,by decide +kernel,rfl,by decide +kernel,by decide +kernel⟩
abbrev zAt:Stmt:=top 37
theorem sc_least:FnScope ["number"] ["number"] (zH zAt):=⟨rfl,rfl,rfl,by decide +kernel,rfl,by decide +kernel,by decide +kernel⟩
abbrev jr:Stmt:=top 39
theorem sc_by_signs:FnScope ["numbers","deeds","parts","odd"] ["numbers"] (zH jr):=⟨rfl,rfl,rfl,by decide +kernel,rfl,by decide +kernel,by decide +kernel⟩
abbrev zBq:Stmt:=top 40
theorem sc_deep:FnScope ["numbers","deeds","parts","odd"] ["numbers"] (zH zBq):=⟨rfl,rfl,rfl,by decide +kernel,rfl,by decide +kernel,by decide +kernel⟩
abbrev x2:Stmt:=top 41
theorem zCF:FnScope ["numbers"] ["numbers"] (zH x2):=⟨rfl,rfl,rfl,by decide +kernel,rfl,by decide +kernel,by decide +kernel⟩
abbrev y7:Stmt:=top 42
theorem zBC:FnScope ["count"] ["count"] (zH y7):=⟨rfl,rfl,rfl,by decide +kernel,rfl,by decide +kernel,by decide +kernel⟩
abbrev xi:Stmt:=top 43
theorem sc_unlike_cores:FnScope ["numbers","found","number"] ["numbers"] (zH xi):=⟨rfl,rfl,rfl,by decide +kernel,rfl,by decide +kernel,by decide +kernel⟩
abbrev jY:Stmt:=top 44
theorem sc_add_chain:FnScope ["deeds","odd","made","gap","digit"] ["deeds","odd"] (zH jY):=⟨rfl,rfl,rfl,by decide +kernel,rfl,by decide +kernel,by decide +kernel⟩
abbrev js:Stmt:=top 45
theorem sc_add_tree:FnScope ["deeds","odd","parts"] ["deeds","odd"] (zH js):=⟨rfl,rfl,rfl,by decide +kernel,rfl,by decide +kernel,by decide +kernel⟩
abbrev J2:Stmt:=top 46
theorem sc_paired:FnScope ["deeds","parts","told","place","low","high","first","second"] ["deeds","parts"] (zH J2):=⟨rfl,rfl,rfl,by decide +kernel,rfl,by decide +kernel,by decide +kernel⟩
abbrev s_run:Stmt:=top 48
theorem sc_run:FnScope ["web","values","told","start","goal","shift","sign"] ["web","values"] (zH s_run):=⟨rfl,rfl,rfl,by decide +kernel,rfl,by decide +kernel,by decide +kernel⟩
abbrev jt:Stmt:=top 49
theorem sc_run_outs:FnScope ["web","values","told"] ["web","values"] (zH jt):=⟨rfl,rfl,rfl,by decide +kernel,rfl,by decide +kernel,by decide +kernel⟩
abbrev J3:Stmt:=top 50
theorem sc_depths:FnScope ["web","told","start","goal","shift","sign"] ["web"] (zH J3):=⟨rfl,rfl,rfl,by decide +kernel,rfl,by decide +kernel,by decide +kernel⟩
abbrev zAu:Stmt:=top 51
theorem sc_depth:FnScope ["web","told"] ["web"] (zH zAu):=⟨rfl,rfl,rfl,by decide +kernel,rfl,by decide +kernel,by decide +kernel⟩
abbrev zBr:Stmt:=top 53
theorem sc_used:FnScope ["web","told","thing","shift","sign","start","goal"] ["web"] (zH zBr):=⟨rfl,rfl,rfl,by decide +kernel,rfl,by decide +kernel,by decide +kernel⟩
abbrev J4:Stmt:=top 54
theorem sc_pruned:FnScope ["web","ins","kept","renumbered","deeds","place","deed","outs"] ["web"] (zH J4):=⟨rfl,rfl,rfl,by decide +kernel,rfl,by decide +kernel,by decide +kernel⟩
abbrev JN:Stmt:=top 55
theorem sc_form_of:FnScope ["row","cores","shift","sign"] ["row"] (zH JN):=⟨rfl,rfl,rfl,by decide +kernel,rfl,by decide +kernel,by decide +kernel⟩
abbrev zBs:Stmt:=top 56
theorem sc_bare:FnScope ["web"] ["web"] (zH zBs):=⟨rfl,rfl,rfl,by decide +kernel,rfl,by decide +kernel,by decide +kernel⟩
abbrev J5:Stmt:=top 57
theorem sc_merged:FnScope ["web","forms","kept","deeds","thing","form","parts"] ["web"] (zH J5):=⟨rfl,rfl,rfl,by decide +kernel,rfl,by decide +kernel,by decide +kernel⟩
abbrev JO:Stmt:=top 58
theorem sc_part_by:FnScope ["kept","forms","part","form","stand"] ["kept","forms","part"] (zH JO):=⟨rfl,rfl,rfl,by decide +kernel,rfl,by decide +kernel,by decide +kernel⟩
abbrev J6:Stmt:=top 60
theorem sc_shared:FnScope ["numbers"] ["numbers"] (zH J6):=⟨rfl,rfl,rfl,by decide +kernel,rfl,by decide +kernel,by decide +kernel⟩
abbrev zAv:Stmt:=top 62
theorem sc_l_pen:FnScope ["_law_script"] ["_law_script"] (zH zAv):=⟨rfl,rfl,rfl,by decide +kernel,rfl,by decide +kernel,by decide +kernel⟩
abbrev J7:Stmt:=top 63
theorem sc_l_draw:FnScope ["_law_pen_here","_law_many","_law_digit","_law_script","_law_at","_law_cell","_law_number"] ["_law_pen_here","_law_many"] (zH J7):=⟨rfl,rfl,rfl,by decide +kernel,rfl,by decide +kernel,by decide +kernel⟩
abbrev JP:Stmt:=top 64
theorem sc_l_close:FnScope ["_law_pen_here","_law_found","_law_way","_law_small","_law_number"] ["_law_pen_here","_law_found"] (zH JP):=⟨rfl,rfl,rfl,by decide +kernel,rfl,by decide +kernel,by decide +kernel⟩
abbrev zAw:Stmt:=top 65
theorem sc_l_few:FnScope ["_law_pen_here","_law_found","_law_k"] ["_law_pen_here"] (zH zAw):=⟨rfl,rfl,rfl,by decide +kernel,rfl,by decide +kernel,by decide +kernel⟩
abbrev JQ:Stmt:=top 66
theorem sc_l_moved:FnScope ["_law_row","_law_shift_here"] ["_law_row","_law_shift_here"] (zH JQ):=⟨rfl,rfl,rfl,by decide +kernel,rfl,by decide +kernel,by decide +kernel⟩
abbrev JR:Stmt:=top 67
theorem sc_l_shift:FnScope ["_law_pen_here","_law_row","_law_way","_law_low"] ["_law_pen_here","_law_row"] (zH JR):=⟨rfl,rfl,rfl,by decide +kernel,rfl,by decide +kernel,by decide +kernel⟩
abbrev zAx:Stmt:=top 68
theorem sc_l_web:FnScope ["_law_pen_here","_law_ins","_law_rows","_law_deeds","_law_k","_law_a","_law_b","_law_s","_law_t","_law_sign","_law_outs","_law_thing"] ["_law_pen_here"] (zH zAx):=⟨rfl,rfl,rfl,by decide +kernel,rfl,by decide +kernel,by decide +kernel⟩
abbrev jZ:Stmt:=top 69
theorem sc_l_bounded:FnScope ["_law_web_here","_law_row","_law_deepness"] ["_law_web_here"] (zH jZ):=⟨rfl,rfl,rfl,by decide +kernel,rfl,by decide +kernel,by decide +kernel⟩
abbrev x4:Stmt:=top 70
theorem zCG:FnScope ["_law_web_here","_law_some","_law_x"] ["_law_web_here","_law_some","_law_x"] (zH x4):=⟨rfl,rfl,rfl,by decide +kernel,rfl,by decide +kernel,by decide +kernel⟩
abbrev zA2:Stmt:=top 71
theorem sc_law:FnScope ["_law_script","_law_pen_here","_law_turn","_law_some","_law_x","_law_web_here"] ["_law_script"] (zH zA2):=⟨rfl,rfl,rfl,by decide +kernel,rfl,by decide +kernel,by decide +kernel⟩
structure Bl (mg:Str -> Option Value):Prop where
 abs:mg "abs" = none
 all:mg "all" = none
 bool:mg "bool" = none
 enumerate:mg "enumerate" = none
 int:mg "int" = none
 isinstance:mg "isinstance" = none
 len:mg "len" = none
 list:mg "list" = none
 max:mg "max" = none
 min:mg "min" = none
 range:mg "range" = none
 reversed:mg "reversed" = none
 sum:mg "sum" = none
 tuple:mg "tuple" = none
 zip:mg "zip" = none
structure Txt (K:zA) (mg:Str -> Option Value):Prop where
 bl:Bl mg
 t_is_whole:∃ (f:Addr) (fd:FuncData),Fun K "is_whole" "is_whole" jo f fd /\ mg "is_whole" = some (.ref f) /\ Binds K fd ["thing"] []
 t_core:∃ (f:Addr) (fd:FuncData),Fun K "core" "core" zBp f fd /\ mg "core" = some (.ref f) /\ Binds K fd ["number"] []
 t_shifted:∃ (f:Addr) (fd:FuncData),Fun K "shifted" "shifted" JF f fd /\ mg "shifted" = some (.ref f) /\ Binds K fd ["number","shift"] []
 t_web_of:∃ (f:Addr) (fd:FuncData),Fun K "web_of" "web_of" J0 f fd /\ mg "web_of" = some (.ref f) /\ Binds K fd ["ins","deeds","outs"] []
 t_is_between:∃ (f:Addr) (fd:FuncData),Fun K "is_between" "is_between" jE f fd /\ mg "is_between" = some (.ref f) /\ Binds K fd ["thing","low","high"] []
 t_is_deed:∃ (f:Addr) (fd:FuncData),Fun K "is_deed" "is_deed" JG f fd /\ mg "is_deed" = some (.ref f) /\ Binds K fd ["deed","rows"] []
 t_is_out:∃ (f:Addr) (fd:FuncData),Fun K "is_out" "is_out" J1 f fd /\ mg "is_out" = some (.ref f) /\ Binds K fd ["out","rows"] []
 t_is_part:∃ (f:Addr) (fd:FuncData),Fun K "is_part" "is_part" JH f fd /\ mg "is_part" = some (.ref f) /\ Binds K fd ["thing","shift","rows"] []
 t_shifted_row:∃ (f:Addr) (fd:FuncData),Fun K "shifted_row" "shifted_row" xu f fd /\ mg "shifted_row" = some (.ref f) /\ Binds K fd ["row","shift"] []
 t_input_rows:∃ (f:Addr) (fd:FuncData),Fun K "input_rows" "input_rows" jF f fd /\ mg "input_rows" = some (.ref f) /\ Binds K fd ["ins"] []
 t_input_row:∃ (f:Addr) (fd:FuncData),Fun K "input_row" "input_row" jX f fd /\ mg "input_row" = some (.ref f) /\ Binds K fd ["ins","thing"] []
 t_deed_row:∃ (f:Addr) (fd:FuncData),Fun K "deed_row" "deed_row" jp f fd /\ mg "deed_row" = some (.ref f) /\ Binds K fd ["deed","rows"] []
 t_second_sign:∃ (f:Addr) (fd:FuncData),Fun K "second_sign" "second_sign" xw f fd /\ mg "second_sign" = some (.ref f) /\ Binds K fd ["deed"] []
 t_numbers:∃ (f:Addr) (fd:FuncData),Fun K "numbers" "numbers" JI f fd /\ mg "numbers" = some (.ref f) /\ Binds K fd ["web"] []
 t_out_numbers:∃ (f:Addr) (fd:FuncData),Fun K "out_numbers" "out_numbers" xx f fd /\ mg "out_numbers" = some (.ref f) /\ Binds K fd ["web"] []
 t_out_row:∃ (f:Addr) (fd:FuncData),Fun K "out_row" "out_row" JJ f fd /\ mg "out_row" = some (.ref f) /\ Binds K fd ["out","rows"] []
 t_deed_arrows:∃ (f:Addr) (fd:FuncData),Fun K "deed_arrows" "deed_arrows" xy f fd /\ mg "deed_arrows" = some (.ref f) /\ Binds K fd ["web"] []
 t_thing_count:∃ (f:Addr) (fd:FuncData),Fun K "thing_count" "thing_count" xz f fd /\ mg "thing_count" = some (.ref f) /\ Binds K fd ["web"] []
 t_parts_of:∃ (f:Addr) (fd:FuncData),Fun K "parts_of" "parts_of" jq f fd /\ mg "parts_of" = some (.ref f) /\ Binds K fd ["deed"] []
 t_moved:∃ (f:Addr) (fd:FuncData),Fun K "moved" "moved" zAr f fd /\ mg "moved" = some (.ref f) /\ Binds K fd ["part","shift","sign"] []
 t_deed_of:∃ (f:Addr) (fd:FuncData),Fun K "deed_of" "deed_of" JK f fd /\ mg "deed_of" = some (.ref f) /\ Binds K fd ["one","other"] []
 t_sign_of:∃ (f:Addr) (fd:FuncData),Fun K "sign_of" "sign_of" JL f fd /\ mg "sign_of" = some (.ref f) /\ Binds K fd ["one","other"] []
 t_out_for:∃ (f:Addr) (fd:FuncData),Fun K "out_for" "out_for" JM f fd /\ mg "out_for" = some (.ref f) /\ Binds K fd ["number","parts"] []
 t_signs:∃ (f:Addr) (fd:FuncData),Fun K "signs" "signs" zAs f fd /\ mg "signs" = some (.ref f) /\ Binds K fd ["number"] []
 t_first_sign:∃ (f:Addr) (fd:FuncData),Fun K "first_sign" "first_sign" jG f fd /\ mg "first_sign" = some (.ref f) /\ Binds K fd ["number"] []
 t_least:∃ (f:Addr) (fd:FuncData),Fun K "least" "least" zAt f fd /\ mg "least" = some (.ref f) /\ Binds K fd ["number"] []
 t_by_signs:∃ (f:Addr) (fd:FuncData),Fun K "by_signs" "by_signs" jr f fd /\ mg "by_signs" = some (.ref f) /\ Binds K fd ["numbers"] []
 t_deep:∃ (f:Addr) (fd:FuncData),Fun K "deep" "deep" zBq f fd /\ mg "deep" = some (.ref f) /\ Binds K fd ["numbers"] []
 t_least_depth:∃ (f:Addr) (fd:FuncData),Fun K "least_depth" "least_depth" x2 f fd /\ mg "least_depth" = some (.ref f) /\ Binds K fd ["numbers"] []
 t_halvings_to_one:∃ (f:Addr) (fd:FuncData),Fun K "halvings_to_one" "halvings_to_one" y7 f fd /\ mg "halvings_to_one" = some (.ref f) /\ Binds K fd ["count"] []
 t_unlike_cores:∃ (f:Addr) (fd:FuncData),Fun K "unlike_cores" "unlike_cores" xi f fd /\ mg "unlike_cores" = some (.ref f) /\ Binds K fd ["numbers"] []
 t_add_chain:∃ (f:Addr) (fd:FuncData),Fun K "add_chain" "add_chain" jY f fd /\ mg "add_chain" = some (.ref f) /\ Binds K fd ["deeds","odd"] []
 t_add_tree:∃ (f:Addr) (fd:FuncData),Fun K "add_tree" "add_tree" js f fd /\ mg "add_tree" = some (.ref f) /\ Binds K fd ["deeds","odd"] []
 t_paired:∃ (f:Addr) (fd:FuncData),Fun K "paired" "paired" J2 f fd /\ mg "paired" = some (.ref f) /\ Binds K fd ["deeds","parts"] []
 t_run:∃ (f:Addr) (fd:FuncData),Fun K "run" "run" s_run f fd /\ mg "run" = some (.ref f) /\ Binds K fd ["web","values"] []
 t_run_outs:∃ (f:Addr) (fd:FuncData),Fun K "run_outs" "run_outs" jt f fd /\ mg "run_outs" = some (.ref f) /\ Binds K fd ["web","values"] []
 t_depths:∃ (f:Addr) (fd:FuncData),Fun K "depths" "depths" J3 f fd /\ mg "depths" = some (.ref f) /\ Binds K fd ["web"] []
 t_depth:∃ (f:Addr) (fd:FuncData),Fun K "depth" "depth" zAu f fd /\ mg "depth" = some (.ref f) /\ Binds K fd ["web"] []
 t_used:∃ (f:Addr) (fd:FuncData),Fun K "used" "used" zBr f fd /\ mg "used" = some (.ref f) /\ Binds K fd ["web"] []
 t_pruned:∃ (f:Addr) (fd:FuncData),Fun K "pruned" "pruned" J4 f fd /\ mg "pruned" = some (.ref f) /\ Binds K fd ["web"] []
 t_form_of:∃ (f:Addr) (fd:FuncData),Fun K "form_of" "form_of" JN f fd /\ mg "form_of" = some (.ref f) /\ Binds K fd ["row"] []
 t_bare:∃ (f:Addr) (fd:FuncData),Fun K "bare" "bare" zBs f fd /\ mg "bare" = some (.ref f) /\ Binds K fd ["web"] []
 t_merged:∃ (f:Addr) (fd:FuncData),Fun K "merged" "merged" J5 f fd /\ mg "merged" = some (.ref f) /\ Binds K fd ["web"] []
 t_part_by:∃ (f:Addr) (fd:FuncData),Fun K "part_by" "part_by" JO f fd /\ mg "part_by" = some (.ref f) /\ Binds K fd ["kept","forms","part"] []
 t_shared:∃ (f:Addr) (fd:FuncData),Fun K "shared" "shared" J6 f fd /\ mg "shared" = some (.ref f) /\ Binds K fd ["numbers"] []
 t_l_pen:∃ (f:Addr) (fd:FuncData),Fun K "_law_pen" "_law_pen" zAv f fd /\ mg "_law_pen" = some (.ref f) /\ Binds K fd ["_law_script"] []
 t_l_draw:∃ (f:Addr) (fd:FuncData),Fun K "_law_draw" "_law_draw" J7 f fd /\ mg "_law_draw" = some (.ref f) /\ Binds K fd ["_law_pen_here","_law_many"] []
 t_l_close:∃ (f:Addr) (fd:FuncData),Fun K "_law_close" "_law_close" JP f fd /\ mg "_law_close" = some (.ref f) /\ Binds K fd ["_law_pen_here","_law_found"] []
 t_l_few:∃ (f:Addr) (fd:FuncData),Fun K "_law_few" "_law_few" zAw f fd /\ mg "_law_few" = some (.ref f) /\ Binds K fd ["_law_pen_here"] []
 t_l_moved:∃ (f:Addr) (fd:FuncData),Fun K "_law_moved" "_law_moved" JQ f fd /\ mg "_law_moved" = some (.ref f) /\ Binds K fd ["_law_row","_law_shift_here"] []
 t_l_shift:∃ (f:Addr) (fd:FuncData),Fun K "_law_shift" "_law_shift" JR f fd /\ mg "_law_shift" = some (.ref f) /\ Binds K fd ["_law_pen_here","_law_row"] []
 t_l_web:∃ (f:Addr) (fd:FuncData),Fun K "_law_web" "_law_web" zAx f fd /\ mg "_law_web" = some (.ref f) /\ Binds K fd ["_law_pen_here"] []
 t_l_bounded:∃ (f:Addr) (fd:FuncData),Fun K "_law_bounded" "_law_bounded" jZ f fd /\ mg "_law_bounded" = some (.ref f) /\ Binds K fd ["_law_web_here"] []
 t_l_row_right:∃ (f:Addr) (fd:FuncData),Fun K "_law_row_right" "_law_row_right" x4 f fd /\ mg "_law_row_right" = some (.ref f) /\ Binds K fd ["_law_web_here","_law_some","_law_x"] []
 t_law:∃ (f:Addr) (fd:FuncData),Fun K "law" "law" zA2 f fd /\ mg "law" = some (.ref f) /\ Binds K fd ["_law_script"] []
 c_NO_OUT:∃ t:Addr,mg "NO_OUT" = some (.ref t) /\ CT0 K t
 i_MOST_INS:∃ tk:Tok,mg "MOST_INS" = some (.int 12 tk)
 i_MOST_OUTS:∃ tk:Tok,mg "MOST_OUTS" = some (.int 12 tk)
 i_FURTHEST:∃ tk:Tok,mg "FURTHEST" = some (.int 4000 tk)
local macro_rules | `(tactic| walk_at "WP")=>`(tactic| (first | (dsimp only [w_gLst,w_forE,w_compE,w_compZ,w_for3,zBQ,w_ixT,w_eqS,w_aug,w_ipI,w_dnK,w_maxD,w_sl,w_noPart,w_part,w_slL,w_var,w_C,w_op,w_un,w_rI,w_rI0,w_rU,w_eqI,w_neI,w_eqB,w_neB,w_seq,w_next,w_break,w_cont,w_ifS,w_ret,w_retN,w_drop,w_asg,xN,w_gSub,w_test,w_B,w_and,w_or,w_not,w_andV,w_orV,w_notV,w_if,w_call,w_nil,w_cons,w_CB,w_lst,w_tup,w_isN,w_notN,w_chain,w_for1,w_for2b,w_On2,w_forL,w_forT,w_forV,w_compL,w_compT,w_comp1,w_comp2b,zA1,w_bm,w_bm0,w_rBits,w_tyInt,w_gTupM,jj,zBj,w_dgS,w_dgI,w_sDP,w_dpS,w_dpI,w_dII,w_disp,zA4,pen_s,pen_a,pen_l,pen_len,pen_pa,pen_pl,qJd,w_append,jf,y8,List.set_cons_zero,List.set_cons_succ,qJs,V.int.injEq,V.bl.injEq,V.ref.injEq,V.str.injEq,exists_eq_left',exists_eq_left,zp,List.cons.injEq,and_true,true_and,exists_and_left,decide_eq_true_eq,Bool.not_eq_true',decide_eq_false_iff_not,Bool.not_true,Bool.not_false,w_ixM,w_ixU,w_ixL,w_setL,w_cxK,w_isI_ii,w_isI_ib,w_isI_bi,w_isI_bb,w_isI_ni,w_isI_nb,w_isI_si,w_isI_sb,sl_0,sl_1,sl_2,sl_3,sl_4,sl_5,sl_6,sl_7,sl_8,CPowB,w_shl1,at_0,at_1,at_2,at_3,ixN_0,ixN_1,ixN_2,zF,qJl,qJt,Int.reduceToNat,Int.reducePow,Int.reduceNeg,Int.reduceLT,Int.reduceLE,Int.reduceMod,Int.reduceMul,Int.reduceAdd,Int.reduceSub,Int.reduceDiv,Int.reduceEq,ite_true,ite_false,if_true,if_false,Bool.true_eq_false,Bool.false_eq_true,zq,xj,reduceCtorEq,false_and,and_false,not_false_eq_true,not_true_eq_false,exists_false,false_or,or_false,w_pop,w_extend,zBm,w_clear,w_cat,w_LZ,w_LR,w_forD,w_compZ2,w_sDPT,w_dpT,w_dIT,w_dgT,w_dnT,w_eqE,w_neE,w_revL,w_dget1,w_dget2]; try simp only [w_gLst,w_forE,w_compE,w_compZ,w_for3,zBQ,w_ixT,w_eqS,w_aug,w_ipI,w_dnK,w_maxD,w_sl,w_noPart,w_part,w_slL,w_var,w_C,w_op,w_un,w_rI,w_rI0,w_rU,w_eqI,w_neI,w_eqB,w_neB,w_seq,w_next,w_break,w_cont,w_ifS,w_ret,w_retN,w_drop,w_asg,xN,w_gSub,w_test,w_B,w_and,w_or,w_not,w_andV,w_orV,w_notV,w_if,w_call,w_nil,w_cons,w_CB,w_lst,w_tup,w_isN,w_notN,w_chain,w_for1,w_for2b,w_On2,w_forL,w_forT,w_forV,w_compL,w_compT,w_comp1,w_comp2b,zA1,w_bm,w_bm0,w_rBits,w_tyInt,w_gTupM,jj,zBj,w_dgS,w_dgI,w_sDP,w_dpS,w_dpI,w_dII,w_disp,zA4,pen_s,pen_a,pen_l,pen_len,pen_pa,pen_pl,qJd,w_append,jf,y8,List.set_cons_zero,List.set_cons_succ,qJs,V.int.injEq,V.bl.injEq,V.ref.injEq,V.str.injEq,exists_eq_left',exists_eq_left,zp,List.cons.injEq,and_true,true_and,exists_and_left,decide_eq_true_eq,Bool.not_eq_true',decide_eq_false_iff_not,Bool.not_true,Bool.not_false,w_ixM,w_ixU,w_ixL,w_setL,w_cxK,w_isI_ii,w_isI_ib,w_isI_bi,w_isI_bb,w_isI_ni,w_isI_nb,w_isI_si,w_isI_sb,sl_0,sl_1,sl_2,sl_3,sl_4,sl_5,sl_6,sl_7,sl_8,CPowB,w_shl1,at_0,at_1,at_2,at_3,ixN_0,ixN_1,ixN_2,zF,qJl,qJt,Int.reduceToNat,Int.reducePow,Int.reduceNeg,Int.reduceLT,Int.reduceLE,Int.reduceMod,Int.reduceMul,Int.reduceAdd,Int.reduceSub,Int.reduceDiv,Int.reduceEq,ite_true,ite_false,if_true,if_false,Bool.true_eq_false,Bool.false_eq_true,zq,xj,reduceCtorEq,false_and,and_false,not_false_eq_true,not_true_eq_false,exists_false,false_or,or_false,w_pop,w_extend,zBm,w_clear,w_cat,w_LZ,w_LR,w_forD,w_compZ2,w_sDPT,w_dpT,w_dIT,w_dgT,w_dnT,w_eqE,w_neE,w_revL,w_dget1,w_dget2]) | simp only [w_gLst,w_forE,w_compE,w_compZ,w_for3,zBQ,w_ixT,w_eqS,w_aug,w_ipI,w_dnK,w_maxD,w_sl,w_noPart,w_part,w_slL,w_var,w_C,w_op,w_un,w_rI,w_rI0,w_rU,w_eqI,w_neI,w_eqB,w_neB,w_seq,w_next,w_break,w_cont,w_ifS,w_ret,w_retN,w_drop,w_asg,xN,w_gSub,w_test,w_B,w_and,w_or,w_not,w_andV,w_orV,w_notV,w_if,w_call,w_nil,w_cons,w_CB,w_lst,w_tup,w_isN,w_notN,w_chain,w_for1,w_for2b,w_On2,w_forL,w_forT,w_forV,w_compL,w_compT,w_comp1,w_comp2b,zA1,w_bm,w_bm0,w_rBits,w_tyInt,w_gTupM,jj,zBj,w_dgS,w_dgI,w_sDP,w_dpS,w_dpI,w_dII,w_disp,zA4,pen_s,pen_a,pen_l,pen_len,pen_pa,pen_pl,qJd,w_append,jf,y8,List.set_cons_zero,List.set_cons_succ,qJs,V.int.injEq,V.bl.injEq,V.ref.injEq,V.str.injEq,exists_eq_left',exists_eq_left,zp,List.cons.injEq,and_true,true_and,exists_and_left,decide_eq_true_eq,Bool.not_eq_true',decide_eq_false_iff_not,Bool.not_true,Bool.not_false,w_ixM,w_ixU,w_ixL,w_setL,w_cxK,w_isI_ii,w_isI_ib,w_isI_bi,w_isI_bb,w_isI_ni,w_isI_nb,w_isI_si,w_isI_sb,sl_0,sl_1,sl_2,sl_3,sl_4,sl_5,sl_6,sl_7,sl_8,CPowB,w_shl1,at_0,at_1,at_2,at_3,ixN_0,ixN_1,ixN_2,zF,qJl,qJt,Int.reduceToNat,Int.reducePow,Int.reduceNeg,Int.reduceLT,Int.reduceLE,Int.reduceMod,Int.reduceMul,Int.reduceAdd,Int.reduceSub,Int.reduceDiv,Int.reduceEq,ite_true,ite_false,if_true,if_false,Bool.true_eq_false,Bool.false_eq_true,zq,xj,reduceCtorEq,false_and,and_false,not_false_eq_true,not_true_eq_false,exists_false,false_or,or_false,w_pop,w_extend,zBm,w_clear,w_cat,w_LZ,w_LR,w_forD,w_compZ2,w_sDPT,w_dpT,w_dIT,w_dgT,w_dnT,w_eqE,w_neE,w_revL,w_dget1,w_dget2]))
local macro_rules | `(tactic| walk_at "o") => `(tactic| first | exact .inl rfl | exact .inr rfl | assumption)
section
variable {P:Program}{w:World}{K:zA}{mg:Str -> Option Value}{base:Heap}
theorem ok_pen (T:Txt K mg):Cal P w K mg base 1 "_law_pen" ["_law_script"] (spPen K):=by
 have B:=T.bl
 refine yT T.t_l_pen sc_l_pen (fun vs H Q E h=>?_) (fun f cdv A outer s H vs Q E hr h=>?_)
 ·obtain ⟨a,rfl,_⟩:=h
  rfl
 obtain ⟨a,rfl,q⟩:=h
 refine ⟨_,(zM (zd (pe_disp (pps_cons xJ (pv 0) (pps_cons xJ zC (pps_cons xJ zC pps_nil))) rfl rfl (by simp) (by decide)))),?_⟩
 rw [show yJ ["_law_script"] [.ref a]=[some (.ref a)] from rfl]
 try walk_at "WP"
 intro p hp
 refine ⟨penKV a 0 0,rfl,(by show 3 <= 15; decide),?_⟩
 rw [pen_mk,upd_upd]
 exact q p _ hp (zO hp _) (pen_of (by decide) (by decide) (by decide))
theorem ok_drawB (T:Txt K mg):Cal P w K mg base 1 "_law_draw" ["_law_pen_here","_law_many"] (spDrawB K):=by
 have B:=T.bl
 refine yT T.t_l_draw sc_l_draw (fun vs H Q E h=>?_) (fun f cdv A outer s H vs Q E hr h=>?_)
 ·obtain ⟨p,a,ns,m,c,rfl,_⟩:=h
  rfl
 obtain ⟨p,a,ns,m,c_,rfl,hP,hS,h63,hc,h1,h2,q⟩:=h
 refine ⟨_,(zG (yh (zn op_gt (zBk (j7 hr) (pv 0) xJ (fun _ _=>rfl)) zC (yA _)) (zG (zf (i:=2) sc_l_draw.nd rfl (by walk_at "o") (zU jg (zBk (j7 hr) (pv 0) xJ (fun _ _=>rfl)) (pv 1)))
  (zG (zBl (j7 hr) (pv 0) xJ (zU Js (zBk (j7 hr) (pv 0) xJ (fun _ _=>rfl)) (pv 1)) rfl)
  (zM (zd (pv 2))))) yE)
  (zG (zf (i:=3) sc_l_draw.nd rfl (by walk_at "o") (zBk (j7 hr) (pv 0) xJ (fun _ _=>rfl)))
  (zG (zf (i:=4) sc_l_draw.nd rfl (by walk_at "o") (zBk (j7 hr) (pv 0) xJ (fun _ _=>rfl)))
  (zG (zBl (j7 hr) (pv 0) xJ (zU yp (pv 4) zC) rfl)
  (zG (zf (i:=5) sc_l_draw.nd rfl (by walk_at "o") (zU yp (zU yX zC (pv 4)) zC))
  (xO (yh (zn (op_neD hr) (pv 3) (xp zD) (yA _)) (zM (zf (i:=5) sc_l_draw.nd rfl (by walk_at "o") (zQ ix_list (pv 3) (zU jg (pv 4) (zw call_lenS rfl B.len xI (zB (pv 3) zD))) (fun _ _=>rfl)))) yE)
  (zG (yh (PW.pt (pw_and (zn op_lt (pv 4) (zw call_lenS rfl B.len xI (zB (pv 3) zD)) (yA _)) (zBD (zn op_ge (zw zAQ rfl B.abs bo_abs (zB (pv 5) zD)) (zU JC zC zC) (yA _))))) (zG (zBl (j7 hr) (pv 0) xJ (zU Js (zw zAQ rfl B.abs bo_abs (zB (pv 5) zD)) (pv 1)) rfl)
  (zM (zd (zU jg (zw zAQ rfl B.abs bo_abs (zB (pv 5) zD)) (pv 1))))) yE)
  (zG (zf (i:=6) sc_l_draw.nd rfl (by walk_at "o") (zU jg (zU yX (zU yp (zU yp (zU jg (pv 5) zC) (zU yX zC (pv 4))) zC) zC) zC))
  (zG (zf (i:=6) sc_l_draw.nd rfl (by walk_at "o") (zU jg (zU yp (zU yp (zU yX (pv 6) (pv 6)) (zU yX zC (pv 6))) (pv 4)) zC))
  (zM (zd (zU jg (zU Js (pv 6) zC) (pv 1))))))))))))),?_⟩
 rw [show yJ ["_law_pen_here","_law_many","_law_digit","_law_script","_law_at","_law_cell","_law_number"] [.ref p,.int m]=[some (.ref p),some (.int m),none,none,none,none,none] from rfl]
 obtain ⟨t,l,hH,ht0,htc,hl⟩:=id hP
 (iterate 5 ((try (walk_at "WP")); (try (simp only [hH,qJs,qJt,qJl,qJd,exists_eq_left',exists_eq_left])))); (try (walk_at "WP"))
 refine xS (fun c=>?_) (fun c=>?_)
 ·exact ⟨by omega,divBig (by omega) h2,q _ _ (modq (by omega)).1 (modq (by omega)).2 (pen_of ht0 (by omega) (divq hl (by omega))) (hS.pen hP (Chg.upd _)) (Chg.upd _)⟩
 refine ⟨mul_l (by decide) (by decide),?_⟩
 have hS1:=hS.pen hP (Chg.upd (.dK (penKV a (t+1) l)))
 have hP1:Pen (upd H p (.dK (penKV a (t+1) l))) p a (c_+1):=pen_of (by omega) (by omega) hl
 have C1:Chg p H (upd H p (.dK (penKV a (t+1) l))):=Chg.upd _
 have hp1:(upd H p (.dK (penKV a (t+1) l))) p=some (.dK (penKV a (t+1) l)):=zF
 generalize upd H p (.dK (penKV a (t+1) l))=H1 at *
 refine jA (fun σ H2=>∃ (cell:Int) (o6:Option V),σ = [some (.ref p),some (.int m),none,some (.ref a),some (.int t),some (.int cell),o6] /\ o6=none /\ Same H1 H2) (fun N hN=>?_) ?_
 ·try walk_at "WP"
  intro e he
  have sm:=zO he (.lst [])
  refine neLI (ms:=[]) (hS1.same sm).sq (SqL.of zF) ?_
  try walk_at "WP"
  generalize upd H1 e (.lst [])=H2 at sm ⊢
  refine xS (fun z=>?_) (fun z=>?_)
  ·have hne:0 < ns.length:=xo.mpr z
   refine ⟨_,(hS1.same sm).sq,by rw [qC]; omega,_,(hS1.same sm).sq,?_⟩
   rw [qC]
   have b:=modq (g:=t) (m:=(ns.length:Int)) (by omega)
   obtain ⟨v,hv,_⟩:=atI_int (ns:=ns) b.1 b.2
   exact ⟨_,hv,hN _ _ ⟨v,_,rfl,rfl,sm⟩⟩
  ·exact hN _ _ ⟨_,_,rfl,rfl,sm⟩
 ·rintro σ H2 ⟨cell,o6,rfl,rfl,sm⟩
  have hS2:=hS1.same sm
  have hP2:=hP1.same sm
  have hp2:=sm _ _ hp1
  have C2:Chg p H H2:=C1.trans sm.chg
  (iterate 5 ((try (walk_at "WP")); (try (simp only [hp2,qJs,qJt,qJl,qJd,exists_eq_left',exists_eq_left])))); (try (walk_at "WP"))
  refine ⟨_,hS2.sq,?_⟩
  have last:IntMulOk 104729 t /\ IntMulOk (cell % 2147483629+104729 * t+3) 48271 /\ IntMulOk ((cell % 2147483629+104729 * t+3) * 48271 % 2147483647) ((cell % 2147483629+104729 * t+3) * 48271 % 2147483647) /\ IntMulOk 69621 ((cell % 2147483629+104729 * t+3) * 48271 % 2147483647) /\
    CDivB (((cell % 2147483629+104729 * t+3) * 48271 % 2147483647 * ((cell % 2147483629+104729 * t+3) * 48271 % 2147483647)+69621 * ((cell % 2147483629+104729 * t+3) * 48271 % 2147483647)+t) % 2147483587) 8 /\ 0 < m /\
    Q (V.int (((cell % 2147483629+104729 * t+3) * 48271 % 2147483647 * ((cell % 2147483629+104729 * t+3) * 48271 % 2147483647)+69621 * ((cell % 2147483629+104729 * t+3) * 48271 % 2147483647)+t) % 2147483587 / 8 % m)) H2 :=
   ⟨mul_l (by decide) (by decide),mul_r (by decide) (by decide),mul_l (by omega) (by omega),mul_l (by decide) (by decide),divB (by decide) (by decide),by omega,q _ _ (modq (by omega)).1 (modq (by omega)).2 hP2 hS2 C2⟩
  refine xS (fun _=>?_) (fun _=>last)
  refine xS (fun _=>?_) (fun _=>last)
  have h0:0 <= (if cell < 0 then -cell else cell):=by split <;> omega
  refine ⟨divBig (by omega) h2,by omega,?_⟩
  exact q _ _ (modq (by omega)).1 (modq (by omega)).2 (pen_of (by omega) (by omega) (divq h0 (by omega))) (hS2.pen hP2 (Chg.upd _)) (C2.trans (Chg.upd _))
theorem ok_draw (T:Txt K mg):Cal P w K mg base 1 "_law_draw" ["_law_pen_here","_law_many"] (spDraw K):=(ok_drawB (P:=P) (w:=w) (base:=base) T).imp fun vs H Q E h=>by
 obtain ⟨p,a,ns,m,c,e,h1,h2,h3,h4,h5,h6,q⟩:=h
 exact ⟨p,a,ns,m,c,e,h1,h2,h3,h4,h5,Nat.lt_trans (by omega:m.natAbs < 2 ^ 64) (yO (by decide) (by decide)),q⟩
end
section
variable {P:Program}{w:World}{K:zA}{mg:Str -> Option Value}{base:Heap}
theorem ok_first (T:Txt K mg):Cal P w K mg base 1 "first_sign" ["number"] spFirst:=by
 have B:=T.bl
 refine yT T.t_first_sign sc_first_sign (fun vs H Q E h=>?_) (fun f cdv A outer s H vs Q E hr h=>?_)
 ·obtain ⟨n,rfl,_⟩:=h
  rfl
 obtain ⟨n,rfl,q⟩:=h
 refine ⟨_,(zG (yh (zn xm (zU op_and (pv 0) zC) zC (yA _)) (zM (zd zC)) yE)
  (zM (zd (zU xK zC (zU op_and (pv 0) zC))))),?_⟩
 rw [show yJ ["number"] [.int n]=[some (.int n)] from rfl]
 (iterate 5 ((try (walk_at "WP")); (try (simp only [and1,and3,qJs,qJt,qJl,qJd,exists_eq_left',exists_eq_left])))); (try (walk_at "WP"))
 unfold fs at q
 refine xS (fun c=>?_) (fun c=>?_)
 ·rw [if_pos c] at q
  exact q
 ·rw [if_neg c] at q
  exact q
theorem ok_signs (T:Txt K mg):Cal P w K mg base 2 "signs" ["number"] spSigns:=by
 have B:=T.bl
 have C_first_sign:=ok_first (P:=P) (w:=w) (base:=base) T
 refine yT T.t_signs sc_signs (fun vs H Q E h=>?_) (fun f cdv A outer s H vs Q E hr h=>?_)
 ·obtain ⟨n,rfl,_⟩:=h
  rfl
 obtain ⟨n,rfl,hb,q⟩:=h
 refine ⟨_,(zG (zf (i:=1) sc_signs.nd rfl (by walk_at "o") (xp zD))
  (zG (zf (i:=2) sc_signs.nd rfl (by walk_at "o") (pv 0))
  (zG (ps_whl PassesOwn.never (zn zAN (pv 2) zC (yA _)) (zG (zf (i:=3) sc_signs.nd rfl (by walk_at "o") (zP C_first_sign hr rfl (zB (pv 2) zD)))
  (zG (xZ (j6 zm zk zj yd (pv 1) (zB (pv 3) zD)))
  (zM (zf (i:=2) sc_signs.nd rfl (by walk_at "o") (zU op_shr (zU xK (pv 2) (pv 3)) zC))))))
  (zM (zd (pv 1)))))),?_⟩
 rw [show yJ ["number","digits","rest","digit"] [.int n]=[some (.int n),none,none,none] from rfl]
 try walk_at "WP"
 intro r hr0
 have hlen:=zAE 5000 n hb
 refine whl (fun m σ H'=>∃ (rest:Int) (ds:List Int) (o:Option V),m=rest.natAbs /\ σ = [some (.int n),some (.ref r),some (.int rest),o] /\ H'=upd H r (.lst (ds.map V.int)) /\ ds ++ naf rest=naf n) n.natAbs ⟨n,[],none,rfl,rfl,rfl,rfl⟩ ?_
 rintro m σ H' N ⟨rest,ds,o,rfl,rfl,rfl,e⟩ hN
 try walk_at "WP"
 refine xS (fun c=>?_) (fun c=>?_)
 ·refine ⟨rest,rfl,?_⟩
  have hd:ds.length+1 <= (naf n).length:=by rw [← e,jC c,qF,zq]; omega
  have hsz:(ds.map V.int).length < sizeLine:=by
   rw [qC]
   exact qJ (by omega:ds.length < 10000) (by decide)
  try walk_at "WP"
  refine ⟨xb zF,hsz,hN _ _ _ (fs_lt c) ⟨_,ds ++ [fs rest],some (.int (fs rest)),rfl,by simp,?_,?_⟩⟩
  ·rw [upd_upd,yC]
   rfl
  ·rw [zr,← e,jC c]
   rfl
 ·have z:rest=0:=Decidable.not_not.mp c
  subst z
  rw [Jv,zp] at e
  rw [e]
  exact q r hr0
end
section
variable {P:Program}{w:World}{K:zA}{mg:Str -> Option Value}{base:Heap}
theorem ok_core (T:Txt K mg):Cal P w K mg base 1 "core" ["number"] spCoreT:=by
 have B:=T.bl
 refine yT T.t_core sc_core (fun vs H Q E h=>?_) (fun f cdv A outer s H vs Q E hr h=>?_)
 ·obtain ⟨n,rfl,_⟩:=h
  rfl
 obtain ⟨n,rfl,q0⟩:=h
 have q:∀ p,H p=none -> Q (.ref p) (upd H p (.tup ((zAO n).map V.int))):=fun p hp=>by
  rw [core_three]
  exact q0 p hp
 refine ⟨_,(zG (yh (zn xm (pv 0) zC (yA _)) (zM (zd (yV (zB zC (zB zC (zB zC zD)))))) yE)
  (zG (zf (i:=1) sc_core.nd rfl (by walk_at "o") (zw zAQ rfl B.abs bo_abs (zB (pv 0) zD)))
  (zG (zf (i:=2) sc_core.nd rfl (by walk_at "o") (zU xK (pe_bm0 PySem.F.plainAttrs_int PyProof.Rows.slot_int_bit_length PyProof.Rows.type_int_bit_length mt_bits (zU op_and (pv 1) (zAz Jh (pv 1)))) zC))
  (zG (zf (i:=3) sc_core.nd rfl (by walk_at "o") (Jr (zn op_gt (pv 0) zC (yA _)) zC (zAz Jh zC)))
  (zM (zd (yV (zB (zU op_shr (pv 1) (pv 2)) (zB (pv 2) (zB (pv 3) zD)))))))))),?_⟩
 rw [show yJ ["number","size","shift","sign"] [.int n]=[some (.int n),none,none,none] from rfl]
 try walk_at "WP"
 refine xS (fun c=>?_) (fun c=>?_)
 ·intro p hp
  have:=q p hp
  rw [show zAO n=[0,0,0] by unfold zAO; rw [if_pos c]] at this
  exact this
 ·obtain ⟨m,k,e1,e2⟩:=zBi c
  have el:lowK n=(k:Int):=by
   unfold zAO at e2
   rw [if_neg c] at e2
   simp only [List.cons.injEq] at e2
   exact e2.2.1
  have e3:zAO n=[absI n / 2 ^ (lowK n).toNat,lowK n,if 0 < n then 1 else -1]:=by unfold zAO; rw [if_neg c]
  rw [e3] at q
  have ge:0 <= lowK n:=by omega
  refine xS (fun d=>?_) (fun d=>?_)
  ·rw [if_pos d] at q
   exact ⟨ge,q⟩
  ·rw [if_neg d] at q
   exact ⟨ge,q⟩
end
section
variable {P:Program}{w:World}{K:zA}{mg:Str -> Option Value}{base:Heap}
theorem ok_deedof (T:Txt K mg):Cal P w K mg base 1 "deed_of" ["one","other"] spDeedOf:=by
 have B:=T.bl
 refine yT T.t_deed_of zCD (fun vs H Q E h=>?_) (fun f cdv A outer s H vs Q E hr h=>?_)
 ·obtain ⟨x,y,a,b,t,u,g,h,rfl,_⟩:=h
  rfl
 obtain ⟨x,y,a,b,t,u,g,h,rfl,hx,hy,hg,hh,q⟩:=h
 refine ⟨_,(zG (yh (zn xm (zQ yL (pv 0) zC (fun _ _=>rfl)) (zQ yL (pv 1) zC (fun _ _=>rfl)) (yA _)) (zM (zd (yV (zB xJ (zB (zQ yL (pv 0) zC (fun _ _=>rfl)) (zB (zQ yL (pv 0) zC (fun _ _=>rfl)) (zB (zQ yL (pv 1) zC (fun _ _=>rfl)) (zB (zQ yL (pv 1) zC (fun _ _=>rfl)) zD)))))))) yE)
  (zG (yh (zn xm (zQ yL (pv 0) zC (fun _ _=>rfl)) zC (yA _)) (zM (zd (yV (zB xJ (zB (zQ yL (pv 0) zC (fun _ _=>rfl)) (zB (zQ yL (pv 0) zC (fun _ _=>rfl)) (zB (zQ yL (pv 1) zC (fun _ _=>rfl)) (zB (zQ yL (pv 1) zC (fun _ _=>rfl)) zD)))))))) yE)
  (zM (zd (yV (zB xJ (zB (zQ yL (pv 1) zC (fun _ _=>rfl)) (zB (zQ yL (pv 1) zC (fun _ _=>rfl)) (zB (zQ yL (pv 0) zC (fun _ _=>rfl)) (zB (zQ yL (pv 0) zC (fun _ _=>rfl)) zD)))))))))),?_⟩
 rw [show yJ ["one","other"] [.ref x,.ref y]=[some (.ref x),some (.ref y)] from rfl]
 (iterate 5 ((try (walk_at "WP")); (try (simp only [hx,hy,qJs,qJt,qJl,qJd,exists_eq_left',exists_eq_left])))); (try (walk_at "WP"))
 unfold xh at q
 rcases hg with e | e <;> rcases hh with e2 | e2 <;> subst e <;> subst e2
 ·try walk_at "WP"
  exact q
 ·try walk_at "WP"
  exact q
 ·try walk_at "WP"
  exact q
 ·try walk_at "WP"
  exact q
theorem ok_uc (T:Txt K mg):Cal P w K mg base 2 "unlike_cores" ["numbers"] spUC:=by
 have B:=T.bl
 have C_core:=ok_core (P:=P) (w:=w) (base:=base) T
 refine yT T.t_unlike_cores sc_unlike_cores (fun vs H Q E h=>?_) (fun f cdv A outer s H vs Q E hr h=>?_)
 ·obtain ⟨a,xs,rfl,_⟩:=h
  rfl
 obtain ⟨a,xs,rfl,ha,hl,q⟩:=h
 refine ⟨_,(zG (zf (i:=1) sc_unlike_cores.nd rfl (by walk_at "o") pe_dnewK)
  (zG (xR PassesOwn.never rfl (yc (pv 0)) (zS (i:=2) sc_unlike_cores.nd rfl (by walk_at "o")) (zM (yh (zn zAN (pv 2) zC (yA _)) (zM (zBl (j7 hr) (pv 1) (zQ yL (zP C_core hr rfl (zB (pv 2) zD)) zC (fun _ _=>rfl)) zAM rfl)) yE)))
  (zM (zd (xc (zB5 rfl) rfl B.list Je (zB (pv 1) zD)))))),?_⟩
 rw [show yJ ["numbers","found","number"] [.ref a]=[some (.ref a),none,none] from rfl]
 try walk_at "WP"
 intro d hd0
 have smd:=zO hd0 (.dK [])
 have had:=smd _ _ ha
 refine ⟨⟨_,SqL.of had⟩,?_⟩
 refine forL (xs:=xs.map V.int) (fun i σ H'=>∃ o,σ = [some (.ref a),some (.ref d),o] /\ H' d=some (.dK (ukv (uc (xs.take i)))) /\ Same H H') ⟨none,rfl,by rw [zF]; rfl,smd⟩ (fun i σ H' _ z=>by obtain ⟨_,_,_,s⟩:=z; exact SqL.of (s _ _ ha)) ?_ ?_
 ·rintro i x σ H' N hx ⟨o,rfl,hd,SH⟩ hN
  rw [qI] at hx
  cases hn:xs[i]? with
  | none=>rw [hn] at hx; cases hx
  | some n =>
   rw [hn] at hx
   cases hx
   have htk:xs.take (i+1)=xs.take i ++ [n]:=by rw [za,hn]; rfl
   have hi:i < xs.length:=(qB.mp hn).1
   rw [htk] at hN
   simp only [zBM] at hN
   try walk_at "WP"
   refine xS (fun c=>?_) (fun c=>?_)
   ·refine ⟨n,rfl,fun p hp=>?_⟩
    have smp:=zO hp (.tup [V.int (coreN n),V.int (shN n),V.int (sgN n)])
    have hdp:=smp _ _ hd
    (iterate 5 ((try (walk_at "WP")); (try (simp only [hdp,qJs,qJt,qJl,qJd,exists_eq_left',exists_eq_left])))); (try (walk_at "WP"))
    refine ⟨by unfold ukv; rw [qC]; exact zAW (yB (uc_len _) (by rw [qO]; omega)),?_⟩
    rw [ukv_put]
    refine hN _ _ ⟨_,rfl,?_,same_upd hd0 (SH.trans smp)⟩
    rw [zF]
    unfold ucs
    rw [if_neg c]
   ·refine hN _ _ ⟨_,rfl,?_,SH⟩
    unfold ucs
    rw [if_pos (Decidable.not_not.mp c)]
    exact hd
 ·rintro σ H' ⟨o,rfl,hd,SH⟩
  try walk_at "WP"
  rw [qC,zt] at hd
  refine ⟨d,_,rfl,hd,fun l hl=>?_⟩
  rw [ukv_keys]
  exact q l _ (SH.free hl) (SH.trans (zO hl _)) zF
end
section
variable {P:Program}{w:World}{K:zA}{mg:Str -> Option Value}{base:Heap}
theorem ok_chain (T:Txt K mg):Cal P w K mg base 3 "add_chain" ["deeds","odd"] spChain:=by
 have B:=T.bl
 have C_signs:=ok_signs (P:=P) (w:=w) (base:=base) T
 have C_deed_of:=(ok_deedof (P:=P) (w:=w) (base:=base) T).mono (k:=2) (by decide)
 refine yT T.t_add_chain sc_add_chain (fun vs H Q E h=>?_) (fun f cdv A outer s H vs Q E hr h=>?_)
 ·obtain ⟨dl,us,ds,odd,rfl,_⟩:=h
  rfl
 obtain ⟨dl,us,ds,odd,rfl,hdl,hds,hok,hl3,ho0,ho2,hob,q⟩:=h
 refine ⟨_,(zG (zf (i:=2) sc_add_chain.nd rfl (by walk_at "o") zC)
  (zG (zf (i:=3) sc_add_chain.nd rfl (by walk_at "o") zC)
  (zG (xR PassesOwn.never rfl (pi_rev rfl B.reversed (zB (pe_slice sl_list (zP C_signs hr rfl (zB (pv 1) zD)) po_none (po_some (zAz Jh zC))) zD)) (zS (i:=4) sc_add_chain.nd rfl (by walk_at "o")) (zG (ps_aug (i:=3) sc_add_chain.nd rfl (by walk_at "o") zC ip_add)
  (zM (yh (zn zAN (pv 4) zC (yA _)) (zG (xZ (j6 zm zk zj yd (pv 0) (zB (zP C_deed_of hr rfl (zB (yV (zB (pv 2) (zB (pv 3) (zB zC zD)))) (zB (yV (zB zC (zB zC (zB (pv 4) zD)))) zD))) zD)))
  (zG (zf (i:=2) sc_add_chain.nd rfl (by walk_at "o") (zw ye rfl B.len xI (zB (pv 0) zD)))
  (zM (zf (i:=3) sc_add_chain.nd rfl (by walk_at "o") zC)))) yE))))
  (zM (zd (pv 2)))))),?_⟩
 rw [show yJ ["deeds","odd","made","gap","digit"] [.ref dl,.int odd]=[some (.ref dl),some (.int odd),none,none,none] from rfl]
 try walk_at "WP"
 refine ⟨odd,rfl,big_of hob (by decide),fun r hr=>?_⟩
 have sm:=zO hr (.lst ((naf odd).map V.int))
 have hr1:upd H r (.lst ((naf odd).map V.int)) r=some (.lst ((naf odd).map V.int)):=zF
 generalize upd H r (.lst ((naf odd).map V.int))=H1 at sm hr1 ⊢
 try walk_at "WP"
 refine ⟨_,SqL.of hr1,fun sl hsl=>?_⟩
 rw [cut_last]
 have sm2:=zO hsl (.lst ((naf odd).dropLast.map V.int))
 have hs1:upd H1 sl (.lst ((naf odd).dropLast.map V.int)) sl=some (.lst ((naf odd).dropLast.map V.int)):=zF
 generalize upd H1 sl (.lst ((naf odd).dropLast.map V.int))=H2 at sm2 hs1 ⊢
 have S2:Same H H2:=sm.trans sm2
 have hsl0:H sl=none:=sm.free hsl
 have hsd:sl ≠ dl:=(ne_of_none hdl hsl0).symm
 have hlen:(naf odd).dropLast.length <= 200:=by
  have:=zAE 200 odd hob
  rw [List.length_dropLast]
  omega
 refine ⟨_,SqL.of hs1,?_⟩
 refine forV (xs:=(naf odd).dropLast.map V.int) (fun i σ H'=>∃ (made gap:Nat) (o:Option V) (us':List V) (new:List Dd),σ = [some (.ref dl),some (.int odd),some (.int made),some (.int gap),o] /\ Chg dl H H' /\ H' sl=some (.lst ((naf odd).dropLast.map V.int)) /\ H' dl=some (.lst us') /\ HDs H' us' (ds ++ new) /\ DOk (ds ++ new) /\
   new.length=wt ((naf odd).dropLast.reverse.take i) /\ gap <= i /\ ∃ n,(ev (ds ++ new))[made]? = some n /\ n * 2 ^ gap=topV odd i)
  ⟨0,0,none,us,[],rfl,S2.chg,hs1,S2 _ _ hdl,by rw [zp]; exact hds.same S2,by rw [zp]; exact hok,rfl,zE _,1,?_,?_⟩ (fun i σ H' _ z=>by obtain ⟨_,_,_,_,_,_,_,h,_⟩:=z; exact SqL.of h) ?_ ?_
 ·exact zAZ [] (ds ++ []) (k:=0) rfl
 ·rw [topV_zero ho0]; rfl
 ·rintro i x σ H' N hx ⟨made,gap,o,us',new,rfl,CC,hs,hd,hh,ok,hnl,hgi,n,hn,hT⟩ hN
  rw [← List.map_reverse,qI] at hx
  cases hg:(naf odd).dropLast.reverse[i]? with
  | none=>rw [hg] at hx; cases hx
  | some g =>
   rw [hg] at hx
   cases hx
   have hi:i < (naf odd).dropLast.length:=by
    have:=(qB.mp hg).1
    rwa [xn] at this
   have hstep:=topV_step ho0 hg
   have hgd:g = -1 \/ g=0 \/ g=1:=naf_dig odd g (List.dropLast_subset _ (JS.mp (qE hg)))
   have hml:made <= (ds ++ new).length:=by
    have:=(qB.mp hn).1
    rw [JV] at this
    omega
   have hwt:=wt_take_step hg
   have hnw:new.length <= 200:=by
    rw [hnl]
    exact zZ (List.length_filter_le _ _) (by rw [qO,xn]; omega)
   try walk_at "WP"
   refine xS (fun c=>?_) (fun c=>?_)
   ·have hg1:g=1 \/ g = -1:=by omega
    refine ⟨xb hd,fun p1 hp1=>?_⟩
    have s1:=zO hp1 (.tup [V.int made,V.int (gap+1),V.int 1])
    intro p2 hp2
    have s2:=zO hp2 (.tup [V.int 0,V.int 0,V.int g])
    refine ⟨p1,p2,made,0,0,gap+1,1,g,rfl,s2 _ _ zF,zF,.inl rfl,hg1,fun x hx=>?_⟩
    rw [deed_chain hg1]
    have s3:=zO hx (.tup (dTup ⟨g,made,gap+1,0,0⟩))
    have S3:=(s1.trans s2).trans s3
    have hd3:=S3 _ _ hd
    have hx3:upd (upd (upd H' p1 (.tup [V.int made,V.int (gap+1),V.int 1])) p2 (.tup [V.int 0,V.int 0,V.int g])) x (.tup (dTup ⟨g,made,gap+1,0,0⟩)) x=some (.tup (dTup ⟨g,made,gap+1,0,0⟩)):=zF
    have hs3:=S3 _ _ hs
    generalize upd (upd (upd H' p1 (.tup [V.int made,V.int (gap+1),V.int 1])) p2 (.tup [V.int 0,V.int 0,V.int g])) x (.tup (dTup ⟨g,made,gap+1,0,0⟩))=H3 at S3 hd3 hx3 hs3 ⊢
    try walk_at "WP"
    refine ⟨_,hd3,by rw [hh.len,qF]; exact zAW (by omega),?_⟩
    have hlast:upd H3 dl (.lst (us' ++ [V.ref x])) dl=some (.lst (us' ++ [V.ref x])):=zF
    have C4:Chg dl H (upd H3 dl (.lst (us' ++ [V.ref x]))):=(CC.trans S3.chg).trans (Chg.upd _)
    have hh4:HDs (upd H3 dl (.lst (us' ++ [V.ref x]))) (us' ++ [V.ref x]) (ds ++ (new ++ [⟨g,made,gap+1,0,0⟩])):=by
     rw [← zr]
     exact ((hh.same S3).snoc hx3).chgL hd3 (Chg.upd _)
    have hs4:upd H3 dl (.lst (us' ++ [V.ref x])) sl=some (.lst ((naf odd).dropLast.map V.int)):=by
     rw [yH hsd]; exact hs3
    generalize upd H3 dl (.lst (us' ++ [V.ref x]))=H4 at hlast C4 hh4 hs4 ⊢
    (iterate 5 ((try (walk_at "WP")); (try (simp only [hlast,qJs,qJt,qJl,qJd,exists_eq_left',exists_eq_left])))); (try (walk_at "WP"))
    have hdn:=chain_step (ds:=ds ++ new) (made:=made) (gap:=gap) (T:=topV odd i) (d:=g) (zAZ [] (ds ++ new) (k:=0) rfl) hn hT
    have hb1:(2 * topV odd i+g).natAbs < 2 ^ 300:=by
     rw [← hstep]
     exact qJ (topV_bound odd (i+1)) (qN (by decide) (by omega))
    have ok4:DOk (ds ++ (new ++ [⟨g,made,gap+1,0,0⟩])):=by
     rw [← zr]
     exact ok.snoc hml (yM _) (by show gap+1 <= 300; omega) (yM _) hg1 (by rw [hdn]; exact hb1)
    refine hN _ _ ⟨(us' ++ [V.ref x]).length,0,_,us' ++ [V.ref x],new ++ [⟨g,made,gap+1,0,0⟩],rfl,C4,hs4,hlast,hh4,ok4,?_,yM _,topV odd (i+1),?_,by rw [yt,yj]⟩
    ·rw [qF,hnl,hwt,if_neg c]
     rfl
    ·rw [← zr,zAH,hdn,hstep,hh4.len,← zr,qF,qG (by rw [JV]; exact zE _),JV]
     show [2 * topV odd i+g][(ds ++ new).length+1 - ((ds ++ new).length+1)]? = _
     rw [ya]
     rfl
   ·have c0:=Decidable.not_not.mp c
    refine hN _ _ ⟨made,gap+1,_,us',new,rfl,CC,hs,hd,hh,ok,?_,by omega,n,hn,?_⟩
    ·rw [hnl,hwt,if_pos c0]
     rfl
    ·rw [hstep,c0,Int.add_zero,← hT,yo,← zW,yF (n * 2 ^ gap) 2]
 ·rintro σ H' ⟨made,gap,o,us',new,rfl,CC,hs,hd,hh,ok,hnl,hgi,n,hn,hT⟩
  try walk_at "WP"
  rw [qC] at hT hnl
  rw [topV_end ho0] at hT
  obtain ⟨_,e⟩:=chain_end hT ho2
  refine q made us' new H' CC hd hh ok ?_ (by rw [← e]; exact hn)
  rw [hnl,xF (by rw [xn]; exact zE _)]
  exact wt_drop ho0
end
section
variable {P:Program}{w:World}{K:zA}{mg:Str -> Option Value}{base:Heap}
theorem ok_moved (T:Txt K mg):Cal P w K mg base 1 "moved" ["part","shift","sign"] (spMovedP K):=by
 have B:=T.bl
 obtain ⟨cst_NO_OUT,mg_NO_OUT,hcst⟩:=T.c_NO_OUT
 refine yT T.t_moved sc_moved (fun vs H Q E h=>?_) (fun f cdv A outer s H vs Q E hr h=>?_)
 ·obtain ⟨p,a,b,c,s,g,rfl,_⟩:=h
  rfl
 obtain ⟨p,a,b,c,sh,g,rfl,hp,hz,c1,c2,q⟩:=h
 refine ⟨_,(zG (yh (zn xm (zU yX (zQ yL (pv 0) zC (fun _ _=>rfl)) (pv 2)) zC (yA _)) (zM (zd (Jd (v:=.ref cst_NO_OUT) rfl mg_NO_OUT rfl))) yE)
  (zM (zd (yV (zB (zQ yL (pv 0) zC (fun _ _=>rfl)) (zB (zU yp (zQ yL (pv 0) zC (fun _ _=>rfl)) (pv 1)) (zB (zU yX (zQ yL (pv 0) zC (fun _ _=>rfl)) (pv 2)) zD))))))),?_⟩
 rw [show yJ ["part","shift","sign"] [.ref p,.int sh,.int g]=[some (.ref p),some (.int sh),some (.int g)] from rfl]
 (iterate 5 ((try (walk_at "WP")); (try (simp only [hp,qJs,qJt,qJl,qJd,exists_eq_left',exists_eq_left])))); (try (walk_at "WP"))
 refine ⟨mul_l c1 c2,?_⟩
 rw [if_neg hz]
 exact ⟨mul_l c1 c2,q⟩
theorem ok_outfor (T:Txt K mg):Cal P w K mg base 2 "out_for" ["number","parts"] (spOutP K):=by
 have B:=T.bl
 obtain ⟨cst_NO_OUT,mg_NO_OUT,hcst⟩:=T.c_NO_OUT
 have C_core:=ok_core (P:=P) (w:=w) (base:=base) T
 have C_moved:=ok_moved (P:=P) (w:=w) (base:=base) T
 refine yT T.t_out_for sc_out_for (fun vs H Q E h=>?_) (fun f cdv A outer s H vs Q E hr h=>?_)
 ·obtain ⟨n,t,kvs,fd,ns,rfl,_⟩:=h
  rfl
 obtain ⟨n,t,kvs,fd,ns,rfl,ht,hD,hb,hk,q⟩:=h
 refine ⟨_,(zG (yh (zn xm (pv 0) zC (yA _)) (zM (zd (Jd (v:=.ref cst_NO_OUT) rfl mg_NO_OUT rfl))) yE)
  (zG (zf (i:=2) sc_out_for.nd rfl (by walk_at "o") (zP C_core hr rfl (zB (pv 0) zD)))
  (zM (zd (zP C_moved hr rfl (zB (zBk (j7 hr) (pv 1) (zQ yL (pv 2) zC (fun _ _=>rfl)) (fun _ _=>rfl)) (zB (zQ yL (pv 2) zC (fun _ _=>rfl)) (zB (zQ yL (pv 2) zC (fun _ _=>rfl)) zD)))))))),?_⟩
 rw [show yJ ["number","parts","found"] [.int n,.ref t]=[some (.int n),some (.ref t),none] from rfl]
 try walk_at "WP"
 refine xS (fun c=>?_) (fun c=>?_)
 ·exact q _ 0 0 0 _ (CT0.sq hcst H) ⟨.inl ⟨c,rfl,rfl,rfl⟩⟩ (fun z=>absurd c z) (fun _ _ z=>z)
 ·refine ⟨n,rfl,fun p hp=>?_⟩
  have smp:=zO hp (.tup [V.int (coreN n),V.int (shN n),V.int (sgN n)])
  have htp:=smp _ _ ht
  have hDp:=hD.same smp
  have hpp:upd H p (.tup [V.int (coreN n),V.int (shN n),V.int (sgN n)]) p=some (.tup [V.int (coreN n),V.int (shN n),V.int (sgN n)]):=zF
  generalize upd H p (.tup [V.int (coreN n),V.int (shN n),V.int (sgN n)])=H1 at smp htp hpp hDp ⊢
  obtain ⟨k,hk1,hk2⟩:=hk c
  obtain ⟨c1,c2,j,c3,c4,c5,c6,c7,c8⟩:=xA c
  obtain ⟨x,hx1,hx2⟩:=hDp.at_ _ _ hk1
  (iterate 5 ((try (walk_at "WP")); (try (simp only [hpp,htp,qJs,qJt,qJl,qJd,exists_eq_left',exists_eq_left])))); (try (walk_at "WP"))
  refine ⟨_,hx1,x,_,_,_,_,_,rfl,hx2,?_,by decide,by decide,fun r hr=>?_⟩
  ·rw [yN]
   rcases c5 with z | z <;> rw [z] <;> decide
  rw [Int.zero_add,yN]
  refine q r k (shN n) (sgN n) _ (SqT.of zF) ⟨.inr ⟨c,k,j,coreN n,rfl,c3,?_,c5,hk2,c4⟩⟩ (fun _=>hk1) (smp.trans (zO hr _))
  have:2 ^ j < 2 ^ 200:=yB c7 hb
  have:=(Nat.pow_lt_pow_iff_right (by decide:1 < 2)).mp this
  omega
end
section
variable {P:Program}{w:World}{K:zA}{mg:Str -> Option Value}{base:Heap}
theorem ok_by (T:Txt K mg):Cal P w K mg base 4 "by_signs" ["numbers"] (spBy K):=by
 have B:=T.bl
 have C_unlike_cores:=(ok_uc (P:=P) (w:=w) (base:=base) T).mono (k:=3) (by decide)
 have C_add_chain:=ok_chain (P:=P) (w:=w) (base:=base) T
 have C_out_for:=(ok_outfor (P:=P) (w:=w) (base:=base) T).mono (k:=3) (by decide)
 refine yT T.t_by_signs sc_by_signs (fun vs H Q E h=>?_) (fun f cdv A outer s H vs Q E hr h=>?_)
 ·obtain ⟨a,xs,rfl,_⟩:=h
  rfl
 obtain ⟨a,xs,rfl,ha,hl,hxb,q⟩:=h
 have hub:∀ c ∈ uc xs,c.natAbs < 2 ^ 200 /\ 0 < c /\ c % 2=1:=fun c hc=>by
  obtain ⟨n,hn,h0,rfl⟩:=uc_of xs c hc
  obtain ⟨c1,c2,j,c3,c4,c5,c6,c7,c8⟩:=xA h0
  exact ⟨yB c6 (hxb n hn),c1,c2⟩
 have hul:(uc xs).length <= 6:=zZ (uc_len xs) hl
 refine ⟨_,(zG (zf (i:=1) sc_by_signs.nd rfl (by walk_at "o") (xp zD))
  (zG (zf (i:=2) sc_by_signs.nd rfl (by walk_at "o") pe_dnewK)
  (zG (xR PassesOwn.never rfl (yc (zP C_unlike_cores hr rfl (zB (pv 0) zD))) (zS (i:=3) sc_by_signs.nd rfl (by walk_at "o")) (zM (zBl (j7 hr) (pv 2) (pv 3) (yV (zB (zP C_add_chain hr rfl (zB (pv 1) (zB (pv 3) zD))) (zB zC (zB zC zD)))) rfl)))
  (zM (zd (yV (zB zC (zB (pv 1) (zB (yU (N:=["number","parts"]) (nt:=1) (cs:=[2]) rfl (yc (pv 0)) (fun nd C s H fp=>⟨(zS (i:=0) nd rfl (by walk_at "o")),yq,(zP C_out_for hr rfl (zB (pv 0) (zB (pv 1) zD)))⟩) (by decide +kernel) (by first | rfl | decide +kernel) (by first | rfl | decide +kernel) rfl (fun _=>rfl)) zD))))))))),?_⟩
 rw [show yJ ["numbers","deeds","parts","odd"] [.ref a]=[some (.ref a),none,none,none] from rfl]
 try walk_at "WP"
 intro dl hdl
 have s1:=zO hdl (.lst [])
 intro th hth
 have s2:=zO hth (.dK [])
 have S2:=s1.trans s2
 have hth0:H th=none:=s1.free hth
 have hd2:=s2 _ _ (show upd H dl (.lst []) dl=some (.lst []) from zF)
 have ht2:upd (upd H dl (.lst [])) th (.dK []) th=some (.dK []):=zF
 generalize upd (upd H dl (.lst [])) th (.dK [])=H2 at S2 hd2 ht2 ⊢
 have htd:th ≠ dl:=xU ht2 hd2 (by intro z; cases z)
 refine ⟨a,xs,rfl,S2 _ _ ha,by omega,fun l H3 hl3 s3 hl3'=>?_⟩
 have hl0:H l=none:=S2.free hl3
 have hld:l ≠ dl:=(ne_of_none hd2 hl3).symm
 have hlt:l ≠ th:=(ne_of_none ht2 hl3).symm
 try walk_at "WP"
 refine ⟨⟨_,SqL.of hl3'⟩,?_⟩
 refine forL (xs:=(uc xs).map V.int) (fun i σ H'=>∃ (o:Option V) (us:List V) (ds:List Dd) (fd:List (Int × Int)) (kvs:List (Key × V)),σ = [some (.ref a),some (.ref dl),some (.ref th),o] /\ H' dl=some (.lst us) /\ HDs H' us ds /\ DOk ds /\ ds.length=Jf ((uc xs).take i) /\ H' th=some (.dK kvs) /\ DKR H' kvs fd /\
   (∀ c ∈ (uc xs).take i,∃ k:Nat,fd.lookup c=some (k:Int) /\ (ev ds)[k]? = some c) /\ (∀ c,c ∉ (uc xs).take i -> fd.lookup c=none) /\ fd.length <= i /\ H' l=some (.lst ((uc xs).map V.int)) /\ Same H H')
  ⟨none,[],[],[],[],rfl,s3 _ _ hd2,hds_nil,dok_nil,rfl,s3 _ _ ht2,DKR.nil,by simp,by intro c _; rfl,zE _,hl3',S2.trans s3⟩ (fun i σ H' _ z=>by obtain ⟨_,_,_,_,_,_,_,_,_,_,_,_,_,_,_,h,_⟩:=z; exact SqL.of h) ?_ ?_
 ·rintro i x σ H' N hx ⟨o,us,ds,fd,kvs,rfl,hd,hh,ok,hcost,ht,hD,hc1,hc2,hfl,hll,SH⟩ hN
  rw [qI] at hx
  cases hn:(uc xs)[i]? with
  | none=>rw [hn] at hx; cases hx
  | some c =>
   rw [hn] at hx
   cases hx
   have hi:i < (uc xs).length:=(qB.mp hn).1
   obtain ⟨cb,c0,c2⟩:=hub c (qE hn)
   have hct:Jf ((uc xs).take i) <= 200 * ((uc xs).take i).length:=costS_le fun d hd=>(hub d (List.mem_of_mem_take hd)).1
   rw [qO] at hct
   try walk_at "WP"
   refine ⟨dl,us,ds,c,rfl,hd,hh,ok,by omega,c0,c2,cb,fun made us' new H4 C4 hd4 hh4 ok4 hnew hev=>?_⟩
   have ht4:=C4 _ _ htd ht
   have hD4:=hD.chgL hd C4
   try walk_at "WP"
   intro y hy
   have sy:=zO hy (.tup [V.int (made:Int),V.int 0,V.int 1])
   have hyy:upd H4 y (.tup [V.int (made:Int),V.int 0,V.int 1]) y=some (.tup [V.int (made:Int),V.int 0,V.int 1]):=zF
   have hd5:=sy _ _ hd4
   have ht5:=sy _ _ ht4
   have hh5:=hh4.same sy
   have hD5:=hD4.same sy
   have hl5:=sy _ _ (C4 _ _ hld hll)
   have SH5:∀ b o,H b=some o -> upd H4 y (.tup [V.int (made:Int),V.int 0,V.int 1]) b=some o:=fun b o hb=>sy _ _ (C4 _ _ (ne_of_none hb hdl) (SH _ _ hb))
   generalize upd H4 y (.tup [V.int (made:Int),V.int 0,V.int 1])=H5 at hyy hd5 ht5 hh5 hD5 hl5 SH5 ⊢
   (iterate 5 ((try (walk_at "WP")); (try (simp only [ht5,qJs,qJt,qJl,qJd,exists_eq_left',exists_eq_left])))); (try (walk_at "WP"))
   have hnone:=hc2 c (zB7 (uc_nodup xs) hn)
   refine ⟨by rw [hD.len]; exact zAW (by omega),?_⟩
   have C5:Chg th H5 (upd H5 th (.dK (putK kvs (.inl c) (.ref y)))):=Chg.upd _
   refine hN _ _ ⟨_,us',ds ++ new,fd ++ [(c,(made:Int))],_,rfl,C5 _ _ htd.symm hd5,hh5.chgD ht5 C5,ok4,?_,zF,(hD5.put hnone hyy).chgD ht5 C5,?_,?_,by simp; omega,C5 _ _ hlt hl5,?_⟩
   ·rw [zB6 hn,qF,hcost]
    omega
   ·intro d hd
    rw [za,hn] at hd
    rcases yS.mp hd with z | z
    ·obtain ⟨k,k1,k2⟩:=hc1 d z
     exact ⟨k,by rw [zAY,k1]; rfl,zAZ ds new k2⟩
    ·have e:d=c:=by simpa using z
     subst e
     exact ⟨made,by rw [zAY,hnone]; simp,hev⟩
   ·intro d hd
    rw [za,hn] at hd
    have h1:d ∉ (uc xs).take i:=fun z=>hd (xW _ z)
    have h2:¬ d=c:=fun z=>hd (qK _ (by subst z; simp))
    rw [zAY,hc2 d h1,if_neg h2]
    rfl
   ·exact fun b o hb=>C5 _ _ (ne_of_none hb hth0) (SH5 _ _ hb)
 ·rintro σ H' ⟨o,us,ds,fd,kvs,rfl,hd,hh,ok,hcost,ht,hD,hc1,hc2,hfl,hll,SH⟩
  rw [qC,zt] at hcost hc1 hc2
  try walk_at "WP"
  have haa:=SH _ _ ha
  refine ⟨⟨_,SqL.of haa⟩,?_⟩
  refine comp_inv (xs:=xs.map V.int) (fun acc i ys H4=>H4 acc=some (.lst ys) /\ HOs K H4 ys (ev ds) (xs.take i) /\ i <= xs.length /\ Same H' H4) (by rw [qC]; exact jK (by omega)) ?_ ?_ ?_ ?_ ?_ ?_ ?_
  ·rintro acc i ys H4 hi ⟨_,_,_,s4⟩
   exact ⟨_,_,SqL.of (s4 _ _ haa),qA hi⟩
  ·rintro acc i ys H4 x H5 ⟨_,_,_,s4⟩ y
   exact ⟨y.1,y.2 _ (SqL.of (s4 _ _ haa))⟩
  ·rintro acc ys H4 ⟨_,_,_,s4⟩
   exact ⟨_,SqL.of (s4 _ _ haa),zE _⟩
  ·intro acc hacc
   exact ⟨zF,⟨rfl,fun k n e=>by simp at e⟩,yM _,zO hacc _⟩
  ·rintro acc i ys H4 ⟨h1,h2,h3,_⟩
   refine ⟨h1,?_⟩
   rw [h2.len,qO]
   omega
  ·rintro acc i ys H4 x R hacc hx ⟨h1,h2,h3,s4⟩ hR _
   rw [qI] at hx
   cases hn:xs[i]? with
   | none=>rw [hn] at hx; cases hx
   | some n =>
    rw [hn] at hx
    cases hx
    have hi:i < xs.length:=(qB.mp hn).1
    have hmem:=qE hn
    have ecap:yZ [2] [some (V.ref a),some (V.ref dl),some (V.ref th),o]=[some (V.ref th)]:=rfl
    rw [ecap]
    try walk_at "WP"
    refine ⟨n,th,kvs,fd,ev ds,rfl,s4 _ _ ht,hD.same s4,hxb n hmem,fun h0=>hc1 _ (uc_has xs n hmem h0),fun r a' b' c' H5 hr hok _ s5=>?_⟩
    refine hR _ _ (s5 _ _ h1) ⟨zF,?_,hi,same_upd hacc (s4.trans s5)⟩
    rw [za,hn]
    exact ((h2.same s5).snoc hr hok).updL (s5 _ _ h1)
  ·rintro acc ys H4 hacc ⟨h1,h2,h3,s4⟩
   rw [qC,zt] at h2
   try walk_at "WP"
   intro t ht
   have s5:=zO ht (.tup [V.int 1,V.ref dl,V.ref acc])
   have S5:=s4.trans s5
   exact q t dl acc ds _ (SH.trans S5) (SH.free (s4.free ht)) hdl (SH.free hacc) ⟨zF,⟨us,S5 _ _ hd,hh.same S5⟩,⟨ys,s5 _ _ h1,h2.same s5⟩,ok,(ne_of_none hd hacc).symm⟩ hcost
end
section
variable {P:Program}{w:World}{K:zA}{mg:Str -> Option Value}{base:Heap}
theorem ok_signof (T:Txt K mg):Cal P w K mg base 1 "sign_of" ["one","other"] spSignOf:=by
 have B:=T.bl
 refine yT T.t_sign_of zCE (fun vs H Q E h=>?_) (fun f cdv A outer s H vs Q E hr h=>?_)
 ·obtain ⟨x,y,a,b,u,t,g,h,rfl,_⟩:=h
  rfl
 obtain ⟨x,y,a,b,u,t,g,h,rfl,hx,hy,q⟩:=h
 refine ⟨_,(zM (zd (Jr (zn xm (zQ yL (pv 0) zC (fun _ _=>rfl)) (zQ yL (pv 1) zC (fun _ _=>rfl)) (yA _)) (zQ yL (pv 0) zC (fun _ _=>rfl)) zC))),?_⟩
 rw [show yJ ["one","other"] [.ref x,.ref y]=[some (.ref x),some (.ref y)] from rfl]
 (iterate 5 ((try (walk_at "WP")); (try (simp only [hx,hy,qJs,qJt,qJl,qJd,exists_eq_left',exists_eq_left])))); (try (walk_at "WP"))
 unfold jD at q
 refine xS (fun c=>?_) (fun c=>?_)
 ·rw [if_pos c] at q
  exact q
 ·rw [if_neg c] at q
  exact q
theorem ok_paired (T:Txt K mg):Cal P w K mg base 2 "paired" ["deeds","parts"] spPaired:=by
 have B:=T.bl
 have C_deed_of:=ok_deedof (P:=P) (w:=w) (base:=base) T
 have C_sign_of:=ok_signof (P:=P) (w:=w) (base:=base) T
 refine yT T.t_paired sc_paired (fun vs H Q E h=>?_) (fun f cdv A outer s H vs Q E hr h=>?_)
 ·obtain ⟨dl,pl,us,ds,ws,ps,j,rfl,_⟩:=h
  rfl
 obtain ⟨dl,pl,us,ds,ws,ps,j,rfl,hdl,hds,hok,hl4,hpl,hps,pok,hj,h2,h3,hne,q⟩:=h
 refine ⟨_,(zG (zf (i:=2) sc_paired.nd rfl (by walk_at "o") (xp zD))
  (xO (xR PassesOwn.never rfl (pi_range3 rfl B.range (zB zC (zB (zU xK (zw ye rfl B.len xI (zB (pv 1) zD)) zC) (zB zC zD)))) (zS (i:=3) sc_paired.nd rfl (by walk_at "o")) (zG (zf (i:=4) sc_paired.nd rfl (by walk_at "o") (zQ x6 (pv 1) (pv 3) (fun _ _=>rfl)))
  (zG (zf (i:=5) sc_paired.nd rfl (by walk_at "o") (zQ x6 (pv 1) (zU yp (pv 3) zC) (fun _ _=>rfl)))
  (zG (zf (i:=6) sc_paired.nd rfl (by walk_at "o") (yV (zB (zQ yL (pv 4) zC (fun _ _=>rfl)) (zB zC (zB (zQ yL (pv 4) zC (fun _ _=>rfl)) zD)))))
  (zG (zf (i:=7) sc_paired.nd rfl (by walk_at "o") (yV (zB (zQ yL (pv 5) zC (fun _ _=>rfl)) (zB (zU xK (zQ yL (pv 5) zC (fun _ _=>rfl)) (zQ yL (pv 4) zC (fun _ _=>rfl))) (zB (zQ yL (pv 5) zC (fun _ _=>rfl)) zD)))))
  (zG (xZ (j6 zm zk zj yd (pv 0) (zB (zP C_deed_of hr rfl (zB (pv 6) (zB (pv 7) zD))) zD)))
  (zM (xZ (j6 zm zk zj yd (pv 2) (zB (yV (zB (zw ye rfl B.len xI (zB (pv 0) zD)) (zB (zQ yL (pv 4) zC (fun _ _=>rfl)) (zB (zP C_sign_of hr rfl (zB (pv 6) (zB (pv 7) zD))) zD)))) zD))))))))))
  (zG (yh (zn xm (zU op_and (zw ye rfl B.len xI (zB (pv 1) zD)) zC) zC (yA _)) (zM (xZ (j6 zm zk zj yd (pv 2) (zB (zQ x6 (pv 1) (zAz Jh zC) (fun _ _=>rfl)) zD)))) yE)
  (zM (zd (pv 2)))))),?_⟩
 rw [show yJ ["deeds","parts","told","place","low","high","first","second"] [.ref dl,.ref pl]=[some (.ref dl),some (.ref pl),none,none,none,none,none,none] from rfl]
 try walk_at "WP"
 intro tl htl
 have s1:=zO htl (.lst [])
 have htd:tl ≠ dl:=(ne_of_none hdl htl).symm
 have htp:tl ≠ pl:=(ne_of_none hpl htl).symm
 have ht1:upd H tl (.lst []) tl=some (.lst []):=zF
 have hd1:=s1 _ _ hdl
 have hp1:=s1 _ _ hpl
 generalize upd H tl (.lst [])=H1 at s1 ht1 hd1 hp1 ⊢
 refine jA (fun σ H'=>∃ (o3 o4 o5 o6 o7:Option V) (us':List V) (new:List Dd) (ws':List V) (qs:List Pt),σ = [some (.ref dl),some (.ref pl),some (.ref tl),o3,o4,o5,o6,o7] /\ Chg dl H H' /\ H' dl=some (.lst us') /\ HDs H' us' (ds ++ new) /\ H' tl=some (.lst ws') /\ HPs H' ws' qs /\ H' pl=some (.lst ws) /\ HPs H' ws ps /\ PrI ds j ps (ps.length / 2) new qs) (fun N hN=>?_) ?_
 ·try walk_at "WP"
  refine ⟨_,hp1,?_⟩
  rw [hps.len]
  refine ⟨_,_,_,⟨rfl,rfl,rfl⟩,⟨by omega,by omega,by omega,by omega,rfl⟩,?_⟩
  rw [stepN_val]
  refine forR3 (fun k σ H'=>∃ (o3 o4 o5 o6 o7:Option V) (us':List V) (new:List Dd) (ws':List V) (qs:List Pt),σ = [some (.ref dl),some (.ref pl),some (.ref tl),o3,o4,o5,o6,o7] /\ Chg dl H H' /\ H' dl=some (.lst us') /\ HDs H' us' (ds ++ new) /\ H' tl=some (.lst ws') /\ HPs H' ws' qs /\ H' pl=some (.lst ws) /\ HPs H' ws ps /\ PrI ds j ps k new qs)
   ⟨none,none,none,none,none,us,[],[],[],rfl,s1.chg,hd1,by rw [zp]; exact hds.same s1,ht1,hps_nil,hp1,hps.same s1,pri_zero hok⟩ ?_ ?_
  ·rintro k σ H' M hk ⟨o3,o4,o5,o6,o7,us',new,ws',qs,rfl,CC,hd,hh,ht,hq,hp,hpp,I⟩ hM
   obtain ⟨p,hpk⟩:∃ p,ps[2 * k]? = some p:=⟨_,qA (by omega)⟩
   obtain ⟨p2,hpk2⟩:∃ p,ps[2 * k+1]? = some p:=⟨_,qA (by omega)⟩
   have hstep:=pri_step pok hj I hpk hpk2
   have hup:=pok.up _ _ _ hpk hpk2
   have pg:=(pok.all p (qE hpk)).1
   have qg:=(pok.all p2 (qE hpk2)).1
   obtain ⟨x,hx1,hx2⟩:=hpp.at_ _ p hpk
   obtain ⟨y,hy1,hy2⟩:=hpp.at_ _ p2 hpk2
   unfold pTup at hx2 hy2
   have at1:atI ws (0+(k:Int) * 2)=some (.ref x):=by
    rw [show (0+(k:Int) * 2)=((2 * k:Nat):Int) by omega]
    exact yz hx1
   have at2:atI ws (0+(k:Int) * 2+1)=some (.ref y):=by
    rw [show (0+(k:Int) * 2+1)=((2 * k+1:Nat):Int) by omega]
    exact yz hy1
   (iterate 5 ((try (walk_at "WP")); (try (simp only [hp,hx2,hy2,qJs,qJt,qJl,qJd,exists_eq_left',exists_eq_left])))); (try (walk_at "WP"))
   refine ⟨_,at1,?_⟩
   (iterate 5 ((try (walk_at "WP")); (try (simp only [hp,hx2,hy2,qJs,qJt,qJl,qJd,exists_eq_left',exists_eq_left])))); (try (walk_at "WP"))
   refine ⟨_,at2,?_⟩
   (iterate 5 ((try (walk_at "WP")); (try (simp only [hp,hx2,hy2,qJs,qJt,qJl,qJd,exists_eq_left',exists_eq_left])))); (try (walk_at "WP"))
   have esub:((p2.sh:Int) - (p.sh:Int))=((p2.sh - p.sh:Nat):Int):=by omega
   generalize hdd:xh p.th 0 p.g p2.th (p2.sh - p.sh) p2.g=d at hstep
   intro f1 hf1
   have S1:=zO hf1 (.tup [V.int p.th,V.int 0,V.int p.g])
   have ha1:upd H' f1 (.tup [V.int p.th,V.int 0,V.int p.g]) f1=some (.tup [V.int p.th,V.int 0,V.int p.g]):=zF
   have hxa:=S1 _ _ hx2
   have hya:=S1 _ _ hy2
   generalize upd H' f1 (.tup [V.int p.th,V.int 0,V.int p.g])=Ha at S1 ha1 hxa hya ⊢
   (iterate 5 ((try (walk_at "WP")); (try (simp only [hxa,hya,qJs,qJt,qJl,qJd,exists_eq_left',exists_eq_left])))); (try (walk_at "WP"))
   rw [esub]
   intro f2 hf2
   have S2:=zO hf2 (.tup [V.int p2.th,V.int ((p2.sh - p.sh:Nat):Int),V.int p2.g])
   have hb2:upd Ha f2 (.tup [V.int p2.th,V.int ((p2.sh - p.sh:Nat):Int),V.int p2.g]) f2=some (.tup [V.int p2.th,V.int ((p2.sh - p.sh:Nat):Int),V.int p2.g]):=zF
   generalize upd Ha f2 (.tup [V.int p2.th,V.int ((p2.sh - p.sh:Nat):Int),V.int p2.g])=Hb at S2 hb2 ⊢
   have SB:=S1.trans S2
   refine ⟨xb (SB _ _ hd),f1,f2,p.th,p2.th,p2.sh - p.sh,0,p.g,p2.g,rfl,S2 _ _ ha1,hb2,pg,qg,fun r hr=>?_⟩
   rw [hdd]
   have S3:=zO hr (.tup (dTup d))
   have hc3:upd Hb r (.tup (dTup d)) r=some (.tup (dTup d)):=zF
   generalize upd Hb r (.tup (dTup d))=Hc at S3 hc3 ⊢
   have SC:=SB.trans S3
   have hdc:=SC _ _ hd
   have htc:=SC _ _ ht
   have hlen:us'.length=(ds ++ new).length:=hh.len
   refine ⟨_,hdc,?_,?_⟩
   ·rw [hlen,qF,I.nl]
    exact zAW (by omega)
   have C4:Chg dl Hc (upd Hc dl (.lst (us' ++ [V.ref r]))):=Chg.upd _
   have hd4:upd Hc dl (.lst (us' ++ [V.ref r])) dl=some (.lst (us' ++ [V.ref r])):=zF
   have hh4:=((hh.same SC).snoc hc3).chgL hdc C4
   have hq4:=(hq.same SC).chgL hdc C4
   have hpp4:=(hpp.same SC).chgL hdc C4
   have ht4:=C4 _ _ htd htc
   have hp4:=C4 _ _ hne (SC _ _ hp)
   have hx4:=C4 _ _ (xU (SC _ _ hx2) hdc (by intro z; cases z)) (SC _ _ hx2)
   have g1:=C4 _ _ (xU (S3 _ _ (S2 _ _ ha1)) hdc (by intro z; cases z)) (S3 _ _ (S2 _ _ ha1))
   have g2:=C4 _ _ (xU (S3 _ _ hb2) hdc (by intro z; cases z)) (S3 _ _ hb2)
   have CD:Chg dl H (upd Hc dl (.lst (us' ++ [V.ref r]))):=(CC.trans SC.chg).trans C4
   generalize upd Hc dl (.lst (us' ++ [V.ref r]))=Hd at C4 hd4 hh4 hq4 hpp4 ht4 hp4 hx4 g1 g2 CD ⊢
   refine ⟨xb ht4,?_⟩
   (iterate 5 ((try (walk_at "WP")); (try (simp only [hx4,hd4,qJs,qJt,qJl,qJd,exists_eq_left',exists_eq_left])))); (try (walk_at "WP"))
   refine ⟨f1,f2,_,_,_,_,p.g,p2.g,rfl,g1,g2,?_⟩
   try walk_at "WP"
   intro p3 hp3
   have elen:(((us' ++ [V.ref r]).length:Nat):Int)=(((ds ++ new).length+1:Nat):Int):=by rw [qF,hlen]; rfl
   rw [elen]
   have S5:=zO hp3 (.tup (pTup ⟨(ds ++ new).length+1,p.sh,jD p.g p2.g⟩))
   have h53:upd Hd p3 (.tup [V.int (((ds ++ new).length+1:Nat):Int),V.int p.sh,V.int (jD p.g p2.g)]) p3=some (.tup (pTup ⟨(ds ++ new).length+1,p.sh,jD p.g p2.g⟩)):=zF
   have S5':Same Hd (upd Hd p3 (.tup [V.int (((ds ++ new).length+1:Nat):Int),V.int p.sh,V.int (jD p.g p2.g)])):=S5
   generalize upd Hd p3 (.tup [V.int (((ds ++ new).length+1:Nat):Int),V.int p.sh,V.int (jD p.g p2.g)])=He at S5' h53 ⊢
   have ht5:=S5' _ _ ht4
   have C6:Chg tl He (upd He tl (.lst (ws' ++ [V.ref p3]))):=Chg.upd _
   refine ⟨_,ht5,?_,hM _ _ ⟨_,_,_,_,_,us' ++ [V.ref r],new ++ [d],ws' ++ [V.ref p3],_,rfl,?_,C6 _ _ htd.symm (S5' _ _ hd4),?_,zF,((hq4.same S5').snoc h53).chgL ht5 C6,C6 _ _ htp.symm (S5' _ _ hp4),(hpp4.same S5').chgL ht5 C6,hstep⟩⟩
   ·rw [hq.len,I.ql]
    exact zAW (by omega)
   ·exact fun b o hb hq=>by
     rw [yH (ne_of_none hq htl)]
     exact S5' _ _ (CD b o hb hq)
   ·rw [← zr]
    exact (hh4.same S5').chgL ht5 C6
  ·rintro σ H' ⟨o3,o4,o5,o6,o7,us',new,ws',qs,rfl,r⟩
   exact hN _ _ ⟨_,_,_,_,_,_,_,_,_,rfl,r⟩
 ·rintro σ H' ⟨o3,o4,o5,o6,o7,us',new,ws',qs,rfl,CC,hd,hh,ht,hq,hp,hpp,I⟩
  (iterate 5 ((try (walk_at "WP")); (try (simp only [hp,qJs,qJt,qJl,qJd,exists_eq_left',exists_eq_left])))); (try (walk_at "WP"))
  rw [and1,hpp.len]
  obtain ⟨pe1,pe2⟩:=pri_end pok h2 I
  refine xS (fun c=>?_) (fun c=>?_)
  ·obtain ⟨p,hlast⟩:∃ p,ps.getLast? = some p:=by
    cases hz:ps.getLast? with
    | none=>rw [List.getLast?_eq_none_iff] at hz; rw [hz] at h2; simp at h2
    | some z=>exact ⟨z,rfl⟩
   obtain ⟨g1,g2⟩:=pe2 p (by omega) hlast
   have hl2:=hlast
   rw [JZ] at hl2
   obtain ⟨x,hx1,hx2⟩:=hpp.at_ _ p hl2
   have atm:atI ws (-1)=some (.ref x):=by
    rw [← hpp.len] at hx1
    exact atI_back (by rw [hpp.len]; omega) hx1
   refine ⟨xb ht,_,atm,_,ht,?_,?_⟩
   ·rw [hq.len,I.ql]
    exact zAW (by omega)
   have C6:Chg tl H' (upd H' tl (.lst (ws' ++ [V.ref x]))):=Chg.upd _
   refine q tl us' new (ws' ++ [V.ref x]) (qs ++ [p]) _ (fun b o hb hq=>by rw [yH (ne_of_none hq htl)]; exact CC b o hb hq) htl (C6 _ _ htd.symm hd) (hh.chgL ht C6) I.ok zF ((hq.snoc hx2).chgL ht C6) g1 g2 I.nl ?_
   rw [qF,I.ql]
   show ps.length / 2+1=_
   omega
  ·obtain ⟨g1,g2⟩:=pe1 (by omega)
   exact q tl us' new ws' qs _ CC htl hd hh I.ok ht hq g1 g2 I.nl (by rw [I.ql]; omega)
end
section
variable {P:Program}{w:World}{K:zA}{mg:Str -> Option Value}{base:Heap}
theorem ok_tree (T : Txt K mg) : Cal P w K mg base 3 "add_tree" ["deeds", "odd"] spTree := by
  have B := T.bl
  have C_signs := ok_signs (P := P) (w := w) (base := base) T
  have C_paired := ok_paired (P := P) (w := w) (base := base) T
  refine yT T.t_add_tree sc_add_tree (fun vs H Q E h => ?_) (fun f cdv A outer s H vs Q E hr h => ?_)
  · obtain ⟨dl, us, ds, odd, rfl, _⟩ := h
    rfl
  obtain ⟨dl, us, ds, odd, rfl, hdl, hds, hok, hl3, ho0, ho2, hob, q⟩ := h
  refine ⟨_, (zG (jU (ix := 2) (N := ["place", "digit"]) (nt := 2) (cs := []) rfl (zAi rfl B.enumerate (zB (zP C_signs hr rfl (zB (pv 1) zD)) zD)) (fun nd C s H fp => ⟨(jQ 2 rfl (zu (zS (i := 0) nd rfl (by walk_at "o")) (zu (zS (i := 1) nd rfl (by walk_at "o")) xa))), (pn_one (zn zAN (pv 1) zC (yA _))), (yV (zB zC (zB (pv 0) (zB (pv 1) zD))))⟩) (by decide +kernel) (by first | rfl | decide +kernel) (by first | rfl | decide +kernel) rfl (fun _ => rfl) sc_add_tree.nd rfl (by walk_at "o") (by walk_at "o") rfl)
    (zG (ps_whl PassesOwn.never (zn op_gt (zw ye rfl B.len xI (zB (pv 2) zD)) zC (yA _)) (zM (zf (i := 2) sc_add_tree.nd rfl (by walk_at "o") (zP C_paired hr rfl (zB (pv 0) (zB (pv 2) zD))))))
    (zM (zd (zQ yL (zQ x6 (pv 2) zC (fun _ _ => rfl)) zC (fun _ _ => rfl)))))), ?_⟩
  rw [show yJ ["deeds", "odd", "parts"] [.ref dl, .int odd] = [some (.ref dl), some (.int odd), none] from rfl]
  try walk_at "WP"
  refine ⟨odd, rfl, big_of hob (by decide), fun r hr => ?_⟩
  have sm := zO hr (.lst ((naf odd).map V.int))
  have hr1 : upd H r (.lst ((naf odd).map V.int)) r = some (.lst ((naf odd).map V.int)) := zF
  generalize upd H r (.lst ((naf odd).map V.int)) = H1 at sm hr1 ⊢
  have hnl : (naf odd).length ≤ 201 := zAE 200 odd hob
  try walk_at "WP"
  refine ⟨_, SqL.of hr1, ?_⟩
  refine jO (naf odd).length (fun acc i ys H' => H' acc = some (.lst ys) ∧ HPs H' ys (pts ((naf odd).take i) 0) ∧ i ≤ (naf odd).length ∧ Same H1 H') (jK (by omega)) ?_ ?_ ?_ ?_ ?_ ?_
  · rintro acc i ys H' hi ⟨_, _, _, s4⟩
    exact ⟨_, SqL.of (s4 _ _ hr1), by rw [qC]; exact hi⟩
  · rintro acc ys H' ⟨_, _, _, s4⟩
    exact ⟨_, SqL.of (s4 _ _ hr1), by rw [qC]; exact zE _⟩
  · intro acc hacc
    exact ⟨zF, hps_nil, yM _, zO hacc _⟩
  · rintro acc i ys H' ⟨h1, h2, h3, _⟩
    refine ⟨h1, ?_⟩
    rw [h2.len, zAk]
    exact zZ (List.length_filter_le _ _) (by rw [qO]; omega)
  · rintro acc i ys H' ts x H2 N hacc hi ⟨h1, h2, h3, s4⟩ ⟨T0, u, rfl, hT0, rfl, hu⟩ hts hN
    have hu1 := hu _ (SqL.of (s4 _ _ hr1))
    rw [qI] at hu1
    cases hd : (naf odd)[i]? with
    | none => rw [hd] at hu1; cases hu1
    | some d =>
      rw [hd] at hu1
      cases hu1
      have htk : (naf odd).take (i + 1) = (naf odd).take i ++ [d] := by rw [za, hd]; rfl
      have hpt : pts ((naf odd).take (i + 1)) 0 = pts ((naf odd).take i) 0 ++ (if d = 0 then [] else [⟨0, i, d⟩]) := by
        rw [htk, pts_snoc, qO, Nat.min_eq_left (by omega), yf]
      obtain ⟨o1, o2, rfl⟩ : ∃ o1 o2, ts = [o1, o2] := by
        rcases ts with _ | ⟨o1, _ | ⟨o2, _ | ⟨o3, ts⟩⟩⟩
        · cases hts
        · cases hts
        · exact ⟨o1, o2, rfl⟩
        · cases hts
      have sT := zO hT0 (.tup [V.int (i : Int), V.int d])
      have h1T := sT _ _ h1
      show gTupM 2 _ _ ([o1, o2] ++ []) _ _
      rw [zp]
      try walk_at "WP"
      refine xS (fun c => ?_) (fun c => ?_)
      · intro y hy
        have sy := zO hy (.tup (pTup ⟨0, i, d⟩))
        have hyy : upd (upd H' T0 (.tup [V.int (i : Int), V.int d])) y (.tup [V.int 0, V.int (i : Int), V.int d]) y = some (.tup (pTup ⟨0, i, d⟩)) := zF
        have sy' : Same (upd H' T0 (.tup [V.int (i : Int), V.int d])) (upd (upd H' T0 (.tup [V.int (i : Int), V.int d])) y (.tup [V.int 0, V.int (i : Int), V.int d])) := sy
        generalize upd (upd H' T0 (.tup [V.int (i : Int), V.int d])) y (.tup [V.int 0, V.int (i : Int), V.int d]) = H5 at sy' hyy ⊢
        have h15 := sy' _ _ h1T
        refine ⟨h15, hN (ys ++ [V.ref y]) [some (V.int (i : Int)), some (V.int d)] _ rfl ⟨zF, ?_, hi, same_upd hacc ((s4.trans sT).trans sy')⟩⟩
        rw [hpt, if_neg c]
        exact (((h2.same sT).same sy').snoc hyy).chgL h15 (Chg.upd _)
      · refine hN ys [some (V.int (i : Int)), some (V.int d)] _ rfl ⟨h1T, ?_, hi, s4.trans sT⟩
        rw [hpt, if_pos (Decidable.not_not.mp c), zp]
        exact h2.same sT
  · rintro acc ys H' hacc ⟨h1, h2, h3, s4⟩
    rw [zt] at h2
    have S4 := sm.trans s4
    have hwb : wn odd ≤ 201 := wn_bound hob
    have hw8 : halN ((wn odd : Nat) : Int) ≤ 8 := hal_iff.mpr (by have : (2 : Int) ^ 8 = 256 := by decide
                                                                  omega)
    have hw0 : wn odd ≠ 0 := fun z => by have := wn_eq0.mp z; omega
    have had : acc ≠ dl := (ne_of_none (sm _ _ hdl) hacc).symm
    have ev0 : (ev ds)[0]? = some 1 := zAZ [] ds (k := 0) rfl
    have evz : (ev ds).getD 0 0 = 1 := by rw [qD, ev0]; rfl
    try walk_at "WP"
    refine whl (fun m σ H2 => ∃ (pl : Addr) (ws : List V) (ps : List Pt) (j : Nat) (us' : List V) (new : List Dd), σ = [some (.ref dl), some (.int odd), some (.ref pl)] ∧ m = ps.length ∧ Chg dl H H2 ∧ H2 dl = some (.lst us') ∧ HDs H2 us' (ds ++ new) ∧ DOk (ds ++ new) ∧ H2 pl = some (.lst ws) ∧ HPs H2 ws ps ∧ PsOk (ds ++ new) j ps ∧ pl ≠ dl ∧ 1 ≤ ps.length ∧
        ps.length + new.length = wn odd ∧ halN ((ps.length : Nat) : Int) + j = halN ((wn odd : Nat) : Int) ∧ pvs (ev (ds ++ new)) ps = odd) (pts (naf odd) 0).length
      ⟨acc, ys, pts (naf odd) 0, 0, us, [], rfl, rfl, S4.chg, S4 _ _ hdl, by rw [zp]; exact hds.same S4, by rw [zp]; exact hok, h1, h2, by rw [zp]; exact ps_start ho0 hob, had, by rw [zAk]; show 1 ≤ wn odd; omega, by rw [zAk]; rfl, by rw [zAk]; rfl, ?_⟩ ?_
    · rw [zp, pts_val evz, yt, yN, val_naf]
    rintro m σ H2 N ⟨pl, ws, ps, j, us', new, rfl, rfl, CC, hd, hh, ok, hp, hpp, pok, hne, hp1, hcnt, hlev, hval⟩ hN
    (iterate 5 ((try (walk_at "WP")); (try (simp only [hp, qJs, qJt, qJl, qJd, exists_eq_left', exists_eq_left])))); (try (walk_at "WP"))
    rw [hpp.len]
    refine xS (fun c => ?_) (fun c => ?_)
    · refine ⟨dl, pl, us', ds ++ new, ws, ps, j, rfl, hd, hh, ok, by rw [qF]; omega, hp, hpp, pok, by omega, by omega, by omega, hne, fun t us2 new2 ws2 qs H3 C3 ht0 hd3 hh3 ok3 ht3 hq3 pok3 hval3 hn3 hq3l => ?_⟩
      try walk_at "WP"
      rw [zr] at hh3 ok3 pok3 hval3
      have hhal := hal_half (L := ps.length) (by omega)
      refine hN qs.length _ _ (by rw [hq3l]; omega) ⟨t, ws2, qs, j + 1, us2, new ++ new2, rfl, rfl, CC.trans C3, hd3, hh3, ok3, ht3, hq3, pok3, (ne_of_none hd ht0).symm, by omega, by rw [qF, hq3l, hn3]; omega, by rw [hq3l]; omega, by rw [hval3, hval]⟩
    · have hl1 : ps.length = 1 := by omega
      obtain ⟨p, rfl⟩ := List.length_eq_one_iff.mp hl1
      obtain ⟨x, hx1, hx2⟩ := hpp.at_ 0 p rfl
      have pg : p.g = 1 := pok.lst p rfl
      have pf := pok.fst p rfl
      obtain ⟨_, _, n, e, pn, _⟩ := pok.all p zb
      have at0 : atI ws 0 = some (.ref x) := yz (j := 0) hx1
      have hgn : (ev (ds ++ new)).getD p.th 0 = n := by rw [qD, pn]; rfl
      rw [zAI] at hval
      unfold pval at hval
      rw [pg, yN, hgn] at hval
      obtain ⟨_, en⟩ := chain_end hval ho2
      have hj : j = halN ((wn odd : Nat) : Int) := by
        have h1 : halN (((0 + 1 : Nat)) : Int) = 0 := by decide
        have hlev2 : halN (((0 + 1 : Nat)) : Int) + j = halN ((wn odd : Nat) : Int) := hlev
        rw [h1] at hlev2
        omega
      unfold pTup at hx2
      (iterate 5 ((try (walk_at "WP")); (try (simp only [hp, qJs, qJt, qJl, qJd, exists_eq_left', exists_eq_left])))); (try (walk_at "WP"))
      refine ⟨_, at0, ?_⟩
      (iterate 5 ((try (walk_at "WP")); (try (simp only [hx2, qJs, qJt, qJl, qJd, exists_eq_left', exists_eq_left])))); (try (walk_at "WP"))
      refine q p.th us' new H2 CC hd hh ok ?_ (by rw [pn, en]) (by rw [pf, hj])
      simp only [zq, xj] at hcnt
      omega
end
section
variable {P:Program}{w:World}{K:zA}{mg:Str -> Option Value}{base:Heap}
theorem ok_deep (T:Txt K mg):Cal P w K mg base 4 "deep" ["numbers"] (spDeep K):=by
 have B:=T.bl
 have C_unlike_cores:=(ok_uc (P:=P) (w:=w) (base:=base) T).mono (k:=3) (by decide)
 have C_add_tree:=ok_tree (P:=P) (w:=w) (base:=base) T
 have C_out_for:=(ok_outfor (P:=P) (w:=w) (base:=base) T).mono (k:=3) (by decide)
 refine yT T.t_deep sc_deep (fun vs H Q E h=>?_) (fun f cdv A outer s H vs Q E hr h=>?_)
 ·obtain ⟨a,xs,rfl,_⟩:=h
  rfl
 obtain ⟨a,xs,rfl,ha,hl,hxb,q⟩:=h
 have hub:∀ c ∈ uc xs,c.natAbs < 2 ^ 200 /\ 0 < c /\ c % 2=1:=fun c hc=>by
  obtain ⟨n,hn,h0,rfl⟩:=uc_of xs c hc
  obtain ⟨c1,c2,j,c3,c4,c5,c6,c7,c8⟩:=xA h0
  exact ⟨yB c6 (hxb n hn),c1,c2⟩
 have hul:(uc xs).length <= 6:=zZ (uc_len xs) hl
 refine ⟨_,(zG (zf (i:=1) sc_deep.nd rfl (by walk_at "o") (xp zD))
  (zG (zf (i:=2) sc_deep.nd rfl (by walk_at "o") pe_dnewK)
  (zG (xR PassesOwn.never rfl (yc (zP C_unlike_cores hr rfl (zB (pv 0) zD))) (zS (i:=3) sc_deep.nd rfl (by walk_at "o")) (zM (zBl (j7 hr) (pv 2) (pv 3) (yV (zB (zP C_add_tree hr rfl (zB (pv 1) (zB (pv 3) zD))) (zB zC (zB zC zD)))) rfl)))
  (zM (zd (yV (zB zC (zB (pv 1) (zB (yU (N:=["number","parts"]) (nt:=1) (cs:=[2]) rfl (yc (pv 0)) (fun nd C s H fp=>⟨(zS (i:=0) nd rfl (by walk_at "o")),yq,(zP C_out_for hr rfl (zB (pv 0) (zB (pv 1) zD)))⟩) (by decide +kernel) (by first | rfl | decide +kernel) (by first | rfl | decide +kernel) rfl (fun _=>rfl)) zD))))))))),?_⟩
 rw [show yJ ["numbers","deeds","parts","odd"] [.ref a]=[some (.ref a),none,none,none] from rfl]
 try walk_at "WP"
 intro dl hdl
 have s1:=zO hdl (.lst [])
 intro th hth
 have s2:=zO hth (.dK [])
 have S2:=s1.trans s2
 have hth0:H th=none:=s1.free hth
 have hd2:=s2 _ _ (show upd H dl (.lst []) dl=some (.lst []) from zF)
 have ht2:upd (upd H dl (.lst [])) th (.dK []) th=some (.dK []):=zF
 generalize upd (upd H dl (.lst [])) th (.dK [])=H2 at S2 hd2 ht2 ⊢
 have htd:th ≠ dl:=xU ht2 hd2 (by intro z; cases z)
 refine ⟨a,xs,rfl,S2 _ _ ha,by omega,fun l H3 hl3 s3 hl3'=>?_⟩
 have hl0:H l=none:=S2.free hl3
 have hld:l ≠ dl:=(ne_of_none hd2 hl3).symm
 have hlt:l ≠ th:=(ne_of_none ht2 hl3).symm
 try walk_at "WP"
 refine ⟨⟨_,SqL.of hl3'⟩,?_⟩
 refine forL (xs:=(uc xs).map V.int) (fun i σ H'=>∃ (o:Option V) (us:List V) (ds:List Dd) (fd:List (Int × Int)) (kvs:List (Key × V)),σ = [some (.ref a),some (.ref dl),some (.ref th),o] /\ H' dl=some (.lst us) /\ HDs H' us ds /\ DOk ds /\ ds.length=Jf ((uc xs).take i) /\ H' th=some (.dK kvs) /\ DKR H' kvs fd /\
   (∀ c ∈ (uc xs).take i,∃ k:Nat,fd.lookup c=some (k:Int) /\ (ev ds)[k]? = some c /\ (dpt ds)[k]? = some (halN (wn c:Nat))) /\ (∀ c,c ∉ (uc xs).take i -> fd.lookup c=none) /\ fd.length <= i /\ H' l=some (.lst ((uc xs).map V.int)) /\ Same H H')
  ⟨none,[],[],[],[],rfl,s3 _ _ hd2,hds_nil,dok_nil,rfl,s3 _ _ ht2,DKR.nil,by simp,by intro c _; rfl,zE _,hl3',S2.trans s3⟩ (fun i σ H' _ z=>by obtain ⟨_,_,_,_,_,_,_,_,_,_,_,_,_,_,_,h,_⟩:=z; exact SqL.of h) ?_ ?_
 ·rintro i x σ H' N hx ⟨o,us,ds,fd,kvs,rfl,hd,hh,ok,hcost,ht,hD,hc1,hc2,hfl,hll,SH⟩ hN
  rw [qI] at hx
  cases hn:(uc xs)[i]? with
  | none=>rw [hn] at hx; cases hx
  | some c =>
   rw [hn] at hx
   cases hx
   have hi:i < (uc xs).length:=(qB.mp hn).1
   obtain ⟨cb,c0,c2⟩:=hub c (qE hn)
   have hct:Jf ((uc xs).take i) <= 200 * ((uc xs).take i).length:=costS_le fun d hd=>(hub d (List.mem_of_mem_take hd)).1
   rw [qO] at hct
   try walk_at "WP"
   refine ⟨dl,us,ds,c,rfl,hd,hh,ok,by omega,c0,c2,cb,fun made us' new H4 C4 hd4 hh4 ok4 hnew hev hdep=>?_⟩
   have ht4:=C4 _ _ htd ht
   have hD4:=hD.chgL hd C4
   try walk_at "WP"
   intro y hy
   have sy:=zO hy (.tup [V.int (made:Int),V.int 0,V.int 1])
   have hyy:upd H4 y (.tup [V.int (made:Int),V.int 0,V.int 1]) y=some (.tup [V.int (made:Int),V.int 0,V.int 1]):=zF
   have hd5:=sy _ _ hd4
   have ht5:=sy _ _ ht4
   have hh5:=hh4.same sy
   have hD5:=hD4.same sy
   have hl5:=sy _ _ (C4 _ _ hld hll)
   have SH5:∀ b o,H b=some o -> upd H4 y (.tup [V.int (made:Int),V.int 0,V.int 1]) b=some o:=fun b o hb=>sy _ _ (C4 _ _ (ne_of_none hb hdl) (SH _ _ hb))
   generalize upd H4 y (.tup [V.int (made:Int),V.int 0,V.int 1])=H5 at hyy hd5 ht5 hh5 hD5 hl5 SH5 ⊢
   (iterate 5 ((try (walk_at "WP")); (try (simp only [ht5,qJs,qJt,qJl,qJd,exists_eq_left',exists_eq_left])))); (try (walk_at "WP"))
   have hnone:=hc2 c (zB7 (uc_nodup xs) hn)
   refine ⟨by rw [hD.len]; exact zAW (by omega),?_⟩
   have C5:Chg th H5 (upd H5 th (.dK (putK kvs (.inl c) (.ref y)))):=Chg.upd _
   refine hN _ _ ⟨_,us',ds ++ new,fd ++ [(c,(made:Int))],_,rfl,C5 _ _ htd.symm hd5,hh5.chgD ht5 C5,ok4,?_,zF,(hD5.put hnone hyy).chgD ht5 C5,?_,?_,by simp; omega,C5 _ _ hlt hl5,?_⟩
   ·rw [zB6 hn,qF,hcost]
    omega
   ·intro d hd
    rw [za,hn] at hd
    rcases yS.mp hd with z | z
    ·obtain ⟨k,k1,k2,k3⟩:=hc1 d z
     exact ⟨k,by rw [zAY,k1]; rfl,zAZ ds new k2,zBO ds new k3⟩
    ·have e:d=c:=by simpa using z
     subst e
     exact ⟨made,by rw [zAY,hnone]; simp,hev,hdep⟩
   ·intro d hd
    rw [za,hn] at hd
    have h1:d ∉ (uc xs).take i:=fun z=>hd (xW _ z)
    have h2:¬ d=c:=fun z=>hd (qK _ (by subst z; simp))
    rw [zAY,hc2 d h1,if_neg h2]
    rfl
   ·exact fun b o hb=>C5 _ _ (ne_of_none hb hth0) (SH5 _ _ hb)
 ·rintro σ H' ⟨o,us,ds,fd,kvs,rfl,hd,hh,ok,hcost,ht,hD,hc1,hc2,hfl,hll,SH⟩
  rw [qC,zt] at hcost hc1 hc2
  try walk_at "WP"
  have haa:=SH _ _ ha
  refine ⟨⟨_,SqL.of haa⟩,?_⟩
  refine comp_inv (xs:=xs.map V.int) (fun acc i ys H4=>H4 acc=some (.lst ys) /\ HOd K H4 ys (ev ds) (dpt ds) (xs.take i) /\ i <= xs.length /\ Same H' H4) (by rw [qC]; exact jK (by omega)) ?_ ?_ ?_ ?_ ?_ ?_ ?_
  ·rintro acc i ys H4 hi ⟨_,_,_,s4⟩
   exact ⟨_,_,SqL.of (s4 _ _ haa),qA hi⟩
  ·rintro acc i ys H4 x H5 ⟨_,_,_,s4⟩ y
   exact ⟨y.1,y.2 _ (SqL.of (s4 _ _ haa))⟩
  ·rintro acc ys H4 ⟨_,_,_,s4⟩
   exact ⟨_,SqL.of (s4 _ _ haa),zE _⟩
  ·intro acc hacc
   exact ⟨zF,⟨rfl,fun k n e=>by simp at e⟩,yM _,zO hacc _⟩
  ·rintro acc i ys H4 ⟨h1,h2,h3,_⟩
   refine ⟨h1,?_⟩
   rw [h2.len,qO]
   omega
  ·rintro acc i ys H4 x R hacc hx ⟨h1,h2,h3,s4⟩ hR _
   rw [qI] at hx
   cases hn:xs[i]? with
   | none=>rw [hn] at hx; cases hx
   | some n =>
    rw [hn] at hx
    cases hx
    have hi:i < xs.length:=(qB.mp hn).1
    have hmem:=qE hn
    have ecap:yZ [2] [some (V.ref a),some (V.ref dl),some (V.ref th),o]=[some (V.ref th)]:=rfl
    rw [ecap]
    try walk_at "WP"
    refine ⟨n,th,kvs,fd,ev ds,rfl,s4 _ _ ht,hD.same s4,hxb n hmem,fun h0=>(hc1 _ (uc_has xs n hmem h0)).imp fun k z=>⟨z.1,z.2.1⟩,fun r a' b' c' H5 hr hok hfd s5=>?_⟩
    refine hR _ _ (s5 _ _ h1) ⟨zF,?_,hi,same_upd hacc (s4.trans s5)⟩
    rw [za,hn]
    exact ((h2.same s5).snoc hr hok fun h0=>by
     obtain ⟨k,k1,_,k3⟩:=hc1 _ (uc_has xs n hmem h0)
     have:=(hfd h0).symm.trans k1
     cases this
     obtain ⟨_,_,_,_,_,_,_,_,hwn⟩:=xA h0
     exact ⟨k,rfl,by rw [k3,hwn]⟩).updL (s5 _ _ h1)
  ·rintro acc ys H4 hacc ⟨h1,h2,h3,s4⟩
   rw [qC,zt] at h2
   try walk_at "WP"
   intro t ht
   have s5:=zO ht (.tup [V.int 1,V.ref dl,V.ref acc])
   have S5:=s4.trans s5
   exact q t dl acc ds _ (SH.trans S5) (SH.free (s4.free ht)) hdl (SH.free hacc) ⟨zF,⟨us,S5 _ _ hd,hh.same S5⟩,⟨ys,s5 _ _ h1,(h2.same s5).fgt⟩,ok,(ne_of_none hd hacc).symm⟩ ⟨ys,s5 _ _ h1,h2.same s5⟩ hcost
end
section
variable {P:Program}{w:World}{K:zA}{mg:Str -> Option Value}{base:Heap}
theorem zAL (T:Txt K mg):Cal P w K mg base 1 "shifted" ["number","shift"] spShifted:=by
 have B:=T.bl
 refine yT T.t_shifted sc_shifted (fun vs H Q E h=>?_) (fun f cdv A outer s H vs Q E hr h=>?_)
 ·obtain ⟨n,s,rfl,_⟩:=h
  rfl
 obtain ⟨n,sh,rfl,h0,h1,hb,q⟩:=h
 refine ⟨_,(zG (yh (zn op_ge (pv 1) zC (yA _)) (zM (zd (zU jh (pv 0) (pv 1)))) yE)
  (zG (zf (i:=2) sc_shifted.nd rfl (by walk_at "o") (zU op_shr (pv 0) (zAz Jh (pv 1))))
  (zG (yh (zn zAN (zU jh (pv 2) (zAz Jh (pv 1))) (pv 0) (yA _)) (zM (zd pe_non)) yE)
  (zM (zd (pv 2)))))),?_⟩
 rw [show yJ ["number","shift","halved"] [.int n,.int sh]=[some (.int n),some (.int sh),none] from rfl]
 try walk_at "WP"
 unfold shV at q
 refine xS (fun c=>?_) (fun c=>?_)
 ·rw [if_pos c] at q
  exact ⟨shl_ok c (by omega) hb (by decide),q⟩
 ·rw [if_neg c] at q
  refine ⟨by omega,shl_ok (by omega) (by omega) (abs_div (xf _) hb) (by decide),?_⟩
  refine xS (fun d=>?_) (fun d=>?_)
  ·rw [if_neg d] at q
   exact q
  ·rw [if_pos (Decidable.not_not.mp d)] at q
   exact q
end
section
variable {P:Program}{w:World}{K:zA}{mg:Str -> Option Value}{base:Heap}
theorem ok_inrow (T:Txt K mg):Cal P w K mg base 1 "input_row" ["ins","thing"] spInRow:=by
 have B:=T.bl
 refine yT T.t_input_row sc_input_row (fun vs H Q E h=>?_) (fun f cdv A outer s H vs Q E hr h=>?_)
 ·obtain ⟨n,i,rfl,_⟩:=h
  rfl
 obtain ⟨n,i,rfl,hn,q⟩:=h
 refine ⟨_,(zM (zd (xc jv rfl B.tuple Ju (zB (yU (N:=["place","thing"]) (nt:=1) (cs:=[1]) rfl (xr rfl B.range (zB (pv 0) zD)) (fun nd C s H fp=>⟨(zS (i:=0) nd rfl (by walk_at "o")),yq,(Jr (zn xm (pv 0) (pv 1) (yA _)) zC zC)⟩) (by decide +kernel) (by first | rfl | decide +kernel) (by first | rfl | decide +kernel) rfl (fun _=>rfl)) zD)))),?_⟩
 rw [show yJ ["ins","thing"] [.int n,.int i]=[some (.int n),some (.int i)] from rfl]
 try walk_at "WP"
 refine ⟨by omega,by omega,?_⟩
 rw [yn]
 refine comp_R (f:=unV i) (yG (by omega)) (fun y H5 R5 hy s5 hR5=>?_) (fun acc hacc=>?_)
 ·obtain ⟨k,hk,rfl⟩:=qP.mp hy
  rw [show yZ [1] [some (V.int (n:Int)),some (V.int (i:Int))]=[some (V.int (i:Int))] from rfl]
  try walk_at "WP"
  have e:unV i (V.int (0+(k:Int)))=some (V.int (if 0+(k:Int)=(i:Int) then 1 else 0)):=rfl
  rw [e] at hR5
  refine xS (fun z=>?_) (fun z=>?_)
  ·rw [if_pos z] at hR5
   exact hR5
  ·rw [if_neg z] at hR5
   exact hR5
 rw [unV_map]
 have sa:=zO hacc (.lst ((yY n i).map V.int))
 try walk_at "WP"
 refine ⟨_,.inl ⟨SqL.of zF,fun r hr0=>?_⟩⟩
 exact q r _ (sa.free hr0) (sa.trans (zO hr0 _)) zF
theorem ok_inrows (T:Txt K mg):Cal P w K mg base 2 "input_rows" ["ins"] spInRows:=by
 have B:=T.bl
 have C_input_row:=ok_inrow (P:=P) (w:=w) (base:=base) T
 refine yT T.t_input_rows sc_input_rows (fun vs H Q E h=>?_) (fun f cdv A outer s H vs Q E hr h=>?_)
 ·obtain ⟨n,rfl,_⟩:=h
  rfl
 obtain ⟨n,rfl,hn,q⟩:=h
 refine ⟨_,(zM (zd (yU (N:=["thing","ins"]) (nt:=1) (cs:=[0]) rfl (xr rfl B.range (zB (pv 0) zD)) (fun nd C s H fp=>⟨(zS (i:=0) nd rfl (by walk_at "o")),yq,(zP C_input_row hr rfl (zB (pv 1) (zB (pv 0) zD)))⟩) (by decide +kernel) (by first | rfl | decide +kernel) (by first | rfl | decide +kernel) rfl (fun _=>rfl)))),?_⟩
 rw [show yJ ["ins"] [.int n]=[some (.int n)] from rfl]
 try walk_at "WP"
 refine ⟨by omega,by omega,?_⟩
 rw [yn]
 refine comp_tups (f:=iT) (xs:=Jk 0 n) ((yr n).map (yY n)) (by rw [ji,qC,jJ]) (by rw [ji]; omega) (fun H' _=>it_R) (fun i x z H' R hx hz s' hR=>?_) (fun acc ys H' ha s' h' ht=>q acc ys H' ha s' h' ht)
 have hi:i < n:=by have:=(qB.mp hx).1; rwa [ji] at this
 rw [rngV_get hi] at hx
 cases hx
 rw [qI,Jc hi] at hz
 cases hz
 rw [show yZ [0] [some (V.int (n:Int))]=[some (V.int (n:Int))] from rfl]
 try walk_at "WP"
 rw [Int.zero_add]
 exact ⟨n,i,rfl,hn,fun r H5 a b c=>hR r H5 a b c⟩
end
section
variable {P:Program}{w:World}{K:zA}{mg:Str -> Option Value}{base:Heap}
theorem zBt (T:Txt K mg):Cal P w K mg base 2 "shifted_row" ["row","shift"] spShRowN:=by
 have B:=T.bl
 have C_shifted:=zAL (P:=P) (w:=w) (base:=base) T
 refine yT T.t_shifted_row zCA (fun vs H Q E h=>?_) (fun f cdv A outer s H vs Q E hr h=>?_)
 ·obtain ⟨_,_,_,rfl,_⟩:=h
  rfl
 obtain ⟨l,sh,xs,rfl,hl,hlen,hb,s0,s1,q⟩:=h
 refine ⟨_,(zM (zd (yU (N:=["number","shift"]) (nt:=1) (cs:=[1]) rfl (zBb (pv 0)) (fun nd C s H fp=>⟨(zS (i:=0) nd rfl (by walk_at "o")),yq,(zP C_shifted hr rfl (zB (pv 0) (zB (pv 1) zD)))⟩) (by decide +kernel) (by first | rfl | decide +kernel) (by first | rfl | decide +kernel) rfl (fun _=>rfl)))),?_⟩
 rw [show yJ ["row","shift"] [.ref l,.int sh]=[some (.ref l),some (.int sh)] from rfl]
 unfold iT at hl
 try walk_at "WP"
 refine ⟨⟨_,SqT.of hl⟩,?_⟩
 refine comp_T (f:=shRV sh) (SqT.of hl) (by rw [qC]; exact jK (by omega)) (fun y H' R hy hS' hR=>?_) (fun acc hacc=>?_)
 ·obtain ⟨n,hn,rfl⟩:=qP.mp hy
  rw [show yZ [1] [some (V.ref l),some (V.int sh)]=[some (V.int sh)] from rfl]
  try walk_at "WP"
  exact ⟨n,sh,rfl,by omega,by omega,qJ (hb n hn) (qN (by decide) (by decide)),hR⟩
 rw [zBo]
 exact q acc _ hacc (zO hacc _) zF
theorem zCH (T:Txt K mg):Cal P w K mg base 1 "second_sign" ["deed"] (spSecond K):=by
 have B:=T.bl
 refine yT T.t_second_sign zCB (fun vs H Q E h=>?_) (fun f cdv A outer s H vs Q E hr h=>?_)
 ·obtain ⟨x,d,rfl,_⟩:=h
  rfl
 obtain ⟨x,d,rfl,hx,q⟩:=h
 refine ⟨_,(zM (zd (Jr (zn xm (zQ ix_tup (pv 0) zC (fun _ _=>rfl)) xJ (yA _)) (zAz Jh zC) zC))),?_⟩
 rw [show yJ ["deed"] [.ref x]=[some (.ref x)] from rfl]
 unfold j5 at hx
 (iterate 5 ((try (walk_at "WP")); (try (simp only [hx,qJs,qJt,qJl,qJd,exists_eq_left',exists_eq_left])))); (try (walk_at "WP"))
 refine ⟨_,hx,_,rfl,?_⟩
 try walk_at "WP"
 unfold sgW at q
 by_cases z:d.w=Str.ofString "less"
 ·rw [if_pos z] at q ⊢
  exact q
 ·rw [if_neg z] at q ⊢
  exact q
theorem ok_second (T:Txt K mg):Cal P w K mg base 1 "second_sign" ["deed"] spSnd:=(zCH (P:=P) (w:=w) (base:=base) T).imp fun vs H Q E h=>by
 obtain ⟨x,d,e,hx,q⟩:=h
 exact ⟨x,d,e,SqT.of hx,q⟩
theorem ok_drow4 (T:Txt K mg):Cal P w K mg base 3 "deed_row" ["deed","rows"] (spDRow4 K):=by
 have B:=T.bl
 have C_shifted_row:=zBt (P:=P) (w:=w) (base:=base) T
 have C_second_sign:=(zCH (P:=P) (w:=w) (base:=base) T).mono (k:=2) (by decide)
 refine yT T.t_deed_row sc_deed_row (fun vs H Q E h=>?_) (fun f cdv A outer s H vs Q E hr h=>?_)
 ·obtain ⟨x,l,d,ys,rs,ins,rfl,_⟩:=h
  rfl
 obtain ⟨x,l,d,ys,rs,ins,rfl,hx,hl,ht,ha,hb,hsa,hsb,hw,hi,rb,q⟩:=h
 refine ⟨_,(zG (zf (i:=2) sc_deed_row.nd rfl (by walk_at "o") (zP C_shifted_row hr rfl (zB (zQ x6 (pv 1) (zQ ix_tup (pv 0) zC (fun _ _=>rfl)) (fun _ _=>rfl)) (zB (zQ ix_tup (pv 0) zC (fun _ _=>rfl)) zD))))
  (zG (zf (i:=3) sc_deed_row.nd rfl (by walk_at "o") (zP C_shifted_row hr rfl (zB (zQ x6 (pv 1) (zQ ix_tup (pv 0) zC (fun _ _=>rfl)) (fun _ _=>rfl)) (zB (zQ ix_tup (pv 0) zC (fun _ _=>rfl)) zD))))
  (zG (zf (i:=4) sc_deed_row.nd rfl (by walk_at "o") (zP C_second_sign hr rfl (zB (pv 0) zD)))
  (zM (zd (xc jv rfl B.tuple Ju (zB (yU (N:=["one","other","sign"]) (nt:=2) (cs:=[4]) rfl (pi_zip rfl B.zip (zB (pv 2) (zB (pv 3) zD))) (fun nd C s H fp=>⟨(jQ 2 rfl (zu (zS (i:=0) nd rfl (by walk_at "o")) (zu (zS (i:=1) nd rfl (by walk_at "o")) xa))),yq,(zU yp (pv 0) (zU yX (pv 2) (pv 1)))⟩) (by decide +kernel) (by first | rfl | decide +kernel) (by first | rfl | decide +kernel) rfl (fun _=>rfl)) zD))))))),?_⟩
 rw [show yJ ["deed","rows","left","right","sign"] [.ref x,.ref l]=[some (.ref x),some (.ref l),none,none,none] from rfl]
 have hx':=hx
 unfold j5 at hx'
 (iterate 5 ((try (walk_at "WP")); (try (simp only [hl,qJs,qJt,qJl,qJd,exists_eq_left',exists_eq_left])))); (try (walk_at "WP"))
 obtain ⟨la,a1,a2,a3⟩:=tup_of ht ha
 refine ⟨_,hx',_,rfl,?_⟩
 (iterate 5 ((try (walk_at "WP")); (try (simp only [hl,qJs,qJt,qJl,qJd,exists_eq_left',exists_eq_left])))); (try (walk_at "WP"))
 refine ⟨_,a1,_,hx',_,rfl,?_⟩
 refine ⟨la,d.s,_,rfl,a2,by rw [hw _ a3]; omega,rb.lt a3 (by decide),hsa.1,hsa.2.1,fun r1 H1 n1 s1 h1=>?_⟩
 rw [zBU hsa.2.2] at h1
 have hx1:=s1.seqT hx'
 have hl1:=s1 _ _ hl
 (iterate 5 ((try (walk_at "WP")); (try (simp only [hl1,qJs,qJt,qJl,qJd,exists_eq_left',exists_eq_left])))); (try (walk_at "WP"))
 refine ⟨_,hx1,_,rfl,?_⟩
 (iterate 5 ((try (walk_at "WP")); (try (simp only [hl1,qJs,qJt,qJl,qJd,exists_eq_left',exists_eq_left])))); (try (walk_at "WP"))
 obtain ⟨lb,b1,b2,b3⟩:=tup_of (ht.same s1) hb
 refine ⟨_,b1,_,hx1,_,rfl,?_⟩
 refine ⟨lb,d.t,_,rfl,b2,by rw [hw _ b3]; omega,rb.lt b3 (by decide),hsb.1,hsb.2.1,fun r2 H2 n2 s2 h2=>?_⟩
 rw [zBU hsb.2.2] at h2
 try walk_at "WP"
 refine ⟨x,d,rfl,(s1.trans s2).seqT hx,?_⟩
 try walk_at "WP"
 have h1':=s2 _ _ h1
 refine ⟨r1,r2,⟨rfl,rfl⟩,_,SqL.of h1',_,SqL.of h2,?_⟩
 have hg:sgW d.w=1 \/ sgW d.w = -1:=by
  unfold sgW
  split
  ·exact .inr rfl
  ·exact .inl rfl
 have hla:=hw _ a3
 have hlb:=hw _ b3
 refine comp_zip (SqL.of h1') (SqL.of h2) (by simp only [qC]; omega) (by simp only [qC]; omega) ((rowD rs d).map V.int) (by unfold rowD; simp only [qC,List.length_zipWith]; omega) (fun i u v z H' R hu hv hz s' hR=>?_) (fun acc H3 n3 s3 h3=>?_)
 ·rw [show yZ [4] [some (V.ref x),some (V.ref l),some (V.ref r1),some (V.ref r2),some (V.int (sgW d.w))]=[some (V.int (sgW d.w))] from rfl]
  obtain ⟨x',hx2,rfl⟩:=zA8 hu
  obtain ⟨y',hy2,rfl⟩:=zA8 hv
  obtain ⟨z',hz2,rfl⟩:=zA8 hz
  have ez:z'=x'+sgW d.w * y':=by
   unfold rowD at hz2
   rw [qI] at hx2 hy2
   rw [List.getElem?_zipWith] at hz2
   cases q1:(rs.getD d.a [])[i]? with
   | none=>rw [q1] at hx2; cases hx2
   | some p1 =>
    cases q2:(rs.getD d.b [])[i]? with
    | none=>rw [q2] at hy2; cases hy2
    | some p2 =>
     rw [q1] at hx2 hz2
     rw [q2] at hy2 hz2
     cases hx2
     cases hy2
     cases hz2
     rfl
  subst ez
  rw [yR,yR,Jm]
  try walk_at "WP"
  exact ⟨mul_l (by omega) (by omega),hR⟩
 try walk_at "WP"
 refine ⟨_,.inl ⟨SqL.of h3,fun r hr0=>?_⟩⟩
 have s13:=(s1.trans s2).trans s3
 exact q r _ (s13.free hr0) (s13.trans (zO hr0 _)) zF
end
section
variable {P:Program}{w:World}{K:zA}{mg:Str -> Option Value}{base:Heap}
theorem ok_iswG (T:Txt K mg):Cal P w K mg base 1 "is_whole" ["thing"] spWhole:=by
 have B:=T.bl
 refine yT T.t_is_whole sc_is_whole (fun vs H Q E h=>?_) (fun f cdv A outer s H vs Q E hr h=>?_)
 ·obtain ⟨_,rfl,_⟩:=h
  rfl
 obtain ⟨n,rfl,q⟩:=h
 refine ⟨_,(zM (zd (zBa (zw Jt rfl B.isinstance xt (zB (pv 0) (zB (zAf (v:=.ty "int") rfl B.int bo_int rfl) zD))) (zBZ (pe_not (zw Jt rfl B.isinstance xt (zB (pv 0) (zB (zAf (v:=.ty "bool") rfl B.bool bo_bool rfl) zD)))))))),?_⟩
 rw [show yJ ["thing"] [.int n]=[some (.int n)] from rfl]
 try walk_at "WP"
 exact q
theorem ok_btwG (T:Txt K mg):Cal P w K mg base 2 "is_between" ["thing","low","high"] spBtwG:=by
 have B:=T.bl
 have C_is_whole:=ok_iswG (P:=P) (w:=w) (base:=base) T
 refine yT T.t_is_between sc_is_between (fun vs H Q E h=>?_) (fun f cdv A outer s H vs Q E hr h=>?_)
 ·obtain ⟨_,_,_,rfl,_⟩:=h
  rfl
 obtain ⟨n,lo,hi,rfl,h1,h2,q⟩:=h
 refine ⟨_,(zM (zd (zBa (zP C_is_whole hr rfl (zB (pv 0) zD)) (zBZ (pe_chain op_le op_le (pv 1) (pv 0) (pv 2)))))),?_⟩
 rw [show yJ ["thing","low","high"] [.int n,.int lo,.int hi]=[some (.int n),some (.int lo),some (.int hi)] from rfl]
 try walk_at "WP"
 refine ⟨n,rfl,?_⟩
 try walk_at "WP"
 rw [if_pos h1,decide_eq_true h2]
 exact q
theorem ok_partG (T:Txt K mg):Cal P w K mg base 3 "is_part" ["thing","shift","rows"] spPartG:=by
 have B:=T.bl
 obtain ⟨_,mg_FURTHEST⟩:=T.i_FURTHEST
 have C_is_between:=ok_btwG (P:=P) (w:=w) (base:=base) T
 have C_shifted_row:=zBt (P:=P) (w:=w) (base:=base) T
 refine yT T.t_is_part sc_is_part (fun vs H Q E h=>?_) (fun f cdv A outer s H vs Q E hr h=>?_)
 ·obtain ⟨_,_,_,_,_,rfl,_⟩:=h
  rfl
 obtain ⟨t,sh,l,ys,rs,rfl,hl,ht,tl,hs,hz,rb,q⟩:=h
 have yl:=ht.len
 refine ⟨_,(zG (yh (PW.pt (pw_or (j4 (jS (zP C_is_between hr rfl (zB (pv 0) (zB zC (zB (zU xK (zw ye rfl B.len xI (zB (pv 2) zD)) zC) zD)))))) (zAP (j4 (jS (zP C_is_between hr rfl (zB (pv 1) (zB (zAz Jh (Jd (v:=.int 4000) rfl mg_FURTHEST ⟨_,rfl⟩)) (zB (Jd (v:=.int 4000) rfl mg_FURTHEST ⟨_,rfl⟩) zD))))))))) (zM (zd zAM)) yE)
  (zM (zd (ju op_notIn_seq pe_non (zP C_shifted_row hr rfl (zB (zQ x6 (pv 2) (pv 0) (fun _ _=>rfl)) (zB (pv 1) zD))) (by with_unfolding_all rfl))))),?_⟩
 rw [show yJ ["thing","shift","rows"] [.int (t:Int),.int sh,.ref l]=[some (.int (t:Int)),some (.int sh),some (.ref l)] from rfl]
 have s0:=hs.1
 have s1:=hs.2.1
 (iterate 5 ((try (walk_at "WP")); (try (simp only [hl,qJs,qJt,qJl,qJd,exists_eq_left',exists_eq_left])))); (try (walk_at "WP"))
 refine ⟨t,0,_,rfl,by omega,by omega,?_⟩
 try walk_at "WP"
 refine ⟨sh,_,_,rfl,by omega,by omega,?_⟩
 (iterate 5 ((try (walk_at "WP")); (try (simp only [hl,qJs,qJt,qJl,qJd,exists_eq_left',exists_eq_left])))); (try (walk_at "WP"))
 obtain ⟨la,a1,a2,a3⟩:=tup_of ht tl
 refine ⟨_,a1,?_⟩
 refine ⟨la,sh,_,rfl,a2,by have:=(rb _ a3).1; omega,fun n hn=>yB ((rb _ a3).2 n hn) (yO (by decide) (by decide)),by omega,by omega,fun r1 H1 n1 s1' h1=>?_⟩
 rw [zBU hs.2.2] at h1
 refine ⟨r1,_,rfl,.inl (SqL.of h1),rfl,jV _,?_⟩
 have hin:inV V.non ((((rs.getD t []).map (mvI sh))).map V.int)=false:=by
  unfold inV
  rw [List.any_eq_false]
  intro v hv
  obtain ⟨n,_,rfl⟩:=qP.mp hv
  exact fun z=>by cases z
 rw [if_pos rfl,hin]
 exact q _ s1'
theorem ok_deedG (T:Txt K mg):Cal P w K mg base 4 "is_deed" ["deed","rows"] spDeedG:=by
 have B:=T.bl
 have C_is_part:=ok_partG (P:=P) (w:=w) (base:=base) T
 refine yT T.t_is_deed sc_is_deed (fun vs H Q E h=>?_) (fun f cdv A outer s H vs Q E hr h=>?_)
 ·obtain ⟨_,_,_,_,_,rfl,_⟩:=h
  rfl
 obtain ⟨x,l,d,ys,rs,rfl,hx,hl,ht,dw,da,db,sa,sb,hz,rb,q⟩:=h
 refine ⟨_,(zG (yh (PW.pt (pw_or (j4 (jS (zw Jt rfl B.isinstance xt (zB (pv 0) (zB (zAf (v:=.ty "tuple") rfl B.tuple Ju rfl) zD))))) (zAP (zn zAN (zw call_lenU rfl B.len xI (zB (pv 0) zD)) zC (yA _))))) (zM (zd zAM)) yE)
  (zM (zd (zBa (ju op_in_seq (zQ yL (pv 0) zC (fun _ _=>rfl)) (yV (zB xJ (zB xJ zD))) (by with_unfolding_all rfl)) (zBa (zP C_is_part hr rfl (zB (zQ yL (pv 0) zC (fun _ _=>rfl)) (zB (zQ yL (pv 0) zC (fun _ _=>rfl)) (zB (pv 1) zD)))) (zBZ (zP C_is_part hr rfl (zB (zQ yL (pv 0) zC (fun _ _=>rfl)) (zB (zQ yL (pv 0) zC (fun _ _=>rfl)) (zB (pv 1) zD)))))))))),?_⟩
 rw [show yJ ["deed","rows"] [.ref x,.ref l]=[some (.ref x),some (.ref l)] from rfl]
 unfold j5 at hx
 (iterate 5 ((try (walk_at "WP")); (try (simp only [hx,qJs,qJt,qJl,qJd,exists_eq_left',exists_eq_left])))); (try (walk_at "WP"))
 rw [isI_tt hx]
 (iterate 5 ((try (walk_at "WP")); (try (simp only [hx,qJs,qJt,qJl,qJd,exists_eq_left',exists_eq_left])))); (try (walk_at "WP"))
 intro t nt
 have st:=zO nt (.tup [V.str "sum",V.str "less"])
 refine in_tup (zF) rfl rfl ?_
 have hin:(if false then !inV (.str d.w) [V.str "sum",V.str "less"] else inV (.str d.w) [V.str "sum",V.str "less"])=true:=by
  rcases dw with e | e <;> rw [e] <;> decide
 rw [hin]
 have hx1:=st _ _ hx
 have hl1:=st _ _ hl
 generalize upd H t (.tup [V.str "sum",V.str "less"])=H1 at st hx1 hl1 ⊢
 (iterate 5 ((try (walk_at "WP")); (try (simp only [hx1,qJs,qJt,qJl,qJd,exists_eq_left',exists_eq_left])))); (try (walk_at "WP"))
 refine ⟨d.a,d.s,l,ys,rs,rfl,hl1,ht.same st,da,sa,hz,rb,fun H2 s2=>?_⟩
 have hx2:=s2 _ _ hx1
 (iterate 5 ((try (walk_at "WP")); (try (simp only [hx2,qJs,qJt,qJl,qJd,exists_eq_left',exists_eq_left])))); (try (walk_at "WP"))
 exact ⟨_,rfl,d.b,d.t,l,ys,rs,rfl,s2 _ _ hl1,(ht.same st).same s2,db,sb,hz,rb,fun H3 s3=>q _ ((st.trans s2).trans s3)⟩
theorem ok_outG (T:Txt K mg):Cal P w K mg base 4 "is_out" ["out","rows"] spOutG:=by
 have B:=T.bl
 obtain ⟨cst_NO_OUT,mg_NO_OUT,hcst⟩:=T.c_NO_OUT
 have C_is_whole:=(ok_iswG (P:=P) (w:=w) (base:=base) T).mono (k:=3) (by decide)
 have C_is_part:=ok_partG (P:=P) (w:=w) (base:=base) T
 refine yT T.t_is_out sc_is_out (fun vs H Q E h=>?_) (fun f cdv A outer s H vs Q E hr h=>?_)
 ·obtain ⟨_,_,_,_,_,rfl,_⟩:=h
  rfl
 obtain ⟨x,l,g,ys,rs,rfl,hx,hl,ht,hs,th,sh,hz,rb,q⟩:=h
 refine ⟨_,(zG (yh (PW.pt (pw_or (j4 (jS (zw Jt rfl B.isinstance xt (zB (pv 0) (zB (zAf (v:=.ty "tuple") rfl B.tuple Ju rfl) zD))))) (zAP (zn zAN (zw call_lenU rfl B.len xI (zB (pv 0) zD)) zC (yA _))))) (zM (zd zAM)) yE)
  (zG (yh (j4 (jS (zw (call_all rfl) rfl B.all bo_all (zB (yU (N:=["part"]) (nt:=1) (cs:=[]) rfl (zBb (pv 0)) (fun nd C s H fp=>⟨(zS (i:=0) nd rfl (by walk_at "o")),yq,(zP C_is_whole hr rfl (zB (pv 0) zD))⟩) (by decide +kernel) (by first | rfl | decide +kernel) (by first | rfl | decide +kernel) rfl (fun _=>rfl)) zD)))) (zM (zd zAM)) yE)
  (zM (zd (pe_or (ju (op_eqD hr) (pv 0) (Jd (v:=.ref cst_NO_OUT) rfl mg_NO_OUT rfl) (yA _)) (zBZ (zBa (ju op_in_seq (zQ yL (pv 0) zC (fun _ _=>rfl)) (yV (zB zC (zB (zAz Jh zC) zD))) (by with_unfolding_all rfl)) (zBZ (zP C_is_part hr rfl (zB (zQ yL (pv 0) zC (fun _ _=>rfl)) (zB (zQ yL (pv 0) zC (fun _ _=>rfl)) (zB (pv 1) zD)))))))))))),?_⟩
 rw [show yJ ["out","rows"] [.ref x,.ref l]=[some (.ref x),some (.ref l)] from rfl]
 unfold gTp at hx
 (iterate 5 ((try (walk_at "WP")); (try (simp only [hx,qJs,qJt,qJl,qJd,exists_eq_left',exists_eq_left])))); (try (walk_at "WP"))
 rw [isI_tt hx]
 (iterate 5 ((try (walk_at "WP")); (try (simp only [hx,qJs,qJt,qJl,qJd,exists_eq_left',exists_eq_left])))); (try (walk_at "WP"))
 rw [if_neg (show ¬ ¬ (((0+1+1+1:Nat):Int)=3) by decide)]
 have hx0:=SqT.of (K:=K) hx
 refine ⟨⟨_,hx0⟩,?_⟩
 refine comp_T (f:=fun _=>some (.bl true)) hx0 (jK (by show 3 <= 100000; decide)) (fun y H' R hy hS' hR=>?_) (fun acc hacc=>?_)
 ·have hi:∃ i,y = .int i:=by
   simp only [zV,yQ,or_false] at hy
   rcases hy with e | e | e
   ·exact ⟨_,e⟩
   ·exact ⟨_,e⟩
   ·exact ⟨_,e⟩
  obtain ⟨i,rfl⟩:=hi
  try walk_at "WP"
  exact ⟨i,rfl,hR⟩
 have sa:=zO hacc (.lst ([V.int (g.th:Int),V.int g.sh,V.int g.sg].filterMap fun _=>some (V.bl true)))
 have hac:upd H acc (.lst ([V.int (g.th:Int),V.int g.sh,V.int g.sg].filterMap fun _=>some (V.bl true))) acc=some (.lst ([true,true,true].map V.bl)):=zF
 generalize upd H acc (.lst ([V.int (g.th:Int),V.int g.sh,V.int g.sg].filterMap fun _=>some (V.bl true)))=H1 at sa hac ⊢
 refine ⟨acc,[true,true,true],rfl,hac,?_⟩
 try walk_at "WP"
 rw [if_neg (by decide)]
 refine eqTI (ns:=[(g.th:Int),g.sh,g.sg]) (ms:=[0,0,0]) (sa.seqT hx0) (hcst.sq H1) ?_
 have hx1:=sa _ _ hx
 have hl1:=sa _ _ hl
 refine ⟨_,rfl,?_⟩
 rw [if_neg (by simp only [decide_eq_true_eq]; intro e; have:=(List.cons.inj (List.cons.inj (List.cons.inj e).2).2).1; omega)]
 refine ⟨_,hx1,_,rfl,fun t nt=>?_⟩
 refine in_tup zF rfl rfl ?_
 have hin:(if false then !inV (V.int g.sg) [V.int 1,V.int (-1)] else inV (V.int g.sg) [V.int 1,V.int (-1)])=true:=by
  rcases hs with e | e <;> rw [e] <;> decide
 rw [hin]
 have st:=zO nt (.tup [V.int 1,V.int (-1)])
 have hx2:=st _ _ hx1
 have hl2:=st _ _ hl1
 generalize upd H1 t (.tup [V.int 1,V.int (-1)])=H2 at st hx2 hl2 ⊢
 refine ⟨_,rfl,?_⟩
 rw [if_pos rfl]
 refine ⟨_,hx2,_,rfl,_,hx2,_,rfl,?_⟩
 exact ⟨g.th,g.sh,l,ys,rs,rfl,hl2,(ht.same sa).same st,th,sh,hz,rb,fun H3 s3=>q _ ((sa.trans st).trans s3)⟩
theorem ok_webG (T:Txt K mg):Cal P w K mg base 5 "web_of" ["ins","deeds","outs"] spWebG:=by
 have B:=T.bl
 obtain ⟨_,mg_MOST_INS⟩:=T.i_MOST_INS
 obtain ⟨_,mg_MOST_OUTS⟩:=T.i_MOST_OUTS
 have C_is_between:=(ok_btwG (P:=P) (w:=w) (base:=base) T).mono (k:=4) (by decide)
 have C_is_deed:=ok_deedG (P:=P) (w:=w) (base:=base) T
 have C_is_out:=ok_outG (P:=P) (w:=w) (base:=base) T
 have C_input_rows:=(ok_inrows (P:=P) (w:=w) (base:=base) T).mono (k:=4) (by decide)
 have C_deed_row:=(ok_drow4 (P:=P) (w:=w) (base:=base) T).mono (k:=4) (by decide)
 refine yT T.t_web_of sc_web_of (fun vs H Q E h=>?_) (fun f cdv A outer s H vs Q E hr h=>?_)
 ·obtain ⟨_,_,_,_,_,_,_,rfl,_⟩:=h
  rfl
 obtain ⟨n,dl,gl,us,os,ds,gs,rfl,hdl,hgl,hds,hgs,⟨F,gz⟩,q⟩:=h
 have i1:=F.ok.i1
 have i12:=F.ok.i2
 have d60:=F.ok.dl
 have g12:=F.ok.gl
 refine ⟨_,(zG (yh (PW.pt (pw_or (j4 (jS (zP C_is_between hr rfl (zB (pv 0) (zB zC (zB (Jd (v:=.int 12) rfl mg_MOST_INS ⟨_,rfl⟩) zD)))))) (pw_or (j4 (jS (zw Jt rfl B.isinstance xt (zB (pv 1) (zB (zAf (v:=.ty "list") rfl B.list Je rfl) zD))))) (zAP (j4 (jS (zw Jt rfl B.isinstance xt (zB (pv 2) (zB (zAf (v:=.ty "list") rfl B.list Je rfl) zD))))))))) (zM zBE) yE)
  (zG (zf (i:=3) sc_web_of.nd rfl (by walk_at "o") (zP C_input_rows hr rfl (zB (pv 0) zD)))
  (xO (xR PassesOwn.never rfl (zAi rfl B.enumerate (zB (pv 1) zD)) (jQ 2 rfl (zu (zS (i:=4) sc_web_of.nd rfl (by walk_at "o")) (zu (zS (i:=5) sc_web_of.nd rfl (by walk_at "o")) xa))) (zG (yh (j4 (jS (zP C_is_deed hr rfl (zB (pv 5) (zB (pv 3) zD))))) (zM zBE) yE)
  (zM (xZ (j6 zm zk zj yd (pv 3) (zB (zP C_deed_row hr rfl (zB (pv 5) (zB (pv 3) zD))) zD))))))
  (zG (xR PassesOwn.never rfl (zAi rfl B.enumerate (zB (pv 2) zD)) (jQ 2 rfl (zu (zS (i:=4) sc_web_of.nd rfl (by walk_at "o")) (zu (zS (i:=6) sc_web_of.nd rfl (by walk_at "o")) xa))) (zM (yh (PW.pt (pw_or (zn op_ge (pv 4) (Jd (v:=.int 12) rfl mg_MOST_OUTS ⟨_,rfl⟩) (yA _)) (zAP (j4 (jS (zP C_is_out hr rfl (zB (pv 6) (zB (pv 3) zD)))))))) (zM zBE) yE)))
  (zM (zd (yV (zB (pv 0) (zB (xc JB rfl B.list Je (zB (pv 1) zD)) (zB (xc JB rfl B.list Je (zB (pv 2) zD)) zD)))))))))),?_⟩
 rw [show yJ ["ins","deeds","outs","rows","place","deed","out"] [.int (n:Int),.ref dl,.ref gl]=[some (.int (n:Int)),some (.ref dl),some (.ref gl),none,none,none,none] from rfl]
 (iterate 5 ((try (walk_at "WP")); (try (simp only [hdl,hgl,qJs,qJt,qJl,qJd,exists_eq_left',exists_eq_left])))); (try (walk_at "WP"))
 refine ⟨n,1,_,rfl,by omega,by omega,?_⟩
 try walk_at "WP"
 rw [isI_ll hdl]
 try walk_at "WP"
 rw [isI_ll hgl]
 try walk_at "WP"
 refine ⟨n,rfl,by omega,fun rl ys H1 nr s1 hr1 ht=>?_⟩
 have rb8:∀ i,RB 8000 (rowsW n (ds.take i)):=fun i r hr=>F.f4.rb r (zAe i hr)
 have dsl:=hds.len
 refine jA (fun σ H2=>∃ (o1 o2:Option V) (ys:List V),σ = [some (.int (n:Int)),some (.ref dl),some (.ref gl),some (.ref rl),o1,o2,none] /\ Same H H2 /\ H2 rl=some (.lst ys) /\ HTs iT H2 ys (rowsW n ds)) (fun N hN=>?_) ?_
 ·try walk_at "WP"
  refine ⟨_,SqL.of (s1 _ _ hdl),?_⟩
  refine forE (xs:=us) (fun i σ H2=>∃ (o1 o2:Option V) (ys:List V),σ = [some (.int (n:Int)),some (.ref dl),some (.ref gl),some (.ref rl),o1,o2,none] /\ Same H H2 /\ H2 rl=some (.lst ys) /\ HTs iT H2 ys (rowsW n (ds.take i))) ⟨_,_,ys,rfl,s1,hr1,ht⟩ ?_ ?_ ?_
  ·rintro i σ H2 _ ⟨_,_,_,_,s2,_⟩
   exact SqL.of (s2 _ _ hdl)
  ·rintro i v t σ H2 N2 hv ht2 ⟨o1,o2,ys,rfl,s2,hr2,hts⟩ hN2
   have hi:i < ds.length:=by rw [← dsl]; exact (qB.mp hv).1
   have hci:=qA hi
   generalize ds[i]=d at hci
   obtain ⟨x,hv1,hv2⟩:=hds.at_ i d hci
   rw [hv] at hv1
   cases hv1
   refine JD ht2 fun H3 st h9=>?_
   have s3:=s2.trans st
   have hr3:=st _ _ hr2
   have hts3:=hts.same st
   obtain ⟨da,db,sa,sb⟩:=F.sh i d hci
   have dw:=(F.ok.dk i d hci).2.2
   have rlen:(rowsW n (ds.take i)).length=n+i:=by rw [rowsW_len,qO]; omega
   have yl:=hts.len
   rw [← zB0 (i:=i) (by omega) da] at sa
   rw [← zB0 (i:=i) (by omega) db] at sb
   (iterate 5 ((try (walk_at "WP")); (try (simp only [h9,qJs,qJt,qJl,qJd,exists_eq_left',exists_eq_left])))); (try (walk_at "WP"))
   refine ⟨x,rl,d,ys,_,rfl,s3 _ _ hv2,hr3,hts3,dw,by omega,by omega,sa,sb,by omega,rb8 i,fun H4 s4=>?_⟩
   have s34:=s3.trans s4
   have hr4:=s4 _ _ hr3
   try walk_at "WP"
   refine ⟨xb hr4,?_⟩
   refine ⟨x,rl,d,ys,_,n,rfl,SqT.of (s34 _ _ hv2),hr4,hts3.same s4,by omega,by omega,sa.s4,sb.s4,fun r hr=>F.wd r (zAe i hr),i12,rb8 i,fun r H5 nr5 s5 h5=>?_⟩
   have hr5:=s5 _ _ hr4
   refine ⟨ys,hr5,qJ (by omega:ys.length < 1000) (yG (by decide)),hN2 _ _ ⟨_,_,_,rfl,same_upd nr (s34.trans s5),zF,?_⟩⟩
   rw [zAJ hci]
   exact (((hts3.same s4).same s5).chgL hr5 (Chg.upd _)).snoc (by rw [yH (xU h5 hr5 (by intro z; cases z))]; exact h5)
  ·rintro σ H2 ⟨o1,o2,ys,rfl,s2,hr2,hts⟩
   rw [dsl,zt] at hts
   exact hN _ _ ⟨o1,o2,ys,rfl,s2,hr2,hts⟩
 ·rintro σ H2 ⟨o1,o2,ys,rfl,s2,hr2,hts⟩
  have osl:=hgs.len
  have yl:=hts.len
  have rlen:=rowsW_len n ds
  try walk_at "WP"
  refine ⟨_,SqL.of (s2 _ _ hgl),?_⟩
  refine forE (xs:=os) (fun i σ H3=>∃ (o4 o5 o6:Option V),σ = [some (.int (n:Int)),some (.ref dl),some (.ref gl),some (.ref rl),o4,o5,o6] /\ Same H2 H3) ⟨_,_,_,rfl,Same.refl _⟩ ?_ ?_ ?_
  ·rintro i σ H3 _ ⟨_,_,_,_,s3⟩
   exact SqL.of (s3 _ _ (s2 _ _ hgl))
  ·rintro i v t σ H3 N2 hv ht3 ⟨o4,o5,o6,rfl,s3⟩ hN2
   have hi:i < gs.length:=by rw [← osl]; exact (qB.mp hv).1
   have hgi:=qA hi
   generalize gs[i]=g at hgi
   obtain ⟨x,hv1,hv2⟩:=hgs.at_ i g hgi
   rw [hv] at hv1
   cases hv1
   have gm:=qE hgi
   refine JD ht3 fun H4 st h9=>?_
   have s24:=s3.trans st
   (iterate 5 ((try (walk_at "WP")); (try (simp only [h9,qJs,qJt,qJl,qJd,exists_eq_left',exists_eq_left])))); (try (walk_at "WP"))
   rw [if_neg (by omega)]
   have gg:(g.sg=1 \/ g.sg = -1) /\ Sh g.sh ((rowsW n ds).getD g.th []):=by
    rcases F.go g gm with z | z
    ·exact absurd (by rw [z]) (gz g gm)
    ·exact z
   refine ⟨x,rl,g,ys,_,rfl,s24 _ _ (s2 _ _ hv2),s24 _ _ hr2,hts.same s24,gg.1,by have:=F.ok.gk g gm; omega,gg.2,by omega,F.f4.rb,fun H5 s5=>?_⟩
   try walk_at "WP"
   exact hN2 _ _ ⟨_,_,_,rfl,s24.trans s5⟩
  ·rintro σ H3 ⟨o4,o5,o6,rfl,s3⟩
   have s03:=s2.trans s3
   try walk_at "WP"
   refine ⟨us,.inl (SqL.of (s03 _ _ hdl)),fun a na=>?_⟩
   refine JD na fun H4 s4 h4=>?_
   refine ⟨os,.inl (SqL.of ((s03.trans s4) _ _ hgl)),fun b nb=>?_⟩
   refine JD nb fun H5 s5 h5=>?_
   intro r nr'
   refine JD nr' fun H6 s6 h6=>?_
   exact q r a b H6 (((s03.trans s4).trans s5).trans s6) h6 ((s5.trans s6) _ _ h4) (s6 _ _ h5)
end
section
variable {P:Program}{w:World}{K:zA}{mg:Str -> Option Value}{base:Heap}
theorem ok_nums4 (T:Txt K mg):Cal P w K mg base 4 "numbers" ["web"] (spNums4B K):=by
 have B:=T.bl
 have C_input_rows:=(ok_inrows (P:=P) (w:=w) (base:=base) T).mono (k:=3) (by decide)
 have C_deed_row:=ok_drow4 (P:=P) (w:=w) (base:=base) T
 refine yT T.t_numbers sc_numbers (fun vs H Q E h=>?_) (fun f cdv A outer s H vs Q E hr h=>?_)
 ·obtain ⟨x,_,_,_,_,_,_,_,rfl,_⟩:=h
  rfl
 obtain ⟨x,dl,gl,ins,us,ds,os,gs,rfl,W,F,q⟩:=h
 refine ⟨_,(zG (zf (i:=1) sc_numbers.nd rfl (by walk_at "o") (zP C_input_rows hr rfl (zB (zQ yL (pv 0) zC (fun _ _=>rfl)) zD)))
  (zG (xR PassesOwn.never rfl (yc (zQ yL (pv 0) zC (fun _ _=>rfl))) (zS (i:=2) sc_numbers.nd rfl (by walk_at "o")) (zM (xZ (j6 zm zk zj yd (pv 1) (zB (zP C_deed_row hr rfl (zB (pv 2) (zB (pv 1) zD))) zD)))))
  (zM (zd (pv 1))))),?_⟩
 rw [show yJ ["web","rows","deed"] [.ref x]=[some (.ref x),none,none] from rfl]
 have h1:=W.tup
 (iterate 5 ((try (walk_at "WP")); (try (simp only [h1,qJs,qJt,qJl,qJd,exists_eq_left',exists_eq_left])))); (try (walk_at "WP"))
 have i12:=F.ok.i2
 have dl60:=F.ok.dl
 refine ⟨ins,rfl,by omega,fun rw0 ys H1 nr s1 hr1 ht=>?_⟩
 have h2:=s1 _ _ h1
 (iterate 5 ((try (walk_at "WP")); (try (simp only [h2,qJs,qJt,qJl,qJd,exists_eq_left',exists_eq_left])))); (try (walk_at "WP"))
 refine ⟨⟨_,SqL.of (s1 _ _ W.dll)⟩,?_⟩
 refine forL (xs:=us) (fun i σ H2=>∃ (o2:Option V) (ys:List V),σ = [some (.ref x),some (.ref rw0),o2] /\ Same H H2 /\ H2 rw0=some (.lst ys) /\ HTs iT H2 ys (rowsW ins (ds.take i))) ⟨none,ys,rfl,s1,hr1,ht⟩ ?_ ?_ ?_
 ·rintro i σ H2 _ ⟨_,_,_,s2,_⟩
  exact SqL.of (s2 _ _ W.dll)
 ·rintro i v σ H2 N hv ⟨o2,ys,rfl,s2,hr2,ht2⟩ hN
  have hi:i < ds.length:=by rw [← W.hds.len]; exact (qB.mp hv).1
  obtain ⟨y,hy1,hy2⟩:=W.hds.at_ i _ (qA hi)
  have hdi:ds[i]? = some ds[i]:=qA hi
  generalize ds[i]=d at hy2 hdi
  rw [hv] at hy1
  cases hy1
  try walk_at "WP"
  refine ⟨xb hr2,?_⟩
  obtain ⟨da,db,sa,sb⟩:=F.sh i d hdi
  have rl:(rowsW ins (ds.take i)).length=ins+i:=by rw [rowsW_len,qO]; omega
  refine ⟨y,rw0,d,ys,rowsW ins (ds.take i),ins,rfl,SqT.of (s2 _ _ hy2),hr2,ht2,by omega,by omega,by rw [Jg (by omega) da]; exact sa,by rw [Jg (by omega) db]; exact sb,fun r hr=>F.wd r (rowsW_sub r hr),i12,fun r hr=>F.rb r (rowsW_sub r hr),fun r H3 nr3 s3 hr3=>?_⟩
  have hr4:=s3 _ _ hr2
  have yl:ys.length=ins+i:=by rw [ht2.len,rl]
  (iterate 5 ((try (walk_at "WP")); (try (simp only [hr4,qJs,qJt,qJl,qJd,exists_eq_left',exists_eq_left])))); (try (walk_at "WP"))
  refine ⟨qJ (by omega:ys.length < 1000) (yG (by decide)),hN _ _ ⟨_,_,rfl,same_upd nr (s2.trans s3),zF,?_⟩⟩
  rw [zAJ hdi]
  exact ((ht2.same s3).chgL hr4 (Chg.upd _)).snoc (by rw [yH (xU hr3 hr4 (by intro z; cases z))]; exact hr3)
 ·rintro σ H2 ⟨o2,ys,rfl,s2,hr2,ht2⟩
  try walk_at "WP"
  rw [W.hds.len,zt] at ht2
  exact q rw0 ys H2 nr s2 hr2 ht2
end
section
variable {P:Program}{w:World}{K:zA}{mg:Str -> Option Value}{base:Heap}
theorem ok_form (T:Txt K mg):Cal P w K mg base 2 "form_of" ["row"] spForm:=by
 have B:=T.bl
 have C_core:=ok_core (P:=P) (w:=w) (base:=base) T
 have C_shifted:=zAL (P:=P) (w:=w) (base:=base) T
 refine yT T.t_form_of sc_form_of (fun vs H Q E h=>?_) (fun f cdv A outer s H vs Q E hr h=>?_)
 ·obtain ⟨_,_,rfl,_⟩:=h
  rfl
 obtain ⟨r,row,rfl,hr0,rl,rb,q0,q1⟩:=h
 refine ⟨_,(zG (jU (ix:=1) (N:=["number"]) (nt:=1) (cs:=[]) rfl (zBb (pv 0)) (fun nd C s H fp=>⟨(zS (i:=0) nd rfl (by walk_at "o")),(pn_one (zn zAN (pv 0) zC (yA _))),(zP C_core hr rfl (zB (pv 0) zD))⟩) (by decide +kernel) (by first | rfl | decide +kernel) (by first | rfl | decide +kernel) rfl (fun _=>rfl) sc_form_of.nd rfl (by walk_at "o") (by walk_at "o") rfl)
  (zG (yh (zn (op_eqE hr) (pv 1) (xp zD) (yA _)) (zM (zd (yV (zB (pv 0) (zB zC (zB zC zD)))))) yE)
  (zG (zf (i:=2) sc_form_of.nd rfl (by walk_at "o") (zw (call_minG rfl) rfl B.min bo_min (zB (yU (N:=["part"]) (nt:=1) (cs:=[]) rfl (yc (pv 1)) (fun nd C s H fp=>⟨(zS (i:=0) nd rfl (by walk_at "o")),yq,(zQ yL (pv 0) zC (fun _ _=>rfl))⟩) (by decide +kernel) (by first | rfl | decide +kernel) (by first | rfl | decide +kernel) rfl (fun _=>rfl)) zD)))
  (zG (zf (i:=3) sc_form_of.nd rfl (by walk_at "o") (zQ yL (zQ x6 (pv 1) zC (fun _ _=>rfl)) zC (fun _ _=>rfl)))
  (zM (zd (yV (zB (xc jv rfl B.tuple Ju (zB (yU (N:=["number","sign","shift"]) (nt:=1) (cs:=[3,2]) rfl (zBb (pv 0)) (fun nd C s H fp=>⟨(zS (i:=0) nd rfl (by walk_at "o")),yq,(zU yX (pv 1) (zP C_shifted hr rfl (zB (pv 0) (zB (zAz Jh (pv 2)) zD))))⟩) (by decide +kernel) (by first | rfl | decide +kernel) (by first | rfl | decide +kernel) rfl (fun _=>rfl)) zD)) (zB (pv 2) (zB (pv 3) zD)))))))))),?_⟩
 rw [show yJ ["row","cores","shift","sign"] [.ref r]=[some (.ref r),none,none,none] from rfl]
 refine jT fun R_ hR_=>?_
 try walk_at "WP"
 refine ⟨⟨_,SqT.of hr0⟩,?_⟩
 refine comp_tupF (fun x=>decide (x ≠ 0)) coT hr0 (by omega) (fun n H' R hn s' hR=>?_) (fun n H' R hn s' hR=>?_) (fun c ws H1 nc s1 hc ht=>?_)
 ·try walk_at "WP"
  have e:(!decide (n=0))=decide (n ≠ 0):=by simp
  rw [e]
  exact hR
 ·try walk_at "WP"
  refine ⟨n,rfl,fun p np=>?_⟩
  exact hR p _ (zO np _) zF
 have fl:(row.filter fun x=>decide (x ≠ 0)).length <= row.length:=List.length_filter_le _ _
 (try (walk_at "WP")); (try (refine jR hR_ ?_)); (try (refine jT fun R_ hR_=>?_)); (try (walk_at "WP"))
 intro e ne
 refine JD ne fun H2 s2 h2=>?_
 have s12:=s1.trans s2
 refine ⟨ws,SqL.of (s2 _ _ hc),SqL.of h2,?_⟩
 (try (walk_at "WP")); (try (refine jR hR_ ?_)); (try (refine jT fun R_ hR_=>?_)); (try (walk_at "WP"))
 have wl:=ht.len
 refine xS (fun z=>?_) (fun z=>?_)
 ·intro t nt
  refine q0 (fun x hx=>Classical.byContradiction fun x0=>?_) t _ (s12.trans (zO nt _)) zF
  have:=List.length_pos_of_mem (Jn.mpr ⟨hx,decide_eq_true x0⟩:x ∈ row.filter fun x=>decide (x ≠ 0))
  omega
 obtain ⟨n,rest,ef⟩:∃ n rest,(row.filter fun x=>decide (x ≠ 0))=n :: rest:=List.exists_cons_of_length_pos (by omega)
 obtain ⟨i0,hi0,n0,hz0⟩:=first_nz ef
 have hc2:=s2 _ _ hc
 have ht2:=ht.same s2
 have mf:∀ x,x ∈ (row.filter fun x=>decide (x ≠ 0)) ↔ x ∈ row /\ x ≠ 0:=fun x=>by rw [Jn,decide_eq_true_eq]
 (try (walk_at "WP")); (try (refine jR hR_ ?_)); (try (refine jT fun R_ hR_=>?_)); (try (walk_at "WP"))
 refine ⟨⟨_,SqL.of hc2⟩,?_⟩
 refine comp_hi shN hc2 ht2 (by omega) (fun t x H' R hx htx s' hR=>?_) (fun l H3 nl s3 h3=>?_)
 ·have htx':=s' _ _ htx
  unfold coT at htx'
  (iterate 5 ((try (walk_at "WP")); (try (simp only [htx',qJs,qJt,qJl,qJd,exists_eq_left',exists_eq_left])))); (try (walk_at "WP"))
  exact hR
 refine ⟨l,_,rfl,h3,by rw [ef]; simp,fun v vm vg=>?_⟩
 obtain ⟨x1,hx1,ev⟩:=qP.mp vm
 have hx1':=(mf x1).mp hx1
 obtain ⟨k,ek,k4⟩:=sh_le hx1'.2 (rb x1 hx1'.1)
 have vk:v=k:=by rw [← ev,ek]
 subst vk
 have hmin:∀ x ∈ row,x ≠ 0 -> (k:Int) <= shN x:=fun x hx x0=>vg _ (qP.mpr ⟨x,(mf x).mpr ⟨hx,x0⟩,rfl⟩)
 have F:=frm_of hmin ⟨x1,hx1'.1,hx1'.2,ek⟩ ⟨i0,n,hi0,n0,rfl,hz0⟩
 have e13:=s12.trans s3
 obtain ⟨t0,hw0,ht0⟩:=ht.at_ 0 n (by rw [ef]; rfl)
 have ht3:=(s2.trans s3) _ _ ht0
 unfold coT at ht3
 (try (walk_at "WP")); (try (refine jR hR_ ?_)); (try (refine jT fun R_ hR_=>?_)); (try (walk_at "WP"))
 refine ⟨ws,(s2.trans s3) _ _ hc,.ref t0,yz (j:=0) hw0,?_⟩
 (iterate 5 ((try (walk_at "WP")); (try (simp only [ht3,qJs,qJt,qJl,qJd,exists_eq_left',exists_eq_left])))); (try (walk_at "WP"))
 (try (walk_at "WP")); (try (refine jR hR_ ?_)); (try (refine jT fun R_ hR_=>?_)); (try (walk_at "WP"))
 refine ⟨⟨_,SqT.of (e13 _ _ hr0)⟩,?_⟩
 refine comp_T (f:=fmV (sgN n) k) (SqT.of (e13 _ _ hr0)) (by rw [qC]; exact jK (by omega)) (fun y H' R hy hS' hR=>?_) (fun acc hacc=>?_)
 ·obtain ⟨x,hx,rfl⟩:=qP.mp hy
  rw [show yZ [3,2] [some (V.ref r),some (V.ref c),some (V.int (k:Int)),some (V.int (sgN n))]=[some (V.int (sgN n)),some (V.int (k:Int))] from rfl]
  try walk_at "WP"
  refine ⟨x,_,rfl,by omega,by omega,qJ (rb x hx) (qN (by decide) (by decide)),?_⟩
  rw [shV_div (div_row hmin x hx)]
  try walk_at "WP"
  refine ⟨?_,hR⟩
  rcases F.sg with z | z <;> rw [z] <;> exact mul_l (by decide) (by decide)
 rw [fmV_map]
 refine JD hacc fun H4 s4 h4=>?_
 try walk_at "WP"
 refine ⟨_,.inl ⟨SqL.of h4,fun f nf=>?_⟩⟩
 refine JD nf fun H5 s5 h5=>fun t nt=>?_
 exact q1 t f _ k (sgN n) _ (((e13.trans s4).trans s5).trans (zO nt _)) zF ((zO nt _) _ _ h5) F
end
section
variable {P:Program}{w:World}{K:zA}{mg:Str -> Option Value}{base:Heap}
theorem ok_partby (T:Txt K mg):Cal P w K mg base 1 "part_by" ["kept","forms","part"] (spPartBy K):=by
 have B:=T.bl
 obtain ⟨cst_NO_OUT,mg_NO_OUT,hcst⟩:=T.c_NO_OUT
 refine yT T.t_part_by sc_part_by (fun vs H Q E h=>?_) (fun f cdv A outer s H vs Q E hr h=>?_)
 ·obtain ⟨_,_,_,_,_,_,_,_,_,_,_,rfl,_⟩:=h
  rfl
 obtain ⟨d,l,p,kvs,us,rows,R',a,sh,sg,row,rfl,hd,st,hl,fl,hp,ha,hs,q0,q1⟩:=h
 refine ⟨_,(zG (zf (i:=3) sc_part_by.nd rfl (by walk_at "o") (zQ x6 (pv 1) (zQ yL (pv 2) zC (fun _ _=>rfl)) (fun _ _=>rfl)))
  (zG (yh (PW.pt (pw_or (zn xm (zQ yL (pv 2) zC (fun _ _=>rfl)) zC (yA _)) (zAP (zn xm (zQ yL (pv 3) zC (fun _ _=>rfl)) zC (yA _))))) (zM (zd (Jd (v:=.ref cst_NO_OUT) rfl mg_NO_OUT rfl))) yE)
  (zG (zf (i:=4) sc_part_by.nd rfl (by walk_at "o") (pe_dgT (j7 hr) (pv 0) (zQ yL (pv 3) zC (fun _ _=>rfl)) (fun _ _=>rfl)))
  (zM (zd (yV (zB (zQ yL (pv 4) zC (fun _ _=>rfl)) (zB (zU xK (zU yp (zQ yL (pv 2) zC (fun _ _=>rfl)) (zQ yL (pv 3) zC (fun _ _=>rfl))) (zQ yL (pv 4) zC (fun _ _=>rfl))) (zB (zU yX (zU yX (zQ yL (pv 2) zC (fun _ _=>rfl)) (zQ yL (pv 3) zC (fun _ _=>rfl))) (zQ yL (pv 4) zC (fun _ _=>rfl))) zD))))))))),?_⟩
 rw [show yJ ["kept","forms","part","form","stand"] [.ref d,.ref l,.ref p]=[some (.ref d),some (.ref l),some (.ref p),none,none] from rfl]
 (iterate 5 ((try (walk_at "WP")); (try (simp only [hp,qJs,qJt,qJl,qJd,exists_eq_left',exists_eq_left])))); (try (walk_at "WP"))
 have hal:a < us.length:=by rw [fl.1]; exact (qB.mp ha).1
 have hu:us[a]? = some us[a]:=qA hal
 generalize us[a]=u at hu
 obtain ⟨t,rfl,hf⟩:=fl.2 a u row hu ha
 refine ⟨us,hl,.ref t,yz hu,?_⟩
 refine xS (fun z=>q0 (.inl z) _ (hcst.sq H)) (fun z=>?_)
 rcases hf with ⟨az,r,h1⟩ | ⟨f0,fs,k,g,h1,h2,F⟩
 ·(iterate 5 ((try (walk_at "WP")); (try (simp only [h1,qJs,qJt,qJl,qJd,exists_eq_left',exists_eq_left])))); (try (walk_at "WP"))
  exact q0 (.inr az) _ (hcst.sq H)
 ·obtain ⟨q2,q3⟩:=q1 fs k g z F
  obtain ⟨v,hv⟩:=jL.mp q2
  obtain ⟨t2,i,b,h,rfl,h3,h4,h5⟩:=st fs v hv
  (iterate 5 ((try (walk_at "WP")); (try (simp only [h1,qJs,qJt,qJl,qJd,exists_eq_left',exists_eq_left])))); (try (walk_at "WP"))
  refine xS (fun y=>absurd y (by rcases F.sg with r | r <;> rw [r] <;> decide)) (fun _=>?_)
  refine ⟨fs,kvs,hd,h2,.ref t2,hv,?_⟩
  (iterate 5 ((try (walk_at "WP")); (try (simp only [h1,h3,hp,qJs,qJt,qJl,qJd,exists_eq_left',exists_eq_left])))); (try (walk_at "WP"))
  refine ⟨mul_l (by omega) (by omega),mul_r (by omega) (by omega),fun r nr=>?_⟩
  exact q3 r i b h _ (zO nr _) zF h4 h5
theorem ok_partsof (T:Txt K mg):Cal P w K mg base 2 "parts_of" ["deed"] spPts29:=by
 have B:=T.bl
 have C_second_sign:=ok_second (P:=P) (w:=w) (base:=base) T
 refine yT T.t_parts_of sc_parts_of (fun vs H Q E h=>?_) (fun f cdv A outer s H vs Q E hr h=>?_)
 ·obtain ⟨_,_,rfl,_⟩:=h
  rfl
 obtain ⟨x,d,rfl,hx,q⟩:=h
 refine ⟨_,(zM (zd (xp (zB (yV (zB (zQ yL (pv 0) zC (fun _ _=>rfl)) (zB (zQ yL (pv 0) zC (fun _ _=>rfl)) (zB zC zD)))) (zB (yV (zB (zQ yL (pv 0) zC (fun _ _=>rfl)) (zB (zQ yL (pv 0) zC (fun _ _=>rfl)) (zB (zP C_second_sign hr rfl (zB (pv 0) zD)) zD)))) zD))))),?_⟩
 rw [show yJ ["deed"] [.ref x]=[some (.ref x)] from rfl]
 have hx':=hx
 unfold j5 at hx'
 (iterate 5 ((try (walk_at "WP")); (try (simp only [hx',qJs,qJt,qJl,qJd,exists_eq_left',exists_eq_left])))); (try (walk_at "WP"))
 intro t nt
 refine JD nt fun H1 s1 h1=>?_
 have hx1:=s1 _ _ hx'
 (iterate 5 ((try (walk_at "WP")); (try (simp only [hx1,qJs,qJt,qJl,qJd,exists_eq_left',exists_eq_left])))); (try (walk_at "WP"))
 refine ⟨_,rfl,x,d,rfl,s1 _ _ hx,?_⟩
 intro u nu
 refine JD nu fun H2 s2 h2=>fun l nl=>?_
 exact q l t u _ ((s1.trans s2).trans (zO nl _)) zF ((zO nl _) _ _ (s2 _ _ h1)) ((zO nl _) _ _ h2)
end
section
variable {P:Program}{w:World}{K:zA}{mg:Str -> Option Value}{base:Heap}
theorem ok_deedE (T:Txt K mg):Cal P w K mg base 1 "deed_of" ["one","other"] (spDeedE K):=by
 have B:=T.bl
 refine yT T.t_deed_of zCD (fun vs H Q E h=>?_) (fun f cdv A outer s H vs Q E hr h=>?_)
 ·obtain ⟨_,_,_,_,rfl,_⟩:=h
  rfl
 obtain ⟨p1,p2,G,R,rfl,h1,h2,q⟩:=h
 unfold gTp at h1 h2
 refine ⟨_,(zG (yh (zn xm (zQ ix_tup (pv 0) zC (fun _ _=>rfl)) (zQ ix_tup (pv 1) zC (fun _ _=>rfl)) (yA _)) (zM (zd (yV (zB xJ (zB (zQ ix_tup (pv 0) zC (fun _ _=>rfl)) (zB (zQ ix_tup (pv 0) zC (fun _ _=>rfl)) (zB (zQ ix_tup (pv 1) zC (fun _ _=>rfl)) (zB (zQ ix_tup (pv 1) zC (fun _ _=>rfl)) zD)))))))) yE)
  (zG (yh (zn xm (zQ ix_tup (pv 0) zC (fun _ _=>rfl)) zC (yA _)) (zM (zd (yV (zB xJ (zB (zQ ix_tup (pv 0) zC (fun _ _=>rfl)) (zB (zQ ix_tup (pv 0) zC (fun _ _=>rfl)) (zB (zQ ix_tup (pv 1) zC (fun _ _=>rfl)) (zB (zQ ix_tup (pv 1) zC (fun _ _=>rfl)) zD)))))))) yE)
  (zM (zd (yV (zB xJ (zB (zQ ix_tup (pv 1) zC (fun _ _=>rfl)) (zB (zQ ix_tup (pv 1) zC (fun _ _=>rfl)) (zB (zQ ix_tup (pv 0) zC (fun _ _=>rfl)) (zB (zQ ix_tup (pv 0) zC (fun _ _=>rfl)) zD)))))))))),?_⟩
 rw [show yJ ["one","other"] [.ref p1,.ref p2]=[some (.ref p1),some (.ref p2)] from rfl]
 try walk_at "WP"
 refine ⟨_,h1,_,rfl,_,h2,_,rfl,?_⟩
 try walk_at "WP"
 refine xS (fun z=>?_) (fun z=>?_)
 ·exact ⟨_,h1,_,rfl,_,h1,_,rfl,_,h2,_,rfl,_,h2,_,rfl,fun r hr0=>q r _ hr0 (zO hr0 _) (by unfold xV; rw [if_pos z,zF]; rfl)⟩
 ·refine ⟨_,h1,_,rfl,?_⟩
  try walk_at "WP"
  refine xS (fun y=>?_) (fun y=>?_)
  ·exact ⟨_,h1,_,rfl,_,h1,_,rfl,_,h2,_,rfl,_,h2,_,rfl,fun r hr0=>q r _ hr0 (zO hr0 _) (by unfold xV; rw [if_neg z,if_pos y,zF]; rfl)⟩
  ·exact ⟨_,h2,_,rfl,_,h2,_,rfl,_,h1,_,rfl,_,h1,_,rfl,fun r hr0=>q r _ hr0 (zO hr0 _) (by unfold xV; rw [if_neg z,if_neg y,zF]; rfl)⟩
theorem ok_signE (T:Txt K mg):Cal P w K mg base 1 "sign_of" ["one","other"] (spSignE K):=by
 have B:=T.bl
 refine yT T.t_sign_of zCE (fun vs H Q E h=>?_) (fun f cdv A outer s H vs Q E hr h=>?_)
 ·obtain ⟨_,_,_,_,rfl,_⟩:=h
  rfl
 obtain ⟨p1,p2,G,R,rfl,h1,h2,q⟩:=h
 unfold gTp at h1 h2
 refine ⟨_,(zM (zd (Jr (zn xm (zQ ix_tup (pv 0) zC (fun _ _=>rfl)) (zQ ix_tup (pv 1) zC (fun _ _=>rfl)) (yA _)) (zQ ix_tup (pv 0) zC (fun _ _=>rfl)) zC))),?_⟩
 rw [show yJ ["one","other"] [.ref p1,.ref p2]=[some (.ref p1),some (.ref p2)] from rfl]
 try walk_at "WP"
 refine ⟨_,h1,_,rfl,_,h2,_,rfl,?_⟩
 try walk_at "WP"
 unfold JX at q
 refine xS (fun z=>?_) (fun z=>?_)
 ·rw [if_pos z] at q
  exact ⟨_,h1,_,rfl,q⟩
 ·rw [if_neg z] at q
  exact q
end
section
variable {P:Program}{w:World}{K:zA}{mg:Str -> Option Value}{base:Heap}
theorem ok_countK (T:Txt K mg):Cal P w K mg base 1 "thing_count" ["web"] (spCntK K):=by
 have B:=T.bl
 refine yT T.t_thing_count zCC (fun vs H Q E h=>?_) (fun f cdv A outer s H vs Q E hr h=>?_)
 ·obtain ⟨x,_,_,_,_,_,_,_,rfl,_⟩:=h
  rfl
 obtain ⟨x,dl,gl,ins,us,ds,os,gs,rfl,W,q⟩:=h
 refine ⟨_,(zM (zd (zU yp (zQ yL (pv 0) zC (fun _ _=>rfl)) (zw ye rfl B.len xI (zB (zQ yL (pv 0) zC (fun _ _=>rfl)) zD))))),?_⟩
 rw [show yJ ["web"] [.ref x]=[some (.ref x)] from rfl]
 have h1:=W.tup
 have h2:=W.dll
 (iterate 5 ((try (walk_at "WP")); (try (simp only [h1,h2,qJs,qJt,qJl,qJd,exists_eq_left',exists_eq_left])))); (try (walk_at "WP"))
 rw [W.hds.len]
 exact q
end
section
variable {P:Program}{w:World}{K:zA}{mg:Str -> Option Value}{base:Heap}
theorem ok_darrK (T:Txt K mg):Cal P w K mg base 2 "deed_arrows" ["web"] (spDArrK K):=by
 have B:=T.bl
 have C_second_sign:=ok_second (P:=P) (w:=w) (base:=base) T
 refine yT T.t_deed_arrows sc_deed_arrows (fun vs H Q E h=>?_) (fun f cdv A outer s H vs Q E hr h=>?_)
 ·obtain ⟨x,_,_,_,_,_,_,_,rfl,_⟩:=h
  rfl
 obtain ⟨x,dl,gl,ins,us,ds,os,gs,rfl,W,hlen,q⟩:=h
 refine ⟨_,(zG (zf (i:=1) sc_deed_arrows.nd rfl (by walk_at "o") (xp zD))
  (zG (xR PassesOwn.never rfl (zAi rfl B.enumerate (zB (zQ yL (pv 0) zC (fun _ _=>rfl)) zD)) (jQ 2 rfl (zu (zS (i:=2) sc_deed_arrows.nd rfl (by walk_at "o")) (zu (zS (i:=3) sc_deed_arrows.nd rfl (by walk_at "o")) xa))) (zG (zf (i:=4) sc_deed_arrows.nd rfl (by walk_at "o") (zU yp (zQ yL (pv 0) zC (fun _ _=>rfl)) (pv 2)))
  (zG (xZ (j6 zm zk zj yd (pv 1) (zB (yV (zB (zQ yL (pv 3) zC (fun _ _=>rfl)) (zB (pv 4) (zB (zQ yL (pv 3) zC (fun _ _=>rfl)) (zB zC zD))))) zD)))
  (zM (xZ (j6 zm zk zj yd (pv 1) (zB (yV (zB (zQ yL (pv 3) zC (fun _ _=>rfl)) (zB (pv 4) (zB (zQ yL (pv 3) zC (fun _ _=>rfl)) (zB (zP C_second_sign hr rfl (zB (pv 3) zD)) zD))))) zD)))))))
  (zM (zd (pv 1))))),?_⟩
 rw [show yJ ["web","told","place","deed","thing"] [.ref x]=[some (.ref x),none,none,none,none] from rfl]
 try walk_at "WP"
 intro r hr0
 have sr:=zO hr0 (.lst [])
 have W1:=W.same sr
 have h1:=W1.tup
 (iterate 5 ((try (walk_at "WP")); (try (simp only [h1,qJs,qJt,qJl,qJd,exists_eq_left',exists_eq_left])))); (try (walk_at "WP"))
 refine ⟨_,SqL.of W1.dll,?_⟩
 refine forE (xs:=us) (fun i σ H1=>∃ (o2 o3 o4:Option V) (ws:List V),σ = [some (.ref x),some (.ref r),o2,o3,o4] /\ Same H H1 /\ H1 r=some (.lst ws) /\ HTs aTup H1 ws (arrF ins 0 (ds.take i))) ⟨none,none,none,[],rfl,sr,zF,hts_nil⟩ ?_ ?_ ?_
 ·rintro i σ H1 _ ⟨_,_,_,_,_,s1,_⟩
  exact SqL.of (s1 _ _ W.dll)
 ·rintro i v t σ H1 N hv ht ⟨o2,o3,o4,ws,rfl,s1,hr1,ha⟩ hN
  have hi:i < ds.length:=by rw [← W.hds.len]; exact (qB.mp hv).1
  obtain ⟨y,hy1,hy2⟩:=W.hds.at_ i _ (qA hi)
  have hdi:ds[i]? = some ds[i]:=qA hi
  generalize ds[i]=d at hy2 hdi
  rw [hv] at hy1
  cases hy1
  have st:=zO ht (.tup [V.int (i:Int),.ref y])
  have W2:=(W.same s1).same st
  have h2:=W2.tup
  have hy3:upd H1 t (.tup [V.int (i:Int),.ref y]) y=some (.tup (j5 d)):=st _ _ (s1 _ _ hy2)
  have hr2:=st _ _ hr1
  have ha2:=ha.same st
  have s2:=s1.trans st
  have h9:upd H1 t (.tup [V.int (i:Int),.ref y]) t=some (.tup [V.int (i:Int),.ref y]):=zF
  generalize upd H1 t (.tup [V.int (i:Int),.ref y])=H2 at *
  have hy3':=hy3
  unfold j5 at hy3'
  (iterate 5 ((try (walk_at "WP")); (try (simp only [h9,h2,hy3',qJs,qJt,qJl,qJd,exists_eq_left',exists_eq_left])))); (try (walk_at "WP"))
  have hwl:ws.length=2 * i:=by rw [ha2.len,JW,qO]; omega
  refine ⟨xb hr2,fun p1 hp1=>?_⟩
  have s3:=zO hp1 (.tup [V.int (d.a:Int),V.int ((ins:Int)+(i:Int)),V.int d.s,V.int 1])
  have n1:r ≠ p1:=ne_of_none hr2 hp1
  refine ⟨ws,by rw [yH n1]; exact hr2,qJ (by omega:ws.length < 1000) (yG (by decide)),xb zF,?_⟩
  have hr3:=s3 _ _ hr2
  have ha3:=(ha2.same s3).chgL hr3 (Chg.upd (.lst (ws ++ [.ref p1])))
  have hp1t:(upd (upd H2 p1 (.tup [V.int (d.a:Int),V.int ((ins:Int)+(i:Int)),V.int d.s,V.int 1])) r (.lst (ws ++ [.ref p1]))) p1=some (.tup (aTup ⟨d.a,ins+i,d.s,1⟩)):=by
   rw [yH n1.symm,zF]
   unfold aTup
   rw [show ((ins+i:Nat):Int)=(ins:Int)+(i:Int) by omega]
  have ha4:=ha3.snoc (x:=(⟨d.a,ins+i,d.s,1⟩:Ar)) hp1t
  have hy4:(upd (upd H2 p1 (.tup [V.int (d.a:Int),V.int ((ins:Int)+(i:Int)),V.int d.s,V.int 1])) r (.lst (ws ++ [.ref p1]))) y=some (.tup (j5 d)):=by
   rw [yH (xU hy3 hr2 (by intro z; cases z))]
   exact s3 _ _ hy3
  have s4:Same H (upd (upd H2 p1 (.tup [V.int (d.a:Int),V.int ((ins:Int)+(i:Int)),V.int d.s,V.int 1])) r (.lst (ws ++ [.ref p1]))):=same_upd hr0 (s2.trans s3)
  have hr4:(upd (upd H2 p1 (.tup [V.int (d.a:Int),V.int ((ins:Int)+(i:Int)),V.int d.s,V.int 1])) r (.lst (ws ++ [.ref p1]))) r=some (.lst (ws ++ [.ref p1])):=zF
  generalize upd (upd H2 p1 (.tup [V.int (d.a:Int),V.int ((ins:Int)+(i:Int)),V.int d.s,V.int 1])) r (.lst (ws ++ [.ref p1]))=H3 at s4 hr4 hy4 ha4 ⊢
  refine ⟨_,hy4,_,rfl,_,hy4,_,rfl,y,d,rfl,hy4,fun p2 hp2=>?_⟩
  have s5:=zO hp2 (.tup [V.int (d.b:Int),V.int ((ins:Int)+(i:Int)),V.int d.t,V.int (sgW d.w)])
  have n2:r ≠ p2:=ne_of_none hr4 hp2
  refine ⟨_,by rw [yH n2]; exact hr4,qJ (by simp; omega:(ws ++ [V.ref p1]).length < 1000) (yG (by decide)),?_⟩
  have hr5:=s5 _ _ hr4
  have hp2t:(upd (upd H3 p2 (.tup [V.int (d.b:Int),V.int ((ins:Int)+(i:Int)),V.int d.t,V.int (sgW d.w)])) r (.lst (ws ++ [.ref p1] ++ [.ref p2]))) p2=some (.tup (aTup ⟨d.b,ins+i,d.t,sgW d.w⟩)):=by
   rw [yH n2.symm,zF]
   unfold aTup
   rw [show ((ins+i:Nat):Int)=(ins:Int)+(i:Int) by omega]
  have ha5:=((ha4.same s5).chgL hr5 (Chg.upd (.lst (ws ++ [.ref p1] ++ [.ref p2])))).snoc (x:=(⟨d.b,ins+i,d.t,sgW d.w⟩:Ar)) hp2t
  refine hN _ _ ⟨_,_,_,_,rfl,same_upd hr0 (s4.trans s5),zF,?_⟩
  have tk:ds.take (i+1)=ds.take i ++ [d]:=by rw [za,hdi]; rfl
  rw [tk,arrF_app,qO,Nat.min_eq_left (by omega),yf,show arrF ins i [d]=[(⟨d.a,ins+i,d.s,1⟩:Ar)] ++ [(⟨d.b,ins+i,d.t,sgW d.w⟩:Ar)] from rfl,← zr]
  exact ha5
 ·rintro σ H1 ⟨o2,o3,o4,ws,rfl,s1,hr1,ha⟩
  try walk_at "WP"
  rw [W.hds.len,zt] at ha
  exact q r ws H1 hr0 s1 hr1 ha
end
section
variable {P:Program}{w:World}{K:zA}{mg:Str -> Option Value}{base:Heap}
theorem ok_usedK (T:Txt K mg):Cal P w K mg base 3 "used" ["web"] (spUsedKB K):=by
 have B:=T.bl
 have C_thing_count:=(ok_countK (P:=P) (w:=w) (base:=base) T).mono (k:=2) (by decide)
 have C_deed_arrows:=ok_darrK (P:=P) (w:=w) (base:=base) T
 refine yT T.t_used sc_used (fun vs H Q E h=>?_) (fun f cdv A outer s H vs Q E hr h=>?_)
 ·obtain ⟨x,_,_,_,_,_,_,_,rfl,_⟩:=h
  rfl
 obtain ⟨x,dl,gl,ins,us,ds,os,gs,rfl,W,ok,q⟩:=h
 refine ⟨_,(zG (jU (ix:=1) (N:=["thing"]) (nt:=1) (cs:=[]) rfl (xr rfl B.range (zB (zP C_thing_count hr rfl (zB (pv 0) zD)) zD)) (fun nd C s H fp=>⟨(zS (i:=0) nd rfl (by walk_at "o")),yq,zAM⟩) (by decide +kernel) (by first | rfl | decide +kernel) (by first | rfl | decide +kernel) rfl (fun _=>rfl) sc_used.nd rfl (by walk_at "o") (by walk_at "o") rfl)
  (xO (xR PassesOwn.never rfl (yc (zQ yL (pv 0) zC (fun _ _=>rfl))) (pg_tupK K 3 rfl (zu (zS (i:=2) sc_used.nd rfl (by walk_at "o")) (zu (zS (i:=3) sc_used.nd rfl (by walk_at "o")) (zu (zS (i:=4) sc_used.nd rfl (by walk_at "o")) xa)))) (zM (yh (zn zAN (pv 4) zC (yA _)) (zM (ps_asg zAM (pg_sub (pv 1) (pv 2) zBF))) yE)))
  (zG (xR PassesOwn.never rfl (pi_rev rfl B.reversed (zB (zP C_deed_arrows hr rfl (zB (pv 0) zD)) zD)) (jQ 4 rfl (zu (zS (i:=5) sc_used.nd rfl (by walk_at "o")) (zu (zS (i:=6) sc_used.nd rfl (by walk_at "o")) (zu (zS (i:=3) sc_used.nd rfl (by walk_at "o")) (zu (zS (i:=4) sc_used.nd rfl (by walk_at "o")) xa))))) (zM (yh (jS (zQ x6 (pv 1) (pv 6) (fun _ _=>rfl))) (zM (ps_asg zAM (pg_sub (pv 1) (pv 5) zBF))) yE)))
  (zM (zd (pv 1)))))),?_⟩
 rw [show yJ ["web","told","thing","shift","sign","start","goal"] [.ref x]=[some (.ref x),none,none,none,none,none,none] from rfl]
 try walk_at "WP"
 have i1:=ok.i2
 have d1:=ok.dl
 refine ⟨x,dl,gl,ins,us,ds,os,gs,rfl,W,?_⟩
 try walk_at "WP"
 refine ⟨by omega,by omega,?_⟩
 rw [show ((ins:Int)+((ds.length:Nat):Int)).toNat=ins+ds.length by omega]
 refine comp_R (f:=fun _=>some (V.bl false)) (yG (by omega)) (fun y H' R hy hS' hR=>?_) (fun tl htl=>?_)
 ·obtain ⟨n,hn,rfl⟩:=qP.mp hy
  try walk_at "WP"
  exact hR
 have e0:(Jk 0 (ins+ds.length)).filterMap (fun _=>some (V.bl false))=(qQ (ins+ds.length) false).map V.bl:=by
  rw [jk,List.map_const',ji,List.map_replicate]
 rw [e0]
 have s1:=zO htl (.lst ((qQ (ins+ds.length) false).map V.bl))
 have htl1:upd H tl (.lst ((qQ (ins+ds.length) false).map V.bl)) tl=some (.lst ((qQ (ins+ds.length) false).map V.bl)):=zF
 generalize upd H tl (.lst ((qQ (ins+ds.length) false).map V.bl))=H1 at s1 htl1 ⊢
 try walk_at "WP"
 refine jA (fun σ H2=>∃ (o2 o3 o4 o5 o6:Option V) (bs:List Bool),σ = [some (.ref x),some (.ref tl),o2,o3,o4,o5,o6] /\ Same H H2 /\ H2 tl=some (.lst (bs.map V.bl)) /\ Ps ins ds gs 0 bs) (fun N hN=>?_) ?_
 ·have h1:=(W.same s1).tup
  (iterate 5 ((try (walk_at "WP")); (try (simp only [h1,qJs,qJt,qJl,qJd,exists_eq_left',exists_eq_left])))); (try (walk_at "WP"))
  refine ⟨⟨_,SqL.of (W.same s1).gll⟩,?_⟩
  refine forL (xs:=os) (fun i σ H2=>∃ (o2 o3 o4:Option V) (bs:List Bool),σ = [some (.ref x),some (.ref tl),o2,o3,o4,none,none] /\ Same H H2 /\ H2 tl=some (.lst (bs.map V.bl)) /\ Rt ins ds gs i bs) ⟨none,none,none,_,rfl,s1,htl1,rt_zero⟩ ?_ ?_ ?_
  ·rintro i σ H2 _ ⟨_,_,_,_,_,s2,_⟩
   exact SqL.of (W.same s2).gll
  ·rintro i v σ H2 N2 hv ⟨o2,o3,o4,bs,rfl,s2,ht2,R2⟩ hN2
   have hi:i < gs.length:=by rw [← W.hgs.len]; exact (qB.mp hv).1
   obtain ⟨y,hy1,hy2⟩:=W.hgs.at_ i _ (qA hi)
   have hgi:gs[i]? = some gs[i]:=qA hi
   generalize gs[i]=g at hy2 hgi
   rw [hv] at hy1
   cases hy1
   have hy3:=s2.seqT hy2
   unfold gTp at hy3
   have hth:=ok.gk g (qE hgi)
   try walk_at "WP"
   refine ⟨_,hy3,rfl,?_⟩
   (iterate 5 ((try (walk_at "WP")); (try (simp only [ht2,qJs,qJt,qJl,qJd,exists_eq_left',exists_eq_left])))); (try (walk_at "WP"))
   have R3:=R2.step hgi hth
   refine xS (fun z=>?_) (fun z=>?_)
   ·rw [if_neg z] at R3
    refine ⟨g.th,by rw [qC,R2.len]; exact ixN_nat hth,?_⟩
    refine hN2 _ _ ⟨_,_,_,bs.set g.th true,rfl,same_upd htl s2,?_,R3⟩
    rw [zF,List.map_set]
   ·rw [if_pos (Decidable.not_not.mp z)] at R3
    exact hN2 _ _ ⟨_,_,_,bs,rfl,s2,ht2,R3⟩
  ·rintro σ H2 ⟨o2,o3,o4,bs,rfl,s2,ht2,R2⟩
   rw [W.hgs.len] at R2
   exact hN _ _ ⟨_,_,_,_,_,bs,rfl,s2,ht2,R2.done⟩
 ·rintro σ H2 ⟨o2,o3,o4,o5,o6,bs,rfl,s2,ht2,P2⟩
  try walk_at "WP"
  refine ⟨x,dl,gl,ins,us,ds,os,gs,rfl,W.same s2,by omega,fun r ws H3 hr3 s3 hr4 ha=>?_⟩
  try walk_at "WP"
  refine ⟨_,SqL.of hr4,?_⟩
  have hwl:ws.length=2 * ds.length:=by rw [ha.len,JW]
  refine forV (xs:=ws) (fun i σ H4=>∃ (o2 o3 o4 o5 o6:Option V) (bs:List Bool),σ = [some (.ref x),some (.ref tl),o2,o3,o4,o5,o6] /\ Same H H4 /\ H4 tl=some (.lst (bs.map V.bl)) /\ Chg tl H3 H4 /\ Ps ins ds gs i bs) ⟨_,_,_,_,_,bs,rfl,s2.trans s3,s3 _ _ ht2,Chg.refl,P2⟩ ?_ ?_ ?_
  ·rintro i σ H4 _ ⟨_,_,_,_,_,_,_,_,_,c4,_⟩
   exact SqL.of (c4 _ _ (ne_of_none ht2 hr3).symm hr4)
  ·rintro i v σ H4 N2 hv ⟨o2,o3,o4,o5,o6,bs,rfl,s4,ht4,c4,P4⟩ hN2
   have hi:i < ws.length:=by
    have:=(qB.mp hv).1
    rwa [xn] at this
   rw [List.getElem?_reverse hi] at hv
   have hj:ws.length - 1 - i < (arrF ins 0 ds).length:=by rw [JW]; omega
   obtain ⟨y,hy1,hy2⟩:=ha.at_ _ _ (qA hj)
   have haj:(arrF ins 0 ds)[ws.length - 1 - i]? = some (arrF ins 0 ds)[ws.length - 1 - i]:=qA hj
   generalize (arrF ins 0 ds)[ws.length - 1 - i]=ar at hy2 haj
   rw [hv] at hy1
   cases hy1
   have hy3:=c4 _ _ (xU hy2 (s3 _ _ ht2) (by intro z; cases z)) hy2
   unfold aTup at hy3
   rw [hwl] at haj
   obtain ⟨b,hb,hlt,P5⟩:=P4.stepB ok (by omega) haj
   (iterate 5 ((try (walk_at "WP")); (try (simp only [hy3,ht4,qJs,qJt,qJl,qJd,exists_eq_left',exists_eq_left])))); (try (walk_at "WP"))
   refine ⟨_,zBR hb,?_⟩
   try walk_at "WP"
   cases b with
   | true =>
    rw [if_pos rfl] at P5 ⊢
    refine ⟨ar.st,by rw [qC]; exact ixN_nat hlt,hN2 _ _ ⟨_,_,_,_,_,bs.set ar.st true,rfl,same_upd htl s4,?_,c4.trans (Chg.upd _),P5⟩⟩
    rw [zF,List.map_set]
   | false =>
    rw [if_neg (by decide)] at P5 ⊢
    exact hN2 _ _ ⟨_,_,_,_,_,bs,rfl,s4,ht4,c4,P5⟩
  ·rintro σ H4 ⟨o2,o3,o4,o5,o6,bs,rfl,s4,ht4,c4,P4⟩
   try walk_at "WP"
   rw [hwl] at P4
   exact q tl bs H4 htl s4 ht4 P4.done
end
section
variable {P:Program}{w:World}{K:zA}{mg:Str -> Option Value}{base:Heap}
theorem ok_prunedK (T:Txt K mg):Cal P w K mg base 4 "pruned" ["web"] (spPrunedKB K):=by
 have B:=T.bl
 have C_used:=ok_usedK (P:=P) (w:=w) (base:=base) T
 refine yT T.t_pruned sc_pruned (fun vs H Q E h=>?_) (fun f cdv A outer s H vs Q E hr h=>?_)
 ·obtain ⟨x,_,_,_,_,_,_,_,rfl,_⟩:=h
  rfl
 obtain ⟨x,dl,gl,ins,us,ds,os,gs,rfl,W,ok,q⟩:=h
 refine ⟨_,(zG (zf (i:=1) sc_pruned.nd rfl (by walk_at "o") (zQ yL (pv 0) zC (fun _ _=>rfl)))
  (zG (zf (i:=2) sc_pruned.nd rfl (by walk_at "o") (zP C_used hr rfl (zB (pv 0) zD)))
  (zG (zf (i:=3) sc_pruned.nd rfl (by walk_at "o") (pe_listrange rfl rfl B.list rfl B.range (zB (pv 1) zD)))
  (zG (zf (i:=4) sc_pruned.nd rfl (by walk_at "o") (xp zD))
  (xO (xR PassesOwn.never rfl (zAi rfl B.enumerate (zB (zQ yL (pv 0) zC (fun _ _=>rfl)) zD)) (jQ 2 rfl (zu (zS (i:=5) sc_pruned.nd rfl (by walk_at "o")) (zu (zS (i:=6) sc_pruned.nd rfl (by walk_at "o")) xa))) (zG (xZ (j6 zm zk zj yd (pv 3) (zB (zU yp (pv 1) (zw ye rfl B.len xI (zB (pv 4) zD))) zD)))
  (zM (yh (jS (zQ x6 (pv 2) (zU yp (pv 1) (pv 5)) (fun _ _=>rfl))) (zM (xZ (j6 zm zk zj yd (pv 4) (zB (yV (zB (zQ yL (pv 6) zC (fun _ _=>rfl)) (zB (zQ x6 (pv 3) (zQ yL (pv 6) zC (fun _ _=>rfl)) (fun _ _=>rfl)) (zB (zQ yL (pv 6) zC (fun _ _=>rfl)) (zB (zQ x6 (pv 3) (zQ yL (pv 6) zC (fun _ _=>rfl)) (fun _ _=>rfl)) (zB (zQ yL (pv 6) zC (fun _ _=>rfl)) zD)))))) zD)))) yE))))
  (zG (jU (ix:=7) (N:=["thing","shift","sign","renumbered"]) (nt:=3) (cs:=[3]) rfl (yc (zQ yL (pv 0) zC (fun _ _=>rfl))) (fun nd C s H fp=>⟨(pg_tupK K 3 rfl (zu (zS (i:=0) nd rfl (by walk_at "o")) (zu (zS (i:=1) nd rfl (by walk_at "o")) (zu (zS (i:=2) nd rfl (by walk_at "o")) xa)))),yq,(yV (zB (zQ x6 (pv 3) (pv 0) (fun _ _=>rfl)) (zB (pv 1) (zB (pv 2) zD))))⟩) (by decide +kernel) (by first | rfl | decide +kernel) (by first | rfl | decide +kernel) rfl (fun _=>rfl) sc_pruned.nd rfl (by walk_at "o") (by walk_at "o") rfl)
  (zM (zd (yV (zB (pv 1) (zB (pv 4) (zB (pv 7) zD)))))))))))),?_⟩
 rw [show yJ ["web","ins","kept","renumbered","deeds","place","deed","outs"] [.ref x]=[some (.ref x),none,none,none,none,none,none,none] from rfl]
 have h1:=W.tup
 have i12:=ok.i2
 have dl60:=ok.dl
 have gl12:=ok.gl
 (iterate 5 ((try (walk_at "WP")); (try (simp only [h1,qJs,qJt,qJl,qJd,exists_eq_left',exists_eq_left])))); (try (walk_at "WP"))
 refine ⟨x,dl,gl,ins,us,ds,os,gs,rfl,W,ok,fun kp bs H1 nkp s1 hkp Ub=>?_⟩
 try walk_at "WP"
 refine ⟨ins,rfl,by omega,fun rl H2 nrl s2 hrl dd hdd=>?_⟩
 have s3:=zO hdd (.lst [])
 have d3:(upd H2 dd (.lst [])) dd=some (.lst []):=zF
 have ndr:rl ≠ dd:=ne_of_none hrl hdd
 have ndk:kp ≠ dd:=ne_of_none (s2 _ _ hkp) hdd
 have nkr:kp ≠ rl:=ne_of_none hkp nrl
 have r3:=s3 _ _ hrl
 have k3:=s3 _ _ (s2 _ _ hkp)
 have s03:=(s1.trans s2).trans s3
 have n0d:H dd=none:=(s1.trans s2).free hdd
 have n0r:H rl=none:=s1.free nrl
 rw [← renL_zero bs ins] at r3
 generalize upd H2 dd (.lst [])=H3 at s3 d3 r3 k3 s03 ⊢
 have bl:=Ub.len
 refine jA (fun σ H4=>∃ (o5 o6:Option V) (us':List V),σ = [some (.ref x),some (.int ins),some (.ref kp),some (.ref rl),some (.ref dd),o5,o6,none] /\ Same H H4 /\ H4 rl=some (.lst ((renL bs ins ds.length).map V.int)) /\ H4 dd=some (.lst us') /\ HTs j5 H4 us' (keptD bs ins 0 ds)) (fun N hN=>?_) ?_
 ·have h13:=s03 _ _ h1
  (iterate 5 ((try (walk_at "WP")); (try (simp only [h13,qJs,qJt,qJl,qJd,exists_eq_left',exists_eq_left])))); (try (walk_at "WP"))
  refine ⟨_,SqL.of (s03 _ _ W.dll),?_⟩
  refine forE (xs:=us) (fun i σ H4=>∃ (o5 o6:Option V) (us':List V),σ = [some (.ref x),some (.int ins),some (.ref kp),some (.ref rl),some (.ref dd),o5,o6,none] /\ Same H H4 /\ H4 kp=some (.lst (bs.map V.bl)) /\ H4 rl=some (.lst ((renL bs ins i).map V.int)) /\ H4 dd=some (.lst us') /\ HTs j5 H4 us' (keptD bs ins 0 (ds.take i))) ⟨none,none,[],rfl,s03,k3,r3,d3,hts_nil⟩ ?_ ?_ ?_
  ·rintro i σ H4 _ ⟨_,_,_,_,s4,_⟩
   exact SqL.of (s4 _ _ W.dll)
  ·rintro i v t σ H4 N2 hv ht ⟨o5,o6,us',rfl,s4,k4,r4,d4,t4⟩ hN2
   have hi:i < ds.length:=by rw [← W.hds.len]; exact (qB.mp hv).1
   obtain ⟨y,hy1,hy2⟩:=W.hds.at_ i _ (qA hi)
   have hdi:ds[i]? = some ds[i]:=qA hi
   generalize ds[i]=d at hy2 hdi
   rw [hv] at hy1
   cases hy1
   obtain ⟨da,db,_⟩:=ok.dk i d hdi
   have st:=zO ht (.tup [V.int (i:Int),.ref y])
   have h9:upd H4 t (.tup [V.int (i:Int),.ref y]) t=some (.tup [V.int (i:Int),.ref y]):=zF
   have s5:=s4.trans st
   have k5:=st _ _ k4
   have r5:=st _ _ r4
   have d5:=st _ _ d4
   have t5:=t4.same st
   generalize upd H4 t (.tup [V.int (i:Int),.ref y])=H5 at st h9 s5 k5 r5 d5 t5 ⊢
   have ul:us'.length=keptN bs ins i:=by
    have:=zAm bs ins (ds.take i) 0
    rw [qO,Nat.min_eq_left (by omega),yf] at this
    rw [t5.len]
    exact this
   (iterate 5 ((try (walk_at "WP")); (try (simp only [h9,d5,qJs,qJt,qJl,qJd,exists_eq_left',exists_eq_left])))); (try (walk_at "WP"))
   refine ⟨xb r5,_,r5,?_,?_⟩
   ·rw [qC]
    unfold renL
    rw [qC,jJ]
    exact qJ (by omega:ins+i < 1000) (yG (by decide))
   have C6:Chg rl H5 (upd H5 rl (.lst ((renL bs ins i).map V.int ++ [V.int ((ins:Int)+((us'.length:Nat):Int))]))):=Chg.upd _
   have r6:(upd H5 rl (.lst ((renL bs ins i).map V.int ++ [V.int ((ins:Int)+((us'.length:Nat):Int))]))) rl=some (.lst ((renL bs ins (i+1)).map V.int)):=by
    rw [zF,renL_succ,yC,ul,show ((ins+keptN bs ins i:Nat):Int)=(ins:Int)+((keptN bs ins i:Nat):Int) by omega]
    rfl
   have s6:Same H (upd H5 rl (.lst ((renL bs ins i).map V.int ++ [V.int ((ins:Int)+((us'.length:Nat):Int))]))):=same_upd n0r s5
   generalize upd H5 rl (.lst ((renL bs ins i).map V.int ++ [V.int ((ins:Int)+((us'.length:Nat):Int))]))=H6 at C6 r6 s6 ⊢
   have k6:=C6 _ _ nkr k5
   have d6:=C6 _ _ ndr.symm d5
   have t6:=t5.chgL r5 C6
   have hb:ins+i < bs.length:=by omega
   have eb:bs[ins+i]? = some (bs.getD (ins+i) false):=by rw [zY (qA hb)]; exact qA hb
   have tk:keptD bs ins 0 (ds.take (i+1))=keptD bs ins 0 (ds.take i) ++ (if bs.getD (ins+i) false=true then [renD bs ins d] else []):=by
    rw [za,hdi]
    show keptD bs ins 0 (ds.take i ++ [d])=_
    rw [keptD_app,qO,Nat.min_eq_left (by omega),yf]
    show _ ++ ((if bs.getD (ins+i) false=true then [renD bs ins d] else []) ++ [])=_
    rw [zp]
   (iterate 5 ((try (walk_at "WP")); (try (simp only [k6,qJs,qJt,qJl,qJd,exists_eq_left',exists_eq_left])))); (try (walk_at "WP"))
   refine ⟨_,by rw [← Int.natCast_add]; exact zBR eb,?_⟩
   try walk_at "WP"
   by_cases z:bs.getD (ins+i) false=true
   ·rw [if_pos z]
    rw [if_pos z] at tk
    have y6:=s6 _ _ hy2
    unfold j5 at y6
    refine ⟨xb d6,?_⟩
    (iterate 5 ((try (walk_at "WP")); (try (simp only [y6,r6,qJs,qJt,qJl,qJd,exists_eq_left',exists_eq_left])))); (try (walk_at "WP"))
    have ra:=renL_at (bs:=bs) (k:=i+1) (show d.a < ins+(i+1) by omega)
    have rb:=renL_at (bs:=bs) (k:=i+1) (show d.b < ins+(i+1) by omega)
    refine ⟨_,zBR ra,_,zBR rb,_,rfl,fun p1 hp1=>?_⟩
    have s7:=zO hp1 (.tup [V.str d.w,V.int ((renN bs ins d.a:Nat):Int),V.int d.s,V.int ((renN bs ins d.b:Nat):Int),V.int d.t])
    have d7:=s7 _ _ d6
    have kl:=zBS bs ins i
    refine ⟨us',d7,qJ (by omega:us'.length < 1000) (yG (by decide)),?_⟩
    refine hN2 _ _ ⟨_,_,_,rfl,same_upd n0d (s6.trans s7),by rw [yH ndk]; exact s7 _ _ k6,by rw [yH ndr]; exact s7 _ _ r6,zF,?_⟩
    rw [tk]
    exact ((t6.same s7).chgL d7 (Chg.upd _)).snoc (x:=renD bs ins d) (p:=p1) (by rw [yH (ne_of_none d6 hp1).symm,zF]; rfl)
   ·rw [if_neg z]
    rw [if_neg z,zp] at tk
    refine hN2 _ _ ⟨_,_,us',rfl,s6,k6,r6,d6,?_⟩
    rw [tk]
    exact t6
  ·rintro σ H4 ⟨o5,o6,us',rfl,s4,k4,r4,d4,t4⟩
   rw [W.hds.len,zt] at t4
   rw [W.hds.len] at r4
   exact hN _ _ ⟨o5,o6,us',rfl,s4,r4,d4,t4⟩
 ·rintro σ H4 ⟨o5,o6,us',rfl,s4,r4,d4,t4⟩
  have h14:=s4 _ _ h1
  have g4:=s4 _ _ W.gll
  (iterate 5 ((try (walk_at "WP")); (try (simp only [h14,qJs,qJt,qJl,qJd,exists_eq_left',exists_eq_left])))); (try (walk_at "WP"))
  refine ⟨⟨_,SqL.of g4⟩,?_⟩
  refine comp_goalsTK g4 (W.hgs.same s4) (by omega) gTp (renG bs ins) (fun g H' R hg s' hR=>?_) (fun acc ys H5 na s5 h5 t5=>?_)
  ·rw [show yZ [3] [some (.ref x),some (.int ins),some (.ref kp),some (.ref rl),some (.ref dd),o5,o6,none]=[some (V.ref rl)] from rfl]
   rw [yR,yR,yR,Jm]
   have r5:=s' _ _ r4
   (iterate 5 ((try (walk_at "WP")); (try (simp only [r5,qJs,qJt,qJl,qJd,exists_eq_left',exists_eq_left])))); (try (walk_at "WP"))
   exact ⟨_,zBR (renL_at (ok.gk g hg)),fun r hr0=>hR r hr0⟩
  try walk_at "WP"
  intro rr hrr
  have s6:=zO hrr (.tup [V.int (ins:Int),V.ref dd,V.ref acc])
  have s56:=s5.trans s6
  exact q rr dd acc us' ys bs _ (s4.free (s5.free hrr)) n0d (s4.free na) (ne_of_none d4 na) (s4.trans s56) Ub ⟨zF,s56 _ _ d4,t4.same s56,s6 _ _ h5,t5.same s6⟩
end
section
variable {P:Program}{w:World}{K:zA}{mg:Str -> Option Value}{base:Heap}
theorem ok_merged (T:Txt K mg):Cal P w K mg base 5 "merged" ["web"] (spMergedC K):=by
 have B:=T.bl
 obtain ⟨cst_NO_OUT,mg_NO_OUT,hcst⟩:=T.c_NO_OUT
 have C_numbers:=ok_nums4 (P:=P) (w:=w) (base:=base) T
 have C_form_of:=(ok_form (P:=P) (w:=w) (base:=base) T).mono (k:=4) (by decide)
 have C_part_by:=(ok_partby (P:=P) (w:=w) (base:=base) T).mono (k:=4) (by decide)
 have C_parts_of:=(ok_partsof (P:=P) (w:=w) (base:=base) T).mono (k:=4) (by decide)
 have C_deed_of:=(ok_deedE (P:=P) (w:=w) (base:=base) T).mono (k:=4) (by decide)
 have C_sign_of:=(ok_signE (P:=P) (w:=w) (base:=base) T).mono (k:=4) (by decide)
 refine yT T.t_merged sc_merged (fun vs H Q E h=>?_) (fun f cdv A outer s H vs Q E hr h=>?_)
 ·obtain ⟨x,_,_,_,_,_,_,_,rfl,_⟩:=h
  rfl
 obtain ⟨x,dl,gl,n,us,ds,os,gs,rfl,W,F,q⟩:=h
 refine ⟨_,(zG (zf (i:=1) sc_merged.nd rfl (by walk_at "o") (yU (N:=["row"]) (nt:=1) (cs:=[]) rfl (yc (zP C_numbers hr rfl (zB (pv 0) zD))) (fun nd C s H fp=>⟨(zS (i:=0) nd rfl (by walk_at "o")),yq,(zP C_form_of hr rfl (zB (pv 0) zD))⟩) (by decide +kernel) (by first | rfl | decide +kernel) (by first | rfl | decide +kernel) rfl (fun _=>rfl)))
  (zG (zf (i:=2) sc_merged.nd rfl (by walk_at "o") pe_dnewT)
  (zG (zf (i:=3) sc_merged.nd rfl (by walk_at "o") (xp zD))
  (xO (xR PassesOwn.never rfl (zAi rfl B.enumerate (zB (pv 1) zD)) (jQ 2 rfl (zu (zS (i:=4) sc_merged.nd rfl (by walk_at "o")) (zu (zS (i:=5) sc_merged.nd rfl (by walk_at "o")) xa))) (zG (yh (PW.pt (pw_or (zn xm (zQ yL (pv 5) zC (fun _ _=>rfl)) zC (yA _)) (zAP (zn (op_dIT (j7 hr)) (zQ yL (pv 5) zC (fun _ _=>rfl)) (pv 2) (by with_unfolding_all rfl))))) (zM zBv) yE)
  (zG (yh (zn op_lt (pv 4) (zQ yL (pv 0) zC (fun _ _=>rfl)) (yA _)) (zG (ps_dpT (j7 hr) (pv 2) (zQ yL (pv 5) zC (fun _ _=>rfl)) (yV (zB (pv 4) (zB zC (zB zC zD)))) rfl)
  (zM zBv)) yE)
  (zG (jU (ix:=6) (N:=["part","kept","forms"]) (nt:=1) (cs:=[2,1]) rfl (yc (zP C_parts_of hr rfl (zB (zQ x6 (zQ yL (pv 0) zC (fun _ _=>rfl)) (zU xK (pv 4) (zQ yL (pv 0) zC (fun _ _=>rfl))) (fun _ _=>rfl)) zD))) (fun nd C s H fp=>⟨(zS (i:=0) nd rfl (by walk_at "o")),yq,(zP C_part_by hr rfl (zB (pv 1) (zB (pv 2) (zB (pv 0) zD))))⟩) (by decide +kernel) (by first | rfl | decide +kernel) (by first | rfl | decide +kernel) rfl (fun _=>rfl) sc_merged.nd rfl (by walk_at "o") (by walk_at "o") rfl)
  (zG (ps_dpT (j7 hr) (pv 2) (zQ yL (pv 5) zC (fun _ _=>rfl)) (yV (zB (zU yp (zQ yL (pv 0) zC (fun _ _=>rfl)) (zw ye rfl B.len xI (zB (pv 3) zD))) (zB (zQ yL (pv 5) zC (fun _ _=>rfl)) (zB (zU yX (zQ yL (pv 5) zC (fun _ _=>rfl)) (zP C_sign_of hr rfl (zB (zQ x6 (pv 6) zC (fun _ _=>rfl)) (zB (zQ x6 (pv 6) zC (fun _ _=>rfl)) zD)))) zD)))) rfl)
  (zM (xZ (j6 zm zk zj yd (pv 3) (zB (zP C_deed_of hr rfl (zB (zQ x6 (pv 6) zC (fun _ _=>rfl)) (zB (zQ x6 (pv 6) zC (fun _ _=>rfl)) zD))) zD)))))))))
  (zM (zd (yV (zB (zQ yL (pv 0) zC (fun _ _=>rfl)) (zB (pv 3) (zB (yU (N:=["out","kept","forms"]) (nt:=1) (cs:=[2,1]) rfl (yc (zQ yL (pv 0) zC (fun _ _=>rfl))) (fun nd C s H fp=>⟨(zS (i:=0) nd rfl (by walk_at "o")),yq,(zP C_part_by hr rfl (zB (pv 1) (zB (pv 2) (zB (pv 0) zD))))⟩) (by decide +kernel) (by first | rfl | decide +kernel) (by first | rfl | decide +kernel) rfl (fun _=>rfl)) zD)))))))))),?_⟩
 rw [show yJ ["web","forms","kept","deeds","thing","form","parts"] [.ref x]=[some (.ref x),none,none,none,none,none,none] from rfl]
 have i1:=F.f.ok.i1
 have i12:=F.f.ok.i2
 have dl60:=F.f.ok.dl
 have lr:=rowsW_len n ds
 have h1:=W.tup
 refine jT fun R_ hR_=>?_
 try walk_at "WP"
 refine ⟨x,dl,gl,n,us,ds,os,gs,rfl,W.wk,F.f,fun nr ys H1 n1 s1 hn1 ht1=>?_⟩
 refine ⟨nr,rfl,⟨_,SqL.of hn1⟩,?_⟩
 refine comp_rel (Rl:=fmI) (f:=iT) (fun _ _ _ _ h l=>h.ls l) hn1 ht1 (by omega) (fun i t row H' R hi ht s' hR=>?_) (fun fl ws H2 n2 s2 h2 lw fm=>?_)
 ·try walk_at "WP"
  have hm:=qE hi
  refine ⟨t,row,rfl,ht,by rw [F.f.wd row hm]; omega,fun z hz=>yB ((F.rb row hm).2 z hz) (yO (by decide) (by decide)),fun z t' H5 s5 h5=>?_,fun t' f' fs k g H5 s5 h5 h5' Fr=>?_⟩
  ·exact hR _ _ s5 ⟨t',rfl,.inl ⟨z,t,h5⟩⟩
  ·exact hR _ _ s5 ⟨t',rfl,.inr ⟨f',fs,k,g,h5,h5',Fr⟩⟩
 have fmL:FmL H2 ws (rowsW n ds):=⟨lw,fun i u row a b=>fm i u row a b⟩
 (try (walk_at "WP")); (try (refine jR hR_ ?_)); (try (refine jT fun R_ hR_=>?_)); (try (walk_at "WP"))
 intro kp nkp
 refine JD nkp fun H3 s3 h3=>?_
 (try (walk_at "WP")); (try (refine jR hR_ ?_)); (try (refine jT fun R_ hR_=>?_)); (try (walk_at "WP"))
 intro el nel
 refine JD nel fun H4 s4 h4=>?_
 have h3:=s4 _ _ h3
 have s24:=s3.trans s4
 have s04:=(s1.trans s2).trans s24
 have nel0:H el=none:=((s1.trans s2).trans s3).free nel
 have nkp0:H kp=none:=(s1.trans s2).free nkp
 have flk:fl ≠ kp:=ne_of_none h2 nkp
 have fle:fl ≠ el:=ne_of_none (s3 _ _ h2) nel
 have kel:kp ≠ el:=ne_of_none (show H3 kp=_ from by assumption) nel
 subst hR_
 refine jA (fun σ G=>∃ (o1 o2 o3:Option V) (kvs:List (List Key × V)) (eu:List V) (es:List Wd),σ = [some (.ref x),some (.ref fl),some (.ref kp),some (.ref el),o1,o2,o3] /\ Same H G /\ G fl=some (.lst ws) /\ FmL G ws (rowsW n ds) /\ G kp=some (.dT kvs) /\ G el=some (.lst eu) /\ HTs j5 G eu es /\ Std G kvs (rowsW n es) /\ Mrg n (rowsW n ds) (n+ds.length) kvs es) (fun N hN=>?_) ?_
 ·try walk_at "WP"
  refine ⟨_,SqL.of (s24 _ _ h2),?_⟩
  refine forE (xs:=ws) (fun i σ G=>∃ (o1 o2 o3:Option V) (kvs:List (List Key × V)) (eu:List V) (es:List Wd),σ = [some (.ref x),some (.ref fl),some (.ref kp),some (.ref el),o1,o2,o3] /\ Same H G /\ G fl=some (.lst ws) /\ FmL G ws (rowsW n ds) /\ G kp=some (.dT kvs) /\ G el=some (.lst eu) /\ HTs j5 G eu es /\ Std G kvs (rowsW n es) /\ Mrg n (rowsW n ds) i kvs es /\ kvs.length <= i) ⟨none,none,none,[],[],[],rfl,s04,s24 _ _ h2,fmL.same s24,h3,h4,hts_nil,(fun fs v e=>by cases e),mrg_zero,zE _⟩ ?_ ?_ ?_
  ·rintro i σ G _ ⟨_,_,_,_,_,_,_,_,hf,_⟩
   exact SqL.of hf
  ·rintro i v t σ G N2 hv ht ⟨o1,o2,o3,kvs,eu,es,rfl,sG,fG,mG,kG,eG,tG,dG,M,kl⟩ hN2
   have hi:i < ws.length:=(qB.mp hv).1
   have hiR:i < (rowsW n ds).length:=by omega
   have er:=qA hiR
   have eg:(rowsW n ds).getD i []=(rowsW n ds)[i]:=zY er
   obtain ⟨ft,rfl,hfm⟩:=mG.2 i v _ hv er
   rw [← eg] at hfm
   refine JD ht fun G1 t1 h9=>?_
   have sG1:=sG.trans t1
   have fG:=t1 _ _ fG
   have mG:=mG.same t1
   have kG:=t1 _ _ kG
   have eG:=t1 _ _ eG
   have tG:=tG.same t1
   have dG:=dG.same t1
   rcases hfm with ⟨z,r,hf⟩ | ⟨f0,fs,k,g,hf,hf2,Fr⟩
   ·have hf:=t1 _ _ hf
    (iterate 5 ((try (walk_at "WP")); (try (simp only [h9,hf,qJs,qJt,qJl,qJd,exists_eq_left',exists_eq_left])))); (try (walk_at "WP"))
    exact hN2 _ _ ⟨_,_,_,kvs,eu,es,rfl,sG1,fG,mG,kG,eG,tG,dG,M.skip (fun fs k g Fr=>(frm_nz Fr z).elim),by omega⟩
   have hf:=t1 _ _ hf
   have hf2:=t1 _ _ hf2
   have h1G:=sG1 _ _ h1
   (iterate 5 ((try (walk_at "WP")); (try (simp only [h9,hf,qJs,qJt,qJl,qJd,exists_eq_left',exists_eq_left])))); (try (walk_at "WP"))
   rw [if_neg (show ¬ g=0 by rcases Fr.sg with r | r <;> rw [r] <;> decide)]
   refine ⟨fs,kvs,kG,hf2,?_⟩
   refine xS (fun z=>hN2 _ _ ⟨_,_,_,kvs,eu,es,rfl,sG1,fG,mG,kG,eG,tG,dG,M.skip (fun fs' k' g' Fr'=>by rw [(jP Fr' Fr).1]; exact z),by omega⟩) (fun z=>?_)
   have hno:(valV kvs (tkey fs)).isSome=false:=Bool.eq_false_iff.mpr z
   (iterate 5 ((try (walk_at "WP")); (try (simp only [h1G,qJs,qJt,qJl,qJd,exists_eq_left',exists_eq_left])))); (try (walk_at "WP"))
   have lk:kvs.length < sizeLine:=qJ (by omega:kvs.length < 1000) (yG (by decide))
   refine xS (fun zi=>?_) (fun zi=>?_)
   ·have hin:i < n:=by omega
    intro t2 nt2
    refine JD nt2 fun G2 s2' h2'=>?_
    have hf2':=s2' _ _ hf
    (iterate 5 ((try (walk_at "WP")); (try (simp only [hf2',qJs,qJt,qJl,qJd,exists_eq_left',exists_eq_left])))); (try (walk_at "WP"))
    refine ⟨fs,kvs,s2' _ _ kG,s2' _ _ hf2,lk,?_⟩
    have k2':=s2' _ _ kG
    have TP:TpS G2 (upd G2 kp (.dT (putK kvs (tkey fs) (.ref t2)))):=(Chg.upd _).tp k2' (fun _ z=>by cases z)
    have eu0:(rowsW n ds).getD i []=yY n i:=xB hin
    rw [eu0] at Fr
    obtain ⟨e1,e2,e3⟩:=jP Fr (zBX hin)
    refine hN2 _ _ ⟨_,_,_,_,eu,es,rfl,same_upd nkp0 (sG1.trans s2'),by rw [yH flk]; exact s2' _ _ fG,(mG.same s2').tp TP,zF,by rw [yH kel.symm]; exact s2' _ _ eG,(tG.same s2').tp TP,?_,M.inp (by rw [eu0]; exact Fr),zZ putK_len (by omega)⟩
    refine (std_put (R':=rowsW n es) (dG.same s2') (t:=t2) (i:=i) (b:=0) (h:=1) h2' (.inl rfl) ?_ (fun _ _ h=>h)).tp TP
    have el':=qA (show i < (rowsW n es).length by rw [rowsW_len]; omega)
    rw [el',← zY el',xB hin,yt,yj,zAa,e1]
   ·have hin:n <= i:=by omega
    obtain ⟨k',rfl⟩:∃ k',i=n+k':=⟨i - n,by omega⟩
    have hk':k' < ds.length:=by omega
    have ed:=qA hk'
    generalize ds[k']=d at ed
    obtain ⟨da,db,sa,sb⟩:=F.f.sh k' d ed
    have dw:d.w = "sum" \/ d.w = "less":=(F.f.ok.dk k' d ed).2.2
    have sd:=F.sd d (qE ed)
    have hd:(rowsW n ds).getD (n+k') []=rowD (rowsW n ds) d:=zBW ed da db
    have rmem:∀ j,j < n+k' -> (rowsW n ds).getD j [] ∈ rowsW n ds:=fun j hj=>by
     have e:=qA (show j < (rowsW n ds).length by omega)
     rw [zY e]
     exact qE e
    have NZ:=M.nz Fr hno hd da db (by rw [F.f.wd _ (rmem _ da),F.f.wd _ (rmem _ db)]) sa.2.2 sb.2.2
    have WG:=W.same sG1
    have dlG:=WG.dll
    obtain ⟨pd,ep,hpd⟩:=WG.hds.at_ k' d ed
    (iterate 5 ((try (walk_at "WP")); (try (simp only [dlG,qJs,qJt,qJl,qJd,exists_eq_left',exists_eq_left])))); (try (walk_at "WP"))
    refine ⟨_,(show atI us (((n+k':Nat):Int) - (n:Int))=some (.ref pd) by rw [show ((n+k':Nat):Int) - (n:Int)=(k':Int) by omega]; exact yz ep),?_⟩
    refine ⟨pd,d,rfl,hpd,fun l t u G2 s2' hl2 ht2 hu2=>?_⟩
    refine ⟨l,rfl,⟨_,SqL.of hl2⟩,?_⟩
    have ht':HTs gTp G2 [V.ref t,V.ref u] [⟨d.a,d.s,1⟩,⟨d.b,d.t,sgW d.w⟩]:=(hts_nil.snoc (x:=(⟨d.a,d.s,1⟩:Go)) ht2).snoc (x:=(⟨d.b,d.t,sgW d.w⟩:Go)) hu2
    refine comp_rel (Rl:=fun H v (g:Go)=>∃ p G,v = .ref p /\ SqT K H p (gTp G) /\ Pst n (rowsW n ds) (rowsW n es) g.th g.sh g.sg G) (fun _ _ _ _ h l=>by obtain ⟨p,G,a,b,c⟩:=h; exact ⟨p,G,a,l.seqT b,c⟩) hl2 ht' (by simp) (fun j tt y H' R hy hty s' hR=>?_) (fun pl ws2 G3 n3 s3' h3' lw2 pr=>?_)
    ·rw [show yZ [2,1] [some (V.ref x),some (V.ref fl),some (V.ref kp),some (V.ref el),some (V.int ((n+k':Nat):Int)),some (V.ref ft),o3]=[some (V.ref kp),some (V.ref fl)] from rfl]
     try walk_at "WP"
     have yP:y.th < n+k' /\ (y.sg=1 \/ y.sg = -1) /\ Sh4 y.sh ((rowsW n ds).getD y.th []) /\ (-900 <= y.sh /\ y.sh <= 900) /\ ¬ ∀ x ∈ (rowsW n ds).getD y.th [],x=0:=by
      match j,hy with
      | 0,hy=>cases hy; exact ⟨da,.inl rfl,sa,⟨sd.1,sd.2.1⟩,NZ.1⟩
      | 1,hy=>cases hy; exact ⟨db,sgW_or _,sb,⟨sd.2.2.1,sd.2.2.2⟩,NZ.2⟩
     obtain ⟨y1,y2,y3,y4,y5⟩:=yP
     have s1':=s2'.trans s'
     have ey:=qA (show y.th < (rowsW n ds).length by omega)
     have egy:(rowsW n ds).getD y.th []=(rowsW n ds)[y.th]'(by omega):=zY ey
     refine ⟨kp,fl,tt,kvs,ws,rowsW n ds,rowsW n es,y.th,y.sh,y.sg,_,rfl,s1' _ _ kG,dG.same s1',s1' _ _ fG,mG.same s1',hty,ey,.inr y2,fun hz=>?_,fun fs' k2 g2 _ F2=>?_⟩
     ·exfalso
      rcases hz with z | z
      ·rcases y2 with e | e <;> omega
      ·rw [← egy] at z
       exact y5 z
     ·rw [← egy] at F2
      refine ⟨M.cv y.th y1 fs' k2 g2 F2,fun r i2 b2 h2'' H5 s5 h5 hh2 e2=>hR _ _ s5 ⟨r,⟨i2,y.sh+k2 - b2,y.sg * g2 * h2''⟩,rfl,SqT.of h5,?_⟩⟩
      exact pst_ofB F2 y3 y4 y2 (fun x hx=>(F.rb _ (rmem _ y1)).2 x hx) (fun r hr x hx=>(M.memB F r hr).2 x hx) hh2 e2
    obtain ⟨v0,v1,rfl⟩:∃ v0 v1,ws2=[v0,v1]:=by
     match ws2,lw2 with
     | [a,b],_=>exact ⟨a,b,rfl⟩
    obtain ⟨p0,G0,rfl,q0,P0⟩:=pr 0 _ _ rfl rfl
    obtain ⟨p1,G1',rfl,q1,P1⟩:=pr 1 _ _ rfl rfl
    have sG3:=s2'.trans s3'
    have x3:=sG3 _ _ h1G
    have e3:=sG3 _ _ eG
    have hf3:=sG3 _ _ hf
    (iterate 5 ((try (walk_at "WP")); (try (simp only [x3,e3,hf3,h3',qJs,qJt,qJl,qJd,exists_eq_left',exists_eq_left])))); (try (walk_at "WP"))
    refine ⟨p0,p1,G0,G1',rfl,q0,q1,?_⟩
    have sgn:=signG_or (q:=G1') P0.sn
    try walk_at "WP"
    refine ⟨by rcases Fr.sg with r | r <;> rw [r] <;> exact mul_l (by decide) (by decide),?_⟩
    intro t4 nt4
    refine JD nt4 fun G4 s4' h4'=>?_
    have hf4:=s4' _ _ hf3
    have sG4:=sG3.trans s4'
    have k4:=sG4 _ _ kG
    (iterate 5 ((try (walk_at "WP")); (try (simp only [hf4,qJs,qJt,qJl,qJd,exists_eq_left',exists_eq_left])))); (try (walk_at "WP"))
    refine ⟨fs,kvs,k4,sG4 _ _ hf2,lk,?_⟩
    have TP:TpS G4 (upd G4 kp (.dT (putK kvs (tkey fs) (.ref t4)))):=(Chg.upd _).tp k4 (fun _ z=>by cases z)
    have CH:Chg kp G4 (upd G4 kp (.dT (putK kvs (tkey fs) (.ref t4)))):=Chg.upd _
    have k5:upd G4 kp (.dT (putK kvs (tkey fs) (.ref t4))) kp=some (.dT (putK kvs (tkey fs) (.ref t4))):=zF
    have s05:Same H (upd G4 kp (.dT (putK kvs (tkey fs) (.ref t4)))):=same_upd nkp0 (sG1.trans sG4)
    have plk:pl ≠ kp:=(ne_of_none (s2' _ _ kG) n3).symm
    have h5':=CH _ _ plk (s4' _ _ h3')
    have e5:=CH _ _ kel.symm (sG4 _ _ eG)
    have f5:=CH _ _ flk (sG4 _ _ fG)
    have m5:=(mG.same sG4).tp TP
    have t5:=(tG.same sG4).tp TP
    have d5:=(dG.same sG4).tp TP
    have t45:=TP _ _ h4'
    have q0':SqT K (upd G4 kp (.dT (putK kvs (tkey fs) (.ref t4)))) p0 (gTp G0):=by
     rcases s4'.seqT q0 with (z | ⟨o,z⟩) | z
     ·exact .inl (.inl (TP _ _ z))
     ·exact .inl (.inr ⟨o,CH _ _ (xU z k4 (by intro z; cases z)) z⟩)
     ·exact .inr z
    have q1':SqT K (upd G4 kp (.dT (putK kvs (tkey fs) (.ref t4)))) p1 (gTp G1'):=by
     rcases s4'.seqT q1 with (z | ⟨o,z⟩) | z
     ·exact .inl (.inl (TP _ _ z))
     ·exact .inl (.inr ⟨o,CH _ _ (xU z k4 (by intro z; cases z)) z⟩)
     ·exact .inr z
    generalize upd G4 kp (.dT (putK kvs (tkey fs) (.ref t4)))=G5 at k5 s05 h5' e5 f5 m5 t5 d5 t45 q0' q1' ⊢
    refine ⟨xb e5,?_⟩
    (iterate 5 ((try (walk_at "WP")); (try (simp only [h5',qJs,qJt,qJl,qJd,exists_eq_left',exists_eq_left])))); (try (walk_at "WP"))
    refine ⟨p0,p1,G0,G1',rfl,q0',q1',fun r6 G6 n6 s6 h6=>?_⟩
    have e6:=s6 _ _ e5
    have le:=M.le
    have leu:=tG.len
    (iterate 5 ((try (walk_at "WP")); (try (simp only [e6,qJs,qJt,qJl,qJd,exists_eq_left',exists_eq_left])))); (try (walk_at "WP"))
    refine ⟨qJ (by omega:eu.length < 1000) (yG (by decide)),?_⟩
    have L7:LS G6 (upd G6 el (.lst (eu ++ [V.ref r6]))):=(Chg.upd _).ls e6 zF
    have C7:Chg el G6 (upd G6 el (.lst (eu ++ [V.ref r6]))):=Chg.upd _
    obtain ⟨M',er'⟩:=M.deed (v:=.ref t4) Fr hin hiR (fun j hj=>xB hj) hno hd P0 P1
    refine hN2 _ _ ⟨_,_,_,_,_,es ++ [xV G0 G1'],rfl,same_upd nel0 (s05.trans s6),C7 _ _ fle (s6 _ _ f5),(m5.same s6).tp L7.tp,C7 _ _ kel (s6 _ _ k5),zF,((t5.same s6).tp L7.tp).snoc (L7.tp _ _ h6),?_,M',zZ putK_len (by omega)⟩
    refine ((std_put (R':=rowsW n es) d5 (t:=t4) (i:=n+es.length) (b:=k) (h:=g * JX G0 G1') ?_ (sg_mul Fr.sg sgn) er' (fun j row hj=>JE n es _ hj)).same s6).tp L7.tp
    rw [t45,leu,Int.natCast_add]
  ·rintro σ G ⟨o1,o2,o3,kvs,eu,es,rfl,sG,fG,mG,kG,eG,tG,dG,M,_⟩
   exact hN _ _ ⟨_,_,_,kvs,eu,es,rfl,sG,fG,mG,kG,eG,tG,dG,by rw [← lr,← lw]; exact M⟩
 ·rintro σ G ⟨o1,o2,o3,kvs,eu,es,rfl,sG,fG,mG,kG,eG,tG,dG,M⟩
  have hG:=sG _ _ h1
  (iterate 5 ((try (walk_at "WP")); (try (simp only [hG,qJs,qJt,qJl,qJd,exists_eq_left',exists_eq_left])))); (try (walk_at "WP"))
  have WG:=W.same sG
  have gl12:=F.f.ok.gl
  have og:=W.hgs.len
  refine ⟨⟨_,SqL.of WG.gll⟩,?_⟩
  refine comp_rel (Rl:=fun H v (g:Go)=>∃ p G',v = .ref p /\ SqT K H p (gTp G') /\ GoM (rowsW n ds) (rowsW n es) g G') (fun _ _ _ _ h l=>by obtain ⟨p,G',a,b,c⟩:=h; exact ⟨p,G',a,l.seqT b,c⟩) WG.gll WG.hgs (by omega) (fun j tt y H' R hy hty s' hR=>?_) (fun ol ws2 G2 n2' s2' h2' lw2 pr=>?_)
  ·rw [show yZ [2,1] [some (V.ref x),some (V.ref fl),some (V.ref kp),some (V.ref el),o1,o2,o3]=[some (V.ref kp),some (V.ref fl)] from rfl]
   try walk_at "WP"
   have hyg:=qE hy
   have y1:=F.f.ok.gk y hyg
   have ey:=qA (show y.th < (rowsW n ds).length by omega)
   have egy:(rowsW n ds).getD y.th []=(rowsW n ds)[y.th]'(by omega):=zY ey
   have y2:y.sg=0 \/ y.sg=1 \/ y.sg = -1:=(F.f.go y hyg).elim (fun z=>.inl (by rw [z])) fun z=>.inr z.1
   refine ⟨kp,fl,tt,kvs,ws,rowsW n ds,rowsW n es,y.th,y.sh,y.sg,_,rfl,s' _ _ kG,dG.same s',s' _ _ fG,mG.same s',hty,ey,y2,fun hz t0 ht0=>?_,fun fs' k2 g2 y0 F2=>?_⟩
   ·exact hR _ _ (Same.refl _) ⟨t0,⟨0,0,0⟩,rfl,ht0,.inl ⟨by rw [egy]; exact hz,rfl⟩⟩
   ·rw [← egy] at F2
    refine ⟨M.cv y.th y1 fs' k2 g2 F2,fun r i2 b2 h2'' H5 s5 h5 hh2 e2=>hR _ _ s5 ⟨r,⟨i2,y.sh+k2 - b2,y.sg * g2 * h2''⟩,rfl,SqT.of h5,.inr ⟨y0,?_⟩⟩⟩
    have ym:(rowsW n ds).getD y.th [] ∈ rowsW n ds:=by rw [egy]; exact qE ey
    rcases F.f.go y hyg with z | ⟨z1,z2⟩
    ·rw [z] at y0
     exact absurd rfl y0
    ·exact pst_ofB F2 z2 (F.sg y hyg) z1 (fun x hx=>(F.rb _ ym).2 x hx) (fun r hr x hx=>(M.memB F r hr).2 x hx) hh2 e2
  obtain ⟨gs',lg,hgs'⟩:=pick_list (xs:=ws2) (P:=fun i u (G':Go)=>(∃ p,u = .ref p /\ SqT K G2 p (gTp G')) /\ ∀ g,gs[i]? = some g -> GoM (rowsW n ds) (rowsW n es) g G') (fun i u hu=>by
   have il:=(qB.mp hu).1
   have eg:=qA (show i < gs.length by omega)
   obtain ⟨p,G',a,b,c⟩:=pr i u _ hu eg
   exact ⟨G',⟨p,a,b⟩,fun g hg=>by rw [eg] at hg; cases hg; exact c⟩)
  have HK:HKs K gTp G2 ws2 gs':=⟨lg.symm,fun k y hy=>by
   have kl:=(qB.mp hy).1
   have eu':=qA (show k < ws2.length by omega)
   obtain ⟨⟨p,a,b⟩,_⟩:=hgs' k _ y eu' hy
   exact ⟨p,by rw [eu',a],b⟩⟩
  have GM:∀ (k:Nat) g g',gs[k]? = some g -> gs'[k]? = some g' -> GoM (rowsW n ds) (rowsW n es) g g':=fun k g g' hg hg'=>by
   have kl:=(qB.mp hg').1
   exact (hgs' k _ g' (qA (show k < ws2.length by omega)) hg').2 g hg
  obtain ⟨F4,BP,OR,LE⟩:=M.fwB F (by omega) GM
  intro rr nrr
  have sr:=zO nrr (.tup [V.int (n:Int),V.ref el,V.ref ol])
  have s2r:=s2'.trans sr
  exact q rr el ol eu ws2 es gs' _ (sG.trans s2r) ⟨zF,s2r _ _ eG,tG.same s2r,sr _ _ h2',HK.same sr⟩ F4 (fun r hr=>⟨by rw [(M.memB F r hr).1]; exact F.f.ok.i2,(M.memB F r hr).2⟩) BP OR LE
theorem ok_bare (T:Txt K mg):Cal P w K mg base 6 "bare" ["web"] (spBareC K):=by
 have B:=T.bl
 have C_pruned:=(ok_prunedK (P:=P) (w:=w) (base:=base) T).mono (k:=5) (by decide)
 have C_merged:=ok_merged (P:=P) (w:=w) (base:=base) T
 refine yT T.t_bare sc_bare (fun vs H Q E h=>?_) (fun f cdv A outer s H vs Q E hr h=>?_)
 ·obtain ⟨x,_,_,_,_,_,_,_,rfl,_⟩:=h
  rfl
 obtain ⟨x,dl,gl,n,us,ds,os,gs,rfl,W,F,q⟩:=h
 refine ⟨_,(zM (zd (zP C_pruned hr rfl (zB (zP C_merged hr rfl (zB (zP C_pruned hr rfl (zB (pv 0) zD)) zD)) zD)))),?_⟩
 rw [show yJ ["web"] [.ref x]=[some (.ref x)] from rfl]
 try walk_at "WP"
 refine ⟨x,dl,gl,n,us,ds,os,gs,rfl,W,F.f.ok,fun r1 d1 g1 us1 os1 bs1 H1 _ _ _ _ s1 U1 W1=>?_⟩
 have F1:=F.kept U1
 obtain ⟨_,_,O1⟩:=F.f.kept U1
 try walk_at "WP"
 refine ⟨r1,d1,g1,n,us1,_,os1,_,rfl,W1,F1,fun r2 d2 g2 us2 os2 es gs2 H2 s2 W2 F2 RB2 B2 O2 L2'=>?_⟩
 try walk_at "WP"
 refine ⟨r2,d2,g2,n,us2,es,os2,gs2,rfl,W2,F2.ok,fun r3 d3 g3 us3 os3 bs3 H3 nr nd ng dg s3 U3 W3=>?_⟩
 obtain ⟨F3,SU3,O3⟩:=F2.kept U3
 have s02:=s1.trans s2
 refine q r3 d3 g3 us3 os3 _ _ bs1 H3 (s02.free nr) (s02.free nd) (s02.free ng) dg (s02.trans s3) W3 F3 (fun r hr=>RB2 r (SU3 r hr)) (B2.keptB F2.ok F2.zo U3) (O3.trans (O2.trans O1)) (fun j h1 h2=>kept_all_rchB F2.ok U3 h2 h1) U1 (zZ ?_ L2')
 have:=zAm bs3 n es 0
 have k2:=zBS bs3 n es.length
 rw [yf] at this
 have k0:keptN bs3 n 0=0:=rfl
 omega
end
section
variable {P:Program}{w:World}{K:zA}{mg:Str -> Option Value}{base:Heap}
theorem ok_runK (T:Txt K mg):Cal P w K mg base 3 "run" ["web","values"] (spRunKB K):=by
 have B:=T.bl
 have C_deed_arrows:=ok_darrK (P:=P) (w:=w) (base:=base) T
 have C_shifted:=(zAL (P:=P) (w:=w) (base:=base) T).mono (k:=2) (by decide)
 refine yT T.t_run sc_run (fun vs H Q E h=>?_) (fun f cdv A outer s H vs Q E hr h=>?_)
 ·obtain ⟨x,v,_,_,_,_,_,_,_,rfl,_⟩:=h
  rfl
 obtain ⟨x,v,dl,gl,us,ds,os,gs,xs,rfl,W,hv,hV,q⟩:=h
 refine ⟨_,(zG (yh (zn zAN (zw ye rfl B.len xI (zB (pv 1) zD)) (zQ yL (pv 0) zC (fun _ _=>rfl)) (yA _)) (zM zBE) yE)
  (zG (zf (i:=2) sc_run.nd rfl (by walk_at "o") (zU op_cat (xc JB rfl B.list Je (zB (pv 1) zD)) (yU (N:=["deed"]) (nt:=1) (cs:=[]) rfl (yc (zQ yL (pv 0) zC (fun _ _=>rfl))) (fun nd C s H fp=>⟨(zS (i:=0) nd rfl (by walk_at "o")),yq,zC⟩) (by decide +kernel) (by first | rfl | decide +kernel) (by first | rfl | decide +kernel) rfl (fun _=>rfl))))
  (zG (xR PassesOwn.never rfl (yc (zP C_deed_arrows hr rfl (zB (pv 0) zD))) (jQ 4 rfl (zu (zS (i:=3) sc_run.nd rfl (by walk_at "o")) (zu (zS (i:=4) sc_run.nd rfl (by walk_at "o")) (zu (zS (i:=5) sc_run.nd rfl (by walk_at "o")) (zu (zS (i:=6) sc_run.nd rfl (by walk_at "o")) xa))))) (zM (ps_asg (zU yp (zQ x6 (pv 2) (pv 4) (fun _ _=>rfl)) (zU yX (pv 6) (zP C_shifted hr rfl (zB (zQ x6 (pv 2) (pv 3) (fun _ _=>rfl)) (zB (pv 5) zD))))) (pg_sub (pv 2) (pv 4) zBF))))
  (zM (zd (pv 2)))))),?_⟩
 rw [show yJ ["web","values","told","start","goal","shift","sign"] [.ref x,.ref v]=[some (.ref x),some (.ref v),none,none,none,none,none] from rfl]
 have h1:=W.tup
 have x12:=hV.xl
 have d60:=hV.dl
 (iterate 5 ((try (walk_at "WP")); (try (simp only [h1,hv,qJs,qJt,qJl,qJd,exists_eq_left',exists_eq_left])))); (try (walk_at "WP"))
 rw [qC,if_neg (by omega)]
 refine ⟨_,.inl (SqL.of hv),fun l hl=>?_⟩
 have sl:=zO hl (.lst (xs.map V.int))
 have hll:upd H l (.lst (xs.map V.int)) l=some (.lst (xs.map V.int)):=zF
 have Wl:=W.same sl
 have h2:=Wl.tup
 generalize upd H l (.lst (xs.map V.int))=H1 at sl hll Wl h2 ⊢
 (iterate 5 ((try (walk_at "WP")); (try (simp only [h2,qJs,qJt,qJl,qJd,exists_eq_left',exists_eq_left])))); (try (walk_at "WP"))
 refine ⟨⟨_,SqL.of Wl.dll⟩,?_⟩
 refine zA5 (f:=fun _=>some (V.int 0)) (SqL.of Wl.dll) (by rw [Wl.hds.len]; exact jK (by omega)) (fun y H' R hy hS' hR=>?_) (fun acc hacc=>?_)
 ·try walk_at "WP"
  exact hR
 have ez:(us.filterMap fun _=>some (V.int 0))=(qQ ds.length (0:Int)).map V.int:=by
  rw [← W.hds.len,List.map_replicate]
  clear W Wl
  induction us with
  | nil=>rfl
  | cons a r ih=>rw [yK]; simp only [ih]; rfl
 rw [ez]
 have sa:=zO hacc (.lst ((qQ ds.length (0:Int)).map V.int))
 have haa:upd H1 acc (.lst ((qQ ds.length (0:Int)).map V.int)) acc=some (.lst ((qQ ds.length (0:Int)).map V.int)):=zF
 have hl2:=sa _ _ hll
 have S2:=sl.trans sa
 generalize upd H1 acc (.lst ((qQ ds.length (0:Int)).map V.int))=H2 at sa haa hl2 S2 ⊢
 try walk_at "WP"
 refine ⟨_,hl2,_,haa,by simp only [qC,qL]; exact jK (by omega),fun r hr0=>?_⟩
 rw [← yC]
 have sr:=zO hr0 (.lst ((xs ++ qQ ds.length (0:Int)).map V.int))
 have hrr:upd H2 r (.lst ((xs ++ qQ ds.length (0:Int)).map V.int)) r=some (.lst ((j8 xs ds 0).map V.int)):=zF
 have S3:=S2.trans sr
 have nr:H r=none:=S2.free hr0
 generalize upd H2 r (.lst ((xs ++ qQ ds.length (0:Int)).map V.int))=H3 at hrr S3 ⊢
 try walk_at "WP"
 refine ⟨x,dl,gl,xs.length,us,ds,os,gs,rfl,W.same S3,by omega,fun al ws H4 na s4 ha4 hts=>?_⟩
 try walk_at "WP"
 refine ⟨⟨_,SqL.of ha4⟩,?_⟩
 have alr:al ≠ r:=(ne_of_none hrr na).symm
 refine forL (xs:=ws) (fun i σ H5=>∃ (o3 o4 o5 o6:Option V),σ = [some (.ref x),some (.ref v),some (.ref r),o3,o4,o5,o6] /\ H5 r=some (.lst ((j8 xs ds i).map V.int)) /\ Chg r H4 H5) ⟨none,none,none,none,rfl,s4 _ _ hrr,fun _ _ _ z=>z⟩ ?_ ?_ ?_
 ·rintro i σ H5 _ ⟨_,_,_,_,_,_,c5⟩
  exact SqL.of (c5 _ _ alr ha4)
 ·rintro i y σ H5 N hy ⟨o3,o4,o5,o6,rfl,hr5,c5⟩ hN
  have hi:i < (arrF xs.length 0 ds).length:=by rw [← hts.len]; exact (qB.mp hy).1
  obtain ⟨p,hp1,hp2⟩:=hts.at_ i _ (qA hi)
  have hai:(arrF xs.length 0 ds)[i]? = some (arrF xs.length 0 ds)[i]:=qA hi
  generalize (arrF xs.length 0 ds)[i]=a at hp2 hai
  rw [hy] at hp1
  cases hp1
  have hp5:=c5 _ _ (xU hp2 (s4 _ _ hrr) (by intro z; cases z)) hp2
  unfold aTup at hp5
  obtain ⟨u,z,e1,e2,e3,e4,e5,e6⟩:=toldA_step4B hV hai
  have a1:atI ((j8 xs ds i).map V.int) (a.st:Int)=some (.int u):=yz (by rw [qI,e1]; rfl)
  have a2:atI ((j8 xs ds i).map V.int) (a.go:Int)=some (.int z):=yz (by rw [qI,e2]; rfl)
  (iterate 5 ((try (walk_at "WP")); (try (simp only [hp5,hr5,qJs,qJt,qJl,qJd,exists_eq_left',exists_eq_left])))); (try (walk_at "WP"))
  refine ⟨_,a2,_,a1,u,a.sh,rfl,by have:=e3.1; omega,by have:=e3.2.1; omega,big_of e4 (by decide),?_⟩
  rw [e3.shV]
  (iterate 5 ((try (walk_at "WP")); (try (simp only [hr5,qJs,qJt,qJl,qJd,exists_eq_left',exists_eq_left])))); (try (walk_at "WP"))
  have hgl:a.go < (j8 xs ds i).length:=(qB.mp e2).1
  refine ⟨by rcases e5 with z | z <;> rw [z] <;> exact mul_l (by decide) (by decide),a.go,?_,?_⟩
  ·rw [qC]
   exact ixN_nat hgl
  ·rw [set_mapI,e6]
   exact hN _ _ ⟨_,_,_,_,rfl,zF,c5.trans (Chg.upd _)⟩
 ·rintro σ H5 ⟨_,_,_,_,rfl,hr5,c5⟩
  try walk_at "WP"
  rw [hts.len,JW,toldA_end] at hr5
  exact q r H5 nr (fun b o hb=>c5 _ _ (ne_of_none hb nr) (s4 _ _ (S3 _ _ hb))) hr5
end
section
variable {P:Program}{w:World}{K:zA}{mg:Str -> Option Value}{base:Heap}
theorem ok_runoK (T:Txt K mg):Cal P w K mg base 4 "run_outs" ["web","values"] (spRunOKB K):=by
 have B:=T.bl
 have C_run:=ok_runK (P:=P) (w:=w) (base:=base) T
 have C_shifted:=(zAL (P:=P) (w:=w) (base:=base) T).mono (k:=3) (by decide)
 refine yT T.t_run_outs sc_run_outs (fun vs H Q E h=>?_) (fun f cdv A outer s H vs Q E hr h=>?_)
 ·obtain ⟨x,v,_,_,_,_,_,_,_,rfl,_⟩:=h
  rfl
 obtain ⟨x,v,dl,gl,us,ds,os,gs,xs,rfl,W,hv,hV,g12,hg,q⟩:=h
 refine ⟨_,(zG (zf (i:=2) sc_run_outs.nd rfl (by walk_at "o") (zP C_run hr rfl (zB (pv 0) (zB (pv 1) zD))))
  (zM (zd (yU (N:=["thing","shift","sign","told"]) (nt:=3) (cs:=[2]) rfl (yc (zQ yL (pv 0) zC (fun _ _=>rfl))) (fun nd C s H fp=>⟨(pg_tupK K 3 rfl (zu (zS (i:=0) nd rfl (by walk_at "o")) (zu (zS (i:=1) nd rfl (by walk_at "o")) (zu (zS (i:=2) nd rfl (by walk_at "o")) xa)))),yq,(zU yX (pv 2) (zP C_shifted hr rfl (zB (zQ x6 (pv 3) (pv 0) (fun _ _=>rfl)) (zB (pv 1) zD))))⟩) (by decide +kernel) (by first | rfl | decide +kernel) (by first | rfl | decide +kernel) rfl (fun _=>rfl))))),?_⟩
 rw [show yJ ["web","values","told"] [.ref x,.ref v]=[some (.ref x),some (.ref v),none] from rfl]
 try walk_at "WP"
 refine ⟨x,v,dl,gl,us,ds,os,gs,xs,rfl,W,hv,hV,fun r H1 nr s1 hr1=>?_⟩
 have W1:=W.same s1
 have h1:=W1.tup
 (iterate 5 ((try (walk_at "WP")); (try (simp only [h1,qJs,qJt,qJl,qJd,exists_eq_left',exists_eq_left])))); (try (walk_at "WP"))
 refine ⟨⟨_,SqL.of W1.gll⟩,?_⟩
 refine zBz W1.gll W1.hgs (by omega) (fun g=>some (V.int (outV (valsW xs ds) g))) (fun g H' R hgm s' hR=>?_) (fun acc H' na s' ha=>?_)
 ·rw [show yZ [2] [some (V.ref x),some (V.ref v),some (V.ref r)]=[some (V.ref r)] from rfl,yR,yR,yR,Jm]
  obtain ⟨g1,g2,g3⟩:=hg g hgm
  obtain ⟨u,e1,e2,e3⟩:=valsW_at (xs:=xs) (ds:=ds) g1
  rw [e2] at g2
  have hr2:=s' _ _ hr1
  have a1:atI ((valsW xs ds).map V.int) (g.th:Int)=some (.int u):=yz (by rw [qI,e1]; rfl)
  (iterate 5 ((try (walk_at "WP")); (try (simp only [hr2,qJs,qJt,qJl,qJd,exists_eq_left',exists_eq_left])))); (try (walk_at "WP"))
  refine ⟨_,a1,u,g.sh,rfl,by have:=g2.1; omega,by have:=g2.2.1; omega,big_of (hV.vb u e3) (by decide),?_⟩
  rw [g2.shV]
  try walk_at "WP"
  refine ⟨by rcases g3 with z | z | z <;> rw [z] <;> exact mul_l (by decide) (by decide),?_⟩
  unfold outV at hR
  rw [e2] at hR
  exact hR
 ·rw [show (gs.filterMap fun g=>some (V.int (outV (valsW xs ds) g)))=(gs.map (outV (valsW xs ds))).map V.int by rw [yb]; exact jk (fun g=>V.int (outV (valsW xs ds) g)) gs] at ha
  exact q acc H' (s1.free na) (s1.trans s') ha
end
section
variable {P:Program}{w:World}{K:zA}{mg:Str -> Option Value}{base:Heap}
theorem zCI (T:Txt K mg):Cal P w K mg base 3 "depths" ["web"] (spDepthsB K):=by
 have B:=T.bl
 have C_deed_arrows:=ok_darrK (P:=P) (w:=w) (base:=base) T
 have C_thing_count:=(ok_countK (P:=P) (w:=w) (base:=base) T).mono (k:=2) (by decide)
 refine yT T.t_depths sc_depths (fun vs H Q E h=>?_) (fun f cdv A outer s H vs Q E hr h=>?_)
 ·obtain ⟨_,_,_,_,_,_,_,_,rfl,_⟩:=h
  rfl
 obtain ⟨x,dl,gl,ins,us,ds,os,gs,rfl,W,hD,d60,i12,q⟩:=h
 refine ⟨_,(zG (jU (ix:=1) (N:=["thing"]) (nt:=1) (cs:=[]) rfl (xr rfl B.range (zB (zP C_thing_count hr rfl (zB (pv 0) zD)) zD)) (fun nd C s H fp=>⟨(zS (i:=0) nd rfl (by walk_at "o")),yq,zC⟩) (by decide +kernel) (by first | rfl | decide +kernel) (by first | rfl | decide +kernel) rfl (fun _=>rfl) sc_depths.nd rfl (by walk_at "o") (by walk_at "o") rfl)
  (zG (xR PassesOwn.never rfl (yc (zP C_deed_arrows hr rfl (zB (pv 0) zD))) (jQ 4 rfl (zu (zS (i:=2) sc_depths.nd rfl (by walk_at "o")) (zu (zS (i:=3) sc_depths.nd rfl (by walk_at "o")) (zu (zS (i:=4) sc_depths.nd rfl (by walk_at "o")) (zu (zS (i:=5) sc_depths.nd rfl (by walk_at "o")) xa))))) (zM (ps_asg (zw (call_max2 rfl) rfl B.max bo_max (zB (zQ x6 (pv 1) (pv 3) (fun _ _=>rfl)) (zB (zU yp (zQ x6 (pv 1) (pv 2) (fun _ _=>rfl)) zC) zD))) (pg_sub (pv 1) (pv 3) zBF))))
  (zM (zd (pv 1))))),?_⟩
 rw [show yJ ["web","told","start","goal","shift","sign"] [.ref x]=[some (.ref x),none,none,none,none,none] from rfl]
 try walk_at "WP"
 refine ⟨x,dl,gl,ins,us,ds,os,gs,rfl,W,?_⟩
 try walk_at "WP"
 refine ⟨by omega,by omega,?_⟩
 have ezg:∀ (ys:List V),(ys.filterMap fun _=>some (V.int 0))=(qQ ys.length (0:Int)).map V.int:=fun ys=>by
  rw [List.map_replicate]
  induction ys with
  | nil=>rfl
  | cons a r ih=>rw [yK]; simp only [ih]; rfl
 rw [show ((ins:Int)+(ds.length:Int)).toNat=ins+ds.length by omega]
 refine comp_R (f:=fun _=>some (V.int 0)) (yG (by omega)) (fun y H5 R5 hy s5 hR5=>?_) (fun r hr0=>?_)
 ·try walk_at "WP"
  exact hR5
 rw [ezg,ji]
 have sr:=zO hr0 (.lst ((qQ (ins+ds.length) (0:Int)).map V.int))
 have hrr:upd H r (.lst ((qQ (ins+ds.length) (0:Int)).map V.int)) r=some (.lst ((tG gDe 0 (qQ ins 0) ds 0).map V.int)):=by
  rw [zF]
  show _=some (HO.lst ((qQ ins (0:Int) ++ qQ ds.length 0).map V.int))
  rw [List.replicate_append_replicate]
 generalize upd H r (.lst ((qQ (ins+ds.length) (0:Int)).map V.int))=H3 at sr hrr ⊢
 try walk_at "WP"
 refine ⟨x,dl,gl,ins,us,ds,os,gs,rfl,W.same sr,by omega,fun al ws H4 na s4 ha4 hts=>?_⟩
 try walk_at "WP"
 refine ⟨⟨_,SqL.of ha4⟩,?_⟩
 have alr:al ≠ r:=(ne_of_none hrr na).symm
 have xl:(qQ ins (0:Int)).length=ins:=qL
 have dk2:∀ (k:Nat) (d:Wd),ds[k]? = some d -> d.a < (qQ ins (0:Int)).length+k /\ d.b < (qQ ins (0:Int)).length+k:=fun k d hd=>by
  rw [xl]
  exact hD k d hd
 refine forL (xs:=ws) (fun i σ H5=>∃ (o3 o4 o5 o6:Option V),σ = [some (.ref x),some (.ref r),o3,o4,o5,o6] /\ H5 r=some (.lst ((tG gDe 0 (qQ ins 0) ds i).map V.int)) /\ Chg r H4 H5) ⟨none,none,none,none,rfl,s4 _ _ hrr,fun _ _ _ z=>z⟩ ?_ ?_ ?_
 ·rintro i σ H5 _ ⟨_,_,_,_,_,_,c5⟩
  exact SqL.of (c5 _ _ alr ha4)
 ·rintro i y σ H5 N hy ⟨o3,o4,o5,o6,rfl,hr5,c5⟩ hN
  have hi:i < (arrF ins 0 ds).length:=by rw [← hts.len]; exact (qB.mp hy).1
  obtain ⟨p,hp1,hp2⟩:=hts.at_ i _ (qA hi)
  have hai:(arrF ins 0 ds)[i]? = some (arrF ins 0 ds)[i]:=qA hi
  generalize (arrF ins 0 ds)[i]=a at hp2 hai
  rw [hy] at hp1
  cases hp1
  have hp5:=c5 _ _ (xU hp2 (s4 _ _ hrr) (by intro z; cases z)) hp2
  unfold aTup at hp5
  obtain ⟨u,z,e1,e2,e3,⟨d,hd,e4⟩,e5,e6⟩:=tG_step (g:=gDe) (z:=0) dk2 (by rw [xl]; exact hai)
  have a1:atI ((tG gDe 0 (qQ ins 0) ds i).map V.int) (a.st:Int)=some (.int u):=yz (by rw [qI,e1]; rfl)
  have a2:atI ((tG gDe 0 (qQ ins 0) ds i).map V.int) (a.go:Int)=some (.int z):=yz (by rw [qI,e2]; rfl)
  (iterate 5 ((try (walk_at "WP")); (try (simp only [hp5,hr5,qJs,qJt,qJl,qJd,exists_eq_left',exists_eq_left])))); (try (walk_at "WP"))
  refine ⟨_,a2,_,a1,?_⟩
  (iterate 5 ((try (walk_at "WP")); (try (simp only [hr5,qJs,qJt,qJl,qJd,exists_eq_left',exists_eq_left])))); (try (walk_at "WP"))
  refine ⟨_,_,⟨rfl,rfl⟩,?_⟩
  have hgl:a.go < (tG gDe 0 (qQ ins 0) ds i).length:=(qB.mp e2).1
  (iterate 5 ((try (walk_at "WP")); (try (simp only [hr5,qJs,qJt,qJl,qJd,exists_eq_left',exists_eq_left])))); (try (walk_at "WP"))
  refine ⟨a.go,by rw [qC]; exact ixN_nat hgl,?_⟩
  have em:(if u+1 > z then u+1 else z)=gDe z a.sh a.sg u:=by
   show _=max z (u+1)
   split <;> omega
  rw [em,set_mapI,e6]
  exact hN _ _ ⟨_,_,_,_,rfl,zF,c5.trans (Chg.upd _)⟩
 ·rintro σ H5 ⟨_,_,_,_,rfl,hr5,c5⟩
  try walk_at "WP"
  rw [hts.len,JW,tG_end] at hr5
  exact q r H5 hr0 (fun b o hb=>c5 _ _ (ne_of_none hb hr0) (s4 _ _ (sr _ _ hb))) hr5
theorem zBu (T:Txt K mg):Cal P w K mg base 4 "depth" ["web"] (spDepthB K):=by
 have B:=T.bl
 have C_depths:=zCI (P:=P) (w:=w) (base:=base) T
 refine yT T.t_depth sc_depth (fun vs H Q E h=>?_) (fun f cdv A outer s H vs Q E hr h=>?_)
 ·obtain ⟨_,_,_,_,_,_,_,_,rfl,_⟩:=h
  rfl
 obtain ⟨x,dl,gl,ins,us,ds,os,gs,rfl,W,hD,d60,i12,g12,gk,q⟩:=h
 refine ⟨_,(zG (zf (i:=1) sc_depth.nd rfl (by walk_at "o") (zP C_depths hr rfl (zB (pv 0) zD)))
  (zM (zd (pe_maxD rfl rfl B.max (zB (yU (N:=["thing","shift","sign","told"]) (nt:=3) (cs:=[1]) rfl (yc (zQ yL (pv 0) zC (fun _ _=>rfl))) (fun nd C s H fp=>⟨(pg_tupK K 3 rfl (zu (zS (i:=0) nd rfl (by walk_at "o")) (zu (zS (i:=1) nd rfl (by walk_at "o")) (zu (zS (i:=2) nd rfl (by walk_at "o")) xa)))),(pn_one (zn zAN (pv 2) zC (yA _))),(zQ x6 (pv 3) (pv 0) (fun _ _=>rfl))⟩) (by decide +kernel) (by first | rfl | decide +kernel) (by first | rfl | decide +kernel) rfl (fun _=>rfl)) zD) (pk_cons zC pk_nil))))),?_⟩
 rw [show yJ ["web","told"] [.ref x]=[some (.ref x),none] from rfl]
 try walk_at "WP"
 refine ⟨x,dl,gl,ins,us,ds,os,gs,rfl,W,hD,d60,i12,fun r H1 nr s1 hr1=>?_⟩
 have h1:=s1 _ _ W.tup
 (iterate 5 ((try (walk_at "WP")); (try (simp only [h1,qJs,qJt,qJl,qJd,exists_eq_left',exists_eq_left])))); (try (walk_at "WP"))
 refine ⟨⟨_,SqL.of (s1 _ _ W.gll)⟩,?_⟩
 refine zBz (s1 _ _ W.gll) (W.hgs.same s1) (by omega) (fun g=>if g.sg ≠ 0 then some (V.int ((dpW ins ds).getD g.th 0)) else none) (fun g H' R hg s' hR=>?_) (fun acc H2 na s2 ha=>?_)
 ·rw [show yZ [1] [some (V.ref x),some (V.ref r)]=[some (.ref r)] from rfl]
  have hr2:=s' _ _ hr1
  rw [yR,yR,yR,Jm]
  (iterate 5 ((try (walk_at "WP")); (try (simp only [hr2,qJs,qJt,qJl,qJd,exists_eq_left',exists_eq_left])))); (try (walk_at "WP"))
  refine xS (fun z=>?_) (fun z=>?_)
  ·rw [if_pos z] at hR
   have e:=qA (l:=dpW ins ds) (i:=g.th) (by rw [dpW_len]; exact gk g hg)
   refine ⟨_,yz (by rw [qI,e]; rfl),?_⟩
   rw [zY e] at hR
   exact hR
  ·rw [if_neg z] at hR
   exact hR
 have e:gs.filterMap (fun g=>if g.sg ≠ 0 then some (V.int ((dpW ins ds).getD g.th 0)) else none)=(goD (dpW ins ds) gs).map V.int:=by
  unfold goD
  clear ha gk hD W q g12
  induction gs with
  | nil=>rfl
  | cons g r ih =>
   rw [yK,ih]
   by_cases z:g.sg ≠ 0
   ·rw [if_pos z,J8 (by simpa using z)]
    rfl
   ·rw [if_neg z,J9 (by simpa using z)]
 rw [e] at ha
 try walk_at "WP"
 refine ⟨goD (dpW ins ds) gs,ha,fun n hn=>?_,q _ (s1.trans s2)⟩
 obtain ⟨g,_,rfl⟩:=qP.mp hn
 exact dp_nn g.th
end
section
variable {P:Program}{w:World}{K:zA}{mg:Str -> Option Value}{base:Heap}
theorem ok_orowB (T:Txt K mg):Cal P w K mg base 3 "out_row" ["out","rows"] (spORowB K):=by
 have B:=T.bl
 have C_shifted_row:=zBt (P:=P) (w:=w) (base:=base) T
 refine yT T.t_out_row sc_out_row (fun vs H Q E h=>?_) (fun f cdv A outer s H vs Q E hr h=>?_)
 ·obtain ⟨x,l,g,ys,rs,ins,b,rfl,_⟩:=h
  rfl
 obtain ⟨x,l,g,ys,rs,ins,b,rfl,hx,hl,ht,ha,hs,hg,hw,hi,rb,hb8,q⟩:=h
 refine ⟨_,(zM (zd (xc jv rfl B.tuple Ju (zB (yU (N:=["number","out"]) (nt:=1) (cs:=[0]) rfl (yc (zP C_shifted_row hr rfl (zB (zQ x6 (pv 1) (zQ ix_tup (pv 0) zC (fun _ _=>rfl)) (fun _ _=>rfl)) (zB (zQ ix_tup (pv 0) zC (fun _ _=>rfl)) zD)))) (fun nd C s H fp=>⟨(zS (i:=0) nd rfl (by walk_at "o")),yq,(zU yX (zQ (ix_tupK K) (pv 1) zC (fun _ _=>rfl)) (pv 0))⟩) (by decide +kernel) (by first | rfl | decide +kernel) (by first | rfl | decide +kernel) rfl (fun _=>rfl)) zD)))),?_⟩
 rw [show yJ ["out","rows"] [.ref x,.ref l]=[some (.ref x),some (.ref l)] from rfl]
 unfold gTp at hx
 (iterate 5 ((try (walk_at "WP")); (try (simp only [hl,qJs,qJt,qJl,qJd,exists_eq_left',exists_eq_left])))); (try (walk_at "WP"))
 obtain ⟨la,a1,a2,a3⟩:=tup_of ht ha
 refine ⟨_,hx,_,rfl,?_⟩
 (iterate 5 ((try (walk_at "WP")); (try (simp only [hl,qJs,qJt,qJl,qJd,exists_eq_left',exists_eq_left])))); (try (walk_at "WP"))
 refine ⟨_,a1,_,hx,_,rfl,?_⟩
 refine ⟨la,g.sh,_,rfl,a2,by rw [hw _ a3]; omega,rb.lt a3 (by omega),hs.1,hs.2.1,fun r1 H1 n1 s1 h1=>?_⟩
 rw [zBU hs.2.2] at h1
 try walk_at "WP"
 refine ⟨⟨_,SqL.of h1⟩,?_⟩
 have hla:=hw _ a3
 refine zA5 (f:=liI fun n=>g.sg * n) (SqL.of h1) (by simp only [qC]; exact jK (by omega)) (fun y H' R hy hS' hR=>?_) (fun acc hacc=>?_)
 ·obtain ⟨n,hn,rfl⟩:=qP.mp hy
  rw [show yZ [0] [some (V.ref x),some (V.ref l)]=[some (V.ref x)] from rfl]
  have hx2:=(s1.trans hS').seqT hx
  try walk_at "WP"
  refine ⟨_,hx2,_,rfl,?_⟩
  try walk_at "WP"
  exact ⟨mul_l (by omega) (by omega),hR⟩
 rw [zAG,show ((rs.getD g.th []).map (mvI g.sh)).map (fun n=>g.sg * n)=outR rs g by unfold outR; rw [yb]; rfl]
 have sa:=zO hacc (.lst ((outR rs g).map V.int))
 try walk_at "WP"
 refine ⟨_,.inl ⟨SqL.of zF,fun r hr0=>?_⟩⟩
 have s13:=s1.trans sa
 exact q r _ (s13.free hr0) (s13.trans (zO hr0 _)) zF
theorem ok_onumsB (T:Txt K mg):Cal P w K mg base 5 "out_numbers" ["web"] (spONumsB K):=by
 have B:=T.bl
 have C_numbers:=ok_nums4 (P:=P) (w:=w) (base:=base) T
 have C_out_row:=(ok_orowB (P:=P) (w:=w) (base:=base) T).mono (k:=4) (by decide)
 refine yT T.t_out_numbers sc_out_numbers (fun vs H Q E h=>?_) (fun f cdv A outer s H vs Q E hr h=>?_)
 ·obtain ⟨x,_,_,_,_,_,_,_,rfl,_⟩:=h
  rfl
 obtain ⟨x,dl,gl,ins,us,ds,os,gs,rfl,W,F,q⟩:=h
 refine ⟨_,(zG (zf (i:=1) sc_out_numbers.nd rfl (by walk_at "o") (zP C_numbers hr rfl (zB (pv 0) zD)))
  (zM (zd (yU (N:=["out","rows"]) (nt:=1) (cs:=[1]) rfl (yc (zQ yL (pv 0) zC (fun _ _=>rfl))) (fun nd C s H fp=>⟨(zS (i:=0) nd rfl (by walk_at "o")),yq,(zP C_out_row hr rfl (zB (pv 0) (zB (pv 1) zD)))⟩) (by decide +kernel) (by first | rfl | decide +kernel) (by first | rfl | decide +kernel) rfl (fun _=>rfl))))),?_⟩
 rw [show yJ ["web","rows"] [.ref x]=[some (.ref x),none] from rfl]
 try walk_at "WP"
 refine ⟨x,dl,gl,ins,us,ds,os,gs,rfl,W,F,fun r0 ys H1 n1 s1 h1 ht=>?_⟩
 have h2:=s1 _ _ W.tup
 (iterate 5 ((try (walk_at "WP")); (try (simp only [h2,qJs,qJt,qJl,qJd,exists_eq_left',exists_eq_left])))); (try (walk_at "WP"))
 have gl12:=F.ok.gl
 have i1:=F.ok.i1
 have dl60:=F.ok.dl
 have hg1:=(W.same s1).gll
 refine ⟨⟨_,SqL.of hg1⟩,?_⟩
 refine comp_tups (f:=iT) (xs:=os) (gs.map (outR (rowsW ins ds))) (by rw [qC,W.hgs.len]) (by rw [W.hgs.len]; omega) (fun H' s'=>it_Ls (SqL.of hg1) s') (fun i v z H' R hv hz s' hR=>?_) (fun acc zs H' ha s' h' ht'=>q acc zs H' (s1.free ha) (s1.trans s') h' ht')
 have hi:i < gs.length:=by rw [← W.hgs.len]; exact (qB.mp hv).1
 obtain ⟨y,hy1,hy2⟩:=W.hgs.at_ i _ (qA hi)
 have hgi:gs[i]? = some gs[i]:=qA hi
 generalize gs[i]=g at hy2 hgi
 rw [hv] at hy1
 cases hy1
 rw [qI,hgi] at hz
 cases hz
 rw [show yZ [1] [some (V.ref x),some (V.ref r0)]=[some (V.ref r0)] from rfl]
 try walk_at "WP"
 have hgm:=qE hgi
 have hth:=F.ok.gk g hgm
 have s2:=s1.trans s'
 refine ⟨y,r0,g,ys,rowsW ins ds,ins,8000,rfl,s2.seqT hy2,s' _ _ h1,ht.same s',by rw [rowsW_len]; exact hth,?_,?_,F.wd,F.ok.i2,F.rb,zE _,fun r H5 a b c=>hR r H5 a b c⟩
 ·rcases F.go g hgm with z | z
  ·rw [z]
   exact ⟨by decide,by decide,fun h=>absurd h (by decide)⟩
  ·exact z.2
 ·rcases F.go g hgm with z | z
  ·rw [z]; exact .inl rfl
  ·exact .inr z.1
end
section
variable {P:Program}{w:World}{K:zA}{mg:Str -> Option Value}{base:Heap}
theorem ok_least (T:Txt K mg):Cal P w K mg base 3 "least" ["number"] spLeast:=by
 have B:=T.bl
 have C_signs:=ok_signs (P:=P) (w:=w) (base:=base) T
 refine yT T.t_least sc_least (fun vs H Q E h=>?_) (fun f cdv A outer s H vs Q E hr h=>?_)
 ·obtain ⟨n,rfl,_⟩:=h
  rfl
 obtain ⟨n,rfl,hb,q⟩:=h
 refine ⟨_,(zM (zd (zw ye rfl B.len xI (zB (yU (N:=["digit"]) (nt:=1) (cs:=[]) rfl (yc (zP C_signs hr rfl (zB (pv 0) zD))) (fun nd C s H fp=>⟨(zS (i:=0) nd rfl (by walk_at "o")),(pn_one (zn zAN (pv 0) zC (yA _))),(pv 0)⟩) (by decide +kernel) (by first | rfl | decide +kernel) (by first | rfl | decide +kernel) rfl (fun _=>rfl)) zD)))),?_⟩
 rw [show yJ ["number"] [.int n]=[some (.int n)] from rfl]
 try walk_at "WP"
 refine ⟨n,rfl,hb,fun r hr=>?_⟩
 have sm:=zO hr (.lst ((naf n).map V.int))
 have hr1:upd H r (.lst ((naf n).map V.int)) r=some (.lst ((naf n).map V.int)):=zF
 generalize upd H r (.lst ((naf n).map V.int))=H1 at sm hr1 ⊢
 try walk_at "WP"
 refine ⟨⟨_,SqL.of hr1⟩,?_⟩
 refine zA5 (f:=fltV) (SqL.of hr1) (by rw [qC]; exact jK (zZ (zAE 5000 n hb) (by decide))) (fun x H' R hx hS' hR=>?_) (fun w hw=>?_)
 ·obtain ⟨d,hd,rfl⟩:=qP.mp hx
  try walk_at "WP"
  refine xS (fun c=>?_) (fun c=>?_)
  ·rw [fltV_ne c] at hR
   exact hR
  ·rw [Decidable.not_not.mp c] at hR
   exact hR
 rw [zAX]
 have sm2:=zO hw (.lst (((naf n).filter fun d=>decide (d ≠ 0)).map V.int))
 refine ⟨w,rfl,_,zF,?_⟩
 rw [qC]
 exact q _ (sm.trans sm2)
end
section
variable {P:Program}{w:World}{K:zA}{mg:Str -> Option Value}{base:Heap}
theorem ok_hal (T:Txt K mg):Cal P w K mg base 1 "halvings_to_one" ["count"] spHal:=by
 have B:=T.bl
 refine yT T.t_halvings_to_one zBC (fun vs H Q E h=>?_) (fun f cdv A outer s H vs Q E hr h=>?_)
 ·obtain ⟨c,rfl,_⟩:=h
  rfl
 obtain ⟨c,rfl,q⟩:=h
 refine ⟨_,(zM (zd (Jr (zn op_gt (pv 0) zC (yA _)) (pe_bm0 PySem.F.plainAttrs_int PyProof.Rows.slot_int_bit_length PyProof.Rows.type_int_bit_length mt_bits (zU xK (pv 0) zC)) zC))),?_⟩
 rw [show yJ ["count"] [.int c]=[some (.int c)] from rfl]
 try walk_at "WP"
 unfold halN at q
 refine xS (fun z=>?_) (fun z=>?_)
 ·rw [if_pos z] at q
  exact q
 ·rw [if_neg z] at q
  exact q
theorem ok_ld (T:Txt K mg):Cal P w K mg base 5 "least_depth" ["numbers"] spLD:=by
 have B:=T.bl
 have C_least:=(ok_least (P:=P) (w:=w) (base:=base) T).mono (k:=4) (by decide)
 have C_halvings_to_one:=(ok_hal (P:=P) (w:=w) (base:=base) T).mono (k:=4) (by decide)
 refine yT T.t_least_depth zCF (fun vs H Q E h=>?_) (fun f cdv A outer s H vs Q E hr h=>?_)
 ·obtain ⟨a,ns,rfl,_⟩:=h
  rfl
 obtain ⟨a,ns,rfl,ha,hl,hb,q⟩:=h
 refine ⟨_,(zM (zd (pe_maxD rfl rfl B.max (zB (yU (N:=["number"]) (nt:=1) (cs:=[]) rfl (yc (pv 0)) (fun nd C s H fp=>⟨(zS (i:=0) nd rfl (by walk_at "o")),yq,(zP C_halvings_to_one hr rfl (zB (zP C_least hr rfl (zB (pv 0) zD)) zD))⟩) (by decide +kernel) (by first | rfl | decide +kernel) (by first | rfl | decide +kernel) rfl (fun _=>rfl)) zD) (pk_cons zC pk_nil)))),?_⟩
 rw [show yJ ["numbers"] [.ref a]=[some (.ref a)] from rfl]
 try walk_at "WP"
 refine ⟨⟨_,SqL.of ha⟩,?_⟩
 refine comp_newL (SqL.of ha) (by rw [qC]; exact jK (by omega)) (liI fun n=>((halN (wn n:Nat):Nat):Int)) (fun x H' R hx hS' hR=>?_) (fun acc H' hacc sm hac=>?_)
 ·obtain ⟨n,hn,rfl⟩:=qP.mp hx
  try walk_at "WP"
  refine ⟨n,rfl,hb n hn,fun H5 s5=>?_⟩
  try walk_at "WP"
  exact ⟨_,rfl,hR H5 s5⟩
 try walk_at "WP"
 rw [zAG] at hac
 refine ⟨_,hac,?_,q H' sm⟩
 intro n hn
 obtain ⟨m,_,rfl⟩:=qP.mp hn
 exact Int.natCast_nonneg _
end
section
variable {P:Program}{w:World}{K:zA}{mg:Str -> Option Value}{base:Heap}
theorem ok_close (T:Txt K mg):Cal P w K mg base 2 "_law_close" ["_law_pen_here","_law_found"] (spClose K):=by
 have B:=T.bl
 have C_l_draw:=ok_draw (P:=P) (w:=w) (base:=base) T
 refine yT T.t_l_close sc_l_close (fun vs H Q E h=>?_) (fun f cdv A outer s H vs Q E hr h=>?_)
 ·obtain ⟨p,a,l,ns,c,xs,rfl,_⟩:=h
  rfl
 obtain ⟨p,a,l,ns,c,xs,rfl,P0,S0,h63,hc,hl,lp,l6,hb,q⟩:=h
 refine ⟨_,(zG (zf (i:=2) sc_l_close.nd rfl (by walk_at "o") (zP C_l_draw hr rfl (zB (pv 0) (zB zC zD))))
  (zG (zf (i:=3) sc_l_close.nd rfl (by walk_at "o") (zP C_l_draw hr rfl (zB (pv 0) (zB zC zD))))
  (zG (zf (i:=4) sc_l_close.nd rfl (by walk_at "o") (pv 3))
  (xO (yh (zn xm (pv 2) zC (yA _)) (zG (zf (i:=4) sc_l_close.nd rfl (by walk_at "o") (zU xK (zU yp (zU jh zC (zU jg (pv 3) zC)) zC) (zU yX zC (zU jg (zU Js (pv 3) zC) zC))))
  (zM (zf (i:=4) sc_l_close.nd rfl (by walk_at "o") (zU yX (pv 4) (zU yp (zU jh zC (zU yp (zU Js (pv 3) zC) zC)) zC))))) yE)
  (xO (yh (zn xm (pv 2) zC (yA _)) (zM (zf (i:=4) sc_l_close.nd rfl (by walk_at "o") (zU yp (zU yX (zP C_l_draw hr rfl (zB (pv 0) (zB (zU JC zC zC) zD))) (zU JC zC zC)) (zP C_l_draw hr rfl (zB (pv 0) (zB (zU JC zC zC) zD)))))) yE)
  (xO (yh (PW.pt (pw_and (zn xm (pv 2) zC (yA _)) (zBD (zn (op_neD hr) (pv 1) (xp zD) (yA _))))) (zM (zf (i:=4) sc_l_close.nd rfl (by walk_at "o") (zU yX (zQ x6 (pv 1) (zP C_l_draw hr rfl (zB (pv 0) (zB (zw ye rfl B.len xI (zB (pv 1) zD)) zD))) (fun _ _=>rfl)) (zU jh zC (zU jg (pv 3) zC))))) yE)
  (xO (yh (PW.pt (pw_and (zn xm (pv 2) zC (yA _)) (zBD (zn (op_neD hr) (pv 1) (xp zD) (yA _))))) (zM (zf (i:=4) sc_l_close.nd rfl (by walk_at "o") (zU yp (zQ x6 (pv 1) (zP C_l_draw hr rfl (zB (pv 0) (zB (zw ye rfl B.len xI (zB (pv 1) zD)) zD))) (fun _ _=>rfl)) (zU jh zC (zU jg (pv 3) zC))))) yE)
  (xO (yh (PW.pt (pw_and (zn xm (pv 2) zC (yA _)) (zBD (zn (op_neD hr) (pv 1) (xp zD) (yA _))))) (zM (zf (i:=4) sc_l_close.nd rfl (by walk_at "o") (zU yX (zQ x6 (pv 1) (zP C_l_draw hr rfl (zB (pv 0) (zB (zw ye rfl B.len xI (zB (pv 1) zD)) zD))) (fun _ _=>rfl)) (zU yp (zU jh zC (zU yp zC (zU jg (pv 3) zC))) zC)))) yE)
  (xO (yh (zn xm (pv 2) zC (yA _)) (zM (zf (i:=4) sc_l_close.nd rfl (by walk_at "o") (zU xK (zU xK (zU JC zC zC) zC) (pv 3)))) yE)
  (zM (zd (zU yX (zU jg (zw zAQ rfl B.abs bo_abs (zB (pv 4) zD)) (zU JC zC zC)) (zU xK zC (zU yX zC (zP C_l_draw hr rfl (zB (pv 0) (zB zC zD))))))))))))))))),?_⟩
 rw [show yJ ["_law_pen_here","_law_found","_law_way","_law_small","_law_number"] [.ref p,.ref l]=[some (.ref p),some (.ref l),none,none,none] from rfl]
 try walk_at "WP"
 refine jW P0 S0 h63 (by omega) (by decide) (by decide) fun way H1 w0 w1 P1 S1 C1=>?_
 refine jW P1 S1 h63 (by omega) (by decide) (by decide) fun sm H2 m0 m1 P2 S2 C2=>?_
 have C2':=C1.trans C2
 refine jA (fun σ G=>∃ n:Int,σ = [some (.ref p),some (.ref l),some (.int way),some (.int sm),some (.int n)] /\ n.natAbs < 2 ^ 100 /\ Pen G p a (c+2) /\ Scr K G a ns /\ Chg p H G) (fun N hN=>?_) ?_
 ·try walk_at "WP"
  refine xS (fun _=>?_) (fun _=>hN _ _ ⟨_,rfl,by omega,P2.mono (by omega),S2,C2'⟩)
  have b1:=zA6 (e:=sm % 20) (k:=20) (by omega)
  have b2:=zA6 (e:=sm / 40+1) (k:=6) (by omega)
  have e6:(2:Int) ^ 6=64:=by decide
  have e20:(2:Int) ^ 20=1048576:=by decide
  refine ⟨⟨by omega,by omega⟩,divB (by decide) (by decide),mul_l (by decide) (by decide),divB (by decide) (by decide),⟨by omega,by omega⟩,mul_r (by omega) (by omega),hN _ _ ⟨_,rfl,JY (m:=30) (n:=10) (by omega) (by omega) (by decide),P2.mono (by omega),S2,C2'⟩⟩
 rintro σ H3 ⟨n,rfl,hn,P3,S3,C3⟩
 refine jA (fun σ G=>∃ n:Int,σ = [some (.ref p),some (.ref l),some (.int way),some (.int sm),some (.int n)] /\ n.natAbs < 2 ^ 100 /\ Pen G p a (c+6) /\ Scr K G a ns /\ Chg p H G) (fun N hN=>?_) ?_
 ·try walk_at "WP"
  refine xS (fun _=>?_) (fun _=>hN _ _ ⟨_,rfl,hn,P3.mono (by omega),S3,C3⟩)
  refine jW P3 S3 h63 (by omega) (by decide) (by decide) fun d1 H4 d10 d11 P4 S4 C4=>?_
  try walk_at "WP"
  refine ⟨mul_r (by decide) (by decide),?_⟩
  refine jW P4 S4 h63 (by omega) (by decide) (by decide) fun d2 H5 d20 d21 P5 S5 C5=>?_
  try walk_at "WP"
  exact hN _ _ ⟨_,rfl,by omega,P5.mono (by omega),S5,(C3.trans C4).trans C5⟩
 rintro σ H4 ⟨n,rfl,hn,P4,S4,C4⟩
 refine jA (fun σ G=>∃ n:Int,σ = [some (.ref p),some (.ref l),some (.int way),some (.int sm),some (.int n)] /\ n.natAbs < 2 ^ 100 /\ Pen G p a (c+8) /\ Scr K G a ns /\ Chg p H G) (fun N hN=>?_) ?_
 ·try walk_at "WP"
  refine xS (fun _=>?_) (fun _=>hN _ _ ⟨_,rfl,hn,P4.mono (by omega),S4,C4⟩)
  intro e he
  have sme:=zO he (.lst [])
  have hl0:=C4 l _ lp hl
  have hl1:=sme _ _ hl0
  have Pe:=P4.same sme
  have Se:=S4.same sme
  have Ce:=C4.trans (sme.chg (p:=p))
  refine neLI (ns:=xs) (ms:=[]) (SqL.of hl1) (SqL.of zF) ?_
  generalize upd H4 e (.lst [])=He at hl1 Pe Se Ce ⊢
  try walk_at "WP"
  refine xS (fun z2=>?_) (fun z2=>hN _ _ ⟨n,rfl,hn,Pe.mono (by omega),Se,Ce⟩)
  have hpos:0 < xs.length:=xo.mpr z2
  refine ⟨_,hl1,?_⟩
  rw [qC]
  refine jW Pe Se h63 (by omega) (by omega) (by omega) fun g Hg g0 g1 Pg Sg Cg=>?_
  have hlg:=Cg l _ lp hl1
  obtain ⟨v,hv,hv2⟩:=atI_int (ns:=xs) g0 g1
  have hvb:=hb v (qE hv2)
  (iterate 5 ((try (walk_at "WP")); (try (simp only [hlg,qJs,qJt,qJl,qJd,exists_eq_left',exists_eq_left])))); (try (walk_at "WP"))
  refine ⟨_,hv,?_⟩
  have b1:=zA6 (e:=sm % 12) (k:=12) (by omega)
  have e12:(2:Int) ^ 12=4096:=by decide
  refine ⟨⟨by omega,by omega⟩,?_⟩
  try walk_at "WP"
  exact ⟨mul_r (by omega) (by omega),hN _ _ ⟨_,rfl,JY (m:=40) (n:=20) hvb (by omega) (by decide),Pg.mono (by omega),Sg,Ce.trans Cg⟩⟩
 rintro σ H5 ⟨n,rfl,hn,P5,S5,C5⟩
 refine jA (fun σ G=>∃ n:Int,σ = [some (.ref p),some (.ref l),some (.int way),some (.int sm),some (.int n)] /\ n.natAbs < 2 ^ 100 /\ Pen G p a (c+10) /\ Scr K G a ns /\ Chg p H G) (fun N hN=>?_) ?_
 ·try walk_at "WP"
  refine xS (fun _=>?_) (fun _=>hN _ _ ⟨_,rfl,hn,P5.mono (by omega),S5,C5⟩)
  intro e he
  have sme:=zO he (.lst [])
  have hl0:=C5 l _ lp hl
  have hl1:=sme _ _ hl0
  have Pe:=P5.same sme
  have Se:=S5.same sme
  have Ce:=C5.trans (sme.chg (p:=p))
  refine neLI (ns:=xs) (ms:=[]) (SqL.of hl1) (SqL.of zF) ?_
  generalize upd H5 e (.lst [])=He at hl1 Pe Se Ce ⊢
  try walk_at "WP"
  refine xS (fun z2=>?_) (fun z2=>hN _ _ ⟨n,rfl,hn,Pe.mono (by omega),Se,Ce⟩)
  have hpos:0 < xs.length:=xo.mpr z2
  refine ⟨_,hl1,?_⟩
  rw [qC]
  refine jW Pe Se h63 (by omega) (by omega) (by omega) fun g Hg g0 g1 Pg Sg Cg=>?_
  have hlg:=Cg l _ lp hl1
  obtain ⟨v,hv,hv2⟩:=atI_int (ns:=xs) g0 g1
  have hvb:=hb v (qE hv2)
  (iterate 5 ((try (walk_at "WP")); (try (simp only [hlg,qJs,qJt,qJl,qJd,exists_eq_left',exists_eq_left])))); (try (walk_at "WP"))
  refine ⟨_,hv,?_⟩
  have b1:=zA6 (e:=sm % 40) (k:=40) (by omega)
  have e40:(2:Int) ^ 40=1099511627776:=by decide
  refine ⟨⟨by omega,by omega⟩,?_⟩
  try walk_at "WP"
  exact hN _ _ ⟨_,rfl,by omega,Pg.mono (by omega),Sg,Ce.trans Cg⟩
 rintro σ H6 ⟨n,rfl,hn,P6,S6,C6⟩
 refine jA (fun σ G=>∃ n:Int,σ = [some (.ref p),some (.ref l),some (.int way),some (.int sm),some (.int n)] /\ n.natAbs < 2 ^ 100 /\ Pen G p a (c+12) /\ Scr K G a ns /\ Chg p H G) (fun N hN=>?_) ?_
 ·try walk_at "WP"
  refine xS (fun _=>?_) (fun _=>hN _ _ ⟨_,rfl,hn,P6.mono (by omega),S6,C6⟩)
  intro e he
  have sme:=zO he (.lst [])
  have hl0:=C6 l _ lp hl
  have hl1:=sme _ _ hl0
  have Pe:=P6.same sme
  have Se:=S6.same sme
  have Ce:=C6.trans (sme.chg (p:=p))
  refine neLI (ns:=xs) (ms:=[]) (SqL.of hl1) (SqL.of zF) ?_
  generalize upd H6 e (.lst [])=He at hl1 Pe Se Ce ⊢
  try walk_at "WP"
  refine xS (fun z2=>?_) (fun z2=>hN _ _ ⟨n,rfl,hn,Pe.mono (by omega),Se,Ce⟩)
  have hpos:0 < xs.length:=xo.mpr z2
  refine ⟨_,hl1,?_⟩
  rw [qC]
  refine jW Pe Se h63 (by omega) (by omega) (by omega) fun g Hg g0 g1 Pg Sg Cg=>?_
  have hlg:=Cg l _ lp hl1
  obtain ⟨v,hv,hv2⟩:=atI_int (ns:=xs) g0 g1
  have hvb:=hb v (qE hv2)
  (iterate 5 ((try (walk_at "WP")); (try (simp only [hlg,qJs,qJt,qJl,qJd,exists_eq_left',exists_eq_left])))); (try (walk_at "WP"))
  refine ⟨_,hv,?_⟩
  have b1:=zA6 (e:=1+sm % 5) (k:=5) (by omega)
  have e5:(2:Int) ^ 5=32:=by decide
  refine ⟨⟨by omega,by omega⟩,?_⟩
  try walk_at "WP"
  exact ⟨mul_r (by omega) (by omega),hN _ _ ⟨_,rfl,JY (m:=40) (n:=20) hvb (by omega) (by decide),Pg.mono (by omega),Sg,Ce.trans Cg⟩⟩
 rintro σ H7 ⟨n,rfl,hn,P7,S7,C7⟩
 refine jA (fun σ G=>∃ n:Int,σ = [some (.ref p),some (.ref l),some (.int way),some (.int sm),some (.int n)] /\ n.natAbs < 2 ^ 100 /\ Pen G p a (c+12) /\ Scr K G a ns /\ Chg p H G) (fun N hN=>?_) ?_
 ·try walk_at "WP"
  refine xS (fun _=>?_) (fun _=>hN _ _ ⟨_,rfl,hn,P7.mono (by omega),S7,C7⟩)
  exact hN _ _ ⟨_,rfl,by omega,P7.mono (by omega),S7,C7⟩
 rintro σ H8 ⟨n,rfl,hn,P8,S8,C8⟩
 try walk_at "WP"
 refine jW P8 S8 h63 (by omega) (by decide) (by decide) fun g H9 g0 g1 P9 S9 C9=>?_
 try walk_at "WP"
 refine ⟨mul_l (by decide) (by decide),mul_r (by omega) (by omega),?_⟩
 generalize hM:(if n < 0 then -n else n) % 1000000000000=M
 have M0:0 <= M /\ M < 1000000000000:=by omega
 have two:g=0 \/ g=1:=by omega
 refine q _ _ ?_ (P9.mono (by omega)) S9 (C8.trans C9)
 rcases two with z | z <;> subst z <;> omega
theorem ok_few24 (T:Txt K mg):Cal P w K mg base 3 "_law_few" ["_law_pen_here"] (spFew24 K):=by
 have B:=T.bl
 have C_l_draw:=(ok_draw (P:=P) (w:=w) (base:=base) T).mono (k:=2) (by decide)
 have C_l_close:=ok_close (P:=P) (w:=w) (base:=base) T
 refine yT T.t_l_few sc_l_few (fun vs H Q E h=>?_) (fun f cdv A outer s H vs Q E hr h=>?_)
 ·obtain ⟨p,a,ns,c,rfl,_⟩:=h
  rfl
 obtain ⟨p,a,ns,c,rfl,hP,hS,h63,hc,q⟩:=h
 refine ⟨_,(zG (zf (i:=1) sc_l_few.nd rfl (by walk_at "o") (xp zD))
  (zG (xR PassesOwn.never rfl (xr rfl B.range (zB (zP C_l_draw hr rfl (zB (pv 0) (zB zC zD))) zD)) (zS (i:=2) sc_l_few.nd rfl (by walk_at "o")) (zM (xZ (j6 zm zk zj yd (pv 1) (zB (zP C_l_close hr rfl (zB (pv 0) (zB (pv 1) zD))) zD)))))
  (zM (zd (pv 1))))),?_⟩
 rw [show yJ ["_law_pen_here","_law_found","_law_k"] [.ref p]=[some (.ref p),none,none] from rfl]
 try walk_at "WP"
 intro r hr0
 have sm:=zO hr0 (.lst [])
 have hrp:r ≠ p:=hP.ne hr0
 refine jW (hP.same sm) (hS.same sm) h63 (by omega) (by decide) (by decide) fun m H1 m0 m1 P1 S1 C1=>?_
 try walk_at "WP"
 refine ⟨by omega,by omega,?_⟩
 refine forR (fun i σ H'=>∃ (o2:Option V) (xs:List Int),σ = [some (.ref p),some (.ref r),o2] /\ H' r=some (.lst (xs.map V.int)) /\ xs.length=i /\ (∀ x ∈ xs,x.natAbs < 2 ^ 40) /\ Pen H' p a (c+1+50 * i) /\ Scr K H' a ns /\ Chg p H H')
  ⟨none,[],rfl,C1 r _ hrp zF,rfl,by simp,P1.mono (by omega),S1,sm.chg.trans C1⟩ ?_ ?_
 ·rintro i σ H' N hi ⟨o2,xs,rfl,hr',hl,hxs,PP,SS,CC⟩ hN
  try walk_at "WP"
  refine ⟨xb hr',p,a,r,ns,_,xs,rfl,PP,SS,h63,by omega,hr',hrp,by omega,hxs,fun n H2 hn P2 S2 C2=>?_⟩
  have hr2:=C2 r _ hrp hr'
  refine ⟨_,hr2,by rw [qC]; exact zAW (by omega),?_⟩
  refine hN _ _ ⟨_,xs ++ [n],rfl,by rw [zF,yC]; rfl,by rw [qF,hl]; rfl,fun x hx=>?_,?_,S2.chg hr2 (Chg.upd _),?_⟩
  ·rcases yS.mp hx with z | z
   ·exact hxs x z
   ·rw [zT.mp z]; exact hn
  ·have:=P2.mono (d:=c+1+50 * ((i+1:Nat):Int)) (by omega)
   obtain ⟨t,l,e,r6⟩:=this
   exact ⟨t,l,(Chg.upd _) p _ (Ne.symm hrp) e,r6⟩
  ·exact Chg.updN (CC.trans C2) hr0
 ·rintro σ H' ⟨o2,xs,rfl,hr',hl,hxs,PP,SS,CC⟩
  try walk_at "WP"
  exact q r xs H' hr0 hr' hrp (by omega) hxs (PP.mono (by omega)) SS CC
end
section
variable {P:Program}{w:World}{K:zA}{mg:Str -> Option Value}{base:Heap}
theorem ok_mvP (T:Txt K mg):Cal P w K mg base 1 "_law_moved" ["_law_row","_law_shift_here"] spMvP:=by
 have B:=T.bl
 refine yT T.t_l_moved sc_l_moved (fun vs H Q E h=>?_) (fun f cdv A outer s H vs Q E hr h=>?_)
 ·obtain ⟨_,_,_,rfl,_⟩:=h
  rfl
 obtain ⟨l,row,sh,rfl,hl,l12,hs,rb,q⟩:=h
 have s0:=hs.1
 have s1:=hs.2.1
 refine ⟨_,(zG (yh (zn op_ge (pv 1) zC (yA _)) (zM (zd (yU (N:=["_law_part","_law_shift_here"]) (nt:=1) (cs:=[1]) rfl (yc (pv 0)) (fun nd C s H fp=>⟨(zS (i:=0) nd rfl (by walk_at "o")),yq,(zU yX (pv 0) (zU jh zC (pv 1)))⟩) (by decide +kernel) (by first | rfl | decide +kernel) (by first | rfl | decide +kernel) rfl (fun _=>rfl)))) yE)
  (zM (zd (yU (N:=["_law_part","_law_shift_here"]) (nt:=1) (cs:=[1]) rfl (yc (pv 0)) (fun nd C s H fp=>⟨(zS (i:=0) nd rfl (by walk_at "o")),yq,(zU Js (pv 0) (zU jh zC (zU xK zC (pv 1))))⟩) (by decide +kernel) (by first | rfl | decide +kernel) (by first | rfl | decide +kernel) rfl (fun _=>rfl))))),?_⟩
 rw [show yJ ["_law_row","_law_shift_here"] [.ref l,.int sh]=[some (.ref l),some (.int sh)] from rfl]
 try walk_at "WP"
 refine xS (fun c=>?_) (fun c=>?_)
 ·refine ⟨⟨_,SqL.of hl⟩,?_⟩
  refine zA5 (f:=liI (mvI sh)) (SqL.of hl) (by rw [qC]; exact jK (by omega)) (fun y H' R hy hS' hR=>?_) (fun m hm=>?_)
  ·obtain ⟨n,hn,rfl⟩:=qP.mp hy
   rw [show yZ [1] [some (V.ref l),some (V.int sh)]=[some (V.int sh)] from rfl]
   try walk_at "WP"
   have b:=zA6 (e:=sh) (k:=40) (by omega)
   have e40:(2:Int) ^ 40=1099511627776:=by decide
   refine ⟨⟨by omega,by omega⟩,mul_r (by omega) (by omega),?_⟩
   rw [yN,← Jl c]
   exact hR
  rw [zAG]
  exact q m _ hm (zO hm _) zF
 ·refine ⟨⟨_,SqL.of hl⟩,?_⟩
  refine zA5 (f:=liI (mvI sh)) (SqL.of hl) (by rw [qC]; exact jK (by omega)) (fun y H' R hy hS' hR=>?_) (fun m hm=>?_)
  ·obtain ⟨n,hn,rfl⟩:=qP.mp hy
   rw [show yZ [1] [some (V.ref l),some (V.int sh)]=[some (V.int sh)] from rfl]
   try walk_at "WP"
   have b:=zA6 (e:=0 - sh) (k:=40) (by omega)
   have e40:(2:Int) ^ 40=1099511627776:=by decide
   refine ⟨⟨by omega,by omega⟩,divB (by omega) (by omega),?_⟩
   rw [yN,show (0 - sh) = -sh by omega,← Jy (by omega)]
   exact hR
  rw [zAG]
  exact q m _ hm (zO hm _) zF
theorem ok_shP (T:Txt K mg):Cal P w K mg base 2 "_law_shift" ["_law_pen_here","_law_row"] (spShP K):=by
 have B:=T.bl
 have C_l_draw:=ok_draw (P:=P) (w:=w) (base:=base) T
 refine yT T.t_l_shift sc_l_shift (fun vs H Q E h=>?_) (fun f cdv A outer s H vs Q E hr h=>?_)
 ·obtain ⟨_,_,_,_,_,_,rfl,_⟩:=h
  rfl
 obtain ⟨p,a,l,ns,c,row,rfl,P0,S0,h63,hc,hl,l12,lp,q⟩:=h
 refine ⟨_,(zG (zf (i:=2) sc_l_shift.nd rfl (by walk_at "o") (zP C_l_draw hr rfl (zB (pv 0) (zB zC zD))))
  (zG (yh (zn op_lt (pv 2) zC (yA _)) (zM (zd (zQ x6 (xp (zB (zP C_l_draw hr rfl (zB (pv 0) (zB zC zD))) (zB zC zD))) (pv 2) (fun _ _=>rfl)))) yE)
  (zG (zf (i:=3) sc_l_shift.nd rfl (by walk_at "o") zC)
  (xO (ps_whl PassesOwn.never (PW.pt (pw_and (zn op_lt (pv 3) zC (yA _)) (zBD (jS (zw (call_all rfl) rfl B.all bo_all (zB (yU (N:=["_law_part","_law_low"]) (nt:=1) (cs:=[3]) rfl (yc (pv 1)) (fun nd C s H fp=>⟨(zS (i:=0) nd rfl (by walk_at "o")),yq,(ju xm (zU jg (pv 0) (zU jh zC (zU yp (pv 1) zC))) zC (yA _))⟩) (by decide +kernel) (by first | rfl | decide +kernel) (by first | rfl | decide +kernel) rfl (fun _=>rfl)) zD)))))) (zM (zf (i:=3) sc_l_shift.nd rfl (by walk_at "o") (zU yp (pv 3) zC))))
  (zM (zd (zU xK zC (zP C_l_draw hr rfl (zB (pv 0) (zB (zU yp (pv 3) zC) zD)))))))))),?_⟩
 rw [show yJ ["_law_pen_here","_law_row","_law_way","_law_low"] [.ref p,.ref l]=[some (.ref p),some (.ref l),none,none] from rfl]
 try walk_at "WP"
 refine jW P0 S0 h63 (by omega) (by decide) (by decide) fun way H1 w0 w1 P1 S1 C1=>?_
 try walk_at "WP"
 refine xS (fun z=>?_) (fun z=>?_)
 ·refine jW P1 S1 h63 (by omega) (by decide) (by decide) fun d H2 d0 d1 P2 S2 C2=>?_
  intro t nt
  refine JD nt fun H3 s3 h3=>?_
  (iterate 5 ((try (walk_at "WP")); (try (simp only [h3,qJs,qJt,qJl,qJd,exists_eq_left',exists_eq_left])))); (try (walk_at "WP"))
  have two:way=0 \/ way=1:=by omega
  have PP:=(P2.same s3).mono (d:=c+10) (by omega)
  have CC:=(C1.trans C2).trans s3.chg
  rcases two with y | y <;> subst y
  ·exact ⟨_,rfl,q d _ ⟨by omega,by omega,fun n=>by omega⟩ PP (S2.same s3) CC⟩
  ·exact ⟨_,rfl,q 0 _ (Sh.zero _) PP (S2.same s3) CC⟩
 ·have hl1:=C1 _ _ lp hl
  refine jA (fun σ G=>∃ (low:Nat),σ = [some (.ref p),some (.ref l),some (.int way),some (.int (low:Int))] /\ low <= 12 /\ (∀ x ∈ row,(2:Int) ^ low ∣ x) /\ Same H1 G) (fun N hN=>?_) ?_
  ·refine whl (fun m σ G=>∃ (low:Nat),σ = [some (.ref p),some (.ref l),some (.int way),some (.int (low:Int))] /\ low+m=12 /\ (∀ x ∈ row,(2:Int) ^ low ∣ x) /\ Same H1 G) 12 ⟨0,rfl,rfl,fun x _=>⟨x,by rw [yt,yN]⟩,Same.refl _⟩ ?_
   rintro m σ G N2 ⟨low,rfl,hlow,hdv,sG⟩ hN2
   try walk_at "WP"
   refine xS (fun y=>?_) (fun y=>hN _ _ ⟨low,rfl,by omega,hdv,sG⟩)
   refine ⟨⟨_,SqL.of (sG _ _ hl1)⟩,?_⟩
   refine zA5 (f:=evV low) (SqL.of (sG _ _ hl1)) (by rw [qC]; exact jK (by omega)) (fun v H' R hv hS' hR=>?_) (fun acc hacc=>?_)
   ·obtain ⟨n,hn,rfl⟩:=qP.mp hv
    rw [show yZ [3] _=[some (V.int (low:Int))] from rfl]
    try walk_at "WP"
    have p2:=xf ((low:Int)+1).toNat
    exact ⟨⟨by omega,by omega⟩,by omega,hR⟩
   ·rw [evV_map]
    have sA:Same G _:=zO hacc (.lst ((row.map fun n=>decide (n % (1 * 2 ^ ((low:Int)+1).toNat)=0)).map V.bl))
    refine ⟨acc,_,rfl,zF,_,rfl,?_⟩
    refine xS (fun z2=>?_) (fun z2=>hN _ _ ⟨low,rfl,by omega,hdv,sG.trans sA⟩)
    have up:=xM.mp z2
    cases m with
    | zero=>omega
    | succ m =>
     refine hN2 m _ _ (by omega) ⟨low+1,by rw [show ((low+1:Nat):Int)=(low:Int)+1 by omega],by omega,fun x hx=>?_,sG.trans sA⟩
     have:=of_decide_eq_true (up _ (qP.mpr ⟨x,hx,rfl⟩))
     rw [yN,show ((low:Int)+1).toNat=low+1 by omega] at this
     exact Int.dvd_of_emod_eq_zero this
  ·rintro σ G ⟨low,rfl,hlow,hdv,sG⟩
   try walk_at "WP"
   refine jW (P1.same sG) (S1.same sG) h63 (by omega) (by omega) (by omega) fun d H2 d0 d1 P2 S2 C2=>?_
   try walk_at "WP"
   refine q _ _ ⟨by omega,by omega,fun y x hx=>?_⟩ (P2.mono (by omega)) S2 ((C1.trans sG.chg).trans C2)
   rw [show (-(0 - d)).toNat=d.toNat by omega]
   exact Int.dvd_trans ⟨2 ^ (low - d.toNat),by rw [← jm]; congr 1; omega⟩ (hdv x hx)
end
section
variable {P:Program}{w:World}{K:zA}{mg:Str -> Option Value}{base:Heap}
theorem ok_gen25 (T:Txt K mg):Cal P w K mg base 7 "_law_web" ["_law_pen_here"] (spGen25 K):=by
 have B:=T.bl
 have C_l_draw:=(ok_draw (P:=P) (w:=w) (base:=base) T).mono (k:=6) (by decide)
 have C_l_shift:=(ok_shP (P:=P) (w:=w) (base:=base) T).mono (k:=6) (by decide)
 have C_l_moved:=(ok_mvP (P:=P) (w:=w) (base:=base) T).mono (k:=6) (by decide)
 have C_web_of:=(ok_webG (P:=P) (w:=w) (base:=base) T).mono (k:=6) (by decide)
 refine yT T.t_l_web sc_l_web (fun vs H Q E h=>?_) (fun f cdv A outer s H vs Q E hr h=>?_)
 ·obtain ⟨_,_,_,_,rfl,_⟩:=h
  rfl
 obtain ⟨p,a,ns,c,rfl,hP0,hS0,h63,hc,q0⟩:=h
 refine ⟨_,(zG (zf (i:=1) sc_l_web.nd rfl (by walk_at "o") (zU yp zC (zP C_l_draw hr rfl (zB (pv 0) (zB zC zD)))))
  (xO (ps_setCompC (ix:=2) (N:=["_law_i","_law_ins"]) (nt:=1) (cs:=[1]) rfl (xr rfl B.range (zB (pv 1) zD)) (fun nd C s H fp=>⟨(zS (i:=0) nd rfl (by walk_at "o")),yq,(yU (N:=["_law_k","_law_i"]) (nt:=1) (cs:=[0]) rfl (xr rfl B.range (zB (pv 1) zD)) (fun nd C s H fp=>⟨(zS (i:=0) nd rfl (by walk_at "o")),yq,(xc call_int1 rfl B.int bo_int (zB (ju xm (pv 0) (pv 1) (yA _)) zD))⟩) (by decide +kernel) (by first | rfl | decide +kernel) (by first | rfl | decide +kernel) rfl (fun _=>rfl))⟩) (by decide +kernel) (by first | rfl | decide +kernel) (by first | rfl | decide +kernel) rfl (fun _=>rfl) sc_l_web.nd rfl (by walk_at "o") (by walk_at "o") rfl)
  (zG (zf (i:=3) sc_l_web.nd rfl (by walk_at "o") (xp zD))
  (xO (xR PassesOwn.never rfl (xr rfl B.range (zB (zP C_l_draw hr rfl (zB (pv 0) (zB zC zD))) zD)) (zS (i:=4) sc_l_web.nd rfl (by walk_at "o")) (zG (zf (i:=5) sc_l_web.nd rfl (by walk_at "o") (zU xK (zU xK (zw ye rfl B.len xI (zB (pv 2) zD)) zC) (zP C_l_draw hr rfl (zB (pv 0) (zB (zw (call_min2 rfl) rfl B.min bo_min (zB (zw ye rfl B.len xI (zB (pv 2) zD)) (zB zC zD))) zD)))))
  (zG (zf (i:=6) sc_l_web.nd rfl (by walk_at "o") (zP C_l_draw hr rfl (zB (pv 0) (zB (zw ye rfl B.len xI (zB (pv 2) zD)) zD))))
  (zG (zf (i:=7) sc_l_web.nd rfl (by walk_at "o") (zP C_l_shift hr rfl (zB (pv 0) (zB (zQ x6 (pv 2) (pv 5) (fun _ _=>rfl)) zD))))
  (zG (zf (i:=8) sc_l_web.nd rfl (by walk_at "o") (zP C_l_shift hr rfl (zB (pv 0) (zB (zQ x6 (pv 2) (pv 6) (fun _ _=>rfl)) zD))))
  (zG (zf (i:=9) sc_l_web.nd rfl (by walk_at "o") (zU xK zC (zU yX zC (zP C_l_draw hr rfl (zB (pv 0) (zB zC zD))))))
  (zG (xZ (j6 zm zk zj yd (pv 3) (zB (yV (zB (zQ x6 (xp (zB xJ (zB xJ zD))) (xc call_int1 rfl B.int bo_int (zB (ju xm (pv 9) zC (yA _)) zD)) (fun _ _=>rfl)) (zB (pv 5) (zB (pv 7) (zB (pv 6) (zB (pv 8) zD)))))) zD)))
  (zM (xZ (j6 zm zk zj yd (pv 2) (zB (yU (N:=["_law_one","_law_other","_law_sign"]) (nt:=2) (cs:=[9]) rfl (pi_zip rfl B.zip (zB (zP C_l_moved hr rfl (zB (zQ x6 (pv 2) (pv 5) (fun _ _=>rfl)) (zB (pv 7) zD))) (zB (zP C_l_moved hr rfl (zB (zQ x6 (pv 2) (pv 6) (fun _ _=>rfl)) (zB (pv 8) zD))) zD))) (fun nd C s H fp=>⟨(jQ 2 rfl (zu (zS (i:=0) nd rfl (by walk_at "o")) (zu (zS (i:=1) nd rfl (by walk_at "o")) xa))),yq,(zU yp (pv 0) (zU yX (pv 2) (pv 1)))⟩) (by decide +kernel) (by first | rfl | decide +kernel) (by first | rfl | decide +kernel) rfl (fun _=>rfl)) zD)))))))))))
  (zG (zf (i:=10) sc_l_web.nd rfl (by walk_at "o") (xp zD))
  (zG (xR PassesOwn.never rfl (xr rfl B.range (zB (zP C_l_draw hr rfl (zB (pv 0) (zB zC zD))) zD)) (zS (i:=4) sc_l_web.nd rfl (by walk_at "o")) (zG (zf (i:=11) sc_l_web.nd rfl (by walk_at "o") (zU xK (zU xK (zw ye rfl B.len xI (zB (pv 2) zD)) zC) (zP C_l_draw hr rfl (zB (pv 0) (zB (zw (call_min2 rfl) rfl B.min bo_min (zB (zw ye rfl B.len xI (zB (pv 2) zD)) (zB zC zD))) zD)))))
  (zM (xZ (j6 zm zk zj yd (pv 10) (zB (yV (zB (pv 11) (zB (zP C_l_shift hr rfl (zB (pv 0) (zB (zQ x6 (pv 2) (pv 11) (fun _ _=>rfl)) zD))) (zB (zU xK zC (zU yX zC (zP C_l_draw hr rfl (zB (pv 0) (zB zC zD))))) zD)))) zD))))))
  (zM (zd (zP C_web_of hr rfl (zB (pv 1) (zB (pv 3) (zB (pv 10) zD)))))))))))),?_⟩
 rw [show yJ ["_law_pen_here","_law_ins","_law_rows","_law_deeds","_law_k","_law_a","_law_b","_law_s","_law_t","_law_sign","_law_outs","_law_thing"] [.ref p]=[some (.ref p),none,none,none,none,none,none,none,none,none,none,none] from rfl]
 refine jT fun R_ hR_=>?_
 try walk_at "WP"
 refine jW hP0 hS0 h63 (by omega) (by decide) (by decide) fun q1 Hb q10 q11 hP hS Cab=>?_
 (try (walk_at "WP")); (try (refine jR hR_ ?_)); (try (refine jT fun R_ hR_=>?_)); (try (walk_at "WP"))
 obtain ⟨i0,rfl⟩:=zAB q10
 have u0:1 <= 1+i0:=by omega
 have u1:1+i0 <= 12:=by omega
 have ei:(1:Int)+(i0:Int)=((1+i0:Nat):Int):=by omega
 rw [ei]
 generalize 1+i0=ins at u0 u1
 subst hR_
 refine jA (fun σ H3=>∃ (tb:Addr) (vs:List V),σ = [some (.ref p),some (.int ins),some (.ref tb),none,none,none,none,none,none,none,none,none] /\ Hb tb=none /\ Same Hb H3 /\ H3 tb=some (.lst vs) /\ HRs H3 [tb,p] vs ((yr ins).map (yY ins)) /\ tb ≠ p) (fun N hN=>?_) ?_
 ·try walk_at "WP"
  refine ⟨by omega,by omega,?_⟩
  rw [yn]
  have hex:∀ e ∈ [p],Hb e ≠ none:=fun e he=>by
   rw [zT.mp he]
   obtain ⟨t,l,hx,_⟩:=hP
   rw [hx]
   intro z
   cases z
  refine comp_rows (by omega) (yY ins) [p] hex (fun i Hb' R hi s' hR=>?_) (fun tb vs H3 hn s3 h3 hr3=>?_)
  ·rw [show yZ [1] [some (V.ref p),some (V.int (ins:Int)),none,none,none,none,none,none,none,none,none,none]=[some (.int ins)] from rfl]
   try walk_at "WP"
   refine ⟨by omega,by omega,?_⟩
   rw [yn]
   refine comp_R (f:=unV i) (yG (by omega)) (fun y H5 R5 hy s5 hR5=>?_) (fun acc hacc=>?_)
   ·obtain ⟨k,hk,rfl⟩:=qP.mp hy
    rw [show yZ [0] [some (V.int (0+(i:Int))),some (V.int (ins:Int))]=[some (V.int (0+(i:Int)))] from rfl]
    try walk_at "WP"
    rw [show (0:Int)+(i:Int)=i by omega]
    exact hR5
   ·rw [unV_map]
    exact hR acc _ hacc (zO hacc _) zF
  ·exact hN _ _ ⟨tb,vs,rfl,hn,s3,h3,hr3,hP.ne hn⟩
 ·rintro σ H3 ⟨tb,vs,rfl,ntb,ss3,htb,hrs,tbp⟩
  have C3:Chg p Hb H3:=ss3.chg
  have P3:=hP.same ss3
  have S3:=hS.same ss3
  try walk_at "WP"
  intro dl hdl
  have sd:=zO hdl (.lst [])
  have dlp:dl ≠ p:=P3.ne hdl
  have tbd:tb ≠ dl:=ne_of_none htb hdl
  have I0:FI Hb p ins tb dl 0 vs [] [] (upd H3 dl (.lst [])):=by
   refine ⟨⟨sd _ _ htb,(hrs.new hdl).same sd,by simp [rowsW],fun r hr=>?_,fun r hr=>?_,zF,hts_nil,rfl,fun j d h=>by simp at h,C3.trans sd.chg,ntb,C3.new dlp hdl,tbp,dlp,tbd⟩,fun k d h=>by simp at h⟩
   ·obtain ⟨i,_,rfl⟩:=qP.mp hr
    refine ⟨by rw [zBy]; exact u1,fun n hn=>?_⟩
    rcases unitRow_bound hn with z | z <;> subst z <;> decide
   ·obtain ⟨i,_,rfl⟩:=qP.mp hr
    exact zBy _ _
  have P4:=P3.same sd
  have S4:=S3.same sd
  generalize upd H3 dl (.lst [])=H4 at I0 P4 S4 ⊢
  refine jA (fun σ H5=>∃ (k:Nat) (vs us:List V) (ds:List Wd) (o4 o5 o6 o7 o8 o9:Option V),σ = [some (.ref p),some (.int ins),some (.ref tb),some (.ref dl),o4,o5,o6,o7,o8,o9,none,none] /\ k <= 9 /\ FI Hb p ins tb dl k vs us ds H5 /\ Pen H5 p a (c+2000) /\ Scr K H5 a ns) (fun N hN=>?_) ?_
  ·try walk_at "WP"
   refine jW P4 S4 h63 (by omega) (by decide) (by decide) fun m H6 m0 m1 P6 S6 C6=>?_
   try walk_at "WP"
   refine ⟨by omega,by omega,?_⟩
   obtain ⟨n,rfl⟩:=zAB m0
   rw [yn]
   have I6:=I0.stepQ P4 C6
   refine forR (fun k σ H7=>∃ (vs us:List V) (ds:List Wd) (o4 o5 o6 o7 o8 o9:Option V),σ = [some (.ref p),some (.int ins),some (.ref tb),some (.ref dl),o4,o5,o6,o7,o8,o9,none,none] /\ FI Hb p ins tb dl k vs us ds H7 /\ Pen H7 p a (c+10+100 * k) /\ Scr K H7 a ns)
    ⟨vs,[],[],none,none,none,none,none,none,rfl,I6,P6.mono (by omega),S6⟩ ?_ ?_
   ·rintro k σ H7 N2 hi ⟨vs,us,ds,o4,o5,o6,o7,o8,o9,rfl,I7,P7,S7⟩ hN2
    have hT7:=I7.wi.tbl
    have hvl:vs.length=ins+k:=by rw [I7.wi.hrs.len,I7.wi.rl]
    have hrl:(rowsW ins ds).length=ins+k:=I7.wi.rl
    refine seq_inG fun R_ hR_=>?_
    (iterate 5 ((try (walk_at "WP")); (try (simp only [hT7,qJs,qJt,qJl,qJd,exists_eq_left',exists_eq_left])))); (try (walk_at "WP"))
    refine ⟨_,_,⟨rfl,rfl⟩,?_⟩
    generalize hmn:(if (3:Int) < ((vs.length:Nat):Int) then (3:Int) else ((vs.length:Nat):Int))=mn
    have mn1:1 <= mn /\ mn <= 3 /\ mn <= vs.length:=by rw [← hmn]; split <;> omega
    refine jW P7 S7 h63 (by omega) (by omega) (by omega) fun ra H8 ra0 ra1 P8 S8 C8=>?_
    have I8:=I7.stepQ P7 C8
    have hT8:=I8.wi.tbl
    obtain ⟨ja,hja⟩:∃ ja:Nat,(vs.length:Int) - 1 - ra=(ja:Int):=⟨((vs.length:Int) - 1 - ra).toNat,by omega⟩
    try walk_at "WP"
    rw [hja]
    (try (walk_at "WP")); (try (refine jR hR_ ?_)); (try (refine jT fun R_ hR_=>?_)); (iterate 5 ((try (walk_at "WP")); (try (simp only [hT8,qJs,qJt,qJl,qJd,exists_eq_left',exists_eq_left])))); (try (walk_at "WP"))
    refine jW P8 S8 h63 (by omega) (by omega) (by omega) fun rb H9 rb0 rb1 P9 S9 C9=>?_
    have I9:=I8.stepQ P8 C9
    have hT9:=I9.wi.tbl
    obtain ⟨jb,rfl⟩:=zAB rb0
    (try (walk_at "WP")); (try (refine jR hR_ ?_)); (try (refine jT fun R_ hR_=>?_)); (iterate 5 ((try (walk_at "WP")); (try (simp only [hT9,qJs,qJt,qJl,qJd,exists_eq_left',exists_eq_left])))); (try (walk_at "WP"))
    obtain ⟨la,rowa,ea,ea1,ea2,ea3,ea4⟩:=row_of I9.wi.hrs (j:=ja) (by omega)
    have ea5:=I9.wi.rw_ _ ea3
    refine ⟨_,ea1,?_⟩
    refine ⟨p,a,la,ns,_,rowa,rfl,P9,S9,h63,by omega,ea2,by omega,ea4 p (by simp),fun sa HA hsa PA SA CA=>?_⟩
    have IA:=I9.stepQ P9 CA
    have hTA:=IA.wi.tbl
    (try (walk_at "WP")); (try (refine jR hR_ ?_)); (try (refine jT fun R_ hR_=>?_)); (iterate 5 ((try (walk_at "WP")); (try (simp only [hTA,qJs,qJt,qJl,qJd,exists_eq_left',exists_eq_left])))); (try (walk_at "WP"))
    obtain ⟨lb,rowb,eb,eb1,eb2,eb3,eb4⟩:=row_of IA.wi.hrs (j:=jb) (by omega)
    have eb5:=IA.wi.rw_ _ eb3
    refine ⟨_,eb1,?_⟩
    refine ⟨p,a,lb,ns,_,rowb,rfl,PA,SA,h63,by omega,eb2,by omega,eb4 p (by simp),fun sb HB hsb PB SB CB=>?_⟩
    have IB:=IA.stepQ PA CB
    (try (walk_at "WP")); (try (refine jR hR_ ?_)); (try (refine jT fun R_ hR_=>?_)); (try (walk_at "WP"))
    refine jW PB SB h63 (by omega) (by decide) (by decide) fun g HC g0 g1 PC SC CC=>?_
    have IC:=IB.stepQ PB CC
    have hTC:=IC.wi.tbl
    try walk_at "WP"
    refine ⟨mul_l (by decide) (by decide),?_⟩
    generalize hsg:1 - 2 * g=sgn
    have sgn1:sgn=1 \/ sgn = -1:=by omega
    subst hR_
    (iterate 5 ((try (walk_at "WP")); (try (simp only [hTC,qJs,qJt,qJl,qJd,exists_eq_left',exists_eq_left])))); (try (walk_at "WP"))
    refine ⟨xb IC.wi.dll,fun wl nwl=>?_⟩
    obtain ⟨wd,hwd,hws,hsw⟩:∃ wd:Str,atI [V.str (Str.ofString "less"),V.str (Str.ofString "sum")] (if sgn=1 then 1 else 0)=some (.str wd) /\ (wd = "sum" \/ wd = "less") /\ sgn=sgW wd:=by
     rcases sgn1 with z | z <;> rw [z]
     ·exact ⟨_,rfl,.inl rfl,by decide⟩
     ·exact ⟨_,rfl,.inr rfl,by decide⟩
    refine ⟨_,hwd,?_⟩
    refine JD nwl fun HD sD hD=>?_
    intro x nx
    refine JD nx fun H1 sE hx=>?_
    have sCE:=sD.trans sE
    have I1:=IC.stepQ PC sCE.chg
    have P1:=PC.same sCE
    have S1:=SC.same sCE
    have hul:us.length=k:=by rw [I1.wi.hds.len,I1.wi.dlen]
    refine ⟨us,I1.wi.dll,qJ (by omega:us.length < 1000) (yG (by decide)),?_⟩
    have t16:(upd H1 dl (.lst (us ++ [.ref x]))) tb=some (.lst vs):=by rw [yH I1.wi.td]; exact I1.wi.tbl
    have r16:HRs (upd H1 dl (.lst (us ++ [.ref x]))) [dl,tb,p] vs (rowsW ins ds):=I1.wi.hrs.chg (by simp) (Chg.upd _)
    have P16:Pen (upd H1 dl (.lst (us ++ [.ref x]))) p a (c+10+100 * ((k+1:Nat):Int)):=(P1.mono (d:=c+10+100 * ((k+1:Nat):Int)) (by omega)).chg (q:=dl) I1.wi.dp.symm (Chg.upd (.lst (us ++ [.ref x])))
    have S16:=S1.chg I1.wi.dll (Chg.upd (.lst (us ++ [.ref x])))
    generalize hH16:upd H1 dl (.lst (us ++ [.ref x]))=H16 at t16 r16 P16 S16 ⊢
    have lenR:∀ j,j < ins+k -> ((rowsW ins ds).getD j []).length=ins:=fun j hj=>by
     have e:=qA (show j < (rowsW ins ds).length by omega)
     rw [zY e]
     exact I1.wi.rw_ _ (qE e)
    obtain ⟨ma,ra',fa,fa1,fa2,fa3,fa4⟩:=row_of r16 (j:=ja) (by omega)
    obtain ⟨mb,rb',fb,fb1,fb2,fb3,fb4⟩:=row_of r16 (j:=jb) (by omega)
    rw [ea] at fa
    cases fa
    rw [eb] at fb
    cases fb
    have small:∀ r ∈ rowsW ins ds,∀ n ∈ r,n.natAbs < 2 ^ 8000:=fun r hr n hn=>yB ((I1.wi.rb r hr).2 n hn) (yO (by decide) (by omega))
    refine ⟨xb t16,vs,t16,_,fa1,ma,rowa,sa,rfl,fa2,by omega,hsa,small _ fa3,fun r1 H17 n1 s17 h17=>?_⟩
    refine ⟨vs,s17 _ _ t16,_,fb1,mb,rowb,sb,rfl,s17 _ _ fb2,by omega,hsb,small _ fb3,fun r2 H18 n2 s18 h18=>?_⟩
    have h17':=s18 _ _ h17
    refine ⟨r1,r2,⟨rfl,rfl⟩,_,SqL.of h17',_,SqL.of h18,?_⟩
    have s168:=s17.trans s18
    refine comp_zip (SqL.of h17') (SqL.of h18) (by simp only [qC]; omega) (by simp only [qC]; omega) ((rowD (rowsW ins ds) ⟨wd,ja,sa,jb,sb⟩).map V.int) (by unfold rowD; rw [show (rowsW ins ds).getD ja []=rowa from zY ea,show (rowsW ins ds).getD jb []=rowb from zY eb]; simp only [qC,List.length_zipWith]; omega) (fun i x' y' z' H' R hx' hy' hz' s' hR=>?_) (fun acc H19 n19 s19 h19=>?_)
    ·obtain ⟨u,hu,rfl⟩:=zA8 hx'
     obtain ⟨v,hv,rfl⟩:=zA8 hy'
     rw [qI] at hu hv
     obtain ⟨uu0,hu0,rfl⟩:=yW.mp hu
     obtain ⟨vv0,hv0,rfl⟩:=yW.mp hv
     have ez:z'=V.int (mvI sa uu0+sgW wd * mvI sb vv0):=by
      unfold rowD at hz'
      rw [show (rowsW ins ds).getD (⟨wd,ja,sa,jb,sb⟩:Wd).a []=rowa from zY ea,show (rowsW ins ds).getD (⟨wd,ja,sa,jb,sb⟩:Wd).b []=rowb from zY eb,qI,List.getElem?_zipWith,hu0,hv0] at hz'
      exact (Option.some.inj hz').symm
     subst ez
     rw [show yZ [9] _=[some (V.int sgn)] from rfl,yR,yR,Jm,hsw]
     try walk_at "WP"
     exact ⟨by rcases sgW_or wd with z | z <;> rw [z] <;> exact mul_l (by decide) (by decide),hR⟩
    ·have s1619:=s168.trans s19
     have n16:H16 acc=none:=s168.free n19
     have t19:=s1619 _ _ t16
     refine ⟨vs,t19,qJ (by omega:vs.length < 1000) (yG (by decide)),?_⟩
     obtain ⟨b1,b2⟩:=rowD_bound (d:=⟨wd,ja,sa,jb,sb⟩) I1.wi.rb I1.wi.rw_ (by show ja < _; omega) (by show jb < _; omega) hsa.1 hsa.2.1 hsb.1 hsb.2.1
     have Ifin:=I1.app u1 (Same.refl _) (d:=⟨wd,ja,sa,jb,sb⟩) hx (by rw [hH16]; exact s1619) h19 (by rw [hH16]; exact n16) (P16.ne n16) (by show ja < _; omega) (by show jb < _; omega) hws (by show Sh sa ((rowsW ins ds).getD ja []); rw [zY ea]; exact hsa) (by show Sh sb ((rowsW ins ds).getD jb []); rw [zY eb]; exact hsb) b1 b2
     exact hN2 _ _ ⟨_,_,_,_,_,_,_,_,_,rfl,Ifin,(P16.same s1619).chg (q:=tb) I1.wi.tp.symm (Chg.upd _),(S16.same s1619).chg t19 (Chg.upd _)⟩
   ·rintro σ H7 ⟨vs,us,ds,o4,o5,o6,o7,o8,o9,rfl,I7,P7,S7⟩
    exact hN _ _ ⟨n,vs,us,ds,o4,o5,o6,o7,o8,o9,rfl,by omega,I7,P7.mono (by omega),S7⟩
  ·rintro σ H5 ⟨kk,vs,us,ds,o4,o5,o6,o7,o8,o9,rfl,hkk,I5,P5,S5⟩
   try walk_at "WP"
   intro gl hgl
   have sg:=zO hgl (.lst [])
   have P6:=P5.same sg
   have S6:=S5.same sg
   have glp:gl ≠ p:=P5.ne hgl
   have G0:FG Hb p ins tb dl gl kk vs us [] ds [] (upd H5 gl (.lst [])):=⟨⟨(I5.stepQ P5 sg.chg).wi,(I5.wi.hrs.new hgl).same sg,zF,hts_nil,(fun g h=>by cases h),I5.wi.chg.new glp hgl,glp,(ne_of_none I5.wi.dll hgl).symm,(ne_of_none I5.wi.tbl hgl).symm⟩,I5.sh,(fun g h=>by cases h)⟩
   generalize upd H5 gl (.lst [])=H6 at G0 P6 S6 ⊢
   try walk_at "WP"
   refine jW P6 S6 h63 (by omega) (by decide) (by decide) fun m H8 m0 m1 P8 S8 C8=>?_
   obtain ⟨n,rfl⟩:=zAB m0
   try walk_at "WP"
   refine ⟨by omega,by omega,?_⟩
   rw [yn]
   have G8:=G0.stepQ P6 C8
   refine forR (fun j σ H9=>∃ (os:List V) (gs:List Go) (o4 o11:Option V),σ = [some (.ref p),some (.int ins),some (.ref tb),some (.ref dl),o4,o5,o6,o7,o8,o9,some (.ref gl),o11] /\ FG Hb p ins tb dl gl kk vs us os ds gs H9 /\ gs.length=j /\ (∀ g ∈ gs,g.sg ≠ 0) /\ Pen H9 p a (c+3000+100 * j) /\ Scr K H9 a ns)
    ⟨[],[],o4,none,rfl,G8,rfl,(fun g h=>by cases h),P8.mono (by omega),S8⟩ ?_ ?_
   ·rintro j σ H9 N2 hj ⟨os,gs,o4,o11,rfl,G9,hgl9,gz9,P9,S9⟩ hN2
    have hT9:=G9.wg.wi.tbl
    have hvl:vs.length=ins+kk:=by rw [G9.wg.wi.hrs.len,G9.wg.wi.rl]
    have hrl:(rowsW ins ds).length=ins+kk:=G9.wg.wi.rl
    refine seq_inG fun R_ hR_=>?_
    (iterate 5 ((try (walk_at "WP")); (try (simp only [hT9,qJs,qJt,qJl,qJd,exists_eq_left',exists_eq_left])))); (try (walk_at "WP"))
    refine ⟨_,_,⟨rfl,rfl⟩,?_⟩
    generalize hmn:(if (4:Int) < ((vs.length:Nat):Int) then (4:Int) else ((vs.length:Nat):Int))=mn
    have mn1:1 <= mn /\ mn <= 4 /\ mn <= vs.length:=by rw [← hmn]; split <;> omega
    refine jW P9 S9 h63 (by omega) (by omega) (by omega) fun ra HA ra0 ra1 PA SA CA=>?_
    have GA:=G9.stepQ P9 CA
    have hTA:=GA.wg.wi.tbl
    obtain ⟨th,hth⟩:∃ th:Nat,(vs.length:Int) - 1 - ra=(th:Int):=⟨((vs.length:Int) - 1 - ra).toNat,by omega⟩
    try walk_at "WP"
    rw [hth]
    subst hR_
    (iterate 5 ((try (walk_at "WP")); (try (simp only [hTA,qJs,qJt,qJl,qJd,exists_eq_left',exists_eq_left])))); (try (walk_at "WP"))
    obtain ⟨la,rowa,ea,ea1,ea2,ea3,ea4⟩:=row_of GA.wg.wi.hrs (j:=th) (by omega)
    have ea5:=GA.wg.wi.rw_ _ ea3
    refine ⟨xb GA.wg.gll,_,ea1,p,a,la,ns,_,rowa,rfl,PA,SA,h63,by omega,ea2,by omega,ea4 p (by simp),fun sa HB hsa PB SB CB=>?_⟩
    have GB:=GA.stepQ PA CB
    refine jW PB SB h63 (by omega) (by decide) (by decide) fun g HC g0 g1 PC SC CC=>?_
    have GC:=GB.stepQ PB CC
    try walk_at "WP"
    refine ⟨mul_l (by decide) (by decide),fun t1 ht1=>?_⟩
    refine JD ht1 fun HD sD hD=>?_
    have GD:=GC.stepQ PC sD.chg
    have hol:os.length=j:=by rw [GD.wg.hgs.len,hgl9]
    refine ⟨os,GD.wg.gll,qJ (by omega:os.length < 1000) (yG (by decide)),?_⟩
    exact hN2 _ _ ⟨_,_,_,_,rfl,GD.app (g:=⟨th,sa,1 - 2 * g⟩) hD (by show th < _; omega) (.inr ⟨by show 1 - 2 * g=1 \/ 1 - 2 * g = -1; omega,by show Sh sa ((rowsW ins ds).getD th []); rw [zY ea]; exact hsa⟩),by simp [hgl9],(fun g' hg'=>by rcases yS.mp hg' with z | z; exact gz9 g' z; rw [zT.mp z]; show 1 - 2 * g ≠ 0; omega),((PC.same sD).mono (by omega)).chg (q:=gl) GD.wg.gp.symm (Chg.upd _),(SC.same sD).chg GD.wg.gll (Chg.upd _)⟩
   ·rintro σ H9 ⟨os,gs,o4,o11,rfl,G9,hgl9,gz9,P9,S9⟩
    have kd:=G9.wg.wi.dlen
    have FW:FWeb ins ds gs:=⟨⟨u0,u1,G9.wg.wi.dk,fun g hg=>by rw [kd]; exact G9.wg.gk g hg,by rw [kd]; omega,by omega⟩,G9.sh,G9.go,by rw [kd]; exact G9.wg.wi.rb,G9.wg.wi.rw_⟩
    try walk_at "WP"
    refine ⟨ins,dl,gl,us,os,ds,gs,rfl,G9.wg.wi.dll,G9.wg.gll,G9.wg.wi.hds,G9.wg.hgs,⟨FW,gz9⟩,fun r a' b' HA sA hr ha hb=>?_⟩
    try walk_at "WP"
    exact q0 r a' b' ins us ds os gs HA ⟨hr,ha,G9.wg.wi.hds.same sA,hb,G9.wg.hgs.same sA⟩ FW ((P9.same sA).mono (by omega)) (S9.same sA) (Cab.trans (G9.wg.wi.chg.trans sA.chg))
end
section
variable {P:Program}{w:World}{K:zA}{mg:Str -> Option Value}{base:Heap}
theorem ok_sharedC (T:Txt K mg):Cal P w K mg base 7 "shared" ["numbers"] (spSharedC K):=by
 have B:=T.bl
 have C_by_signs:=(ok_by (P:=P) (w:=w) (base:=base) T).mono (k:=6) (by decide)
 have C_bare:=ok_bare (P:=P) (w:=w) (base:=base) T
 refine yT T.t_shared sc_shared (fun vs H Q E h=>?_) (fun f cdv A outer s H vs Q E hr h=>?_)
 ·obtain ⟨a,xs,rfl,_⟩:=h
  rfl
 obtain ⟨a,xs,rfl,ha,hl,hb,q⟩:=h
 refine ⟨_,(zM (zd (zP C_bare hr rfl (zB (zP C_by_signs hr rfl (zB (pv 0) zD)) zD)))),?_⟩
 rw [show yJ ["numbers"] [.ref a]=[some (.ref a)] from rfl]
 try walk_at "WP"
 refine ⟨a,xs,rfl,ha,hl,fun x hx=>Nat.lt_trans (hb x hx) (by decide),fun t dl ol ds H1 s1 nt nd no R hc=>?_⟩
 have c40:=cost40 hl hb
 obtain ⟨us,os,gs,W,BW,O⟩:=R.web (by omega) (by omega)
 try walk_at "WP"
 refine ⟨t,dl,ol,1,us,_,os,gs,rfl,W,BW,fun r dl' gl' us' os' es gs' bs H' nr nd' ng dg s' W' F' RB' B' O' R' U' L'=>?_⟩
 try walk_at "WP"
 exact q r dl' gl' us' os' es gs' H' (s1.trans s') (one_gw W'.wk F' RB' (O'.trans O) hb) (O'.trans O)
end
section
variable {P:Program}{w:World}{K:zA}{mg:Str -> Option Value}{base:Heap}
theorem ok_bnd25 (T:Txt K mg):Cal P w K mg base 6 "_law_bounded" ["_law_web_here"] (spBnd25 K):=by
 have B:=T.bl
 have C_numbers:=(ok_nums4 (P:=P) (w:=w) (base:=base) T).mono (k:=5) (by decide)
 have C_depths:=(zCI (P:=P) (w:=w) (base:=base) T).mono (k:=5) (by decide)
 have C_depth:=(zBu (P:=P) (w:=w) (base:=base) T).mono (k:=5) (by decide)
 have C_out_numbers:=ok_onumsB (P:=P) (w:=w) (base:=base) T
 have C_least:=(ok_least (P:=P) (w:=w) (base:=base) T).mono (k:=5) (by decide)
 have C_least_depth:=ok_ld (P:=P) (w:=w) (base:=base) T
 refine yT T.t_l_bounded sc_l_bounded (fun vs H Q E h=>?_) (fun f cdv A outer s H vs Q E hr h=>?_)
 ·obtain ⟨x,_,_,_,_,_,_,_,rfl,_⟩:=h
  rfl
 obtain ⟨x,dl,gl,ins,us,ds,os,gs,rfl,G,q⟩:=h
 have F:=G.fw
 have i1:=F.ok.i1
 have i12:=F.ok.i2
 have dl4:=F.ok.dl
 have gl12:=F.ok.gl
 have lr:=rowsW_len ins ds
 have ldp:=dpW_len (ins:=ins) (ds:=ds)
 refine ⟨_,(xO (xR PassesOwn.never rfl (pi_zip rfl B.zip (zB (zP C_numbers hr rfl (zB (pv 0) zD)) (zB (zP C_depths hr rfl (zB (pv 0) zD)) zD))) (jQ 2 rfl (zu (zS (i:=1) sc_l_bounded.nd rfl (by walk_at "o")) (zu (zS (i:=2) sc_l_bounded.nd rfl (by walk_at "o")) xa))) (zM (yh (zn op_gt (zw (call_sum rfl) rfl B.sum bo_sum (zB (yU (N:=["_law_part"]) (nt:=1) (cs:=[]) rfl (zBb (pv 1)) (fun nd C s H fp=>⟨(zS (i:=0) nd rfl (by walk_at "o")),yq,(zP C_least hr rfl (zB (pv 0) zD))⟩) (by decide +kernel) (by first | rfl | decide +kernel) (by first | rfl | decide +kernel) rfl (fun _=>rfl)) zD)) (zU jh zC (pv 2)) (yA _)) (zM (zd zAM)) yE)))
  (zM (zd (zw (call_all rfl) rfl B.all bo_all (zB (yU (N:=["_law_row","_law_web_here"]) (nt:=1) (cs:=[0]) rfl (yc (zP C_out_numbers hr rfl (zB (pv 0) zD))) (fun nd C s H fp=>⟨(zS (i:=0) nd rfl (by walk_at "o")),yq,(ju op_le (zP C_least_depth hr rfl (zB (xc (call_listK K) rfl B.list Je (zB (pv 0) zD)) zD)) (zP C_depth hr rfl (zB (pv 1) zD)) (yA _))⟩) (by decide +kernel) (by first | rfl | decide +kernel) (by first | rfl | decide +kernel) rfl (fun _=>rfl)) zD))))),?_⟩
 rw [show yJ ["_law_web_here","_law_row","_law_deepness"] [.ref x]=[some (.ref x),none,none] from rfl]
 refine jA (fun σ H1=>∃ (o1 o2:Option V),σ = [some (.ref x),o1,o2] /\ Same H H1) (fun N hN=>?_) ?_
 ·try walk_at "WP"
  rw [w_forZ]
  try walk_at "WP"
  refine ⟨x,dl,gl,ins,us,ds,os,gs,rfl,G.wb,F,fun nr ys H1 n1 s1 hn1 ht1=>?_⟩
  try walk_at "WP"
  refine ⟨x,dl,gl,ins,us,ds,os,gs,rfl,G.wb.same s1,F.dko,dl4,i12,fun dp H2 n2 s2 hdp=>?_⟩
  try walk_at "WP"
  have s12:=s1.trans s2
  have hn2:=s2 _ _ hn1
  have ht2:=ht1.same s2
  have yl:=ht1.len
  refine ⟨nr,dp,⟨rfl,rfl⟩,_,SqL.of hn2,_,SqL.of hdp,?_⟩
  refine forZ (xs:=ys) (ys:=(dpW ins ds).map V.int) (by rw [qC]; omega) (fun i σ J=>∃ (o1 o2:Option V),σ = [some (.ref x),o1,o2] /\ Same H2 J) ⟨none,none,rfl,Same.refl _⟩ ?_ ?_ ?_
  ·rintro i σ J _ ⟨_,_,_,sG⟩
   exact ⟨SqL.of (sG _ _ hn2),SqL.of (sG _ _ hdp)⟩
  ·rintro i v u T0 σ J N2 hv hu nT ⟨o1,o2,rfl,sG⟩ hN2
   refine JD nT fun G1 t1 h9=>?_
   have il:=(qB.mp hv).1
   have er:=qA (l:=rowsW ins ds) (i:=i) (by omega)
   obtain ⟨t,e1,e2⟩:=ht2.at_ i _ er
   rw [hv] at e1
   cases e1
   obtain ⟨d,hd,rfl⟩:=zA8 hu
   have hdn:(dpW ins ds).getD i 0=d:=zY hd
   have d0:0 <= d:=by rw [← hdn]; exact dp_nn i
   have dle:d <= 400:=by
    have:=dp_le F.dko ds.length (zE _) i (by omega)
    rw [hdn] at this
    omega
   have key:=F.dep i (by omega)
   rw [zY er,hdn] at key
   have rm:=qE er
   generalize (rowsW ins ds)[i]'(by omega)=row at e2 key rm
   have rl:=F.wd row rm
   have ht9:=t1 _ _ (sG _ _ e2)
   (iterate 5 ((try (walk_at "WP")); (try (simp only [h9,qJs,qJt,qJl,qJd,exists_eq_left',exists_eq_left])))); (try (walk_at "WP"))
   have hsq:=SqT.of (K:=K) ht9
   refine ⟨⟨_,hsq⟩,?_⟩
   refine comp_new (J:=Itt K t) (xs:=row.map V.int) (liI fun n=>((wn n:Nat):Int)) (by rw [qC]; exact jK (by omega)) (fun H' s'=>it_Ts hsq s') (fun y H' R hy s' hR=>?_) (fun acc H' na s' ha=>?_)
   ·obtain ⟨n,hn,rfl⟩:=qP.mp hy
    try walk_at "WP"
    exact ⟨n,rfl,yB ((G.rb row rm).2 n hn) (yO (by decide) (by decide)),fun H5 s5=>hR H5 s5⟩
   rw [zAG] at ha
   try walk_at "WP"
   refine ⟨acc,_,rfl,ha,?_⟩
   rw [sumW_int]
   try walk_at "WP"
   rw [yN,if_neg (by
    have:((sumW row:Nat):Int) <= ((2 ^ d.toNat:Nat):Int):=Int.ofNat_le.mpr key
    rw [jI] at this
    exact Int.not_lt.mpr this)]
   exact ⟨⟨d0,by omega⟩,hN2 _ _ ⟨_,_,rfl,(sG.trans t1).trans s'⟩⟩
  ·rintro σ J ⟨o1,o2,rfl,sG⟩
   exact hN _ _ ⟨_,_,rfl,s12.trans sG⟩
 ·rintro σ H1 ⟨o1,o2,rfl,s1⟩
  have G1:=G.same s1
  try walk_at "WP"
  refine ⟨x,dl,gl,ins,us,ds,os,gs,rfl,G1.wb,F,fun r ys H2 n2 s2 h2 ht2=>?_⟩
  try walk_at "WP"
  refine ⟨⟨_,SqL.of h2⟩,?_⟩
  have ol:(outsR ins ds gs).length=gs.length:=by unfold outsR; rw [qC]
  have yl:=ht2.len
  refine comp_newL (SqL.of h2) (yG (by omega)) (fun _=>some (.bl true)) (fun y H' R hy s' hR=>?_) (fun acc H' na s' ha=>?_)
  ·obtain ⟨i,hi⟩:=zz hy
   have il:=(qB.mp hi).1
   have eo:=qA (l:=outsR ins ds gs) (i:=i) (by omega)
   obtain ⟨t,e1,e2⟩:=ht2.at_ i _ eo
   rw [hi] at e1
   cases e1
   have om:=qE eo
   have eg:∃ g ∈ gs,(outsR ins ds gs)[i]'(by omega)=outR (rowsW ins ds) g:=by
    have eo':=eo
    unfold outsR at eo'
    rw [qI] at eo'
    obtain ⟨g,hg,e⟩:=yW.mp eo'
    exact ⟨g,qE hg,e.symm⟩
   generalize (outsR ins ds gs)[i]'(by omega)=row at e2 om eg
   obtain ⟨g,hgm,rfl⟩:=eg
   have rl:(outR (rowsW ins ds) g).length <= 12:=by
    unfold outR
    rw [qC]
    have er:=qA (l:=rowsW ins ds) (i:=g.th) (by have:=F.ok.gk g hgm; omega)
    rw [zY er,F.wd _ (qE er)]
    exact i12
   rw [show yZ [0] [some (V.ref x),o1,o2]=[some (V.ref x)] from rfl]
   try walk_at "WP"
   have ht':=s' _ _ e2
   refine ⟨_,.inr (SqT.of ht'),fun l nl=>?_⟩
   refine JD nl fun H5 s5 h5=>?_
   refine ⟨l,_,rfl,h5,by omega,fun n hn=>G.ob _ om n hn,fun H6 s6=>?_⟩
   have s16:=((s2.trans s').trans s5).trans s6
   refine ⟨x,dl,gl,ins,us,ds,os,gs,rfl,G1.wb.same s16,F.dko,dl4,i12,gl12,F.ok.gk,fun H7 s7=>?_⟩
   try walk_at "WP"
   have le:=ld_le (Jw _) (out_ld F hgm)
   rw [decide_eq_true le]
   exact hR _ ((s5.trans s6).trans s7)
  have et:(ys.filterMap fun _=>some (V.bl true))=(qQ ys.length true).map V.bl:=by
   clear ha ht2 yl h2
   induction ys with
   | nil=>rfl
   | cons a r ih=>rw [yK,ih,zq,List.replicate_succ,zR]
  rw [et] at ha
  refine ⟨acc,_,rfl,ha,?_⟩
  rw [show ((qQ ys.length true).all id)=true from by rw [xM]; intro z hz; exact (List.mem_replicate.mp hz).2]
  exact q _ ((s1.trans s2).trans s')
end
section
variable {P:Program}{w:World}{K:zA}{mg:Str -> Option Value}{base:Heap}
theorem ok_rowr25 (T:Txt K mg):Cal P w K mg base 7 "_law_row_right" ["_law_web_here","_law_some","_law_x"] (spRowR25 K):=by
 have B:=T.bl
 have C_depth:=(zBu (P:=P) (w:=w) (base:=base) T).mono (k:=6) (by decide)
 have C_out_numbers:=(ok_onumsB (P:=P) (w:=w) (base:=base) T).mono (k:=6) (by decide)
 have C_least_depth:=(ok_ld (P:=P) (w:=w) (base:=base) T).mono (k:=6) (by decide)
 have C_run_outs:=(ok_runoK (P:=P) (w:=w) (base:=base) T).mono (k:=6) (by decide)
 have C_l_bounded:=ok_bnd25 (P:=P) (w:=w) (base:=base) T
 refine yT T.t_l_row_right zCG (fun vs H Q E h=>?_) (fun f cdv A outer s H vs Q E hr h=>?_)
 ·obtain ⟨_,_,_,_,_,_,_,_,_,_,rfl,_⟩:=h
  rfl
 obtain ⟨x,dl,gl,l,us,ds,os,gs,xs,v,rfl,G,O,hl,l6,hb,vb,q⟩:=h
 have F:=G.fw
 refine ⟨_,(zG (yh (PW.pt (pw_or (zn (op_neD hr) (zP C_out_numbers hr rfl (zB (pv 0) zD)) (yU (N:=["_law_number"]) (nt:=1) (cs:=[]) rfl (yc (pv 1)) (fun nd C s H fp=>⟨(zS (i:=0) nd rfl (by walk_at "o")),yq,(yV (zB (pv 0) zD))⟩) (by decide +kernel) (by first | rfl | decide +kernel) (by first | rfl | decide +kernel) rfl (fun _=>rfl)) (yA _)) (zAP (zn op_lt (zP C_depth hr rfl (zB (pv 0) zD)) (zP C_least_depth hr rfl (zB (pv 1) zD)) (yA _))))) (zM (zd zAM)) yE)
  (zM (zd (zBa (ju (op_eqD hr) (zP C_run_outs hr rfl (zB (pv 0) (zB (xp (zB (pv 2) zD)) zD))) (yU (N:=["_law_number","_law_x"]) (nt:=1) (cs:=[2]) rfl (yc (pv 1)) (fun nd C s H fp=>⟨(zS (i:=0) nd rfl (by walk_at "o")),yq,(zU yX (pv 0) (pv 1))⟩) (by decide +kernel) (by first | rfl | decide +kernel) (by first | rfl | decide +kernel) rfl (fun _=>rfl)) (yA _)) (zBZ (zP C_l_bounded hr rfl (zB (pv 0) zD))))))),?_⟩
 rw [show yJ ["_law_web_here","_law_some","_law_x"] [.ref x,.ref l,.int v]=[some (.ref x),some (.ref l),some (.int v)] from rfl]
 have gl12:=F.ok.gl
 have dl4:=F.ok.dl
 try walk_at "WP"
 refine ⟨x,dl,gl,1,us,ds,os,gs,rfl,G.wb,F,fun r ys H1 n1 s1 h1 ht1=>?_⟩
 try walk_at "WP"
 refine ⟨⟨_,SqL.of (s1 _ _ hl)⟩,?_⟩
 refine comp_tupI (fun n=>[n]) (s1 _ _ hl) (by omega) (fun n H' R hn s' hR=>?_) (fun acc ws H2 n2 s2 h2 ht2=>?_)
 ·try walk_at "WP"
  exact fun t nt=>hR t _ (zO nt _) nt zF
 rw [O] at ht1
 refine ne_tups (fun a=>jV a) (s2 _ _ h1) (ht1.same s2) h2 ht2 ⟨false,rfl,?_⟩
 rw [if_neg (by decide)]
 have s12:=s1.trans s2
 refine ⟨x,dl,gl,1,us,ds,os,gs,rfl,G.wb.same s12,F.dko,dl4,by decide,gl12,F.ok.gk,fun H3 s3=>?_⟩
 have s13:=s12.trans s3
 try walk_at "WP"
 refine ⟨l,xs,rfl,s13 _ _ hl,by omega,fun n hn=>Nat.lt_trans (hb n hn) (yO (by decide) (by decide)),fun H4 s4=>?_⟩
 have s14:=s13.trans s4
 have ldle:ld xs <= mz (goD (dpW 1 ds) gs):=ld_le (Jw _) fun n hn=>by
  obtain ⟨i,hi⟩:=zz hn
  have:(outsR 1 ds gs)[i]? = some [n]:=by rw [O,qI,hi]; rfl
  unfold outsR at this
  rw [qI] at this
  obtain ⟨g,hg,e⟩:=yW.mp this
  exact out_ld F (qE hg) n (by rw [e]; exact zT.mpr rfl)
 try walk_at "WP"
 rw [if_neg (by omega)]
 intro vl nvl
 refine JD nvl fun H5 s5 h5=>?_
 have s15:=s14.trans s5
 have ev:=vals_one F v
 have nl:=nm_len ds
 have nb:∀ n ∈ nm ds,n.natAbs <= 2 ^ 3000:=fun n hn=>by
  unfold nm at hn
  obtain ⟨r,hr,rfl⟩:=qP.mp hn
  have l:=F.wd r hr
  refine (G.rb r hr).2 _ ?_
  match r,l with
  | [y],_=>exact zT.mpr rfl
 have gv:∀ j,j < 1+ds.length -> (valsW [v] ds).getD j 0=(nm ds).getD j 0 * v:=fun j hj=>by
  have e1:=qA (l:=nm ds) (i:=j) (by omega)
  rw [ev,zY e1,zY (by rw [qI,e1]; rfl)]
 have sh1:∀ (j:Nat) (s:Int),j < 1+ds.length -> Sh4 s ((rowsW 1 ds).getD j []) -> Sh14 s ((valsW [v] ds).getD j 0):=fun j s hj h=>by
  rw [nm_at F.wd hj] at h
  rw [gv j hj]
  exact ⟨h.1,h.2.1,fun z=>Int.dvd_trans (h.2.2 z _ (zT.mpr rfl)) ⟨v,rfl⟩⟩
 have V4:VOk4B [v] ds:=⟨fun k d hk=>by
  obtain ⟨a,b,c,e⟩:=F.sh k d hk
  have kl:=(qB.mp hk).1
  exact ⟨a,b,sh1 _ _ (by omega) c,sh1 _ _ (by omega) e⟩,fun y hy=>by
  rw [ev] at hy
  obtain ⟨n,hn,rfl⟩:=qP.mp hy
  exact JY (m:=3001) (n:=200) (yB (nb n hn) (yO (by decide) (by decide))) vb (by decide),by show 1 <= 12; decide,dl4⟩
 refine ⟨x,vl,dl,gl,us,ds,os,gs,[v],rfl,G.wb.same s15,h5,V4,gl12,fun g hg=>⟨F.ok.gk g hg,?_,?_⟩,fun ro H6 n6 s6 h6=>?_⟩
 ·rcases F.go g hg with z | z
  ·rw [z]
   exact ⟨by decide,by decide,fun h=>absurd h (by decide)⟩
  ·exact sh1 _ _ (F.ok.gk g hg) z.2
 ·rcases F.go g hg with z | z
  ·rw [z]; exact .inl rfl
  ·exact .inr z.1
 have s16:=s15.trans s6
 have eo:gs.map (outV (valsW [v] ds))=xs.map fun n=>n * v:=by
  refine List.ext_getElem? fun i=>?_
  rw [qI,qI]
  have Oi:(outsR 1 ds gs)[i]? = (xs.map fun n=>[n])[i]?:=by rw [O]
  unfold outsR at Oi
  rw [qI,qI] at Oi
  cases e1:gs[i]? with
  | none =>
   rw [e1] at Oi
   cases e2:xs[i]? with
   | none=>rfl
   | some n=>rw [e2] at Oi; cases Oi
  | some g =>
   rw [e1] at Oi
   cases e2:xs[i]? with
   | none=>rw [e2] at Oi; cases Oi
   | some n =>
    rw [e2] at Oi
    have Oi:=Option.some.inj Oi
    have hg:=qE e1
    have th:=F.ok.gk g hg
    unfold outR at Oi
    rw [nm_at F.wd th] at Oi
    have en:g.sg * mvI g.sh ((nm ds).getD g.th 0)=n:=(List.cons.inj Oi).1
    show some (outV _ _)=some (n * v)
    unfold outV
    rw [gv _ th,← en]
    congr 1
    rcases F.go g hg with z | z
    ·rw [z]
     show 0 * _=0 * _ * v
     rw [Int.zero_mul,Int.zero_mul,Int.zero_mul]
    ·have zs:=z.2
     rw [nm_at F.wd th] at zs
     rw [mv_times fun c=>zs.2.2 c _ (zT.mpr rfl),zW]
 rw [eo] at h6
 have hl6:=s16 _ _ hl
 refine ⟨⟨_,SqL.of hl6⟩,?_⟩
 refine zA5 (f:=liI fun n=>n * v) (SqL.of hl6) (by rw [qC]; exact jK (by omega)) (fun y H' R hy hS' hR=>?_) (fun acc hacc=>?_)
 ·obtain ⟨n,hn,rfl⟩:=qP.mp hy
  rw [show yZ [2] [some (V.ref x),some (V.ref l),some (V.int v)]=[some (V.int v)] from rfl]
  try walk_at "WP"
  exact ⟨mul_b (m:=40) (n:=200) (hb n hn) vb (by decide),hR⟩
 rw [zAG]
 refine JD hacc fun H7 s7 h7=>?_
 refine eqLI (SqL.of (s7 _ _ h6)) (SqL.of h7) ?_
 refine ⟨_,rfl,?_⟩
 rw [if_pos (by simp)]
 exact ⟨x,dl,gl,1,us,ds,os,gs,rfl,G.same (s16.trans s7),fun H8 s8=>q _ ((s16.trans s7).trans s8)⟩
end
section
variable {P:Program}{w:World}{K:zA}{mg:Str -> Option Value}{base:Heap}
def IsG25 (K:zA)(H:Hp)(xs:List Int)(v:V):Prop:=∃ w dl gl us ds os gs,v = .ref w /\ GWb K H w dl gl 1 us ds os gs /\ outsR 1 ds gs=xs.map fun n=>[n]
theorem IsG25.same {K:zA}{H H':Hp}{xs:List Int}{v:V}(h:IsG25 K H xs v)(s:Same H H'):IsG25 K H' xs v:=by
 obtain ⟨w,dl,gl,us,ds,os,gs,e,G,O⟩:=h
 exact ⟨w,dl,gl,us,ds,os,gs,e,G.same s,O⟩
theorem ok_law (T:Txt K mg) {f:Addr} {fd:FuncData} (F:Fun K "law" "law" zA2 f fd)  : FnOk P w K mg base CX0 20 f fd ["_law_script"] (spLaw K):=by
 have B:=T.bl
 have C_l_pen:=(ok_pen (P:=P) (w:=w) (base:=base) T).mono (k:=19) (by decide)
 have C_l_draw:=(ok_drawB (P:=P) (w:=w) (base:=base) T).mono (k:=19) (by decide)
 have C_l_few:=(ok_few24 (P:=P) (w:=w) (base:=base) T).mono (k:=19) (by decide)
 have C_l_web:=(ok_gen25 (P:=P) (w:=w) (base:=base) T).mono (k:=19) (by decide)
 have C_l_bounded:=(ok_bnd25 (P:=P) (w:=w) (base:=base) T).mono (k:=19) (by decide)
 have C_l_row_right:=(ok_rowr25 (P:=P) (w:=w) (base:=base) T).mono (k:=19) (by decide)
 have C_by_signs:=(ok_by (P:=P) (w:=w) (base:=base) T).mono (k:=19) (by decide)
 have C_deep:=(ok_deep (P:=P) (w:=w) (base:=base) T).mono (k:=19) (by decide)
 have C_shared:=(ok_sharedC (P:=P) (w:=w) (base:=base) T).mono (k:=19) (by decide)
 have C_depth:=(zBu (P:=P) (w:=w) (base:=base) T).mono (k:=19) (by decide)
 have C_least_depth:=(ok_ld (P:=P) (w:=w) (base:=base) T).mono (k:=19) (by decide)
 refine F.ok sc_law (fun vs H Q E h=>?_) (fun cdv A outer s H vs Q E hr h=>?_)
 ·obtain ⟨a,ns,rfl,_⟩:=h
  rfl
 obtain ⟨a,ns,rfl,hS,h63,q⟩:=h
 refine ⟨_,(zG (zf (i:=1) sc_law.nd rfl (by walk_at "o") (zP C_l_pen hr rfl (zB (pv 0) zD)))
  (xO (xR PassesOwn.never rfl (xr rfl B.range (zB zC zD)) (zS (i:=2) sc_law.nd rfl (by walk_at "o")) (zM (yh (j4 (jS (zP C_l_bounded hr rfl (zB (zP C_l_web hr rfl (zB (pv 1) zD)) zD)))) (zM (zd zAM)) yE)))
  (zG (zf (i:=3) sc_law.nd rfl (by walk_at "o") (zP C_l_few hr rfl (zB (pv 1) zD)))
  (zG (zf (i:=4) sc_law.nd rfl (by walk_at "o") (zU yX (zU yp (zU yX (zP C_l_draw hr rfl (zB (pv 1) (zB (zU JC zC zC) zD))) (zU JC zC zC)) (zP C_l_draw hr rfl (zB (pv 1) (zB (zU JC zC zC) zD)))) (zU xK zC (zU yX zC (zP C_l_draw hr rfl (zB (pv 1) (zB zC zD)))))))
  (zG (xR PassesOwn.never rfl (zBb (yV (zB (zP C_by_signs hr rfl (zB (pv 3) zD)) (zB (zP C_deep hr rfl (zB (pv 3) zD)) (zB (zP C_shared hr rfl (zB (pv 3) zD)) zD))))) (zS (i:=5) sc_law.nd rfl (by walk_at "o")) (zM (yh (j4 (jS (zP C_l_row_right hr rfl (zB (pv 5) (zB (pv 3) (zB (pv 4) zD)))))) (zM (zd zAM)) yE)))
  (zM (zd (ju xm (zP C_depth hr rfl (zB (zP C_deep hr rfl (zB (pv 3) zD)) zD)) (zP C_least_depth hr rfl (zB (pv 3) zD)) (yA _))))))))),?_⟩
 rw [show yJ ["_law_script","_law_pen_here","_law_turn","_law_some","_law_x","_law_web_here"] [.ref a]=[some (.ref a),none,none,none,none,none] from rfl]
 try walk_at "WP"
 refine ⟨a,rfl,fun p H1 hp sm1 P1=>?_⟩
 have S1:=hS.same sm1
 try walk_at "WP"
 refine jA (fun σ G=>∃ (o2:Option V),σ = [some (.ref a),some (.ref p),o2,none,none,none] /\ Pen G p a 100000 /\ Scr K G a ns) (fun N hN=>?_) ?_
 ·try walk_at "WP"
  refine forR (fun i σ G=>∃ (o2:Option V),σ = [some (.ref a),some (.ref p),o2,none,none,none] /\ Pen G p a (10000 * i) /\ Scr K G a ns) ⟨none,rfl,P1.mono (by simp),S1⟩ ?_ ?_
  ·rintro i σ G N2 hi ⟨o2,rfl,PG,SG⟩ hN2
   try walk_at "WP"
   refine ⟨p,a,ns,_,rfl,PG,SG,h63,by omega,fun v dl gl n us ds os gs H2 W F2 P2 S2 C2=>?_⟩
   try walk_at "WP"
   refine ⟨v,dl,gl,n,us,ds,os,gs,rfl,F2.gw W,fun H3 s3=>?_⟩
   try walk_at "WP"
   exact hN2 _ _ ⟨_,rfl,(P2.same s3).mono (by omega),S2.same s3⟩
  ·rintro σ G ⟨o2,rfl,PG,SG⟩
   exact hN _ _ ⟨o2,rfl,PG.mono (by omega),SG⟩
 ·rintro σ H2 ⟨o2,rfl,P2,S2⟩
  try walk_at "WP"
  refine ⟨p,a,ns,_,rfl,P2,S2,h63,by decide,fun l xs H3 nl hl lp l6 hxs P3 S3 C3=>?_⟩
  try walk_at "WP"
  refine ⟨p,a,ns,_,_,rfl,P3,S3,h63,by decide,by decide,by decide +kernel,fun d1 H4 d10 d11 P4 S4 C4=>?_⟩
  try walk_at "WP"
  have e67:(100000000000000000000:Int) < 2 ^ 67:=by decide
  refine ⟨mul_b (m:=67) (n:=67) (by omega) (by decide) (by decide),p,a,ns,_,_,rfl,P4,S4,h63,by decide,by decide,by decide +kernel,fun d2 H5 d20 d21 P5 S5 C5=>?_⟩
  try walk_at "WP"
  refine ⟨p,a,ns,_,_,rfl,P5,S5,h63,by decide,by decide,by decide +kernel,fun d3 H6 d30 d31 P6 S6 C6=>?_⟩
  have hx0:(d1 * 100000000000000000000+d2).natAbs < 2 ^ 140:=by omega
  have hx1:(1 - 2 * d3).natAbs < 2 ^ 2:=by omega
  have hx2:=JY (k:=200) hx0 hx1 (by decide)
  have hl6:=C6 _ _ lp (C5 _ _ lp (C4 _ _ lp hl))
  try walk_at "WP"
  refine ⟨mul_l (by decide) (by decide),mul_b hx0 hx1 (by decide),?_⟩
  generalize (d1 * 100000000000000000000+d2) * (1 - 2 * d3)=xv at hx2
  have b200:∀ x ∈ xs,x.natAbs < 2 ^ 200:=fun x hx=>Nat.lt_trans (hxs x hx) (by decide)
  have c40:=cost40 l6 hxs
  refine ⟨l,xs,rfl,hl6,l6,b200,fun t1 dl1 ol1 ds1 H7 s7 _ _ _ R1 hc1=>?_⟩
  obtain ⟨us1,os1,gs1,W1,BW1,O1⟩:=R1.web (by omega) (by omega)
  have G1:IsG25 K H7 xs (.ref t1):=⟨_,_,_,_,_,_,_,rfl,one_gw W1 BW1.f BW1.rb O1 hxs,O1⟩
  refine ⟨l,xs,rfl,s7 _ _ hl6,l6,b200,fun t2 dl2 ol2 ds2 H8 s8 _ _ _ R2 D2 hc2=>?_⟩
  obtain ⟨us2,os2,gs2,W2,BW2,O2⟩:=R2.web (by omega) (by omega)
  have G2:IsG25 K H8 xs (.ref t2):=⟨_,_,_,_,_,_,_,rfl,one_gw W2 BW2.f BW2.rb O2 hxs,O2⟩
  refine ⟨l,xs,rfl,s8 _ _ (s7 _ _ hl6),l6,hxs,fun t3 dl3 gl3 us3 os3 es3 gs3 H9 s9 W3 O3=>?_⟩
  have G3:IsG25 K H9 xs (.ref t3):=⟨_,_,_,_,_,_,_,rfl,W3,O3⟩
  intro tt ntt
  refine JD ntt fun HA sA hA=>?_
  have hlA:=sA _ _ (s9 _ _ (s8 _ _ (s7 _ _ hl6)))
  refine ⟨⟨_,SqT.of hA⟩,?_⟩
  refine forT (xs:=[V.ref t1,V.ref t2,V.ref t3]) (fun i σ J=>∃ (o2 o5:Option V),σ = [some (.ref a),some (.ref p),o2,some (.ref l),some (.int xv),o5] /\ Same HA J) ⟨o2,none,rfl,Same.refl _⟩ ?_ ?_ ?_
  ·rintro i σ J _ ⟨_,_,_,sJ⟩
   exact SqT.of (sJ _ _ hA)
  ·rintro i v σ J N2 hv ⟨o2,o5,rfl,sJ⟩ hN2
   have IG:IsG25 K J xs v:=by
    have hm:=qE hv
    simp only [zV,yQ,or_false] at hm
    rcases hm with z | z | z <;> subst z
    ·exact G1.same (((s8.trans s9).trans sA).trans sJ)
    ·exact G2.same ((s9.trans sA).trans sJ)
    ·exact G3.same (sA.trans sJ)
   obtain ⟨v0,dl,gl,us,ds,os,gs,rfl,GW,O⟩:=IG
   try walk_at "WP"
   refine ⟨v0,dl,gl,l,us,ds,os,gs,xs,xv,rfl,GW,O,sJ _ _ hlA,l6,hxs,hx2,fun HB sB=>?_⟩
   try walk_at "WP"
   exact hN2 _ _ ⟨_,_,rfl,sJ.trans sB⟩
  ·rintro σ J ⟨o2,o5,rfl,sJ⟩
   try walk_at "WP"
   refine ⟨l,xs,rfl,sJ _ _ hlA,l6,b200,fun t4 dl4 ol4 ds4 HB sB _ _ _ R4 D4 hc4=>?_⟩
   obtain ⟨us4,os4,gs4,W4,BW4,O4,L4⟩:=R4.webD D4 (by omega) (by omega)
   try walk_at "WP"
   refine ⟨t4,dl4,ol4,1,us4,_,os4,gs4,rfl,W4,BW4.f.dko,BW4.f.ok.dl,by decide,BW4.f.ok.gl,BW4.f.ok.gk,fun HC sC=>?_⟩
   try walk_at "WP"
   refine ⟨l,xs,rfl,sC _ _ (sB _ _ (sJ _ _ hlA)),by omega,fun n hn=>Nat.lt_trans (hxs n hn) (yO (by decide) (by decide)),fun HD sD=>?_⟩
   try walk_at "WP"
   rw [L4,decide_eq_true rfl]
   exact q _
end
theorem ln1 {α:Type}{us:List α}(h:us.length=1):∃ a0,us=[a0]:=match us,h with | [a0],_=>⟨a0,rfl⟩
theorem ln2 {α:Type}{us:List α}(h:us.length=2):∃ a0 a1,us=[a0,a1]:=match us,h with | [a0,a1],_=>⟨a0,a1,rfl⟩
theorem ln3 {α:Type}{us:List α}(h:us.length=3):∃ a0 a1 a2,us=[a0,a1,a2]:=match us,h with | [a0,a1,a2],_=>⟨a0,a1,a2,rfl⟩
theorem all_mk {l:PySem.W.OpenLaw} {w:World} {K:zA} {h:Heap} {mg:Str -> Option Value} {fa:Addr} (X:K.In h) (G:h.Ns mainGlobals mg) (hfa:mg "law" = some (.ref fa))
  {f1:Addr} {od1 an1:Option Addr} {sl1:Array (Option Value)} {oc1 kV1 dc1 pm1 cd1 ct1:Value} {f2:Addr} {od2 an2:Option Addr} {sl2:Array (Option Value)} {oc2 kV2 dc2 pm2 cd2 ct2:Value} {f3:Addr} {od3 an3:Option Addr} {sl3:Array (Option Value)} {oc3 kV3 dc3 pm3 cd3 ct3:Value} {f4:Addr} {od4 an4:Option Addr} {sl4:Array (Option Value)} {oc4 kV4 dc4 pm4 cd4 ct4:Value} {f5:Addr} {od5 an5:Option Addr} {sl5:Array (Option Value)} {oc5 kV5 dc5 pm5 cd5 ct5:Value} {f6:Addr} {od6 an6:Option Addr} {sl6:Array (Option Value)} {oc6 kV6 dc6 pm6 cd6 ct6:Value} {f7:Addr} {od7 an7:Option Addr} {sl7:Array (Option Value)} {oc7 kV7 dc7 pm7 cd7 ct7:Value} {f8:Addr} {od8 an8:Option Addr} {sl8:Array (Option Value)} {oc8 kV8 dc8 pm8 cd8 ct8:Value} {f9:Addr} {od9 an9:Option Addr} {sl9:Array (Option Value)} {oc9 kV9 dc9 pm9 cd9 ct9:Value} {f10:Addr} {od10 an10:Option Addr} {sl10:Array (Option Value)} {oc10 kV10 dc10 pm10 cd10 ct10:Value} {f11:Addr} {od11 an11:Option Addr} {sl11:Array (Option Value)} {oc11 kV11 dc11 pm11 cd11 ct11:Value} {f12:Addr} {od12 an12:Option Addr} {sl12:Array (Option Value)} {oc12 kV12 dc12 pm12 cd12 ct12:Value} {f13:Addr} {od13 an13:Option Addr} {sl13:Array (Option Value)} {oc13 kV13 dc13 pm13 cd13 ct13:Value} {f14:Addr} {od14 an14:Option Addr} {sl14:Array (Option Value)} {oc14 kV14 dc14 pm14 cd14 ct14:Value} {f15:Addr} {od15 an15:Option Addr} {sl15:Array (Option Value)} {oc15 kV15 dc15 pm15 cd15 ct15:Value} {f16:Addr} {od16 an16:Option Addr} {sl16:Array (Option Value)} {oc16 kV16 dc16 pm16 cd16 ct16:Value} {f17:Addr} {od17 an17:Option Addr} {sl17:Array (Option Value)} {oc17 kV17 dc17 pm17 cd17 ct17:Value} {f18:Addr} {od18 an18:Option Addr} {sl18:Array (Option Value)} {oc18 kV18 dc18 pm18 cd18 ct18:Value} {f19:Addr} {od19 an19:Option Addr} {sl19:Array (Option Value)} {oc19 kV19 dc19 pm19 cd19 ct19:Value} {f20:Addr} {od20 an20:Option Addr} {sl20:Array (Option Value)} {oc20 kV20 dc20 pm20 cd20 ct20:Value} {f21:Addr} {od21 an21:Option Addr} {sl21:Array (Option Value)} {oc21 kV21 dc21 pm21 cd21 ct21:Value} {f22:Addr} {od22 an22:Option Addr} {sl22:Array (Option Value)} {oc22 kV22 dc22 pm22 cd22 ct22:Value} {f23:Addr} {od23 an23:Option Addr} {sl23:Array (Option Value)} {oc23 kV23 dc23 pm23 cd23 ct23:Value} {f24:Addr} {od24 an24:Option Addr} {sl24:Array (Option Value)} {oc24 kV24 dc24 pm24 cd24 ct24:Value} {f25:Addr} {od25 an25:Option Addr} {sl25:Array (Option Value)} {oc25 kV25 dc25 pm25 cd25 ct25:Value} {f26:Addr} {od26 an26:Option Addr} {sl26:Array (Option Value)} {oc26 kV26 dc26 pm26 cd26 ct26:Value} {f27:Addr} {od27 an27:Option Addr} {sl27:Array (Option Value)} {oc27 kV27 dc27 pm27 cd27 ct27:Value} {f28:Addr} {od28 an28:Option Addr} {sl28:Array (Option Value)} {oc28 kV28 dc28 pm28 cd28 ct28:Value} {f29:Addr} {od29 an29:Option Addr} {sl29:Array (Option Value)} {oc29 kV29 dc29 pm29 cd29 ct29:Value} {f30:Addr} {od30 an30:Option Addr} {sl30:Array (Option Value)} {oc30 kV30 dc30 pm30 cd30 ct30:Value} {f31:Addr} {od31 an31:Option Addr} {sl31:Array (Option Value)} {oc31 kV31 dc31 pm31 cd31 ct31:Value} {f32:Addr} {od32 an32:Option Addr} {sl32:Array (Option Value)} {oc32 kV32 dc32 pm32 cd32 ct32:Value} {f33:Addr} {od33 an33:Option Addr} {sl33:Array (Option Value)} {oc33 kV33 dc33 pm33 cd33 ct33:Value} {f34:Addr} {od34 an34:Option Addr} {sl34:Array (Option Value)} {oc34 kV34 dc34 pm34 cd34 ct34:Value} {f35:Addr} {od35 an35:Option Addr} {sl35:Array (Option Value)} {oc35 kV35 dc35 pm35 cd35 ct35:Value} {f36:Addr} {od36 an36:Option Addr} {sl36:Array (Option Value)} {oc36 kV36 dc36 pm36 cd36 ct36:Value} {f37:Addr} {od37 an37:Option Addr} {sl37:Array (Option Value)} {oc37 kV37 dc37 pm37 cd37 ct37:Value} {f38:Addr} {od38 an38:Option Addr} {sl38:Array (Option Value)} {oc38 kV38 dc38 pm38 cd38 ct38:Value} {f39:Addr} {od39 an39:Option Addr} {sl39:Array (Option Value)} {oc39 kV39 dc39 pm39 cd39 ct39:Value} {f40:Addr} {od40 an40:Option Addr} {sl40:Array (Option Value)} {oc40 kV40 dc40 pm40 cd40 ct40:Value} {f41:Addr} {od41 an41:Option Addr} {sl41:Array (Option Value)} {oc41 kV41 dc41 pm41 cd41 ct41:Value} {f42:Addr} {od42 an42:Option Addr} {sl42:Array (Option Value)} {oc42 kV42 dc42 pm42 cd42 ct42:Value} {f43:Addr} {od43 an43:Option Addr} {sl43:Array (Option Value)} {oc43 kV43 dc43 pm43 cd43 ct43:Value} {f44:Addr} {od44 an44:Option Addr} {sl44:Array (Option Value)} {oc44 kV44 dc44 pm44 cd44 ct44:Value} {f45:Addr} {od45 an45:Option Addr} {sl45:Array (Option Value)} {oc45 kV45 dc45 pm45 cd45 ct45:Value} {f46:Addr} {od46 an46:Option Addr} {sl46:Array (Option Value)} {oc46 kV46 dc46 pm46 cd46 ct46:Value} {f47:Addr} {od47 an47:Option Addr} {sl47:Array (Option Value)} {oc47 kV47 dc47 pm47 cd47 ct47:Value} {f48:Addr} {od48 an48:Option Addr} {sl48:Array (Option Value)} {oc48 kV48 dc48 pm48 cd48 ct48:Value} {f49:Addr} {od49 an49:Option Addr} {sl49:Array (Option Value)} {oc49 kV49 dc49 pm49 cd49 ct49:Value} {f50:Addr} {od50 an50:Option Addr} {sl50:Array (Option Value)} {oc50 kV50 dc50 pm50 cd50 ct50:Value} {f51:Addr} {od51 an51:Option Addr} {sl51:Array (Option Value)} {oc51 kV51 dc51 pm51 cd51 ct51:Value} {f52:Addr} {od52 an52:Option Addr} {sl52:Array (Option Value)} {oc52 kV52 dc52 pm52 cd52 ct52:Value} {f53:Addr} {od53 an53:Option Addr} {sl53:Array (Option Value)} {oc53 kV53 dc53 pm53 cd53 ct53:Value} {f54:Addr} {od54 an54:Option Addr} {sl54:Array (Option Value)} {oc54 kV54 dc54 pm54 cd54 ct54:Value} {f55:Addr} {od55 an55:Option Addr} {sl55:Array (Option Value)} {oc55 kV55 dc55 pm55 cd55 ct55:Value} {fc1:Addr} {oe1:Option Addr} {sm1:Array (Option Value)} {nc1:Nat} {ta1 tb1 td1:Tok} {ti1:Tok} {ti2:Tok} {ti3:Tok}
  (a1:zI K mainGlobals "is_whole" = some (some (.ref f1))) (l1:K.lookup f1=some ⟨oc1,od1,.func (zN "is_whole" "is_whole" (zl jo) (zh jo) (zH jo) .none kV1 dc1 pm1 an1 cd1 ct1),sl1⟩) (c1:zK K cd1 "is_whole" = true) (k1:zJ K (.ref f1)=true)
  (a2:zI K mainGlobals "core" = some (some (.ref f2))) (l2:K.lookup f2=some ⟨oc2,od2,.func (zN "core" "core" (zl zBp) (zh zBp) (zH zBp) .none kV2 dc2 pm2 an2 cd2 ct2),sl2⟩) (c2:zK K cd2 "core" = true) (k2:zJ K (.ref f2)=true)
  (a3:zI K mainGlobals "shifted" = some (some (.ref f3))) (l3:K.lookup f3=some ⟨oc3,od3,.func (zN "shifted" "shifted" (zl JF) (zh JF) (zH JF) .none kV3 dc3 pm3 an3 cd3 ct3),sl3⟩) (c3:zK K cd3 "shifted" = true) (k3:zJ K (.ref f3)=true)
  (a4:zI K mainGlobals "web_of" = some (some (.ref f4))) (l4:K.lookup f4=some ⟨oc4,od4,.func (zN "web_of" "web_of" (zl J0) (zh J0) (zH J0) .none kV4 dc4 pm4 an4 cd4 ct4),sl4⟩) (c4:zK K cd4 "web_of" = true) (k4:zJ K (.ref f4)=true)
  (a5:zI K mainGlobals "is_between" = some (some (.ref f5))) (l5:K.lookup f5=some ⟨oc5,od5,.func (zN "is_between" "is_between" (zl jE) (zh jE) (zH jE) .none kV5 dc5 pm5 an5 cd5 ct5),sl5⟩) (c5:zK K cd5 "is_between" = true) (k5:zJ K (.ref f5)=true)
  (a6:zI K mainGlobals "is_deed" = some (some (.ref f6))) (l6:K.lookup f6=some ⟨oc6,od6,.func (zN "is_deed" "is_deed" (zl JG) (zh JG) (zH JG) .none kV6 dc6 pm6 an6 cd6 ct6),sl6⟩) (c6:zK K cd6 "is_deed" = true) (k6:zJ K (.ref f6)=true)
  (a7:zI K mainGlobals "is_out" = some (some (.ref f7))) (l7:K.lookup f7=some ⟨oc7,od7,.func (zN "is_out" "is_out" (zl J1) (zh J1) (zH J1) .none kV7 dc7 pm7 an7 cd7 ct7),sl7⟩) (c7:zK K cd7 "is_out" = true) (k7:zJ K (.ref f7)=true)
  (a8:zI K mainGlobals "is_part" = some (some (.ref f8))) (l8:K.lookup f8=some ⟨oc8,od8,.func (zN "is_part" "is_part" (zl JH) (zh JH) (zH JH) .none kV8 dc8 pm8 an8 cd8 ct8),sl8⟩) (c8:zK K cd8 "is_part" = true) (k8:zJ K (.ref f8)=true)
  (a9:zI K mainGlobals "shifted_row" = some (some (.ref f9))) (l9:K.lookup f9=some ⟨oc9,od9,.func (zN "shifted_row" "shifted_row" (zl xu) (zh xu) (zH xu) .none kV9 dc9 pm9 an9 cd9 ct9),sl9⟩) (c9:zK K cd9 "shifted_row" = true) (k9:zJ K (.ref f9)=true)
  (a10:zI K mainGlobals "input_rows" = some (some (.ref f10))) (l10:K.lookup f10=some ⟨oc10,od10,.func (zN "input_rows" "input_rows" (zl jF) (zh jF) (zH jF) .none kV10 dc10 pm10 an10 cd10 ct10),sl10⟩) (c10:zK K cd10 "input_rows" = true) (k10:zJ K (.ref f10)=true)
  (a11:zI K mainGlobals "input_row" = some (some (.ref f11))) (l11:K.lookup f11=some ⟨oc11,od11,.func (zN "input_row" "input_row" (zl jX) (zh jX) (zH jX) .none kV11 dc11 pm11 an11 cd11 ct11),sl11⟩) (c11:zK K cd11 "input_row" = true) (k11:zJ K (.ref f11)=true)
  (a12:zI K mainGlobals "deed_row" = some (some (.ref f12))) (l12:K.lookup f12=some ⟨oc12,od12,.func (zN "deed_row" "deed_row" (zl jp) (zh jp) (zH jp) .none kV12 dc12 pm12 an12 cd12 ct12),sl12⟩) (c12:zK K cd12 "deed_row" = true) (k12:zJ K (.ref f12)=true)
  (a13:zI K mainGlobals "second_sign" = some (some (.ref f13))) (l13:K.lookup f13=some ⟨oc13,od13,.func (zN "second_sign" "second_sign" (zl xw) (zh xw) (zH xw) .none kV13 dc13 pm13 an13 cd13 ct13),sl13⟩) (c13:zK K cd13 "second_sign" = true) (k13:zJ K (.ref f13)=true)
  (a14:zI K mainGlobals "numbers" = some (some (.ref f14))) (l14:K.lookup f14=some ⟨oc14,od14,.func (zN "numbers" "numbers" (zl JI) (zh JI) (zH JI) .none kV14 dc14 pm14 an14 cd14 ct14),sl14⟩) (c14:zK K cd14 "numbers" = true) (k14:zJ K (.ref f14)=true)
  (a15:zI K mainGlobals "out_numbers" = some (some (.ref f15))) (l15:K.lookup f15=some ⟨oc15,od15,.func (zN "out_numbers" "out_numbers" (zl xx) (zh xx) (zH xx) .none kV15 dc15 pm15 an15 cd15 ct15),sl15⟩) (c15:zK K cd15 "out_numbers" = true) (k15:zJ K (.ref f15)=true)
  (a16:zI K mainGlobals "out_row" = some (some (.ref f16))) (l16:K.lookup f16=some ⟨oc16,od16,.func (zN "out_row" "out_row" (zl JJ) (zh JJ) (zH JJ) .none kV16 dc16 pm16 an16 cd16 ct16),sl16⟩) (c16:zK K cd16 "out_row" = true) (k16:zJ K (.ref f16)=true)
  (a17:zI K mainGlobals "deed_arrows" = some (some (.ref f17))) (l17:K.lookup f17=some ⟨oc17,od17,.func (zN "deed_arrows" "deed_arrows" (zl xy) (zh xy) (zH xy) .none kV17 dc17 pm17 an17 cd17 ct17),sl17⟩) (c17:zK K cd17 "deed_arrows" = true) (k17:zJ K (.ref f17)=true)
  (a18:zI K mainGlobals "thing_count" = some (some (.ref f18))) (l18:K.lookup f18=some ⟨oc18,od18,.func (zN "thing_count" "thing_count" (zl xz) (zh xz) (zH xz) .none kV18 dc18 pm18 an18 cd18 ct18),sl18⟩) (c18:zK K cd18 "thing_count" = true) (k18:zJ K (.ref f18)=true)
  (a19:zI K mainGlobals "parts_of" = some (some (.ref f19))) (l19:K.lookup f19=some ⟨oc19,od19,.func (zN "parts_of" "parts_of" (zl jq) (zh jq) (zH jq) .none kV19 dc19 pm19 an19 cd19 ct19),sl19⟩) (c19:zK K cd19 "parts_of" = true) (k19:zJ K (.ref f19)=true)
  (a20:zI K mainGlobals "moved" = some (some (.ref f20))) (l20:K.lookup f20=some ⟨oc20,od20,.func (zN "moved" "moved" (zl zAr) (zh zAr) (zH zAr) .none kV20 dc20 pm20 an20 cd20 ct20),sl20⟩) (c20:zK K cd20 "moved" = true) (k20:zJ K (.ref f20)=true)
  (a21:zI K mainGlobals "deed_of" = some (some (.ref f21))) (l21:K.lookup f21=some ⟨oc21,od21,.func (zN "deed_of" "deed_of" (zl JK) (zh JK) (zH JK) .none kV21 dc21 pm21 an21 cd21 ct21),sl21⟩) (c21:zK K cd21 "deed_of" = true) (k21:zJ K (.ref f21)=true)
  (a22:zI K mainGlobals "sign_of" = some (some (.ref f22))) (l22:K.lookup f22=some ⟨oc22,od22,.func (zN "sign_of" "sign_of" (zl JL) (zh JL) (zH JL) .none kV22 dc22 pm22 an22 cd22 ct22),sl22⟩) (c22:zK K cd22 "sign_of" = true) (k22:zJ K (.ref f22)=true)
  (a23:zI K mainGlobals "out_for" = some (some (.ref f23))) (l23:K.lookup f23=some ⟨oc23,od23,.func (zN "out_for" "out_for" (zl JM) (zh JM) (zH JM) .none kV23 dc23 pm23 an23 cd23 ct23),sl23⟩) (c23:zK K cd23 "out_for" = true) (k23:zJ K (.ref f23)=true)
  (a24:zI K mainGlobals "signs" = some (some (.ref f24))) (l24:K.lookup f24=some ⟨oc24,od24,.func (zN "signs" "signs" (zl zAs) (zh zAs) (zH zAs) .none kV24 dc24 pm24 an24 cd24 ct24),sl24⟩) (c24:zK K cd24 "signs" = true) (k24:zJ K (.ref f24)=true)
  (a25:zI K mainGlobals "first_sign" = some (some (.ref f25))) (l25:K.lookup f25=some ⟨oc25,od25,.func (zN "first_sign" "first_sign" (zl jG) (zh jG) (zH jG) .none kV25 dc25 pm25 an25 cd25 ct25),sl25⟩) (c25:zK K cd25 "first_sign" = true) (k25:zJ K (.ref f25)=true)
  (a26:zI K mainGlobals "least" = some (some (.ref f26))) (l26:K.lookup f26=some ⟨oc26,od26,.func (zN "least" "least" (zl zAt) (zh zAt) (zH zAt) .none kV26 dc26 pm26 an26 cd26 ct26),sl26⟩) (c26:zK K cd26 "least" = true) (k26:zJ K (.ref f26)=true)
  (a27:zI K mainGlobals "by_signs" = some (some (.ref f27))) (l27:K.lookup f27=some ⟨oc27,od27,.func (zN "by_signs" "by_signs" (zl jr) (zh jr) (zH jr) .none kV27 dc27 pm27 an27 cd27 ct27),sl27⟩) (c27:zK K cd27 "by_signs" = true) (k27:zJ K (.ref f27)=true)
  (a28:zI K mainGlobals "deep" = some (some (.ref f28))) (l28:K.lookup f28=some ⟨oc28,od28,.func (zN "deep" "deep" (zl zBq) (zh zBq) (zH zBq) .none kV28 dc28 pm28 an28 cd28 ct28),sl28⟩) (c28:zK K cd28 "deep" = true) (k28:zJ K (.ref f28)=true)
  (a29:zI K mainGlobals "least_depth" = some (some (.ref f29))) (l29:K.lookup f29=some ⟨oc29,od29,.func (zN "least_depth" "least_depth" (zl x2) (zh x2) (zH x2) .none kV29 dc29 pm29 an29 cd29 ct29),sl29⟩) (c29:zK K cd29 "least_depth" = true) (k29:zJ K (.ref f29)=true)
  (a30:zI K mainGlobals "halvings_to_one" = some (some (.ref f30))) (l30:K.lookup f30=some ⟨oc30,od30,.func (zN "halvings_to_one" "halvings_to_one" (zl y7) (zh y7) (zH y7) .none kV30 dc30 pm30 an30 cd30 ct30),sl30⟩) (c30:zK K cd30 "halvings_to_one" = true) (k30:zJ K (.ref f30)=true)
  (a31:zI K mainGlobals "unlike_cores" = some (some (.ref f31))) (l31:K.lookup f31=some ⟨oc31,od31,.func (zN "unlike_cores" "unlike_cores" (zl xi) (zh xi) (zH xi) .none kV31 dc31 pm31 an31 cd31 ct31),sl31⟩) (c31:zK K cd31 "unlike_cores" = true) (k31:zJ K (.ref f31)=true)
  (a32:zI K mainGlobals "add_chain" = some (some (.ref f32))) (l32:K.lookup f32=some ⟨oc32,od32,.func (zN "add_chain" "add_chain" (zl jY) (zh jY) (zH jY) .none kV32 dc32 pm32 an32 cd32 ct32),sl32⟩) (c32:zK K cd32 "add_chain" = true) (k32:zJ K (.ref f32)=true)
  (a33:zI K mainGlobals "add_tree" = some (some (.ref f33))) (l33:K.lookup f33=some ⟨oc33,od33,.func (zN "add_tree" "add_tree" (zl js) (zh js) (zH js) .none kV33 dc33 pm33 an33 cd33 ct33),sl33⟩) (c33:zK K cd33 "add_tree" = true) (k33:zJ K (.ref f33)=true)
  (a34:zI K mainGlobals "paired" = some (some (.ref f34))) (l34:K.lookup f34=some ⟨oc34,od34,.func (zN "paired" "paired" (zl J2) (zh J2) (zH J2) .none kV34 dc34 pm34 an34 cd34 ct34),sl34⟩) (c34:zK K cd34 "paired" = true) (k34:zJ K (.ref f34)=true)
  (a35:zI K mainGlobals "run" = some (some (.ref f35))) (l35:K.lookup f35=some ⟨oc35,od35,.func (zN "run" "run" (zl s_run) (zh s_run) (zH s_run) .none kV35 dc35 pm35 an35 cd35 ct35),sl35⟩) (c35:zK K cd35 "run" = true) (k35:zJ K (.ref f35)=true)
  (a36:zI K mainGlobals "run_outs" = some (some (.ref f36))) (l36:K.lookup f36=some ⟨oc36,od36,.func (zN "run_outs" "run_outs" (zl jt) (zh jt) (zH jt) .none kV36 dc36 pm36 an36 cd36 ct36),sl36⟩) (c36:zK K cd36 "run_outs" = true) (k36:zJ K (.ref f36)=true)
  (a37:zI K mainGlobals "depths" = some (some (.ref f37))) (l37:K.lookup f37=some ⟨oc37,od37,.func (zN "depths" "depths" (zl J3) (zh J3) (zH J3) .none kV37 dc37 pm37 an37 cd37 ct37),sl37⟩) (c37:zK K cd37 "depths" = true) (k37:zJ K (.ref f37)=true)
  (a38:zI K mainGlobals "depth" = some (some (.ref f38))) (l38:K.lookup f38=some ⟨oc38,od38,.func (zN "depth" "depth" (zl zAu) (zh zAu) (zH zAu) .none kV38 dc38 pm38 an38 cd38 ct38),sl38⟩) (c38:zK K cd38 "depth" = true) (k38:zJ K (.ref f38)=true)
  (a39:zI K mainGlobals "used" = some (some (.ref f39))) (l39:K.lookup f39=some ⟨oc39,od39,.func (zN "used" "used" (zl zBr) (zh zBr) (zH zBr) .none kV39 dc39 pm39 an39 cd39 ct39),sl39⟩) (c39:zK K cd39 "used" = true) (k39:zJ K (.ref f39)=true)
  (a40:zI K mainGlobals "pruned" = some (some (.ref f40))) (l40:K.lookup f40=some ⟨oc40,od40,.func (zN "pruned" "pruned" (zl J4) (zh J4) (zH J4) .none kV40 dc40 pm40 an40 cd40 ct40),sl40⟩) (c40:zK K cd40 "pruned" = true) (k40:zJ K (.ref f40)=true)
  (a41:zI K mainGlobals "form_of" = some (some (.ref f41))) (l41:K.lookup f41=some ⟨oc41,od41,.func (zN "form_of" "form_of" (zl JN) (zh JN) (zH JN) .none kV41 dc41 pm41 an41 cd41 ct41),sl41⟩) (c41:zK K cd41 "form_of" = true) (k41:zJ K (.ref f41)=true)
  (a42:zI K mainGlobals "bare" = some (some (.ref f42))) (l42:K.lookup f42=some ⟨oc42,od42,.func (zN "bare" "bare" (zl zBs) (zh zBs) (zH zBs) .none kV42 dc42 pm42 an42 cd42 ct42),sl42⟩) (c42:zK K cd42 "bare" = true) (k42:zJ K (.ref f42)=true)
  (a43:zI K mainGlobals "merged" = some (some (.ref f43))) (l43:K.lookup f43=some ⟨oc43,od43,.func (zN "merged" "merged" (zl J5) (zh J5) (zH J5) .none kV43 dc43 pm43 an43 cd43 ct43),sl43⟩) (c43:zK K cd43 "merged" = true) (k43:zJ K (.ref f43)=true)
  (a44:zI K mainGlobals "part_by" = some (some (.ref f44))) (l44:K.lookup f44=some ⟨oc44,od44,.func (zN "part_by" "part_by" (zl JO) (zh JO) (zH JO) .none kV44 dc44 pm44 an44 cd44 ct44),sl44⟩) (c44:zK K cd44 "part_by" = true) (k44:zJ K (.ref f44)=true)
  (a45:zI K mainGlobals "shared" = some (some (.ref f45))) (l45:K.lookup f45=some ⟨oc45,od45,.func (zN "shared" "shared" (zl J6) (zh J6) (zH J6) .none kV45 dc45 pm45 an45 cd45 ct45),sl45⟩) (c45:zK K cd45 "shared" = true) (k45:zJ K (.ref f45)=true)
  (a46:zI K mainGlobals "_law_pen" = some (some (.ref f46))) (l46:K.lookup f46=some ⟨oc46,od46,.func (zN "_law_pen" "_law_pen" (zl zAv) (zh zAv) (zH zAv) .none kV46 dc46 pm46 an46 cd46 ct46),sl46⟩) (c46:zK K cd46 "_law_pen" = true) (k46:zJ K (.ref f46)=true)
  (a47:zI K mainGlobals "_law_draw" = some (some (.ref f47))) (l47:K.lookup f47=some ⟨oc47,od47,.func (zN "_law_draw" "_law_draw" (zl J7) (zh J7) (zH J7) .none kV47 dc47 pm47 an47 cd47 ct47),sl47⟩) (c47:zK K cd47 "_law_draw" = true) (k47:zJ K (.ref f47)=true)
  (a48:zI K mainGlobals "_law_close" = some (some (.ref f48))) (l48:K.lookup f48=some ⟨oc48,od48,.func (zN "_law_close" "_law_close" (zl JP) (zh JP) (zH JP) .none kV48 dc48 pm48 an48 cd48 ct48),sl48⟩) (c48:zK K cd48 "_law_close" = true) (k48:zJ K (.ref f48)=true)
  (a49:zI K mainGlobals "_law_few" = some (some (.ref f49))) (l49:K.lookup f49=some ⟨oc49,od49,.func (zN "_law_few" "_law_few" (zl zAw) (zh zAw) (zH zAw) .none kV49 dc49 pm49 an49 cd49 ct49),sl49⟩) (c49:zK K cd49 "_law_few" = true) (k49:zJ K (.ref f49)=true)
  (a50:zI K mainGlobals "_law_moved" = some (some (.ref f50))) (l50:K.lookup f50=some ⟨oc50,od50,.func (zN "_law_moved" "_law_moved" (zl JQ) (zh JQ) (zH JQ) .none kV50 dc50 pm50 an50 cd50 ct50),sl50⟩) (c50:zK K cd50 "_law_moved" = true) (k50:zJ K (.ref f50)=true)
  (a51:zI K mainGlobals "_law_shift" = some (some (.ref f51))) (l51:K.lookup f51=some ⟨oc51,od51,.func (zN "_law_shift" "_law_shift" (zl JR) (zh JR) (zH JR) .none kV51 dc51 pm51 an51 cd51 ct51),sl51⟩) (c51:zK K cd51 "_law_shift" = true) (k51:zJ K (.ref f51)=true)
  (a52:zI K mainGlobals "_law_web" = some (some (.ref f52))) (l52:K.lookup f52=some ⟨oc52,od52,.func (zN "_law_web" "_law_web" (zl zAx) (zh zAx) (zH zAx) .none kV52 dc52 pm52 an52 cd52 ct52),sl52⟩) (c52:zK K cd52 "_law_web" = true) (k52:zJ K (.ref f52)=true)
  (a53:zI K mainGlobals "_law_bounded" = some (some (.ref f53))) (l53:K.lookup f53=some ⟨oc53,od53,.func (zN "_law_bounded" "_law_bounded" (zl jZ) (zh jZ) (zH jZ) .none kV53 dc53 pm53 an53 cd53 ct53),sl53⟩) (c53:zK K cd53 "_law_bounded" = true) (k53:zJ K (.ref f53)=true)
  (a54:zI K mainGlobals "_law_row_right" = some (some (.ref f54))) (l54:K.lookup f54=some ⟨oc54,od54,.func (zN "_law_row_right" "_law_row_right" (zl x4) (zh x4) (zH x4) .none kV54 dc54 pm54 an54 cd54 ct54),sl54⟩) (c54:zK K cd54 "_law_row_right" = true) (k54:zJ K (.ref f54)=true)
  (a55:zI K mainGlobals "law" = some (some (.ref f55))) (l55:K.lookup f55=some ⟨oc55,od55,.func (zN "law" "law" (zl zA2) (zh zA2) (zH zA2) .none kV55 dc55 pm55 an55 cd55 ct55),sl55⟩) (c55:zK K cd55 "law" = true) (k55:zJ K (.ref f55)=true)
  (ac1:zI K mainGlobals "NO_OUT" = some (some (.ref fc1))) (lc1:K.lookup fc1=some ⟨.type "tuple",oe1,.seq #[.int 0 ta1,.int 0 tb1,.int 0 td1] nc1,sm1⟩)
  (ai1:zI K mainGlobals "MOST_INS" = some (some (.int 12 ti1)))
  (ai2:zI K mainGlobals "MOST_OUTS" = some (some (.int 12 ti2)))
  (ai3:zI K mainGlobals "FURTHEST" = some (some (.int 4000 ti3)))
  (z1:zI K mainGlobals "abs" = some none)
  (z2:zI K mainGlobals "all" = some none)
  (z3:zI K mainGlobals "bool" = some none)
  (z4:zI K mainGlobals "enumerate" = some none)
  (z5:zI K mainGlobals "int" = some none)
  (z6:zI K mainGlobals "isinstance" = some none)
  (z7:zI K mainGlobals "len" = some none)
  (z8:zI K mainGlobals "list" = some none)
  (z9:zI K mainGlobals "max" = some none)
  (z10:zI K mainGlobals "min" = some none)
  (z11:zI K mainGlobals "range" = some none)
  (z12:zI K mainGlobals "reversed" = some none)
  (z13:zI K mainGlobals "sum" = some none)
  (z14:zI K mainGlobals "tuple" = some none)
  (z15:zI K mainGlobals "zip" = some none)
  : ∃ fd:FuncData,(∀ (s:Shared) (v:Value),BindsTo s fd ⟨[v],[]⟩ [("_law_script",v)]) /\ ∀ base:Heap,K.In base -> base.Ns mainGlobals mg -> FnOk l.prog w K mg base CX0 20 fa fd ["_law_script"] (spLaw K):=by
 have e:=hfa.symm.trans (zL X G a55)
 cases e
 have F1:=yD (st:=jo) l1 c1 k1
 have b1:=F1.binds (ps:=["thing"]) fun _ _ _ _ _ _ us hl=>by obtain ⟨a0_,rfl⟩:=ln1 (us:=us) hl; rfl
 have F2:=yD (st:=zBp) l2 c2 k2
 have b2:=F2.binds (ps:=["number"]) fun _ _ _ _ _ _ us hl=>by obtain ⟨a0_,rfl⟩:=ln1 (us:=us) hl; rfl
 have F3:=yD (st:=JF) l3 c3 k3
 have b3:=F3.binds (ps:=["number","shift"]) fun _ _ _ _ _ _ us hl=>by obtain ⟨a0_,a1_,rfl⟩:=ln2 (us:=us) hl; rfl
 have F4:=yD (st:=J0) l4 c4 k4
 have b4:=F4.binds (ps:=["ins","deeds","outs"]) fun _ _ _ _ _ _ us hl=>by obtain ⟨a0_,a1_,a2_,rfl⟩:=ln3 (us:=us) hl; rfl
 have F5:=yD (st:=jE) l5 c5 k5
 have b5:=F5.binds (ps:=["thing","low","high"]) fun _ _ _ _ _ _ us hl=>by obtain ⟨a0_,a1_,a2_,rfl⟩:=ln3 (us:=us) hl; rfl
 have F6:=yD (st:=JG) l6 c6 k6
 have b6:=F6.binds (ps:=["deed","rows"]) fun _ _ _ _ _ _ us hl=>by obtain ⟨a0_,a1_,rfl⟩:=ln2 (us:=us) hl; rfl
 have F7:=yD (st:=J1) l7 c7 k7
 have b7:=F7.binds (ps:=["out","rows"]) fun _ _ _ _ _ _ us hl=>by obtain ⟨a0_,a1_,rfl⟩:=ln2 (us:=us) hl; rfl
 have F8:=yD (st:=JH) l8 c8 k8
 have b8:=F8.binds (ps:=["thing","shift","rows"]) fun _ _ _ _ _ _ us hl=>by obtain ⟨a0_,a1_,a2_,rfl⟩:=ln3 (us:=us) hl; rfl
 have F9:=yD (st:=xu) l9 c9 k9
 have b9:=F9.binds (ps:=["row","shift"]) fun _ _ _ _ _ _ us hl=>by obtain ⟨a0_,a1_,rfl⟩:=ln2 (us:=us) hl; rfl
 have F10:=yD (st:=jF) l10 c10 k10
 have b10:=F10.binds (ps:=["ins"]) fun _ _ _ _ _ _ us hl=>by obtain ⟨a0_,rfl⟩:=ln1 (us:=us) hl; rfl
 have F11:=yD (st:=jX) l11 c11 k11
 have b11:=F11.binds (ps:=["ins","thing"]) fun _ _ _ _ _ _ us hl=>by obtain ⟨a0_,a1_,rfl⟩:=ln2 (us:=us) hl; rfl
 have F12:=yD (st:=jp) l12 c12 k12
 have b12:=F12.binds (ps:=["deed","rows"]) fun _ _ _ _ _ _ us hl=>by obtain ⟨a0_,a1_,rfl⟩:=ln2 (us:=us) hl; rfl
 have F13:=yD (st:=xw) l13 c13 k13
 have b13:=F13.binds (ps:=["deed"]) fun _ _ _ _ _ _ us hl=>by obtain ⟨a0_,rfl⟩:=ln1 (us:=us) hl; rfl
 have F14:=yD (st:=JI) l14 c14 k14
 have b14:=F14.binds (ps:=["web"]) fun _ _ _ _ _ _ us hl=>by obtain ⟨a0_,rfl⟩:=ln1 (us:=us) hl; rfl
 have F15:=yD (st:=xx) l15 c15 k15
 have b15:=F15.binds (ps:=["web"]) fun _ _ _ _ _ _ us hl=>by obtain ⟨a0_,rfl⟩:=ln1 (us:=us) hl; rfl
 have F16:=yD (st:=JJ) l16 c16 k16
 have b16:=F16.binds (ps:=["out","rows"]) fun _ _ _ _ _ _ us hl=>by obtain ⟨a0_,a1_,rfl⟩:=ln2 (us:=us) hl; rfl
 have F17:=yD (st:=xy) l17 c17 k17
 have b17:=F17.binds (ps:=["web"]) fun _ _ _ _ _ _ us hl=>by obtain ⟨a0_,rfl⟩:=ln1 (us:=us) hl; rfl
 have F18:=yD (st:=xz) l18 c18 k18
 have b18:=F18.binds (ps:=["web"]) fun _ _ _ _ _ _ us hl=>by obtain ⟨a0_,rfl⟩:=ln1 (us:=us) hl; rfl
 have F19:=yD (st:=jq) l19 c19 k19
 have b19:=F19.binds (ps:=["deed"]) fun _ _ _ _ _ _ us hl=>by obtain ⟨a0_,rfl⟩:=ln1 (us:=us) hl; rfl
 have F20:=yD (st:=zAr) l20 c20 k20
 have b20:=F20.binds (ps:=["part","shift","sign"]) fun _ _ _ _ _ _ us hl=>by obtain ⟨a0_,a1_,a2_,rfl⟩:=ln3 (us:=us) hl; rfl
 have F21:=yD (st:=JK) l21 c21 k21
 have b21:=F21.binds (ps:=["one","other"]) fun _ _ _ _ _ _ us hl=>by obtain ⟨a0_,a1_,rfl⟩:=ln2 (us:=us) hl; rfl
 have F22:=yD (st:=JL) l22 c22 k22
 have b22:=F22.binds (ps:=["one","other"]) fun _ _ _ _ _ _ us hl=>by obtain ⟨a0_,a1_,rfl⟩:=ln2 (us:=us) hl; rfl
 have F23:=yD (st:=JM) l23 c23 k23
 have b23:=F23.binds (ps:=["number","parts"]) fun _ _ _ _ _ _ us hl=>by obtain ⟨a0_,a1_,rfl⟩:=ln2 (us:=us) hl; rfl
 have F24:=yD (st:=zAs) l24 c24 k24
 have b24:=F24.binds (ps:=["number"]) fun _ _ _ _ _ _ us hl=>by obtain ⟨a0_,rfl⟩:=ln1 (us:=us) hl; rfl
 have F25:=yD (st:=jG) l25 c25 k25
 have b25:=F25.binds (ps:=["number"]) fun _ _ _ _ _ _ us hl=>by obtain ⟨a0_,rfl⟩:=ln1 (us:=us) hl; rfl
 have F26:=yD (st:=zAt) l26 c26 k26
 have b26:=F26.binds (ps:=["number"]) fun _ _ _ _ _ _ us hl=>by obtain ⟨a0_,rfl⟩:=ln1 (us:=us) hl; rfl
 have F27:=yD (st:=jr) l27 c27 k27
 have b27:=F27.binds (ps:=["numbers"]) fun _ _ _ _ _ _ us hl=>by obtain ⟨a0_,rfl⟩:=ln1 (us:=us) hl; rfl
 have F28:=yD (st:=zBq) l28 c28 k28
 have b28:=F28.binds (ps:=["numbers"]) fun _ _ _ _ _ _ us hl=>by obtain ⟨a0_,rfl⟩:=ln1 (us:=us) hl; rfl
 have F29:=yD (st:=x2) l29 c29 k29
 have b29:=F29.binds (ps:=["numbers"]) fun _ _ _ _ _ _ us hl=>by obtain ⟨a0_,rfl⟩:=ln1 (us:=us) hl; rfl
 have F30:=yD (st:=y7) l30 c30 k30
 have b30:=F30.binds (ps:=["count"]) fun _ _ _ _ _ _ us hl=>by obtain ⟨a0_,rfl⟩:=ln1 (us:=us) hl; rfl
 have F31:=yD (st:=xi) l31 c31 k31
 have b31:=F31.binds (ps:=["numbers"]) fun _ _ _ _ _ _ us hl=>by obtain ⟨a0_,rfl⟩:=ln1 (us:=us) hl; rfl
 have F32:=yD (st:=jY) l32 c32 k32
 have b32:=F32.binds (ps:=["deeds","odd"]) fun _ _ _ _ _ _ us hl=>by obtain ⟨a0_,a1_,rfl⟩:=ln2 (us:=us) hl; rfl
 have F33:=yD (st:=js) l33 c33 k33
 have b33:=F33.binds (ps:=["deeds","odd"]) fun _ _ _ _ _ _ us hl=>by obtain ⟨a0_,a1_,rfl⟩:=ln2 (us:=us) hl; rfl
 have F34:=yD (st:=J2) l34 c34 k34
 have b34:=F34.binds (ps:=["deeds","parts"]) fun _ _ _ _ _ _ us hl=>by obtain ⟨a0_,a1_,rfl⟩:=ln2 (us:=us) hl; rfl
 have F35:=yD (st:=s_run) l35 c35 k35
 have b35:=F35.binds (ps:=["web","values"]) fun _ _ _ _ _ _ us hl=>by obtain ⟨a0_,a1_,rfl⟩:=ln2 (us:=us) hl; rfl
 have F36:=yD (st:=jt) l36 c36 k36
 have b36:=F36.binds (ps:=["web","values"]) fun _ _ _ _ _ _ us hl=>by obtain ⟨a0_,a1_,rfl⟩:=ln2 (us:=us) hl; rfl
 have F37:=yD (st:=J3) l37 c37 k37
 have b37:=F37.binds (ps:=["web"]) fun _ _ _ _ _ _ us hl=>by obtain ⟨a0_,rfl⟩:=ln1 (us:=us) hl; rfl
 have F38:=yD (st:=zAu) l38 c38 k38
 have b38:=F38.binds (ps:=["web"]) fun _ _ _ _ _ _ us hl=>by obtain ⟨a0_,rfl⟩:=ln1 (us:=us) hl; rfl
 have F39:=yD (st:=zBr) l39 c39 k39
 have b39:=F39.binds (ps:=["web"]) fun _ _ _ _ _ _ us hl=>by obtain ⟨a0_,rfl⟩:=ln1 (us:=us) hl; rfl
 have F40:=yD (st:=J4) l40 c40 k40
 have b40:=F40.binds (ps:=["web"]) fun _ _ _ _ _ _ us hl=>by obtain ⟨a0_,rfl⟩:=ln1 (us:=us) hl; rfl
 have F41:=yD (st:=JN) l41 c41 k41
 have b41:=F41.binds (ps:=["row"]) fun _ _ _ _ _ _ us hl=>by obtain ⟨a0_,rfl⟩:=ln1 (us:=us) hl; rfl
 have F42:=yD (st:=zBs) l42 c42 k42
 have b42:=F42.binds (ps:=["web"]) fun _ _ _ _ _ _ us hl=>by obtain ⟨a0_,rfl⟩:=ln1 (us:=us) hl; rfl
 have F43:=yD (st:=J5) l43 c43 k43
 have b43:=F43.binds (ps:=["web"]) fun _ _ _ _ _ _ us hl=>by obtain ⟨a0_,rfl⟩:=ln1 (us:=us) hl; rfl
 have F44:=yD (st:=JO) l44 c44 k44
 have b44:=F44.binds (ps:=["kept","forms","part"]) fun _ _ _ _ _ _ us hl=>by obtain ⟨a0_,a1_,a2_,rfl⟩:=ln3 (us:=us) hl; rfl
 have F45:=yD (st:=J6) l45 c45 k45
 have b45:=F45.binds (ps:=["numbers"]) fun _ _ _ _ _ _ us hl=>by obtain ⟨a0_,rfl⟩:=ln1 (us:=us) hl; rfl
 have F46:=yD (st:=zAv) l46 c46 k46
 have b46:=F46.binds (ps:=["_law_script"]) fun _ _ _ _ _ _ us hl=>by obtain ⟨a0_,rfl⟩:=ln1 (us:=us) hl; rfl
 have F47:=yD (st:=J7) l47 c47 k47
 have b47:=F47.binds (ps:=["_law_pen_here","_law_many"]) fun _ _ _ _ _ _ us hl=>by obtain ⟨a0_,a1_,rfl⟩:=ln2 (us:=us) hl; rfl
 have F48:=yD (st:=JP) l48 c48 k48
 have b48:=F48.binds (ps:=["_law_pen_here","_law_found"]) fun _ _ _ _ _ _ us hl=>by obtain ⟨a0_,a1_,rfl⟩:=ln2 (us:=us) hl; rfl
 have F49:=yD (st:=zAw) l49 c49 k49
 have b49:=F49.binds (ps:=["_law_pen_here"]) fun _ _ _ _ _ _ us hl=>by obtain ⟨a0_,rfl⟩:=ln1 (us:=us) hl; rfl
 have F50:=yD (st:=JQ) l50 c50 k50
 have b50:=F50.binds (ps:=["_law_row","_law_shift_here"]) fun _ _ _ _ _ _ us hl=>by obtain ⟨a0_,a1_,rfl⟩:=ln2 (us:=us) hl; rfl
 have F51:=yD (st:=JR) l51 c51 k51
 have b51:=F51.binds (ps:=["_law_pen_here","_law_row"]) fun _ _ _ _ _ _ us hl=>by obtain ⟨a0_,a1_,rfl⟩:=ln2 (us:=us) hl; rfl
 have F52:=yD (st:=zAx) l52 c52 k52
 have b52:=F52.binds (ps:=["_law_pen_here"]) fun _ _ _ _ _ _ us hl=>by obtain ⟨a0_,rfl⟩:=ln1 (us:=us) hl; rfl
 have F53:=yD (st:=jZ) l53 c53 k53
 have b53:=F53.binds (ps:=["_law_web_here"]) fun _ _ _ _ _ _ us hl=>by obtain ⟨a0_,rfl⟩:=ln1 (us:=us) hl; rfl
 have F54:=yD (st:=x4) l54 c54 k54
 have b54:=F54.binds (ps:=["_law_web_here","_law_some","_law_x"]) fun _ _ _ _ _ _ us hl=>by obtain ⟨a0_,a1_,a2_,rfl⟩:=ln3 (us:=us) hl; rfl
 have F55:=yD (st:=zA2) l55 c55 k55
 have b55:=F55.binds (ps:=["_law_script"]) fun _ _ _ _ _ _ us hl=>by obtain ⟨a0_,rfl⟩:=ln1 (us:=us) hl; rfl
 have T:Txt K mg:=⟨⟨yI X G z1,yI X G z2,yI X G z3,yI X G z4,yI X G z5,yI X G z6,yI X G z7,yI X G z8,yI X G z9,yI X G z10,yI X G z11,yI X G z12,yI X G z13,yI X G z14,yI X G z15⟩,⟨_,_,F1,zL X G a1,b1⟩,⟨_,_,F2,zL X G a2,b2⟩,⟨_,_,F3,zL X G a3,b3⟩,⟨_,_,F4,zL X G a4,b4⟩,⟨_,_,F5,zL X G a5,b5⟩,⟨_,_,F6,zL X G a6,b6⟩,⟨_,_,F7,zL X G a7,b7⟩,⟨_,_,F8,zL X G a8,b8⟩,⟨_,_,F9,zL X G a9,b9⟩,⟨_,_,F10,zL X G a10,b10⟩,⟨_,_,F11,zL X G a11,b11⟩,⟨_,_,F12,zL X G a12,b12⟩,⟨_,_,F13,zL X G a13,b13⟩,⟨_,_,F14,zL X G a14,b14⟩,⟨_,_,F15,zL X G a15,b15⟩,⟨_,_,F16,zL X G a16,b16⟩,⟨_,_,F17,zL X G a17,b17⟩,⟨_,_,F18,zL X G a18,b18⟩,⟨_,_,F19,zL X G a19,b19⟩,⟨_,_,F20,zL X G a20,b20⟩,⟨_,_,F21,zL X G a21,b21⟩,⟨_,_,F22,zL X G a22,b22⟩,⟨_,_,F23,zL X G a23,b23⟩,⟨_,_,F24,zL X G a24,b24⟩,⟨_,_,F25,zL X G a25,b25⟩,⟨_,_,F26,zL X G a26,b26⟩,⟨_,_,F27,zL X G a27,b27⟩,⟨_,_,F28,zL X G a28,b28⟩,⟨_,_,F29,zL X G a29,b29⟩,⟨_,_,F30,zL X G a30,b30⟩,⟨_,_,F31,zL X G a31,b31⟩,⟨_,_,F32,zL X G a32,b32⟩,⟨_,_,F33,zL X G a33,b33⟩,⟨_,_,F34,zL X G a34,b34⟩,⟨_,_,F35,zL X G a35,b35⟩,⟨_,_,F36,zL X G a36,b36⟩,⟨_,_,F37,zL X G a37,b37⟩,⟨_,_,F38,zL X G a38,b38⟩,⟨_,_,F39,zL X G a39,b39⟩,⟨_,_,F40,zL X G a40,b40⟩,⟨_,_,F41,zL X G a41,b41⟩,⟨_,_,F42,zL X G a42,b42⟩,⟨_,_,F43,zL X G a43,b43⟩,⟨_,_,F44,zL X G a44,b44⟩,⟨_,_,F45,zL X G a45,b45⟩,⟨_,_,F46,zL X G a46,b46⟩,⟨_,_,F47,zL X G a47,b47⟩,⟨_,_,F48,zL X G a48,b48⟩,⟨_,_,F49,zL X G a49,b49⟩,⟨_,_,F50,zL X G a50,b50⟩,⟨_,_,F51,zL X G a51,b51⟩,⟨_,_,F52,zL X G a52,b52⟩,⟨_,_,F53,zL X G a53,b53⟩,⟨_,_,F54,zL X G a54,b54⟩,⟨_,_,F55,zL X G a55,b55⟩,⟨fc1,zL X G ac1,_,_,_,lc1,rfl,rfl,yG (by show 3 <= 1000; decide),.cons ⟨_,rfl⟩ (.cons ⟨_,rfl⟩ (.cons ⟨_,rfl⟩ .nil))⟩,⟨ti1,zL X G ai1⟩,⟨ti2,zL X G ai2⟩,⟨ti3,zL X G ai3⟩⟩
 refine ⟨zN "law" "law" (zl zA2) (zh zA2) (zH zA2) .none kV55 dc55 pm55 an55 cd55 ct55,fun s v=>.of_eq rfl,fun base _ _=>?_⟩
 exact ok_law T F55
theorem walk {l:PySem.W.OpenLaw}{q:Program}{loose:List Str}{XP:(Str -> Option Value) -> Heap -> Prop}{YP:World -> Heap -> Prop}{d:DefRec}{K:Params -> zA}(hn:l.most=some 63)(hdf:d.params.defaults=[])
  (hY:∀ (w:World) (h:Heap),YP w h -> (K w.params).In h)
  (F:∀ (w:World) (mg:Str -> Option Value) (fa:Addr) (h:Heap),(K w.params).In h -> h.Ns mainGlobals mg -> mg d.name=some (.ref fa) ->
   ∃ fd:FuncData,(∀ (s:Shared) (u:Value),BindsTo s fd ⟨[u],[]⟩ [("_law_script",u)]) /\ ∀ base:Heap,(K w.params).In base -> base.Ns mainGlobals mg -> FnOk l.prog w (K w.params) mg base CX0 20 fa fd ["_law_script"] (spLaw (K w.params))) :
  PySem.W.WalkO q loose XP YP l.row.toRowW d [] (fun f vs=>PySem.call f vs) :=
 L2.walk_of (n:=63) (k:=20) (x:="_law_script") (CX:=fun _=>CX0) (sp:=fun w=>spLaw (K w.params)) hn (by decide) hdf ⟨rfl,by decide,by decide⟩ hY F (fun _ _ a ns hl hO hS=>⟨a,ns,rfl,scr_of hO hS,hl,fun _=>rfl⟩) fun _ _ _ _ _ z=>z
end Law
def PySem.W.Fast.tw12011150433017519573:Unit:=()
def PySem.W.Fast.tw10985270791272788311:Unit:=()
def PySem.W.Fast.tw5248629005521956090:Unit:=()
def PySem.W.Fast.tw12786027984757268868:Unit:=()
def PySem.W.Fast.tw2427268778963847788:Unit:=()
def PySem.W.Fast.tw4233727688064350132:Unit:=()
def PySem.W.Fast.tw2242761702885664126:Unit:=()
def PySem.W.Fast.tw8341344285507977654:Unit:=()
def PySem.W.Fast.tw12170291824317808730:Unit:=()
def PySem.W.Fast.tw14235094758669925549:Unit:=()
def PySem.W.Fast.tw12101104700591837494:Unit:=()
def PySem.W.Fast.tw5943248517839683367:Unit:=()
def PySem.W.Fast.tw13576385039203743723:Unit:=()
def PySem.W.Fast.tw1747288746193619217:Unit:=()
def PySem.W.Fast.tw10199217199541390840:Unit:=()
def PySem.W.Fast.tw7815275181477349406:Unit:=()
def PySem.W.Fast.tw5568278115719157314:Unit:=()
def PySem.W.Fast.tw9948585654408679083:Unit:=()
def PySem.W.Fast.tw16372134859070755478:Unit:=()
def PySem.W.Fast.tw6042931976254041671:Unit:=()
def PySem.W.Fast.tw10939294691332248159:Unit:=()
def PySem.W.Fast.tw6043092923354635260:Unit:=()
def PySem.W.Fast.tw10141439449756821886:Unit:=()
def PySem.W.Fast.tw15435515653431642561:Unit:=()
def PySem.W.Fast.tw15784377422116641332:Unit:=()
def PySem.W.Fast.tw18251776502024045154:Unit:=()
def PySem.W.Fast.tw14696293236694236375:Unit:=()
def PySem.W.Fast.tw13969955423514778114:Unit:=()
def PySem.W.Fast.tw12839094892200268814:Unit:=()
def PySem.W.Fast.tw17135072293258415001:Unit:=()
def PySem.W.Fast.tw13495636802651871303:Unit:=()
def PySem.W.Fast.tw15046947535596078696:Unit:=()
def PySem.W.Fast.tw14185137628437613960:Unit:=()
def PySem.W.Fast.tw4919512092611640106:Unit:=()
def PySem.W.Fast.tw15250770537697124760:Unit:=()
def PySem.W.Fast.tw9672454221003363212:Unit:=()
def PySem.W.Fast.tw1731042222975335941:Unit:=()
def PySem.W.Fast.tw2191723396503741676:Unit:=()
def PySem.W.Fast.tw10127721303850347136:Unit:=()
def PySem.W.Fast.tw11226175492295951639:Unit:=()
def PySem.W.Fast.tw55946902884431356:Unit:=()
def PySem.W.Fast.tw11564934023391730432:Unit:=()
def PySem.W.Fast.tw4865154143622350599:Unit:=()
def PySem.W.Fast.tw15420615669126741007:Unit:=()
def PySem.W.Fast.tw8993733006865433235:Unit:=()
def PySem.W.Fast.tw11760574847219028267:Unit:=()
def PySem.W.Fast.tw18033975374609926384:Unit:=()
def PySem.W.Fast.tw7705889911429239585:Unit:=()
open PySem PySem.W PyProof.Rows
set_option maxRecDepth 100000 in
set_option maxHeartbeats 0 in
theorem PySem.Challenge.cw_shiftsums_k25_whole_none_less_deep_holds : PySem.Challenge.rw_shiftsums_k25_whole_none_less_deep.Holds := by
 w_on; o_law; k_head; (case hw=>w_witness2)
 k_fill
 refine Law.walk (l:=PySem.Challenge.rw_shiftsums_k25_whole_none_less_deep) rfl rfl (fun w h Y=>PySem.W.kIn_of Y) ?F
 case F =>
  intro w mg fa h KX G hmg
  refine' Law.all_mk KX G hmg ?a1 ?l1 ?c1 ?k1 ?a2 ?l2 ?c2 ?k2 ?a3 ?l3 ?c3 ?k3 ?a4 ?l4 ?c4 ?k4 ?a5 ?l5 ?c5 ?k5 ?a6 ?l6 ?c6 ?k6 ?a7 ?l7 ?c7 ?k7 ?a8 ?l8 ?c8 ?k8 ?a9 ?l9 ?c9 ?k9 ?a10 ?l10 ?c10 ?k10 ?a11 ?l11 ?c11 ?k11 ?a12 ?l12 ?c12 ?k12 ?a13 ?l13 ?c13 ?k13 ?a14 ?l14 ?c14 ?k14 ?a15 ?l15 ?c15 ?k15 ?a16 ?l16 ?c16 ?k16 ?a17 ?l17 ?c17 ?k17 ?a18 ?l18 ?c18 ?k18 ?a19 ?l19 ?c19 ?k19 ?a20 ?l20 ?c20 ?k20 ?a21 ?l21 ?c21 ?k21 ?a22 ?l22 ?c22 ?k22 ?a23 ?l23 ?c23 ?k23 ?a24 ?l24 ?c24 ?k24 ?a25 ?l25 ?c25 ?k25 ?a26 ?l26 ?c26 ?k26 ?a27 ?l27 ?c27 ?k27 ?a28 ?l28 ?c28 ?k28 ?a29 ?l29 ?c29 ?k29 ?a30 ?l30 ?c30 ?k30 ?a31 ?l31 ?c31 ?k31 ?a32 ?l32 ?c32 ?k32 ?a33 ?l33 ?c33 ?k33 ?a34 ?l34 ?c34 ?k34 ?a35 ?l35 ?c35 ?k35 ?a36 ?l36 ?c36 ?k36 ?a37 ?l37 ?c37 ?k37 ?a38 ?l38 ?c38 ?k38 ?a39 ?l39 ?c39 ?k39 ?a40 ?l40 ?c40 ?k40 ?a41 ?l41 ?c41 ?k41 ?a42 ?l42 ?c42 ?k42 ?a43 ?l43 ?c43 ?k43 ?a44 ?l44 ?c44 ?k44 ?a45 ?l45 ?c45 ?k45 ?a46 ?l46 ?c46 ?k46 ?a47 ?l47 ?c47 ?k47 ?a48 ?l48 ?c48 ?k48 ?a49 ?l49 ?c49 ?k49 ?a50 ?l50 ?c50 ?k50 ?a51 ?l51 ?c51 ?k51 ?a52 ?l52 ?c52 ?k52 ?a53 ?l53 ?c53 ?k53 ?a54 ?l54 ?c54 ?k54 ?a55 ?l55 ?c55 ?k55 ?ac1 ?lc1 ?ai1 ?ai2 ?ai3 ?z1 ?z2 ?z3 ?z4 ?z5 ?z6 ?z7 ?z8 ?z9 ?z10 ?z11 ?z12 ?z13 ?z14 ?z15
  (case a1=>k_is); (case l1=>k_is); (case c1=>k_is); (case k1=>k_is)
  (case a2=>k_is); (case l2=>k_is); (case c2=>k_is); (case k2=>k_is)
  (case a3=>k_is); (case l3=>k_is); (case c3=>k_is); (case k3=>k_is)
  (case a4=>k_is); (case l4=>k_is); (case c4=>k_is); (case k4=>k_is)
  (case a5=>k_is); (case l5=>k_is); (case c5=>k_is); (case k5=>k_is)
  (case a6=>k_is); (case l6=>k_is); (case c6=>k_is); (case k6=>k_is)
  (case a7=>k_is); (case l7=>k_is); (case c7=>k_is); (case k7=>k_is)
  (case a8=>k_is); (case l8=>k_is); (case c8=>k_is); (case k8=>k_is)
  (case a9=>k_is); (case l9=>k_is); (case c9=>k_is); (case k9=>k_is)
  (case a10=>k_is); (case l10=>k_is); (case c10=>k_is); (case k10=>k_is)
  (case a11=>k_is); (case l11=>k_is); (case c11=>k_is); (case k11=>k_is)
  (case a12=>k_is); (case l12=>k_is); (case c12=>k_is); (case k12=>k_is)
  (case a13=>k_is); (case l13=>k_is); (case c13=>k_is); (case k13=>k_is)
  (case a14=>k_is); (case l14=>k_is); (case c14=>k_is); (case k14=>k_is)
  (case a15=>k_is); (case l15=>k_is); (case c15=>k_is); (case k15=>k_is)
  (case a16=>k_is); (case l16=>k_is); (case c16=>k_is); (case k16=>k_is)
  (case a17=>k_is); (case l17=>k_is); (case c17=>k_is); (case k17=>k_is)
  (case a18=>k_is); (case l18=>k_is); (case c18=>k_is); (case k18=>k_is)
  (case a19=>k_is); (case l19=>k_is); (case c19=>k_is); (case k19=>k_is)
  (case a20=>k_is); (case l20=>k_is); (case c20=>k_is); (case k20=>k_is)
  (case a21=>k_is); (case l21=>k_is); (case c21=>k_is); (case k21=>k_is)
  (case a22=>k_is); (case l22=>k_is); (case c22=>k_is); (case k22=>k_is)
  (case a23=>k_is); (case l23=>k_is); (case c23=>k_is); (case k23=>k_is)
  (case a24=>k_is); (case l24=>k_is); (case c24=>k_is); (case k24=>k_is)
  (case a25=>k_is); (case l25=>k_is); (case c25=>k_is); (case k25=>k_is)
  (case a26=>k_is); (case l26=>k_is); (case c26=>k_is); (case k26=>k_is)
  (case a27=>k_is); (case l27=>k_is); (case c27=>k_is); (case k27=>k_is)
  (case a28=>k_is); (case l28=>k_is); (case c28=>k_is); (case k28=>k_is)
  (case a29=>k_is); (case l29=>k_is); (case c29=>k_is); (case k29=>k_is)
  (case a30=>k_is); (case l30=>k_is); (case c30=>k_is); (case k30=>k_is)
  (case a31=>k_is); (case l31=>k_is); (case c31=>k_is); (case k31=>k_is)
  (case a32=>k_is); (case l32=>k_is); (case c32=>k_is); (case k32=>k_is)
  (case a33=>k_is); (case l33=>k_is); (case c33=>k_is); (case k33=>k_is)
  (case a34=>k_is); (case l34=>k_is); (case c34=>k_is); (case k34=>k_is)
  (case a35=>k_is); (case l35=>k_is); (case c35=>k_is); (case k35=>k_is)
  (case a36=>k_is); (case l36=>k_is); (case c36=>k_is); (case k36=>k_is)
  (case a37=>k_is); (case l37=>k_is); (case c37=>k_is); (case k37=>k_is)
  (case a38=>k_is); (case l38=>k_is); (case c38=>k_is); (case k38=>k_is)
  (case a39=>k_is); (case l39=>k_is); (case c39=>k_is); (case k39=>k_is)
  (case a40=>k_is); (case l40=>k_is); (case c40=>k_is); (case k40=>k_is)
  (case a41=>k_is); (case l41=>k_is); (case c41=>k_is); (case k41=>k_is)
  (case a42=>k_is); (case l42=>k_is); (case c42=>k_is); (case k42=>k_is)
  (case a43=>k_is); (case l43=>k_is); (case c43=>k_is); (case k43=>k_is)
  (case a44=>k_is); (case l44=>k_is); (case c44=>k_is); (case k44=>k_is)
  (case a45=>k_is); (case l45=>k_is); (case c45=>k_is); (case k45=>k_is)
  (case a46=>k_is); (case l46=>k_is); (case c46=>k_is); (case k46=>k_is)
  (case a47=>k_is); (case l47=>k_is); (case c47=>k_is); (case k47=>k_is)
  (case a48=>k_is); (case l48=>k_is); (case c48=>k_is); (case k48=>k_is)
  (case a49=>k_is); (case l49=>k_is); (case c49=>k_is); (case k49=>k_is)
  (case a50=>k_is); (case l50=>k_is); (case c50=>k_is); (case k50=>k_is)
  (case a51=>k_is); (case l51=>k_is); (case c51=>k_is); (case k51=>k_is)
  (case a52=>k_is); (case l52=>k_is); (case c52=>k_is); (case k52=>k_is)
  (case a53=>k_is); (case l53=>k_is); (case c53=>k_is); (case k53=>k_is)
  (case a54=>k_is); (case l54=>k_is); (case c54=>k_is); (case k54=>k_is)
  (case a55=>k_is); (case l55=>k_is); (case c55=>k_is); (case k55=>k_is)
  (case ac1=>k_is); (case lc1=>k_is); (case ai1=>k_is); (case ai2=>k_is)
  (case ai3=>k_is); (case z1=>k_is); (case z2=>k_is); (case z3=>k_is)
  (case z4=>k_is); (case z5=>k_is); (case z6=>k_is); (case z7=>k_is)
  (case z8=>k_is); (case z9=>k_is); (case z10=>k_is); (case z11=>k_is)
  (case z12=>k_is); (case z13=>k_is); (case z14=>k_is); (case z15=>k_is)
end
