import PyProof.Rows.All
import Wide.All
import OpenK.AllK
import Wide.FinOn
import Lean
import PyProof.EqAt
import PyProof.EqKinds
import PyProof.TupleCall
import PyProof.NeKinds
import KE.KMinBuiltin
import PyProof.Rows.CallKwBuiltin
import KE.KDictList
import PyProof.ZipIter
import PyProof.EnumFor
import PyProof.EnumMake
import PyProof.EnumStmt
import PyProof.Rows.Range3
import KE.KItemsList
import PyProof.ListRange
import KE.KIsAll
import PyProof.TupleIter
import PyProof.StationsW
import OpenK.KOwn
import PyProof.RulesDel
import PyProof.ExcArgsOwn
import PyProof.ExcAttrAll.ValueError
import KE.IntBitsLaws
import PyProof.IsRules
import PyProof.SetKind
import PyProof.Rows.SetFrom
import PyProof.CollectWalk
import PyProof.ListNew
import PyProof.Seq
import KE.KSortedM
import PyProof.InstStoreFacts
import PyProof.ExcInit
import KE.KSortTup
import PyProof.AttrMissSeq
import KE.KEqDict
import PyProof.Rows.FStr
import PyProof.Rows.StrJoin2
import OpenK.KTop
import PyProof.StrLaws
import PyProof.TupleKey
import PyProof.SetRoads
import PyProof.StrBlockH
import PyProof.StrWalks
import PyProof.Rows.StrNews2
import PyProof.Rows.StrFirst
import PyProof.StrLawsTight
import PyProof.StrLawsIn
import PyProof.StrLawsIdx
import KE.KIntText
import PyProof.CallStr
import PyProof.RangeIter
import PySem.Challenge.RW_shiftsums_k34_what_a_paper_shows
set_option Elab.async false
set_option linter.all false
set_option maxRecDepth 100000
set_option maxHeartbeats 4000000
open PySem.W renaming Frag → zA
open Nat renaming le_refl → zB
open Array renaming length_toList → zC
open List renaming mem_cons → zD
open List renaming mem_singleton → zE
open List renaming mem_cons_of_mem → zF
open Nat renaming ne_of_lt → zG
open List renaming length_singleton → zH
open List renaming length_cons → zI
open List renaming eq_nil_of_length_eq_zero → zJ
open List renaming mem_append → zK
open Nat renaming le_trans → zL
open List renaming mem_cons_self → zM
open Bool renaming false_ne_true → zN
open List renaming mem_iff_getElem? → zO
open List renaming append_assoc → zP
open List renaming map_cons → zQ
open Array renaming getElem?_toList → zR
open Nat renaming zero_le → zS
open Int renaming toNat_natCast → zV
open List renaming not_mem_nil → zW
open Bool renaming and_eq_true → zX
open List renaming filterMap_cons → zY
open Array renaming toList_append → zc
open List renaming length_drop → zd
open List renaming getElem?_eq_none → ze
open PySem.W renaming kitOne → zg
open Array renaming getElem?_eq_getElem → zi
open List renaming range → zj
open List renaming mem_filter → zk
open Nat renaming lt_succ_of_lt → zm
open List renaming take_length → zn
open List renaming take_add_one → zq
open List renaming take_append_drop → zr
open Nat renaming lt_irrefl → zt
open List renaming append_nil → zu
open Bool renaming false_eq_true → zv
open List renaming length_reverse → zw
open List renaming map_append → z9
open PySem.F renaming plainAttrs_list → yB
open List renaming mem_of_mem_take → yC
open List renaming take_of_length_le → yD
open Array renaming toList_push → yG
open List renaming getElem?_drop → yJ
open Option renaming map_eq_some_iff → yK
open Nat renaming le_of_succ_le → yN
open Bool renaming eq_false_iff → yO
open List renaming getElem?_take_of_lt → yP
open PySem.W renaming kia_one → yQ
open Nat renaming lt_succ_self → yS
open List renaming pairwise_append → yT
open List renaming mem_of_mem_drop → yU
open List renaming getElem?_cons_zero → yV
open Int renaming mul_one → yW
open Int renaming mul_assoc → yY
open List renaming length_range → yZ
open List renaming length_eq_one_iff → ya
open Bool renaming not_eq_true' → yb
open List renaming drop_eq_getElem_cons → yg
open List renaming length_filter_le → yh
open PySem.F renaming called_set → yi
open Nat renaming max_eq_right → yk
open List renaming mem_reverse → yl
open List renaming Perm → ym
open PySem.F renaming type_list_append → yn
open PySem.F renaming slot_list_append → yo
open List renaming map_map → yp
open Int renaming pow_zero → yq
open Int renaming le_trans → yr
open List renaming mem_append_left → yt
open List renaming ext_getElem? → yv
open List renaming length_pos_iff → yx
open List renaming range_succ_eq_map → y3
open Int renaming pow_succ → y4
open Nat renaming lt_of_le_of_lt → y9
open List renaming filterMap_append → xA
open List renaming getLast?_eq_getElem? → xC
open List renaming extract_eq_take_drop → xD
open Nat renaming ne_of_gt → xG
open List renaming Pairwise → xJ
open List renaming mem_flatMap → xP
open List renaming any_eq_true → xQ
open Int renaming eq_ofNat_of_zero_le → xR
open Int renaming le_refl → xY
open PySem.W renaming fnOf → xZ
open Nat renaming le_of_eq → xc
open Int renaming le_of_lt → xf
open List renaming length_nil → xi
open List renaming perm_append_comm → xw
open PySem.W renaming keepIn → x5
open List renaming mem_range → x6
open Array renaming toList_extract → x8
open Array renaming perm_iff_toList_perm → x9
open PySem.W renaming nsIn → jI
open Nat renaming zero_add → jJ
open List renaming lookup_cons → jK
open List renaming all_eq_true → jL
open List renaming map_congr_left → jV
open List renaming any_cons → jZ
open List renaming nodup_cons → jc
open Bool renaming eq_iff_iff → jd
open List renaming pairwise_cons → je
open List renaming mem_filterMap → jf
open List renaming map_inj_right → jg
open PySem.F renaming plain_list_iadd → jw
open List renaming getElem?_cons_succ → jx
open List renaming getElem?_eq_getElem → qA
open List renaming getElem?_eq_some_iff → qB
open List renaming length_map → qC
open List renaming getD_eq_getElem?_getD → qD
open List renaming mem_of_getElem? → qE
open List renaming length_append → qF
open List renaming getElem?_append_right → qG
open List renaming getElem?_append_left → qH
open List renaming getElem?_map → qI
open Nat renaming lt_of_lt_of_le → qJ
open List renaming mem_append_right → qK
open List renaming length_replicate → qL
open List renaming size_toArray → qM
open Nat renaming pow_le_pow_right → qN
open List renaming length_take → qO
open List renaming mem_map → qP
open List renaming replicate → qQ
section
namespace L2
open PySem PySem.Spec PyProof.Rows
abbrev Key:=Sum Int Str
def keyIs:Key->Value->Bool
 |.inl k,v=>Value.isInt k v
 |.inr x,v=>Value.isStrOf x v
def keyH (w:World):Key->Int
 |.inl k=>hashInt k
 |.inr x=>hashStr w x
theorem keyIs_shape:∀{k:Key} {v:Value},keyIs k v=true->(∃i t,k=Sum.inl i/\v=Value.int i t)\/(∃x t,k=Sum.inr x/\v=Value.str x t)
 |.inl i,v,h=>by
  obtain⟨t,e⟩:=Value.isInt_shape (k:=i) (v:=v) h
  exact .inl ⟨i,t,rfl,e⟩
 |.inr x,v,h=>by
  obtain⟨t,e⟩:=Value.isStrOf_shape (x:=x) (v:=v) h
  exact .inr ⟨x,t,rfl,e⟩
theorem keyIs_int (i:Int)(t:Tok):keyIs (.inl i) (.int i t)=true:=by simp[keyIs,Value.isInt]
theorem keyIs_str (x:Str)(t:Tok):keyIs (.inr x) (.str x t)=true:=by simp[keyIs,Value.isStrOf]
theorem key_ll (a b:Int):decide ((Sum.inl a:Key)=Sum.inl b)=(a==b):=by
 by_cases e:a=b
 ·subst e;simp
 ·have h:¬ (Sum.inl a:Key)=Sum.inl b:=fun q=>e (Sum.inl.inj q);rw[decide_eq_false h];exact(beq_eq_false_iff_ne.mpr e).symm
theorem key_rr (a b:Str):decide ((Sum.inr a:Key)=Sum.inr b)=decide (a=b):=by
 by_cases e:a=b
 ·subst e;simp
 ·have h:¬ (Sum.inr a:Key)=Sum.inr b:=fun q=>e (Sum.inr.inj q);rw[decide_eq_false h,decide_eq_false e]
theorem key_lr (a:Int)(b:Str):decide ((Sum.inl a:Key)=Sum.inr b)=false:=decide_eq_false (fun q=>nomatch q)
theorem key_rl (a:Str)(b:Int):decide ((Sum.inr a:Key)=Sum.inl b)=false:=decide_eq_false (fun q=>nomatch q)
def y8 (prog:Program)(w:World):PySem.KeyKind prog w Key where
 is:=keyIs
 hash:=keyH w
 inj:=fun v a b H B=>by
  rcases keyIs_shape H with⟨i,t,rfl,rfl⟩|⟨x,t,rfl,rfl⟩
  ·rcases keyIs_shape B with⟨j,u,rfl,e⟩|⟨y,u,rfl,e⟩
   ·injection e with e1 _;rw[e1]
   ·exact nomatch e
  ·rcases keyIs_shape B with⟨j,u,rfl,e⟩|⟨y,u,rfl,e⟩
   ·exact nomatch e
   ·injection e with e1 _;rw[e1]
 byValue:=fun k v h=>by
  rcases keyIs_shape h with⟨i,t,rfl,rfl⟩|⟨x,t,rfl,rfl⟩<;>rfl
 pyHash:=fun z h=>by
  rcases keyIs_shape z with⟨i,t,rfl,rfl⟩|⟨x,t,rfl,rfl⟩
  ·exact wpAny_pyHash_int h
  ·exact wpAny_pyHash_str h
 eqBool:=fun G z h=>by
  rcases keyIs_shape G with⟨i,t,rfl,rfl⟩|⟨x,t,rfl,rfl⟩
  ·rcases keyIs_shape z with⟨j,u,rfl,rfl⟩|⟨y,u,rfl,rfl⟩
   ·rw[key_ll]at h;exact wpAny_eqBool_int h
   ·rw[key_lr]at h;exact SeqAt.EqAt.int_str i t y u _ _ _ _ h
  ·rcases keyIs_shape z with⟨j,u,rfl,rfl⟩|⟨y,u,rfl,rfl⟩
   ·rw[key_rl]at h;exact SeqAt.EqAt.str_int x t j u _ _ _ _ h
   ·rw[key_rr]at h;exact wpAny_eqBool_str h
 «strs»:=fun k x t v h=>by
  rcases keyIs_shape h with⟨i,u,rfl,e⟩|⟨y,u,rfl,e⟩
  ·exact nomatch e
  ·injection e with e1 _
   subst e1
   cases v<;>rfl
theorem mixKind_int (prog:Program)(w:World)(i:Int)(t:Tok):(y8 prog w).is (.inl i) (.int i t)=true:=keyIs_int i t
theorem mixKind_str (prog:Program)(w:World)(x:Str)(t:Tok):(y8 prog w).is (.inr x) (.str x t)=true:=keyIs_str x t
inductive V where
 |non|bl (b:Bool)|int (i:Int)|str (x:Str)|byt (b:Array UInt8)|flt (b:UInt64)|ref (a:Addr)|ty (n:String)
 deriving DecidableEq
def RelV:V->Value->Prop
 |.non,u=>u=Value.none
 |.bl b,u=>u=Value.bool b
 |.int i,u=>∃t,u=Value.int i t
 |.str x,u=>∃t,u=Value.str x t
 |.byt b,u=>∃t,u=Value.bytes b t
 |.flt b,u=>∃t,u=Value.float b t
 |.ref a,u=>u=Value.ref a
 |.ty n,u=>u=Value.type n
abbrev Vals:List V->List Value->Prop:=Paired RelV
theorem Vals.length {xs:List V}{us:List Value}(r:Vals xs us):xs.length=us.length:=Paired.length r
theorem Vals.get:∀{xs:List V} {us:List Value} {i:Nat} {x:V},Vals xs us->xs[i]? = some x->∃u,us[i]? = some u/\RelV x u
 |_,_,_,_,.nil,e=>by simp at e
 |_,_,0,_,.cons r _,e=>by simp at e;subst e;exact⟨_,rfl,r⟩
 |_,_,i+1,x,.cons _ t,e=>by
  obtain⟨u,B,z⟩:=Vals.get (i:=i) (x:=x) t (by simpa using e)
  exact⟨u,by simpa using B,z⟩
theorem Vals.set {x:V}{u:Value}(r:RelV x u):∀{xs:List V} {us:List Value} (i:Nat),Vals xs us->Vals (xs.set i x) (us.set i u)
 |_,_,_,.nil=>.nil
 |_,_,0,.cons _ t=>.cons r t
 |_,_,i+1,.cons q t=>.cons q (Vals.set r i t)
theorem Vals.append:∀{xs B:List V} {us z:List Value},Vals xs us->Vals B z->Vals (xs++B) (us++z)
 |_,_,_,_,.nil,s=>s
 |_,_,_,_,.cons r t,s=>.cons r (Vals.append t s)
theorem Vals.take:∀{xs:List V} {us:List Value} (n:Nat),Vals xs us->Vals (xs.take n) (us.take n)
 |_,_,0,_=>.nil
 |_,_,_+1,.nil=>.nil
 |_,_,n+1,.cons r t=>.cons r (Vals.take n t)
theorem Vals.drop:∀{xs:List V} {us:List Value} (n:Nat),Vals xs us->Vals (xs.drop n) (us.drop n)
 |_,_,0,r=>r
 |_,_,_+1,.nil=>.nil
 |_,_,n+1,.cons _ t=>Vals.drop n t
def RelO:Option V->Option Value->Prop
 |some v,some u=>RelV v u
 |none,none=>True
 |_,_=>False
def KV {z:Type}:List (z×V)->List (z×Value)->Prop:=Paired fun(p:z×V) (q:z×Value)=>p.1=q.1/\RelV p.2 q.2
def kV:Key->V
 |.inl i=>.int i
 |.inr x=>.str x
inductive HO where
 |lst (xs:List V)
 |tup (xs:List V)
 |dK (kvs:List (Key×V))|dT (kvs:List (List Key×V))
 |set (S:Int->Bool) (n:Nat)
 |ins (C dx:Addr) (fs:List (Str×V))
 |own (x:Addr)
 |xd (fs:List (Str×V))
 |met (f x:Addr)
 |rng (lo hi:Int)
 |frz (o:Obj) (u:HO)
 |tbl (ps:Array Value)
 |ext (φ:Heap->Prop)
abbrev Hp:=Addr->Option HO
def upd (H:Hp)(a:Addr)(o:HO):Hp:=fun b=>if b=a then some o else H b
theorem upd_same {H:Hp}{a:Addr}{o:HO}:upd H a o a=some o:=by unfold upd;rw[if_pos rfl]
theorem yL {H:Hp}{a b:Addr}{o:HO}(h:b≠a):upd H a o b=H b:=by unfold upd;rw[if_neg h]
theorem upd_upd {H:Hp}{a:Addr}{o u:HO}:upd (upd H a o) a u=upd H a u:=by
 funext b;unfold upd;split<;>rfl
theorem JE {H:Hp}{a b:Addr}{o u:HO}(h:H a=some o)(h':H b=some u)(d:o≠u):a≠b:=by
 intro e;subst e;rw[h]at h';exact d (Option.some.inj h')
theorem ne_of_none {H:Hp}{a b:Addr}{o:HO}(h:H a=some o)(h':H b=none):a≠b:=by
 intro e;subst e;rw[h]at h';cases h'
section
variable (P:Program)(w:World)
def ObjOk (H:Hp)(h:Heap)(a:Addr):HO->Prop
 |.lst G=>G.length<=sizeLine/\∃(B:List Value) (n:Nat),Vals G B/\h.get? a=some { cls:=.type "list",data:=.seq B.toArray n }
 |.tup G=>G.length<=sizeLine/\∃B:List Value,Vals G B/\IsTup h a B.toArray
 |.dK z=>z.length<=sizeLine/\(a==sysModules)=false/\∃U,KV z U/\h.DictOf (y8 P w) a U
 |.dT z=>z.length<=sizeLine/\(a==sysModules)=false/\∃G:List (List Key×Addr×Value),
   Paired (fun(p:List Key×V) (q:List Key×Addr×Value)=>p.1=q.1/\H q.2.1=some (.tup (p.1.map kV))/\RelV p.2 q.2.2) z G /\
   ∃o Y ep,h.get? a=some o/\o.ExactDict/\o.data=.dict Y ep/\Y.toList=G.map (entryOfKey (tupleKind (y8 P w)))/\(G.map (·.1)).Nodup
 |.set S n=>h.SetOf (intKind P w) a S n
 |.ins C M fs=>H M=some (.own a)/\fs.length<=1000/\M≠a/\h.get? a=some (PySem.W.instObj C M) /\
   ∃J,h.Ns1 M J/\(∀f,RelO (fs.lookup f) (J f))/\PySem.Within J (fs.map (·.1))
 |.own _=>∃o,h.get? a=some o
 |.xd fs=>∃J,h.Ns1 a J/\∀f,RelO (fs.lookup f) (J f)
 |.rng lo hi=>∃t u v,h.get? a=some { cls:=.type "range",data:=.fields #[.int lo t,.int hi u,.int 1 v] }
 |.frz o u=>h.get? a=some o/\ObjOk H h a u
 |.tbl ps=>h.get? a=some { cls:=.none,data:=.fields ps }
 |.met f x=>h.get? a=some (PySem.W.methodObj (.ref f) (.ref x))
 |.ext O=>O h/\(∃o,h.get? a=some o)/\∀h1 h2:Heap,O h1->(∀o,h1.get? a=some o->h2.get? a=some o)->O h2
def HOk (H:Hp)(h:Heap):Prop:=∀a o,H a=some o->ObjOk P w H h a o
end
section
variable {P:Program}{w:World}{H H':Hp}{h h':Heap}{a:Addr}{o:HO}
theorem ObjOk.lt (x:ObjOk P w H h a o):a<h.objs.size:=by
 cases o with
 |lst B=>obtain⟨_,_,_,_,e⟩:=x;exact Heap.lt_size e
 |tup B=>obtain⟨_,_,_,p⟩:=x;exact p.lt
 |dK z=>obtain⟨_,_,_,_,o,_,_,e,_⟩:=x;exact Heap.lt_size e
 |dT z=>obtain⟨_,_,_,_,o,_,_,e,_⟩:=x;exact Heap.lt_size e
 |set S n=>obtain⟨o,_,_,_,e,_⟩:=x;exact Heap.lt_size e
 |ins C Y fs=>obtain⟨_,_,_,e,_⟩:=x;exact Heap.lt_size e
 |own y=>obtain⟨_,e⟩:=x;exact Heap.lt_size e
 |xd fs=>obtain⟨_,⟨_,_,_,e,_⟩,_⟩:=x;exact Heap.lt_size e
 |rng J U=>obtain⟨_,_,_,e⟩:=x;exact Heap.lt_size e
 |frz O u=>obtain⟨e,_⟩:=x;exact Heap.lt_size e
 |tbl M=>exact Heap.lt_size (show h.get? a=some _ from x)
 |met f y=>exact Heap.lt_size (show h.get? a=some _ from x)
 |ext G=>obtain⟨_,⟨_,e⟩,_⟩:=x;exact Heap.lt_size e
theorem Paired.mapP {B β:Type}{F G:B->β->Prop}:∀{l₁:List B} {z:List β},Paired F l₁ z->(∀a b,F a b->G a b)->Paired G l₁ z
 |_,_,.nil,_=>.nil
 |_,_,.cons r t,f=>.cons (f _ _ r) (Paired.mapP t f)
theorem ObjOk.stay (x:ObjOk P w H h a o)(k:∀b u,(b=a\/H b=some (.own a))->h.get? b=some u->h'.get? b=some u)
  (ho:∀b,H b=some (.own a)->H' b=some (.own a)) (ht:∀b O,H b=some (.tup O)->H' b=some (.tup O)):ObjOk P w H' h' a o:=by
 induction o with
 |lst O=>obtain⟨z,M,n,r,e⟩:=x;exact⟨z,M,n,r,k _ _ (.inl rfl) e⟩
 |tup O=>obtain⟨z,M,r,B,e,c⟩:=x;exact⟨z,M,r,B,k _ _ (.inl rfl) e,c⟩
 |dK Y=>obtain⟨z,y,vs,r,B,G,J,e,c⟩:=x;exact⟨z,y,vs,r,B,G,J,k _ _ (.inl rfl) e,c⟩
 |dT Y =>
  obtain⟨z,y,O,r,B,G,J,e,c⟩:=x;exact⟨z,y,O,Paired.mapP r fun p q z=>⟨z.1,ht _ _ z.2.1,z.2.2⟩,B,G,J,k _ _ (.inl rfl) e,c⟩
 |set S n=>obtain⟨B,G,J,t,e,c⟩:=x;exact⟨B,G,J,t,k _ _ (.inl rfl) e,c⟩
 |ins C dx fs =>
  obtain⟨d,z,ne,e,U,⟨od,G,J,e2,c⟩,r⟩:=x;exact⟨ho _ d,z,ne,k _ _ (.inl rfl) e,U,⟨od,G,J,k _ _ (.inr d) e2,c⟩,r⟩
 |own y=>obtain⟨B,e⟩:=x;exact⟨B,k _ _ (.inl rfl) e⟩
 |xd fs=>obtain⟨U,⟨od,G,J,e,c⟩,r⟩:=x;exact⟨U,⟨od,G,J,k _ _ (.inl rfl) e,c⟩,r⟩
 |rng lo hi=>obtain⟨t,u,v,e⟩:=x;exact⟨t,u,v,k _ _ (.inl rfl) e⟩
 |frz B u ih=>obtain⟨e,q⟩:=x;exact⟨k _ _ (.inl rfl) e,ih q⟩
 |tbl ps =>
  have e:h.get? a=some { cls:=.none,data:=.fields ps }:=x;show h'.get? a=some { cls:=.none,data:=.fields ps }
  exact k a _ (.inl rfl) e
 |met f y =>
  have e:h.get? a=some (PySem.W.methodObj (.ref f) (.ref y)):=x;show h'.get? a=some (PySem.W.methodObj (.ref f) (.ref y))
  exact k a _ (.inl rfl) e
 |ext φ=>obtain⟨p,⟨o,e⟩,st⟩:=x;exact⟨st _ _ p fun o q=>k _ _ (.inl rfl) q,⟨o,k _ _ (.inl rfl) e⟩,st⟩
theorem HOk.lt (x:HOk P w H h)(e:H a=some o):a<h.objs.size:=(x a o e).lt
theorem HOk.fresh (x:HOk P w H h)(e:h.objs.size<=a):H a=none:=by
 cases q:H a with
 |none=>rfl
 |some u=>exact absurd (qJ (x.lt q) e) (zt _)
theorem HOk.kept (x:HOk P w H h)(k:∀b u,h.get? b=some u->h'.get? b=some u):HOk P w H h':=fun a o e =>
 (x a o e).stay (fun b u _ q=>k b u q) (fun _ q=>q) fun _ _ q=>q
theorem HOk.laid (x:HOk P w H h)(k:∀b u,h.get? b=some u->h'.get? b=some u)(G:h.objs.size<=a)(new:ObjOk P w (upd H a o) h' a o):HOk P w (upd H a o) h':=fun b u e=>by
 have B:=x.fresh G
 by_cases z:b=a
 ·subst z;rw[upd_same]at e;cases e;exact new
 ·rw[yL z]at e
  exact(x b u e).stay (fun c v _ q=>k c v q) (fun c q=>by rw[yL (ne_of_none q B)];exact q) fun c J q=>by rw[yL (ne_of_none q B)];exact q
end
def Rd (H:Hp)(a:Addr)(u:HO):Prop:=H a=some u\/∃o,H a=some (.frz o u)
theorem Rd.ok {P:Program}{w:World}{H:Hp}{h:Heap}{a:Addr}{u:HO}(r:Rd H a u)(x:HOk P w H h):ObjOk P w H h a u:=by
 rcases r with r|⟨o,r⟩
 ·exact x a u r
 ·obtain⟨_,q⟩:=x a _ r;exact q
def Mut:Option HO->Prop
 |some (.lst _)=>True
 |some (.dK _)=>True
 |some (.dT _)=>True
 |some (.set _ _)=>True
 |some (.ins _ _ _)=>True
 |some (.ext _)=>True
 |_=>False
section
variable {P:Program}{w:World}{H:Hp}{h h':Heap}{x e:Addr}{o':HO}
theorem HOk.write (ok:HOk P w H h)(M:Mut (H x))(he:e=x\/H e=some (.own x))(k:∀b u,b≠e->h.get? b=some u->h'.get? b=some u)(aa:∃u,h'.get? e=some u)
  (new:ObjOk P w (upd H x o') h' x o'):HOk P w (upd H x o') h':=fun b u q=>by
 have G:∀c y,H c=some (.own y)->c≠x:=fun c y r z=>by subst z;rw[r]at M;exact M
 have J:∀c O,H c=some (.tup O)->c≠x:=fun c O r z=>by subst z;rw[r]at M;exact M
 by_cases Y:b=x
 ·subst Y;rw[upd_same]at q;cases q;exact new
 ·rw[yL Y]at q
  by_cases B:b=e
  ·have q':H b=some (.own x):=by
    rcases he with z|z
    ·exact absurd (B.trans z) Y
    ·rw[B];exact z
   rw[q]at q';cases q'
   obtain⟨v,hv⟩:=aa;exact⟨v,by rw[B];exact hv⟩
  ·refine(ok b u q).stay (fun c v U r=>k c v ?_ r) (fun c r=>by rw[yL (G c b r)];exact r) fun c O r=>by rw[yL (J c O r)];exact r
   rcases U with rfl|U
   ·exact B
   ·rintro rfl;rcases he with z|z
    ·exact G c b U z
    ·rw[U]at z;cases z;exact Y rfl
end
structure Un (fs ex:List Addr) (H H':Hp) (h h':Heap):Prop where
 keep:∀b o,h.get? b=some o->H b=none->b∉fs->b∉ex->h'.get? b=some o
 slot:∀b o,h.get? b=some o->H b=none->b∈fs->b∉ex->∃sl,h'.get? b=some { o with slots:=sl }
 free:∀b o,h.get? b=some o->H b=none->b∉ex->H' b=none
 there:∀b o,h.get? b=some o->b∉ex->∃o',h'.get? b=some o'
 tups:∀b xs,H b=some (.tup xs)->H' b=some (.tup xs)
 frzs:∀b o u,H b=some (.frz o u)->H' b=some (.frz o u)
 tbls:∀b ps,H b=some (.tbl ps)->∃more,H' b=some (.tbl (ps++more))
section
variable {fs fs' ex ex':List Addr}{H H1 H2:Hp}{h h1 h2 h':Heap}{a x e:Addr}{o:HO}
theorem Un.any (u:Un fs ex H H1 h h1){b:Addr}{z:Obj}(q:h.get? b=some z)(n:H b=none)(B:b∉ex):∃sl,h1.get? b=some { z with slots:=sl }:=by
 by_cases G:b∈fs
 ·exact u.slot b z q n G B
 ·exact⟨z.slots,u.keep b z q n G B⟩
theorem Un.kept (k:∀b u,h.get? b=some u->h'.get? b=some u):Un fs ex H H h h' :=
 ⟨fun b z q _ _ _=>k b z q,fun b z q _ _ _=>⟨z.slots,k b z q⟩,fun _ _ _ n _=>n,fun b z q _=>⟨z,k b z q⟩,fun _ _ q=>q,fun _ _ _ q=>q,fun _ B q=>⟨#[],by rw[q];simp⟩⟩
theorem Un.refl:Un fs ex H H h h:=Un.kept fun _ _ q=>q
theorem Un.laid (k:∀b u,h.get? b=some u->h'.get? b=some u)(B:h.objs.size<=a)(z:H a=none):Un fs ex H (upd H a o) h h' where
 keep:=fun b u q _ _ _=>k b u q
 slot:=fun b u q _ _ _=>⟨u.slots,k b u q⟩
 free:=fun b u q n _=>by rw[yL (zG (qJ (Heap.lt_size q) B))];exact n
 there:=fun b u q _=>⟨u,k b u q⟩
 tups:=fun b G q=>by rw[yL (ne_of_none q z)];exact q
 frzs:=fun b u G q=>by rw[yL (ne_of_none q z)];exact q
 tbls:=fun b J q=>⟨#[],by rw[yL (ne_of_none q z),q];simp⟩
theorem Un.write (G:Mut (H x))(Y:e=x\/H e=some (.own x))(k:∀b u,b≠e->h.get? b=some u->h'.get? b=some u)(J:∃u,h'.get? e=some u):Un fs ex H (upd H x o) h h':=by
 have O:∀b,H b=none->b≠x:=fun b n z=>by subst z;rw[n]at G;exact G
 have U:∀b,H b=none->b≠e:=fun b n z=>by
  subst z;rcases Y with r|r
  ·exact O b n r
  ·rw[n]at r;cases r
 have M:∀b u,H b=some u -> ¬ Mut (some u)->b≠x:=fun b u q nm z=>by subst z;rw[q]at G;exact nm G
 refine⟨fun b u q n _ _=>k b u (U b n) q,fun b u q n _ _=>⟨u.slots,k b u (U b n) q⟩,fun b u q n _=>by rw[yL (O b n)];exact n,fun b u q _=>?_,
  fun b xs q=>by rw[yL (M b _ q fun z=>z)];exact q,fun b u xs q=>by rw[yL (M b _ q fun z=>z)];exact q,fun b ps q=>⟨#[],by rw[yL (M b _ q fun z=>z),q];simp⟩⟩
 by_cases B:b=e
 ·subst B;exact J
 ·exact⟨u,k b u B q⟩
end
def trk (h:Heap)(H:Hp):List Addr:=(zj h.objs.size).filter fun a=>(H a).isSome
def hidT (h:Heap)(H:Hp):Heap:=PySem.W.hideAll h (trk h H)
theorem hidT_size (h:Heap)(H:Hp):(hidT h H).objs.size=h.objs.size:=PySem.W.hideAll_size _ _
theorem hidT_get {h:Heap}{H:Hp}{b:Addr}{o:Obj}(e:h.get? b=some o)(n:H b=none):(hidT h H).get? b=some o :=
 PySem.W.hideAll_get _ e fun z=>by
  have q:(H b).isSome=true:=(zk.mp z).2
  rw[n]at q;simp at q
theorem of_hidT {h:Heap}{H:Hp}{b:Addr}{o:Obj}(e:(hidT h H).get? b=some o):h.get? b=some o/\H b=none:=by
 have B:h.get? b=some o:=PySem.W.of_hideAll (trk h H) e;refine⟨B,?_⟩;cases q:H b with
 |none=>rfl
 |some x =>
  have G:b∈trk h H:=zk.mpr ⟨x6.mpr (Heap.lt_size B),by simp[q]⟩;have z:(hidT h H).get? b=none:=PySem.W.hideAll_none (trk h H) G;rw[z]at e;cases e
def allNews (g h:Heap)(L:Addr):List (Addr×Obj):=(zj h.objs.size).filterMap fun a=>if a=L\/(g.get? a).isSome=true then none else (h.get? a).map fun o=>(a,o)
def rest (g h:Heap)(L d:Addr):List (Addr×Obj):=(allNews g h L).filter fun p=>decide (p.1≠d)
structure Mod (K:zA) (mg:Str->Option Value) (base:Heap):Prop where
 kin:K.In base
 glob:base.Ns mainGlobals mg
 blt:∃mb,base.Ns builtinsNs mb/\∀x:Str,x ≠ "__name__" -> mb x=bootBuiltins x
 nolimit:base.NoLimit
structure Cx where
 prog:Program
 w:World
 K:zA
 mg:Str->Option Value
 base:Heap
 A:Around
 N:List Str
 s₀:Shared
 H₀:Hp
 env:Env
 outer:List Env
 stack:List Env
 ex:List Addr
 fn:Str->Bool
 calm:Bool
 pn:List (Addr×Obj)
 xe:Value->Shared->Prop
def frs (l:List Env):List Addr:=l.filterMap (·.frame)
abbrev Cx.fs (X:Cx):List Addr:=frs X.outer
def Vis (z:Scope)(x:Str):Prop:=z.names.lookup x=some .local\/z.names.lookup x=some .cell\/z.names.lookup x=some .free
def Loc (z:Scope)(x:Str):Prop:=z.names.lookup x=some .local\/z.names.lookup x=some .cell
def Look (env:Env)(h:Heap)(m:Str->Option Value)(x:Str)(u:Value):Prop :=
 (env.kindOf x=some .local/\m x=some u)\/((env.kindOf x=some .cell\/env.kindOf x=some .free)/\∃c,env.cells.lookup x=some c/\h.IsCell c (some u))
structure Cx.Ok (X:Cx):Prop where
 mod:Mod X.K X.mg X.base
 kind:X.env.scope.kind=.function
 glob:X.env.globals=mainGlobals
 blt:X.env.builtins=builtinsNs
 above:X.s₀.heap.objs.size<=X.env.locals
 inj:∀x y c,X.env.cells.lookup x=some c->X.env.cells.lookup y=some c->x=y
 has:∀x,(X.env.kindOf x=some .cell\/X.env.kindOf x=some .free)->∃c,X.env.cells.lookup x=some c
 cab:∀x c,X.fn x=true->X.env.cells.lookup x=some c->X.s₀.heap.objs.size<=c
 hd:X.calm=true->X.A.handled=none
 frames:X.A.frames=some X.stack
 stk:X.stack=X.outer\/(X.stack=X.env::X.outer/\X.env.frame=some X.env.locals)
 exf:∀b∈X.ex,b≠X.env.locals/\∀x c,X.env.cells.lookup x=some c->c≠b
 bs:∀b o,X.base.get? b=some o->X.s₀.heap.get? b=some o/\X.H₀ b=none
 bsz:X.base.objs.size<=X.s₀.heap.objs.size
 noex:∀b o,X.base.get? b=some o->b∉X.ex
 exfs:∀b∈X.ex,b∉X.fs
 funs:X.s₀.heap.FunFrames X.base X.outer
 frf:∀b∈X.fs,X.H₀ b=none
structure Inv (X:Cx) (pins:List (Addr×Obj)) (σ:List (Option V)) (H:Hp) (s:Shared):Prop where
 ok:X.Ok
 os:s.os=X.s₀.os
 bare:AllBare s.gens
 base:Un X.fs X.ex X.H₀ H X.s₀.heap s.heap
 loc:∃m,s.heap.Ns X.env.locals m/\∀(i:Nat) (x:Str) (v:V),X.N[i]? = some x->σ[i]? = some (some v)->Vis X.env.scope x->∃u,RelV v u/\Look X.env s.heap m x u
 cell:∀x c,X.env.cells.lookup x=some c->∃v,s.heap.IsCell c v
 free:H X.env.locals=none
 freeC:∀x c,X.env.cells.lookup x=some c->H c=none
 pin:∀p∈X.pn++pins,s.heap.get? p.1=some p.2/\H p.1=none/\p.1≠X.env.locals/\p.1∉X.fs/\∀v,p.2.data≠.cell v
 hok:HOk X.prog X.w H s.heap
 len:σ.length=X.N.length
section
variable {X:Cx}{pins:List (Addr×Obj)}{σ:List (Option V)}{H H':Hp}{s:Shared}{h':Heap}
theorem Cx.Ok.nofr (ok:X.Ok){b:Addr}{o:Obj}(e:X.base.get? b=some o):b∉X.fs:=fun z=>by
 have:=(ok.funs.mem z).1
 rw[e]at this;cases this
theorem Inv.bs (I:Inv X pins σ H s):∀b o,X.base.get? b=some o->s.heap.get? b=some o/\H b=none:=fun b o e =>
 ⟨I.base.keep b o (I.ok.bs b o e).1 (I.ok.bs b o e).2 (I.ok.nofr e) (I.ok.noex b o e),I.base.free b o (I.ok.bs b o e).1 (I.ok.bs b o e).2 (I.ok.noex b o e)⟩
theorem Inv.bk (I:Inv X pins σ H s):∀b o,X.base.get? b=some o->s.heap.get? b=some o:=fun b o e=>(I.bs b o e).1
theorem Inv.mod (I:Inv X pins σ H s):Mod X.K X.mg X.base:=I.ok.mod
theorem Inv.kIn (I:Inv X pins σ H s):X.K.In s.heap:=I.ok.mod.kin.keeps I.bk
theorem Inv.lt (I:Inv X pins σ H s):X.env.locals<s.heap.objs.size:=let ⟨_,z,_⟩:=I.loc;z.lt
theorem Inv.sz (I:Inv X pins σ H s):X.s₀.heap.objs.size<=s.heap.objs.size:=zL I.ok.above (Nat.le_of_lt I.lt)
theorem Inv.nofs (I:Inv X pins σ H s){a:Addr}(h:s.heap.objs.size<=a):a∉X.fs:=fun B=>by
 obtain⟨_,o,z,_⟩:=I.ok.funs.mem B
 exact absurd (qJ (Heap.lt_size z) (zL I.sz h)) (zt _)
theorem Inv.cne (I:Inv X pins σ H s):∀x c,X.env.cells.lookup x=some c->c≠X.env.locals:=fun x c e z=>by
 obtain⟨v,o,J,M⟩:=I.cell x c e
 obtain⟨m,⟨U,O,Y,G,B,_⟩,_⟩:=I.loc
 rw[z,G]at J;cases J;rw[B]at M;cases M
theorem Inv.funs (I:Inv X pins σ H s):s.heap.FunFrames X.base X.outer:=by
 have all:∀(l:List Env),(∀b∈frs l,b∈X.fs)->X.s₀.heap.FunFrames X.base l->s.heap.FunFrames X.base l:=by
  intro l;induction l with
  |nil=>intro _ _;trivial
  |cons env r ih =>
   intro M U;obtain⟨Y,⟨L,o,B,hn,O,hd⟩,hr⟩:=U;have G:L∈X.fs:=M L (by unfold frs;rw[zY,B];exact zM);obtain⟨sl,e⟩:=I.base.slot L o O (I.ok.frf L G) G fun z=>I.ok.exfs L z G;exact⟨Y,⟨L,_,B,hn,e,hd⟩,ih (fun b J=>M b (by unfold frs;rw[zY,B];exact zF _ J)) hr⟩
 exact all X.outer (fun _ J=>J) I.ok.funs
theorem Inv.stack (I:Inv X pins σ H s):s.heap.FunFrames X.base X.stack:=by
 rcases I.ok.stk with e|⟨e,z⟩
 ·rw[e];exact I.funs
 ·rw[e];obtain⟨m,B,_⟩:=I.loc;refine .cons (by rw[I.ok.kind];decide) z B ?_ I.funs;exact Heap.get?_none_of_le (zL I.ok.bsz I.ok.above)
theorem Inv.stkSub (I:Inv X pins σ H s):∀b∈frs X.stack,b∈X.env.locals::X.fs:=fun b z=>by
 rcases I.ok.stk with e|⟨e,B⟩
 ·rw[e]at z;exact zF _ z
 ·rw[e]at z
  unfold frs at z
  rw[zY,B]at z
  exact z
theorem Inv.stkFree (I:Inv X pins σ H s):∀b∈frs X.stack,H b=none:=fun b B=>by
 rcases zD.mp (I.stkSub b B) with e|B
 ·rw[e];exact I.free
 ·obtain⟨_,o,G,_⟩:=I.ok.funs.mem B
  exact I.base.free b o G (I.ok.frf b B) fun z=>I.ok.exfs b z B
theorem Inv.step {g':Array GenState}{t':Nat}{d':Drawn}{ch:List Addr}(I:Inv X pins σ H s)
  (G:∀b∈ch,(b∈X.ex\/X.s₀.heap.objs.size<=b)/\b≠X.env.locals/\(∀x c,X.env.cells.lookup x=some c->c≠b)/\∀p∈X.pn++pins,p.1≠b)
  (keep:∀b o,b≠X.env.locals->b∉X.fs->b∉ch->s.heap.get? b=some o->H b=none->h'.get? b=some o)
  (slot:∀b o,b≠X.env.locals->b∈X.fs->b∉ch->s.heap.get? b=some o->H b=none->∃sl,h'.get? b=some { o with slots:=sl }) (free:∀b o,b∉ch->s.heap.get? b=some o->H b=none->H' b=none)
  (there:∀b o,b∉ch->s.heap.get? b=some o->∃o',h'.get? b=some o')
  (tups:∀b U,H b=some (.tup U)->H' b=some (.tup U)) (frzs:∀b o u,H b=some (.frz o u)->H' b=some (.frz o u)) (tbls:∀b ps,H b=some (.tbl ps)->∃more,H' b=some (.tbl (ps++more)))
  (ns:∀m,s.heap.Ns X.env.locals m->h'.Ns X.env.locals m) (hok:HOk X.prog X.w H' h') (hg:AllBare g') :
  Inv X pins σ H' { s with heap:=h',gens:=g',drawn:=d',toks:=t' }:=by
 have neL:∀b o,X.s₀.heap.get? b=some o->b≠X.env.locals:=fun b o e=>zG (qJ (Heap.lt_size e) I.ok.above);have O:∀b o,X.s₀.heap.get? b=some o->b∉X.ex->b∉ch:=fun b o e B Y=>by
  rcases(G b Y).1 with z|z
  ·exact B z
  ·exact absurd (qJ (Heap.lt_size e) z) (zt _)
 have cellK:∀x c,X.env.cells.lookup x=some c->∀v,s.heap.IsCell c v->h'.IsCell c v:=fun x c e v ⟨o,ho,hd⟩=>by
  have J:c∉ch:=fun z=>(G c z).2.2.1 x c e rfl;by_cases hc:c∈X.fs
  ·obtain⟨sl,q⟩:=slot c o (I.cne x c e) hc J ho (I.freeC x c e);exact⟨_,q,hd⟩
  ·exact⟨o,keep c o (I.cne x c e) hc J ho (I.freeC x c e),hd⟩
 refine⟨I.ok,I.os,hg,⟨fun b o e n Y B=>?_,fun b o e n Y B=>?_,fun b o e n B=>?_,fun b o e B=>?_,fun b U e=>tups b U (I.base.tups b U e),fun b o U e=>frzs b o U (I.base.frzs b o U e),fun b ps e=>?_⟩,?_,fun x c e=>?_,?_,fun x c e=>?_,fun p hp=>?_,hok,I.len⟩
 ·exact keep b o (neL b o e) Y (O b o e B) (I.base.keep b o e n Y B) (I.base.free b o e n B)
 ·obtain⟨sl,M⟩:=I.base.slot b o e n Y B;obtain⟨sl',e2⟩:=slot b _ (neL b o e) Y (O b o e B) M (I.base.free b o e n B);exact⟨sl',e2⟩
 ·obtain⟨o',M⟩:=I.base.there b o e B;exact free b o' (O b o e B) M (I.base.free b o e n B)
 ·obtain⟨o',M⟩:=I.base.there b o e B;exact there b o' (O b o e B) M
 ·obtain⟨m1,M⟩:=I.base.tbls b ps e;obtain⟨m2,e2⟩:=tbls b _ M;exact⟨m1++m2,by rw[e2,Array.append_assoc]⟩
 ·obtain⟨m,hn,hl⟩:=I.loc;refine⟨m,ns m hn,fun i x v M e2 e3=>?_⟩;obtain⟨u,r,l⟩:=hl i x v M e2 e3;refine⟨u,r,?_⟩;rcases l with l|⟨k,c,e,z⟩
  ·exact .inl l
  ·exact .inr ⟨k,c,e,cellK x c e _ z⟩
 ·obtain⟨v,z⟩:=I.cell x c e;exact⟨v,cellK x c e v z⟩
 ·obtain⟨m,⟨o,_,_,ho,_⟩,_⟩:=I.loc;exact free _ o (fun z=>(G _ z).2.1 rfl) ho I.free
 ·obtain⟨v,o,ho,hd⟩:=I.cell x c e;exact free c o (fun z=>(G c z).2.2.1 x c e rfl) ho (I.freeC x c e)
 ·obtain⟨e,n,ne,nf,d⟩:=I.pin p hp;have J:p.1∉ch:=fun z=>(G p.1 z).2.2.2 p hp rfl;exact⟨keep p.1 p.2 ne nf J e n,free p.1 p.2 J e n,ne,nf,d⟩
theorem Inv.un {t':Nat}(I:Inv X pins σ H s)(u:Un X.fs [] H H' s.heap h')(hok:HOk X.prog X.w H' h'):Inv X pins σ H' { s with heap:=h',toks:=t' }:=by
 obtain⟨m,⟨o,es,ep,O,r⟩,_⟩:=id I.loc;obtain⟨sl,Y⟩:=u.any O I.free (by simp);exact I.step (g':=s.gens) (d':=s.drawn) (ch:=[]) (fun _ z=>nomatch z) (fun b o _ M _ e n=>u.keep b o e n M (by simp)) (fun b o _ M _ e n=>u.slot b o e n M (by simp)) (fun b o _ e n=>u.free b o e n (by simp)) (fun b o _ e=>u.there b o e (by simp)) u.tups u.frzs u.tbls (fun m' U=>by
  obtain⟨o',J,G,B,r'⟩:=U;rw[O]at B;cases B
  exact⟨_,J,G,Y,r'⟩) hok I.bare
theorem Inv.call {g':Array GenState}{t':Nat}{d':Drawn}{ch:List Addr}(I:Inv X pins σ H s)(u:Un (frs X.stack) ch H H' s.heap h')(hok:HOk X.prog X.w H' h')(hg:AllBare g')
  (G:∀b∈ch,(b∈X.ex\/X.s₀.heap.objs.size<=b)/\b≠X.env.locals/\(∀x c,X.env.cells.lookup x=some c->c≠b)/\∀p∈X.pn++pins,p.1≠b) :
  Inv X pins σ H' { s with heap:=h',gens:=g',drawn:=d',toks:=t' }:=by
 obtain⟨m,⟨o,es,ep,Y,r⟩,_⟩:=id I.loc;obtain⟨sl,U⟩:=u.any Y I.free fun z=>(G _ z).2.1 rfl;exact I.step (ch:=ch) G (fun b o U hb B e n=>u.keep b o e n (fun z=>(zD.mp (I.stkSub b z)).elim U hb) B) (fun b o _ _ B e n=>u.any e n B) (fun b o B e n=>u.free b o e n B) (fun b o B e=>u.there b o e B) u.tups u.frzs u.tbls (fun m' hm=>by
  obtain⟨o',O,M,J,r'⟩:=hm;rw[Y]at J;cases J
  exact⟨_,O,M,U,r'⟩) hok hg
theorem Inv.turned {t':Nat}{it:Addr}(I:Inv X pins σ H s)(k:∀b o,b≠it->s.heap.get? b=some o->h'.get? b=some o)(hn:H it=none)(J:it≠X.env.locals)
  (h1:it∈X.ex\/X.s₀.heap.objs.size<=it) (h2:∀x c,X.env.cells.lookup x=some c->c≠it) (U:∀p∈X.pn++pins,p.1≠it):Inv X pins σ H { s with heap:=h',toks:=t' }:=by
 have G:∀b u,H b=some u->b≠it:=fun b u e z=>by rw[z,hn]at e;cases e
 refine I.step (g':=s.gens) (d':=s.drawn) (ch:=[it]) (fun b hb=>?_) (fun b o _ _ B e _=>k b o (fun z=>B (by simp[z])) e) (fun b o _ _ B e _=>⟨o.slots,k b o (fun z=>B (by simp[z])) e⟩) (fun _ _ _ _ n=>n)
  (fun b o B e=>⟨o,k b o (fun z=>B (by simp[z])) e⟩) (fun _ _ e=>e) (fun _ _ _ e=>e) (fun b ps e=>⟨#[],by rw[e];simp⟩) (fun m hm=>?_) (fun b u e=>?_) I.bare
 ·have e:b=it:=by simpa using hb
  subst e;exact⟨h1,J,h2,U⟩
 ·obtain⟨o,O,Y,M,r⟩:=hm;exact⟨o,O,Y,k _ o (Ne.symm J) M,r⟩
 ·refine(I.hok b u e).stay (fun c v B q=>k c v ?_ q) (fun _ q=>q) fun _ _ q=>q;rcases B with z|z
  ·rw[z];exact G b u e
  ·exact G c _ z
theorem Inv.tok (I:Inv X pins σ H s)(t:Nat):Inv X pins σ H { s with toks:=t }:=I.un (h':=s.heap) (t':=t) Un.refl I.hok
theorem Inv.kept {t':Nat}(I:Inv X pins σ H s)(k:∀b u,s.heap.get? b=some u->h'.get? b=some u):Inv X pins σ H { s with heap:=h',toks:=t' }:=I.un (Un.kept k) (I.hok.kept k)
theorem Inv.laid {a:Addr}{o:HO}{t':Nat}(I:Inv X pins σ H s)(k:∀b u,s.heap.get? b=some u->h'.get? b=some u)(z:s.heap.objs.size<=a)(new:ObjOk X.prog X.w (upd H a o) h' a o) :
  Inv X pins σ (upd H a o) { s with heap:=h',toks:=t' }:=I.un (Un.laid k z (I.hok.fresh z)) (I.hok.laid k z new)
theorem Inv.write {x e:Addr}{o:HO}{t':Nat}(I:Inv X pins σ H s)(G:Mut (H x))(B:e=x\/H e=some (.own x))(k:∀b u,b≠e->s.heap.get? b=some u->h'.get? b=some u)(z:∃u,h'.get? e=some u)
  (new:ObjOk X.prog X.w (upd H x o) h' x o):Inv X pins σ (upd H x o) { s with heap:=h',toks:=t' }:=I.un (Un.write G B k z) (I.hok.write G B k z new)
theorem Inv.pins_of {B:List (Addr×Obj)}(I:Inv X pins σ H s)(h:∀p∈B,s.heap.get? p.1=some p.2/\H p.1=none/\p.1≠X.env.locals/\p.1∉X.fs/\∀v,p.2.data≠.cell v):Inv X B σ H s :=
 ⟨I.ok,I.os,I.bare,I.base,I.loc,I.cell,I.free,I.freeC,fun p G=>(zK.mp G).elim (fun z=>I.pin p (yt _ z)) (h p),I.hok,I.len⟩
theorem nodup_ix {N:List Str}(G:N.Nodup){i j:Nat}{x:Str}(a:N[i]? = some x)(b:N[j]? = some x):i=j:=by
 obtain⟨M,B⟩:=qB.mp a;obtain⟨J,z⟩:=qB.mp b;exact(List.getElem_inj G).mp (B.trans z.symm)
theorem store_ok2 {M:Model}{A:Around}{E:Value->Shared->Prop}{i:Nat}{x:Str}{v:V}{u:Value}{Q:Unit->Shared->Prop}(I:Inv X pins σ H s)(hN:X.N.Nodup)(hi:X.N[i]? = some x)(O:Loc X.env.scope x)(r:RelV v u)
  (h:∀s',Inv X pins (σ.set i (some v)) H s'->(∃a,Heap.SameBut a s.heap s'.heap/\(a=X.env.locals\/X.env.cells.lookup x=some a))->Q () s') (hf:X.fn x=true\/X.env.scope.names.lookup x=some .local:=by first|exact .inl rfl|exact .inr rfl|assumption):wpAny M A (storeName X.env x u) Q E s:=by
 obtain⟨m,hn,hl⟩:=id I.loc;have hcls:(X.env.scope.kind==.class || (X.env.scope.kind==.module&&X.env.locals != X.env.globals))=false:=by rw[I.ok.kind];rfl
 have hiσ:i<σ.length:=by rw[I.len];exact(qB.mp hi).1
 have cne:=I.cne;have tracked:∀{a:Addr} {h':Heap},(∃o,s.heap.get? a=some o/\H a=none)->Heap.SameBut a s.heap h'->HOk X.prog X.w H h':=fun {a h'} ha B b ob e=>by
  obtain⟨_,_,U⟩:=ha;refine(I.hok b ob e).stay (fun c w' J q=>(B.2 c ?_).trans q) (fun _ q=>q) fun _ _ q=>q;rintro rfl;rcases J with rfl|J
  ·rw[U]at e;cases e
  ·rw[U]at J;cases J
 rcases O with hk|hk
 ·refine wpAny_storeName_local hk hn (fun h' hn' B=>?_) hcls;obtain⟨oL,_,_,hoL,_⟩:=id hn;refine h _ ⟨I.ok,I.os,I.bare,⟨fun b o e n hb O=>?_,fun b o e n hb O=>?_,I.base.free,fun b o e O=>?_,I.base.tups,I.base.frzs,I.base.tbls⟩,⟨_,hn',fun j y v' G Y e3=>?_⟩,fun y c e=>?_,I.free,I.freeC,fun p hp=>?_,tracked ⟨oL,hoL,I.free⟩ B,by simpa using I.len⟩ ⟨_,B,.inl rfl⟩
  ·exact(B.2 b (zG (qJ (Heap.lt_size e) I.ok.above))).trans (I.base.keep b o e n hb O)
  ·obtain⟨sl,G⟩:=I.base.slot b o e n hb O;exact⟨sl,(B.2 b (zG (qJ (Heap.lt_size e) I.ok.above))).trans G⟩
  ·obtain⟨o',G⟩:=I.base.there b o e O;exact⟨o',(B.2 b (zG (qJ (Heap.lt_size e) I.ok.above))).trans G⟩
  ·by_cases hj:j=i
   ·subst hj;rw[hi]at G;cases G
    rw[List.getElem?_set_self hiσ]at Y;cases Y
    exact⟨u,r,.inl ⟨hk,by simp⟩⟩
   ·rw[List.getElem?_set_ne (Ne.symm hj)]at Y;obtain⟨u',r',q⟩:=hl j y v' G Y e3;refine⟨u',r',?_⟩;rcases q with⟨k,e⟩|⟨k,c,e,z⟩
    ·refine .inl ⟨k,?_⟩;have:y≠x:=fun e=>hj (nodup_ix hN G (e ▸ hi));simp[this,e]
    ·exact .inr ⟨k,c,e,z.sameBut B (cne y c e)⟩
  ·obtain⟨w',z⟩:=I.cell y c e;exact⟨w',z.sameBut B (cne y c e)⟩
  ·obtain⟨e,n,ne,nf,d⟩:=I.pin p hp;exact⟨(B.2 p.1 ne).trans e,n,ne,nf,d⟩
 ·have hfn:X.fn x=true:=by
   rcases hf with z|z
   ·exact z
   ·rw[z]at hk;cases hk
  obtain⟨c,J⟩:=I.ok.has x (.inl hk);obtain⟨w',z⟩:=I.cell x c J;refine wpAny_storeName_cell I.ok.kind hk J z (fun h' hc' B=>?_);obtain⟨oc,hoc,hocd⟩:=id z;refine h { s with heap:=h' } ⟨I.ok,I.os,I.bare,⟨fun b o e n hb O=>?_,fun b o e n hb O=>?_,I.base.free,fun b o e O=>?_,I.base.tups,I.base.frzs,I.base.tbls⟩,⟨m,hn.sameBut B (Ne.symm (cne x c J)),fun j y v' G Y e3=>?_⟩,fun y c' e=>?_,I.free,I.freeC,fun p hp=>?_,tracked ⟨oc,hoc,I.freeC x c J⟩ B,by simpa using I.len⟩ ⟨c,B,.inr J⟩
  ·exact(B.2 b (zG (qJ (Heap.lt_size e) (I.ok.cab x c hfn J)))).trans (I.base.keep b o e n hb O)
  ·obtain⟨sl,G⟩:=I.base.slot b o e n hb O;exact⟨sl,(B.2 b (zG (qJ (Heap.lt_size e) (I.ok.cab x c hfn J)))).trans G⟩
  ·obtain⟨o',G⟩:=I.base.there b o e O;exact⟨o',(B.2 b (zG (qJ (Heap.lt_size e) (I.ok.cab x c hfn J)))).trans G⟩
  ·by_cases hj:j=i
   ·subst hj;rw[hi]at G;cases G
    rw[List.getElem?_set_self hiσ]at Y;cases Y
    exact⟨u,r,.inr ⟨.inl hk,c,J,hc'⟩⟩
   ·rw[List.getElem?_set_ne (Ne.symm hj)]at Y;obtain⟨u',r',q⟩:=hl j y v' G Y e3;refine⟨u',r',?_⟩;rcases q with q|⟨k,c',e,z'⟩
    ·exact .inl q
    ·refine .inr ⟨k,c',e,z'.sameBut B ?_⟩;rintro rfl;exact hj (nodup_ix hN G (I.ok.inj _ _ _ e J ▸ hi))
  ·by_cases hcc:c'=c
   ·subst hcc;exact⟨_,hc'⟩
   ·obtain⟨w2,z2⟩:=I.cell y c' e;exact⟨w2,z2.sameBut B hcc⟩
  ·obtain⟨e,n,ne,nf,d⟩:=I.pin p hp;refine⟨(B.2 p.1 ?_).trans e,n,ne,nf,d⟩;intro q;rw[q,hoc]at e;have q':oc=p.2:=Option.some.inj e;exact d w' (by rw[<-q'];exact hocd)
theorem store_ok {M:Model}{A:Around}{E:Value->Shared->Prop}{i:Nat}{x:Str}{v:V}{u:Value}{Q:Unit->Shared->Prop}(I:Inv X pins σ H s)(B:X.N.Nodup)(U:X.N[i]? = some x)(O:Loc X.env.scope x)(r:RelV v u)
  (h:∀z,Inv X pins (σ.set i (some v)) H z->Q () z) (G:X.fn x=true\/X.env.scope.names.lookup x=some .local:=by first|exact .inl rfl|exact .inr rfl|assumption):wpAny M A (storeName X.env x u) Q E s :=
 store_ok2 I B U O r (fun z J _=>h z J) G
theorem Inv.call' {s':Shared}{ch:List Addr}(I:Inv X pins σ H s)(M:s'.os=s.os)(u:Un (frs X.stack) ch H H' s.heap s'.heap)(hok:HOk X.prog X.w H' s'.heap)(O:AllBare s'.gens)
  (z:∀b∈ch,(b∈X.ex\/X.s₀.heap.objs.size<=b)/\b≠X.env.locals/\(∀x c,X.env.cells.lookup x=some c->c≠b)/\∀p∈X.pn++pins,p.1≠b):Inv X pins σ H' s':=by
 obtain⟨h',G,B,J,U⟩:=s';have e:U=s.os:=M;subst e;exact I.call (g':=G) (t':=J) (d':=B) u hok O z
end
abbrev XK:=Value->Option Addr->Hp->Prop
abbrev St:=List (Option V)
abbrev VK:=V->Hp->Prop
abbrev TE:=St->Hp->VK->Prop
abbrev TT:=St->Hp->(Bool->Hp->Prop)->Prop
abbrev TA:=St->Hp->(List V->Hp->Prop)->Prop
structure Ends where
 nx:St->Hp->Prop
 rt:VK
 bk:St->Hp->Prop:=fun _ _=>False
 ct:St->Hp->Prop:=fun _ _=>False
abbrev TS:=Ends->St->Hp->Prop
def EP (X:Cx)(pins:List (Addr×Obj))(B:St)(Q:VK)(u:Value)(s':Shared):Prop:=∃v z,Inv X pins B z s'/\RelV v u/\Q v z
def TP (X:Cx)(pins:List (Addr×Obj))(B:St)(Q:Bool->Hp->Prop)(b:Bool)(s':Shared):Prop:=∃z,Inv X pins B z s'/\Q b z
def AP (X:Cx)(pins:List (Addr×Obj))(G:St)(Q:List V->Hp->Prop)(us:List Value)(s':Shared):Prop:=∃B z,Inv X pins G z s'/\Vals B us/\Q B z
def SP (X:Cx)(pins:List (Addr×Obj))(D:Ends)(f:Flow)(s':Shared):Prop :=
 match f with
 |.next=>∃z B,Inv X pins z B s'/\D.nx z B
 |.brk=>∃z B,Inv X pins z B s'/\D.bk z B
 |.cont=>∃z B,Inv X pins z B s'/\D.ct z B
 |.ret u=>∃v z B,Inv X pins z B s'/\RelV v u/\D.rt v B
def PE (X:Cx)(e:Expr)(t:TE):Prop :=
 ∀(pins:List (Addr×Obj)) (s:Shared) (z:St) (H:Hp) (Q:VK),Inv X pins z H s->t z H Q->wpAny (model X.prog X.w) X.A (eval e X.env) (EP X pins z Q) X.xe s
def PT (X:Cx)(e:Expr)(t:TT):Prop :=
 ∀(pins:List (Addr×Obj)) (s:Shared) (z:St) (H:Hp) (Q:Bool->Hp->Prop),Inv X pins z H s->t z H Q->wpAny (model X.prog X.w) X.A (isTrue e X.env (eval e X.env)) (TP X pins z Q) X.xe s
def PW (X:Cx)(e:Expr)(t:TT):Prop :=
 ∀(whole:Sem Value) (pins:List (Addr×Obj)) (s:Shared) (z:St) (H:Hp) (Q:Bool->Hp->Prop),Inv X pins z H s->t z H Q->wpAny (model X.prog X.w) X.A (isTrue e X.env whole) (TP X pins z Q) X.xe s
theorem PW.pt {X:Cx}{e:Expr}{t:TT}(h:PW X e t):PT X e t:=h _
def PA (X:Cx)(es:List Expr)(t:TA):Prop :=
 ∀(pos:Pos) (pins:List (Addr×Obj)) (s:Shared) (z:St) (H:Hp) (Q:List V->Hp->Prop),Inv X pins z H s->t z H Q->wpAny (model X.prog X.w) X.A (spliced (backTo pos (starEach es X.env))) (AP X pins z Q) X.xe s
def PS (X:Cx)(st:Stmt)(t:TS):Prop :=
 ∀(pins:List (Addr×Obj)) (s:Shared) (z:St) (H:Hp) (D:Ends),Inv X pins z H s->t D z H->wpAny (model X.prog X.w) X.A (exec st X.env) (SP X pins D) X.xe s
def PSs (X:Cx)(st:List Stmt)(t:TS):Prop :=
 ∀(pins:List (Addr×Obj)) (s:Shared) (z:St) (H:Hp) (D:Ends),Inv X pins z H s->t D z H->wpAny (model X.prog X.w) X.A (execs st X.env) (SP X pins D) X.xe s
theorem thn {B:Type}{t:Sem B}{Q z:B->Shared->Prop}{M:Model}{A:Around}{E:Value->Shared->Prop}{s:Shared}(h:wpAny M A t Q E s)(G:∀a s,Q a s->z a s):wpAny M A t z E s:=wpAny_mono h G fun _ _ x=>x
section
variable {X:Cx}
def tVar (i:Nat):TE:=fun z H Q=>∃v,z[i]? = some (some v)/\Q v H
def tC (v:V):TE:=fun _ H Q=>Q v H
theorem pe_var {i:Nat} {x:Str} {pos:Pos} (Y:X.N[i]? = some x) (hv:Vis X.env.scope x) (G:(x==("__debug__" : Str))=false:=by decide) (J:(x==("__classdict__" : Str))=false:=by decide):PE X (.Name x pos) (tVar i):=by
 intro pins s σ H Q I h;obtain⟨v,e,h⟩:=h;obtain⟨m,hn,O⟩:=I.loc;obtain⟨u,r,l⟩:=O i x v Y e hv;have fin:EP X pins σ Q u s:=⟨v,H,I,r,h⟩;rcases l with⟨B,U⟩|⟨B,c,M,z⟩
 ·exact wpAny_Name (wpAny_loadName_local I.ok.kind B hn U fin) G
 ·rcases B with B|B
  ·exact wpAny_Name (wpAny_loadName_cell I.ok.kind B M z fin) G
  ·exact wpAny_Name (wpAny_loadName_free I.ok.kind B M z fin J) G
theorem pe_int {i j pos}:PE X (.Constant (.int i) j pos) (tC (.int i)):=fun _ _ _ H _ I h=>wpAny_Constant_int ⟨.int i,H,I.tok _,⟨_,rfl⟩,h⟩
theorem pe_bl {b j pos}:PE X (.Constant (.bool b) j pos) (tC (.bl b)):=fun _ _ _ H _ I h=>Constant_bool ⟨.bl b,H,I,rfl,h⟩
theorem pe_non {j pos}:PE X (.Constant .none j pos) (tC .non):=fun _ _ _ H _ I h=>Constant_none ⟨.non,H,I,rfl,h⟩
theorem pe_str {x j pos}:PE X (.Constant (.str x) j pos) (tC (.str x)):=fun _ _ _ H _ I h=>Calls.Constant_str ⟨.str x,H,I.tok _,⟨_,rfl⟩,h⟩
def Gl (X:Cx)(x:Str):Prop:=X.env.kindOf x=some .globalImplicit
theorem ld_glob {E:Value->Shared->Prop}{pins:List (Addr×Obj)}{s:Shared}{G:St}{H:Hp}{x:Str}{u:Value}{pos:Pos}{Q:Value->Shared->Prop}(I:Inv X pins G H s)(z:Gl X x)(J:X.mg x=some u)(h:Q u s)
  (B:(x==("__debug__" : Str))=false:=by decide):wpAny (model X.prog X.w) X.A (eval (.Name x pos) X.env) Q E s :=
 Calls.Name_function_global I.ok.kind z (Calls.loadGlobal_global (by rw[I.ok.glob];exact I.mod.glob.keeps I.bk) J h) B
theorem Jf {E:Value->Shared->Prop}{pins:List (Addr×Obj)}{s:Shared}{O:St}{H:Hp}{x:Str}{u:Value}{pos:Pos}{Q:Value->Shared->Prop}(I:Inv X pins O H s)(G:Gl X x)(z:X.mg x=none)(M:bootBuiltins x=some u)(h:Q u s)
  (Y:x ≠ "__name__":=by decide) (J:(x==("__debug__" : Str))=false:=by decide):wpAny (model X.prog X.w) X.A (eval (.Name x pos) X.env) Q E s:=by
 obtain⟨mb,U,B⟩:=I.mod.blt;exact Calls.Name_function_global I.ok.kind G (Calls.loadGlobal_builtin (by rw[I.ok.glob];exact I.mod.glob.keeps I.bk) z (by rw[I.ok.blt];exact U.keeps I.bk) ((B x Y).trans M) h) J
theorem pe_glob {x:Str} {v:V} {u:Value} {pos:Pos} (z:Gl X x) (G:X.mg x=some u) (r:RelV v u) (B:(x==("__debug__" : Str))=false:=by decide):PE X (.Name x pos) (tC v) :=
 fun _ _ _ H _ I h=>ld_glob I z G ⟨v,H,I,r,h⟩ B
theorem pe_bltn {x:Str} {v:V} {u:Value} {pos:Pos} (z:Gl X x) (J:X.mg x=none) (G:bootBuiltins x=some u) (r:RelV v u) (M:x ≠ "__name__":=by decide) (B:(x==("__debug__" : Str))=false:=by decide):PE X (.Name x pos) (tC v) :=
 fun _ _ _ H _ I h=>Jf I z J G ⟨v,H,I,r,h⟩ M B
variable {a b:Expr}{ta tb:TE}{pos:Pos}
def tIsN (ta:TE):TE:=fun B H Q=>ta B H fun x z=>Q (.bl (decide (x=.non))) z
def tNotN (ta:TE):TE:=fun B H Q=>ta B H fun x z=>Q (.bl (!decide (x=.non))) z
def tB (t:TE):TT:=fun B H Q=>t B H fun x z=>∃c,x=.bl c/\Q c z
theorem pt_val {e:Expr}{t:TE}(h:PE X e t)(B:∀whole,isTrue e X.env whole=(do let v ← whole;standAt e.pos;holding [v] (truthy v)):=by intro _;rfl):PT X e (tB t):=by
 intro pins s M H Q I O;refine isTrue_plain (thn (h pins s M H _ I O) fun v Y ⟨x,U,J,G,z⟩=>?_) (B _);obtain⟨d,rfl,q⟩:=z;cases G
 exact wpAny_truthy_bool ⟨U,J,q⟩
variable {tA tB':TT}{rest:List Expr}
def tAnd (t u:TT):TT:=fun B H Q=>t B H fun c z=>if c=true then u B z Q else Q false z
def tOr (t u:TT):TT:=fun B H Q=>t B H fun c z=>if c=true then Q true z else u B z Q
def tNot (t:TT):TT:=fun B H Q=>t B H fun c z=>Q (!c) z
theorem Jo (B:PT X a tA):PW X (.BoolOp .And [a] pos) tA:=by
 intro G pins s z H Q I h;refine isTrue_and (thn (B pins s z H Q I h) fun c J e=>?_);cases c with
 |true=>exact isTrue_and_nil e
 |false=>exact e
theorem pw_or1 (B:PT X a tA):PW X (.BoolOp .Or [a] pos) tA:=by
 intro G pins s z H Q I h;refine isTrue_or (thn (B pins s z H Q I h) fun c J e=>?_);cases c with
 |false=>exact isTrue_or_nil e
 |true=>exact e
theorem pw_and (U:PT X a tA)(Y:PW X (.BoolOp .And (b::rest) pos) tB'):PW X (.BoolOp .And (a::b::rest) pos) (tAnd tA tB'):=by
 intro M pins s G H Q I h;refine isTrue_and (thn (U pins s G H _ I h) fun c O ⟨J,B,z⟩=>?_);cases c with
 |true=>exact Y M pins O G J Q B z
 |false=>exact⟨J,B,z⟩
theorem pw_or (U:PT X a tA)(Y:PW X (.BoolOp .Or (b::rest) pos) tB'):PW X (.BoolOp .Or (a::b::rest) pos) (tOr tA tB'):=by
 intro M pins s G H Q I h;refine isTrue_or (thn (U pins s G H _ I h) fun c O ⟨J,B,z⟩=>?_);cases c with
 |true=>exact⟨J,B,z⟩
 |false=>exact Y M pins O G J Q B z
theorem pt_not (G:PT X a tA):PT X (.UnaryOp .Not a pos) (tNot tA):=by
 intro pins s z H Q I h;exact isTrue_not (G pins s z H (fun c B=>Q (!c) B) I h)
def tAndV (ta tb:TE):TE:=fun B H Q=>ta B H fun x z=>∃c,x=.bl c/\if c=true then tb B z Q else Q (.bl false) z
def tOrV (ta tb:TE):TE:=fun B H Q=>ta B H fun x z=>∃c,x=.bl c/\if c=true then Q (.bl true) z else tb B z Q
def tNotV (ta:TE):TE:=fun B H Q=>ta B H fun x z=>∃c,x=.bl c/\Q (.bl (!c)) z
theorem jy {op}{t:TE}(h:PE X a t):PE X (.BoolOp op [a] pos) t:=fun pins s z H Q I B=>BoolOp_one (h pins s z H Q I B)
theorem JF (U:PE X a ta)(Y:PE X (.BoolOp .And (b::rest) pos) tb):PE X (.BoolOp .And (a::b::rest) pos) (tAndV ta tb):=by
 intro pins s G H Q I h;refine BoolOp_and (thn (U pins s G H _ I h) fun v M ⟨x,J,B,O,z⟩=>?_);obtain⟨c,rfl,z⟩:=z;cases O
 refine wpAny_truthy_bool ?_;cases c with
 |true=>exact Y pins M G J Q B z
 |false=>exact⟨.bl false,J,B,rfl,z⟩
theorem pe_or (U:PE X a ta)(Y:PE X (.BoolOp .Or (b::rest) pos) tb):PE X (.BoolOp .Or (a::b::rest) pos) (tOrV ta tb):=by
 intro pins s G H Q I h;refine BoolOp_or (thn (U pins s G H _ I h) fun v M ⟨x,J,B,O,z⟩=>?_);obtain⟨c,rfl,z⟩:=z;cases O
 refine wpAny_truthy_bool ?_;cases c with
 |false=>exact Y pins M G J Q B z
 |true=>exact⟨.bl true,J,B,rfl,z⟩
theorem pe_not (M:PE X a ta):PE X (.UnaryOp .Not a pos) (tNotV ta):=by
 intro pins s J H Q I h;refine UnaryOp_ (thn (M pins s J H _ I h) fun v U ⟨x,O,G,B,z⟩=>?_);obtain⟨c,rfl,z⟩:=z;cases B
 exact not_of (wpAny_truthy_bool ⟨.bl (!c),O,G,rfl,z⟩)
def tIf (t:TT)(ta tb:TE):TE:=fun z H Q=>t z H fun c B=>if c=true then ta z B Q else tb z B Q
theorem pe_ifExp {c:Expr}(O:PT X c tA)(U:PE X a ta)(Y:PE X b tb):PE X (.IfExp c a b pos) (tIf tA ta tb):=by
 intro pins s z H Q I h;refine wpAny_IfExp (thn (O pins s z H _ I h) fun d M ⟨J,G,B⟩=>?_);cases d with
 |true=>exact U pins M z J Q G B
 |false=>exact Y pins M z J Q G B
end
def SqL (K:zA)(H:Hp)(a:Addr)(xs:List V):Prop :=
 Rd H a (.lst xs) \/
  ∃(o:Obj) (z:Array Value) (n:Nat),K.lookup a=some o/\o.cls=.type "list" /\ o.dict=none/\o.data=.seq z n/\z.size<=sizeLine/\Vals xs z.toList
def SqT (K:zA)(H:Hp)(a:Addr)(xs:List V):Prop :=
 Rd H a (.tup xs) \/
  ∃(o:Obj) (z:Array Value) (n:Nat),K.lookup a=some o/\o.cls=.type "tuple" /\ o.data=.seq z n/\z.size<=sizeLine/\Vals xs z.toList
def absV:Value->Option V
 |.none=>some .non
 |.bool b=>some (.bl b)
 |.int i _=>some (.int i)
 |.str x _=>some (.str x)
 |.bytes b _=>some (.byt b)
 |.float b _=>some (.flt b)
 |.ref a=>some (.ref a)
 |.type n=>some (.ty n)
 |_=>none
theorem RelV.abs {x:V}{u:Value}(r:RelV x u):absV u=some x:=by
 cases x with
 |non=>cases r;rfl
 |bl _=>cases r;rfl
 |int _=>obtain⟨t,rfl⟩:=r;rfl
 |str _=>obtain⟨t,rfl⟩:=r;rfl
 |byt _=>obtain⟨t,rfl⟩:=r;rfl
 |flt _=>obtain⟨t,rfl⟩:=r;rfl
 |ref _=>cases r;rfl
 |ty _=>cases r;rfl
theorem RelV.inj {x y:V}{u:Value}(r:RelV x u)(q:RelV y u):x=y:=Option.some.inj (r.abs.symm.trans q.abs)
theorem Vals.inj:∀{xs z:List V} {us:List Value},Vals xs us->Vals z us->xs=z
 |_,_,_,.nil,.nil=>rfl
 |_,_,_,.cons r t,.cons B G=>by rw[r.inj B,Vals.inj t G]
section
variable {X:Cx}{pins:List (Addr×Obj)}{σ:St}{H:Hp}{s:Shared}{a:Addr}{xs ys:List V}
theorem SqL.of {K:zA}(h:H a=some (.lst xs)):SqL K H a xs:=.inl (.inl h)
theorem SqT.of {K:zA}(h:H a=some (.tup xs)):SqT K H a xs:=.inl (.inl h)
theorem Inv.list (I:Inv X pins σ H s)(h:SqL X.K H a xs):∃B:List Value,Vals xs B/\PlainL s.heap a B.toArray/\xs.length<=sizeLine:=by
 rcases h with h|⟨o,B,n,J,O,M,G,U,r⟩
 ·obtain⟨z,B,n,r,e⟩:=h.ok I.hok;exact⟨B,r,⟨_,n,e,rfl,rfl,rfl⟩,z⟩
 ·refine⟨B.toList,r,⟨o,n,I.kIn a o J,O,M,by simpa using G⟩,?_⟩;have e:=r.length;simp only[zC]at e;omega
theorem Inv.tuple (I:Inv X pins σ H s)(h:SqT X.K H a xs):∃B:List Value,Vals xs B/\IsTup s.heap a B.toArray/\xs.length<=sizeLine:=by
 rcases h with h|⟨o,B,n,J,M,G,O,r⟩
 ·obtain⟨z,B,r,p⟩:=h.ok I.hok;exact⟨B,r,p,z⟩
 ·refine⟨B.toList,r,⟨o,I.kIn a o J,M,n,by simpa using G⟩,?_⟩;have e:=r.length;simp only[zC]at e;omega
theorem Inv.list_inj (I:Inv X pins σ H s)(h:SqL X.K H a xs)(h':SqL X.K H a ys):xs=ys:=by
 obtain⟨B,r,⟨o,n,e,_,_,d⟩,_⟩:=I.list h;obtain⟨z,M,⟨O,U,J,_,_,G⟩,_⟩:=I.list h';rw[e]at J;cases J
 rw[d]at G;injection G with d1 _
 have:B=z:=by simpa using congrArg Array.toList d1
 subst this;exact r.inj M
theorem Inv.tuple_inj (I:Inv X pins σ H s)(h:SqT X.K H a xs)(h':SqT X.K H a ys):xs=ys:=by
 obtain⟨B,r,⟨o,e,_,n,d⟩,_⟩:=I.tuple h;obtain⟨z,M,⟨O,J,_,U,G⟩,_⟩:=I.tuple h';rw[e]at J;cases J
 rw[d]at G;injection G with d1 _
 have:B=z:=by simpa using congrArg Array.toList d1
 subst this;exact r.inj M
end
abbrev Cx.wish (X:Cx) (E:Value->Shared->Prop):Cx:={ X with xe:=E }
abbrev Cx.nox (X:Cx):Cx:=X.wish fun _ _=>False
theorem Cx.Ok.wish {X:Cx}(ok:X.Ok)(E:Value->Shared->Prop):(X.wish E).Ok :=
 ⟨ok.mod,ok.kind,ok.glob,ok.blt,ok.above,ok.inj,ok.has,ok.cab,ok.hd,ok.frames,ok.stk,ok.exf,ok.bs,ok.bsz,ok.noex,ok.exfs,ok.funs,ok.frf⟩
theorem Cx.Ok.unwish {X:Cx}{E:Value->Shared->Prop}(ok:(X.wish E).Ok):X.Ok :=
 ⟨ok.mod,ok.kind,ok.glob,ok.blt,ok.above,ok.inj,ok.has,ok.cab,ok.hd,ok.frames,ok.stk,ok.exf,ok.bs,ok.bsz,ok.noex,ok.exfs,ok.funs,ok.frf⟩
section
variable {X:Cx}{pins:List (Addr×Obj)}{σ:St}{H:Hp}{s:Shared}{E:Value->Shared->Prop}
theorem Inv.wish (I:Inv X pins σ H s)(E:Value->Shared->Prop):Inv (X.wish E) pins σ H s:=⟨I.ok.wish E,I.os,I.bare,I.base,I.loc,I.cell,I.free,I.freeC,I.pin,I.hok,I.len⟩
theorem Inv.unwish (I:Inv (X.wish E) pins σ H s):Inv X pins σ H s:=⟨I.ok.unwish,I.os,I.bare,I.base,I.loc,I.cell,I.free,I.freeC,I.pin,I.hok,I.len⟩
theorem SP.unwish {D:Ends}{f:Flow}{s':Shared}(h:SP (X.wish E) pins D f s'):SP X pins D f s':=by
 cases f with
 |next=>obtain⟨z,B,I,q⟩:=h;exact⟨z,B,I.unwish,q⟩
 |brk=>obtain⟨z,B,I,q⟩:=h;exact⟨z,B,I.unwish,q⟩
 |cont=>obtain⟨z,B,I,q⟩:=h;exact⟨z,B,I.unwish,q⟩
 |ret u=>obtain⟨v,z,B,I,r,q⟩:=h;exact⟨v,z,B,I.unwish,r,q⟩
theorem PSs.nox {st:List Stmt}{t:TS}(h:PSs X.nox st t):PSs X st t:=fun pins s σ H D I B =>
 wpAny_mono (h pins s σ H D (I.wish _) B) (fun _ _ q=>q.unwish) fun _ _ z=>False.elim z
end
section
variable {X:Cx}{st:Stmt}{rest:List Stmt}{t u:TS}{e:Expr}{te:TE}{pos:Pos}
def tNext:TS:=fun D z H=>D.nx z H
def tSeq (t u:TS):TS:=fun D z H=>t { D with nx:=u D } z H
theorem pss_nil:PSs X [] tNext:=fun _ _ z H _ I h=>wpAny_execs_nil ⟨z,H,I,h⟩
theorem pss_cons (U:PS X st t)(J:PSs X rest u):PSs X (st::rest) (tSeq t u):=by
 intro pins s O H D I h;refine wpAny_execs_cons (thn (U pins s O H { D with nx:=u D } I h) fun f G q=>?_);cases f with
 |next =>
  obtain⟨z,B,M,q⟩:=q;exact J pins G z B D M q
 |ret v=>exact q
 |brk=>exact q
 |cont=>exact q
theorem pss_one (B:PS X st t):PSs X [st] t:=by
 intro pins s z H D I h;refine wpAny_execs_cons (thn (B pins s z H D I h) fun f G q=>?_);cases f with
 |next=>exact wpAny_execs_nil q
 |ret v=>exact q
 |brk=>exact q
 |cont=>exact q
def tBreak:TS:=fun D z H=>D.bk z H
def tCont:TS:=fun D z H=>D.ct z H
theorem Inv.quiet {pins:List (Addr×Obj)}{z:St}{H:Hp}{s:Shared}(I:Inv X pins z H s):interactive X.env=false:=by simp[interactive,I.ok.kind]
def tDrop (te:TE):TS:=fun D z H=>te z H fun _ B=>D.nx z B
theorem xp (J:PE X e te)(B:swapsWith e none pos.line X.env=pure false:=by rfl):PS X (.Expr e pos) (tDrop te):=by
 intro pins s z H D I h;exact wpAny_Expr_any (thn (J pins s z H _ I h) fun v Y ⟨x,O,M,U,G⟩=>⟨z,O,M,G⟩) I.quiet B
def tRet (te:TE):TS:=fun D z H=>te z H D.rt
theorem ps_ret (J:PE X e te):PS X (.Return (some e) pos) (tRet te):=by
 intro pins s z H D I h;exact wpAny_Return_some (thn (J pins s z H _ I h) fun v U ⟨x,O,M,B,G⟩=>⟨x,z,O,M,B,G⟩)
def tRetN:TS:=fun D _ H=>D.rt .non H
def tIfS (c:TT)(t u:TS):TS:=fun D z H=>c z H fun b B=>if b=true then t D z B else u D z B
theorem ps_if {c:Expr}{a b:List Stmt}{J:TT}(U:PT X c J)(Y:PSs X a t)(hb:PSs X b u):PS X (.If c a b pos) (tIfS J t u):=by
 intro pins s z H D I h;refine wpAny_If (thn (U pins s z H _ I h) fun d G ⟨O,M,B⟩=>?_);cases d with
 |true=>exact Y pins G z O D M B
 |false=>exact hb pins G z O D M B
end
abbrev TG:=V->St->Hp->(St->Hp->Prop)->Prop
abbrev TGs:=List V->St->Hp->(St->Hp->Prop)->Prop
def PG (X:Cx)(target:Expr)(t:TG):Prop :=
 ∀(pins:List (Addr×Obj)) (s:Shared) (G:St) (H:Hp) (v:V) (u:Value) (Q:St->Hp->Prop),Inv X pins G H s->RelV v u->t v G H Q ->
  wpAny (model X.prog X.w) X.A (assign target X.env u) (fun _ J=>∃z B,Inv X pins z B J/\Q z B) X.xe s
def PGs (X:Cx)(U:List Expr)(t:TGs):Prop :=
 ∀(pins:List (Addr×Obj)) (s:Shared) (M:St) (H:Hp) (B:List V) (J:List Value) (Q:St->Hp->Prop),Inv X pins M H s->Vals B J->t B M H Q ->
  wpAny (model X.prog X.w) X.A (assignInOrder ((assignEach U X.env).map (·.2)) J) (fun _ O=>∃z G,Inv X pins z G O/\Q z G) X.xe s
abbrev TSet:=V->V->V->Hp->(Hp->Prop)->Prop
def PSet (X:Cx)(t:TSet):Prop :=
 ∀(pins:List (Addr×Obj)) (s:Shared) (J:St) (H:Hp) (o i v:V) (B G u:Value) (Q:Hp->Prop),Inv X pins J H s->RelV o B->RelV i G->RelV v u->t o i v H Q ->
  wpAny (model X.prog X.w) X.A (setItem B G u) (fun _ M=>∃z,Inv X pins J z M/\Q z) X.xe s
abbrev TIp:=V->V->Hp->VK->Prop
section
variable {X:Cx}{pos:Pos}
def xN (i:Nat):TG:=fun v z H Q=>Q (z.set i (some v)) H
theorem pg_name {i:Nat}{x:Str}(z:X.N.Nodup)(M:X.N[i]? = some x)(J:Loc X.env.scope x)(B:X.fn x=true\/X.env.scope.names.lookup x=some .local:=by first|exact .inl rfl|exact .inr rfl|assumption):PG X (.Name x pos) (xN i):=by
 intro pins s U H v u Q I r h;exact wpAny_assign_Name (store_ok I z M J r (fun O G=>⟨_,H,G,h⟩) B)
def gNil:TGs:=fun z B H Q=>z=[]/\Q B H
def gCons (t:TG)(u:TGs):TGs:=fun B G H Q=>∃v r,B=v::r/\t v G H fun z J=>u r z J Q
theorem pgs_nil:PGs X [] gNil:=by
 intro pins s z H B G Q I r h;obtain⟨e,h⟩:=h;subst e;cases r
 exact assignInOrder_nil ⟨z,H,I,h⟩
theorem jh {e:Expr}{es:List Expr}{t:TG}{u:TGs}(h1:PG X e t)(U:PGs X es u)
  (B:(assignEach (e::es) X.env).map (·.2)=assign e X.env::(assignEach es X.env).map (·.2):=by rfl):PGs X (e::es) (gCons t u):=by
 intro pins s σ H vs us Q I r h;obtain⟨v,vr,J,h⟩:=h;subst J;cases r with
 |cons r M =>
  rw[B];refine assignInOrder_cons (thn (h1 pins s σ H _ _ _ I r h) fun _ O ⟨z,H1,Y,G⟩=>?_);exact U pins O z H1 _ _ Q Y M G
def gTup (K:zA)(n:Nat)(t:TGs):TG:=fun v B H Q=>∃a z,v=.ref a/\SqT K H a z/\z.length=n/\t z B H Q
theorem pg_tup {es:List Expr}{k:Nat}{t:TGs}{n:Nat}(hc:X.calm=true)(h:PGs X es t)
  (hn:(assignEach es X.env).length=n:=by rfl) (z:(assignEach es X.env).findIdx? (·.1)=none:=by rfl):PG X (.Tuple es k pos) (gTup X.K n t):=by
 intro pins s J H v u Q I r B;obtain⟨a,xs,Y,hq,O,B⟩:=B;subst Y;cases r
 obtain⟨aa,G,U,hz⟩:=I.tuple hq;refine assign_Tuple_tuple (I.ok.hd hc) U (by simp[hn,<-O,G.length]) z fun M hx=>?_;have I1:Inv X pins J H { s with heap:=M }:=I.kept (t':=s.toks) fun b o e=>hx b o (zG (Heap.lt_size e)) e;exact h pins _ J H xs _ Q I1 (by simpa using G) B
def gSub (G O:TE)(t:TSet):TG:=fun v z H Q=>G z H fun o M=>O z M fun i J=>t o i v J fun B=>Q z B
theorem pg_sub {o i:Expr}{J M:TE}{t:TSet}(ho:PE X o J)(hi:PE X i M)(O:PSet X t)
  (ha:∀v,assign (.Subscript o i pos) X.env v=(do
   let z ← holding [v] (eval o X.env)
   let B ← holding [v,z] (eval i X.env)
   standAt pos
   holding [v,z,B] (setItem z B v)
   release [v,z,B] []):=by intro _;rfl):PG X (.Subscript o i pos) (gSub J M t):=by
 intro pins s G H v u Q I r h;rw[ha];refine wpAny_bind (wpAny_holding (thn (ho pins s G H _ I h) fun z s1 ⟨x,H1,I1,r1,U⟩=>?_));refine wpAny_bind (wpAny_holding (thn (hi pins s1 G H1 _ I1 U) fun B s2 ⟨y,H2,Y,r2,q2⟩=>?_));refine wpAny_bind (wpAny_standAt (wpAny_bind (wpAny_holding (thn (O pins s2 G H2 x y v z B u _ Y r1 r2 r q2) fun _ s3 ⟨H3,I3,q3⟩=>?_))));exact wpAny_release ⟨G,H3,I3,q3⟩
def tAsg (G:TE)(g:TG):TS:=fun D z H=>G z H fun x B=>g x z B D.nx
theorem J3 {z e:Expr}{B:TE}{g:TG}(M:PE X e B)(hg:PG X z g)(J:swapsWithSole [z] e pos.line X.env=pure false:=by rfl)(hw:swappedStores [z] e X.env=pure none:=by rfl)
  (h1:(assignEach [z] X.env).map (·.2)=[assign z X.env]:=by rfl):PS X (.Assign [z] e pos) (tAsg B g):=by
 intro pins s G H D I h;refine wpAny_Assign_stores (thn (M pins s G H _ I h) fun v U ⟨x,H1,I1,Y,O⟩=>?_) J hw;rw[h1];exact thn (hg pins U G H1 x v _ I1 Y O) fun _ s2 q=>q
theorem ps_set {i:Nat}{x:Str}{e:Expr}{z:TE}{pos':Pos}(O:X.N.Nodup)(hi:X.N[i]? = some x)(hx:Loc X.env.scope x)(J:PE X e z)(B:swapsWith e (some (.Name x pos')) pos.line X.env=pure false:=by rfl)(Y:X.fn x=true\/X.env.scope.names.lookup x=some .local:=by first|exact .inl rfl|exact .inr rfl|assumption) :
  PS X (.Assign [.Name x pos'] e pos) (tAsg z (xN i)):=by
 intro pins s σ H D I h;refine wpAny_Assign_Name (thn (J pins s σ H _ I h) fun v s1 ⟨y,H1,I1,U,G⟩=>?_) B;exact store_ok I1 O hi hx U (fun s2 M=>⟨_,H1,M,G⟩) Y
def tAug (i:Nat)(O:TE)(M:TIp):TS:=fun D B H=>∃x,B[i]? = some (some x)/\O B H fun y J=>M x y J fun z G=>D.nx (B.set i (some z)) G
def ipI (f:Int->Int->Int):TIp:=fun x y H Q=>∃i j,x=.int i/\y=.int j/\Q (.int (f i j)) H
end
structure It where
 go:Nat->Hp->Prop
 yld:Nat->Hp->V->Hp->Prop
 stop:Nat->Hp->Prop
def FpOk (X:Cx)(pins:List (Addr×Obj))(H:Hp)(b:Addr):Prop :=
 H b=none/\b≠X.env.locals/\b∉X.fs/\(b∈X.ex\/X.s₀.heap.objs.size<=b)/\(∀x c,X.env.cells.lookup x=some c->c≠b)/\∀p∈X.pn++pins,p.1≠b
theorem Inv.fpOk {X:Cx}{pins:List (Addr×Obj)}{J:St}{H H':Hp}{s:Shared}{b:Addr}(I:Inv X pins J H s)(B:s.heap.objs.size<=b)(M:H' b=none):FpOk X pins H' b:=by
 refine⟨M,xG (qJ I.lt B),I.nofs B,.inr (zL I.sz B),fun x c e z=>?_,fun p G z=>?_⟩
 ·obtain⟨v,q⟩:=I.cell x c e;exact absurd (qJ q.lt (by rw[z];exact B)) (zt _)
 ·exact absurd (qJ (Heap.lt_size (I.pin p G).1) (by rw[z];exact B)) (zt _)
structure Turn (P:Program) (w:World) (K:zA) (tg:Expr) (J:It) (fp:List Addr) (it:Addr) (tn:Nat->Heap->Prop):Prop where
 mem:it∈fp
 obj:∀i h,tn i h->∀b∈fp,∃o,h.get? b=some o/\∀v,o.data≠.cell v
 keep:∀i h h',tn i h->(∀b∈fp,∀o,h.get? b=some o->h'.get? b=some o)->tn i h'
 item:∀(X:Cx),X.prog=P->X.w=w->X.K=K->X.calm=true->∀(i:Nat) (pins:List (Addr×Obj)) (s:Shared) (σ:St) (H:Hp) (E:Value->Shared->Prop),Inv X pins σ H s->(∀b∈fp,FpOk X pins H b)->tn i s.heap->J.go i H ->
  wpAny (model P w) X.A (pyNext (.ref it)) (fun r s1=>∃u,r=some u /\
   wpAny (model P w) X.A (letOwnedTupleGo tg (.ref it) u) (fun _ s2=>∃x H',Inv X pins σ H' s2/\RelV x u/\J.yld i H x H'/\tn (i+1) s2.heap/\∀b∈fp,H' b=none) E s1) E s
 done:∀(X:Cx),X.prog=P->X.w=w->X.K=K->X.calm=true->∀(i:Nat) (pins:List (Addr×Obj)) (s:Shared) (σ:St) (H:Hp) (E:Value->Shared->Prop),Inv X pins σ H s->(∀b∈fp,FpOk X pins H b)->tn i s.heap->J.stop i H ->
  wpAny (model P w) X.A (pyNext (.ref it)) (fun r s1=>r=none/\Inv X pins σ H s1) E s
 self:∀(A:Around) (i:Nat) (s:Shared) (Q:Value->Shared->Prop) (E:Value->Shared->Prop),tn i s.heap->Q (.ref it) s->wpAny (model P w) A (pyIter (.ref it)) Q E s
abbrev TI:=St->Hp->(It->Hp->Prop)->Prop
def PIE (X:Cx)(pins:List (Addr×Obj))(Y:St)(U:Expr)(R:It->Hp->Prop)(B:Value)(H:Shared):Prop :=
 ∃(G:Addr) (M:List Addr) (O:Nat->Heap->Prop) (J:It) (z:Hp),B=.ref G/\Inv X pins Y z H/\Turn X.prog X.w X.K U J M G O/\O 0 H.heap/\(∀b∈M,FpOk X pins z b)/\R J z
def PI (X:Cx)(B iter:Expr)(J:TI):Prop :=
 ∀(pins:List (Addr×Obj)) (s:Shared) (z:St) (H:Hp) (R:It->Hp->Prop),Inv X pins z H s->J z H R ->
  wpAny (model X.prog X.w) X.A (eval iter X.env) (fun v G=>wpAny (model X.prog X.w) X.A (pyIter v) (PIE X pins z B R) X.xe G) X.xe s
theorem go_of {M : Model}{A : Around}{E : Value → Shared → Prop}{s : Shared}{B : Expr}{it : Addr}{u : Value}{o : Obj}{n : String}{vs : Array Value}{Q : Unit → Shared → Prop}(G : s.heap.get? it = some o)(J : o.cls = .type n)(H : o.data = .fields vs)
    (O : ["enumerate", "zip", "dict_itemiterator", "dict_reverseitemiterator", "odict_iterator", "itertools.zip_longest", "itertools.pairwise"].contains n = false) (z : Q () s) : wpAny M A (letOwnedTupleGo B (.ref it) u) Q E s := by
  unfold letOwnedTupleGo
  cases B <;> first
    | exact wpAny_pure z
    | (cases u <;> first
        | exact wpAny_pure z
        | (refine wpAny_bind (wpAny_load G ?_)
           rw [J, H]
           show wpAny M A (if (["enumerate", "zip", "dict_itemiterator", "dict_reverseitemiterator", "odict_iterator", "itertools.zip_longest", "itertools.pairwise"].contains n && vs[0]? == some (rawInt _)) = true then _ else _) Q E s
           rw [if_neg (by intro h; rw [O, Bool.false_and] at h; cases h)]
           exact wpAny_pure z))
def Itl (K:zA)(a:Addr):It :=
 ⟨fun i H=>∃z x,SqL K H a z/\z[i]? = some x,fun i H x B=>B=H/\∀z,SqL K H a z->z[i]? = some x,fun i H=>∃z,SqL K H a z/\z.length<=i⟩
def Itt (K:zA)(a:Addr):It :=
 ⟨fun i H=>∃z x,SqT K H a z/\z[i]? = some x,fun i H x B=>B=H/\∀z,SqT K H a z->z[i]? = some x,fun i H=>∃z,SqT K H a z/\z.length<=i⟩
def Itr (lo:Int)(n:Nat):It:=⟨fun i _=>i<n,fun i H x z=>z=H/\x=.int (lo+i),fun i _=>n<=i⟩
theorem turn_list {P:Program}{w:World}{K:zA}{tg:Expr}(a it:Addr):Turn P w K tg (Itl K a) [it] it (fun i h=>h.IsListIter it a i) where
 mem:=by simp
 obj:=fun i h B b G=>by
  have e:b=it:=by simpa using G
  subst e
  obtain⟨o,e,c,d⟩:=B
  exact⟨o,e,fun v z=>by rw[d]at z;cases z⟩
 keep:=fun i h M B k=>B.at fun o e=>k it (by simp) o e
 item:=by
  intro X hP hw hK hc i pins s σ H E I U B hg;subst hP hw hK;obtain⟨xs,x,O,hx⟩:=hg;obtain⟨its,rv,p,hz⟩:=I.list O;obtain⟨u,hu,ru⟩:=rv.get hx;obtain⟨f0,Y,f2,f3,f4,f5⟩:=U it (by simp);refine wpAny_pyNext_list_item B p.isList (x:=u) (by simpa using hu) fun M J sb=>?_;have I1:Inv X pins σ H { s with heap:=M }:=I.turned (t':=s.toks) (fun b o G e=>(sb.2 b G).trans e) f0 Y f3 f4 f5;obtain⟨o,e,c,d⟩:=id J;exact⟨u,rfl,go_of (s:={ s with heap:=M }) e c d (by decide) ⟨x,H,I1,ru,⟨rfl,fun ys hy=>by rw[I.list_inj hy O];exact hx⟩,J,fun b G=>(U b G).1⟩⟩
 done:=by
  intro X hP hw hK hc i pins s σ H E I U B hg;subst hP hw hK;obtain⟨xs,O,hx⟩:=hg;obtain⟨its,rv,p,hz⟩:=I.list O;obtain⟨f0,Y,f2,f3,f4,f5⟩:=U it (by simp);have hl:=rv.length;exact wpAny_pyNext_list_end (I.ok.hd hc) B p.isList (by simp;omega) fun M eb=>⟨rfl,I.turned (t':=s.toks) (fun b o G e=>eb b o G e) f0 Y f3 f4 f5⟩
 self:=fun _ _ _ _ _ B h=>wpAny_pyIter_listiter B h
theorem turn_tuple {P:Program}{w:World}{K:zA}{tg:Expr}(a it:Addr):Turn P w K tg (Itt K a) [it] it (fun i h=>h.IsTupleIter it a i) where
 mem:=by simp
 obj:=fun i h B b J=>by
  have e:b=it:=by simpa using J
  subst e
  obtain⟨o,e,c,d⟩:=B
  exact⟨o,e,fun v z=>by rw[d]at z;cases z⟩
 keep:=fun i h O B k=>B.at fun o e=>k it (by simp) o e
 item:=by
  intro X hP hw hK hc i pins s σ H E I Y B hg;subst hP hw hK;obtain⟨xs,x,U,hx⟩:=hg;obtain⟨G,rv,p,hz⟩:=I.tuple U;obtain⟨u,hu,ru⟩:=rv.get hx;obtain⟨f0,f1,f2,f3,f4,f5⟩:=Y it (by simp);refine wpAny_pyNext_tuple_item B (show s.heap.IsTuple a G.toArray from p) (x:=u) (by simpa using hu) fun O M sb=>?_;have I1:Inv X pins σ H { s with heap:=O }:=I.turned (t':=s.toks) (fun b o J e=>(sb.2 b J).trans e) f0 f1 f3 f4 f5;obtain⟨o,e,c,d⟩:=id M;exact⟨u,rfl,go_of (s:={ s with heap:=O }) e c d (by decide) ⟨x,H,I1,ru,⟨rfl,fun ys hy=>by rw[I.tuple_inj hy U];exact hx⟩,M,fun b J=>(Y b J).1⟩⟩
 done:=by
  intro X hP hw hK hc i pins s σ H E I Y B hg;subst hP hw hK;obtain⟨xs,U,hx⟩:=hg;obtain⟨G,rv,p,hz⟩:=I.tuple U;obtain⟨f0,f1,f2,f3,f4,f5⟩:=Y it (by simp);have hl:=rv.length;exact wpAny_pyNext_tuple_end (I.ok.hd hc) B (show s.heap.IsTuple a G.toArray from p) (by simp;omega) fun O eb=>⟨rfl,I.turned (t':=s.toks) (fun b o J e=>eb b o J e) f0 f1 f3 f4 f5⟩
 self:=fun _ _ _ _ _ B h=>wpAny_pyIter_tupleiter B h
theorem turn_range {P:Program}{w:World}{K:zA}{tg:Expr}(it:Addr)(lo:Int)(n:Nat):Turn P w K tg (Itr lo n) [it] it (fun i h=>IsRangeIter h it (lo+(i:Nat)*1) ((n:Int)-(i:Nat)) 1) where
 mem:=by simp
 obj:=fun i h B b G=>by
  have e:b=it:=by simpa using G
  subst e
  exact⟨_,B,fun v z=>by
   have z':Data.fields _=Data.cell v:=z
   cases z'⟩
 keep:=fun i h M B k=>k it (by simp) _ B
 item:=by
  intro X hP hw hK hc i pins s σ H E I O B hg;subst hP hw hK;obtain⟨Y,U,f2,f3,f4,f5⟩:=O it (by simp);have W:=Walks.range (prog:=X.prog) (w:=X.w) (I.ok.hd hc) it lo 1 n;refine W.item i s _ _ hg B fun v M tk hv J kk=>?_;obtain⟨t,rfl⟩:=hv;have I1:Inv X pins σ H { s with heap:=M,toks:=tk }:=I.turned (fun b o G e=>kk b o (by simpa using G) e) Y U f3 f4 f5;refine⟨_,rfl,go_of (s:={ s with heap:=M,toks:=tk }) (n:="range_iterator") J rfl rfl (by decide) ⟨.int (lo+i),H,I1,⟨t,?_⟩,⟨rfl,rfl⟩,J,fun b G=>(O b G).1⟩⟩;rw[yW]
 done:=by
  intro X hP hw hK hc i pins s σ H E I O B hg;subst hP hw hK;obtain⟨Y,U,f2,f3,f4,f5⟩:=O it (by simp);exact wpAny_pyNext_range_end (I.ok.hd hc) B (by have:n<=i:=hg;omega) fun M eb=>⟨rfl,I.turned (t':=s.toks) (fun b o G e=>eb b o G e) Y U f3 f4 f5⟩
 self:=fun _ _ _ _ _ B h=>wpAny_pyIter_rangeiter B h
section
variable {X:Cx}{tg:Expr}
def iList (K:zA)(tl:TE):TI:=fun G H R=>tl G H fun x z=>∃a,x=.ref a/\(∃B,SqL K z a B)/\R (Itl K a) z
def iTup (K:zA)(tl:TE):TI:=fun G H R=>tl G H fun x z=>∃a,x=.ref a/\(∃B,SqT K z a B)/\R (Itt K a) z
theorem pi_list {l:Expr}{tl:TE}(J:PE X l tl):PI X tg l (iList X.K tl):=by
 intro pins s Y H R I h;refine thn (J pins s Y H _ I h) fun v z ⟨x,H1,B,M,G⟩=>?_;obtain⟨a,e,⟨xs,U⟩,q⟩:=G;subst e;cases M
 obtain⟨O,rv,p,hz⟩:=B.list U;refine wpAny_pyIter_list p.isList ?_;refine⟨z.heap.objs.size,[z.heap.objs.size],_,_,H1,rfl,B.kept (t':=z.toks) fun b o e=>Heap.get?_push_of_some _ e,turn_list a _,⟨_,Heap.get?_push_size _ rfl,rfl,rfl⟩,fun b hb=>?_,q⟩;have e:b=z.heap.objs.size:=by simpa using hb
 subst e;exact B.fpOk (zB _) (B.hok.fresh (zB _))
theorem pi_tup {l:Expr}{tl:TE}(M:PE X l tl):PI X tg l (iTup X.K tl):=by
 intro pins s Y H R I h;refine thn (M pins s Y H _ I h) fun v z ⟨x,H1,B,O,J⟩=>?_;obtain⟨a,e,⟨xs,U⟩,q⟩:=J;subst e;cases O
 obtain⟨G,rv,p,hz⟩:=B.tuple U;refine wpAny_pyIter_tuple (show z.heap.IsTuple a G.toArray from p) ?_;refine⟨z.heap.objs.size,[z.heap.objs.size],_,_,H1,rfl,B.kept (t':=z.toks) fun b o e=>Heap.get?_push_of_some _ e,turn_tuple a _,⟨_,Heap.get?_push_size _ rfl,rfl,rfl⟩,fun b hb=>?_,q⟩;have e:b=z.heap.objs.size:=by simpa using hb
 subst e;exact B.fpOk (zB _) (B.hok.fresh (zB _))
theorem range_it {pins:List (Addr×Obj)}{G:St}{H:Hp}{s:Shared}{R:It->Hp->Prop}{E:Value->Shared->Prop}{lo z:Int}{t u v:Tok}{tk:Nat}(I:Inv X pins G H s)(h1:-(2^62)<=lo)(Y:lo<2^62)(M:-(2^62)<=z)(O:z<2^62)
  (q:R (Itr lo (z-lo).toNat) H):wpAny (model X.prog X.w) X.A (pyIter (.ref s.heap.objs.size)) (PIE X pins G tg R) E { s with heap:=s.heap.push { cls:=.type "range",data:=.fields #[.int lo t,.int z u,.int 1 v] },toks:=tk }:=by
 refine wpAny_pyIter_range (IsRange.new ..) (small_one h1 Y M O) ?_;have B:Inv X pins G H { s with heap:=s.heap.push { cls:=.type "range",data:=.fields #[.int lo t,.int z u,.int 1 v] },toks:=tk }:=I.kept fun b o e=>Heap.get?_push_of_some _ e;refine⟨(s.heap.push { cls:=.type "range",data:=.fields #[.int lo t,.int z u,.int 1 v] }).objs.size,[(s.heap.push { cls:=.type "range",data:=.fields #[.int lo t,.int z u,.int 1 v] }).objs.size],_,_,H,rfl,
  B.kept (t':=tk) fun b o e=>Heap.get?_push_of_some _ e,turn_range _ lo (z-lo).toNat,?_,fun b hb=>?_,q⟩
 ·have U:lo+((0:Nat):Int)*1=lo:=by simp
  have J:(((z-lo).toNat:Nat):Int)-((0:Nat):Int)=Builtin.Range.rangeSize lo z 1:=by rw[rangeSize_one];split<;>omega
  show IsRangeIter _ _ (lo+((0:Nat):Int)*1) ((((z-lo).toNat:Nat):Int)-((0:Nat):Int)) 1
  rw[U,J];exact Heap.get?_push_size _ rfl
 ·have e:b=(s.heap.push { cls:=.type "range",data:=.fields #[.int lo t,.int z u,.int 1 v] }).objs.size:=by simpa using hb
  subst e;exact B.fpOk (zB _) (B.hok.fresh (zB _))
def iRng1 (z:TA):TI:=fun J H R=>z J H fun B G=>∃j:Int,B=[.int j] /\ -(2^62)<=j/\j<2^62/\R (Itr 0 j.toNat) G
def iRng2 (G:TA):TI:=fun B H R=>G B H fun z J=>∃i j:Int,z=[.int i,.int j]/\(-(2^62)<=i/\i<2^62 /\ -(2^62)<=j/\j<2^62)/\R (Itr i (j-i).toNat) J
theorem JU {a:Expr} {B:TA} {p pos:Pos} (Y:Gl X "range") (O:X.mg "range" = none) (ha:PA X [a] B) (J:starEach [a] X.env=[(false,eval a X.env)]:=by rfl):PI X tg (.Call (.Name "range" p) [a] [] pos) (iRng1 B):=by
 intro pins s σ H R I h;refine Call_ (Jf I Y O boot_range (PyProof.Rows.callWith_type1 (thn (ha pos pins s σ H _ I h) fun us s1 ⟨vs,H1,I1,U,z⟩=>?_) J rfl));obtain⟨j,e,z,G,q⟩:=z;subst e;cases U with
 |cons r M =>
  cases M
  obtain⟨t,rfl⟩:=r;exact call_range_1 (range_it I1 (by omega) (by omega) z G (by simpa using q))
def tFor (U:TI)(g:TG)(tb:TS):TS:=fun D z H=>U z H fun J H1=>∃W:Nat->Nat->St->Hp->Prop,(∃m,W 0 m z H1)/\∀i m z H,W i m z H ->
 (J.stop i H/\D.nx z H)\/(J.go i H/\∃N:St->Hp->Prop,(∀G B,N G B->∃O,O<m/\W (i+1) O G B)/\∀x B,J.yld i H x B->g x z B fun M Y=>tb { D with nx:=N,ct:=N,bk:=D.nx } M Y)
def pinsAt (z:List Addr)(h:Heap):List (Addr×Obj):=z.filterMap fun b=>(h.get? b).map fun o=>(b,o)
theorem jz {z:List Addr}{h:Heap}{b:Addr}{o:Obj}(B:b∈z)(e:h.get? b=some o):(b,o)∈pinsAt z h:=jf.mpr ⟨b,B,by rw[e];rfl⟩
theorem of_pinsAt {z:List Addr}{h:Heap}{p:Addr×Obj}(B:p∈pinsAt z h):p.1∈z/\h.get? p.1=some p.2:=by
 obtain⟨b,H,e⟩:=jf.mp B;cases q:h.get? b with
 |none=>rw[q]at e;cases e
 |some o =>
  rw[q]at e;have G:(b,o)=p:=Option.some.inj e;subst G;exact⟨H,q⟩
theorem Inv.pinned {pins:List (Addr×Obj)}{J:St}{H:Hp}{s:Shared}{B:List Addr}(I:Inv X pins J H s)(hf:∀b∈B,FpOk X pins H b)(O:∀b∈B,∃o,s.heap.get? b=some o/\∀v,o.data≠.cell v):Inv X (pins++pinsAt B s.heap) J H s :=
 I.pins_of fun p hp=>(zK.mp hp).elim (fun z=>I.pin p (qK _ z)) fun z=>by
  obtain⟨M,e⟩:=of_pinsAt z
  obtain⟨f0,Y,U,_⟩:=hf p.1 M
  obtain⟨o,G,d⟩:=O p.1 M
  rw[e]at G;cases G
  exact⟨e,f0,Y,U,d⟩
theorem Inv.unpinned {pins G:List (Addr×Obj)}{z:St}{H:Hp}{s:Shared}(I:Inv X (pins++G) z H s):Inv X pins z H s:=I.pins_of fun p B=>I.pin p (qK _ (yt _ B))
theorem ps_for {iter:Expr}{body:List Stmt}{wi:TI}{g:TG}{tb:TS}{pos:Pos}(hp:PassesOwn (model X.prog X.w) X.A X.env X.xe)(hc:X.calm=true)(hi:PI X tg iter wi)(hg:PG X tg g)(O:PSs X body tb)
  (hs:∀x,foldedSetIterable iter X.env x=pure x:=by intro _;rfl):PS X (.For tg iter body [] pos) (tFor wi g tb):=by
 intro pins s σ H D I h;refine wpAny_For (thn (hi pins s σ H _ I h) fun v s1 h1=>thn h1 fun itv s2 h2=>?_) hs;obtain⟨it,fp,tn,J,H2,e,I2,T,st2,f2,W,⟨m0,w0⟩,turn⟩:=h2;subst e
 -- what stays true of the iterator's objects through the loop
 have G:∀{H':Hp},(∀b∈fp,H' b=none)->∀b∈fp,FpOk X pins H' b:=fun hn b O=>⟨hn b O,(f2 b O).2⟩;refine codeAny_forLoop_any (fun n s'=>∃i M H',Inv X pins M H' s'/\tn i s'.heap/\(∀b∈fp,H' b=none)/\W i n M H') ?_ m0 ⟨0,σ,H2,I2,st2,fun b O=>(f2 b O).1,w0⟩;rintro n s3 ⟨i,Y,H3,I3,st3,fr3,w3⟩;rcases turn i n Y H3 w3 with⟨stop,qn⟩|⟨go,N,hN,step⟩
 ·refine wpAny_passesOwn hp (thn (T.done X rfl rfl rfl hc i pins s3 Y H3 X.xe I3 (G fr3) st3 stop) fun r s4 ⟨hr,I4⟩=>?_);subst hr;exact wpAny_execs_nil ⟨Y,H3,I4,qn⟩
 ·refine wpAny_passesOwn hp (thn (T.item X rfl rfl rfl hc i pins s3 Y H3 X.xe I3 (G fr3) st3 go) fun r s4 ⟨u,hr,h4⟩=>?_);subst hr;refine wpAny_passesOwn hp (thn h4 fun _ s5 ⟨x,H5,I5,r5,y5,st5,fr5⟩=>?_);have I5':=I5.pinned (G fr5) (T.obj _ _ st5);refine wpAny_passesOwn hp (thn (hg _ s5 Y H5 x u _ I5' r5 (step x H5 y5)) fun _ s6 ⟨σ6,H6,I6,q6⟩=>?_);refine wpAny_passesOwn hp (thn (O _ s6 σ6 H6 _ I6 q6) fun f s7 q7=>?_);have again:∀{z:St} {U:Hp},Inv X (pins++pinsAt fp s5.heap) z U s7->N z U->∃m,m<n/\∃i M H',Inv X pins M H' s7/\tn i s7.heap/\(∀b∈fp,H' b=none)/\W i m M H':=fun {z U} B n7=>by
   obtain⟨m',hm,w7⟩:=hN z U n7;refine⟨m',hm,i+1,z,U,B.unpinned,T.keep _ _ _ st5 fun b O o e=>(B.pin (b,o) (qK _ (qK _ (jz O e)))).1,fun b O=>?_,w7⟩;obtain⟨o,e,d⟩:=T.obj _ _ st5 b O;exact(B.pin (b,o) (qK _ (qK _ (jz O e)))).2.1
  cases f with
  |next=>obtain⟨z,U,B,n7⟩:=q7;exact again B n7
  |cont=>obtain⟨z,U,B,n7⟩:=q7;exact again B n7
  |brk=>obtain⟨z,U,B,q7⟩:=q7;exact⟨z,U,B.unpinned,q7⟩
  |ret v=>obtain⟨x7,z,U,B,r7,q7⟩:=q7;exact⟨x7,z,U,B.unpinned,r7,q7⟩
end
theorem for_list {K:zA}{a:Addr}{xs:List V}{g:TG}{tb:TS}{D:Ends}{z:St}{H:Hp}(B:Nat->St->Hp->Prop)(h0:B 0 z H)(hl:∀i z H,i<=xs.length->B i z H->SqL K H a xs)
  (hs:∀i x z H,xs[i]? = some x->B i z H->g x z H fun M U=>tb { D with nx:=B (i+1),ct:=B (i+1),bk:=D.nx } M U) (hd:∀z H,B xs.length z H->D.nx z H) :
  ∃W:Nat->Nat->St->Hp->Prop,(∃m,W 0 m z H)/\∀i m z H,W i m z H ->
   ((Itl K a).stop i H/\D.nx z H)\/((Itl K a).go i H/\∃N:St->Hp->Prop,(∀J G,N J G->∃Y,Y<m/\W (i+1) Y J G)/\∀x G,(Itl K a).yld i H x G->g x z G fun M U=>tb { D with nx:=N,ct:=N,bk:=D.nx } M U):=by
 refine⟨fun i m z H=>m=xs.length-i/\i<=xs.length/\B i z H,⟨xs.length,by simp,zS _,h0⟩,?_⟩;rintro i m z H ⟨rfl,hi,p⟩;have q:=hl i z H hi p;by_cases O:i<xs.length
 ·refine .inr ⟨⟨xs,xs[i],q,by simp[O]⟩,B (i+1),fun J G p'=>⟨xs.length-(i+1),by omega,rfl,O,p'⟩,fun x G y=>?_⟩;obtain⟨e,y⟩:=y;subst e;exact hs i x z _ (y xs q) p
 ·have e:i=xs.length:=by omega
  subst e;exact .inl ⟨⟨xs,q,zB _⟩,hd z H p⟩
theorem for_tup {K:zA}{a:Addr}{xs:List V}{g:TG}{tb:TS}{D:Ends}{z:St}{H:Hp}(B:Nat->St->Hp->Prop)(h0:B 0 z H)(hl:∀i z H,i<=xs.length->B i z H->SqT K H a xs)
  (hs:∀i x z H,xs[i]? = some x->B i z H->g x z H fun M U=>tb { D with nx:=B (i+1),ct:=B (i+1),bk:=D.nx } M U) (hd:∀z H,B xs.length z H->D.nx z H) :
  ∃W:Nat->Nat->St->Hp->Prop,(∃m,W 0 m z H)/\∀i m z H,W i m z H ->
   ((Itt K a).stop i H/\D.nx z H)\/((Itt K a).go i H/\∃N:St->Hp->Prop,(∀J G,N J G->∃Y,Y<m/\W (i+1) Y J G)/\∀x G,(Itt K a).yld i H x G->g x z G fun M U=>tb { D with nx:=N,ct:=N,bk:=D.nx } M U):=by
 refine⟨fun i m z H=>m=xs.length-i/\i<=xs.length/\B i z H,⟨xs.length,by simp,zS _,h0⟩,?_⟩;rintro i m z H ⟨rfl,hi,p⟩;have q:=hl i z H hi p;by_cases O:i<xs.length
 ·refine .inr ⟨⟨xs,xs[i],q,by simp[O]⟩,B (i+1),fun J G p'=>⟨xs.length-(i+1),by omega,rfl,O,p'⟩,fun x G y=>?_⟩;obtain⟨e,y⟩:=y;subst e;exact hs i x z _ (y xs q) p
 ·have e:i=xs.length:=by omega
  subst e;exact .inl ⟨⟨xs,q,zB _⟩,hd z H p⟩
theorem for_range {lo:Int}{n:Nat}{g:TG}{tb:TS}{D:Ends}{z:St}{H:Hp}(M:Nat->St->Hp->Prop)(h0:M 0 z H)
  (hs:∀i z H,i<n->M i z H->g (.int (lo+i)) z H fun O U=>tb { D with nx:=M (i+1),ct:=M (i+1),bk:=D.nx } O U) (hd:∀z H,M n z H->D.nx z H) :
  ∃W:Nat->Nat->St->Hp->Prop,(∃m,W 0 m z H)/\∀i m z H,W i m z H ->
   ((Itr lo n).stop i H/\D.nx z H)\/((Itr lo n).go i H/\∃N:St->Hp->Prop,(∀J G,N J G->∃Y,Y<m/\W (i+1) Y J G)/\∀x G,(Itr lo n).yld i H x G->g x z G fun O U=>tb { D with nx:=N,ct:=N,bk:=D.nx } O U):=by
 refine⟨fun i m z H=>m=n-i/\i<=n/\M i z H,⟨n,by simp,zS _,h0⟩,?_⟩;rintro i m z H ⟨rfl,hi,p⟩;by_cases B:i<n
 ·refine .inr ⟨B,M (i+1),fun J G p'=>⟨n-(i+1),by omega,rfl,B,p'⟩,fun x G y=>?_⟩;obtain⟨e,y⟩:=y;subst e y;exact hs i z _ B p
 ·have e:i=n:=by omega
  subst e;exact .inl ⟨zB _,hd z H p⟩
abbrev R2:=V->V->Hp->VK->Prop
def OpR (X:Cx)(f:Value->Value->Sem Value)(r:R2):Prop :=
 ∀(pins:List (Addr×Obj)) (s:Shared) (z:St) (H:Hp) (x y:V) (v u:Value) (Q:VK),Inv X pins z H s->RelV x v->RelV y u->r x y H Q ->
  wpAny (model X.prog X.w) X.A (f v u) (EP X pins z Q) X.xe s
def UnR (X:Cx)(f:Value->Sem Value)(r:V->Hp->VK->Prop):Prop :=
 ∀(pins:List (Addr×Obj)) (s:Shared) (z:St) (H:Hp) (x:V) (v:Value) (Q:VK),Inv X pins z H s->RelV x v->r x H Q ->
  wpAny (model X.prog X.w) X.A (f v) (EP X pins z Q) X.xe s
def CallR (X:Cx)(f:Value)(r:List V->Hp->VK->Prop):Prop :=
 ∀(pins:List (Addr×Obj)) (s:Shared) (G:St) (H:Hp) (z:List V) (B:List Value) (Q:VK),Inv X pins G H s->Vals z B->r z H Q ->
  wpAny (model X.prog X.w) X.A (call f B) (EP X pins G Q) X.xe s
def tOp (r:R2)(G tb:TE):TE:=fun z H Q=>G z H fun x J=>tb z J fun y B=>r x y B Q
def tUn (r:V->Hp->VK->Prop)(z:TE):TE:=fun G H Q=>z G H fun x B=>r x B Q
def rI (C:Int->Int->Prop)(g:Int->Int->V):R2:=fun x y H Q=>∃i j,x=.int i/\y=.int j/\C i j/\Q (g i j) H
def rI0 (g:Int->Int->V):R2:=fun x y H Q=>∃i j,x=.int i/\y=.int j/\Q (g i j) H
def rU (g:Int->V):V->Hp->VK->Prop:=fun x H Q=>∃i,x=.int i/\Q (g i) H
section
variable {X:Cx}{a b c:Expr}{ta tb tc:TE}{pos:Pos}
theorem binT (ha:PE X a ta)(hb:PE X b tb){pins:List (Addr×Obj)}{s:Shared}{z:St}{H:Hp}{R:V->V->Hp->Prop}(I:Inv X pins z H s)
  (h:ta z H fun x O=>tb z O fun y B=>R x y B) {Q:Value->Shared->Prop} {f:Value->Value->Sem Value}
  (hf:∀v u M x y B,Inv X pins z B M->RelV x v->RelV y u->R x y B->wpAny (model X.prog X.w) X.A (f v u) Q X.xe M) :
  wpAny (model X.prog X.w) X.A (eval a X.env) (fun v J=>wpAny (model X.prog X.w) X.A (eval b X.env) (fun u G=>wpAny (model X.prog X.w) X.A (f v u) Q X.xe G) X.xe J) X.xe s:=by
 refine thn (ha pins s z H _ I h) fun v s1 ⟨x,O,I1,r1,Y⟩=>?_;refine thn (hb pins s1 z O _ I1 Y) fun u M ⟨y,B,I2,r2,U⟩=>?_;exact hf v u M x y B I2 r1 r2 U
theorem pe_op {z:Operator}{r:R2}(B:OpR X (binaryOp z) r)(Y:PE X a ta)(hb:PE X b tb):PE X (.BinOp a z b pos) (tOp r ta tb):=by
 intro pins s O H Q I h;exact wpAny_BinOp (binT Y hb I h fun v u J x y U G M ry q=>B pins J O U x y v u Q G M ry q)
theorem JG {z:UnaryOp}{r:V->Hp->VK->Prop}(J:UnR X (unaryOp z) r)(U:PE X a ta):PE X (.UnaryOp z a pos) (tUn r ta):=by
 intro pins s B H Q I h;exact UnaryOp_ (thn (U pins s B H _ I h) fun v s1 ⟨x,Y,O,G,M⟩=>J pins s1 B Y x v Q O G M)
theorem opI {f:Value->Value->Sem Value}{C:Int->Int->Prop}{g:Int->Int->Int}
  (rule:∀(i j:Int) (t u:Tok) (s:Shared) (Q:Value->Shared->Prop) (E:Value->Shared->Prop),C i j->Q (.int (g i j) s.toks) { s with toks:=s.toks+1 }->wpAny (model X.prog X.w) X.A (f (.int i t) (.int j u)) Q E s) :
  OpR X f (rI C fun i j=>.int (g i j)):=by
 intro pins s M H x y v u Q I z J h;obtain⟨i,j,rfl,rfl,B,q⟩:=h;obtain⟨t,rfl⟩:=z;obtain⟨G,rfl⟩:=J;exact rule i j t G s _ _ B ⟨.int (g i j),H,I.tok _,⟨_,rfl⟩,q⟩
theorem opI0 {f:Value->Value->Sem Value}{g:Int->Int->Int}
  (rule:∀(i j:Int) (t u:Tok) (s:Shared) (Q:Value->Shared->Prop) (E:Value->Shared->Prop),Q (.int (g i j) s.toks) { s with toks:=s.toks+1 }->wpAny (model X.prog X.w) X.A (f (.int i t) (.int j u)) Q E s) :
  OpR X f (rI0 fun i j=>.int (g i j)):=by
 intro pins s J H x y v u Q I z G h;obtain⟨i,j,rfl,rfl,q⟩:=h;obtain⟨t,rfl⟩:=z;obtain⟨B,rfl⟩:=G;exact rule i j t B s _ _ ⟨.int (g i j),H,I.tok _,⟨_,rfl⟩,q⟩
theorem opB0 {f:Value->Value->Sem Value}{g:Int->Int->Bool}
  (rule:∀(i j:Int) (t u:Tok) (s:Shared) (Q:Value->Shared->Prop) (E:Value->Shared->Prop),Q (.bool (g i j)) s->wpAny (model X.prog X.w) X.A (f (.int i t) (.int j u)) Q E s) :
  OpR X f (rI0 fun i j=>.bl (g i j)):=by
 intro pins s J H x y v u Q I z G h;obtain⟨i,j,rfl,rfl,q⟩:=h;obtain⟨t,rfl⟩:=z;obtain⟨B,rfl⟩:=G;exact rule i j t B s _ _ ⟨.bl (g i j),H,I,rfl,q⟩
theorem two_pow_nn (k:Nat):(0:Int)<=2^k:=by
 rw[two_pow_cast];exact Int.natCast_nonneg _
theorem op_add:OpR X (binaryOp .Add) (rI0 fun i j=>.int (i+j)):=opI0 fun _ _ _ _ _ _ _ q=>add_int q
theorem JH:OpR X (binaryOp .Sub) (rI0 fun i j=>.int (i-j)):=opI0 fun _ _ _ _ _ _ _ q=>sub_int q
theorem op_mod:OpR X (binaryOp .Mod) (rI (fun _ j=>0<j) fun i j=>.int (i%j)):=opI fun i j _ _ _ _ _ z q=>by
 have B:(0:Int)<j:=z
 exact mod_int' (by omega) (by rw[Int.fmod_eq_emod_of_nonneg i (by omega)];exact q)
theorem op_shr:OpR X (binaryOp .RShift) (rI (fun _ j=>0<=j) fun i j=>.int (i/2^j.toNat)):=opI fun i j _ _ _ _ _ z q =>
 rshift_int z (by rw[Int.fdiv_eq_ediv_of_nonneg i (two_pow_nn _)];exact q)
theorem op_and:OpR X (binaryOp .BitAnd) (rI0 fun i j=>.int (Builtin.bitAnd i j)):=opI0 fun _ _ _ _ _ _ _ q=>and_int q
theorem op_or:OpR X (binaryOp .BitOr) (rI0 fun i j=>.int (Builtin.bitOr i j)):=opI0 fun _ _ _ _ _ _ _ q=>or_int q
theorem unI {f:Value->Sem Value}{g:Int->Int}
  (rule:∀(i:Int) (t:Tok) (s:Shared) (Q:Value->Shared->Prop) (E:Value->Shared->Prop),Q (.int (g i) s.toks) { s with toks:=s.toks+1 }->wpAny (model X.prog X.w) X.A (f (.int i t)) Q E s) :
  UnR X f (rU fun i=>.int (g i)):=by
 intro pins s B H x v Q I z h;obtain⟨i,rfl,q⟩:=h;obtain⟨t,rfl⟩:=z;exact rule i t s _ _ ⟨.int (g i),H,I.tok _,⟨_,rfl⟩,q⟩
theorem jN:UnR X (unaryOp .USub) (rU fun i=>.int (-i)):=unI fun _ _ _ _ _ q=>neg_int q
end
def scal:V->V->Bool
 |.non,.non=>true|.non,.int _=>true|.int _,.non=>true|.non,.bl _=>true|.bl _,.non=>true|.non,.str _=>true|.str _,.non=>true
 |.int _,.int _=>true|.bl _,.bl _=>true|.str _,.str _=>true|.byt _,.byt _=>true
 |.int _,.str _=>true|.str _,.int _=>true|.bl _,.str _=>true|.str _,.bl _=>true
 |_,_=>false
def rEq:R2:=fun x y H Q=>scal x y=true/\Q (.bl (decide (x=y))) H
def rNe:R2:=fun x y H Q=>scal x y=true/\Q (.bl (!decide (x=y))) H
theorem dec_int {i j:Int}:decide (V.int i=V.int j)=(i==j):=by
 rw[jd];simp
theorem dec_bl {i j:Bool}:decide (V.bl i=V.bl j)=(i==j):=by
 rw[jd];simp
theorem dec_str {i j:Str}:decide (V.str i=V.str j)=(i==j):=by
 rw[jd];simp
theorem dec_byt {i j:Array UInt8}:decide (V.byt i=V.byt j)=(i.toList==j.toList):=by
 rw[jd];cases i
 cases j
 simp
section
variable {X:Cx}{a b c:Expr}{ta tb tc:TE}{pos:Pos}
theorem fin_bl {pins:List (Addr×Obj)}{z:St}{H:Hp}{s:Shared}{Q:VK}{k B:Bool}(I:Inv X pins z H s)(q:Q (.bl k) H)(e:k=B):EP X pins z Q (.bool B) s:=by
 subst e;exact⟨.bl k,H,I,rfl,q⟩
theorem op_eq:OpR X (compareOp .Eq) rEq:=by
 intro pins s M H x y v u Q I J z h;obtain⟨G,q⟩:=h;cases x with
 |non =>
  cases J
  cases y with
  |non=>cases z;exact PySem.EqNone.eq_none_none (fin_bl I q (by simp))
  |bl j=>cases z;exact PySem.EqNone.eq_none_bool (fin_bl I q (by simp))
  |int j=>obtain⟨B,rfl⟩:=z;exact PySem.EqNone.eq_none_int (fin_bl I q (by simp))
  |str j=>obtain⟨B,rfl⟩:=z;exact PySem.EqNone.eq_none_str (fin_bl I q (by simp))
  |_=>exact absurd (show false=true from G) zN
 |bl i =>
  cases J
  cases y with
  |non=>cases z;exact PySem.EqNone.eq_bool_none (fin_bl I q (by simp))
  |bl j=>cases z;exact eq_bool (fin_bl I q dec_bl)
  |str j=>obtain⟨B,rfl⟩:=z;exact PySem.EqMixed.eq_bool_str (fin_bl I q (by simp))
  |_=>exact absurd (show false=true from G) zN
 |int i =>
  obtain⟨t,rfl⟩:=J;cases y with
  |non=>cases z;exact PySem.EqNone.eq_int_none (fin_bl I q (by simp))
  |int j=>obtain⟨B,rfl⟩:=z;exact eq_int (fin_bl I q dec_int)
  |str j=>obtain⟨B,rfl⟩:=z;exact PySem.EqMixed.eq_int_str (fin_bl I q (by simp))
  |_=>exact absurd (show false=true from G) zN
 |str i =>
  obtain⟨t,rfl⟩:=J;cases y with
  |non=>cases z;exact PySem.EqNone.eq_str_none (fin_bl I q (by simp))
  |bl j=>cases z;exact PySem.EqMixed.eq_str_bool (fin_bl I q (by simp))
  |int j=>obtain⟨B,rfl⟩:=z;exact PySem.EqMixed.eq_str_int (fin_bl I q (by simp))
  |str j=>obtain⟨B,rfl⟩:=z;exact eq_str (fin_bl I q dec_str)
  |_=>exact absurd (show false=true from G) zN
 |byt i =>
  obtain⟨t,rfl⟩:=J;cases y with
  |byt j=>obtain⟨B,rfl⟩:=z;exact PySem.W.eq_bytes (fin_bl I q dec_byt)
  |_=>exact absurd (show false=true from G) zN
 |_=>cases y<;>exact absurd (show false=true from G) zN
theorem op_ne:OpR X (compareOp .NotEq) rNe:=by
 intro pins s M H x y v u Q I J z h;obtain⟨G,q⟩:=h;cases x with
 |non =>
  cases J
  cases y with
  |non=>cases z;exact PySem.EqNone.ne_none_none (fin_bl I q (by simp))
  |bl j=>cases z;exact PySem.EqNone.ne_none_bool (fin_bl I q (by simp))
  |int j=>obtain⟨B,rfl⟩:=z;exact PySem.EqNone.ne_none_int (fin_bl I q (by simp))
  |str j=>obtain⟨B,rfl⟩:=z;exact PySem.EqNone.ne_none_str (fin_bl I q (by simp))
  |_=>exact absurd (show false=true from G) zN
 |bl i =>
  cases J
  cases y with
  |non=>cases z;exact PySem.EqNone.ne_bool_none (fin_bl I q (by simp))
  |bl j=>cases z;exact ne_bool (fin_bl I q (congrArg not dec_bl))
  |str j=>obtain⟨B,rfl⟩:=z;exact PySem.EqMixed.ne_bool_str (fin_bl I q (by simp))
  |_=>exact absurd (show false=true from G) zN
 |int i =>
  obtain⟨t,rfl⟩:=J;cases y with
  |non=>cases z;exact PySem.EqNone.ne_int_none (fin_bl I q (by simp))
  |int j=>obtain⟨B,rfl⟩:=z;exact ne_int (fin_bl I q (congrArg not dec_int))
  |str j=>obtain⟨B,rfl⟩:=z;exact PySem.EqMixed.ne_int_str (fin_bl I q (by simp))
  |_=>exact absurd (show false=true from G) zN
 |str i =>
  obtain⟨t,rfl⟩:=J;cases y with
  |non=>cases z;exact PySem.EqNone.ne_str_none (fin_bl I q (by simp))
  |bl j=>cases z;exact PySem.EqMixed.ne_str_bool (fin_bl I q (by simp))
  |int j=>obtain⟨B,rfl⟩:=z;exact PySem.EqMixed.ne_str_int (fin_bl I q (by simp))
  |str j=>obtain⟨B,rfl⟩:=z;exact ne_str (fin_bl I q (congrArg not dec_str))
  |_=>exact absurd (show false=true from G) zN
 |byt i =>
  obtain⟨t,rfl⟩:=J;cases y with
  |byt j=>obtain⟨B,rfl⟩:=z;exact PySem.W.ne_bytes (fin_bl I q (congrArg not dec_byt))
  |_=>exact absurd (show false=true from G) zN
 |_=>cases y<;>exact absurd (show false=true from G) zN
theorem op_lt:OpR X (compareOp .Lt) (rI0 fun i j=>.bl (decide (i<j))):=opB0 fun _ _ _ _ _ _ _ q=>lt_int q
theorem op_le:OpR X (compareOp .LtE) (rI0 fun i j=>.bl (decide (i<=j))):=opB0 fun _ _ _ _ _ _ _ q=>le_int q
theorem Jb:OpR X (compareOp .Gt) (rI0 fun i j=>.bl (decide (j<i))):=opB0 fun _ _ _ _ _ _ _ q=>gt_int q
theorem op_ge:OpR X (compareOp .GtE) (rI0 fun i j=>.bl (decide (j<=i))):=opB0 fun _ _ _ _ _ _ _ q=>ge_int q
theorem nomark (b:Expr){z:CmpOp}(h:z≠.In:=by decide)(B:z≠.NotIn:=by decide):behindInMarks z b=false:=by
 have G:(z==CmpOp.In)=false:=by cases z<;>first|rfl|exact absurd rfl h
 have H:(z==CmpOp.NotIn)=false:=by cases z<;>first|rfl|exact absurd rfl B
 cases b<;>simp[behindInMarks,G,H]
theorem pe_cmpR {z:CmpOp}{r:R2}(B:OpR X (compareOp z) r)(ha:PE X a ta)(hb:PE X b tb)(J:behindInMarks z b=false):PE X (.Compare a [z] [b] pos) (tOp r ta tb):=by
 intro pins s U H Q I h;exact wpAny_Compare1 (binT ha hb I h fun v u M x y Y G O ry q=>B pins M U Y x y v u Q G O ry q) J
def tTest (t:TE):TT:=fun B H Q=>t B H fun x z=>∃k,x=.bl k/\Q k z
theorem pt_cmpR {B:CmpOp}{r:R2}(M:OpR X (compareOp B) r)(ha:PE X a ta)(hb:PE X b tb)(Y:behindInMarks B b=false):PT X (.Compare a [B] [b] pos) (tTest (tOp r ta tb)):=by
 intro pins s G H Q I h;refine wpAny_isTrue_Compare1 (thn (ha pins s G H _ I h) fun v s1 ⟨x,H1,I1,r1,O⟩=>thn (hb pins s1 G H1 _ I1 O) fun u s2 ⟨y,H2,U,r2,J⟩ =>
  thn (M pins s2 G H2 x y v u _ U r1 r2 J) fun c s3 ⟨z,H3,I3,r3,k,e,q3⟩=>?_) Y
 subst e;cases r3
 exact wpAny_truthy_bool ⟨H3,I3,q3⟩
def tChain (r O:R2)(ta tb tc:TE):TE:=fun B H Q=>ta B H fun x Y=>tb B Y fun y U=>r x y U fun z G=>∃k,z=.bl k /\
 (if k=true then tc B G fun M J=>O y M J Q else Q (.bl false) G)
theorem pe_chain {M B:CmpOp}{r O:R2}(ho:OpR X (compareOp M) r)(J:OpR X (compareOp B) O)(ha:PE X a ta)(hb:PE X b tb)(hc:PE X c tc)
  (hm:lastMarks [M,B] [b,c]=false:=by with_unfolding_all rfl):PE X (.Compare a [M,B] [b,c] pos) (tChain r O ta tb tc):=by
 intro pins s G H Q I h;refine Compare_chain (thn (ha pins s G H _ I h) fun v s1 ⟨x,H1,I1,r1,q1⟩=>chain_link (thn (hb pins s1 G H1 _ I1 q1) fun u s2 ⟨y,H2,I2,r2,q2⟩ =>
  thn (ho pins s2 G H2 x y v u _ I2 r1 r2 q2) fun d s3 ⟨z,U,Y,r3,k,e,q3⟩=>?_)) hm
 subst e;cases r3
 refine wpAny_truthy_bool ?_;cases k with
 |false=>exact ite_ff ⟨.bl false,U,Y,rfl,q3⟩
 |true=>exact ite_tt (chain_last (thn (hc pins s3 G U _ Y q3) fun w' s4 ⟨z',H4,I4,r4,q4⟩=>J pins s4 G H4 y z' u w' Q I4 r2 r4 q4))
theorem pt_chain {M B:CmpOp}{r O:R2}(ho:OpR X (compareOp M) r)(J:OpR X (compareOp B) O)(ha:PE X a ta)(hb:PE X b tb)(hc:PE X c tc)
  (hm:lastMarks [M,B] [b,c]=false:=by with_unfolding_all rfl):PT X (.Compare a [M,B] [b,c] pos) (tTest (tChain r O ta tb tc)):=by
 intro pins s G H Q I h;refine isTrue_chain (thn (ha pins s G H _ I h) fun v s1 ⟨x,H1,I1,r1,q1⟩=>test_link (thn (hb pins s1 G H1 _ I1 q1) fun u s2 ⟨y,H2,I2,r2,q2⟩ =>
  thn (ho pins s2 G H2 x y v u _ I2 r1 r2 q2) fun d s3 ⟨z,U,Y,r3,k,e,q3⟩=>?_)) hm
 subst e;cases r3
 refine wpAny_truthy_bool ?_;cases k with
 |false =>
  obtain⟨k',e',q'⟩:=q3;cases e'
  exact ite_ff ⟨U,Y,q'⟩
 |true =>
  refine ite_tt (test_last (thn (hc pins s3 G U _ Y q3) fun w' s4 ⟨z',H4,I4,r4,q4⟩=>thn (J pins s4 G H4 y z' u w' _ I4 r2 r4 q4) fun d' s5 ⟨z2,H5,I5,r5,k2,e2,q5⟩=>?_));subst e2;cases r5
  exact wpAny_truthy_bool ⟨H5,I5,q5⟩
theorem line63:(sizeLine:Nat)<2^63:=by rw[sizeLine_eq];decide
theorem ji {x:V}{us:List Value}(r:Vals [x] us):∃u,us=[u]/\RelV x u:=by
 cases r with
 |cons z B=>cases B;exact⟨_,rfl,z⟩
theorem vals2 {x y:V}{us:List Value}(r:Vals [x,y] us):∃u z,us=[u,z]/\RelV x u/\RelV y z:=by
 cases r with
 |cons B H =>
  cases H with
  |cons G J=>cases J;exact⟨_,_,rfl,B,G⟩
theorem call_abs:CallR X (.builtin "abs") (fun z H Q=>∃i,z=[.int i]/\Q (.int (if i<0 then -i else i)) H):=by
 intro pins s G H z B Q I r h;obtain⟨i,rfl,q⟩:=h;obtain⟨u,rfl,t,rfl⟩:=ji r;exact call_abs_int fun u tk=>⟨.int (if i<0 then -i else i),H,I.tok _,⟨_,rfl⟩,q⟩
theorem call_bool1:CallR X (.type "bool") (fun z H Q=>(∃i,z=[.int i]/\Q (.bl (i != 0)) H)\/∃k,z=[.bl k]/\Q (.bl k) H):=by
 intro pins s J H z G Q I r h;rcases h with⟨i,rfl,q⟩|⟨k,rfl,q⟩
 ·obtain⟨u,rfl,t,rfl⟩:=ji r;exact call_bool_int ⟨.bl (i != 0),H,I,rfl,q⟩
 ·obtain⟨u,rfl,B⟩:=ji r;cases B
  exact call_bool_bool ⟨.bl k,H,I,rfl,q⟩
theorem call_str_int:CallR X (.type "str") (fun z H Q=>∃i,z=[.int i]/\i.natAbs.log2<1920/\Q (.str (toString i)) H):=by
 intro pins s J H z G Q I r h;obtain⟨i,rfl,B,q⟩:=h;obtain⟨u,rfl,t,rfl⟩:=ji r;exact PySem.P.str_of_int B ⟨.str _,H,I.tok _,⟨_,rfl⟩,q⟩
end
structure ObjM (h:Heap) (x dx C:Addr) (mA:Str->Option Value):Prop where
 obj:h.get? x=some (PySem.W.instObj C dx)
 ns:h.Ns1 dx mA
 ne:dx≠x
theorem lookIn_ns {h:Heap}{J:Addr}{M:Str->Option Value}(n:h.Ns1 J M):∃H,h.get? J=some H/\∀name,PySem.W.lookIn name H=some (M name):=by
 obtain⟨o,G,ep,O,Y,hk,_,U⟩:=n;refine⟨o,O,fun name=>?_⟩;have e:=U name;unfold nsFind findBy at e;rw[<-Array.find?_toList]at e;unfold PySem.W.lookIn;rw[Y];dsimp only;split
 ·rename_i y q
  rw[q]at e;exact congrArg some e
 ·rename_i q
  rw[q]at e;have a:G.toList.any (·.refKey)=false:=by
   rw[List.any_eq_false];intro y hy;obtain⟨z,t,B⟩:=hk y (Array.mem_toList_iff.mp hy);simp[DictEntry.refKey,B]
  have a':¬ G.toList.any (·.refKey)=true:=by rw[a];exact zN
  rw[if_neg a'];exact congrArg some e
theorem ObjM.look {h:Heap}{x B C:Addr}{G:Str->Option Value}(I:ObjM h x B C G):∃z,PySem.W.InstAt h x (PySem.W.instObj C B) C (some z)/\∀name,PySem.W.lookIn name z=some (G name) :=
 let ⟨z,H,J⟩:=lookIn_ns I.ns
 ⟨z,⟨I.obj,rfl,rfl,H⟩,J⟩
section
variable {prog:Program}{w:World}{A:Around}{E:Value->Shared->Prop}{s:Shared}{K:zA}{x dx C f:Addr}{mA:Str->Option Value}{name:Str}{v:Value}
end
section
variable {P:Program}{w:World}{H H':Hp}{h h':Heap}{a C dx:Addr}{fs fs':List (Str×V)}
theorem ins_get (hok:HOk P w H h)(e:H a=some (.ins C dx fs)):∃B,ObjM h a dx C B/\(∀f,RelO (fs.lookup f) (B f))/\PySem.Within B (fs.map (·.1))/\fs.length<=1000/\H dx=some (.own a):=by
 obtain⟨d,z,ne,G,B,n,r,q⟩:=(show ObjOk P w H h a (.ins C dx fs) from hok a _ e);exact⟨B,⟨G,n,ne⟩,r,q,z,d⟩
end
structure Cls (K:zA) (C:Addr):Prop where
 pg:PySem.W.plainGet K C Str.empty=true
 hd:PySem.W.hasDictIn K C=true
 po:PySem.W.plainOver K C=true
 sa:PySem.W.findIn K (.ref C) "__setattr__" = some (some (.builtin "object.__setattr__"))
theorem Cls.get {K:zA}{C:Addr}(c:Cls K C)(f:Str):PySem.W.plainGet K C f=true:=c.pg
section
variable {X:Cx}{pins:List (Addr×Obj)}{σ:St}{H:Hp}{s:Shared}{a C dx:Addr}{fs:List (Str×V)}{f:Str}{v:V}{A:Around}{E:Value->Shared->Prop}
end
section
variable {X:Cx}{o e value:Expr}{f:Str}{pos pos' tpos:Pos}{ta tv:TE}
end
section
variable {X:Cx}{pins:List (Addr×Obj)}{σ:St}{H:Hp}{s:Shared}{A:Around}{E:Value->Shared->Prop}{Q:Value->Shared->Prop}{c:Value}{b:Bool}
inductive TyOf (K:zA) (H:Hp):V->Value->Prop where
 |non:TyOf K H .non (.type "NoneType")
 |bl (x:Bool):TyOf K H (.bl x) (.type "bool")
 |int (i:Int):TyOf K H (.int i) (.type "int")
 |str (x:Str):TyOf K H (.str x) (.type "str")
 |flt (x:UInt64):TyOf K H (.flt x) (.type "float")
 |lst {a:Addr} {xs:List V} (e:H a=some (.lst xs)):TyOf K H (.ref a) (.type "list")
 |frz {a:Addr} {o:Obj} {xs:List V} (e:H a=some (.frz o (.lst xs))):TyOf K H (.ref a) (.type "list")
 |tup {a:Addr} {xs:List V} (e:H a=some (.tup xs)):TyOf K H (.ref a) (.type "tuple")
 |dK {a:Addr} {kvs:List (Key×V)} (e:H a=some (.dK kvs)):TyOf K H (.ref a) (.type "dict")
 |dT {a:Addr} {kvs:List (List Key×V)} (e:H a=some (.dT kvs)):TyOf K H (.ref a) (.type "dict")
 |ins {a C dx:Addr} {fs:List (Str×V)} (e:H a=some (.ins C dx fs)) (cl:Cls K C) (ha:PySem.W.findIn K (.ref C) "__class__" = some (some (.builtin "object.__class__")))
   (hn:PySem.W.specialIn K (.builtin "object.__class__") "__get__" = some (some (.builtin "getset_descriptor.__get__"))) (htk:PySem.W.takesIn K (.builtin "object.__class__")=some true)
   (hm:PySem.W.mroIn K C (.type "object")=some true):TyOf K H (.ref a) (.ref C)
theorem isinst_ok {x:V}{u t:Value}(I:Inv X pins σ H s)(B:RelV x u)(ty:TyOf X.K H x t)(e:zg X.K t c=some b)(h:∀tk,Q (.bool b) { s with toks:=tk }) :
  wpAny (model X.prog X.w) A (call (.builtin "isinstance") [u,c]) Q E s:=by
 cases ty with
 |non=>cases (show u=Value.none from B);exact yQ PySem.W.kitx_none I.kIn True.intro e (fun z=>nomatch z) h
 |bl y=>cases (show u=Value.bool y from B);exact yQ PySem.W.kitx_bool I.kIn True.intro e (fun z=>nomatch z) h
 |int i=>obtain⟨t,q⟩:=(show ∃t,u=Value.int i t from B);cases q;exact yQ PySem.W.kitx_int I.kIn True.intro e (fun z=>nomatch z) h
 |str y=>obtain⟨t,q⟩:=(show ∃t,u=Value.str y t from B);cases q;exact yQ PySem.W.kitx_str I.kIn True.intro e (fun z=>nomatch z) h
 |flt y=>obtain⟨t,q⟩:=(show ∃t,u=Value.float y t from B);cases q;exact yQ PySem.W.kitx_float I.kIn True.intro e (fun z=>nomatch z) h
 |@lst a Y G =>
  cases (show u=Value.ref a from B)
  obtain⟨_,_,n,_,M⟩:=(show ObjOk X.prog X.w H s.heap a (.lst Y) from I.hok a _ G);exact yQ PySem.W.kitx_list I.kIn ⟨_,M,rfl⟩ e (fun z=>nomatch z) h
 |@frz a ob Y G =>
  cases (show u=Value.ref a from B)
  obtain⟨_,_,_,n,_,M⟩:=(show ObjOk X.prog X.w H s.heap a (.frz ob (.lst Y)) from I.hok a _ G);exact yQ PySem.W.kitx_list I.kIn ⟨_,M,rfl⟩ e (fun z=>nomatch z) h
 |@tup a Y G =>
  cases (show u=Value.ref a from B)
  obtain⟨_,_,_,p⟩:=(show ObjOk X.prog X.w H s.heap a (.tup Y) from I.hok a _ G);obtain⟨o,M,h2,_⟩:=p;exact yQ PySem.W.kitx_tuple I.kIn ⟨o,M,h2⟩ e (fun z=>nomatch z) h
 |@dK a U G =>
  cases (show u=Value.ref a from B)
  obtain⟨_,_,vs,_,p⟩:=(show ObjOk X.prog X.w H s.heap a (.dK U) from I.hok a _ G);obtain⟨o,es,ep,M,h2,_⟩:=p;exact yQ PySem.W.kitx_dict I.kIn ⟨o,M,h2.1⟩ e (fun z=>nomatch z) h
 |@dT a U G =>
  cases (show u=Value.ref a from B)
  obtain⟨_,_,Y,_,o,es,ep,M,h2,_⟩:=(show ObjOk X.prog X.w H s.heap a (.dT U) from I.hok a _ G);exact yQ PySem.W.kitx_dict I.kIn ⟨o,M,h2.1⟩ e (fun z=>nomatch z) h
 |@ins a C dx fs G cl ha hn htk hm =>
  cases (show u=Value.ref a from B)
  obtain⟨mA,O,_⟩:=ins_get I.hok G;obtain⟨od,J,_⟩:=O.look;exact yQ (PySem.W.kitx_own (cl.get _) cl.hd ha hn htk hm) I.kIn J e (fun z=>nomatch z) h
end
structure Room (k:Nat) (A:Around):Prop where
 hd:A.handled=none
 dp:A.depth+3*k+5<recursionLimit
 un:A.units+16*k+200<cLine
 gd:A.guards=some []
theorem Room.mono {j k:Nat}{A:Around}(r:Room k A)(h:j<=k):Room j A:=⟨r.hd,by have:=r.dp;omega,by have:=r.un;omega,r.gd⟩
theorem Room.deeper {k:Nat}{A:Around}(r:Room (k+1) A)(env:Env):Room k (A.deeper env) :=
 ⟨r.hd,by have:=r.dp;show A.depth+1+3*k+5<_;omega,by have:=r.un;show A.units+3+16*k+200<_;omega,r.gd⟩
theorem Room.depth {k:Nat}{A:Around}(r:Room k A):A.depth<recursionLimit:=by have:=r.dp;omega
theorem Room.units {k:Nat}{A:Around}(r:Room k A):A.units+64<cLine:=by have:=r.un;omega
def tNil:TA:=fun _ H Q=>Q [] H
def tCons (M:TE)(J:TA):TA:=fun z H Q=>M z H fun x O=>J z O fun B G=>Q (x::B) G
section
variable {X:Cx}{e:Expr}{es:List Expr}{te:TE}{t:TA}{pos:Pos}
theorem pa_nil:PA X [] tNil:=fun _ _ _ _ H Q I h=>Calls.spliced_nil ⟨[],H,I,.nil,h⟩
theorem pa_cons (ha:PE X e te)(Y:PA X es t)(G:starEach (e::es) X.env=(false,eval e X.env)::starEach es X.env:=by rfl):PA X (e::es) (tCons te t):=by
 intro pos pins s z H Q I h;rw[G];show wpAny _ _ (spliced ((false,eval e X.env)::backTo pos (starEach es X.env))) _ _ s
 refine Calls.spliced_cons (thn (ha pins s z H _ I h) fun u O ⟨x,H1,I1,U,J⟩=>?_);exact thn (Y pos pins O z H1 _ I1 J) fun us s2 ⟨xs,H2,M,r2,B⟩=>⟨x::xs,H2,M,.cons U r2,B⟩
def tTup (t:TA):TE:=fun G H Q=>t G H fun B z=>B.length<=sizeLine/\∀p,z p=none->Q (.ref p) (upd z p (.tup B))
def tLst (t:TA):TE:=fun G H Q=>t G H fun B z=>B.length<=sizeLine/\∀p,z p=none->Q (.ref p) (upd z p (.lst B))
theorem pe_tup {x1}(h:PA X es t):PE X (.Tuple es x1 pos) (tTup t):=by
 intro pins s σ H Q I U;refine wpAny_Tuple_spliced (thn (h pos pins s σ H _ I U) fun Y B ⟨O,J,G,r,z,q⟩=>⟨by rw[<-r.length];exact z,?_⟩);have M:J B.heap.objs.size=none:=G.hok.fresh (zB _);refine⟨.ref B.heap.objs.size,upd J B.heap.objs.size (.tup O),G.laid (t':=B.toks) (fun b u e=>Heap.get?_push_of_some _ e) (zB _) ?_,rfl,q _ M⟩;exact⟨z,Y,r,⟨_,Heap.get?_push_size _ rfl,rfl,_,rfl⟩⟩
theorem pe_lst (h:PA X es t):PE X (.List es pos) (tLst t):=by
 intro pins s σ H Q I U;refine wpAny_List_spliced (thn (h pos pins s σ H _ I U) fun Y B ⟨O,J,G,r,z,q⟩=>⟨by rw[<-r.length];exact z,?_⟩);have M:J B.heap.objs.size=none:=G.hok.fresh (zB _);refine⟨.ref B.heap.objs.size,upd J B.heap.objs.size (.lst O),G.laid (t':=B.toks) (fun b u e=>Heap.get?_push_of_some _ e) (zB _) ?_,rfl,q _ M⟩;exact⟨z,Y,0,r,Heap.get?_push_size _ rfl⟩
end
abbrev Sp:=List V->Hp->VK->XK->Prop
abbrev CXT:=List Env->Hp->Shared->XK->Value->Shared->Prop
structure Env0 (P:Program) (w:World) (K:zA) (mg:Str->Option Value) (base:Heap) (A:Around) (outer:List Env) (s:Shared) (H:Hp):Prop where
 frames:A.frames=some outer
 mod:Mod K mg base
 bs:∀b o,base.get? b=some o->s.heap.get? b=some o/\H b=none
 bsz:base.objs.size<=s.heap.objs.size
 funs:s.heap.FunFrames base outer
 frf:∀b∈frs outer,H b=none
 hok:HOk P w H s.heap
 bare:AllBare s.gens
def CE (outer:List Env)(P:Program)(w:World)(H:Hp)(s:Shared)(Q:VK)(u:Value)(s':Shared):Prop :=
 ∃v z,s'.os=s.os/\AllBare s'.gens/\Un (frs outer) [] H z s.heap s'.heap/\HOk P w z s'.heap/\RelV v u/\Q v z
def CR (CX:CXT)(outer:List Env)(P:Program)(w:World)(H:Hp)(s:Shared)(Q:VK)(E:XK)(r:Result)(s':Shared):Prop :=
 match r with
 |.ok (.ret u)=>CE outer P w H s Q u s'
 |.ok _=>False
 |.error e=>CX outer H s E e s'
structure FnOk (P:Program) (w:World) (K:zA) (mg:Str->Option Value) (base:Heap) (CX:CXT) (k:Nat) (f:Addr) (fd:FuncData) (ps:List Str) (sp:Sp):Prop where
 len:∀vs H Q E,sp vs H Q E->vs.length=ps.length
 run:∀(A:Around) (outer:List Env) (s:Shared) (H:Hp) (args:Args) (us:List Value) (vs:List V) (Q:VK) (E:XK),Room k A->Env0 P w K mg base A outer s H->BindsTo s fd args (ps.zip us)->Vals vs us->sp vs H Q E ->
  codeAny (model P w) A (.call (.ref f) args) (CR CX outer P w H s Q E) s
theorem FnOk.mono {P:Program}{w:World}{K:zA}{z:Str->Option Value}{base:Heap}{CX:CXT}{j k:Nat}{f:Addr}{G:FuncData}{B:List Str}{sp:Sp}(F:FnOk P w K z base CX j f G B sp)(h:j<=k) :
  FnOk P w K z base CX k f G B sp:=⟨F.len,fun A outer s H args O J Q E M=>F.run A outer s H args O J Q E (M.mono h)⟩
section
variable {X:Cx}{pins:List (Addr×Obj)}{σ:St}{H:Hp}{s s':Shared}
theorem Inv.env0 (I:Inv X pins σ H s):Env0 X.prog X.w X.K X.mg X.base X.A X.stack s H :=
 ⟨I.ok.frames,I.ok.mod,I.bs,zL I.ok.bsz I.sz,I.stack,I.stkFree,I.hok,I.bare⟩
theorem Inv.after {Q:VK}{u:Value}(I:Inv X pins σ H s)(h:CE X.stack X.prog X.w H s Q u s'):EP X pins σ Q u s':=by
 obtain⟨v,J,G,bare,un,hok,r,q⟩:=h;obtain⟨M,g,d,t,B⟩:=s';obtain rfl:B=s.os:=G;exact⟨v,J,I.call (h':=M) (g':=g) (d':=d) (t':=t) (ch:=[]) un hok bare (fun b z=>absurd z (by simp)),r,q⟩
end
def tCall (sp:Sp)(z:List V)(E:XK)(t:TA):TE:=fun G H Q=>t G H fun B J=>sp (B++z) J Q E
def Binds (K:zA)(G:FuncData)(B:List Str)(ds:List Value):Prop :=
 ∀(s:Shared) (z:List Value),K.In s.heap->(z++ds).length=B.length->BindsTo s G ⟨z,[]⟩ (B.zip (z++ds))
theorem Binds.all {K:zA}{H:FuncData}{B:List Str}(h:∀z:List Value,z.length=B.length->bindArgs H ⟨z,[]⟩=pure (B.zip z)):Binds K H B []:=fun s z _ G=>by
 rw[zu]at G ⊢
 exact .of_eq (h z G)
def Passes (CX:CXT)(X:Cx)(E:XK):Prop:=∀(pins:List (Addr×Obj)) (B:St) (H:Hp) (s:Shared) (e:Value) (z:Shared),Inv X pins B H s->CX X.stack H s E e z->X.xe e z
section
variable {X:Cx}{CX:CXT}{k:Nat}{f C:Addr}{fd:FuncData}{ps:List Str}{sp:Sp}{dvs:List V}{ds:List Value}{E:XK}{x m:Str}{p pos apos:Pos}{e o:Expr}{es:List Expr}{ta:TE}{t:TA}
theorem run_fn {pins:List (Addr×Obj)}{B:St}{H:Hp}{s:Shared}{Q:VK}{us:List Value}{vs:List V}(F:FnOk X.prog X.w X.K X.mg X.base CX k f fd ps sp)(U:Room k X.A)(hb:Binds X.K fd ps ds)(O:Vals dvs ds)(Y:Passes CX X E)
  (I:Inv X pins B H s) (r:Vals vs us) (h:sp (vs++dvs) H Q E):wpAny (model X.prog X.w) X.A (call (.ref f) us) (EP X pins B Q) X.xe s:=by
 have G:Vals (vs++dvs) (us++ds):=r.append O;have M:(us++ds).length=ps.length:=by rw[<-G.length];exact F.len _ _ _ _ h
 refine wpAny_call (codeAny_mono (F.run X.A X.stack s H ⟨us,[]⟩ (us++ds) (vs++dvs) Q E U I.env0 (hb s us I.kIn M) G h) fun r J z=>?_);cases r with
 |error e=>exact Y pins B H s e J I z
 |ok fl =>
  cases fl with
  |ret u=>exact I.after z
  |next=>exact False.elim z
  |brk=>exact False.elim z
  |cont=>exact False.elim z
theorem pe_call (F:FnOk X.prog X.w X.K X.mg X.base CX k f fd ps sp)(hr:Room k X.A)(O:Gl X x)(M:X.mg x=some (.ref f))(Y:x5 X.K (.ref f)=true)(hb:Binds X.K fd ps ds)(U:Vals dvs ds)(hx:Passes CX X E)
  (ha:PA X (e::es) t) (B:(x==("__debug__" : Str))=false:=by decide) (J:starEach (e::es) X.env=(false,eval e X.env)::starEach es X.env:=by rfl) (z:(backTo pos (starEach es X.env)).any (·.1)=false:=by rfl) :
  PE X (.Call (.Name x p) (e::es) [] pos) (tCall sp dvs E t):=by
 intro pins s σ H Q I h;refine wpAny_Call_Name_kw (ld_glob I O M ?_ B);refine PySem.W.callWith_K (h₀:=X.base) I.ok.mod.kin Y (thn (ha pos pins s σ H _ I h) fun us s1 ⟨vs,H1,G,r,q⟩=>⟨G.kIn,?_⟩) J z;exact run_fn F hr hb U hx G r q
end
section
variable {X:Cx}{CX:CXT}{k:Nat}{f C:Addr}{fd:FuncData}{ps ks:List Str}{sp:Sp}{E:XK}{x m:Str}{p pos apos kpos:Pos}{e o:Expr}{es:List Expr}{kws:List Keyword}{te ta:TE}{t tk:TA}{nm:Option Str}
variable {g:List Value->List Value->List Value}{gV:List V->List V->List V}
end
structure FnScope (N P:List Str) (sc:Scope):Prop where
 kind:sc.kind=.function
 co:sc.isCoroutine=false
 gen:sc.isGenerator=false
 nd:N.Nodup
 pre:N.take P.length=P
 par:∀x∈P,sc.names.lookup x=some .local\/sc.names.lookup x=some .cell
 nofree:∀y∈sc.names,y.2≠.free
theorem bindL_out {kindOf:Str->Option NameKind}{x:Str}:∀{binds:List (Str×Value)} {m:Str->Option Value},(∀v,(x,v)∉binds)->bindL kindOf binds m x=m x
 |[],_,_=>rfl
 |(n,v)::r,m,h=>by
  unfold bindL
  rw[bindL_out fun w z=>h w (zF _ z)]
  split
  ·have:x≠n:=by rintro rfl;exact h v zM
   simp[this]
  ·rfl
theorem bindC_out {kindOf:Str->Option NameKind}{x:Str}:∀{binds:List (Str×Value)} {m:Str->Option Value},(∀v,(x,v)∉binds)->bindC kindOf binds m x=m x
 |[],_,_=>rfl
 |(n,v)::r,m,h=>by
  unfold bindC
  rw[bindC_out fun w z=>h w (zF _ z)]
  split
  ·rfl
  ·have:x≠n:=by rintro rfl;exact h v zM
   simp[this]
theorem bindL_get {kindOf:Str->Option NameKind}{x:Str}{v:Value}:∀{P:List Str} {vs:List Value} {i:Nat} {m:Str->Option Value},P.Nodup->P[i]? = some x->vs[i]? = some v->kindOf x=some .local ->
  bindL kindOf (P.zip vs) m x=some v
 |[],_,_,_,_,h,_,_=>by simp at h
 |_::_,[],_,_,_,_,h,_=>by simp at h
 |p::P,w::vs,0,m,H,B,z,G=>by
  simp at B z;subst B;subst z
  show bindL kindOf ((p,w)::P.zip vs) m p=_
  unfold bindL
  rw[bindL_out fun v J=>(jc.mp H).1 (List.of_mem_zip J).1,if_pos G]
  simp
 |p::P,w::vs,i+1,m,H,B,z,G=>by
  show bindL kindOf ((p,w)::P.zip vs) m x=_
  unfold bindL
  exact bindL_get (i:=i) (jc.mp H).2 (by simpa using B) (by simpa using z) G
theorem bindC_get {kindOf:Str->Option NameKind}{x:Str}{v:Value}:∀{P:List Str} {vs:List Value} {i:Nat} {m:Str->Option Value},P.Nodup->P[i]? = some x->vs[i]? = some v->kindOf x≠some .local ->
  bindC kindOf (P.zip vs) m x=some v
 |[],_,_,_,_,h,_,_=>by simp at h
 |_::_,[],_,_,_,_,h,_=>by simp at h
 |p::P,w::vs,0,m,H,B,z,G=>by
  simp at B z;subst B;subst z
  show bindC kindOf ((p,w)::P.zip vs) m p=_
  unfold bindC
  rw[bindC_out fun v J=>(jc.mp H).1 (List.of_mem_zip J).1,if_neg G]
  simp
 |p::P,w::vs,i+1,m,H,B,z,G=>by
  show bindC kindOf ((p,w)::P.zip vs) m x=_
  unfold bindC
  exact bindC_get (i:=i) (jc.mp H).2 (by simpa using B) (by simpa using z) G
def jj (N:List Str)(vs:List V):St:=vs.map some++qQ (N.length-vs.length) none
def cxOf (CX:CXT)(P:Program)(w:World)(K:zA)(G:Str->Option Value)(base:Heap)(N:List Str)(qual:Str)(scope:Scope)(f:Addr)(B:Value)(A:Around)(outer:List Env)(s:Shared)(H:Hp)(E:XK):Cx where
 prog:=P
 w:=w
 K:=K
 mg:=G
 base:=base
 A:=A.deeper (envOfC qual scope s.heap.objs.size f B)
 N:=N
 s₀:=s
 H₀:=H
 env:=envOfC qual scope s.heap.objs.size f B
 outer:=outer
 stack:=envOfC qual scope s.heap.objs.size f B::outer
 ex:=[]
 calm:=true
 fn:=fun _=>true
 pn:=[]
 xe:=fun e J=>wpAny (model P w) (A.deeper (envOfC qual scope s.heap.objs.size f B)) (leaving (envOfC qual scope s.heap.objs.size f B) e) (fun _ z=>CX outer H s E e z) (fun M z=>CX outer H s E M z) J
theorem cell_has {z:Scope}{n:Nat}{x:Str}(h:z.names.lookup x=some .cell):∃c,(cellsFrom n z.names []).lookup x=some c:=by
 have q:=PySem.W.cellsFrom_some z.names n [] (.inl h);exact Option.isSome_iff_exists.mp q
theorem inv_start {CX:CXT}{P:Program}{w:World}{K:zA}{mg:Str->Option Value}{base:Heap}{N J:List Str}{qual:Str}{scope:Scope}{f:Addr}{cd:Value}{A:Around}{outer:List Env}{s s1:Shared}{H:Hp}{E:XK}{us:List Value}{vs:List V}
  (S:FnScope N J scope) (hd:A.handled=none) (G:Env0 P w K mg base A outer s H) (hl:vs.length=J.length) (r:Vals vs us)
  (x:InCallC s s.heap.objs.size (bindL (envOfC qual scope s.heap.objs.size f cd).kindOf (J.zip us) fun _=>none) (cellsFrom (s.heap.objs.size+1) scope.names []) (bindC (envOfC qual scope s.heap.objs.size f cd).kindOf (J.zip us) fun _=>none) s1) :
  Inv (cxOf CX P w K mg base N qual scope f cd A outer s H E) [] (jj N vs) H s1:=by
 have hpl:J.length<=N.length:=by have:=congrArg List.length S.pre;rw[qO]at this;omega
 obtain⟨h1,tk,rfl,hk⟩:=x.done;have M:∀b:Addr,b∉(cxOf CX P w K mg base N qual scope f cd A outer s H E).ex:=fun b z=>absurd (show b∈([]:List Addr) from z) (by simp);refine⟨⟨G.mod,S.kind,rfl,rfl,zB _,fun y z c h1 B=>?_,fun y O=>?_,fun y c _ h=>?_,fun _=>hd,Around.frames_deeper G.frames,.inr ⟨rfl,rfl⟩,fun b z=>absurd z (M b),G.bs,G.bsz,fun b _ _=>M b,fun b z=>absurd z (M b),G.funs,G.frf⟩,
  rfl,G.bare,Un.kept hk,⟨_,x.toInCall.ns,fun i y v h1 B h3=>?_⟩,fun y c h=>⟨_,x.cell y c h⟩,G.hok.fresh (zB _),fun y c h=>?_,fun p U=>absurd (show p∈([]:List (Addr×Obj)) from U) (by simp),G.hok.kept hk,?_⟩
 ·exact name_of_addr x.apart (PySem.mem_of_lookup h1) (PySem.mem_of_lookup B)
 ·have O:scope.names.lookup y=some .cell\/scope.names.lookup y=some .free:=O;rcases O with O|O
  ·exact cell_has O
  ·exact absurd rfl (S.nofree _ (PySem.mem_of_lookup O))
 ·exact Nat.le_of_lt (x.above y c (PySem.mem_of_lookup h))
 ·have hi:i<vs.length:=by
   unfold jj at B;by_cases hi:i<vs.length
   ·exact hi
   ·rw[qG (by simpa using hi)]at B;rw[List.getElem?_replicate]at B;split at B<;>cases B
  have ha:vs[i]? = some v:=by
   unfold jj at B;rw[qH (by simpa using hi),qI]at B;cases e:vs[i]? with
   |none=>rw[e]at B;cases B
   |some a=>rw[e]at B;cases B;rfl
  obtain⟨u,hu,rv⟩:=r.get ha;have U:J[i]? = some y:=by
   rw[<-S.pre,yP (by omega)];exact h1
  have Y:J.Nodup:=by rw[<-S.pre];exact S.nd.sublist (List.take_sublist _ _)
  refine⟨u,rv,?_⟩;rcases S.par y (qE U) with k|k
  ·exact .inl ⟨k,bindL_get Y U hu k⟩
  ·obtain⟨c,e⟩:=cell_has (n:=s.heap.objs.size+1) k;refine .inr ⟨.inl k,c,e,?_⟩;have q:=x.cell y c e;rw[bindC_get Y U hu (by show scope.names.lookup y≠_;rw[k];decide)]at q;exact q
 ·exact G.hok.fresh (Nat.le_of_lt (x.above y c (PySem.mem_of_lookup h)))
 ·unfold jj;show _=N.length
  rw[qF,qC,qL];omega
theorem fn_of {CX:CXT}{P:Program}{w:World}{K:zA}{mg:Str->Option Value}{base:Heap}{k:Nat}{f:Addr}{name qual:Str}{params:Arguments}{body:List Stmt}{scope:Scope}{dV kV doc pm z ct oc:Value}{an od:Option Addr}
  {osl:Array (Option Value)} {N ps:List Str} {sp:Sp} (lk:K.lookup f=some ⟨oc,od,.func (xZ name qual params body scope dV kV doc pm an z ct),osl⟩) (hcd:PySem.W.codeIn K z qual=true) (S:FnScope N ps scope)
  (len:∀vs H Q E,sp vs H Q E->vs.length=ps.length)
  (O:∀(A:Around) (outer:List Env) (s:Shared) (H:Hp) (vs:List V) (Q:VK) (E:XK),Room k (A.deeper (envOfC qual scope s.heap.objs.size f z))->sp vs H Q E ->
   ∃t,PSs (cxOf CX P w K mg base N qual scope f z A outer s H E) body t/\t { nx:=fun _ G=>Q .non G,rt:=Q } (jj N vs) H) :
  FnOk P w K mg base CX (k+1) f (xZ name qual params body scope dV kV doc pm an z ct) ps sp:=by
 refine⟨len,fun A outer s H args us vs Q E hr Y hb r aa=>?_⟩;have hl:=len _ _ _ _ aa;have KX:K.In s.heap:=Y.mod.kin.keeps fun b o e=>(Y.bs b o e).1;have lim:s.heap.NoLimit:=Y.mod.nolimit.keeps fun b o e=>(Y.bs b o e).1;have M:∀y∈ps.zip us,scope.names.lookup y.1=some .local\/(scope.names.lookup y.1=some .cell/\((cellsFrom (s.heap.objs.size+1) scope.names []).lookup y.1).isSome=true):=fun⟨n,v⟩ hy=>by
  rcases S.par n (List.of_mem_zip hy).1 with q|q
  ·exact .inl q
  ·exact .inr ⟨q,PySem.W.cellsFrom_some _ _ _ (.inl q)⟩
 refine codeAny_call_function hr.depth (KX _ _ lk) rfl S.co S.gen rfl (PySem.W.codeRec_of KX hcd) (hb _ _ _ _ ?_);refine wpAny_newFunctionEnv_cells S.kind M fun env he s1 x=>?_;subst he;refine⟨lim.keeps x.toInCall.keep,codeAny_func ?_⟩;obtain⟨t,ht,hq⟩:=O A outer s H vs Q E (hr.deeper _) aa;have I:Inv (cxOf CX P w K mg base N qual scope f z A outer s H E) [] (jj N vs) H s1:=inv_start S hr.hd Y hl r x;refine wpAny_mono (ht [] s1 (jj N vs) H _ I hq) (fun fl s' U=>?_) fun e s' U=>U;have fin:∀{B:St} {G:Hp} {v:V} {u:Value},Inv (cxOf CX P w K mg base N qual scope f z A outer s H E) [] B G s'->RelV v u->Q v G->CE outer P w H s Q u s' :=
  fun {B G v u} J rv q=>⟨v,G,J.os,J.bare,J.base,J.hok,rv,q⟩
 cases fl with
 |ret u =>
  obtain⟨v,B,G,J,rv,q⟩:=U;exact fin J rv q
 |next =>
  obtain⟨B,G,J,q⟩:=U;exact fin (v:=V.non) (u:=Value.none) J rfl q
 |brk =>
  obtain⟨_,_,_,q⟩:=U;exact False.elim q
 |cont =>
  obtain⟨_,_,_,q⟩:=U;exact False.elim q
section
variable {X:Cx}{x:Str}{p pos:Pos}{e:Expr}{es:List Expr}{t:TA}{id T:String}{r:List V->Hp->VK->Prop}
def tCB (r:List V->Hp->VK->Prop)(t:TA):TE:=fun G H Q=>t G H fun z B=>r z B Q
theorem pe_callB (hc:CallR X (.builtin id) r) (hg:Gl X x) (U:X.mg x=none) (hv:bootBuiltins x=some (.builtin id)) (ha:PA X (e::es) t) (hn:x ≠ "__name__":=by decide) (B:(x==("__debug__" : Str))=false:=by decide)
  (O:starEach (e::es) X.env=(false,eval e X.env)::starEach es X.env:=by rfl) (z:(backTo pos (starEach es X.env)).any (·.1)=false:=by rfl):PE X (.Call (.Name x p) (e::es) [] pos) (tCB r t):=by
 intro pins s G H Q I h;refine wpAny_Call_Name_kw (Jf I hg U hv ?_ hn B);exact PyProof.Rows.callWith_builtin1 (thn (ha pos pins s G H _ I h) fun us Y ⟨M,H1,I1,r1,J⟩=>hc pins Y G H1 M us Q I1 r1 J) O z
theorem pe_callTy (hc:CallR X (.type T) r) (hg:Gl X x) (U:X.mg x=none) (hv:bootBuiltins x=some (.type T)) (ha:PA X (e::es) t) (hn:x ≠ "__name__":=by decide) (B:(x==("__debug__" : Str))=false:=by decide)
  (O:starEach (e::es) X.env=(false,eval e X.env)::starEach es X.env:=by rfl) (z:(backTo pos (starEach es X.env)).any (·.1)=false:=by rfl):PE X (.Call (.Name x p) (e::es) [] pos) (tCB r t):=by
 intro pins s G H Q I h;refine wpAny_Call_Name_kw (Jf I hg U hv ?_ hn B);exact PyProof.Rows.callWith_type1 (thn (ha pos pins s G H _ I h) fun us Y ⟨M,H1,I1,r1,J⟩=>hc pins Y G H1 M us Q I1 r1 J) O z
end
end L2
namespace HT
open PySem PyProof.Rows
section
open PySem.SeqAt
open PySem.AutoSeq1 (wpAny_loadPart')
open PySem.MeetsSeq PySem.MeetsSeq2 PySem.MeetsSeq3
end
section
variable {prog:Program}{w:World}{A:Around}{E:Value->Shared->Prop}{s:Shared}
theorem cat_tup {t b:Addr}{vs z:List Value}{Q:Value->Shared->Prop}(ht:IsTup s.heap t vs.toArray)(hb:IsTup s.heap b z.toArray)(hv:vs≠[])
  (h1:z=[]->Q (.ref t) s) (h2:z≠[]->Q (.ref s.heap.objs.size) { s with heap:=s.heap.push { cls:=.type "tuple",data:=.seq (vs++z).toArray } })
  (hsz:vs.length+z.length<=sizeLine):wpAny (model prog w) A (binaryOp .Add (.ref t) (.ref b)) Q E s:=by
 obtain⟨⟨cls,U,data,sl⟩,M,hc,n,hd⟩:=id ht;obtain⟨⟨Y,H,data2,G⟩,B,J,n2,hd2⟩:=id hb;simp only at hc hd J hd2;subst hc hd J hd2;have e:vs.toArray++z.toArray=(vs++z).toArray:=by simp
 by_cases O:z=[]
 ·exact concat_meets ⟨_,M,rfl⟩ ⟨_,B,rfl⟩ noFill_tuple_add seq_tuple_add PySem.F.slot_tuple_add PySem.F.entry_tuple_add (PySem.F.args_tuple_add_2 _ _)
   (tuple_addW1 t b vs.toArray z.toArray n n2 U H sl G (by simpa using hv) (by simp[O])) ⟨M,B,h1 O⟩
 ·refine concat_meets ⟨_,M,rfl⟩ ⟨_,B,rfl⟩ noFill_tuple_add seq_tuple_add PySem.F.slot_tuple_add PySem.F.entry_tuple_add (PySem.F.args_tuple_add_2 _ _)
   (tuple_addW2 t b vs.toArray z.toArray n n2 U H sl G (by simpa using hv) (by simpa using O) (by rw[qM,qM];exact hsz)) ⟨M,B,?_⟩
  rw[e];exact h2 O
def sIx (n d:Nat):Option Int->Nat
 |none=>d
 |some v=>if v<0 then (v+(n:Int)).toNat else min v.toNat n
theorem sIx_none (n d:Nat):sIx n d none=d:=rfl
theorem sIx_nat (n d k:Nat):sIx n d (some (k:Int))=min k n:=by
 show(if (k:Int)<0 then ((k:Int)+(n:Int)).toNat else min (k:Int).toNat n)=min k n
 rw[if_neg (by omega),zV]
theorem sIx_le (n d:Nat)(B:d<=n)(o:Option Int):sIx n d o<=n:=by
 cases o with
 |none=>exact B
 |some v =>
  show(if v<0 then (v+(n:Int)).toNat else min v.toNat n)<=n
  by_cases z:v<0
  ·rw[if_pos z];omega
  ·rw[if_neg z];exact Nat.min_le_right _ _
theorem clip_eq (v:Int)(n d:Nat):(if v<0 then max (v+(n:Int)) 0 else min v (n:Int))=((sIx n d (some v):Nat):Int):=by
 show(if v<0 then max (v+(n:Int)) 0 else min v (n:Int))=(((if v<0 then (v+(n:Int)).toNat else min v.toNat n):Nat):Int)
 by_cases z:v<0
 ·simp only[if_pos z];omega
 ·simp only[if_neg z];omega
theorem adjust_gen (lo z:Option Int)(n:Nat):Builtin.Slice.sliceAdjust lo z 1 (n:Int)=(((sIx n 0 lo:Nat):Int),((sIx n n z:Nat):Int)):=by
 have B:¬ ((1:Int)<0):=by omega
 unfold Builtin.Slice.sliceAdjust;simp only[B,if_false];refine Prod.ext ?_ ?_
 ·cases lo with
  |none=>rfl
  |some v=>exact clip_eq v n 0
 ·cases z with
  |none=>rfl
  |some v=>exact clip_eq v n n
theorem places_gen (i j:Nat):Builtin.Slice.slicePlaces (i:Int) (j:Int) 1=j-i:=by
 unfold Builtin.Slice.slicePlaces;have z:(1:Int)>0:=by omega
 simp only[z,if_true,Int.ediv_one];split<;>omega
theorem Jg {v:Value}{o:Option Int}{Q:Option Int->Shared->Prop}(p:IsPart v o)(h:Q o s):wpAny (model prog w) A (Builtin.Slice.slicePartIndex v) Q E s:=by
 cases p with
 |none=>exact slicePart_none h
 |int i t=>exact slicePart_int h
theorem jk {sl:Addr}{G H:Value}{lo z:Option Int}{n:Nat}{Q:Int×Int×Nat->Shared->Prop}(J:s.heap.IsSliceOf sl G H .none)(U:IsPart G lo)(M:IsPart H z)
  (h:Q (((sIx n 0 lo:Nat):Int),1,sIx n n z-sIx n 0 lo) s):wpAny (model prog w) A (Builtin.Slice.sliceApplied (.ref sl) (pure (n:Int))) Q E s:=by
 obtain⟨Y,B,O,hds⟩:=id J;unfold Builtin.Slice.sliceApplied Builtin.Slice.sliceFields;refine wpAny_bind (wpAny_bind (wpAny_field B hds (x:=G) rfl (wpAny_bind (wpAny_field B hds (x:=H) rfl (wpAny_bind (wpAny_field B hds (x:=.none) rfl (wpAny_pure ?_)))))));refine wpAny_bind (slicePart_none ?_);show wpAny _ _ (if ((1:Int)==0)=true then _ else _) _ _ s
 rw[if_neg (by decide)];refine wpAny_bind (Jg U (wpAny_bind (Jg M (wpAny_bind (wpAny_pure ?_)))));show wpAny _ _ (match Builtin.Slice.sliceAdjust lo z 1 (n:Int) with|(lo,z)=>pure (lo,(1:Int),Builtin.Slice.slicePlaces lo z 1)) _ _ s
 rw[adjust_gen lo z n];show wpAny _ _ (pure (((sIx n 0 lo:Nat):Int),(1:Int),Builtin.Slice.slicePlaces ((sIx n 0 lo:Nat):Int) ((sIx n n z:Nat):Int) 1)) _ _ s
 rw[places_gen];exact wpAny_pure h
theorem pick_gen (xs:Array Value)(i k:Nat):((zj k).filterMap fun(m:Nat)=>xs[((i:Int)+(m:Int)*1).toNat]?).toArray=((xs.toList.drop i).take k).toArray:=by
 have e:(fun(m:Nat)=>xs[((i:Int)+(m:Int)*1).toNat]?)=fun m=>xs[i+m]?:=by
  funext m
  have:((i:Int)+(m:Int)*1).toNat=i+m:=by omega
  rw[this]
 rw[e];have:=pick_run xs i k;rw[List.filterMap_map]at this;have z:((fun x=>xs[x]?) ∘ fun x=>i+x)=fun m=>xs[i+m]?:=rfl;rw[z]at this;rw[this]
theorem getItem_tuple_cut {t sl:Addr}{items:Array Value}{Y vu:Value}{lo B:Option Int}{Q:Value->Shared->Prop}(G:IsTup s.heap t items)(U:s.heap.IsSliceOf sl Y vu .none)(pl:IsPart Y lo)(pu:IsPart vu B)
  (hw:¬ (sIx items.size 0 lo=0/\sIx items.size items.size B=items.size))
  (h:Q (.ref s.heap.objs.size) { s with heap:=s.heap.push { cls:=.type "tuple",data:=.seq ((items.toList.drop (sIx items.size 0 lo)).take (sIx items.size items.size B-sIx items.size 0 lo)).toArray } })
  (hsz:items.size<=sizeLine):wpAny (model prog w) A (getItem (.ref t) (.ref sl)) Q E s:=by
 have z:sizeOk (.seq ((items.toList.drop (sIx items.size 0 lo)).take (sIx items.size items.size B-sIx items.size 0 lo)).toArray):=by
  show((items.toList.drop (sIx items.size 0 lo)).take (sIx items.size items.size B-sIx items.size 0 lo)).toArray.size<=sizeLine
  rw[qM,qO,zd,zC];omega
 have hj:sIx items.size items.size B<=items.size:=sIx_le _ _ (zB _) B;obtain⟨os,M,O,hds⟩:=id U;have J:s.TypeIs (.ref sl) "slice":=⟨os,M,O⟩;unfold getItem
 try with_reducible refine wpAny_holding ?_
 first|refine wpAny_bind (wpAny_pure ?_)|skip
 refine wpAny_bind (wpAny_sequenceKey G.typeIs (by decide) ?_);refine wpAny_bind (wpAny_callSpecial?_slot (name:=Str.ofString "__getitem__") G.typeIs PyProof.Rows.slot_tuple_getitem
  (wpAny_call_entry PyProof.Rows.slot_tuple_getitem G.typeIs entry_tuple_getitem ?_ (args_tuple_getitem _ _)))
 show wpAny _ _ (Builtin.Tuple.tupleItemsOf (.ref t) >>= _) _ _ s
 refine wpAny_bind (tupleItemsOf_ G ?_);refine wpAny_bind (wpAny_typeOf J ?_);rw[if_pos (by decide)];refine wpAny_bind (jk U pl pu ?_);have H:¬ ((((sIx items.size 0 lo:Nat):Int)==0&&(1:Int)==1&&(sIx items.size items.size B-sIx items.size 0 lo)==items.size)=true):=by
  intro q;rw[zX,zX]at q;have q1:((sIx items.size 0 lo:Nat):Int)=0:=eq_of_beq q.1.1;have q2:sIx items.size items.size B-sIx items.size 0 lo=items.size:=eq_of_beq q.2;exact hw ⟨by omega,by omega⟩
 show wpAny _ _ (if (((sIx items.size 0 lo:Nat):Int)==0&&(1:Int)==1&&(sIx items.size items.size B-sIx items.size 0 lo)==items.size)=true then _ else _) _ _ s
 rw[if_neg H,pick_gen]
 first
  |exact wpAny_bind (m:=Builtin.Tuple.tupleExact _) (wpAny_newObj_type (wpAny_pure ⟨_,rfl,wpAny_pure h⟩) z)
  |exact wpAny_bind (m:=Builtin.Tuple.tupleExact _) (wpAny_newObj_type (wpAny_bind (wpAny_pure (wpAny_pure ⟨_,rfl,wpAny_pure h⟩))) z)
  |exact wpAny_bind (wpAny_bind (m:=Builtin.Tuple.tupleExact _) (wpAny_newObj_type (wpAny_pure (wpAny_pure ⟨_,rfl,wpAny_pure h⟩)) z))
  |exact wpAny_bind (wpAny_bind (m:=Builtin.Tuple.tupleExact _) (wpAny_newObj_type (wpAny_pure ⟨_,rfl,wpAny_pure h⟩) z))
end
end HT
namespace L2
open PySem PySem.Spec PyProof.Rows
abbrev TO:=St->Hp->(Option Int->Hp->Prop)->Prop
def PO (X:Cx)(e:Option Expr)(t:TO):Prop :=
 ∀(pins:List (Addr×Obj)) (s:Shared) (z:St) (H:Hp) (Q:Option Int->Hp->Prop),Inv X pins z H s->t z H Q ->
  wpAny (model X.prog X.w) X.A (evalPart e X.env) (fun u G=>∃o B,Inv X pins z B G/\IsPart u o/\Q o B) X.xe s
def tNoPart:TO:=fun _ H Q=>Q none H
def tPart (t:TE):TO:=fun B H Q=>t B H fun x z=>∃i,x=.int i/\Q (some i) z
section
variable {X:Cx}{e:Expr}{te:TE}{lo hi:Option Expr}{tl th:TO}{pos p2:Pos}
theorem xS:PO X none tNoPart:=by
 intro pins s z H Q I h;rw[evalPart_none];exact wpAny_pure ⟨none,H,I,.none,h⟩
theorem xE (h:PE X e te):PO X (some e) (tPart te):=by
 intro pins s J H Q I M;rw[evalPart_some];refine thn (h pins s J H _ I M) fun u U ⟨x,O,G,B,z⟩=>?_;obtain⟨i,rfl,q⟩:=z;obtain⟨t,rfl⟩:=B;exact⟨some i,O,G,.int i t,q⟩
def SlR (X:Cx)(r:V->Option Int->Option Int->Hp->VK->Prop):Prop :=
 ∀(pins:List (Addr×Obj)) (s:Shared) (B:St) (H:Hp) (x:V) (v G z:Value) (lo hi:Option Int) (sl:Addr) (Q:VK),Inv X pins B H s->RelV x v->s.heap.IsSliceOf sl G z .none->IsPart G lo->IsPart z hi->r x lo hi H Q ->
  ∃T id,typeLookup (.type T) "__getitem__" = pure (some (.builtin id))/\s.TypeIs v T/\wpAny (model X.prog X.w) X.A (getItem v (.ref sl)) (EP X pins B Q) X.xe s
def tSl (r:V->Option Int->Option Int->Hp->VK->Prop)(te:TE)(tl th:TO):TE:=fun z H Q=>te z H fun x J=>tl z J fun l G=>th z G fun u B=>r x l u B Q
theorem pe_slice {r:V->Option Int->Option Int->Hp->VK->Prop}(hr:SlR X r)(he:PE X e te)(U:PO X lo tl)(hu:PO X hi th):PE X (.Subscript e (.Slice lo hi none p2) pos) (tSl r te tl th):=by
 intro pins s B H Q I h;refine Subscript_ (thn (he pins s B H _ I h) fun v s1 ⟨x,H1,I1,r1,O⟩=>?_);refine wpAny_Slice (thn (U pins s1 B H1 _ I1 O) fun J s2 ⟨l,H2,Y,pl,q2⟩=>thn (hu pins s2 B H2 _ Y q2) fun G z ⟨u,M,I3,pu,q3⟩=>?_);rw[evalPart_none];refine wpAny_pure ?_;have I4:Inv X pins B M { z with heap:=z.heap.push { cls:=.type "slice",data:=.fields #[J,G,.none] } }:=I3.kept (t':=z.toks) fun b ob q=>Heap.get?_push_of_some _ q;obtain⟨T,id,hT,ht,hg⟩:=hr pins { z with heap:=z.heap.push { cls:=.type "slice",data:=.fields #[J,G,.none] } } B M x v J G l u z.heap.objs.size Q I4 r1 (Heap.IsSliceOf.new ..) pl pu q3;show wpAny (model X.prog X.w) X.A (subscriptTail e (.Slice lo hi none p2) v (.ref z.heap.objs.size)) (EP X pins B Q) X.xe { z with heap:=z.heap.push { cls:=.type "slice",data:=.fields #[J,G,.none] } }
 exact tail_any (ops:=[.ref z.heap.objs.size,v]) ht hT hg (by with_unfolding_all rfl)
def cutV (xs:List V)(lo hi:Option Int):List V:=(xs.drop (HT.sIx xs.length 0 lo)).take (HT.sIx xs.length xs.length hi-HT.sIx xs.length 0 lo)
theorem zAN (xs:List V)(lo hi:Option Int):(cutV xs lo hi).length<=xs.length:=by
 unfold cutV;rw[qO,zd];omega
def rSlT (K:zA):V->Option Int->Option Int->Hp->VK->Prop:=fun x lo hi H Q=>∃a z,x=.ref a/\SqT K H a z /\
 ¬ (HT.sIx z.length 0 lo=0/\HT.sIx z.length z.length hi=z.length)/\∀p,H p=none->Q (.ref p) (upd H p (.tup (cutV z lo hi)))
theorem sl_tup:SlR X (rSlT X.K):=by
 intro pins s σ H x v vl vu lo hi sl Q I U M pl O h;obtain⟨a,z,rfl,Y,hw,q⟩:=h;cases U
 obtain⟨B,r,G,J⟩:=I.tuple Y;have hlen:B.toArray.size=z.length:=by rw[qM];exact r.length.symm
 refine⟨"tuple",_,PyProof.Rows.slot_tuple_getitem.lookup,G.typeIs,?_⟩;refine HT.getItem_tuple_cut G M pl O (by rw[hlen];exact hw) ?_ (by rw[hlen];exact J);rw[hlen];refine⟨.ref s.heap.objs.size,_,I.laid (t':=s.toks) (o:=.tup (cutV z lo hi)) (fun b ob q=>Heap.get?_push_of_some _ q) (zB _) ?_,rfl,q _ (I.hok.fresh (zB _))⟩;exact⟨zL (zAN z lo hi) J,_,(r.drop (HT.sIx z.length 0 lo)).take (HT.sIx z.length z.length hi-HT.sIx z.length 0 lo),IsTup.new _ _⟩
def rCatT (K:zA):R2:=fun x y H Q=>∃a b B z,x=.ref a/\y=.ref b/\SqT K H a B/\SqT K H b z/\B≠[]/\B.length+z.length<=sizeLine /\
 (z=[]->Q (.ref a) H)/\(z≠[]->∀p,H p=none->Q (.ref p) (upd H p (.tup (B++z))))
theorem Vals.nil_iff {xs:List V}{us:List Value}(r:Vals xs us):us=[]↔xs=[]:=by
 cases r with
 |nil=>simp
 |cons _ _=>simp
theorem op_catT:OpR X (binaryOp .Add) (rCatT X.K):=by
 intro pins s σ H x y v u Q I rx ry h;obtain⟨a,b,xs,ys,rfl,rfl,ha,hb,hx,J,U,O⟩:=h;cases rx
 cases ry
 obtain⟨Y,G,p1,_⟩:=I.tuple ha;obtain⟨M,B,p2,_⟩:=I.tuple hb;refine HT.cat_tup p1 p2 (fun z=>hx (G.nil_iff.mp z)) (fun z=>⟨.ref a,H,I,rfl,U (B.nil_iff.mp z)⟩) (fun z=>?_) (by rw[<-G.length,<-B.length];exact J);refine⟨.ref s.heap.objs.size,_,I.laid (t':=s.toks) (o:=.tup (xs++ys)) (fun b ob q=>Heap.get?_push_of_some _ q) (zB _) ?_,rfl,O (fun w=>z (B.nil_iff.mpr w)) _ (I.hok.fresh (zB _))⟩;exact⟨by rw[qF];exact J,_,G.append B,IsTup.new _ _⟩
end
def ixN (n:Nat)(i:Int):Option Nat:=if 0<=i then (if i<n then some i.toNat else none) else if -(n:Int)<=i then some (i+n).toNat else none
def atI {z:Type}(xs:List z)(i:Int):Option z:=(ixN xs.length i).bind fun j=>xs[j]?
theorem ixN_seq {n:Nat}{i:Int}{j:Nat}(h:ixN n i=some j):seqIndex? i n=some j/\j<n /\ -(n:Int)<=i/\i<n:=by
 unfold ixN at h;by_cases B:0<=i
 ·rw[if_pos B]at h;by_cases z:i<n
  ·rw[if_pos z]at h;have e:i.toNat=j:=Option.some.inj h;exact⟨by rw[seqIndex_of B z,e],by omega,by omega,z⟩
  ·rw[if_neg z]at h;cases h
 ·rw[if_neg B]at h;by_cases z:-(n:Int)<=i
  ·rw[if_pos z]at h;have e:(i+n).toNat=j:=Option.some.inj h;exact⟨by rw[seqIndex_neg (by omega) z,e],by omega,z,by omega⟩
  ·rw[if_neg z]at h;cases h
theorem atI_get {z:Type}{xs:List z}{i:Int}{v:z}(h:atI xs i=some v):∃j,seqIndex? i xs.length=some j/\xs[j]? = some v/\j<xs.length /\ -(xs.length:Int)<=i/\i<xs.length:=by
 unfold atI at h;cases e:ixN xs.length i with
 |none=>rw[e]at h;cases h
 |some j =>
  rw[e]at h;obtain⟨J,B,H,G⟩:=ixN_seq e;exact⟨j,J,h,B,H,G⟩
theorem yM {z:Type}{xs:List z}{j:Nat}{v:z}(h:xs[j]? = some v):atI xs (j:Int)=some v:=by
 have B:j<xs.length:=(qB.mp h).1;have e:ixN xs.length (j:Int)=some j:=by
  unfold ixN;rw[if_pos (by omega),if_pos (by omega)];simp
 unfold atI;rw[e];exact h
theorem atI_last {z:Type}(xs:List z)(v:z):atI (xs++[v]) (-1)=some v:=by
 have B:(xs++[v]).length=xs.length+1:=by simp
 have e:ixN (xs++[v]).length (-1)=some xs.length:=by
  unfold ixN;rw[B,if_neg (by decide),if_pos (by omega)]
  congr 1
  omega
 unfold atI;rw[e];show(xs++[v])[xs.length]? = some v
 simp
def PlainIx (b:Expr):Prop:=∀o i,subscripted b false o i=operate [o,i] (getItem o i)
def IxR (X:Cx)(r:R2):Prop :=
 ∀(value slice:Expr) (pins:List (Addr×Obj)) (s:Shared) (z:St) (H:Hp) (x y:V) (v u:Value) (Q:VK),Inv X pins z H s->RelV x v->RelV y u->r x y H Q ->
  subscripted slice false v u=operate [v,u] (getItem v u)->wpAny (model X.prog X.w) X.A (subscriptTail value slice v u) (EP X pins z Q) X.xe s
def MtR (X:Cx)(id:String)(r:V->List V->Hp->VK->Prop):Prop :=
 ∀(pins:List (Addr×Obj)) (s:Shared) (G:St) (H:Hp) (x:V) (z:List V) (v:Value) (B:List Value) (Q:VK),Inv X pins G H s->RelV x v->Vals z B->r x z H Q ->
  wpAny (model X.prog X.w) X.A (call (.builtin id) (v::B)) (EP X pins G Q) X.xe s
section
variable {X:Cx}{a b:Expr}{ta tb:TE}{pos:Pos}
theorem pe_ix {r:R2}(J:IxR X r)(Y:PE X a ta)(hb:PE X b tb)(z:PlainIx b):PE X (.Subscript a b pos) (tOp r ta tb):=by
 intro pins s O H Q I h;exact Subscript_ (binT Y hb I h fun v u G x y U B M ry q=>J a b pins G O U x y v u Q B M ry q (z _ _))
def rIxL (K:zA):R2:=fun x y H Q=>∃p z i v,x=.ref p/\y=.int i/\SqL K H p z/\atI z i=some v/\Q v H
def rIxT (K:zA):R2:=fun x y H Q=>∃p z i v,x=.ref p/\y=.int i/\SqT K H p z/\atI z i=some v/\Q v H
theorem ix_list:IxR X (rIxL X.K):=by
 intro value slice pins s σ H x y v u Q I rx ry h U;obtain⟨p,xs,i,z,rfl,rfl,hq,he,q⟩:=h;cases rx
 obtain⟨t,rfl⟩:=ry;obtain⟨O,r,J,hz⟩:=I.list hq;obtain⟨j,B,h2,h3,h4,h5⟩:=atI_get he;obtain⟨w,ew,M⟩:=r.get h2;have hl:=r.length;have hn:=line63;have fin:EP X pins σ Q w s:=⟨z,H,I,M,q⟩;by_cases Y:0<=i
 ·have G:i.toNat=j:=by
   rw[seqIndex_of Y h5]at B;exact Option.some.inj B
  exact item_listR J.isList Y (by omega) (by rw[G];simpa using ew) fin U
 ·have G:(i+(O.toArray.size:Int)).toNat=j:=by
   rw[seqIndex_neg (by omega) h4]at B;rw[qM,<-hl];exact Option.some.inj B
  exact subscriptTail_builtinR (x:=w) J.isList.typeIs slot_list_getitem.lookup
   (wpAny_getItem_list_neg (Q:=fun r s'=>r=w/\EP X pins σ Q r s') J.isList (by omega) (by rw[qM]<;>omega) (by omega) (by rw[G];simpa using ew) ⟨rfl,fin⟩) U
theorem ix_tup:IxR X (rIxT X.K):=by
 intro value slice pins s J H x y v u Q I U ry h M;obtain⟨p,xs,i,z,rfl,rfl,Y,he,q⟩:=h;cases U
 obtain⟨t,rfl⟩:=ry;obtain⟨its,r,G,hz⟩:=I.tuple Y;obtain⟨j,h1,h2,h3,h4,h5⟩:=atI_get he;obtain⟨w,ew,B⟩:=r.get h2;have O:=r.length;have hn:=line63;have fin:EP X pins J Q w s:=⟨z,H,I,B,q⟩;exact subscriptTail_builtinR (x:=w) G.typeIs slot_tuple_getitem.lookup
  (getItem_tuple (j:=j) (Q:=fun r s'=>r=w/\EP X pins J Q r s') G (by omega) (by omega) (by rw[qM,<-O];exact h1) (by simpa using ew) ⟨rfl,fin⟩) M
theorem mapSeq_set (z:List Value)(n j:Nat)(u:Value):Obj.mapSeq (·.setIfInBounds j u) { cls:=.type "list",data:=.seq z.toArray n } = { cls:=.type "list",data:=.seq (z.set j u).toArray n }:=by
 simp[Obj.mapSeq]
theorem Inv.lst {pins:List (Addr×Obj)}{G:St}{H:Hp}{s:Shared}{p:Addr}{xs:List V}(I:Inv X pins G H s)(h:H p=some (.lst xs)) :
  ∃(B:List Value) (n:Nat),Vals xs B/\s.heap.get? p=some { cls:=.type "list",data:=.seq B.toArray n }/\xs.length<=sizeLine:=by
 obtain⟨z,B,n,r,e⟩:=I.hok p _ h;exact⟨B,n,r,e,z⟩
theorem Inv.lstUpd {pins:List (Addr×Obj)}{M:St}{H:Hp}{s:Shared}{p:Addr}{xs B:List V}{z its':List Value}{n G:Nat}{f:Obj->Obj}(I:Inv X pins M H s)(h:H p=some (.lst xs))
  (O:s.heap.get? p=some { cls:=.type "list",data:=.seq z.toArray n }) (J:f { cls:=.type "list",data:=.seq z.toArray n } = { cls:=.type "list",data:=.seq its'.toArray G }) (r:Vals B its') (hz:B.length<=sizeLine) (t:Nat) :
  Inv X pins M (upd H p (.lst B)) { s with heap:=s.heap.update p f,toks:=t }:=by
 have e:(s.heap.update p f).get? p=some { cls:=.type "list",data:=.seq its'.toArray G }:=by
  rw[Heap.get?_update_self f O (by rw[J]<;>rfl),J]
 refine I.write (x:=p) (e:=p) (by rw[h];trivial) (.inl rfl) (fun b u U q=>(Heap.get?_update_other _ _ (Ne.symm U)).trans q) ⟨_,e⟩ ?_;exact⟨hz,its',G,r,e⟩
def rSetL:V->V->V->Hp->(Hp->Prop)->Prop:=fun o i v H Q=>∃p z k j,o=.ref p/\i=.int k/\H p=some (.lst z)/\ixN z.length k=some j/\Q (upd H p (.lst (z.set j v)))
theorem JI:PSet X rSetL:=by
 intro pins s σ H o i v ov iv u Q I ro ri rv h;obtain⟨p,xs,k,j,rfl,rfl,hp,hj,q⟩:=h;cases ro
 obtain⟨t,rfl⟩:=ri;obtain⟨z,n,r,M,hz⟩:=I.lst hp;obtain⟨B,h2,O,Y⟩:=ixN_seq hj;have G:=r.length;have hn:=line63;have U:Inv X pins σ (upd H p (.lst (xs.set j v))) { s with heap:=s.heap.update p (Obj.mapSeq (·.setIfInBounds j u)) } :=
  I.lstUpd hp M (mapSeq_set z n j u) (r.set rv j) (by rw[List.length_set];exact hz) s.toks
 by_cases h0:0<=k
 ·have J:k.toNat=j:=by
   rw[seqIndex_of h0 Y]at B;exact Option.some.inj B
  exact PySem.W.ki_setAt M h0 (by omega) (by rw[qM,<-G];exact Y) (by rw[J];exact⟨_,U,q⟩)
 ·have J:(k+(z.toArray.size:Int)).toNat=j:=by
   rw[seqIndex_neg (by omega) O]at B;rw[qM,<-G];exact Option.some.inj B
  exact PySem.W.ki_setBack M (by omega) (by rw[qM,<-G];exact O) (by omega) (by rw[J];exact⟨_,U,q⟩)
theorem slice_bounds (lo z:Option Int)(n:Nat):(sliceBounds lo z none n).1=((HT.sIx n 0 lo:Nat):Int)/\(sliceBounds lo z none n).2.1=((HT.sIx n n z:Nat):Int)/\(sliceBounds lo z none n).2.2=1:=by
 refine⟨?_,?_,rfl⟩
 ·cases lo with
  |none=>simp[sliceBounds,HT.sIx]
  |some i =>
   simp only[sliceBounds,HT.sIx,Option.getD_none,show(1:Int)>0 by decide,if_true];by_cases h:i<0
   ·simp only[h,if_true]<;>omega
   ·simp only[h,if_false]<;>omega
 ·cases z with
  |none=>simp[sliceBounds,HT.sIx]
  |some i =>
   simp only[sliceBounds,HT.sIx,Option.getD_none,show(1:Int)>0 by decide,if_true];by_cases h:i<0
   ·simp only[h,if_true]<;>omega
   ·simp only[h,if_false]<;>omega
theorem slicePick_cut (z:List Value)(lo B:Option Int):slicePick z.toArray lo B none=((z.drop (HT.sIx z.length 0 lo)).take (HT.sIx z.length z.length B-HT.sIx z.length 0 lo)).toArray:=by
 obtain⟨H,G,J⟩:=slice_bounds lo B z.toArray.size;unfold slicePick;rw[H,G,J];simp only[sliceRange_one,pick_run,qM]<;>rfl
def rSlL (K:zA):V->Option Int->Option Int->Hp->VK->Prop:=fun x B G H Q=>∃a z,x=.ref a/\SqL K H a z/\∀p,H p=none->Q (.ref p) (upd H p (.lst (cutV z B G)))
theorem sl_list:SlR X (rSlL X.K):=by
 intro pins s σ H x v vl vu B G sl Q I rx M pl O h;obtain⟨a,z,rfl,hx,q⟩:=h;cases rx
 obtain⟨Y,r,J,U⟩:=I.list hx;have hlen:=r.length;refine⟨"list",_,slot_list_getitem.lookup,J.isList.typeIs,?_⟩;refine wpAny_getItem_list_slice J.isList M pl O .none (by simp) ?_ (by rw[qM]<;>omega);rw[slicePick_cut,<-hlen];refine⟨.ref s.heap.objs.size,_,I.laid (t':=s.toks) (o:=.lst (cutV z B G)) (fun b ob q=>Heap.get?_push_of_some _ q) (zB _) ?_,rfl,q _ (I.hok.fresh (zB _))⟩;exact⟨zL (zAN z B G) U,_,0,(r.drop (HT.sIx z.length 0 B)).take (HT.sIx z.length z.length G-HT.sIx z.length 0 B),Heap.get?_push_size _ rfl⟩
def xF:V->Bool
 |.non=>true
 |.bl _=>true
 |.int _=>true
 |.str _=>true
 |_=>false
def eqV:V->V->Bool
 |.non,.non=>true
 |.bl a,.bl b=>a==b
 |.bl a,.int b=>(if a then 1 else 0)==b
 |.int a,.bl b=>a==(if b then 1 else 0)
 |.int a,.int b=>a==b
 |.str a,.str b=>a==b
 |_,_=>false
theorem eqAt_V {A:Around}{s:Shared}{y x:V}{u v:Value}(H:RelV y u)(z:RelV x v)(J:xF y=true)(G:xF x=true):SeqAt.EqAt A s u v (eqV y x):=by
 cases y with
 |non =>
  cases H
  cases x with
  |non=>cases z;exact SeqAt.EqAt.same _
  |bl b=>cases z;exact SeqAt.EqAt.none_bool b
  |int b=>obtain⟨t,rfl⟩:=z;exact SeqAt.EqAt.none_int b t
  |str b=>obtain⟨t,rfl⟩:=z;exact SeqAt.EqAt.none_str b t
  |_=>exact absurd (show false=true from G) zN
 |bl a =>
  cases H
  cases x with
  |non=>cases z;exact SeqAt.EqAt.bool_none a
  |bl b=>cases z;exact SeqAt.EqAt.bool_bool a b
  |int b=>obtain⟨t,rfl⟩:=z;exact SeqAt.EqAt.bool_int a b t
  |str b=>obtain⟨t,rfl⟩:=z;exact SeqAt.EqAt.bool_str a b t
  |_=>exact absurd (show false=true from G) zN
 |int a =>
  obtain⟨B,rfl⟩:=H;cases x with
  |non=>cases z;exact SeqAt.EqAt.int_none a B
  |bl b=>cases z;exact SeqAt.EqAt.int_bool a B b
  |int b=>obtain⟨t,rfl⟩:=z;exact SeqAt.EqAt.int_int a B b t
  |str b=>obtain⟨t,rfl⟩:=z;exact SeqAt.EqAt.int_str a B b t
  |_=>exact absurd (show false=true from G) zN
 |str a =>
  obtain⟨B,rfl⟩:=H;cases x with
  |non=>cases z;exact SeqAt.EqAt.str_none a B
  |bl b=>cases z;exact SeqAt.EqAt.str_bool a B b
  |int b=>obtain⟨t,rfl⟩:=z;exact SeqAt.EqAt.str_int a B b t
  |str b=>obtain⟨t,rfl⟩:=z;exact SeqAt.EqAt.str_str a B b t
  |_=>exact absurd (show false=true from G) zN
 |_=>exact absurd (show false=true from J) zN
def eqU (x:V)(u:Value):Bool:=match u with
 |.none=>eqV .non x
 |.bool b=>eqV (.bl b) x
 |.int i _=>eqV (.int i) x
 |.str z _=>eqV (.str z) x
 |_=>false
theorem eqU_of {x y:V}{u:Value}(r:RelV y u)(f:xF y=true):eqU x u=eqV y x:=by
 cases y with
 |non=>cases r;rfl
 |bl b=>cases r;rfl
 |int i=>obtain⟨t,rfl⟩:=r;rfl
 |str z=>obtain⟨t,rfl⟩:=r;rfl
 |_=>exact absurd (show false=true from f) zN
theorem Jp {x:V}:∀{xs:List V} {us:List Value},Vals xs us->xs.all xF=true->us.any (eqU x)=xs.any fun y=>eqV y x
 |_,_,.nil,_=>rfl
 |y::xs,u::us,.cons r t,f=>by
  rw[List.all_cons,zX]at f
  rw[jZ,jZ,eqU_of r f.1,Jp t f.2]
theorem JJ {A:Around}{s:Shared}{x:V}{v:Value}(B:RelV x v)(G:xF x=true):∀{xs:List V} {us:List Value},Vals xs us->xs.all xF=true->∀u∈us,SeqAt.EqAt A s u v (eqU x u)
 |_,_,.nil,_=>fun u z=>by cases z
 |y::xs,u::us,.cons r t,f=>fun H z=>by
  rw[List.all_cons,zX]at f
  rcases zD.mp z with rfl|z
  ·rw[eqU_of r f.1];exact eqAt_V r B f.1 G
  ·exact JJ B G t f.2 H z
def inV (x:V)(xs:List V):Bool:=xs.any fun y=>eqV y x
def rIn (K:zA)(neg:Bool):R2:=fun x y H Q=>∃p z,y=.ref p/\(SqL K H p z\/SqT K H p z)/\xF x=true/\z.all xF=true/\Q (.bl (if neg then !inV x z else inV x z)) H
theorem J4:OpR X (compareOp .In) (rIn X.K false):=by
 intro pins s σ H x y v u Q I M Y h;obtain⟨p,xs,rfl,B,O,fs,q⟩:=h;cases Y
 rcases B with B|B
 ·obtain⟨z,r,J,U⟩:=I.list B;refine SeqAt.in_listAt (eqU x) J.isList (fun w G=>JJ M O r fs w (by simpa using G)) ⟨.bl _,H,I,rfl,?_⟩;rw[show z.toArray.any (eqU x)=z.any (eqU x) by simp,Jp r fs];exact q
 ·obtain⟨z,r,J,U⟩:=I.tuple B;refine SeqAt.in_tupleAt (eqU x) J (fun w G=>JJ M O r fs w (by simpa using G)) ⟨.bl _,H,I,rfl,?_⟩;rw[show z.toArray.any (eqU x)=z.any (eqU x) by simp,Jp r fs];exact q
theorem Jq:OpR X (compareOp .NotIn) (rIn X.K true):=by
 intro pins s σ H x y v u Q I M Y h;obtain⟨p,xs,rfl,B,O,fs,q⟩:=h;cases Y
 rcases B with B|B
 ·obtain⟨z,r,J,U⟩:=I.list B;refine SeqAt.notIn_listAt (eqU x) J.isList (fun w G=>JJ M O r fs w (by simpa using G)) ⟨.bl _,H,I,rfl,?_⟩;rw[show z.toArray.any (eqU x)=z.any (eqU x) by simp,Jp r fs];exact q
 ·obtain⟨z,r,J,U⟩:=I.tuple B;refine SeqAt.notIn_tupleAt (eqU x) J (fun w G=>JJ M O r fs w (by simpa using G)) ⟨.bl _,H,I,rfl,?_⟩;rw[show z.toArray.any (eqU x)=z.any (eqU x) by simp,Jp r fs];exact q
theorem call_len_seq:CallR X (.builtin "len") (fun O H Q=>∃p z,O=[.ref p]/\(SqL X.K H p z\/SqT X.K H p z)/\Q (.int z.length) H):=by
 intro pins s σ H O us Q I r h;obtain⟨p,z,rfl,B,q⟩:=h;obtain⟨u,rfl,Y⟩:=ji r;cases Y
 have hn:=line63;rcases B with B|B
 ·obtain⟨J,G,M,U⟩:=I.list B;have hlen:=G.length;exact Calls.call_len_list M.isList (by simp only[qM]<;>omega) ⟨.int z.length,H,I.tok _,⟨s.toks+1,by rw[qM,hlen]⟩,q⟩
 ·obtain⟨J,G,M,U⟩:=I.tuple B;have hlen:=G.length;exact len_tuple M (by simp only[qM]<;>omega) ⟨.int z.length,H,I.tok _,⟨s.toks+1,by rw[qM,hlen]⟩,q⟩
theorem call_list_of:CallR X (.type "list") (fun xs H Q=>∃p M,xs=[.ref p]/\(SqL X.K H p M\/SqT X.K H p M)/\∀l,H l=none->Q (.ref l) (upd H l (.lst M))):=by
 intro pins s σ H xs us Q I r h;obtain⟨p,M,rfl,U,q⟩:=h;obtain⟨u,rfl,rx⟩:=ji r;cases rx
 have fin:∀(z:List Value),Vals M z->M.length<=sizeLine->∀(B:Heap) (G:Nat),(∀b o',s.heap.get? b=some o'->B.get? b=some o') ->
   B.get? s.heap.objs.size=some { cls:=.type "list",dict:=none,data:=.seq z.toArray G,slots:=#[] }->EP X pins σ Q (.ref s.heap.objs.size) { s with heap:=B }:=fun z J O B G kp e =>
  ⟨.ref s.heap.objs.size,_,I.laid (t':=s.toks) kp (zB _) (show ObjOk X.prog X.w _ B _ (.lst M) from⟨O,z,G,J,e⟩),rfl,q _ (I.hok.fresh (zB _))⟩
 rcases U with U|U
 ·obtain⟨z,J,pl,O⟩:=I.list U;have hlen:=J.length;obtain⟨o,ho,hc,n,Y⟩:=pl.isList;exact call_list_seq p (.inl rfl) ho hc Y (fun B G kp e=>fin z J O B G kp e) (by simp only[qM]<;>omega)
 ·obtain⟨z,J,pl,O⟩:=I.tuple U;have hlen:=J.length;obtain⟨o,ho,hc,n,Y⟩:=pl;exact call_list_seq p (.inr rfl) ho hc Y (fun B G kp e=>fin z J O B G kp e) (by simp only[qM]<;>omega)
theorem y7:CallR X (.type "tuple") (fun Y H Q=>∃p B,Y=[.ref p]/\((SqL X.K H p B/\∀l,H l=none->Q (.ref l) (upd H l (.tup B)))\/(SqT X.K H p B/\Q (.ref p) H))):=by
 intro pins s σ H Y us Q I r h;obtain⟨p,B,rfl,h⟩:=h;obtain⟨u,rfl,rx⟩:=ji r;cases rx
 rcases h with⟨M,q⟩|⟨M,q⟩
 ·obtain⟨z,J,O,U⟩:=I.list M;have hlen:=J.length;refine call_tuple_list O.isList (fun G kp=>?_) (by simp only[qM]<;>omega);have I1:Inv X pins σ H { s with heap:=G }:=I.kept (t':=s.toks) kp;have I2:Inv X pins σ (upd H G.objs.size (.tup B)) { s with heap:=G.push { cls:=.type "tuple",data:=.seq z.toArray } } :=
   I1.laid (t':=s.toks) (fun b o e=>Heap.get?_push_of_some _ e) (zB _) (show ObjOk X.prog X.w _ _ _ (.tup B) from⟨U,z,J,IsTup.new _ _⟩)
  exact⟨.ref G.objs.size,_,I2,rfl,q _ (I1.hok.fresh (zB _))⟩
 ·obtain⟨z,J,O,U⟩:=I.tuple M;exact call_tuple_same O ⟨.ref p,H,I,rfl,q⟩
def tyV (K:zA)(T:String)(x:V)(H:Hp):Prop:=match x with
 |.str _=>T = "str"
 |.int _=>T = "int"
 |.ref p=>(T = "list" /\ ∃B,SqL K H p B)\/(T = "tuple" /\ ∃o,K.lookup p=some o/\o.cls=.type "tuple" /\ o.dict=none) \/
   (T = "dict" /\ ((∃z,H p=some (.dK z))\/∃z,H p=some (.dT z)))\/(T = "set" /\ ∃S n,H p=some (.set S n))
 |_=>False
theorem tyV_is {pins:List (Addr×Obj)}{σ:St}{H:Hp}{s:Shared}{T:String}{x:V}{v:Value}(I:Inv X pins σ H s)(r:RelV x v)(ty:tyV X.K T x H) :
  s.TypeIs v T/\∀a,v=.ref a->∃U,s.heap.get? a=some U/\U.dict=none:=by
 cases x with
 |str z =>
  obtain⟨t,rfl⟩:=r;cases (show T = "str" from ty)
  exact⟨typeIs_str s z t,fun _ e=>nomatch e⟩
 |int i =>
  obtain⟨t,rfl⟩:=r;cases (show T = "int" from ty)
  exact⟨typeIs_int s i t,fun _ e=>nomatch e⟩
 |ref p =>
  cases r
  rcases ty with⟨rfl,xs,hq⟩|⟨rfl,o,B,hc,O⟩|⟨rfl,B⟩|⟨rfl,S,n,B⟩
  ·obtain⟨aa,_,Y,_⟩:=I.list hq;refine⟨Y.isList.typeIs,fun a e=>?_⟩;cases e
   obtain⟨o,n,e,c,O,_⟩:=Y;exact⟨o,e,O⟩
  ·refine⟨⟨o,I.kIn p o B,hc⟩,fun a e=>?_⟩;cases e
   exact⟨o,I.kIn _ o B,O⟩
  ·have z:∃o,s.heap.get? p=some o/\o.ExactDict:=by
    rcases B with⟨M,B⟩|⟨M,B⟩
    ·obtain⟨_,_,_,_,o,_,_,e,G,_⟩:=I.hok p _ B;exact⟨o,e,G⟩
    ·obtain⟨_,_,_,_,o,_,_,e,G,_⟩:=I.hok p _ B;exact⟨o,e,G⟩
   obtain⟨o,e,G⟩:=z;refine⟨⟨o,e,G.1⟩,fun a J=>?_⟩;cases J
   exact⟨o,e,G.2.1⟩
  ·obtain⟨o,_,_,_,e,G,_⟩:=I.hok p _ B;refine⟨⟨o,e,G.1⟩,fun a J=>?_⟩;cases J
   exact⟨o,e,G.2.1⟩
 |_=>exact False.elim ty
def tBM0 (K:zA)(T:String)(r:V->List V->Hp->VK->Prop)(B:TE):TE:=fun G H Q=>B G H fun x z=>tyV K T x z/\r x [] z Q
def tBM (K:zA)(T:String)(r:V->List V->Hp->VK->Prop)(J:TE)(t:TA):TE:=fun z H Q=>J z H fun x B=>tyV K T x B/\t z B fun G M=>r x G M Q
variable {o e:Expr}{es:List Expr}{to:TE}{t:TA}{name:Str}{apos cpos:Pos}{T id:String}{r:V->List V->Hp->VK->Prop}
theorem pe_bm0 (pa:PlainAttrs T) (slot:Slot T name id) (G:typeOf (.builtin id)=pure (.type "method_descriptor")) (hm:MtR X id r) (U:PE X o to)
  (B:attributeBase o name X.env (eval o X.env)=eval o X.env:=by rfl) (z:(apos.endLine==cpos.line)=true:=by rfl):PE X (.Call (.Attribute o name apos) [] [] cpos) (tBM0 X.K T r to):=by
 intro pins s O H Q I h;refine wpAny_Call_method0_late B z (thn (U pins s O H _ I h) fun v s1 ⟨x,H1,M,J,ty,Y⟩=>?_);obtain⟨h1,h2⟩:=tyV_is M J ty;exact⟨T,id,pa,slot,G,h1,h2,Calls.callWith_builtin rfl (PySem.evalArgs_none (hm pins s1 O H1 x [] v [] Q M J .nil Y))⟩
theorem pe_bm (pa:PlainAttrs T) (slot:Slot T name id) (O:typeOf (.builtin id)=pure (.type "method_descriptor")) (hm:MtR X id r) (ho:PE X o to) (ha:PA X (e::es) t)
  (G:attributeBase o name X.env (eval o X.env)=eval o X.env:=by rfl)
  (J:((backTo cpos (starEach (e::es) X.env)).all (fun x=>!x.1)&&(backToKw cpos (keywordEach [] X.env)).all (fun x=>x.1.isSome)
   && decide ((e::es).length+([]:List Keyword).length+(if ([]:List Keyword).isEmpty then 0 else 1)<30))=true:=by rfl)
  (B:(apos.endLine==cpos.line)=true:=by rfl) (hs:starEach (e::es) X.env=(false,eval e X.env)::starEach es X.env:=by rfl) (z:(backTo cpos (starEach es X.env)).any (·.1)=false:=by rfl) :
  PE X (.Call (.Attribute o name apos) (e::es) [] cpos) (tBM X.K T r to t):=by
 intro pins s M H Q I h;refine wpAny_Call_method_late G J B rfl (thn (ho pins s M H _ I h) fun v s1 ⟨x,H1,U,r1,ty,q1⟩=>?_);obtain⟨h1,h2⟩:=tyV_is U r1 ty;refine⟨T,id,pa,slot,O,h1,h2,?_⟩;have Y:=ha cpos pins s1 M H1 _ U q1;rw[hs]at Y ⊢;refine Calls.callWith_builtin (by show(false || (backTo cpos (starEach es X.env)).any (·.1))=false;rw[z]<;>rfl) (Calls.evalArgs_plain ?_);exact thn Y fun us s2 ⟨vs,H2,I2,r2,q2⟩=>hm pins s2 M H2 x vs v us Q I2 r1 r2 q2
end
def MtM (X:Cx)(id:String)(r:V->List V->Hp->VK->Prop):Prop :=
 ∀(pins:List (Addr×Obj)) (s:Shared) (G:St) (H:Hp) (x:V) (z:List V) (v:Value) (B:List Value) (Q:VK),Inv X pins G H s->RelV x v->Vals z B->r x z H Q ->
  wpAny (model X.prog X.w) X.A (call (.builtin id) (v::B)) (EP X pins G Q) X.xe s
theorem Vals.one:∀{x:V} {us:List Value},Vals [x] us->∃u,us=[u]/\RelV x u
 |_,_,.cons r .nil=>⟨_,rfl,r⟩
theorem Vals.two:∀{x y:V} {us:List Value},Vals [x,y] us->∃u v,us=[u,v]/\RelV x u/\RelV y v:=by
 intro x y us h;cases h with
 |cons r t =>
  cases t with
  |cons q n =>
   cases n
   exact⟨_,_,rfl,r,q⟩
theorem Vals.eraseIdx:∀{xs:List V} {us:List Value} (i:Nat),Vals xs us->Vals (xs.eraseIdx i) (us.eraseIdx i)
 |_,_,_,.nil=>.nil
 |_,_,0,.cons _ t=>t
 |_,_,i+1,.cons r t=>.cons r (Vals.eraseIdx i t)
theorem len_erase {z:Type}:∀(l:List z) (i:Nat),(l.eraseIdx i).length<=l.length
 |[],_=>zB _
 |_::_,0=>Nat.le_succ _
 |_::r,i+1=>Nat.succ_le_succ (len_erase r i)
section
variable {X:Cx}{pins:List (Addr×Obj)}{σ:St}{H:Hp}{s:Shared}{l b:Addr}{xs ys zs:List V}
theorem Inv.lset {z its':List Value}{n:Nat}{f:Array Value->Array Value}{t':Nat}(I:Inv X pins σ H s)(M:H l=some (.lst xs))
  (e:s.heap.get? l=some { cls:=.type "list",data:=.seq z.toArray n }) (B:f z.toArray=its'.toArray) (J:Vals ys its') (hz:ys.length<=sizeLine) :
  Inv X pins σ (upd H l (.lst ys)) { s with heap:=s.heap.update l (Obj.mapSeq f),toks:=t' }:=by
 have q:=PySem.IsL.update e f;rw[B]at q;refine I.write (x:=l) (e:=l) (by rw[M];exact trivial) (.inl rfl) (fun U u O G=>(Heap.get?_update_other s.heap (Obj.mapSeq f) (Ne.symm O)).trans G) ⟨_,q⟩ ?_;exact⟨hz,its',_,J,q⟩
theorem Inv.lnew {z:List Value}{t':Nat}(I:Inv X pins σ H s)(B:Vals ys z)(hz:ys.length<=sizeLine) :
  Inv X pins σ (upd H s.heap.objs.size (.lst ys)) { s with heap:=s.heap.push { cls:=.type "list",data:=.seq z.toArray },toks:=t' } :=
 I.laid (fun _ _ q=>Heap.get?_push_of_some _ q) (zB _) ⟨hz,z,0,B,Heap.get?_push_size _ rfl⟩
theorem Inv.fresh (I:Inv X pins σ H s):H s.heap.objs.size=none:=I.hok.fresh (zB _)
theorem Inv.lstM (I:Inv X pins σ H s)(G:H l=some (.lst xs)):xs.length<=sizeLine/\∃(B:List Value) (n:Nat),Vals xs B/\xs.length=B.length/\s.heap.get? l=some { cls:=.type "list",data:=.seq B.toArray n }:=by
 obtain⟨z,B,n,r,e⟩:=I.hok l _ G;exact⟨z,B,n,r,r.length,e⟩
end
section
variable {X:Cx}
def rAppend:V->List V->Hp->VK->Prop:=fun x B H Q=>∃l z y,x=.ref l/\B=[y]/\H l=some (.lst z)/\z.length<sizeLine/\Q .non (upd H l (.lst (z++[y])))
theorem xj:MtM X "list.append" rAppend:=by
 intro pins s σ H x U v us Q I O M h;obtain⟨l,xs,y,rfl,rfl,G,hz,q⟩:=h;cases O
 obtain⟨u,rfl,J⟩:=M.one;obtain⟨z,B,n,r,Y,e⟩:=I.lstM G;refine call_meets F.slot_list_append ⟨_,e,rfl⟩ F.entry_list_append (F.args_list_append_2 _ _) (PySem.list_append l B.toArray n u (by rw[qM];omega)) ⟨e,?_⟩;refine⟨.non,_,I.lset (its':=B++[u]) G e (by simp) (r.append (.cons J .nil)) ?_,rfl,q⟩;rw[qF,zH];omega
def rExtend:V->List V->Hp->VK->Prop:=fun x G H Q=>∃l b z B,x=.ref l/\G=[.ref b]/\H l=some (.lst z)/\H b=some (.lst B)/\z.length+B.length<=sizeLine/\Q .non (upd H l (.lst (z++B)))
def rPop:V->List V->Hp->VK->Prop:=fun x B H Q=>∃l z y,x=.ref l/\B=[]/\H l=some (.lst z)/\z[z.length-1]? = some y/\Q y (upd H l (.lst z.dropLast))
def rPopAt:V->List V->Hp->VK->Prop:=fun x B H Q=>∃l z i k y,x=.ref l/\B=[.int i]/\H l=some (.lst z) /\ -(2^63)<=i/\i<2^63/\seqIndex? i z.length=some k/\z[k]? = some y/\Q y (upd H l (.lst (z.eraseIdx k)))
theorem mt_popAt:MtM X "list.pop" rPopAt:=by
 intro pins s σ H x vs v us Q I rx U h;obtain⟨l,xs,i,k,y,rfl,rfl,J,h1,Y,hk,hy,q⟩:=h;cases rx
 obtain⟨u,rfl,M⟩:=U.one;obtain⟨t,rfl⟩:=M;obtain⟨z,B,n,r,O,e⟩:=I.lstM J;obtain⟨w,hw,G⟩:=r.get hy;refine call_meets F.slot_list_pop ⟨_,e,rfl⟩ F.entry_list_pop (F.args_list_pop_2 _ _)
  (MeetsSeq.list_pop_at l B.toArray n i t k w (fitsIndex_both h1 Y) (by rw[qM,<-O];exact hk) (by rw[<-zR];exact hw) (by rw[qM];omega)) ⟨e,?_⟩
 refine⟨y,_,I.lset (its':=B.eraseIdx k) J e ?_ (r.eraseIdx k) ?_,G,q⟩
 ·show B.toArray.eraseIdxIfInBounds k=(B.eraseIdx k).toArray
  rw[List.eraseIdxIfInBounds_toArray]
 ·have:=len_erase xs k;omega
def rReverse:V->List V->Hp->VK->Prop:=fun x B H Q=>∃l z,x=.ref l/\B=[]/\H l=some (.lst z)/\Q .non (upd H l (.lst z.reverse))
def rClear:V->List V->Hp->VK->Prop:=fun x z H Q=>∃l B,x=.ref l/\z=[]/\H l=some (.lst B)/\Q .non (upd H l (.lst []))
def rCat:R2:=fun x y H Q=>∃l b z B,x=.ref l/\y=.ref b/\H l=some (.lst z)/\H b=some (.lst B)/\z.length+B.length<=sizeLine/\∀p,H p=none->Q (.ref p) (upd H p (.lst (z++B)))
theorem op_cat:OpR X (binaryOp .Add) rCat:=by
 intro pins s σ H x y v u Q I Y ry h;obtain⟨l,b,xs,zs,rfl,rfl,hH,U,hz,q⟩:=h;cases Y
 cases ry
 obtain⟨z,G,n,r,hl,e⟩:=I.lstM hH;obtain⟨z2,B,n2,r2,M,J⟩:=I.lstM U;refine PySem.P.add_list e J ?_ (by rw[qM,qM];omega);have O:G.toArray++B.toArray=(G++B).toArray:=by simp
 rw[O];exact⟨.ref _,_,I.lnew (t':=s.toks) (r.append r2) (by rw[qF];omega),rfl,q _ I.fresh⟩
end
section
variable {prog:Program}{w:World}{A:Around}{E:Value->Shared->Prop}{s:Shared}
end
section
variable {X:Cx}
end
section
variable {κ:Type}[DecidableEq κ]
def xL (z:List (κ×V))(k:κ):Option V:=(z.find? fun B=>decide (B.1=k)).map (·.2)
def xg (z:List (κ×V))(k:κ)(v:V):List (κ×V) :=
 if (z.any fun B=>decide (B.1=k))=true then z.map (fun B=>if B.1=k then (B.1,v) else B) else z++[(k,v)]
theorem valV_nil {k:κ}:xL ([]:List (κ×V)) k=none:=rfl
theorem jm {p:κ×V}{r:List (κ×V)}{k:κ}(e:p.1=k):xL (p::r) k=some p.2:=by simp[xL,List.find?_cons,e]
theorem jn {p:κ×V}{r:List (κ×V)}{k:κ}(e:¬ p.1=k):xL (p::r) k=xL r k:=by simp[xL,List.find?_cons,e]
theorem xT (k:κ):∀z:List (κ×V),(z.any fun B=>decide (B.1=k))=(xL z k).isSome
 |[]=>rfl
 |p::r=>by
  rw[jZ]
  by_cases e:p.1=k
  ·simp only[jm e,decide_eq_true e,Bool.true_or,Option.isSome_some]
  ·rw[jn e,decide_eq_false e,Bool.false_or];exact xT k r
theorem zAO (z:List (κ×V))(k:κ)(v:V):(xg z k v).length<=z.length+1:=by
 unfold xg;split
 ·rw[qC];omega
 ·rw[qF,zI,xi];omega
theorem putK_new {z:List (κ×V)}{k:κ}(v:V)(h:xL z k=none):xg z k v=z++[(k,v)]:=by
 unfold xg;rw[xT,h];exact if_neg (by decide)
theorem RelO.isSome_eq {o:Option V}{u:Option Value}(r:RelO o u):o.isSome=u.isSome:=by
 cases o with
 |none=>cases u with
  |none=>rfl
  |some _=>exact(show False from r).elim
 |some _=>cases u with
  |none=>exact(show False from r).elim
  |some _=>rfl
theorem KV.any {z:List (κ×V)}{vs:List (κ×Value)}(r:KV z vs)(k:κ):(z.any fun B=>decide (B.1=k))=vs.any fun B=>decide (B.1=k):=by
 unfold KV at r;induction r with
 |nil=>rfl
 |cons h t ih=>rw[jZ,jZ,ih,h.1]
theorem KV.repl {G:List (κ×V)}{vs:List (κ×Value)}(r:KV G vs)(k:κ){y:V}{u:Value}(M:RelV y u) :
  KV (G.map fun B=>if B.1=k then (B.1,y) else B) (vs.map fun B=>if B.1=k then (B.1,u) else B):=by
 unfold KV at r ⊢;induction r with
 |nil=>exact .nil
 |@cons p q U O h t ih =>
  rw[zQ,zQ];refine .cons ?_ ih;obtain⟨H,J⟩:=h;by_cases e:p.1=k
  ·rw[if_pos e,if_pos (H.symm.trans e)];exact⟨H,M⟩
  ·rw[if_neg e,if_neg (fun z=>e (H.trans z))];exact⟨H,J⟩
theorem KV.put {z:List (κ×V)}{vs:List (κ×Value)}(r:KV z vs)(k:κ){y:V}{u:Value}(B:RelV y u):KV (xg z k y) (stored vs k u):=by
 unfold xg stored;rw[r.any k];by_cases e:(vs.any fun G=>decide (G.1=k))=true
 ·rw[if_pos e,if_pos e];exact r.repl k B
 ·rw[if_neg e,if_neg e];exact Paired.snoc r ⟨rfl,B⟩
theorem KV.length {z:List (κ×V)}{vs:List (κ×Value)}(r:KV z vs):z.length=vs.length:=Paired.length r
end
theorem kV_is {P:Program}{w:World}{k:Key}{u:Value}(r:RelV (kV k) u):(y8 P w).is k u=true:=by
 cases k with
 |inl i=>obtain⟨t,e⟩:=(show ∃t,u=Value.int i t from r);subst e;exact mixKind_int P w i t
 |inr x=>obtain⟨t,e⟩:=(show ∃t,u=Value.str x t from r);subst e;exact mixKind_str P w x t
theorem items_are {P:Program}{w:World}:∀{ks:List Key} {us:List Value},Vals (ks.map kV) us->ItemsAre (y8 P w) ks us
 |[],_,r=>by rw[List.map_nil]at r;cases r;exact .nil
 |k::ks,_,r=>by
  rw[zQ]at r
  cases r with
  |cons h t=>exact .cons (kV_is h) (items_are t)
abbrev KT (H:Hp):List (List Key×V)->List (List Key×Addr×Value)->Prop:=Paired fun p q=>p.1=q.1/\H q.2.1=some (.tup (p.1.map kV))/\RelV p.2 q.2.2
theorem KT.val {H:Hp}{B:List (List Key×V)}{xs:List (List Key×Addr×Value)}(r:KT H B xs)(k:List Key):RelO (xL B k) ((atKey xs k).map (·.2)):=by
 induction r with
 |nil=>exact True.intro
 |@cons p q U G h t ih =>
  obtain⟨M,_,O⟩:=h;by_cases e:p.1=k
  ·have J:q.1=k:=M.symm.trans e;have b:atKey (q::G) k=some q.2:=by simp[atKey,List.find?_cons,J]
   rw[jm e,b];exact O
  ·have J:¬ q.1=k:=fun z=>e (M.trans z);have b:atKey (q::G) k=atKey G k:=by simp[atKey,List.find?_cons,J]
   rw[jn e,b];exact ih
theorem KT.repl {H:Hp}{B:List (List Key×V)}{xs:List (List Key×Addr×Value)}(r:KT H B xs)(k:List Key){y:V}{u:Value}(U:RelV y u) :
  KT H (B.map fun J=>if J.1=k then (J.1,y) else J) (xs.map (putAt k u)):=by
 induction r with
 |nil=>exact .nil
 |@cons p q ps Y h t ih =>
  rw[zQ,zQ];refine .cons ?_ ih;obtain⟨G,M,O⟩:=h;unfold putAt;by_cases e:p.1=k
  ·rw[if_pos e,if_pos (G.symm.trans e)];exact⟨G,M,U⟩
  ·rw[if_neg e,if_neg (fun z=>e (G.trans z))];exact⟨G,M,O⟩
theorem KT.put {H:Hp}{z:List (List Key×V)}{xs:List (List Key×Addr×Value)}(r:KT H z xs)(k:List Key){b:Addr}{y:V}{u:Value}(J:H b=some (.tup (k.map kV)))(B:RelV y u) :
  KT H (xg z k y) (storedH xs k b u):=by
 have e:(z.any fun G=>decide (G.1=k))=(atKey xs k).isSome:=by
  rw[xT,(r.val k).isSome_eq,Option.isSome_map]
 unfold xg storedH;rw[e];by_cases q:(atKey xs k).isSome=true
 ·rw[if_pos q,if_pos q];exact r.repl k B
 ·rw[if_neg q,if_neg q];exact Paired.snoc r ⟨rfl,J,B⟩
theorem KT.keeps {H H':Hp}{B:List (List Key×V)}{xs:List (List Key×Addr×Value)}(r:KT H B xs)(J:∀b G,H b=some (.tup G)->H' b=some (.tup G)):KT H' B xs :=
 Paired.mapP r fun _ _ z=>⟨z.1,J _ _ z.2.1,z.2.2⟩
section
variable {P:Program}{w:World}{H:Hp}{h:Heap}{a:Addr}
theorem rd_of {u:HO}(ok:HOk P w H h)(e:Rd H a u):ObjOk P w H h a u:=e.ok ok
theorem dk_rd {z:List (Key×V)}(ok:HOk P w H h)(e:Rd H a (.dK z)):z.length<=sizeLine/\(a==sysModules)=false/\∃B,KV z B/\h.DictOf (y8 P w) a B :=
 show ObjOk P w H h a (.dK z) from rd_of ok e
theorem dk_of {z:List (Key×V)}(ok:HOk P w H h)(e:H a=some (.dK z)):z.length<=sizeLine/\(a==sysModules)=false/\∃B,KV z B/\h.DictOf (y8 P w) a B:=dk_rd ok (.inl e)
theorem key_of {ks:List Key}(ok:HOk P w H h)(e:H a=some (.tup (ks.map kV))):(tupleKind (y8 P w)).is h ks a:=by
 obtain⟨_,z,r,o,J,B,n,G⟩:=(show ObjOk P w H h a (.tup (ks.map kV)) from ok a _ e);exact⟨o,z.toArray,n,J,B,G,by simpa using items_are r⟩
theorem dt_rd {B:List (List Key×V)}(ok:HOk P w H h)(e:Rd H a (.dT B)):B.length<=sizeLine/\(a==sysModules)=false /\
  ∃J,KT H B J/\h.DictOfH (tupleKind (y8 P w)) a J:=by
 obtain⟨z,y,J,r,o,O,ep,h1,h2,U,Y,h5⟩:=(show ObjOk P w H h a (.dT B) from rd_of ok e);refine⟨z,y,J,r,o,O,ep,h1,h2,U,Y,fun x G=>?_,h5⟩;have all:∀{l:List (List Key×V)} {m:List (List Key×Addr×Value)},KT H l m->∀x∈m,(tupleKind (y8 P w)).is h x.1 x.2.1:=by
  intro l m q;induction q with
  |nil=>intro x G;exact nomatch G
  |@cons p q ps qs M t ih =>
   intro x G;rcases zD.mp G with e|G
   ·subst e;exact key_of ok (by rw[<-M.1];exact M.2.1)
   ·exact ih x G
 exact all r x G
theorem dt_of {z:List (List Key×V)}(ok:HOk P w H h)(e:H a=some (.dT z)):z.length<=sizeLine/\(a==sysModules)=false /\
  ∃B,KT H z B/\h.DictOfH (tupleKind (y8 P w)) a B:=dt_rd ok (.inl e)
end
def DGet (H:Hp)(a:Addr)(y:V)(r:Option V):Prop :=
 (∃z k,Rd H a (.dK z)/\y=kV k/\r=xL z k)\/∃z k b,Rd H a (.dT z)/\y=.ref b/\H b=some (.tup (k.map kV))/\r=xL z k
def DPut (H:Hp)(a:Addr)(y v:V)(H':Hp):Prop :=
 (∃z k,H a=some (.dK z)/\y=kV k/\z.length<sizeLine/\H'=upd H a (.dK (xg z k v))) \/
 ∃z k b,H a=some (.dT z)/\y=.ref b/\H b=some (.tup (k.map kV))/\z.length<sizeLine/\H'=upd H a (.dT (xg z k v))
theorem DPut.k {H:Hp}{a:Addr}{z:List (Key×V)}{k:Key}{v:V}(e:H a=some (.dK z))(B:z.length<sizeLine):DPut H a (kV k) v (upd H a (.dK (xg z k v))):=.inl ⟨z,k,e,rfl,B,rfl⟩
theorem DPut.t {H:Hp}{a b:Addr}{z:List (List Key×V)}{k:List Key}{v:V}(e:H a=some (.dT z))(B:H b=some (.tup (k.map kV)))(G:z.length<sizeLine) :
  DPut H a (.ref b) v (upd H a (.dT (xg z k v))):=.inr ⟨z,k,b,e,rfl,B,G,rfl⟩
section
variable {X:Cx}{pins:List (Addr×Obj)}{σ:St}{H:Hp}{s:Shared}{a:Addr}{y v:V}{u r:Value}{o:Option V}{A:Around}{E:Value->Shared->Prop}
theorem Inv.big (I:Inv X pins σ H s):sysModules<s.heap.objs.size:=by
 have h:mainGlobals<s.heap.objs.size:=(I.mod.glob.keeps I.bk).lt;exact Nat.lt_trans (by decide) h
theorem d_write {h':Heap}{t':Nat}{B:HO}(I:Inv X pins σ H s)(M:Mut (H a))(G:Heap.SameBut a s.heap h')(J:∃q,h'.get? a=some q)(new:ObjOk X.prog X.w (upd H a B) h' a B) :
  Inv X pins σ (upd H a B) { s with heap:=h',toks:=t' } :=
 I.write (x:=a) (e:=a) M (.inl rfl) (fun b q O z=>(G.2 b O).trans z) J new
theorem dk_new {P:Program}{w:World}{H':Hp}{h':Heap}{B:List (Key×V)}{vs:List (Key×Value)}(z:B.length<=sizeLine)(G:(a==sysModules)=false)(rel:KV B vs)(dd:h'.DictOf (y8 P w) a vs) :
  ObjOk P w H' h' a (.dK B):=⟨z,G,vs,rel,dd⟩
theorem d_setItem {H':Hp}{Q:Unit->Shared->Prop}(hu:A.units+1<cLine)(I:Inv X pins σ H s)(g:DPut H a y v H')(ry:RelV y u)(rv:RelV v r)(h:∀s',Inv X pins σ H' s'->Q () s') :
  wpAny (model X.prog X.w) A (setItem (.ref a) u r) Q E s:=by
 rcases g with⟨B,k,e,ey,l,eH⟩|⟨B,k,b,e,ey,eb,l,eH⟩
 ·subst ey eH;obtain⟨z,Y,vs,rel,dd⟩:=dk_of I.hok e;have U:vs.length<=sizeLine:=by rw[<-rel.length];exact z
  have O:(xg B k v).length<=sizeLine:=by have:=zAO B k v;omega
  refine wpAny_setItem_pairs (hsz:=U) (kV_is ry) dd fun h' G M=>h _ ?_;have he:∃q,h'.get? a=some q:=let ⟨q,_,_,J,_⟩:=G;⟨q,J⟩
  exact d_write I (by rw[e];exact True.intro) M he (dk_new O Y (rel.put k rv) G)
 ·subst ey eH;cases (show u=Value.ref b from ry)
  obtain⟨z,Y,xs,rel,dd⟩:=dt_of I.hok e;have U:xs.length<=sizeLine:=by rw[<-Paired.length rel];exact z
  have O:(xg B k v).length<=sizeLine:=by have:=zAO B k v;omega
  refine wpAny_setItem_heap (hsz:=U) (tupleKind_room_in1 hu) (key_of I.hok eb) dd fun h' G M=>h _ ?_;obtain⟨q,es,ep,J,h2,h3,h4,_,h5⟩:=G;refine d_write I (by rw[e];exact True.intro) M ⟨q,J⟩ ⟨O,Y,_,(rel.put k eb rv).keeps fun c ys ec=>?_,q,es,ep,J,h2,h3,h4,h5⟩;rw[yL (JE ec e (fun z=>nomatch z))];exact ec
end
section
variable {X:Cx}{pins:List (Addr×Obj)}{σ:St}{H:Hp}{s:Shared}{a:Addr}{kvs:List (Key×V)}{k:Key}{u:Value}{A:Around}{E:Value->Shared->Prop}
end
section
variable {X:Cx}{o i e value:Expr}{pos pos' tpos:Pos}{td ty tv:TE}
end
theorem dk_empty {P:Program}{w:World}{H:Hp}(h:Heap)(z:sysModules<h.objs.size):ObjOk P w H (h.push { cls:=.type "dict",data:=.dict #[] }) h.objs.size (.dK []) :=
 ⟨zS _,beq_eq_false_iff_ne.mpr (Ne.symm (zG z)),[],.nil,Heap.DictOf.new h⟩
theorem dt_empty {P:Program}{w:World}{H:Hp}(h:Heap)(z:sysModules<h.objs.size):ObjOk P w H (h.push { cls:=.type "dict",data:=.dict #[] }) h.objs.size (.dT []) :=
 ⟨zS _,beq_eq_false_iff_ne.mpr (Ne.symm (zG z)),[],.nil,_,#[],0,Heap.get?_push_size _ rfl,⟨rfl,rfl,rfl⟩,rfl,rfl,List.nodup_nil⟩
def tDNewK:TE:=fun _ H Q=>∀p,H p=none->Q (.ref p) (upd H p (.dK []))
def tDNewT:TE:=fun _ H Q=>∀p,H p=none->Q (.ref p) (upd H p (.dT []))
section
variable {X:Cx}{pos:Pos}
theorem pe_dnewK:PE X (.Dict [] [] pos) tDNewK:=fun pins s z H Q I h =>
 wpAny_Dict_empty ⟨.ref s.heap.objs.size,_,I.laid (a:=s.heap.objs.size) (o:=.dK []) (t':=s.toks) (fun _ _ q=>Heap.get?_push_of_some _ q) (zB _) (dk_empty s.heap I.big),rfl,h _ (I.hok.fresh (zB _))⟩
theorem pe_dnewT:PE X (.Dict [] [] pos) tDNewT:=fun pins s z H Q I h =>
 wpAny_Dict_empty ⟨.ref s.heap.objs.size,_,I.laid (a:=s.heap.objs.size) (o:=.dT []) (t':=s.toks) (fun _ _ q=>Heap.get?_push_of_some _ q) (zB _) (dt_empty s.heap I.big),rfl,h _ (I.hok.fresh (zB _))⟩
end
def J5:List (TE×TE)->St->Hp->(List (V×V)->Hp->Prop)->Prop
 |[],_,H,Q=>Q [] H
 |(tk,G)::r,z,H,Q=>tk z H fun x M=>G z M fun y J=>J5 r z J fun O B=>Q ((x,y)::O) B
def mergeK (z more:List (Key×V)):List (Key×V):=more.foldl (fun acc B=>xg acc B.1 B.2) z
def tDisp (B:List (TE×TE)):TE:=fun M H Q=>∀p,H p=none->J5 B M (upd H p (.dK [])) fun O G=>G p=some (.dK [])/\∃z:List (Key×V),O=z.map (fun J=>(kV J.1,J.2))/\z.length<=15/\Q (.ref p) (upd G p (.dK (mergeK [] z)))
structure M1 (X:Cx) (o:Expr) (m:Str) (apos:Pos) (e:Expr) (cpos:Pos):Prop where
 base:attributeBase o m X.env (eval o X.env)=eval o X.env
 few:((backTo cpos (starEach [e] X.env)).all (fun x=>!x.1)&&(backToKw cpos (keywordEach [] X.env)).all (fun x=>x.1.isSome)
  && decide (([e]:List Expr).length+([]:List Keyword).length+(if ([]:List Keyword).isEmpty then 0 else 1)<30))=true
 line:(apos.endLine==cpos.line)=true
 trees:backTo cpos (starEach [e] X.env)=[(false,eval e X.env)]
structure M2 (X:Cx) (o:Expr) (m:Str) (apos:Pos) (e f:Expr) (cpos:Pos):Prop where
 base:attributeBase o m X.env (eval o X.env)=eval o X.env
 few:((backTo cpos (starEach [e,f] X.env)).all (fun x=>!x.1)&&(backToKw cpos (keywordEach [] X.env)).all (fun x=>x.1.isSome)
  && decide (([e,f]:List Expr).length+([]:List Keyword).length+(if ([]:List Keyword).isEmpty then 0 else 1)<30))=true
 line:(apos.endLine==cpos.line)=true
 trees:backTo cpos (starEach [e,f] X.env)=[(false,eval e X.env),(false,eval f X.env)]
def IsD (H:Hp)(a:Addr):Prop:=(∃z,Rd H a (.dK z))\/∃z,Rd H a (.dT z)
section
variable {X:Cx}{pins:List (Addr×Obj)}{σ:St}{H:Hp}{s:Shared}{a:Addr}{y d:V}{u r:Value}{o:Option V}{A:Around}{E:Value->Shared->Prop}
end
def tDGet1 (J ty:TE):TE:=fun z H Q=>J z H fun x G=>∃a,x=.ref a/\IsD G a/\ty z G fun y B=>∃o,DGet B a y o/\Q (o.getD .non) B
def tDGet2 (M ty O:TE):TE:=fun B H Q=>M B H fun x J=>∃a,x=.ref a/\IsD J a/\ty B J fun y U=>O B U fun z G=>∃o,DGet G a y o/\Q (o.getD z) G
section
variable {X:Cx}{o e f:Expr}{apos cpos:Pos}{td ty tx:TE}
end
section
variable {X:Cx}{pins:List (Addr×Obj)}{σ:St}{H:Hp}{s:Shared}{a:Addr}{kvs:List (Key×V)}{A:Around}{E:Value->Shared->Prop}
end
section
variable {X:Cx}{pins:List (Addr×Obj)}{σ:St}{H:Hp}{s:Shared}{a:Addr}{y:V}{u:Value}{A:Around}{E:Value->Shared->Prop}
end
end L2
namespace Att
open PySem PySem.W PySem.Calls PyProof.Rows
theorem zAV {P:Params}{h:Heap}:∀(ns:List Int) (vs:List Value),WellAll P h vs (ns.map WData.int)->IntsAre vs ns:=by
 intro ns;induction ns with
 |nil =>
  intro vs w;rw[List.map_nil]at w;cases w
  exact .nil
 |cons n ns ih =>
  intro vs w;rw[zQ]at w;cases w with
  |cons a b =>
   cases a
   exact .cons _ _ (ih _ b)
theorem script_of {l:OpenLaw}{n:Nat}(hn:l.most=some n){P:Params}{h:Heap}{args:List WData}{vals:List Value}
  (B:l.row.toRowW.claim.pre args=true) (M:WellAll P h vals args) :
  ∃a U z,vals=[Value.ref a]/\args=[WData.list (z.map WData.int)]/\h.get? a=some { cls:=.type "list",data:=.seq U.toArray }/\IntsAre U z/\z.length<=n:=by
 have O:WShape.hasAll [] args [.list .int]=true:=(pre_splitW B).1;have Y:l.pre.holds [] { args:=args }=true:=(pre_splitW B).2;obtain⟨d,r,rfl,h1,h2⟩:=hasAllW_cons O;obtain rfl:=hasAllW_nil h2;obtain⟨xs,rfl,h3⟩:=hasW_list h1;obtain⟨z,rfl⟩:=items_int h3;have hlen:z.length<=n:=by
  unfold OpenLaw.pre at Y;have H:(WTm.not (.lt (.lit (.int (n:Int))) (.len (.arg 0)))).holds [] { args:=[.list (z.map .int)] }=true:=by
   have H:=(holds_andW Y).1;rw[hn]at H;exact H
  have J:=condW_of H (w_not (w_lt w_lit (w_len_list (w_arg rfl))));rw[qC]at J;refine Nat.le_of_not_lt fun q=>?_;have q':(n:Int)<((z.length:Nat):Int):=by omega
  first
   |(rw[decide_eq_true q']at J;exact absurd J (by decide))
   |(simp at J;omega)
 cases M with
 |cons w1 w2 =>
  cases w2
  cases w1 with
  |list ho G=>exact⟨_,_,z,rfl,rfl,ho,zAV z _ G,hlen⟩
theorem post_true (l:OpenLaw)(args:List WData):l.row.toRowW.claim.post args (.bool true) args=true :=
 postW_of (r:=l.row.toRowW) (X:=(true==true))
  (show WShape.has [] (.bool true) .bool=true by first|rfl|decide|simp[WShape.has,WShape.arms,WShape.armsAll])
  (show(WTm.eq .res (.lit (.bool true))).value [] { args:=args,res:=some (.bool true),after:=args }=some (.bool (true==true)) from w_eq_bool (w_res rfl) w_lit) rfl
theorem attach_call {l:OpenLaw}{n:Nat}{q:Program}{loose:List Str}{XP:(Str->Option Value)->Heap->Prop}{YP:World->Heap->Prop}{d:DefRec}
  (hn:l.most=some n) (ac:d.params.defaults=[])
  (call:∀(w:World) (s₀ z:Shared) (M mb:Str->Option Value) (B:Addr) (o:Obj) (pm U doc:Value) (a:Addr) (vs:List Value) (ns:List Int),
   Ground q loose [] XP w s₀ M mb z.heap->YP w z.heap ->
   z.heap.get? B=some o->o.data=.func (docDef d.name d.params d.body d.scope pm U doc)->z.heap.CodeRec U d.name->M d.name=some (.ref B) ->
   z.heap.get? a=some { cls:=.type "list",data:=.seq vs.toArray }->IntsAre vs ns->ns.length<=n->z.gens = #[] ->
   codeAny (model l.prog w) callerA (.call (.ref B) ⟨[.ref a],[]⟩) (fun r O=>r=.ok (.ret (.bool true))/\OldK z.heap O.heap/\O.os=z.os/\AllBare O.gens) z) :
  WalkO q loose XP YP l.row.toRowW d [] (fun f vs=>PySem.call f vs):=by
 intro w s₀ z M mb G Y B o pm U doc dV kV ho hd ad hD aa hg args vals as H hlay hrd ae hlo;obtain rfl:dV=.none:=Dflts.none hD ac;obtain rfl:kV=.none:=Dflts.noKw hD;obtain⟨a,vs,ns,rfl,rfl,J,hints,hlen⟩:=script_of hn H ae;refine enter_call (codeAny_mono (call w s₀ z M mb B o pm U doc a vs ns G Y ho (fd_plain hd) ad aa J hints hlen hg) fun r O hq=>?_);obtain⟨rfl,h2,h3,h4⟩:=hq;exact⟨.inl ⟨.bool true,.bool true,[],rfl,fun _=>rfl,.bool true,post_true l _,fun _=>⟨xJ.nil,fun _ hm=>(nomatch hm)⟩⟩,h2,h3,h4⟩
section
variable {prog:Program}{w:World}{A:Around}{E:Value->Shared->Prop}{s:Shared}{K:Frag}
end
end Att
namespace L2
open PySem PySem.Spec PyProof.Rows
theorem vals_ints:∀{vs:List Value} {ns:List Int},IntsAre vs ns->Vals (ns.map V.int) vs
 |_,_,.nil=>.nil
 |_,_,.cons n t h=>.cons ⟨t,rfl⟩ (vals_ints h)
def Only (H:Hp):Prop:=∀b,H b=none\/∃o z,H b=some (.frz o (.lst z))
theorem law_call {P:Program}{w:World}{K:zA}{Y mb:Str->Option Value}{CX:CXT}{k:Nat}{fa a:Addr}{fd:FuncData}{x:Str}{sp:Sp}{B:Shared}{vs:List Value}{ns:List Int}
  (KX:K.In B.heap) (hns:B.heap.Ns mainGlobals Y) (J:B.heap.Ns builtinsNs mb) (hbb:∀x:Str,x ≠ "__name__" -> mb x=bootBuiltins x) (hlim:B.heap.NoLimit) (hg:B.gens = #[])
  (ha:B.heap.get? a=some { cls:=.type "list",data:=.seq vs.toArray }) (hi:IntsAre vs ns) (hl:ns.length<=sizeLine) (hr:Room k callerA)
  (F:∀base:Heap,K.In base->base.Ns mainGlobals Y->FnOk P w K Y base CX k fa fd [x] sp) (U:∀(s:Shared) (u:Value),BindsTo s fd ⟨[u],[]⟩ [(x,u)])
  (hsp:∀H:Hp,Only H->SqL K H a (ns.map V.int)->sp [.ref a] H (fun v _=>v=.bl true) fun _ _ _=>False)
  (hCX:∀H e M,CX [] H B (fun _ _ _=>False) e M->False) :
  codeAny (model P w) callerA (.call (.ref fa) ⟨[.ref a],[]⟩) (fun r M=>r=.ok (.ret (.bool true))/\OldK B.heap M.heap/\M.os=B.os/\AllBare M.gens) B:=by
 have rv:=vals_ints hi;have lenV:=hi.length
 -- from an abstract heap in which nothing but the script may be tracked
 have core:∀H:Hp,Only H->SqL K H a (ns.map V.int)->HOk P w H B.heap->(∀b,H b≠none->b=a)->(H a≠none->K.lookup a=none) ->
   codeAny (model P w) callerA (.call (.ref fa) ⟨[.ref a],[]⟩) (fun r M=>r=.ok (.ret (.bool true))/\OldK B.heap M.heap/\M.os=B.os/\AllBare M.gens) B:=by
  intro H hO hS hok hA hK;have G:∀{b:Addr} {o:Obj},B.heap.get? b=some o->H b=none->(hidT B.heap H).get? b=some o:=fun e n=>hidT_get e n;have noA:∀{b:Addr} {o:Obj} {es:Array DictEntry} {ep:Nat},B.heap.get? b=some o->o.data=.dict es ep->H b=none:=fun {b o es ep} e d=>by
   cases q:H b with
   |none=>rfl
   |some u =>
    have e':b=a:=hA b (by rw[q];simp);subst e';rw[ha]at e;cases e
    have d':Data.seq vs.toArray _=Data.dict es ep:=d;cases d'
  have O:∀{b:Addr} {m:Str->Option Value},B.heap.Ns b m->(hidT B.heap H).Ns b m:=fun {b m} ⟨o,es,ep,e,d,r⟩=>⟨o,es,ep,G e (noA e d),d,r⟩;have hKb:K.In (hidT B.heap H):=fun b o e=>G (KX b o e) (by
   cases q:H b with
   |none=>rfl
   |some u =>
    have e':b=a:=hA b (by rw[q];simp);subst e';rw[hK (by rw[q];simp)]at e;cases e)
  have hM:Mod K Y (hidT B.heap H):=⟨hKb,O hns,⟨mb,O J,hbb⟩,let ⟨mc,h1,h2⟩:=hlim;⟨mc,O h1,h2⟩⟩;have e0:Env0 P w K Y (hidT B.heap H) callerA [] B H:=⟨rfl,hM,fun b o e=>of_hidT e,xc (hidT_size _ _),trivial,fun b J=>absurd (show b∈([]:List Addr) from J) (by simp),hok,.of_eq hg⟩;refine codeAny_mono ((F _ hKb (O hns)).run callerA [] B H ⟨[.ref a],[]⟩ [.ref a] [.ref a] _ _ hr e0 (U B (.ref a)) (.cons rfl .nil) (hsp H hO hS)) fun r M h=>?_;cases r with
  |error e=>exact(hCX H e M h).elim
  |ok fl =>
   cases fl with
   |next=>exact False.elim h
   |brk=>exact False.elim h
   |cont=>exact False.elim h
   |ret u =>
    obtain⟨v,H',os,bare,un,hok',r',q⟩:=h;have q':v=.bl true:=q;subst q';obtain rfl:u=Value.bool true:=r';refine⟨rfl,OldK.of_keep fun b o e=>?_,os,bare⟩;cases q:H b with
    |none=>exact un.keep b o e q (by intro z;exact absurd (show b∈([]:List Addr) from z) (by simp)) (by simp)
    |some u =>
     rcases hO b with z|⟨ob,xs,z⟩
     ·rw[q]at z;cases z
     ·have z2:=un.frzs b ob _ z;obtain⟨e1,_⟩:=hok b _ z;obtain⟨e2,_⟩:=hok' b _ z2;rw[e]at e1;cases e1
      exact e2
 cases hk:K.lookup a with
 |some o =>
  -- the script is one of the module's own objects
  have e:=KX a o hk;rw[ha]at e;cases e
  refine core (fun _=>none) (fun _=>.inl rfl) (.inr ⟨_,vs.toArray,_,hk,rfl,rfl,rfl,by rw[qM,lenV];exact hl,by simpa using rv⟩) (fun b u z=>by have z':(none:Option HO)=some u:=z;cases z') (fun b z=>absurd rfl z) fun z=>absurd rfl z
 |none =>
  refine core (fun b=>if b=a then some (.frz { cls:=.type "list",data:=.seq vs.toArray } (.lst (ns.map V.int))) else none) (fun b=>?_) (.inl (.inr ⟨{ cls:=.type "list",data:=.seq vs.toArray },if_pos rfl⟩)) (fun b u z=>?_) (fun b z=>?_) fun _=>hk
  ·by_cases J:b=a
   ·exact .inr ⟨_,_,if_pos J⟩
   ·exact .inl (if_neg J)
  ·by_cases J:b=a
   ·have z':=(if_pos J).symm.trans z;cases z'
    subst J;exact⟨ha,by rw[qC];exact hl,vs,_,rv,ha⟩
   ·have z':=(if_neg J).symm.trans z;cases z'
  ·by_cases J:b=a
   ·exact J
   ·exact absurd (if_neg J) z
theorem walk_of {l:PySem.W.OpenLaw}{n k:Nat}{q:Program}{loose:List Str}{XP:(Str->Option Value)->Heap->Prop}{YP:World->Heap->Prop}{d:DefRec}{K:Params->zA}{CX:World->CXT}{sp:World->Sp}{x:Str}
  (hn:l.most=some n) (O:n<=sizeLine) (hdf:d.params.defaults=[]) (hr:Room k callerA)
  (hY:∀(w:World) (h:Heap),YP w h->(K w.params).In h)
  (F:∀(w:World) (z:Str->Option Value) (M:Addr) (h:Heap),(K w.params).In h->h.Ns mainGlobals z->z d.name=some (.ref M) ->
   ∃fd:FuncData,(∀(s:Shared) (u:Value),BindsTo s fd ⟨[u],[]⟩ [(x,u)]) /\
    ∀base:Heap,(K w.params).In base->base.Ns mainGlobals z->FnOk l.prog w (K w.params) z base (CX w) k M fd [x] (sp w))
  (hsp:∀(w:World) (H:Hp) (a:Addr) (ns:List Int),ns.length<=n->Only H->SqL (K w.params) H a (ns.map V.int)->sp w [.ref a] H (fun v _=>v=.bl true) fun _ _ _=>False)
  (hCX:∀(w:World) (H:Hp) (s:Shared) (e:Value) (s':Shared),CX w [] H s (fun _ _ _=>False) e s'->False) :
  PySem.W.WalkO q loose XP YP l.row.toRowW d [] (fun f vs=>PySem.call f vs):=by
 refine Att.attach_call hn hdf fun w s₀ B z mb M o pm cd doc a vs ns G Y ho hd hcd U J hints hlen hg=>?_;have KX:=hY w _ Y;obtain⟨fd,hb,hF⟩:=F w z M _ KX G.T.g U;exact law_call KX G.T.g G.T.b G.T.builtins G.T.nolimit hg J hints (zL hlen O) hr hF hb (fun H hO hS=>hsp w H a ns hlen hO hS) fun H e s'=>hCX w H B e s'
def j4 (s:Stmt):Arguments:=match s with
 |.FunctionDef _ a _ _ _ _ _ _ _ _=>a
 |_=>{ posonlyargs:=[],args:=[],vararg:=none,kwonlyargs:=[],kw_defaults:=[],kwarg:=none,defaults:=[] }
def xq (s:Stmt):List Stmt:=match s with
 |.FunctionDef _ _ b _ _ _ _ _ _ _=>b
 |_=>[]
def zT (s:Stmt):Scope:=match s with
 |.FunctionDef _ _ _ _ _ _ z _ _ _=>z
 |_=>{ kind:=.function,names:=[],isGenerator:=false,isCoroutine:=false }
abbrev CX0:CXT:=fun _ _ _ _ _ _=>False
abbrev E0:XK:=fun _ _ _=>False
theorem pass0 {X:Cx}:Passes CX0 X E0:=fun _ _ _ _ _ _ _ h=>h.elim
structure Fun (K:zA) (x qual:Str) (st:Stmt) (f:Addr) (fd:FuncData):Prop where
 ex:∃(oc:Value) (od:Option Addr) (kV doc pm:Value) (an:Option Addr) (cdv ct:Value) (osl:Array (Option Value)),
  fd=xZ x qual (j4 st) (xq st) (zT st) .none kV doc pm an cdv ct/\K.lookup f=some ⟨oc,od,.func fd,osl⟩/\PySem.W.codeIn K cdv qual=true
 kp:x5 K (.ref f)=true
section
variable {P:Program}{w:World}{K:zA}{mg:Str->Option Value}{base:Heap}
theorem Fun.ok {x qual:Str}{st:Stmt}{f:Addr}{O:FuncData}{N G:List Str}{k:Nat}{sp:Sp}(F:Fun K x qual st f O)(S:FnScope N G (zT st))(len:∀vs H Q E,sp vs H Q E->vs.length=G.length)
  (B:∀(z:Value) (A:Around) (outer:List Env) (s:Shared) (H:Hp) (vs:List V) (Q:VK) (E:XK),Room k (A.deeper (envOfC qual (zT st) s.heap.objs.size f z))->sp vs H Q E ->
   ∃t,PSs (cxOf CX0 P w K mg base N qual (zT st) f z A outer s H E).nox (xq st) t/\t { nx:=fun _ U=>Q .non U,rt:=Q } (jj N vs) H):FnOk P w K mg base CX0 (k+1) f O G sp:=by
 obtain⟨oc,od,kV,doc,pm,an,z,ct,aa,rfl,lk,J⟩:=F.ex;refine fn_of lk J S len fun A outer s H vs Q E Y M=>?_;obtain⟨t,h,q⟩:=B z A outer s H vs Q E Y M;exact⟨t,h.nox,q⟩
theorem Fun.binds {x qual:Str}{st:Stmt}{f:Addr}{H:FuncData}{B:List Str}(F:Fun K x qual st f H)
  (h:∀(kV doc pm:Value) (G:Option Addr) (z ct:Value) (us:List Value),us.length=B.length->bindArgs (xZ x qual (j4 st) (xq st) (zT st) .none kV doc pm G z ct) ⟨us,[]⟩=pure (B.zip us)):Binds K H B []:=by
 obtain⟨O,U,kV,doc,pm,G,z,ct,J,rfl,lk,M⟩:=F.ex;exact .all (h kV doc pm G z ct)
theorem fun_mk {x qual:Str}{st:Stmt}{f:Addr}{J:Value}{H G:Option Addr}{B:Array (Option Value)}{kV doc pm z ct:Value}(l:K.lookup f=some ⟨J,H,.func (xZ x qual (j4 st) (xq st) (zT st) .none kV doc pm G z ct),B⟩)
  (c:PySem.W.codeIn K z qual=true) (k:x5 K (.ref f)=true):Fun K x qual st f (xZ x qual (j4 st) (xq st) (zT st) .none kV doc pm G z ct):=⟨⟨J,H,kV,doc,pm,G,z,ct,B,rfl,l,c⟩,k⟩
end
theorem hu_of {A:Around}{k:Nat}(z:Room k A):A.units+1<cLine:=y9 (Nat.add_le_add_left (by decide:1<=64) _) z.units
theorem small1000 {n:Nat}(h:n<=1000):n<sizeLine:=y9 h (by decide)
section
variable {X:Cx}
theorem pv (i:Nat) {x:Str} {pos:Pos} (G:X.N[i]? = some x:=by rfl) (H:Vis X.env.scope x:=by first|exact Or.inl rfl|exact Or.inr (Or.inl rfl)|exact Or.inr (Or.inr rfl)) (B:(x==("__debug__" : Str))=false:=by decide)
  (z:(x==("__classdict__" : Str))=false:=by decide):PE X (.Name x pos) (tVar i):=pe_var G H B z
end
theorem yw {c A B:Prop}[Decidable c](G:c->A)(z:¬ c->B):if c then A else B:=by
 by_cases h:c
 ·rw[if_pos h];exact G h
 ·rw[if_neg h];exact z h
def Same (H H':Hp):Prop:=∀b o,H b=some o->H' b=some o
theorem Same.refl (H:Hp):Same H H:=fun _ _ h=>h
theorem Same.trans {H B z:Hp}(a:Same H B)(b:Same B z):Same H z:=fun c o h=>b c o (a c o h)
theorem Same.free {H H':Hp}(e:Same H H'){l:Addr}(h:H' l=Option.none):H l=Option.none:=by
 cases q:H l with
 |none=>rfl
 |some o =>
  rw[e l o q]at h;cases h
theorem Same.seq {K:zA}{H H':Hp}{a:Addr}{xs:List V}(e:Same H H')(h:SqL K H a xs):SqL K H' a xs:=by
 rcases h with(h|⟨o,h⟩)|h
 ·exact .inl (.inl (e _ _ h))
 ·exact .inl (.inr ⟨o,e _ _ h⟩)
 ·exact .inr h
section
variable {X:Cx}
end
section
variable {κ:Type}[DecidableEq κ]
end
section
variable {σ:St}{H:Hp}{Q:VK}{D:Ends}
theorem w_var {i:Nat}:tVar i σ H Q=∃v,σ[i]? = some (some v)/\Q v H:=rfl
theorem w_C {v:V}:tC v σ H Q=Q v H:=rfl
theorem w_op {r:R2}{z tb:TE}:tOp r z tb σ H Q=z σ H fun x G=>tb σ G fun y B=>r x y B Q:=rfl
theorem w_un {r:V->Hp->VK->Prop}{z:TE}:tUn r z σ H Q=z σ H fun x B=>r x B Q:=rfl
theorem w_rI {C:Int->Int->Prop}{g:Int->Int->V}{i j:Int}:rI C g (.int i) (.int j) H Q=(C i j/\Q (g i j) H) :=
 propext ⟨fun⟨a,b,B,z,c,q⟩=>by cases B;cases z;exact⟨c,q⟩,fun⟨c,q⟩=>⟨i,j,rfl,rfl,c,q⟩⟩
theorem w_rI0 {g:Int->Int->V}{i j:Int}:rI0 g (.int i) (.int j) H Q=Q (g i j) H :=
 propext ⟨fun⟨a,b,B,z,q⟩=>by cases B;cases z;exact q,fun q=>⟨i,j,rfl,rfl,q⟩⟩
theorem w_rU {g:Int->V}{i:Int}:rU g (.int i) H Q=Q (g i) H :=
 propext ⟨fun⟨a,z,q⟩=>by cases z;exact q,fun q=>⟨i,rfl,q⟩⟩
theorem w_eqI {i j:Int}:rEq (.int i) (.int j) H Q=Q (.bl (decide (i=j))) H :=
 propext (by
  have e:decide (V.int i=V.int j)=decide (i=j):=by by_cases h:i=j<;>simp[h]
  unfold rEq;rw[e];exact⟨fun h=>h.2,fun h=>⟨rfl,h⟩⟩)
theorem w_neI {i j:Int}:rNe (.int i) (.int j) H Q=Q (.bl (!decide (i=j))) H :=
 propext (by
  have e:decide (V.int i=V.int j)=decide (i=j):=by by_cases h:i=j<;>simp[h]
  unfold rNe;rw[e];exact⟨fun h=>h.2,fun h=>⟨rfl,h⟩⟩)
theorem w_seq {t u:TS}:tSeq t u D σ H=t { D with nx:=u D } σ H:=rfl
theorem w_next:tNext D σ H=D.nx σ H:=rfl
theorem w_break:tBreak D σ H=D.bk σ H:=rfl
theorem w_cont:tCont D σ H=D.ct σ H:=rfl
theorem w_ifS {c:TT}{t u:TS}:tIfS c t u D σ H=c σ H fun b z=>if b=true then t D σ z else u D σ z:=rfl
theorem w_ret {z:TE}:tRet z D σ H=z σ H D.rt:=rfl
theorem w_retN:tRetN D σ H=D.rt .non H:=rfl
theorem w_drop {z:TE}:tDrop z D σ H=z σ H fun _ B=>D.nx σ B:=rfl
theorem w_asg {z:TE}{g:TG}:tAsg z g D σ H=z σ H fun x B=>g x σ B D.nx:=rfl
theorem xK {i:Nat}{v:V}{R:St->Hp->Prop}:xN i v σ H R=R (σ.set i (some v)) H:=rfl
theorem w_gSub {z B:TE}{t:TSet}{v:V}{R:St->Hp->Prop}:gSub z B t v σ H R=z σ H fun o M=>B σ M fun i J=>t o i v J fun G=>R σ G:=rfl
theorem w_test {t:TE}{R:Bool->Hp->Prop}:tTest t σ H R=t σ H fun x z=>∃k,x=.bl k/\R k z:=rfl
theorem w_B {t:TE}{R:Bool->Hp->Prop}:tB t σ H R=t σ H fun x z=>∃k,x=.bl k/\R k z:=rfl
theorem w_and {t u:TT}{R:Bool->Hp->Prop}:tAnd t u σ H R=t σ H fun c z=>if c=true then u σ z R else R false z:=rfl
theorem w_or {t u:TT}{R:Bool->Hp->Prop}:tOr t u σ H R=t σ H fun c z=>if c=true then R true z else u σ z R:=rfl
theorem w_not {t:TT}{R:Bool->Hp->Prop}:tNot t σ H R=t σ H fun c z=>R (!c) z:=rfl
theorem w_andV {B tb:TE}:tAndV B tb σ H Q=B σ H fun x z=>∃c,x=.bl c/\if c=true then tb σ z Q else Q (.bl false) z:=rfl
theorem w_orV {B tb:TE}:tOrV B tb σ H Q=B σ H fun x z=>∃c,x=.bl c/\if c=true then Q (.bl true) z else tb σ z Q:=rfl
theorem w_notV {z:TE}:tNotV z σ H Q=z σ H fun x B=>∃c,x=.bl c/\Q (.bl (!c)) B:=rfl
theorem w_if {t:TT}{z tb:TE}:tIf t z tb σ H Q=t σ H fun c B=>if c=true then z σ B Q else tb σ B Q:=rfl
theorem w_call {sp:Sp}{z:List V}{E:XK}{t:TA}:tCall sp z E t σ H Q=t σ H fun B G=>sp (B++z) G Q E:=rfl
theorem w_nil {R:List V->Hp->Prop}:tNil σ H R=R [] H:=rfl
theorem w_cons {B:TE}{z:TA}{R:List V->Hp->Prop}:tCons B z σ H R=B σ H fun x J=>z σ J fun M G=>R (x::M) G:=rfl
theorem w_CB {r:List V->Hp->VK->Prop}{t:TA}:tCB r t σ H Q=t σ H fun z B=>r z B Q:=rfl
theorem w_lst {t:TA}:tLst t σ H Q=t σ H fun z B=>z.length<=sizeLine/\∀p,B p=none->Q (.ref p) (upd B p (.lst z)):=rfl
theorem w_tup {t:TA}:tTup t σ H Q=t σ H fun z B=>z.length<=sizeLine/\∀p,B p=none->Q (.ref p) (upd B p (.tup z)):=rfl
theorem w_isN {z:TE}:tIsN z σ H Q=z σ H fun x B=>Q (.bl (decide (x=.non))) B:=rfl
theorem w_notN {z:TE}:tNotN z σ H Q=z σ H fun x B=>Q (.bl (!decide (x=.non))) B:=rfl
theorem w_chain {r G:R2}{M tb B:TE}:tChain r G M tb B σ H Q=(M σ H fun x Y=>tb σ Y fun y U=>r x y U fun z J=>∃k,z=.bl k /\
 if k=true then B σ J fun w O=>G y w O Q else Q (.bl false) J):=by first|rfl|(unfold tChain;rfl)
end
section
variable {X:Cx}{st:Stmt}{rest:List Stmt}{t u:TS}
def tMid (t u:TS):TS:=fun D G H=>∃mid:St->Hp->Prop,t { D with nx:=mid } G H/\∀z B,mid z B->u D z B
theorem pss_mid (U:PS X st t)(J:PSs X rest u):PSs X (st::rest) (tMid t u):=by
 intro pins s O H D I h;obtain⟨mid,q,k⟩:=h;refine wpAny_execs_cons (thn (U pins s O H { D with nx:=mid } I q) fun f G q=>?_);cases f with
 |next =>
  obtain⟨z,B,M,q⟩:=q;exact J pins G z B D M (k _ _ q)
 |ret v=>exact q
 |brk=>exact q
 |cont=>exact q
end
structure Cal (P:Program) (w:World) (K:zA) (mg:Str->Option Value) (base:Heap) (k:Nat) (x:Str) (ps:List Str) (sp:Sp):Prop where
 ex:∃(f:Addr) (fd:FuncData),FnOk P w K mg base CX0 k f fd ps sp/\mg x=some (.ref f)/\x5 K (.ref f)=true/\Binds K fd ps []
theorem Cal.mono {P:Program}{w:World}{K:zA}{z:Str->Option Value}{base:Heap}{j k:Nat}{x:Str}{B:List Str}{sp:Sp}(C:Cal P w K z base j x B sp)(h:j<=k):Cal P w K z base k x B sp:=by
 obtain⟨f,G,a,b,c,d⟩:=C.ex;exact⟨f,G,a.mono h,b,c,d⟩
section
variable {X:Cx}{k:Nat}{x:Str}{ps:List Str}{sp:Sp}{e:Expr}{es:List Expr}{t:TA}{p pos:Pos}
theorem pe_cal (C:Cal X.prog X.w X.K X.mg X.base k x ps sp) (J:Room k X.A) (B:Gl X x) (M:PA X (e::es) t) (H:(x==("__debug__" : Str))=false:=by decide)
  (G:starEach (e::es) X.env=(false,eval e X.env)::starEach es X.env:=by rfl) (z:(backTo pos (starEach es X.env)).any (·.1)=false:=by rfl):PE X (.Call (.Name x p) (e::es) [] pos) (tCall sp [] E0 t):=by
 obtain⟨f,O,a,b,c,d⟩:=C.ex;exact pe_call a J B b c d .nil pass0 M H G z
end
theorem bits_le {i:Int}{n:Nat}(h:i.natAbs<2^n):Builtin.Int.intBits i<=n:=by
 unfold Builtin.Int.intBits;split
 ·exact zS _
 ·rename_i B
  have G:i.natAbs≠0:=by
   intro z;exact B (by simpa using z)
  have:i.natAbs.log2<n:=(Nat.log2_lt G).mpr h;omega
def CShl (i j:Int):Prop:=0<=j/\j<=1000000/\Builtin.Int.intBits i<=1000000
def CDivB (i j:Int):Prop:=0<j/\j.natAbs.log2<9000
section
variable {X:Cx}
theorem op_shlB:OpR X (binaryOp .LShift) (rI CShl fun i j=>.int (i*2^j.toNat)):=opI fun i j _ _ _ _ _ z q=>lshift_int z.1 (by have G:=z.2.1;have B:=z.2.2;omega) q
theorem jA:OpR X (binaryOp .Mult) (rI IntMulOk fun i j=>.int (i*j)):=opI fun _ _ _ _ _ _ _ z q=>mul_int q z
theorem jO:OpR X (binaryOp .FloorDiv) (rI CDivB fun i j=>.int (i/j)):=opI fun i j _ _ _ _ _ z q=>by
 have e:i/j=i.fdiv j:=(Int.fdiv_eq_ediv_of_nonneg i (xf z.1)).symm
 rw[e]at q
 exact floordiv_int (by have:=z.1;omega) q (.inl (PyProof.noPylong_of_log2 z.2))
def rIsI (K:zA):List V->Hp->VK->Prop:=fun z H Q=>∃x T t b,z=[x,.ty T]/\TyOf K H x t/\zg K t (.type T)=some b/\Q (.bl b) H
theorem call_isI:CallR X (.builtin "isinstance") (rIsI X.K):=by
 intro pins s U H M O Q I r h;obtain⟨x,T,t,b,rfl,ty,e,q⟩:=h;obtain⟨J,G,rfl,z,B⟩:=Vals.two r;cases B
 exact isinst_ok I z ty e fun tk=>⟨.bl b,H,I.tok _,rfl,q⟩
end
theorem mul_l {i j:Int}(B:-(2^64)<i)(z:i<2^64):IntMulOk i j:=.of_left (intBits_le_64 B z)
theorem mul_r {i j:Int}(B:-(2^64)<j)(z:j<2^64):IntMulOk i j:=.of_right (intBits_le_64 B z)
theorem kit_same {K:zA}(T:String):zg K (.type T) (.type T)=some true:=by unfold zg;rw[if_pos (by simp)]
theorem kit_int_bool {K:zA}:zg K (.type "int") (.type "bool")=some false:=by first|rfl|decide +kernel|(unfold zg PySem.W.kitCls;decide +kernel)
theorem kit_bool_int {K:zA}:zg K (.type "bool") (.type "int")=some true:=by first|rfl|decide +kernel
theorem kit_non_int {K:zA}:zg K (.type "NoneType") (.type "int")=some false:=by first|rfl|decide +kernel
theorem kit_str_int {K:zA}:zg K (.type "str") (.type "int")=some false:=by first|rfl|decide +kernel
theorem kit_tuple_int {K:zA}:zg K (.type "tuple") (.type "int")=some false:=by first|rfl|decide +kernel
theorem bo_len:bootBuiltins "len" = some (.builtin "len"):=by decide +kernel
theorem bo_abs:bootBuiltins "abs" = some (.builtin "abs"):=by decide +kernel
theorem bo_sum:bootBuiltins "sum" = some (.builtin "sum"):=by decide +kernel
theorem bo_all:bootBuiltins "all" = some (.builtin "all"):=by decide +kernel
theorem bo_any:bootBuiltins "any" = some (.builtin "any"):=by decide +kernel
theorem bo_sorted:bootBuiltins "sorted" = some (.builtin "sorted"):=by decide +kernel
theorem bo_isinstance:bootBuiltins "isinstance" = some (.builtin "isinstance"):=by decide +kernel
theorem bo_int:bootBuiltins "int" = some (.type "int"):=by decide +kernel
theorem bo_bool:bootBuiltins "bool" = some (.type "bool"):=by decide +kernel
theorem bo_list:bootBuiltins "list" = some (.type "list"):=by decide +kernel
theorem xx:bootBuiltins "tuple" = some (.type "tuple"):=by decide +kernel
theorem bo_str:bootBuiltins "str" = some (.type "str"):=by decide +kernel
theorem bo_set:bootBuiltins "set" = some (.type "set"):=by decide +kernel
theorem bo_zip:bootBuiltins "zip" = some (.type "zip"):=by decide +kernel
def CPowB (i j:Int):Prop:=0<=j/\j<=1000000 /\ -(2^64)<i/\i<2^64
section
variable {X:Cx}
theorem op_powB:OpR X (binaryOp .Pow) (rI CPowB fun i j=>.int (i^j.toNat)):=opI fun i j _ _ _ _ _ z q=>pow_int_small z.1 z.2.1 (by have G:=z.2.2.1;have B:=z.2.2.2;omega) q
end
theorem w_shl1 {j:Int}:CShl 1 j=(0<=j/\j<=1000000):=propext ⟨fun h=>⟨h.1,h.2.1⟩,fun h=>⟨h.1,h.2,zL (bits_le (n:=1) (by decide)) (by decide)⟩⟩
theorem divB {i j:Int}(h:0<j)(B:j<2^64):CDivB i j:=⟨h,by
 have e:j.natAbs<2^64:=by omega
 have z:j.natAbs≠0:=by omega
 have:=(Nat.log2_lt z).mpr e
 omega⟩
section
variable {P:Program}{w:World}{K:zA}{mg:Str->Option Value}{base:Heap}
theorem yc {x qual:Str}{st:Stmt}{N G:List Str}{k:Nat}{sp:Sp}(T:∃(f:Addr) (J:FuncData),Fun K x qual st f J/\mg x=some (.ref f)/\Binds K J G [])(S:FnScope N G (zT st))(len:∀vs H Q E,sp vs H Q E->vs.length=G.length)
  (B:∀(f:Addr) (z:Value) (A:Around) (outer:List Env) (s:Shared) (H:Hp) (vs:List V) (Q:VK) (E:XK),Room k (A.deeper (envOfC qual (zT st) s.heap.objs.size f z))->sp vs H Q E ->
   ∃t,PSs (cxOf CX0 P w K mg base N qual (zT st) f z A outer s H E).nox (xq st) t/\t { nx:=fun _ M=>Q .non M,rt:=Q } (jj N vs) H):Cal P w K mg base (k+1) x G sp:=by
 obtain⟨f,J,F,m,b⟩:=T;exact⟨f,J,F.ok S len fun z A outer s H vs Q E O h=>B f z A outer s H vs Q E O h,m,F.kp,b⟩
end
def Chg (p:Addr)(H H':Hp):Prop:=∀b o,b≠p->H b=some o->H' b=some o
theorem Chg.refl {p:Addr}{H:Hp}:Chg p H H:=fun _ _ _ h=>h
theorem Chg.trans {p:Addr}{H B z:Hp}(a:Chg p H B)(b:Chg p B z):Chg p H z:=fun c o n h=>b c o n (a c o n h)
theorem Same.chg {p:Addr}{H H':Hp}(h:Same H H'):Chg p H H':=fun b o _ q=>h b o q
theorem Chg.upd {p:Addr}{H:Hp}(o:HO):Chg p H (upd H p o):=fun b u n q=>by rw[yL n];exact q
theorem zU {H:Hp}{p:Addr}(h:H p=none)(o:HO):Same H (upd H p o):=fun b u q=>by rw[yL (ne_of_none q h)];exact q
def Scr (K:zA)(H:Hp)(a:Addr)(ns:List Int):Prop :=
 (∃o,H a=some (.frz o (.lst (ns.map V.int))))\/(∃(o:Obj) (z:Array Value) (n:Nat),K.lookup a=some o/\o.cls=.type "list" /\ o.dict=none/\o.data=.seq z n/\z.size<=sizeLine/\Vals (ns.map V.int) z.toList)
section
variable {K:zA}{H H':Hp}{a p:Addr}{ns:List Int}
theorem Scr.sq (h:Scr K H a ns):SqL K H a (ns.map V.int):=by
 rcases h with h|h
 ·exact .inl (.inr h)
 ·exact .inr h
theorem scr_of (B:Only H)(G:SqL K H a (ns.map V.int)):Scr K H a ns:=by
 rcases G with(h|h)|h
 ·rcases B a with z|⟨o,J,z⟩
  ·rw[z]at h;cases h
  ·rw[z]at h;cases h
 ·exact .inl h
 ·exact .inr h
theorem Scr.same (h:Scr K H a ns)(s:Same H H'):Scr K H' a ns:=by
 rcases h with⟨o,h⟩|h
 ·exact .inl ⟨o,s _ _ h⟩
 ·exact .inr h
theorem Scr.chg {xs:List V}(h:Scr K H a ns)(B:H p=some (.lst xs))(s:Chg p H H'):Scr K H' a ns:=by
 rcases h with⟨o,h⟩|h
 ·exact .inl ⟨o,s _ _ (JE h B (by intro z;cases z)) h⟩
 ·exact .inr h
end
def spLaw (K:zA):Sp:=fun B H Q _=>∃(a:Addr) (z:List Int),B=[.ref a]/\Scr K H a z/\z.length<=63/\∀G,Q (.bl true) G
theorem atI_int {ns:List Int}{i:Int}(G:0<=i)(B:i<(ns.length:Int)):∃v:Int,atI (ns.map V.int) i=some (.int v)/\ns[i.toNat]? = some v:=by
 have z:i.toNat<ns.length:=by omega
 have e:i=((i.toNat:Nat):Int):=by omega
 have q:atI (ns.map V.int) ((i.toNat:Nat):Int)=some (.int ns[i.toNat]):=yM (by rw[qI,qA z]<;>rfl);rw[<-e]at q;exact⟨ns[i.toNat],q,qA z⟩
def lim:Nat->Int
 |0=>11
 |n+1=>1000000*(lim n-1)
def rIxM:R2:=fun x y H Q=>∃p z i v,x=.ref p/\y=.int i/\H p=some (.lst z)/\atI z i=some v/\Q v H
def rIxU:R2:=fun x y H Q=>∃p z i v,x=.ref p/\y=.int i/\H p=some (.tup z)/\atI z i=some v/\Q v H
section
variable {X:Cx}
theorem IxR.mono {r z:R2}(h:IxR X r)(m:∀x y H Q,z x y H Q->r x y H Q):IxR X z:=fun G sl pins s M H x y v u Q I J O q B=>h G sl pins s M H x y v u Q I J O (m _ _ _ _ q) B
theorem ix_M:IxR X rIxM:=ix_list.mono fun x y H Q ⟨p,B,i,v,G,z,h,a,q⟩=>⟨p,B,i,v,G,z,SqL.of h,a,q⟩
theorem ix_U:IxR X rIxU:=ix_tup.mono fun x y H Q ⟨p,B,i,v,G,z,h,a,q⟩=>⟨p,B,i,v,G,z,SqT.of h,a,q⟩
theorem CallR.mono {f:Value}{r B:List V->Hp->VK->Prop}(h:CallR X f r)(m:∀z H Q,B z H Q->r z H Q):CallR X f B:=fun pins s M H z J Q I G q=>h pins s M H z J Q I G (m _ _ _ q)
theorem call_lenM:CallR X (.builtin "len") (fun B H Q=>∃p z,B=[.ref p]/\H p=some (.lst z)/\Q (.int z.length) H):=call_len_seq.mono fun B H Q ⟨p,z,e,h,q⟩=>⟨p,z,e,.inl (SqL.of h),q⟩
theorem call_lenU:CallR X (.builtin "len") (fun B H Q=>∃p z,B=[.ref p]/\H p=some (.tup z)/\Q (.int z.length) H):=call_len_seq.mono fun B H Q ⟨p,z,e,h,q⟩=>⟨p,z,e,.inr (SqT.of h),q⟩
theorem J6:CallR X (.builtin "len") (fun B H Q=>∃p z,B=[.ref p]/\SqL X.K H p z/\Q (.int z.length) H):=call_len_seq.mono fun B H Q ⟨p,z,e,h,q⟩=>⟨p,z,e,.inl h,q⟩
end
section
variable {H:Hp}{Q:VK}
theorem Jc {p:Addr}{i:Int}:rIxM (.ref p) (.int i) H Q=∃z,H p=some (.lst z)/\∃v,atI z i=some v/\Q v H :=
 propext ⟨fun⟨J,z,M,v,G,B,h,a,q⟩=>by cases G;cases B;exact⟨z,h,v,a,q⟩,fun⟨z,h,v,a,q⟩=>⟨p,z,i,v,rfl,rfl,h,a,q⟩⟩
theorem w_ixU {p:Addr}{i:Int}:rIxU (.ref p) (.int i) H Q=∃z,H p=some (.tup z)/\∃v,atI z i=some v/\Q v H :=
 propext ⟨fun⟨J,z,M,v,G,B,h,a,q⟩=>by cases G;cases B;exact⟨z,h,v,a,q⟩,fun⟨z,h,v,a,q⟩=>⟨p,z,i,v,rfl,rfl,h,a,q⟩⟩
theorem w_ixL {K:zA}{p:Addr}{i:Int}:rIxL K (.ref p) (.int i) H Q=∃z,SqL K H p z/\∃v,atI z i=some v/\Q v H :=
 propext ⟨fun⟨J,z,M,v,G,B,h,a,q⟩=>by cases G;cases B;exact⟨z,h,v,a,q⟩,fun⟨z,h,v,a,q⟩=>⟨p,z,i,v,rfl,rfl,h,a,q⟩⟩
theorem w_setL {p:Addr}{k:Int}{v:V}{R:Hp->Prop}:rSetL (.ref p) (.int k) v H R=∃z,H p=some (.lst z)/\∃j,ixN z.length k=some j/\R (upd H p (.lst (z.set j v))) :=
 propext ⟨fun⟨J,z,M,j,G,B,h,a,q⟩=>by cases G;cases B;exact⟨z,h,j,a,q⟩,fun⟨z,h,j,a,q⟩=>⟨p,z,k,j,rfl,rfl,h,a,q⟩⟩
end
theorem at_0 {z:Type}{a:z}{l:List z}:atI (a::l) 0=some a:=yM (j:=0) rfl
theorem at_1 {z:Type}{a b:z}{l:List z}:atI (a::b::l) 1=some b:=yM (j:=1) rfl
theorem at_2 {z:Type}{a b c:z}{l:List z}:atI (a::b::c::l) 2=some c:=yM (j:=2) rfl
theorem at_3 {z:Type}{a b c d:z}{l:List z}:atI (a::b::c::d::l) 3=some d:=yM (j:=3) rfl
theorem ixN_0 {n:Nat}:ixN (n+1) 0=some 0:=by unfold ixN;rw[if_pos (xY 0),if_pos (by omega)];rfl
theorem ixN_1 {n:Nat}:ixN (n+1+1) 1=some 1:=by unfold ixN;rw[if_pos (by decide),if_pos (by omega)];rfl
theorem ixN_2 {n:Nat}:ixN (n+1+1+1) 2=some 2:=by unfold ixN;rw[if_pos (by decide),if_pos (by omega)];rfl
section
variable {CX:CXT}{P:Program}{w:World}{K:zA}{mg:Str->Option Value}{base:Heap}{N:List Str}{qual:Str}{scope:Scope}{f:Addr}{cd:Value}{A:Around}{outer:List Env}{s:Shared}{H:Hp}{E:XK}
theorem w_cxK:(cxOf CX P w K mg base N qual scope f cd A outer s H E).K=K:=rfl
end
theorem zZ {n:Nat}(h:n<=1000):n<=sizeLine:=Nat.le_of_lt (small1000 h)
theorem sl_1:(0+1<=sizeLine)=True:=eq_true (zZ (by decide))
theorem sl_2:(0+1+1<=sizeLine)=True:=eq_true (zZ (by decide))
theorem sl_3:(0+1+1+1<=sizeLine)=True:=eq_true (zZ (by decide))
theorem sl_4:(0+1+1+1+1<=sizeLine)=True:=eq_true (zZ (by decide))
theorem sl_5:(0+1+1+1+1+1<=sizeLine)=True:=eq_true (zZ (by decide))
theorem sl_6:(0+1+1+1+1+1+1<=sizeLine)=True:=eq_true (zZ (by decide))
theorem sl_7:(0+1+1+1+1+1+1+1<=sizeLine)=True:=eq_true (zZ (by decide))
theorem sl_8:(0+1+1+1+1+1+1+1+1<=sizeLine)=True:=eq_true (zZ (by decide))
theorem sl_0:(0<=sizeLine)=True:=eq_true (zZ (by decide))
theorem divq {g m:Int}(z:0<=g)(B:0<m):0<=g/m:=Int.ediv_nonneg z (xf B)
theorem modq {g m:Int}(z:0<m):0<=g%m/\g%m<m:=⟨Int.emod_nonneg _ (by omega),Int.emod_lt_of_pos _ z⟩
def ForR (lo:Int)(n:Nat)(g:TG)(tb:TS)(D:Ends)(G:St)(H:Hp):Prop:=∃W:Nat->Nat->St->Hp->Prop,(∃m,W 0 m G H)/\∀i m G H,W i m G H ->
 ((Itr lo n).stop i H/\D.nx G H)\/((Itr lo n).go i H/\∃N:St->Hp->Prop,(∀B z,N B z->∃M,M<m/\W (i+1) M B z)/\∀x z,(Itr lo n).yld i H x z->g x G z fun J O=>tb { D with nx:=N,ct:=N,bk:=D.nx } J O)
def ForL (K:zA)(a:Addr)(g:TG)(tb:TS)(D:Ends)(G:St)(H:Hp):Prop:=∃W:Nat->Nat->St->Hp->Prop,(∃m,W 0 m G H)/\∀i m G H,W i m G H ->
 ((Itl K a).stop i H/\D.nx G H)\/((Itl K a).go i H/\∃N:St->Hp->Prop,(∀B z,N B z->∃M,M<m/\W (i+1) M B z)/\∀x z,(Itl K a).yld i H x z->g x G z fun J O=>tb { D with nx:=N,ct:=N,bk:=D.nx } J O)
def ForT (K:zA)(a:Addr)(g:TG)(tb:TS)(D:Ends)(G:St)(H:Hp):Prop:=∃W:Nat->Nat->St->Hp->Prop,(∃m,W 0 m G H)/\∀i m G H,W i m G H ->
 ((Itt K a).stop i H/\D.nx G H)\/((Itt K a).go i H/\∃N:St->Hp->Prop,(∀B z,N B z->∃M,M<m/\W (i+1) M B z)/\∀x z,(Itt K a).yld i H x z->g x G z fun J O=>tb { D with nx:=N,ct:=N,bk:=D.nx } J O)
section
variable {σ:St}{H:Hp}{D:Ends}{g:TG}{tb:TS}{K:zA}{a:Addr}
theorem w_for1 {z:TA}:tFor (iRng1 z) g tb D σ H=(z σ H fun B G=>∃j:Int,B=[.int j] /\ -(2^62)<=j/\j<2^62/\ForR 0 j.toNat g tb D σ G):=rfl
theorem w_forL {tl:TE}:tFor (iList K tl) g tb D σ H=(tl σ H fun x z=>∃a,x=.ref a/\(∃B,SqL K z a B)/\ForL K a g tb D σ z):=rfl
theorem w_forT {tl:TE}:tFor (iTup K tl) g tb D σ H=(tl σ H fun x z=>∃a,x=.ref a/\(∃B,SqT K z a B)/\ForT K a g tb D σ z):=rfl
theorem forR {lo:Int}{n:Nat}(B:Nat->St->Hp->Prop)(O:B 0 σ H)
  (M:∀i σ H (N:St->Hp->Prop),i<n->B i σ H->(∀z J,B (i+1) z J->N z J)->g (.int (lo+i)) σ H fun G Y=>tb { D with nx:=N,ct:=N,bk:=D.nx } G Y) (U:∀σ H,B n σ H->D.nx σ H):ForR lo n g tb D σ H :=
 for_range B O (fun i σ H h p=>M i σ H _ h p fun _ _ q=>q) U
theorem forL {xs:List V}(z:Nat->St->Hp->Prop)(U:z 0 σ H)(O:∀i σ H,i<=xs.length->z i σ H->SqL K H a xs)
  (M:∀i x σ H (N:St->Hp->Prop),xs[i]? = some x->z i σ H->(∀B J,z (i+1) B J->N B J)->g x σ H fun G H2=>tb { D with nx:=N,ct:=N,bk:=D.nx } G H2) (Y:∀σ H,z xs.length σ H->D.nx σ H):ForL K a g tb D σ H:=for_list z U O (fun i x σ H h p=>M i x σ H _ h p fun _ _ q=>q) Y
theorem forT {xs:List V}(z:Nat->St->Hp->Prop)(U:z 0 σ H)(O:∀i σ H,i<=xs.length->z i σ H->SqT K H a xs)
  (M:∀i x σ H (N:St->Hp->Prop),xs[i]? = some x->z i σ H->(∀B J,z (i+1) B J->N B J)->g x σ H fun G H2=>tb { D with nx:=N,ct:=N,bk:=D.nx } G H2) (Y:∀σ H,z xs.length σ H->D.nx σ H):ForT K a g tb D σ H:=for_tup z U O (fun i x σ H h p=>M i x σ H _ h p fun _ _ q=>q) Y
end
theorem shl_ok {n s:Int}{k:Nat}(B:0<=s)(z:s<=1000000)(h:n.natAbs<2^k)(G:k<=1000000):CShl n s:=⟨B,z,zL (bits_le h) G⟩
theorem jP {t u:TS}{D:Ends}{z:St}{H:Hp}(M:St->Hp->Prop)(G:∀N:St->Hp->Prop,(∀z H,M z H->N z H)->t { D with nx:=N } z H)(B:∀z H,M z H->u D z H):tMid t u D z H:=⟨M,G M fun _ _ q=>q,B⟩
section
variable {K:zA}{H:Hp}{Q:VK}
theorem ja {x:V}{T:String}{t:Value}{b:Bool}(ty:TyOf K H x t)(u:∀B,TyOf K H x B->B=t)(k:zg K t (.type T)=some b):rIsI K [x,.ty T] H Q=Q (.bl b) H :=
 propext ⟨fun⟨J,M,B,O,e,z,G,q⟩=>by
  cases e
  rw[u _ z,k]at G
  cases G
  exact q,fun q=>⟨x,T,t,b,rfl,ty,k,q⟩⟩
theorem kit_non_bool:zg K (.type "NoneType") (.type "bool")=some false:=by first|rfl|decide +kernel
theorem kit_str_bool:zg K (.type "str") (.type "bool")=some false:=by first|rfl|decide +kernel
theorem w_isI_ii {i:Int}:rIsI K [.int i,.ty "int"] H Q=Q (.bl true) H:=ja (.int i) (fun _ h=>by cases h;rfl) (kit_same _)
theorem w_isI_ib {i:Int}:rIsI K [.int i,.ty "bool"] H Q=Q (.bl false) H:=ja (.int i) (fun _ h=>by cases h;rfl) kit_int_bool
theorem w_isI_bi {i:Bool}:rIsI K [.bl i,.ty "int"] H Q=Q (.bl true) H:=ja (.bl i) (fun _ h=>by cases h;rfl) kit_bool_int
theorem w_isI_bb {i:Bool}:rIsI K [.bl i,.ty "bool"] H Q=Q (.bl true) H:=ja (.bl i) (fun _ h=>by cases h;rfl) (kit_same _)
theorem w_isI_ni:rIsI K [.non,.ty "int"] H Q=Q (.bl false) H:=ja .non (fun _ h=>by cases h;rfl) kit_non_int
theorem w_isI_nb:rIsI K [.non,.ty "bool"] H Q=Q (.bl false) H:=ja .non (fun _ h=>by cases h;rfl) kit_non_bool
theorem w_isI_si {x:Str}:rIsI K [.str x,.ty "int"] H Q=Q (.bl false) H:=ja (.str x) (fun _ h=>by cases h;rfl) kit_str_int
theorem w_isI_sb {x:Str}:rIsI K [.str x,.ty "bool"] H Q=Q (.bl false) H:=ja (.str x) (fun _ h=>by cases h;rfl) kit_str_bool
end
theorem jQ (k:Nat):(0:Int)<2^k:=Int.pow_pos (by decide)
def xH (scope:Scope)(env:Env):List (Str×Addr):=(scope.names.filterMap fun x=>if x.2==.free then (env.cells.lookup x.1).map fun c=>(x.1,c) else none).reverse
theorem closureFor_ok {scope:Scope}{env:Env}(h:∀x∈scope.names,x.2=.free->∃c,env.cells.lookup x.1=some c):closureFor scope env=pure (xH scope env):=by
 unfold closureFor xH;have all:∀(l:List (Str×NameKind)) (acc:List (Str×Addr)),(∀x∈l,x.2=.free->∃c,env.cells.lookup x.1=some c) ->
   (forIn l acc fun x r=>(match x with|(name,kind)=>if (kind==.free)=true then do let a ← cellOf env name;pure (ForInStep.yield ((name,a)::r)) else pure (ForInStep.yield r):Sem (ForInStep (List (Str×Addr))))) =
    pure ((l.filterMap fun x=>if x.2==.free then (env.cells.lookup x.1).map fun c=>(x.1,c) else none).reverse++acc):=by
  intro l;induction l with
  |nil=>intro acc _;simp
  |cons x r ih =>
   intro acc B;obtain⟨n,k⟩:=x;have H:∀y∈r,y.2=.free->∃c,env.cells.lookup y.1=some c:=fun y O=>B y (zF _ O);by_cases z:k=.free
   ·subst z;obtain⟨c,G⟩:=B (n,.free) zM rfl;have M:cellOf env n=pure c:=by unfold cellOf;rw[show env.cells.lookup n=some c from G]
    simp only[List.forIn_cons,beq_self_eq_true,if_true,M,pure_bind,zY];rw[ih _ H];simp[show env.cells.lookup n=some c from G]
   ·have J:(k==NameKind.free)=false:=by simpa using z
    simp only[List.forIn_cons,J,zv,if_false,pure_bind,zY];rw[ih _ H]
 have:=all scope.names [] h;rw[zu]at this;simp only[bind_pure]
 first|exact this|(rw[this])|(simpa using this)
theorem mem_clos {scope:Scope}{env:Env}{x:Str}{c:Addr}(h:(xH scope env).lookup x=some c):env.cells.lookup x=some c:=by
 have m:=PySem.mem_of_lookup h;unfold xH at m;rw[yl,jf]at m;obtain⟨y,z,e⟩:=m;split at e
 ·cases q:env.cells.lookup y.1 with
  |none=>rw[q]at e;cases e
  |some d =>
   rw[q]at e;simp only[Option.map_some,Option.some.injEq,Prod.mk.injEq]at e;rw[<-e.1,q,e.2]
 ·cases e
theorem Jh {z:Type}:∀{l:List (Str×z)} {x:Str} {c:z},(x,c)∈l->∃d,l.lookup x=some d
 |(k,v)::r,x,c,h=>by
  rw[jK]
  cases B:x==k with
  |true=>exact⟨v,rfl⟩
  |false =>
   rcases zD.mp h with e|e
   ·injection e with e1 e2
    subst e1
    simp at B
   ·exact Jh e
theorem clos_has {scope:Scope}{env:Env}{x:Str}{c:Addr}(h:(x,NameKind.free)∈scope.names)(B:env.cells.lookup x=some c):(xH scope env).lookup x=some c:=by
 have m:(x,c)∈xH scope env:=by
  unfold xH;rw[yl,jf];exact⟨(x,.free),h,by simp[B]⟩
 obtain⟨d,z⟩:=Jh m;have:=mem_clos z;rw[B]at this;rw[z,<-this]
theorem xU {env:Env}:∀{names:List (Str×NameKind)} {x:Str} {k:NameKind},
  (names.map fun(n,k)=>if (k==NameKind.free&&env.scope.kind==.function&&env.kindOf n==some .cell) then (n,NameKind.cell) else (n,k)).lookup x=some k ->
  ∃G,names.lookup x=some G/\(G=k\/(G=.free/\k=.cell))
 |[],_,_,h=>by simp at h
 |(n,k)::r,x,H,h=>by
  simp only[zQ]at h
  by_cases B:(k==NameKind.free&&env.scope.kind==.function&&env.kindOf n==some .cell)=true
  ·rw[if_pos B,jK]at h
   rw[jK]
   cases z:x==n with
   |true =>
    rw[z]at h
    simp only[Option.some.injEq]at h
    refine⟨k,rfl,.inr ⟨?_,h.symm⟩⟩
    simp only[zX,beq_iff_eq]at B
    exact B.1.1
   |false =>
    rw[z]at h
    exact xU h
  ·rw[if_neg B,jK]at h
   rw[jK]
   cases z:x==n with
   |true =>
    rw[z]at h
    simp only[Option.some.injEq]at h
    exact⟨k,rfl,.inl h⟩
   |false =>
    rw[z]at h
    exact xU h
theorem JK {prog:Program}{w:World}{A:Around}{R:Result->Shared->Prop}{s:Shared}{elt target iter:Expr}{ifs:List Expr}{scope:Scope}{pos:Pos}{it acc:Value}{env:Env}(I:Nat->Shared->Prop)
  (turn:∀n s,I n s->wpAny (model prog w) A (pyNext it) (fun r B=>match r with
   |none=>R (.ok .next) B
   |some v=>wpAny (model prog w) A (letOwnedTupleGo target it v) (fun _ G=>wpAny (model prog w) A (assign target env v) (fun _ O =>
     wpAny (model prog w) A (forIn ifs true fun c r=>if r=true then do let ok ← isTrue c env (eval c env);pure (ForInStep.yield ok) else pure (ForInStep.yield r)) (fun ok H =>
      if ok=true then wpAny (model prog w) A (eval elt env) (fun x J =>
       wpAny (model prog w) A (call (.builtin "list.append") [acc,x]) (fun _ Y=>∃m,m<n/\I m Y) (fun _ _=>False) J) (fun _ _=>False) H
      else ∃m,m<n/\I m H) (fun _ _=>False) O) (fun _ _=>False) G) (fun _ _=>False) B) (fun _ _=>False) s)
  (n:Nat) (h:I n s) :
  codeAny (model prog w) A (.compLoop (.ListComp elt [⟨target,iter,ifs,0⟩] scope pos) 0 it acc env) R s:=by
 refine codeAny_loop rfl I (fun n s hI=>?_) n h;show wpAny _ A ((compTurn (.ListComp elt [⟨target,iter,ifs,0⟩] scope pos) 0 it acc env).onRaise (fun x=>do noteFrame x env;theTreesLotGoes x)) _ _ s
 refine wpAny_noted ?_;rw[compTurn_list];refine wpAny_bind (wpAny_standAt (wpAny_bind (wpAny_mono (turn n s hI) (fun r B U=>?_) fun _ _ z=>z.elim)));cases r with
 |none=>exact wpAny_pure U
 |some v =>
  refine wpAny_bind (wpAny_mono U (fun _ G aa=>?_) fun _ _ z=>z.elim);refine wpAny_bind (wpAny_mono aa (fun _ O ae=>wpAny_bind (wpAny_mono ae (fun ok H M=>?_) fun _ _ z=>z.elim)) fun _ _ z=>z.elim);cases ok with
  |false=>exact wpAny_pure ⟨rfl,M⟩
  |true =>
   exact wpAny_bind (wpAny_bind (wpAny_mono M (fun x J ac=>wpAny_bind (wpAny_mono ac (fun _ Y ad=>wpAny_pure (wpAny_pure ⟨rfl,ad⟩)) fun _ _ z=>z.elim)) fun _ _ z=>z.elim))
def PN (X:Cx)(ifs:List Expr)(t:TT):Prop :=
 ∀(pins:List (Addr×Obj)) (s:Shared) (z:St) (H:Hp) (Q:Bool->Hp->Prop),Inv X pins z H s->t z H Q ->
  wpAny (model X.prog X.w) X.A (forIn ifs true fun c r=>if r=true then do let ok ← isTrue c X.env (eval c X.env);pure (ForInStep.yield ok) else pure (ForInStep.yield r)) (TP X pins z Q) X.xe s
def tYes:TT:=fun _ H Q=>Q true H
section
variable {X:Cx}
theorem xB:PN X [] tYes:=fun _ _ z H Q I h=>wpAny_pure ⟨H,I,h⟩
theorem xk {c:Expr}{t:TT}(h:PT X c t):PN X [c] t:=by
 intro pins s z H Q I q;refine PySem.wpAny_tests_one (h pins s z H Q I q)
end
structure CompBody (X:Cx) (tg:Expr) (ifs:List Expr) (elt:Expr) (g:TG) (tt:TT) (te:TE):Prop where
 tg:PG X tg g
 tt:PN X ifs tt
 te:PE X elt te
def capB (B:List Nat)(ns G:List Str)(H z:Scope):Bool:=(B.zip ns).all fun p=>(G[p.1]? == some p.2)&&(H.names.lookup p.2==some .free)&&(z.names.lookup p.2 != some .local)
def capSt (B:Nat)(z:List Nat)(G:St):St:=qQ B none++z.map fun c=>(G[c]?).join
def JL (wi:TI)(nt:Nat)(cs:List Nat)(g:TG)(tt:TT)(te:TE):TE:=fun σ H Q=>wi σ H fun J H1=>∀acc,H1 acc=none ->
 ∃W:Nat->Nat->List V->St->Hp->Prop,(∃m,W 0 m [] (capSt nt cs σ) (upd H1 acc (.lst [])))/\∀i m B O G,W i m B O G->G acc=some (.lst B) /\
  ((J.stop i G/\Q (.ref acc) G)\/(J.go i G/\B.length<sizeLine/\∃N:List V->St->Hp->Prop,(∀zs U M,N zs U M->∃m',m'<m/\W (i+1) m' zs U M) /\
   ∀x M,J.yld i G x M->g x O M fun z H3=>tt z H3 fun b H4=>if b=true then te z H4 fun y Y=>Y acc=some (.lst B)/\N (B++[y]) z (upd Y acc (.lst (B++[y]))) else N B z H4))
section
variable {X:Cx}
theorem un_same {fs ex:List Addr}{H H':Hp}{h M h':Heap}{C:Addr}(u:Un fs ex H H' h M)(B:Heap.SameBut C M h')(J:h.objs.size<=C):Un fs ex H H' h h' where
 keep:=fun b o e n G z=>(B.2 b (zG (qJ (Heap.lt_size e) J))).trans (u.keep b o e n G z)
 slot:=fun b o e n G z=>by
  obtain⟨sl,q⟩:=u.slot b o e n G z
  exact⟨sl,(B.2 b (zG (qJ (Heap.lt_size e) J))).trans q⟩
 free:=u.free
 there:=fun b o e z=>by
  obtain⟨O,q⟩:=u.there b o e z
  exact⟨O,(B.2 b (zG (qJ (Heap.lt_size e) J))).trans q⟩
 tups:=u.tups
 frzs:=u.frzs
 tbls:=u.tbls
theorem hok_same {P:Program}{w:World}{H:Hp}{h h':Heap}{C:Addr}(x:HOk P w H h)(G:Heap.SameBut C h h')(B:H C=none):HOk P w H h':=fun b u e =>
 (x b u e).stay (fun c v J q=>(G.2 c (fun z=>by
  subst z
  rcases J with z|z
  ·subst z;rw[B]at e;cases e
  ·rw[B]at z;cases z)).trans q) (fun _ q=>q) fun _ _ q=>q
end
inductive Dt where
 |f (x:V)
 |l (xs:List Dt)
 |t (xs:List Dt)
mutual
def Is (K:zA)(H:Hp)(x:V):Dt->Prop
 |.f y=>x=y/\xF y=true
 |.l B=>∃p z,x=.ref p/\SqL K H p z/\IsL K H z B
 |.t B=>∃p z,x=.ref p/\SqT K H p z/\IsL K H z B
def IsL (K:zA)(H:Hp)(xs:List V):List Dt->Prop
 |[]=>xs=[]
 |d::z=>∃x r,xs=x::r/\Is K H x d/\IsL K H r z
def deq:Dt->Dt->Bool
 |.f x,.f y=>eqV x y
 |.l B,.l z=>deqL B z
 |.t B,.t z=>deqL B z
 |_,_=>false
def deqL:List Dt->List Dt->Bool
 |[],[]=>true
 |x::z,y::B=>deq x y&&deqL z B
 |_,_=>false
def dep:Dt->Nat
 |.f _=>0
 |.l z=>depL z+1
 |.t z=>depL z+1
def depL:List Dt->Nat
 |[]=>0
 |d::z=>max (dep d) (depL z)
end
theorem IsL.len {K:zA}{H:Hp}:∀{ds:List Dt} {xs:List V},IsL K H xs ds->xs.length=ds.length
 |[],xs,h=>by rw[IsL]at h;subst h;rfl
 |d::ds,xs,h=>by
  rw[IsL]at h
  obtain⟨x,r,rfl,_,h⟩:=h
  rw[zI,zI,IsL.len h]
theorem IsL.get {K:zA}{H:Hp}:∀{ds:List Dt} {xs:List V} {j:Nat} {x:V},IsL K H xs ds->xs[j]? = some x->∃d,ds[j]? = some d/\Is K H x d
 |[],xs,j,x,h,e=>by rw[IsL]at h;subst h;simp at e
 |d::ds,xs,j,x,h,e=>by
  rw[IsL]at h
  obtain⟨y,r,rfl,z,h⟩:=h
  cases j with
  |zero=>simp at e;subst e;exact⟨d,rfl,z⟩
  |succ j=>exact IsL.get (j:=j) h (by simpa using e)
theorem depL_mem {ds:List Dt}:∀{d:Dt} {j:Nat},ds[j]? = some d->dep d<=depL ds:=by
 induction ds with
 |nil=>intro d j e;simp at e
 |cons a r ih =>
  intro d j e;rw[depL];cases j with
  |zero=>simp at e;subst e;omega
  |succ j=>have:=ih (d:=d) (j:=j) (by simpa using e);omega
mutual
theorem deq_refl:∀(d:Dt) {K:zA} {H:Hp} {x:V},Is K H x d->deq d d=true
 |.f y,K,H,x,h=>by
  rw[Is]at h
  rw[deq]
  have B:=h.2
  cases y<;>first|(simp[eqV];done)|(exact absurd B (by decide))|(cases B)
 |.l z,K,H,x,h=>by
  rw[Is]at h
  obtain⟨p,G,_,_,h⟩:=h
  rw[deq]
  exact J7 z h
 |.t z,K,H,x,h=>by
  rw[Is]at h
  obtain⟨p,G,_,_,h⟩:=h
  rw[deq]
  exact J7 z h
theorem J7:∀(ds:List Dt) {K:zA} {H:Hp} {xs:List V},IsL K H xs ds->deqL ds ds=true
 |[],_,_,_,_=>by rw[deqL]
 |d::ds,K,H,xs,h=>by
  rw[IsL]at h
  obtain⟨y,r,_,z,h⟩:=h
  rw[deqL,deq_refl d z,J7 ds h]
  rfl
end
theorem deqL_get:∀{ds es:List Dt},deqL ds es=(decide (ds.length=es.length)&&(zj ds.length).all fun j=>match ds[j]?,es[j]? with|some d,some e=>deq d e|_,_=>false)
 |[],[]=>by simp[deqL]
 |[],e::es=>by simp[deqL]
 |d::ds,[]=>by simp[deqL]
 |d::ds,e::es=>by
  rw[deqL,deqL_get]
  have r:zj (d::ds).length=0::(zj ds.length).map (· + 1):=by rw[zI,y3]
  rw[r,List.all_cons,List.all_map]
  simp only[yV,zI,Nat.add_right_cancel_iff]
  have c:((fun j=>match (d::ds)[j]?,(e::es)[j]? with|some d,some e=>deq d e|_,_=>false) ∘ fun x=>x+1)=(fun j=>match ds[j]?,es[j]? with|some d,some e=>deq d e|_,_=>false):=by
   funext j
   simp
  rw[c];cases deq d e<;>cases decide (ds.length=es.length)<;>rfl
section
variable {X:Cx}{pins:List (Addr×Obj)}{σ:St}{H:Hp}{s:Shared}
mutual
theorem Is.inj:∀(d:Dt) {e:Dt} {x:V},Inv X pins σ H s->Is X.K H x d->Is X.K H x e->(∀p O Y,SqL X.K H p O -> ¬ SqT X.K H p Y)->d=e
 |.f y,e,x,I,h,B,J=>by
  rw[Is]at h
  obtain⟨rfl,hy⟩:=h
  cases e with
  |f z=>rw[Is]at B;rw[B.1]
  |l U=>rw[Is]at B;obtain⟨p,O,e,_⟩:=B;subst e;cases hy
  |t U=>rw[Is]at B;obtain⟨p,O,e,_⟩:=B;subst e;cases hy
 |.l U,e,x,I,h,B,J=>by
  rw[Is]at h
  obtain⟨p,O,rfl,M,h⟩:=h
  cases e with
  |f z=>rw[Is]at B;obtain⟨e,hz⟩:=B;subst e;cases hz
  |l es =>
   rw[Is]at B
   obtain⟨q,Y,e,G,B⟩:=B
   cases e
   rw[I.list_inj G M]at B
   rw[IsL.inj U I h B J]
  |t es =>
   rw[Is]at B
   obtain⟨q,Y,e,G,B⟩:=B
   cases e
   exact absurd G (J _ _ _ M)
 |.t U,e,x,I,h,B,J=>by
  rw[Is]at h
  obtain⟨p,O,rfl,M,h⟩:=h
  cases e with
  |f z=>rw[Is]at B;obtain⟨e,hz⟩:=B;subst e;cases hz
  |l es =>
   rw[Is]at B
   obtain⟨q,Y,e,G,B⟩:=B
   cases e
   exact absurd M (J _ _ _ G)
  |t es =>
   rw[Is]at B
   obtain⟨q,Y,e,G,B⟩:=B
   cases e
   rw[I.tuple_inj G M]at B
   rw[IsL.inj U I h B J]
theorem IsL.inj:∀(ds:List Dt) {es:List Dt} {xs:List V},Inv X pins σ H s->IsL X.K H xs ds->IsL X.K H xs es->(∀p xs O,SqL X.K H p xs -> ¬ SqT X.K H p O)->ds=es
 |[],es,xs,I,h,z,B=>by
  rw[IsL]at h
  subst h
  cases es with
  |nil=>rfl
  |cons e es=>rw[IsL]at z;obtain⟨_,_,e,_⟩:=z;cases e
 |d::ds,es,xs,I,h,z,B=>by
  rw[IsL]at h
  obtain⟨y,r,rfl,M,h⟩:=h
  cases es with
  |nil=>rw[IsL]at z;cases z
  |cons e es =>
   rw[IsL]at z
   obtain⟨U,Y,J,G,z⟩:=z
   cases J
   rw[Is.inj d I M G B,IsL.inj ds I h z B]
end
theorem Inv.apart (I:Inv X pins σ H s):∀p B M,SqL X.K H p B -> ¬ SqT X.K H p M:=fun p B M h O=>by
 obtain⟨U,_,⟨o,n,e,c,_⟩,_⟩:=I.list h
 obtain⟨G,_,⟨Y,J,z,_⟩,_⟩:=I.tuple O
 rw[e]at J
 cases J
 rw[c]at z
 exact absurd z (by decide)
theorem eqAt_F {x:V}(e:Dt){A:Around}{y:V}{u v:Value}(J:A.units<cLine)(I:Inv X pins σ H s)(Y:xF x=true)(M:Is X.K H y e)(G:RelV x u)(ry:RelV y v):SeqAt.EqAt A s u v (deq (.f x) e):=by
 cases e with
 |f y' =>
  rw[Is]at M;obtain⟨rfl,fy⟩:=M;rw[deq];exact eqAt_V G ry Y fy
 |l ds =>
  rw[Is]at M;obtain⟨p,ys,rfl,U,_⟩:=M;cases ry
  obtain⟨O,_,pl,_⟩:=I.list U;have B:=pl.isList;rw[show deq (.f x) (.l ds)=false by rw[deq];all_goals (intros;simp_all)];cases x with
  |non=>cases G;exact SeqAt.EqAt.none_list B J
  |bl b=>cases G;exact SeqAt.EqAt.bool_list b B J
  |int i=>obtain⟨t,rfl⟩:=G;exact SeqAt.EqAt.int_list i t B J
  |str z=>obtain⟨t,rfl⟩:=G;exact SeqAt.EqAt.str_list z t B J
  |_=>cases Y
 |t ds =>
  rw[Is]at M;obtain⟨p,ys,rfl,U,_⟩:=M;cases ry
  obtain⟨O,_,pl,_⟩:=I.tuple U;have B:s.heap.IsTuple p O.toArray:=pl;rw[show deq (.f x) (.t ds)=false by rw[deq];all_goals (intros;simp_all)];cases x with
  |non=>cases G;exact SeqAt.EqAt.none_tuple B J
  |bl b=>cases G;exact SeqAt.EqAt.bool_tuple b B J
  |int i=>obtain⟨t,rfl⟩:=G;exact SeqAt.EqAt.int_tuple i t B J
  |str z=>obtain⟨t,rfl⟩:=G;exact SeqAt.EqAt.str_tuple z t B J
  |_=>cases Y
def deqAt (ds es:List Dt)(j:Nat):Bool:=match ds[j]?,es[j]? with|some d,some e=>deq d e|_,_=>false
theorem elems {n:Nat}{A:Around}(ih:∀(d e:Dt) {A:Around} {x y:V} {u v:Value},dep d<=n->A.units+n<cLine->Inv X pins σ H s->Is X.K H x d->Is X.K H y e->RelV x u->RelV y v->SeqAt.EqAt A s u v (deq d e))(hu:A.units+(n+1)<cLine)(I:Inv X pins σ H s)
  {ds es:List Dt} {xs B:List V} {z its':List Value} (hd:depL ds<=n) (hx:IsL X.K H xs ds) (hy:IsL X.K H B es) (O:Vals xs z) (ry:Vals B its') :
  ∀j (h1:j<z.toArray.size) (h2:j<its'.toArray.size),SeqAt.EqAt A.in1 s z.toArray[j] its'.toArray[j] (deqAt ds es j):=by
 intro j h1 h2;have l1:=O.length;have l2:=ry.length;have M:j<xs.length:=by simpa[l1] using h1
 have Y:j<B.length:=by simpa[l2] using h2
 obtain⟨d,U,q1⟩:=hx.get (qA M);obtain⟨e,e2,q2⟩:=hy.get (qA Y);obtain⟨u,J,ru⟩:=O.get (qA M);obtain⟨v,G,rv⟩:=ry.get (qA Y);have f1:z.toArray[j]=u:=by
  have:z[j]? = some z.toArray[j]:=by simp
  rw[J]at this;exact(Option.some.inj this).symm
 have f2:its'.toArray[j]=v:=by
  have:its'[j]? = some its'.toArray[j]:=by simp
  rw[G]at this;exact(Option.some.inj this).symm
 rw[f1,f2];unfold deqAt;rw[U,e2];exact ih d e (zL (depL_mem U) hd) (by rw[Around.in1_units];omega) I q1 q2 ru rv
theorem JV {ds es:List Dt}(h:ds.length=es.length):(zj ds.length).all (deqAt ds es)=deqL ds es:=by
 rw[deqL_get,decide_eq_true h,Bool.true_and];rfl
theorem deqL_ne {ds es:List Dt}(h:ds.length≠es.length):deqL ds es=false:=by
 rw[deqL_get,decide_eq_false h,Bool.false_and]
theorem rcAt_D:∀(n:Nat) (d e:Dt) {A:Around} {x y:V} {u v:Value},dep d<=n->A.units+n<cLine->Inv X pins σ H s->Is X.K H x d->Is X.K H y e->RelV x u->RelV y v->SeqAt.EqAt A s u v (deq d e)/\(∀p,x=.ref p->SeqAt.RcAt A s u v (deq d e))
 |n,.f x',e,A,x,y,u,v,hn,hu,I,hx,O,rx,U=>by
  rw[Is]at hx
  obtain⟨rfl,fx⟩:=hx
  exact⟨eqAt_F e (by omega) I fx O rx U,fun p e=>by subst e;cases fx⟩
 |0,.l ds,e,A,x,y,u,v,hn,hu,I,hx,O,rx,U=>by rw[dep]at hn;omega
 |0,.t ds,e,A,x,y,u,v,hn,hu,I,hx,O,rx,U=>by rw[dep]at hn;omega
 |n+1,.l ds,e,A,x,y,u,v,hn,hu,I,hx,O,rx,U=>by
  rw[dep]at hn
  have hx0:=hx
  rw[Is]at hx
  obtain⟨p,xs,rfl,hs,hxs⟩:=hx
  cases rx
  obtain⟨its,rv,pl,_⟩:=I.list hs
  have G:=pl.isList
  have B:A.units<cLine:=by omega
  have ih:=fun(d e:Dt) {A:Around} {x y:V} {u v:Value} (a:dep d<=n) (b:A.units+n<cLine) (c:Inv X pins σ H s) (f:Is X.K H x d) (g:Is X.K H y e) (h:RelV x u) (i:RelV y v)=>(rcAt_D n d e a b c f g h i).1
  cases e with
  |f y' =>
   rw[Is]at O
   obtain⟨rfl,fy⟩:=O
   rw[show deq (.l ds) (.f y)=false by rw[deq];all_goals (intros;simp_all)]
   cases y with
   |non=>cases U;exact⟨SeqAt.EqAt.list_none G B,fun _ _=>SeqAt.RcAt.list_none G B⟩
   |bl b=>cases U;exact⟨SeqAt.EqAt.list_bool b G B,fun _ _=>SeqAt.RcAt.list_bool b G B⟩
   |int i=>obtain⟨t,rfl⟩:=U;exact⟨SeqAt.EqAt.list_int i t G B,fun _ _=>SeqAt.RcAt.list_int i t G B⟩
   |str z=>obtain⟨t,rfl⟩:=U;exact⟨SeqAt.EqAt.list_str z t G B,fun _ _=>SeqAt.RcAt.list_str z t G B⟩
   |_=>cases fy
  |l es =>
   have hy0:=O
   rw[Is]at O
   obtain⟨q,ys,rfl,Y,aa⟩:=O
   cases U
   obtain⟨J,ad,ac,_⟩:=I.list Y
   have M:=ac.isList
   have e1:its.toArray.size=ds.length:=by rw[qM,<-rv.length,hxs.len]
   have e2:J.toArray.size=es.length:=by rw[qM,<-ad.length,aa.len]
   have rc:SeqAt.RcAt A s (.ref p) (.ref q) (deq (.l ds) (.l es)):=by
    rw[deq];by_cases hz:ds.length=es.length
    ·have:=SeqAt.RcAt.lists G M (by omega) B (elems ih hu I (by omega) hxs aa rv ad);rw[e1,JV hz]at this;exact this
    ·rw[deqL_ne hz];exact SeqAt.RcAt.lists_lengths G M (by rw[bne_iff_ne];omega) B
   refine⟨?_,fun _ _=>rc⟩;by_cases hpq:p=q
   ·subst hpq;have:=Is.inj _ I hx0 hy0 I.apart;rw[<-this,deq_refl _ hx0];exact SeqAt.EqAt.same _
   ·exact SeqAt.EqAt.of_refs hpq rc
  |t es =>
   rw[Is]at O;obtain⟨q,ys,rfl,Y,aa⟩:=O;cases U
   obtain⟨J,ad,ac,_⟩:=I.tuple Y;have M:s.heap.IsTuple q J.toArray:=ac;rw[show deq (.l ds) (.t es)=false by rw[deq];all_goals (intros;simp_all)];exact⟨SeqAt.EqAt.list_tuple G M B,fun _ _=>SeqAt.RcAt.list_tuple G M B⟩
 |n+1,.t ds,e,A,x,y,u,v,hn,hu,I,hx,O,rx,U=>by
  rw[dep]at hn;have hx0:=hx;rw[Is]at hx;obtain⟨p,xs,rfl,hs,hxs⟩:=hx;cases rx
  obtain⟨its,rv,pl,_⟩:=I.tuple hs;have G:s.heap.IsTuple p its.toArray:=pl;have B:A.units<cLine:=by omega
  have ih:=fun(d e:Dt) {A:Around} {x y:V} {u v:Value} (a:dep d<=n) (b:A.units+n<cLine) (c:Inv X pins σ H s) (f:Is X.K H x d) (g:Is X.K H y e) (h:RelV x u) (i:RelV y v)=>(rcAt_D n d e a b c f g h i).1;cases e with
  |f y' =>
   rw[Is]at O;obtain⟨rfl,fy⟩:=O;rw[show deq (.t ds) (.f y)=false by rw[deq];all_goals (intros;simp_all)];cases y with
   |non=>cases U;exact⟨SeqAt.EqAt.tuple_none G B,fun _ _=>SeqAt.RcAt.tuple_none G B⟩
   |bl b=>cases U;exact⟨SeqAt.EqAt.tuple_bool b G B,fun _ _=>SeqAt.RcAt.tuple_bool b G B⟩
   |int i=>obtain⟨t,rfl⟩:=U;exact⟨SeqAt.EqAt.tuple_int i t G B,fun _ _=>SeqAt.RcAt.tuple_int i t G B⟩
   |str z=>obtain⟨t,rfl⟩:=U;exact⟨SeqAt.EqAt.tuple_str z t G B,fun _ _=>SeqAt.RcAt.tuple_str z t G B⟩
   |_=>cases fy
  |l es =>
   rw[Is]at O;obtain⟨q,ys,rfl,Y,aa⟩:=O;cases U
   obtain⟨J,ad,ac,_⟩:=I.list Y;have M:=ac.isList;rw[show deq (.t ds) (.l es)=false by rw[deq];all_goals (intros;simp_all)];exact⟨SeqAt.EqAt.tuple_list G M B,fun _ _=>SeqAt.RcAt.tuple_list G M B⟩
  |t es =>
   have hy0:=O;rw[Is]at O;obtain⟨q,ys,rfl,Y,aa⟩:=O;cases U
   obtain⟨J,ad,ac,_⟩:=I.tuple Y;have M:s.heap.IsTuple q J.toArray:=ac;have e1:its.toArray.size=ds.length:=by rw[qM,<-rv.length,hxs.len]
   have e2:J.toArray.size=es.length:=by rw[qM,<-ad.length,aa.len]
   have rc:SeqAt.RcAt A s (.ref p) (.ref q) (deq (.t ds) (.t es)):=by
    rw[deq];have:=SeqAt.RcAt.tuples G M B (elems ih hu I (by omega) hxs aa rv ad);rw[e1,e2]at this;by_cases hz:ds.length=es.length
    ·rw[<-hz,Nat.min_self,JV hz,beq_self_eq_true,Bool.and_true]at this;exact this
    ·rw[deqL_ne hz];have:(ds.length==es.length)=false:=by simpa using hz
     simp_all
   refine⟨?_,fun _ _=>rc⟩;by_cases hpq:p=q
   ·subst hpq;have:=Is.inj _ I hx0 hy0 I.apart;rw[<-this,deq_refl _ hx0];exact SeqAt.EqAt.same _
   ·exact SeqAt.EqAt.of_refs hpq rc
end
def rEqD (K:zA):R2:=fun x y H Q=>∃p d e,x=.ref p/\Is K H x d/\Is K H y e/\dep d<=50/\Q (.bl (deq d e)) H
def rNeD (K:zA):R2:=fun x y H Q=>∃p d e,x=.ref p/\Is K H x d/\Is K H y e/\dep d<=50/\Q (.bl (!deq d e)) H
section
variable {X:Cx}
theorem op_eqD {k:Nat}(B:Room k X.A):OpR X (compareOp .Eq) (rEqD X.K):=by
 intro pins s U H x y v u Q I G O h;obtain⟨p,d,e,rfl,J,M,z,q⟩:=h;have:=(rcAt_D 50 d e (A:=X.A) z (by have:=B.units;omega) I J M G O).2 p rfl;exact this X.prog X.w X.xe _ ⟨.bl _,H,I,rfl,q⟩
end
section
variable {X:Cx}{pins:List (Addr×Obj)}{σ:St}{H:Hp}{s:Shared}
theorem ih50 (n:Nat)(d e:Dt){A:Around}{x y:V}{u v:Value}(a:dep d<=n)(b:A.units+n<cLine)(c:Inv X pins σ H s)(f:Is X.K H x d)(g:Is X.K H y e)(h:RelV x u)(i:RelV y v):SeqAt.EqAt A s u v (deq d e):=(rcAt_D n d e a b c f g h i).1
theorem neAt_D (n:Nat)(d e:Dt){A:Around}{p:Addr}{y:V}{v:Value}(hn:dep d<=n+1)(hu:A.units+(n+1)<cLine)(I:Inv X pins σ H s)(hx:Is X.K H (.ref p) d)(hy:Is X.K H y e)(ry:RelV y v):SeqAt.RcNeAt A s (.ref p) v (!deq d e):=by
 have B:A.units<cLine:=by omega
 cases d with
 |f x=>rw[Is]at hx;obtain⟨e,hz⟩:=hx;subst e;cases hz
 |l ds =>
  rw[dep]at hn;rw[Is]at hx;obtain⟨p',xs,e0,hs,hxs⟩:=hx;cases e0
  obtain⟨its,rv,pl,_⟩:=I.list hs;have hl:=pl.isList;cases e with
  |f y' =>
   rw[Is]at hy;obtain⟨rfl,fy⟩:=hy;rw[show deq (.l ds) (.f y)=false by rw[deq];all_goals (intros;simp_all)];cases y with
   |non=>cases ry;exact SeqAt.RcNeAt.list_none hl B
   |bl b=>cases ry;exact SeqAt.RcNeAt.list_bool b hl B
   |int i=>obtain⟨t,rfl⟩:=ry;exact SeqAt.RcNeAt.list_int i t hl B
   |str z=>obtain⟨t,rfl⟩:=ry;exact SeqAt.RcNeAt.list_str z t hl B
   |_=>cases fy
  |l es =>
   rw[Is]at hy;obtain⟨q,ys,rfl,M,O⟩:=hy;cases ry
   obtain⟨G,Y,U,_⟩:=I.list M;have J:=U.isList;have e1:its.toArray.size=ds.length:=by rw[qM,<-rv.length,hxs.len]
   have e2:G.toArray.size=es.length:=by rw[qM,<-Y.length,O.len]
   rw[deq];by_cases hz:ds.length=es.length
   ·have:=SeqAt.RcNeAt.lists hl J (by omega) B (elems (ih50 n) hu I (by omega) hxs O rv Y);rw[e1,JV hz]at this;exact this
   ·rw[deqL_ne hz];exact SeqAt.RcNeAt.lists_lengths hl J (by rw[bne_iff_ne];omega) B
  |t es =>
   rw[Is]at hy;obtain⟨q,ys,rfl,M,O⟩:=hy;cases ry
   obtain⟨G,Y,U,_⟩:=I.tuple M;have J:s.heap.IsTuple q G.toArray:=U;rw[show deq (.l ds) (.t es)=false by rw[deq];all_goals (intros;simp_all)];exact SeqAt.RcNeAt.list_tuple hl J B
 |t ds =>
  rw[dep]at hn;rw[Is]at hx;obtain⟨p',xs,e0,hs,hxs⟩:=hx;cases e0
  obtain⟨its,rv,pl,_⟩:=I.tuple hs;have hl:s.heap.IsTuple p its.toArray:=pl;cases e with
  |f y' =>
   rw[Is]at hy;obtain⟨rfl,fy⟩:=hy;rw[show deq (.t ds) (.f y)=false by rw[deq];all_goals (intros;simp_all)];cases y with
   |non=>cases ry;exact SeqAt.RcNeAt.tuple_none hl B
   |bl b=>cases ry;exact SeqAt.RcNeAt.tuple_bool b hl B
   |int i=>obtain⟨t,rfl⟩:=ry;exact SeqAt.RcNeAt.tuple_int i t hl B
   |str z=>obtain⟨t,rfl⟩:=ry;exact SeqAt.RcNeAt.tuple_str z t hl B
   |_=>cases fy
  |l es =>
   rw[Is]at hy;obtain⟨q,ys,rfl,M,O⟩:=hy;cases ry
   obtain⟨G,Y,U,_⟩:=I.list M;have J:=U.isList;rw[show deq (.t ds) (.l es)=false by rw[deq];all_goals (intros;simp_all)];exact SeqAt.RcNeAt.tuple_list hl J B
  |t es =>
   rw[Is]at hy;obtain⟨q,ys,rfl,M,O⟩:=hy;cases ry
   obtain⟨G,Y,U,_⟩:=I.tuple M;have J:s.heap.IsTuple q G.toArray:=U;have e1:its.toArray.size=ds.length:=by rw[qM,<-rv.length,hxs.len]
   have e2:G.toArray.size=es.length:=by rw[qM,<-Y.length,O.len]
   rw[deq];have:=SeqAt.RcNeAt.tuples hl J B (elems (ih50 n) hu I (by omega) hxs O rv Y);rw[e1,e2]at this;by_cases hz:ds.length=es.length
   ·rw[<-hz,Nat.min_self,JV hz,beq_self_eq_true,Bool.and_true]at this;exact this
   ·rw[deqL_ne hz];have:(ds.length==es.length)=false:=by simpa using hz
    simp_all
end
section
variable {X:Cx}
theorem op_neD {k:Nat}(z:Room k X.A):OpR X (compareOp .NotEq) (rNeD X.K):=by
 intro pins s U H x y v u Q I B M h;obtain⟨p,d,e,rfl,G,J,O,q⟩:=h;cases B
 have:=neAt_D 50 d e (A:=X.A) (by omega) (by have:=z.units;omega) I G J M;exact this X.prog X.w X.xe _ ⟨.bl _,H,I,rfl,q⟩
end
theorem isL_flat {K:zA}{H:Hp}:∀{xs:List V},xs.all xF=true->IsL K H xs (xs.map Dt.f)
 |[],_=>by rw[List.map_nil,IsL]
 |x::r,h=>by
  rw[List.all_cons,zX]at h
  rw[zQ,IsL]
  exact⟨x,r,rfl,by rw[Is];exact⟨rfl,h.1⟩,isL_flat h.2⟩
theorem JM {K:zA}{H:Hp}{p:Addr}{xs:List V}(h:SqL K H p xs)(f:xs.all xF=true):Is K H (.ref p) (.l (xs.map Dt.f)):=by rw[Is];exact⟨p,xs,rfl,h,isL_flat f⟩
theorem depL_flat:∀{xs:List V},depL (xs.map Dt.f)=0
 |[]=>by rw[List.map_nil,depL]
 |x::r=>by rw[zQ,depL,depL_flat,dep];rfl
theorem dep_l {xs:List V}:dep (.l (xs.map Dt.f))=1:=by rw[dep,depL_flat]
theorem yR (ns:List Int):(ns.map V.int).all xF=true:=by rw[List.all_map];simp[xF]
theorem deqL_ints:∀(ns ms:List Int),deqL ((ns.map V.int).map Dt.f) ((ms.map V.int).map Dt.f)=decide (ns=ms)
 |[],[]=>by simp[deqL]
 |[],m::ms=>by simp[deqL]
 |n::ns,[]=>by simp[deqL]
 |n::ns,m::ms=>by
  rw[zQ,zQ,zQ,zQ,deqL,deqL_ints ns ms,deq]
  by_cases B:n=m<;>by_cases z:ns=ms<;>simp[eqV,B,z]
theorem deq_lints (ns ms:List Int):deq (.l ((ns.map V.int).map Dt.f)) (.l ((ms.map V.int).map Dt.f))=decide (ns=ms):=by rw[deq,deqL_ints]
theorem eqLI {K:zA}{H:Hp}{p q:Addr}{ns ms:List Int}{Q:VK}(B:SqL K H p (ns.map V.int))(z:SqL K H q (ms.map V.int))(h:Q (.bl (decide (ns=ms))) H):rEqD K (.ref p) (.ref q) H Q :=
 ⟨p,_,_,rfl,JM B (yR _),JM z (yR _),by rw[dep_l];decide,by rw[deq_lints];exact h⟩
theorem neLI {K:zA}{H:Hp}{p q:Addr}{ns ms:List Int}{Q:VK}(B:SqL K H p (ns.map V.int))(z:SqL K H q (ms.map V.int))(h:Q (.bl (!decide (ns=ms))) H):rNeD K (.ref p) (.ref q) H Q :=
 ⟨p,_,_,rfl,JM B (yR _),JM z (yR _),by rw[dep_l];decide,by rw[deq_lints];exact h⟩
def yX (J:It)(nt:Nat)(cs:List Nat)(g:TG)(tt:TT)(te:TE)(σ:St)(H1:Hp)(Q:VK):Prop:=∀acc,H1 acc=none ->
 ∃W:Nat->Nat->List V->St->Hp->Prop,(∃m,W 0 m [] (capSt nt cs σ) (upd H1 acc (.lst [])))/\∀i m B H G,W i m B H G->G acc=some (.lst B) /\
  ((J.stop i G/\Q (.ref acc) G)\/(J.go i G/\B.length<sizeLine/\∃N:List V->St->Hp->Prop,(∀zs O M,N zs O M->∃Y,Y<m/\W (i+1) Y zs O M) /\
   ∀x M,J.yld i G x M->g x H M fun z H3=>tt z H3 fun b H4=>if b=true then te z H4 fun y U=>U acc=some (.lst B)/\N (B++[y]) z (upd U acc (.lst (B++[y]))) else N B z H4))
section
variable {K:zA}{σ:St}{H:Hp}{Q:VK}{nt:Nat}{cs:List Nat}{g:TG}{tt:TT}{te:TE}{a:Addr}
theorem w_compL {tl:TE}:JL (iList K tl) nt cs g tt te σ H Q=(tl σ H fun x z=>∃a,x=.ref a/\(∃B,SqL K z a B)/\yX (Itl K a) nt cs g tt te σ z Q):=rfl
theorem w_compT {tl:TE}:JL (iTup K tl) nt cs g tt te σ H Q=(tl σ H fun x z=>∃a,x=.ref a/\(∃B,SqT K z a B)/\yX (Itt K a) nt cs g tt te σ z Q):=rfl
theorem w_comp1 {z:TA}:JL (iRng1 z) nt cs g tt te σ H Q=(z σ H fun B G=>∃j:Int,B=[.int j] /\ -(2^62)<=j/\j<2^62/\yX (Itr 0 j.toNat) nt cs g tt te σ G Q):=rfl
theorem w_yes {R:Bool->Hp->Prop}:tYes σ H R=R true H:=rfl
def yF (cs:List Nat)(σ:St):St:=cs.map fun c=>(σ[c]?).join
theorem comp_pure {J:It}{xs:List V}(f:V->Option V)(hz:xs.length<=sizeLine)
  (hJ:∀B,Same H B->(∀i,i<xs.length->J.go i B)/\(∀i x O,J.yld i B x O->O=B/\(i<xs.length->xs[i]? = some x))/\J.stop xs.length B)
  (hb:∀x B (R:Option V->Hp->Prop),x∈xs->Same H B->R (f x) B->tt (some x::yF cs σ) B fun b H4=>if b=true then te (some x::yF cs σ) H4 fun y U=>R (some y) U else R none H4)
  (hd:∀acc,H acc=none->Q (.ref acc) (upd H acc (.lst (xs.filterMap f)))):yX J 1 cs (xN 0) tt te σ H Q:=by
 intro acc hn;have sm:∀z,Same H (upd H acc (.lst z)):=fun z=>zU hn _;refine⟨fun i m z Y B=>m=xs.length-i/\i<=xs.length/\(∃o,Y=o::yF cs σ)/\z=(xs.take i).filterMap f/\B=upd H acc (.lst z),⟨_,rfl,zS _,⟨none,rfl⟩,by simp,rfl⟩,?_⟩;rintro i m z Y B ⟨rfl,hi,⟨o,rfl⟩,G,rfl⟩;refine⟨upd_same,?_⟩;have hl:z.length<=i:=by
  rw[G];exact zL (List.length_filterMap_le _ _) (by rw[qO];omega)
 by_cases M:i<xs.length
 ·refine .inr ⟨(hJ _ (sm z)).1 i M,by omega,fun zs aa O=>(∃o,aa=o::yF cs σ)/\zs=(xs.take (i+1)).filterMap f/\O=upd H acc (.lst zs),fun zs aa O ⟨q1,q2,q3⟩=>⟨xs.length-(i+1),by omega,rfl,M,q1,q2,q3⟩,fun x O y=>?_⟩;obtain⟨e,hx⟩:=(hJ _ (sm z)).2.1 i x O y;have hx:=hx M;subst e;show tt (some x::yF cs σ) _ _
  have tk:xs.take (i+1)=xs.take i++[x]:=by rw[zq,hx];rfl
  refine hb x _ (fun o U=>match o with|some y=>U acc=some (.lst z)/\(∃o,some x::yF cs σ=o::yF cs σ)/\z++[y]=(xs.take (i+1)).filterMap f/\upd U acc (.lst (z++[y]))=upd H acc (.lst (z++[y]))|none=>(∃o,some x::yF cs σ=o::yF cs σ)/\z=(xs.take (i+1)).filterMap f/\U=upd H acc (.lst z)) (qE hx) (sm z) ?_;cases hf:f x with
  |none =>
   refine⟨⟨_,rfl⟩,?_,rfl⟩;rw[tk,xA,<-G];simp[hf]
  |some y =>
   refine⟨upd_same,⟨_,rfl⟩,?_,upd_upd⟩;rw[tk,xA,<-G];simp[hf]
 ·have e:i=xs.length:=by omega
  subst e;rw[zn]at G;subst G;exact .inl ⟨(hJ _ (sm _)).2.2,hd acc hn⟩
theorem JN {xs:List V}(h:SqL K H a xs)(hz:xs.length<=sizeLine)(f:V->Option V)
  (U:∀x z (R:Option V->Hp->Prop),x∈xs->Same H z->R (f x) z->tt (some x::yF cs σ) z fun b G=>if b=true then te (some x::yF cs σ) G fun y J=>R (some y) J else R none G)
  (M:∀acc,H acc=none->Q (.ref acc) (upd H acc (.lst (xs.filterMap f)))):yX (Itl K a) 1 cs (xN 0) tt te σ H Q :=
 comp_pure f hz (fun z s=>by
  have B:=s.seq h
  exact⟨fun i O=>⟨xs,xs[i],B,by simp[O]⟩,fun i x Y y=>⟨y.1,fun _=>y.2 xs B⟩,⟨xs,B,zB _⟩⟩) U M
theorem Same.seqT {K:zA}{H H':Hp}{a:Addr}{xs:List V}(e:Same H H')(h:SqT K H a xs):SqT K H' a xs:=by
 rcases h with(h|⟨o,h⟩)|h
 ·exact .inl (.inl (e _ _ h))
 ·exact .inl (.inr ⟨o,e _ _ h⟩)
 ·exact .inr h
theorem comp_T {xs:List V}(h:SqT K H a xs)(hz:xs.length<=sizeLine)(f:V->Option V)
  (U:∀x z (R:Option V->Hp->Prop),x∈xs->Same H z->R (f x) z->tt (some x::yF cs σ) z fun b G=>if b=true then te (some x::yF cs σ) G fun y J=>R (some y) J else R none G)
  (M:∀acc,H acc=none->Q (.ref acc) (upd H acc (.lst (xs.filterMap f)))):yX (Itt K a) 1 cs (xN 0) tt te σ H Q :=
 comp_pure f hz (fun z s=>by
  have B:=s.seqT h
  exact⟨fun i O=>⟨xs,xs[i],B,by simp[O]⟩,fun i x Y y=>⟨y.1,fun _=>y.2 xs B⟩,⟨xs,B,zB _⟩⟩) U M
def rngV (lo:Int)(n:Nat):List V:=(zj n).map fun(i:Nat)=>V.int (lo+(i:Int))
end
section
variable {X:Cx}
theorem Ji:∀{bs:List Bool} {us:List Value},Vals (bs.map V.bl) us->us=bs.map Value.bool
 |[],_,h=>by cases h;rfl
 |b::r,_,h=>by
  cases h with
  |cons q t =>
   cases q
   rw[Ji t]
   rfl
theorem zAP {prog:Program}{w:World}{A:Around}{bs:List Bool}:TruthOf prog w A (fun i v=>(bs.map Value.bool).toArray[i]? = some v) (fun i=>bs.getD i true):=by
 intro i v s Q E h z;rw[List.getElem?_toArray,qI]at h;cases e:bs[i]? with
 |none=>rw[e]at h;cases h
 |some b =>
  rw[e]at h;cases h
  have:bs.getD i true=b:=by simp[List.getD,e]
  exact wpAny_truthy_bool (by rw[<-this];exact z)
theorem all_getD:∀(bs:List Bool),(zj bs.length).all (fun i=>bs.getD i true)=bs.all id
 |[]=>rfl
 |b::r=>by
  rw[zI,y3,List.all_cons,List.all_map,List.all_cons]
  have:((fun i=>(b::r).getD i true) ∘ Nat.succ)=fun i=>r.getD i true:=by funext i;simp[List.getD]
  rw[this,all_getD r]
  rfl
theorem any_getD:∀(bs:List Bool),(zj bs.length).any (fun i=>bs.getD i true)=bs.any id
 |[]=>rfl
 |b::r=>by
  rw[zI,y3,jZ,List.any_map,jZ]
  have:((fun i=>(b::r).getD i true) ∘ Nat.succ)=fun i=>r.getD i true:=by funext i;simp[List.getD]
  rw[this,any_getD r]
  rfl
def rAll:List V->Hp->VK->Prop:=fun z H Q=>∃(p:Addr) (bs:List Bool),z=[.ref p]/\H p=some (.lst (bs.map V.bl))/\Q (.bl (bs.all id)) H
def rAny:List V->Hp->VK->Prop:=fun z H Q=>∃(p:Addr) (bs:List Bool),z=[.ref p]/\H p=some (.lst (bs.map V.bl))/\Q (.bl (bs.any id)) H
theorem walk_list {pins:List (Addr×Obj)}{O:St}{H:Hp}{s:Shared}{p:Addr}{xs:List V}(hc:X.calm=true)(I:Inv X pins O H s)(M:H p=some (.lst xs)){Q:Value->Shared->Prop}{E:Value->Shared->Prop}
  (h:∀(z:List Value),Vals xs z->∀G:Shared,G.heap.IsListIter s.heap.objs.size p 0/\G.heap.IsList p z.toArray->(∀b∈[s.heap.objs.size,p],b<G.heap.objs.size)->p≠s.heap.objs.size->Walks X.prog X.w X.A.in1 s.heap.objs.size [s.heap.objs.size,p] [s.heap.objs.size] z.toArray.size (fun i v=>z.toArray[i]? = some v) (fun i h=>h.IsListIter s.heap.objs.size p i/\h.IsList p z.toArray) ->
   (∀J tk,(∀b o,b∉[s.heap.objs.size]->G.heap.get? b=some o->J.get? b=some o)->Inv X pins O H { G with heap:=J,toks:=tk })->Q (.ref s.heap.objs.size) G):wpAny (model X.prog X.w) X.A.in1 (pyIter (.ref p)) Q E s:=by
 obtain⟨z,Y,U,_⟩:=I.list (SqL.of M);have B:p<s.heap.objs.size:=I.hok.lt M;refine wpAny_pyIter_list U.isList (h z Y _ ⟨⟨_,Heap.get?_push_size _ rfl,rfl,rfl⟩,U.isList.push _⟩ (fun b hb=>?_) (zG B) (Walks.list (A:=X.A.in1) (I.ok.hd hc) _ p (zG B) z.toArray) fun J tk hk=>?_)
 ·show b<(s.heap.push _).objs.size
  rw[Heap.size_push];rcases zD.mp hb with e|e
  ·rw[e];exact yS _
  ·have:b=p:=by simpa using e
   rw[this];exact zm B
 ·exact I.kept (h':=J) (t':=tk) fun b o e=>hk b o (by simpa using zG (Heap.lt_size e)) (Heap.get?_push_of_some _ e)
theorem call_all (hc:X.calm=true):CallR X (.builtin "all") rAll:=by
 intro pins s σ H xs us Q I r h;obtain⟨p,bs,rfl,Y,q⟩:=h;obtain⟨u,rfl,z⟩:=Vals.one r;cases z
 refine call_all_walk (walk_list hc I Y fun O J s2 M G hne W hI=>?_);have e:=Ji J;subst e;refine⟨_,_,_,_,_,_,_,rfl,W,M,zAP,fun B tk U=>⟨.bl (bs.all id),H,hI B tk U,?_,q⟩⟩;have:(bs.map Value.bool).toArray.size=bs.length:=by simp
 rw[this,all_getD];rfl
theorem call_any (hc:X.calm=true):CallR X (.builtin "any") rAny:=by
 intro pins s σ H xs us Q I r h;obtain⟨p,bs,rfl,Y,q⟩:=h;obtain⟨u,rfl,z⟩:=Vals.one r;cases z
 refine call_any_walk (walk_list hc I Y fun O J s2 M G hne W hI=>?_);have e:=Ji J;subst e;refine⟨_,_,_,_,_,_,_,rfl,W,M,zAP,fun B tk U=>⟨.bl (bs.any id),H,hI B tk U,?_,q⟩⟩;have:(bs.map Value.bool).toArray.size=bs.length:=by simp
 rw[this,any_getD];rfl
theorem Jd:∀{ns:List Int} {us:List Value},Vals (ns.map V.int) us->∃z:List (Int×Tok),us=z.map (fun p=>Value.int p.1 p.2)/\z.map (·.1)=ns
 |[],_,h=>by cases h;exact⟨[],rfl,rfl⟩
 |n::r,_,h=>by
  cases h with
  |cons q t =>
   obtain⟨tk,rfl⟩:=q
   obtain⟨z,rfl,e⟩:=Jd t
   exact⟨(n,tk)::z,rfl,by simp[e]⟩
def rSum:List V->Hp->VK->Prop:=fun B H Q=>∃(p:Addr) (z:List Int),B=[.ref p]/\H p=some (.lst (z.map V.int))/\Q (.int z.sum) H
theorem call_sum (Y:X.calm=true):CallR X (.builtin "sum") rSum:=by
 intro pins s σ H z us Q I r h;obtain⟨p,ns,rfl,U,q⟩:=h;obtain⟨u,rfl,B⟩:=Vals.one r;cases B
 obtain⟨M,J,pl,_⟩:=I.list (SqL.of U);obtain⟨z,rfl,e⟩:=Jd J;have G:s.heap.IsList p (intItems z.toArray):=by
  have:=pl.isList;rw[show(List.map (fun p=>Value.int p.1 p.2) z).toArray=intItems z.toArray by unfold intItems;simp]at this;exact this
 refine sum_intListG (I.ok.hd Y) G fun h' tk t' O=>⟨.int ns.sum,H,I.kept O,⟨t',?_⟩,q⟩;rw[preSum_eq,yD (by simp),<-e]
def rBits:V->List V->Hp->VK->Prop:=fun x z H Q=>∃i,x=.int i/\z=[]/\Q (.int (Builtin.Int.intBits i:Nat)) H
theorem mt_bits:MtR X "int.bit_length" rBits:=by
 intro pins s M H x G v J Q I z B h;obtain⟨i,rfl,rfl,q⟩:=h;obtain⟨t,rfl⟩:=z;cases B
 exact call_gives slot_int_bit_length (typeIs_int s i t) entry_int_bit_length (args_int_bit_length _) (AutoIntG2.int_bit_length_int_0 i t) ⟨.int _,H,I.tok _,⟨_,rfl⟩,q⟩
theorem w_rBits {i:Int}{H:Hp}{Q:VK}:rBits (.int i) [] H Q=Q (.int (Builtin.Int.intBits i:Nat)) H:=propext ⟨fun⟨j,e,_,q⟩=>by cases e;exact q,fun q=>⟨i,rfl,rfl,q⟩⟩
theorem w_tyInt {K:zA}{i:Int}{H:Hp}:tyV K "int" (.int i) H=True:=eq_true (by first|exact rfl|(unfold tyV;rfl)|(unfold tyV;simp))
end
section
variable {K:zA}{σ:St}{H:Hp}{Q:VK}
theorem w_bm {T:String}{r:V->List V->Hp->VK->Prop}{B:TE}{t:TA}:tBM K T r B t σ H Q=(B σ H fun x z=>tyV K T x z/\t σ z fun G J=>r x G J Q):=rfl
theorem w_bm0 {T:String}{r:V->List V->Hp->VK->Prop}{B:TE}:tBM0 K T r B σ H Q=(B σ H fun x z=>tyV K T x z/\r x [] z Q):=rfl
theorem Jr {l:Addr}{y:V}:rAppend (.ref l) [y] H Q=∃B,H l=some (.lst B)/\B.length<sizeLine/\Q .non (upd H l (.lst (B++[y]))) :=
 propext ⟨fun⟨O,B,M,J,G,h,z,q⟩=>by cases J;cases G;exact⟨B,h,z,q⟩,fun⟨B,h,z,q⟩=>⟨l,B,y,rfl,rfl,h,z,q⟩⟩
theorem jB {l:Addr}{xs:List V}(h:H l=some (.lst xs)):tyV K "list" (.ref l) H:=by
 first|exact .inl ⟨rfl,_,SqL.of h⟩|(unfold tyV;exact .inl ⟨rfl,_,SqL.of h⟩)
end
open PySem PySem.Spec PyProof.Rows PySem.W
theorem bits_pow (k:Nat):Builtin.Int.intBits ((2:Int)^k)=k+1:=by
 unfold Builtin.Int.intBits;have p:=jQ k;rw[if_neg (by simp;omega),Int.natAbs_pow];show Nat.log2 (2^k)+1=k+1
 rw[Nat.log2_two_pow]
theorem odd_part:∀(n:Nat),0<n->∃m k,n=(2*m+1)*2^k:=by
 intro n;induction n using Nat.strongRecOn with
 |ind n ih =>
  intro h;by_cases e:n%2=1
  ·exact⟨n/2,0,by simp;omega⟩
  ·obtain⟨m,k,z⟩:=ih (n/2) (by omega) (by omega);exact⟨m,k+1,by rw[Nat.pow_succ,<-Nat.mul_assoc,<-z];omega⟩
def absI (n:Int):Int:=if n<0 then -n else n
def lowK (n:Int):Int:=(Builtin.Int.intBits (Builtin.bitAnd (absI n) (-absI n)):Int)-1
def JA (n:Int):List Int:=if n=0 then [0,0,0] else [absI n/2^(lowK n).toNat,lowK n,if 0<n then 1 else -1]
theorem J8 {n:Int}(h:n≠0):∃(m k:Nat),absI n=(2*m+1)*2^k/\JA n=[2*(m:Int)+1,(k:Int),if 0<n then 1 else -1]:=by
 obtain⟨m,k,e⟩:=odd_part n.natAbs (by omega);have H:absI n=((n.natAbs:Nat):Int):=by unfold absI;split<;>omega
 have z:absI n=(2*m+1)*2^k:=by rw[H,e,Int.natCast_mul,Int.natCast_pow];rfl
 refine⟨m,k,z,?_⟩;have B:absI n=2^k*(2*(m:Int)+1):=by rw[z,Int.mul_comm]
 have G:lowK n=k:=by
  unfold lowK;rw[B,kbt_low,bits_pow];omega
 unfold JA;rw[if_neg h,G,zV,z,Int.mul_ediv_cancel _ (Int.ne_of_gt (jQ k))]
def gTupM (n:Nat)(t:TGs):TG:=fun v B H Q=>∃a z,v=.ref a/\H a=some (.tup z)/\z.length=n/\t z B H Q
theorem pg_tupM {X:Cx}{es:List Expr}{k:Nat}{t:TGs}{pos:Pos}(n:Nat)(U:X.calm=true)(h:PGs X es t)(hn:(assignEach es X.env).length=n:=by rfl)(z:(assignEach es X.env).findIdx? (·.1)=none:=by rfl):PG X (.Tuple es k pos) (gTupM n t):=by
 intro pins s Y H v u Q I r B;obtain⟨a,O,J,M,G,B⟩:=B;exact pg_tup (X:=X) (n:=n) U h hn z pins s Y H v u Q I r ⟨a,O,J,SqT.of M,G,B⟩
section
variable {K:zA}{σ:St}{H:Hp}{Q:VK}{R:St->Hp->Prop}
theorem Js {n:Nat}{t:TGs}{a:Addr}:gTupM n t (.ref a) σ H R=∃z,H a=some (.tup z)/\z.length=n/\t z σ H R :=
 propext ⟨fun⟨B,z,e,h,l,q⟩=>by cases e;exact⟨z,h,l,q⟩,fun⟨z,h,l,q⟩=>⟨a,z,rfl,h,l,q⟩⟩
theorem j5 {t:TG}{u:TGs}{v:V}{r:List V}:gCons t u (v::r) σ H R=t v σ H fun z B=>u r z B R :=
 propext ⟨fun⟨J,G,e,q⟩=>by cases e;exact q,fun q=>⟨v,r,rfl,q⟩⟩
theorem w_gNil:gNil [] σ H R=R σ H:=propext ⟨fun⟨_,q⟩=>q,fun q=>⟨rfl,q⟩⟩
theorem isI_tt {t:Addr}{xs:List V}(h:H t=some (.tup xs)):rIsI K [.ref t,.ty "tuple"] H Q=Q (.bl true) H:=ja (.tup h) (fun _ z=>by cases z<;>first|rfl|(rename_i e;rw[h]at e;cases e)|(rename_i e _ _ _ _ _;rw[h]at e;cases e)) (kit_same _)
theorem isI_ll {t:Addr}{xs:List V}(h:H t=some (.lst xs)):rIsI K [.ref t,.ty "list"] H Q=Q (.bl true) H:=ja (.lst h) (fun _ z=>by cases z<;>first|rfl|(rename_i e;rw[h]at e;cases e)|(rename_i e _ _ _ _ _;rw[h]at e;cases e)) (kit_same _)
end
def rDG:R2:=fun x y H Q=>∃a k,x=.ref a/\y=kV k/\∃z,H a=some (.dK z)/\∃v,xL z k=some v/\Q v H
def rDP:V->V->V->Hp->(Hp->Prop)->Prop:=fun x y v H R=>∃a k,x=.ref a/\y=kV k/\∃z,H a=some (.dK z)/\z.length<sizeLine/\R (upd H a (.dK (xg z k v)))
def sDP (B ty J:TE):TS:=fun D z H=>J z H fun v O=>B z O fun x M=>ty z M fun y G=>rDP x y v G fun U=>D.nx z U
def rDI (neg:Bool):R2:=fun y x H Q=>∃a k,x=.ref a/\y=kV k/\∃z,H a=some (.dK z)/\Q (.bl (if neg then !(xL z k).isSome else (xL z k).isSome)) H
section
variable {X:Cx}{o i e value:Expr}{pos pos' tpos:Pos}{td ty tv:TE}
theorem ps_dpM (Y:X.A.units+1<cLine)(ho:PE X o td)(hi:PE X i ty)(hv:PE X value tv)(B:swapsWith value (some (.Subscript o i pos')) pos.line X.env=pure false):PS X (.Assign [.Subscript o i pos'] value pos) (sDP td ty tv):=by
 intro pins s z H D I h;refine wpAny_Assign_Subscript (thn (hv pins s z H _ I h) fun r s1 ⟨v,H1,I1,rv,G⟩=>thn (ho pins s1 z H1 _ I1 G) fun u M ⟨x,H2,J,rx,q2⟩=>thn (hi pins M z H2 _ J q2) fun iv s3 ⟨y,H3,I3,ry,q3⟩=>?_) B;obtain⟨a,k,rfl,rfl,kvs,U,O,q⟩:=q3;obtain rfl:u=Value.ref a:=rx;exact d_setItem Y I3 (DPut.k (v:=v) U O) ry rv fun s4 I4=>⟨z,_,I4,q⟩
end
section
variable {σ:St}{H:Hp}{Q:VK}{D:Ends}{a:Addr}{v:V}{R:Hp->Prop}
theorem kV_s {k:Key}{x:Str}:(V.str x=kV k)=(k=.inr x):=propext ⟨fun e=>by cases k<;>cases e;rfl,fun e=>by subst e;rfl⟩
theorem kV_i {k:Key}{x:Int}:(V.int x=kV k)=(k=.inl x):=propext ⟨fun e=>by cases k<;>cases e;rfl,fun e=>by subst e;rfl⟩
theorem w_dgS {x:Str}:rDG (.ref a) (.str x) H Q=∃z,H a=some (.dK z)/\∃v,xL z (.inr x)=some v/\Q v H :=
 propext ⟨fun⟨J,k,G,B,q⟩=>by cases G;rw[kV_s]at B;subst B;exact q,fun q=>⟨a,.inr x,rfl,rfl,q⟩⟩
theorem w_dgI {x:Int}:rDG (.ref a) (.int x) H Q=∃z,H a=some (.dK z)/\∃v,xL z (.inl x)=some v/\Q v H :=
 propext ⟨fun⟨J,k,G,B,q⟩=>by cases G;rw[kV_i]at B;subst B;exact q,fun q=>⟨a,.inl x,rfl,rfl,q⟩⟩
theorem w_sDP {z ty B:TE}:sDP z ty B D σ H=(B σ H fun v M=>z σ M fun x J=>ty σ J fun y G=>rDP x y v G fun O=>D.nx σ O):=rfl
theorem w_dpS {x:Str}:rDP (.ref a) (.str x) v H R=∃z,H a=some (.dK z)/\z.length<sizeLine/\R (upd H a (.dK (xg z (.inr x) v))) :=
 propext ⟨fun⟨J,k,G,B,q⟩=>by cases G;rw[kV_s]at B;subst B;exact q,fun q=>⟨a,.inr x,rfl,rfl,q⟩⟩
theorem w_dpI {x:Int}:rDP (.ref a) (.int x) v H R=∃z,H a=some (.dK z)/\z.length<sizeLine/\R (upd H a (.dK (xg z (.inl x) v))) :=
 propext ⟨fun⟨J,k,G,B,q⟩=>by cases G;rw[kV_i]at B;subst B;exact q,fun q=>⟨a,.inl x,rfl,rfl,q⟩⟩
theorem w_dII {neg:Bool}{x:Int}:rDI neg (.int x) (.ref a) H Q=∃z,H a=some (.dK z)/\Q (.bl (if neg then !(xL z (.inl x)).isSome else (xL z (.inl x)).isSome)) H :=
 propext ⟨fun⟨J,k,G,B,q⟩=>by cases G;rw[kV_i]at B;subst B;exact q,fun q=>⟨a,.inl x,rfl,rfl,q⟩⟩
theorem w_disp {B:List (TE×TE)}:tDisp B σ H Q=∀p,H p=none->J5 B σ (upd H p (.dK [])) fun M G=>G p=some (.dK [])/\∃z:List (Key×V),M=z.map (fun J=>(kV J.1,J.2))/\z.length<=15/\Q (.ref p) (upd G p (.dK (mergeK [] z))):=rfl
end
def JO (a:Addr)(at_ l:Int):List (Key×V):=[(.inr "script",.ref a),(.inr "at",.int at_),(.inr "left",.int l)]
theorem pen_s {a:Addr}{t l:Int}:xL (JO a t l) (.inr "script")=some (.ref a):=by unfold JO;rw[jm rfl]
theorem key_sa:¬ (Sum.inr "script" : Key)=(Sum.inr "at" : Key):=by decide
theorem key_sl:¬ (Sum.inr "script" : Key)=(Sum.inr "left" : Key):=by decide
theorem key_al:¬ (Sum.inr "at" : Key)=(Sum.inr "left" : Key):=by decide
theorem pen_a {a:Addr}{t l:Int}:xL (JO a t l) (.inr "at")=some (.int t):=by unfold JO;rw[jn key_sa,jm rfl]
theorem pen_l {a:Addr}{t l:Int}:xL (JO a t l) (.inr "left")=some (.int l):=by unfold JO;rw[jn key_sl,jn key_al,jm rfl]
theorem pen_len {a:Addr}{t l:Int}:((JO a t l).length<sizeLine)=True:=eq_true (qJ (by decide:3<1000) (zZ (by decide)))
theorem pen_pa {a:Addr}{t l x:Int}:xg (JO a t l) (.inr "at") (.int x)=JO a x l:=by
 unfold xg;rw[xT,pen_a];rfl
theorem pen_pl {a:Addr}{t l x:Int}:xg (JO a t l) (.inr "left") (.int x)=JO a t x:=by
 unfold xg;rw[xT,pen_l];rfl
def Itv (K:zA)(a:Addr)(n:Nat):It :=
 ⟨fun i H=>i<n/\∃z,SqL K H a z/\z.length=n,fun i H x B=>B=H/\∀z,SqL K H a z->z.length=n->z[n-1-i]? = some x,fun i H=>i=n⟩
def iRev (K:zA)(M:TA):TI:=fun J H R=>M J H fun G B=>∃a z,G=[.ref a]/\SqL K B a z/\R (Itv K a z.length) B
def ForV (K:zA)(a:Addr)(n:Nat)(g:TG)(tb:TS)(D:Ends)(G:St)(H:Hp):Prop:=∃W:Nat->Nat->St->Hp->Prop,(∃m,W 0 m G H)/\∀i m G H,W i m G H ->
 ((Itv K a n).stop i H/\D.nx G H)\/((Itv K a n).go i H/\∃N:St->Hp->Prop,(∀B z,N B z->∃M,M<m/\W (i+1) M B z)/\∀x z,(Itv K a n).yld i H x z->g x G z fun J O=>tb { D with nx:=N,ct:=N,bk:=D.nx } J O)
section
variable {σ:St}{H:Hp}{D:Ends}{g:TG}{tb:TS}{K:zA}{a:Addr}
theorem w_forV {B:TA}:tFor (iRev K B) g tb D σ H=(B σ H fun J z=>∃a G,J=[.ref a]/\SqL K z a G/\ForV K a G.length g tb D σ z):=rfl
end
open PySem
def fs (n:Int):Int:=if n%2=0 then 0 else 2-n%4
def nafF:Nat->Int->List Int
 |0,_=>[]
 |k+1,n=>if n=0 then [] else fs n::nafF k ((n-fs n)/2)
def naf (n:Int):List Int:=nafF n.natAbs n
theorem fs_cases (n:Int):(fs n=0/\n%2=0)\/(fs n=1/\n%4=1)\/(fs n = -1/\n%4=3):=by
 unfold fs;split<;>omega
theorem fs_lt {n:Int}(h:n≠0):((n-fs n)/2).natAbs<n.natAbs:=by
 rcases fs_cases n with⟨e,_⟩|⟨e,_⟩|⟨e,_⟩<;>rw[e]<;>omega
theorem nafF_fuel:∀(k:Nat) (n:Int),n.natAbs<=k->nafF k n=nafF n.natAbs n:=by
 intro k;induction k using Nat.strongRecOn with
 |ind k ih =>
  intro n h;by_cases z:n=0
  ·subst z;cases k<;>simp[nafF]
  ·obtain⟨B,rfl⟩:∃B,k=B+1:=⟨k-1,by omega⟩;obtain⟨j,hj⟩:∃j,n.natAbs=j+1:=⟨n.natAbs-1,by omega⟩;have lt:=fs_lt z;rw[hj,nafF,nafF,if_neg z,if_neg z,ih B (by omega) _ (by omega)];by_cases e:B=j
   ·subst e;rw[ih B (by omega) _ (by omega)]
   ·rw[ih j (by omega) _ (by omega)]
theorem naf_step {n:Int}(h:n≠0):naf n=fs n::naf ((n-fs n)/2):=by
 have lt:=fs_lt h;obtain⟨j,hj⟩:∃j,n.natAbs=j+1:=⟨n.natAbs-1,by omega⟩;unfold naf;rw[hj,nafF,if_neg h,nafF_fuel j _ (by omega)]
theorem naf_ind {p : Int → Prop}(B : p 0)(G : ∀ n, n ≠ 0 → p ((n - fs n) / 2) → p n) : ∀ n, p n := by
  have all : ∀ k (n : Int), n.natAbs ≤ k → p n := by
    intro k
    induction k with
    | zero => intro n h; have : n = 0 := by omega
              subst this; exact B
    | succ k ih =>
      intro n h
      by_cases z : n = 0
      · subst z; exact B
      · exact G n z (ih _ (by have := fs_lt z; omega))
  exact fun n => all n.natAbs n (zB _)
def val:List Int->Int
 |[]=>0
 |d::r=>d+2*val r
theorem fs_neg (n:Int):fs (-n) = -fs n:=by
 rcases fs_cases n with⟨e,_⟩|⟨e,_⟩|⟨e,_⟩<;>rcases fs_cases (-n) with⟨z,_⟩|⟨z,_⟩|⟨z,_⟩<;>rw[e,z]<;>omega
theorem naf_neg:∀n,naf (-n)=(naf n).map fun d=>0-d:=naf_ind rfl fun n h ih=>by
 rw[naf_step h,naf_step (n:=-n) (by omega),zQ,<-ih,fs_neg]
 have e:(-n - -fs n)/2 = -((n-fs n)/2):=by
  rcases fs_cases n with⟨e,_⟩|⟨e,_⟩|⟨e,_⟩<;>rw[e]<;>omega
 rw[e,Int.zero_sub]
theorem and1 (x:Int):Builtin.bitAnd x 1=x%2:=by
 have:=PySem.W.kbt_mask x 1
 simpa using this
def wt (ds:List Int):Nat:=(ds.filter fun d=>decide (d≠0)).length
def tWhl (c:TT)(tb:TS):TS:=fun D z H=>∃W:Nat->St->Hp->Prop,(∃m,W m z H)/\∀m z H,W m z H->∀N:St->Hp->Prop,(∀G B M,G<m->W G B M->N B M) ->
 c z H fun b J=>if b=true then tb { D with nx:=N,ct:=N,bk:=D.nx } z J else D.nx z J
theorem ps_whl {X:Cx}{pos:Pos}{c:Expr}{body:List Stmt}{tc:TT}{tb:TS}(hp:PassesOwn (model X.prog X.w) X.A X.env X.xe)(hc:PT X c tc)(hb:PSs X body tb):PS X (.While c body [] pos) (tWhl tc tb):=by
 intro pins s σ H D I h;obtain⟨W,⟨m0,w0⟩,turn⟩:=h;refine wpAny_While (codeAny_whileLoop (fun n s'=>∃G O,Inv X pins G O s'/\W n G O) ?_ m0 ⟨σ,H,I,w0⟩);rintro n s1 ⟨B,H1,I1,w1⟩;refine wpAny_passesOwn hp (thn (hc pins s1 B H1 _ I1 (turn n B H1 w1 (fun G O=>∃J,J<n/\W J G O) fun J _ _ l z=>⟨J,l,z⟩)) fun b s2 ⟨H2,I2,U⟩=>?_);cases b with
 |true =>
  rw[if_pos rfl]at U ⊢;refine wpAny_passesOwn hp (thn (hb pins s2 B H2 _ I2 U) fun f s3 Y=>?_);cases f with
  |next =>
   obtain⟨M,H3,I3,J,hm,w3⟩:=Y;exact⟨J,hm,M,H3,I3,w3⟩
  |cont =>
   obtain⟨M,H3,I3,J,hm,w3⟩:=Y;exact⟨J,hm,M,H3,I3,w3⟩
  |brk=>exact Y
  |ret v=>exact Y
 |false =>
  rw[if_neg zN]at U ⊢;exact wpAny_execs_nil ⟨B,H2,I2,U⟩
theorem whl {c:TT}{tb:TS}{D:Ends}{z:St}{H:Hp}(G:Nat->St->Hp->Prop)(m:Nat)(Y:G m z H)
  (U:∀m z H (N:St->Hp->Prop),G m z H->(∀M B J,M<m->G M B J->N B J)->c z H fun b O=>if b=true then tb { D with nx:=N,ct:=N,bk:=D.nx } z O else D.nx z O):tWhl c tb D z H :=
 ⟨G,⟨m,Y⟩,fun m z H p N hN=>U m z H N p hN⟩
theorem atI_m1 {ds:List Int}(h:ds≠[]):∃d∈ds,atI (ds.map V.int) (-1)=some (.int d)/\ds.getLast? = some d:=by
 obtain⟨z,d,rfl⟩:∃z d,ds=z++[d]:=⟨ds.dropLast,ds.getLast h,(List.dropLast_concat_getLast h).symm⟩;refine⟨d,by simp,?_,by simp⟩;rw[z9];exact atI_last _ _
theorem zAW {z β:Type}(f:z->β)(xs:List z):xs.filterMap (fun x=>some (f x))=xs.map f:=by
 induction xs with
 |nil=>rfl
 |cons x r ih=>rw[zY,ih];rfl
theorem xI {n:Nat}(h:n<=100000):n<=sizeLine:=zL h (by decide)
theorem jb {n:Nat}(h:n<100000):n<sizeLine:=qJ h (by decide)
theorem yE {H H':Hp}{r:Addr}{o:HO}(h:H r=none)(s:Same H H'):Same H (upd H' r o):=fun b u q=>by rw[yL (ne_of_none q h)];exact s b u q
def On2 (vs:List V)(P:Int->Int->Prop):Prop:=∃i j,vs=[.int i,.int j]/\P i j
theorem w_On2 {i j:Int}{P:Int->Int->Prop}:On2 [.int i,.int j] P=P i j:=propext ⟨fun⟨B,z,e,q⟩=>by cases e;exact q,fun q=>⟨i,j,rfl,q⟩⟩
section
variable {σ:St}{H:Hp}{D:Ends}{g:TG}{tb:TS}{K:zA}{Q:VK}{nt:Nat}{cs:List Nat}{tt:TT}{te:TE}
theorem w_for2b {z:TA}:tFor (iRng2 z) g tb D σ H=(z σ H fun B G=>On2 B fun i j=>(-(2^62)<=i/\i<2^62 /\ -(2^62)<=j/\j<2^62)/\ForR i (j-i).toNat g tb D σ G):=rfl
theorem w_comp2b {z:TA}:JL (iRng2 z) nt cs g tt te σ H Q=(z σ H fun B G=>On2 B fun i j=>(-(2^62)<=i/\i<2^62 /\ -(2^62)<=j/\j<2^62)/\yX (Itr i (j-i).toNat) nt cs g tt te σ G Q):=rfl
end
abbrev wn (n:Int):Nat:=wt (naf n)
theorem wt_cons (d:Int)(r:List Int):wt (d::r)=(if d=0 then 0 else 1)+wt r:=by
 unfold wt;rw[List.filter_cons];by_cases h:d=0
 ·simp[h]
 ·simp[h];omega
theorem wn_step (n:Int):wn n=(if fs n=0 then 0 else 1)+wn ((n-fs n)/2):=by
 by_cases h:n=0
 ·subst h;rfl
 ·show wt (naf n)=_
  rw[naf_step h,wt_cons]
theorem wt_neg:∀z:List Int,wt (z.map fun d=>0-d)=wt z
 |[]=>rfl
 |d::r=>by
  rw[zQ,wt_cons,wt_cons,wt_neg r]
  have:(0-d=0)↔(d=0):=by omega
  simp only[this]
theorem wn_neg (n:Int):wn (-n)=wn n:=by show wt (naf (-n))=_;rw[naf_neg,wt_neg]
theorem wn_dbl (n:Int):wn (2*n)=wn n:=by
 rw[wn_step (2*n)];have e:fs (2*n)=0:=by unfold fs;rw[if_pos (by omega)]
 rw[e,if_pos rfl,jJ]
 congr 2
 omega
theorem w_neB {a b:Bool}{H:Hp}{Q:VK}:rNe (.bl a) (.bl b) H Q=Q (.bl (!decide (a=b))) H :=
 propext (by
  have e:decide (V.bl a=V.bl b)=decide (a=b):=by by_cases h:a=b<;>simp[h]
  unfold rNe;rw[e];exact⟨fun h=>h.2,fun h=>⟨rfl,h⟩⟩)
theorem w_eqB {a b:Bool}{H:Hp}{Q:VK}:rEq (.bl a) (.bl b) H Q=Q (.bl (decide (a=b))) H :=
 propext (by
  have e:decide (V.bl a=V.bl b)=decide (a=b):=by by_cases h:a=b<;>simp[h]
  unfold rEq;rw[e];exact⟨fun h=>h.2,fun h=>⟨rfl,h⟩⟩)
abbrev SS:=List (Int×Int)×List Int
def stp (m:Int)(s:SS)(o:Int):SS:=if (s.1.lookup o).isSome=false/\(if o<0 then -o else o)<200 then (s.1++[(o,m)],s.2++[o]) else s
def kin (m n:Int)(s:SS)(k:Nat):SS:=stp m (stp m s (n+1*2^k)) (n-1*2^k)
def nin (m:Int)(s:SS)(n:Int):SS:=(zj 8).foldl (kin m n) s
def lev (s:SS)(m:Int):SS:=s.2.foldl (nin m) (s.1,[])
section
variable {prog:Program}{w:World}{A:Around}{R:Result->Shared->Prop}{I S:Addr}{fp wr:List Addr}{n:Nat}{P:Nat->Value->Prop}{St:Nat->Heap->Prop}{bt:Nat->Nat->Bool}{d:Value}
end
section
variable {prog:Program}{w:World}{A:Around}{E:Value->Shared->Prop}{s:Shared}{d x:Value}
end
def mz:List Int->Int
 |[]=>0
 |x::r=>if mz r<x then x else mz r
section
variable {X:Cx}{e:Expr}{es:List Expr}{kws:List Keyword}{t tk:TA}{p pos:Pos}
def tMaxD (t tk:TA):TE:=fun B H Q=>t B H fun J M=>tk B M fun O G=>∃(p:Addr) (z:List Int),J=[.ref p]/\O=[.int 0]/\G p=some (.lst (z.map V.int))/\(∀n∈z,0<=n)/\Q (.int (mz z)) G
end
section
variable {K:zA}{σ:St}{H:Hp}{Q:VK}
theorem w_maxD {t tk:TA}:tMaxD t tk σ H Q=t σ H fun B G=>tk σ G fun J z=>∃(p:Addr) (ns:List Int),B=[.ref p]/\J=[.int 0]/\z p=some (.lst (ns.map V.int))/\(∀n∈ns,0<=n)/\Q (.int (mz ns)) z:=rfl
theorem w_sl {r:V->Option Int->Option Int->Hp->VK->Prop}{B:TE}{tl z:TO}:tSl r B tl z σ H Q=B σ H fun x M=>tl σ M fun l J=>z σ J fun u G=>r x l u G Q:=rfl
theorem w_noPart {R:Option Int->Hp->Prop}:tNoPart σ H R=R none H:=rfl
theorem w_part {t:TE}{R:Option Int->Hp->Prop}:tPart t σ H R=t σ H fun x z=>∃i,x=.int i/\R (some i) z:=rfl
theorem w_slL {a:Addr}{lo B:Option Int}:rSlL K (.ref a) lo B H Q=∃z,SqL K H a z/\∀p,H p=none->Q (.ref p) (upd H p (.lst (cutV z lo B))) :=
 propext ⟨fun⟨G,z,e,h,q⟩=>by cases e;exact⟨z,h,q⟩,fun⟨z,h,q⟩=>⟨a,z,rfl,h,q⟩⟩
theorem comp_new {J:It}{xs:List V}{O:List Nat}{tt:TT}{te:TE}(f:V->Option V)(hz:xs.length<=sizeLine)
  (hJ:∀z,Same H z->(∀i,i<xs.length->J.go i z)/\(∀i x U,J.yld i z x U->U=z/\(i<xs.length->xs[i]? = some x))/\J.stop xs.length z)
  (hb:∀x z (R:Option V->Hp->Prop),x∈xs->Same H z->(∀B,Same z B->R (f x) B)->tt (some x::yF O σ) z fun b H4=>if b=true then te (some x::yF O σ) H4 fun y B=>R (some y) B else R none H4)
  (hd:∀acc z,H acc=none->Same H z->z acc=some (.lst (xs.filterMap f))->Q (.ref acc) z):yX J 1 O (xN 0) tt te σ H Q:=by
 intro acc hn;refine⟨fun i m G σ' z=>m=xs.length-i/\i<=xs.length/\(∃o,σ'=o::yF O σ)/\G=(xs.take i).filterMap f/\z acc=some (.lst G)/\Same H z,⟨_,rfl,zS _,⟨none,rfl⟩,by simp,upd_same,zU hn _⟩,?_⟩;rintro i m G σ' z ⟨rfl,hi,⟨o,rfl⟩,M,ha,sm⟩;refine⟨ha,?_⟩;have hl:G.length<=i:=by
  rw[M];exact zL (List.length_filterMap_le _ _) (by rw[qO];omega)
 by_cases Y:i<xs.length
 ·refine .inr ⟨(hJ _ sm).1 i Y,by omega,fun zs σ2 U=>(∃o,σ2=o::yF O σ)/\zs=(xs.take (i+1)).filterMap f/\U acc=some (.lst zs)/\Same H U,fun zs σ2 U ⟨q1,q2,q3,q4⟩=>⟨xs.length-(i+1),by omega,rfl,Y,q1,q2,q3,q4⟩,fun x U y=>?_⟩;obtain⟨e,hx⟩:=(hJ _ sm).2.1 i x U y;have hx:=hx Y;subst e;have tk:xs.take (i+1)=xs.take i++[x]:=by rw[zq,hx];rfl
  show tt (some x::yF O σ) _ _
  refine hb x _ (fun o B=>match o with|some y=>B acc=some (.lst G)/\(∃o,some x::yF O σ=o::yF O σ)/\G++[y]=(xs.take (i+1)).filterMap f/\upd B acc (.lst (G++[y])) acc=some (.lst (G++[y]))/\Same H (upd B acc (.lst (G++[y])))|none=>(∃o,some x::yF O σ=o::yF O σ)/\G=(xs.take (i+1)).filterMap f/\B acc=some (.lst G)/\Same H B) (qE hx) sm fun B s5=>?_;cases hf:f x with
  |none =>
   refine⟨⟨_,rfl⟩,?_,s5 _ _ ha,sm.trans s5⟩;rw[tk,xA,<-M];simp[hf]
  |some y =>
   refine⟨s5 _ _ ha,⟨_,rfl⟩,?_,upd_same,yE hn (sm.trans s5)⟩;rw[tk,xA,<-M];simp[hf]
 ·have e:i=xs.length:=by omega
  subst e;rw[zn]at M;subst M;exact .inl ⟨(hJ _ sm).2.2,hd acc z hn sm ha⟩
theorem comp_newL {a:Addr}{xs:List V}{J:List Nat}{M:TT}{O:TE}(h:SqL K H a xs)(hz:xs.length<=sizeLine)(f:V->Option V)
  (hb:∀x z (R:Option V->Hp->Prop),x∈xs->Same H z->(∀B,Same z B->R (f x) B)->M (some x::yF J σ) z fun b U=>if b=true then O (some x::yF J σ) U fun y B=>R (some y) B else R none U)
  (Y:∀acc z,H acc=none->Same H z->z acc=some (.lst (xs.filterMap f))->Q (.ref acc) z):yX (Itl K a) 1 J (xN 0) M O σ H Q :=
 comp_new f hz (fun z s=>by
  have G:=s.seq h
  exact⟨fun i hi=>⟨xs,xs[i],G,by simp[hi]⟩,fun i x H2 y=>⟨y.1,fun _=>y.2 xs G⟩,⟨xs,G,zB _⟩⟩) hb Y
end
def halN (c:Int):Nat:=if c>1 then Builtin.Int.intBits (c-1) else 0
def ld (ns:List Int):Int:=mz (ns.map fun n=>((halN (wn n:Nat):Nat):Int))
theorem key_rel {k:Key}{v:Value}(h:keyIs k v=true):RelV (kV k) v:=by
 rcases keyIs_shape h with⟨i,t,rfl,rfl⟩|⟨x,t,rfl,rfl⟩
 ·exact⟨t,rfl⟩
 ·exact⟨t,rfl⟩
section
variable {σ:St}{H:Hp}{Q:VK}{D:Ends}
theorem w_aug {i:Nat}{G:TE}{B:TIp}:tAug i G B D σ H=∃x,σ[i]? = some (some x)/\G σ H fun y M=>B x y M fun z J=>D.nx (σ.set i (some z)) J:=rfl
theorem w_ipI {f:Int->Int->Int}{i j:Int}:ipI f (.int i) (.int j) H Q=Q (.int (f i j)) H:=propext ⟨fun⟨_,_,z,B,q⟩=>by cases z;cases B;exact q,fun q=>⟨i,j,rfl,rfl,q⟩⟩
theorem w_dnK:tDNewK σ H Q=∀p,H p=none->Q (.ref p) (upd H p (.dK [])):=rfl
end
structure Dd where
 g:Int
 a:Nat
 s:Nat
 b:Nat
 t:Nat
def dnum (ns:List Int)(d:Dd):Int:=ns.getD d.a 0*2^d.s+d.g*(ns.getD d.b 0*2^d.t)
def ev (ds:List Dd):List Int:=ds.foldl (fun z d=>z++[dnum z d]) [1]
theorem Jt {z:Type}{p:List z->Prop}(G:p [])(B:∀xs x,p xs->p (xs++[x]))(xs:List z):p xs:=by
 have:p xs.reverse.reverse:=by
  generalize xs.reverse=H;induction H with
  |nil=>exact G
  |cons y r ih=>rw[List.reverse_cons];exact B _ _ ih
 rwa [List.reverse_reverse]at this
def coreN (n:Int):Int:=(JA n).headD 0
def shN (n:Int):Int:=(JA n).getD 1 0
def sgN (n:Int):Int:=(JA n).getD 2 0
theorem core_three (n:Int):JA n=[coreN n,shN n,sgN n]:=by
 by_cases h:n=0
 ·subst h;rfl
 ·obtain⟨m,k,B,z⟩:=J8 h;unfold coreN shN sgN;rw[z];rfl
theorem xM {n:Int}(h:n≠0):0<coreN n/\coreN n%2=1/\∃k:Nat,shN n=k/\coreN n*2^k*sgN n=n/\(sgN n=1\/sgN n = -1)/\(coreN n).natAbs<=n.natAbs/\2^k<=n.natAbs/\wn (coreN n)=wn n:=by
 obtain⟨m,k,M,B⟩:=J8 h;have H:coreN n=2*(m:Int)+1:=by unfold coreN;rw[B];rfl
 have U:shN n=k:=by unfold shN;rw[B];rfl
 have G:sgN n=if 0<n then 1 else -1:=by unfold sgN;rw[B];rfl
 have z:coreN n*2^k*sgN n=n:=by
  rw[H,G,<-M];unfold absI;split<;>split<;>omega
 have p:=jQ k;have ea:absI n=((n.natAbs:Nat):Int):=by unfold absI;split<;>omega
 have Y:((n.natAbs:Nat):Int)=(2*(m:Int)+1)*2^k:=by rw[<-ea,M]
 have J:n.natAbs=(2*m+1)*2^k:=by
  have:((n.natAbs:Nat):Int)=(((2*m+1)*2^k:Nat):Int):=by rw[Y,Int.natCast_mul,Int.natCast_pow];rfl
  exact Int.ofNat.inj this
 refine⟨by omega,by omega,k,U,z,by rw[G];split<;>simp,?_,?_,?_⟩
 ·rw[H,J];have:(2*(m:Int)+1).natAbs=2*m+1:=by omega
  rw[this];exact Nat.le_mul_of_pos_right _ (Nat.two_pow_pos k)
 ·rw[J];exact Nat.le_mul_of_pos_left _ (by omega)
 ·have O:∀(k:Nat) (c:Int),wn (c*2^k)=wn c:=by
   intro k;induction k with
   |zero=>intro c;rw[yq,yW]
   |succ k ih=>intro c;rw[y4,<-yY,Int.mul_comm _ 2,wn_dbl,ih]
  rcases(show sgN n=1\/sgN n = -1 by rw[G];split<;>simp) with e|e
  ·rw[e,yW]at z;rw[<-O k,z]
  ·rw[e,Int.mul_neg,yW]at z;rw[<-O k,<-wn_neg,z]
def ukv (us:List Int):List (Key×V):=us.map fun c=>(Sum.inl c,V.bl true)
theorem ukv_val:∀(us:List Int) (c:Int),xL (ukv us) (.inl c)=if c∈us then some (.bl true) else none
 |[],c=>by simp[ukv,valV_nil]
 |u::r,c=>by
  show xL ((Sum.inl u,V.bl true)::ukv r) (.inl c)=_
  by_cases h:u=c
  ·subst h
   rw[jm rfl,if_pos zM]
  ·rw[jn (fun z=>h (Sum.inl.inj z)),ukv_val r c]
   by_cases B:c∈r
   ·rw[if_pos B,if_pos (zF _ B)]
   ·rw[if_neg B,if_neg (by intro z;rcases zD.mp z with e|e;exact h e.symm;exact B e)]
theorem ukv_put (us:List Int)(c:Int):xg (ukv us) (.inl c) (.bl true)=ukv (if c∈us then us else us++[c]):=by
 by_cases h:c∈us
 ·rw[if_pos h];unfold xg;rw[xT,ukv_val,if_pos h,if_pos (show(some (V.bl true)).isSome=true from rfl)];unfold ukv;rw[yp];refine jV fun x _=>?_;show(if (Sum.inl x:Key)=Sum.inl c then ((Sum.inl x:Key),V.bl true) else (Sum.inl x,V.bl true))=_
  split<;>rfl
 ·rw[if_neg h,putK_new _ (by rw[ukv_val,if_neg h])];unfold ukv;rw[z9];rfl
theorem ukv_keys (us:List Int):(ukv us).map (fun q=>kV q.1)=us.map V.int:=by
 unfold ukv;rw[yp];rfl
def spCoreT:Sp:=fun z H Q _=>∃n:Int,z=[.int n]/\∀p,H p=none->Q (.ref p) (upd H p (.tup [.int (coreN n),.int (shN n),.int (sgN n)]))
section
variable {X:Cx}
end
section
variable {K:zA}{H:Hp}{Q:VK}
theorem w_ixT {p:Addr}{i:Int}:rIxT K (.ref p) (.int i) H Q=∃z,SqT K H p z/\∃v,atI z i=some v/\Q v H :=
 propext ⟨fun⟨J,z,M,v,G,B,h,a,q⟩=>by cases G;cases B;exact⟨z,h,v,a,q⟩,fun⟨z,h,v,a,q⟩=>⟨p,z,i,v,rfl,rfl,h,a,q⟩⟩
theorem w_eqS {x y:Str}:rEq (.str x) (.str y) H Q=Q (.bl (decide (x=y))) H :=
 propext (by
  have e:decide (V.str x=V.str y)=decide (x=y):=by by_cases h:x=y<;>simp[h]
  unfold rEq
  rw[e]
  exact⟨fun h=>h.2,fun h=>⟨rfl,h⟩⟩)
end
theorem Inv.turnedL {X:Cx}{pins:List (Addr×Obj)}{M:St}{H:Hp}{s:Shared}{h':Heap}{t':Nat}(ch:List Addr)(I:Inv X pins M H s)(k:∀b o,b∉ch->s.heap.get? b=some o->h'.get? b=some o)(J:∀b∈ch,FpOk X pins H b):Inv X pins M H { s with heap:=h',toks:=t' }:=by
 have G:∀b u,H b=some u->b∉ch:=fun b u e z=>by rw[(J b z).1]at e;cases e
 refine I.step (g':=s.gens) (d':=s.drawn) (ch:=ch) (fun b hb=>?_) (fun b o _ _ B e _=>k b o B e) (fun b o _ _ B e _=>⟨o.slots,k b o B e⟩) (fun _ _ _ _ n=>n)
  (fun b o B e=>⟨o,k b o B e⟩) (fun _ _ e=>e) (fun _ _ _ e=>e) (fun b ps e=>⟨#[],by rw[e];simp⟩) (fun m Y=>?_) (fun b u e=>?_) I.bare
 ·obtain⟨f0,f1,f2,f3,f4,f5⟩:=J b hb;exact⟨f3,f1,f4,f5⟩
 ·obtain⟨o,O,U,ho,r⟩:=Y;exact⟨o,O,U,k _ o (fun z=>(J _ z).2.1 rfl) ho,r⟩
 ·refine(I.hok b u e).stay (fun c v B q=>k c v ?_ q) (fun _ q=>q) fun _ _ q=>q;rcases B with z|z
  ·rw[z];exact G b u e
  ·exact G c _ z
theorem zAQ {h:Heap}{b:Addr}{o z:Obj}(n:b≠h.objs.size)(e:(h.push z).get? b=some o):h.get? b=some o:=by
 rw[Heap.get?_push_ne h b z n]at e;exact e
def Itz (K : zA)(a b : Addr) : It :=
  ⟨fun i H => ∃z B, SqL K H a z∧SqL K H b B∧i<z.length∧i<B.length,
   fun i H x G => ∃T u v, x=.ref T∧H T=none∧G=upd H T (.tup [u, v])∧(∀z, SqL K H a z → z[i]? = some u)∧(∀B, SqL K H b B → B[i]? = some v),
   fun i H => ∃z B, SqL K H a z∧SqL K H b B∧(z.length ≤ i∨B.length ≤ i)⟩
def tnZ (z TI TO B G a b:Addr)(i:Nat)(h:Heap):Prop:=IsZip h z TI TO .none/\IsPair h TI (.ref B) (.ref G)/\(∃x y,IsPair h TO x y)/\h.IsListIter B a i/\h.IsListIter G b i
theorem turn_zip {P:Program}{w:World}{K:zA}{elts:List Expr}{x1:Nat}{pos:Pos}{z TI TO G J a b:Addr}(D:ZipApart z TI TO G J a b):Turn P w K (.Tuple elts x1 pos) (Itz K a b) [z,TI,TO,G,J] z (tnZ z TI TO G J a b) where
 mem:=by simp
 obj:=fun i h M c B=>by
  obtain⟨t1,O,⟨x0,y0,Y⟩,⟨o4,e4,c4,d4⟩,⟨o5,e5,c5,d5⟩⟩:=M
  simp only[zD,zW,or_false]at B
  rcases B with e|e|e|e|e<;>subst e
  ·exact⟨_,t1,fun v q=>by cases q⟩
  ·exact⟨_,O,fun v q=>by cases q⟩
  ·exact⟨_,Y,fun v q=>by cases q⟩
  ·exact⟨o4,e4,fun v q=>by rw[d4]at q;cases q⟩
  ·exact⟨o5,e5,fun v q=>by rw[d5]at q;cases q⟩
 keep:=fun i h h' M k=>by
  obtain⟨t1,O,⟨x0,y0,Y⟩,t4,t5⟩:=M
  exact⟨k z (by simp) _ t1,k TI (by simp) _ O,⟨x0,y0,k TO (by simp) _ Y⟩,t4.at fun o e=>k G (by simp) o e,t5.at fun o e=>k J (by simp) o e⟩
 item:=by
  intro X hP hw hK B i pins s σ H E I hf M hg;subst hP hw hK;obtain⟨xs,ys,hq,U,hi,hi2⟩:=hg;obtain⟨its,rv,p,hz⟩:=I.list hq;obtain⟨its2,rv2,p2,hz2⟩:=I.list U;obtain⟨u,hu,ru⟩:=rv.get (qA hi);obtain⟨v,hv,rv'⟩:=rv2.get (qA hi2);obtain⟨t1,O,⟨x0,y0,Y⟩,t4,t5⟩:=M;have hl1:z<s.heap.objs.size:=Heap.lt_size t1;have hl3:TO<s.heap.objs.size:=Heap.lt_size Y;have hl2:TI<s.heap.objs.size:=Heap.lt_size O;have hl4:G<s.heap.objs.size:=by obtain⟨o,e,_⟩:=t4;exact Heap.lt_size e
  have hl5:J<s.heap.objs.size:=by obtain⟨o,e,_⟩:=t5;exact Heap.lt_size e
  refine wpAny_pyNext_zip_item D t1 O Y t4 t5 p.isList p2.isList (x:=u) (y:=v) (by simpa using hu) (by simpa using hv) fun h' a1 a2 a3 a4 a5 a6 a7=>⟨_,rfl,?_⟩;refine wpAny_letOwnedTupleGo_zip a1 fun h2 b1 b2=>?_;have hT0:H s.heap.objs.size=none:=I.hok.fresh (zB _);have I1:Inv X pins σ (upd H s.heap.objs.size (.tup [xs[i],ys[i]])) { s with heap:=s.heap.push { cls:=.type "tuple",data:=.seq [u,v].toArray } } :=
   I.laid (t':=s.toks) (fun b o e=>Heap.get?_push_of_some _ e) (zB _) (show ObjOk X.prog X.w _ _ _ (.tup [xs[i],ys[i]]) from⟨zZ (by show 2<=1000;decide),[u,v],.cons ru (.cons rv' .nil),IsTup.new _ _⟩)
  have fpk:∀c∈[z,TI,TO,G,J],c≠s.heap.objs.size:=fun c B=>by
   simp only[zD,zW,or_false]at B;rcases B with e|e|e|e|e<;>subst e<;>exact zG (by assumption)
  have fp2:∀c∈[z,TI,TO,G,J],FpOk X pins (upd H s.heap.objs.size (.tup [xs[i],ys[i]])) c:=fun c B=>by
   obtain⟨f0,f⟩:=hf c B;exact⟨by rw[yL (fpk c B)];exact f0,f⟩
  have I2:Inv X pins σ (upd H s.heap.objs.size (.tup [xs[i],ys[i]])) { s with heap:=h2 }:=by
   refine Inv.turnedL (s:={ s with heap:=s.heap.push { cls:=.type "tuple",data:=.seq [u,v].toArray } }) (t':=s.toks) (h':=h2) [z,TO,G,J] I1 (fun b o hb e=>?_) (fun c B=>fp2 c (by simp only[zD,zW,or_false]at B ⊢;rcases B with e|e|e|e<;>simp[e]));simp only[zD,zW,or_false,not_or]at hb;obtain⟨n1,n2,n3,n4⟩:=hb;refine(b2.2 b n1).trans ?_;by_cases hT:b=s.heap.objs.size
   ·subst hT;rw[Heap.get?_push_size _ rfl]at e;rw[<-e];exact a5
   ·exact a7 b o n1 n2 n3 n4 (zAQ hT e)
  have t4':h2.IsListIter G a (i+1):=a3.at fun o e=>(b2.2 _ D.i1z).trans e;have t5':h2.IsListIter J b (i+1):=a4.at fun o e=>(b2.2 _ D.i2z).trans e;refine⟨.ref s.heap.objs.size,_,I2,rfl,⟨_,xs[i],ys[i],rfl,hT0,rfl,fun zs h=>?_,fun zs h=>?_⟩,⟨b1,(b2.2 _ D.TIz).trans (a7 TI _ D.TIz D.TITO D.TIi1 D.TIi2 O),⟨_,_,(b2.2 _ D.TOz).trans a2⟩,t4',t5'⟩,fun c B=>(fp2 c B).1⟩
  ·rw[I.list_inj h hq];exact qA hi
  ·rw[I.list_inj h U];exact qA hi2
 done:=by
  intro X hP hw hK B i pins s σ H E I hf M hg;subst hP hw hK;obtain⟨xs,ys,hq,U,hend⟩:=hg;obtain⟨its,rv,p,hz⟩:=I.list hq;obtain⟨its2,rv2,p2,hz2⟩:=I.list U;obtain⟨t1,O,⟨x0,y0,Y⟩,t4,t5⟩:=M;refine wpAny_pyNext_zip_end (I.ok.hd B) D t1 O Y t4 t5 p.isList p2.isList ?_ fun h' a7=>⟨rfl,?_⟩
  ·rcases hend with e|e
   ·left;simp[<-rv.length,e]
   ·right;simp[<-rv2.length,e]
  ·refine Inv.turnedL (t':=s.toks) (h':=h') [z,TO,G,J] I (fun b o hb e=>?_) (fun c B=>hf c (by simp only[zD,zW,or_false]at B ⊢;rcases B with e|e|e|e<;>simp[e]));simp only[zD,zW,or_false,not_or]at hb;obtain⟨n1,n2,n3,n4⟩:=hb;exact a7 b o n1 n2 n3 n4 e
 self:=fun _ _ _ _ _ M h=>wpAny_pyIter_zip M.1 h
def iZip (K:zA)(M:TA):TI:=fun J H R=>M J H fun B z=>∃a b G O,B=[.ref a,.ref b]/\SqL K z a G/\SqL K z b O/\R (Itz K a b) z
theorem pi_zip {X:Cx} {elts:List Expr} {x1:Nat} {J:Pos} {a b:Expr} {ta:TA} {p pos:Pos} (hg:Gl X "zip") (hm:X.mg "zip" = none) (ha:PA X [a,b] ta) (hs:starEach [a,b] X.env=(false,eval a X.env)::starEach [b] X.env:=by rfl) (U:(backTo pos (starEach [b] X.env)).any (·.1)=false:=by rfl) :
  PI X (.Tuple elts x1 J) (.Call (.Name "zip" p) [a,b] [] pos) (iZip X.K ta):=by
 intro pins s σ H R I h;refine Call_ (Jf I hg hm bo_zip (PyProof.Rows.callWith_type1 (thn (ha pos pins s σ H _ I h) fun us z ⟨vs,H1,B,r1,q1⟩=>?_) hs U));obtain⟨M,O,xs,ys,e,hq,ae,q⟩:=q1;subst e;obtain⟨u1,u2,rfl,Y,ac⟩:=vals2 r1;cases (show u1=Value.ref M from Y)
 cases (show u2=Value.ref O from ac)
 obtain⟨its,rv,pl,hz⟩:=B.list hq;obtain⟨its2,rv2,G,hz2⟩:=B.list ae;have aa:M<z.heap.objs.size:=by obtain⟨o,e,_⟩:=pl.isList;exact Heap.lt_size e
 have ad:O<z.heap.objs.size:=by obtain⟨o,e,_⟩:=G.isList;exact Heap.lt_size e
 refine call_zip_2 pl.isList G.isList fun h' z1 z2 z3 z4 z5 z6 z7=>?_;have I2:Inv X pins σ H1 { z with heap:=h' }:=B.kept (t':=z.toks) z7;refine wpAny_pyIter_zip z1 ?_;have D:ZipApart (z.heap.objs.size+4) (z.heap.objs.size+2) (z.heap.objs.size+3) z.heap.objs.size (z.heap.objs.size+1) M O:=by
  have q1:@LT.lt Nat _ M z.heap.objs.size:=aa;have q2:@LT.lt Nat _ O z.heap.objs.size:=ad;constructor<;>(show ¬ @Eq Nat _ _;omega)
 refine⟨z.heap.objs.size+4,_,_,_,H1,rfl,I2,turn_zip D,⟨z1,z2,⟨_,_,z3⟩,z4,z5⟩,fun c hc=>?_,q⟩;have hle:z.heap.objs.size<=c:=by
  simp only[zD,zW,or_false]at hc;show(z.heap.objs.size:Nat)<=c
  rcases hc with e|e|e|e|e<;>subst e<;>(show @LE.le Nat _ _ _;omega)
 exact B.fpOk hle (B.hok.fresh hle)
def Ite (K : zA)(a : Addr) : It :=
  ⟨fun i H => ∃z, SqL K H a z∧i<z.length,
   fun i H x B => ∃T u, x=.ref T∧H T=none∧B=upd H T (.tup [.int (i : Int), u])∧(∀z, SqL K H a z → z[i]? = some u),
   fun i H => ∃z, SqL K H a z∧z.length ≤ i⟩
def iEnum (K:zA)(M:TA):TI:=fun J H R=>M J H fun B z=>∃a G,B=[.ref a]/\SqL K z a G/\R (Ite K a) z
section
variable {K:zA}{σ:St}{H:Hp}{Q:VK}
theorem jR {J:It}{nt:Nat}{cs:List Nat}{g:TG}{tt:TT}{te:TE}(n:Nat)(M:Addr->Nat->List V->Hp->Prop)(hz:n<=sizeLine)
  (hgo:∀acc i z B,i<n->M acc i z B->J.go i B) (hst:∀acc z B,M acc n z B->J.stop n B)
  (h0:∀acc,H acc=none->M acc 0 [] (upd H acc (.lst []))) (hacc:∀acc i z B,M acc i z B->B acc=some (.lst z)/\z.length<=i)
  (hs:∀acc i z B (G:St) x U (N:List V->St->Hp->Prop),H acc=none->i<n->M acc i z B->J.yld i B x U->G.length=nt->(∀zs (O:St) H3,O.length=nt->M acc (i+1) zs H3->N zs (O++yF cs σ) H3) ->
   g x (G++yF cs σ) U fun Y H3=>tt Y H3 fun b H4=>if b=true then te Y H4 fun y H5=>H5 acc=some (.lst z)/\N (z++[y]) Y (upd H5 acc (.lst (z++[y]))) else N z Y H4)
  (hd:∀acc z B,H acc=none->M acc n z B->Q (.ref acc) B):yX J nt cs g tt te σ H Q:=by
 intro acc hn;refine⟨fun i m z σ' B=>m=n-i/\i<=n/\(∃G:St,G.length=nt/\σ'=G++yF cs σ)/\M acc i z B,⟨_,rfl,zS _,⟨qQ nt none,qL,rfl⟩,h0 acc hn⟩,?_⟩;rintro i m z σ' B ⟨rfl,hi,⟨G,hts,rfl⟩,p⟩;obtain⟨ha,hl⟩:=hacc acc i z B p;refine⟨ha,?_⟩;by_cases hlt:i<n
 ·refine .inr ⟨hgo acc i z B hlt p,by omega,fun zs aa U=>(∃G:St,G.length=nt/\aa=G++yF cs σ)/\M acc (i+1) zs U,fun zs aa U ⟨q1,q2⟩=>⟨n-(i+1),by omega,rfl,hlt,q1,q2⟩,fun x U y=>?_⟩;exact hs acc i z B G x U (fun zs aa U=>(∃G:St,G.length=nt/\aa=G++yF cs σ)/\M acc (i+1) zs U) hn hlt p y hts fun zs O H3 h1 h2=>⟨⟨O,h1,rfl⟩,h2⟩
 ·have e:i=n:=by omega
  subst e;exact .inl ⟨hst acc z B p,hd acc z B hn p⟩
theorem w_compE {J:TA}{G:Nat}{z:List Nat}{g:TG}{B:TT}{O:TE}:JL (iEnum K J) G z g B O σ H Q=(J σ H fun U M=>∃a Y,U=[.ref a]/\SqL K M a Y/\yX (Ite K a) G z g B O σ M Q):=rfl
theorem w_compZ {M:TA}{J:Nat}{B:List Nat}{g:TG}{G:TT}{O:TE}:JL (iZip K M) J B g G O σ H Q=(M σ H fun U z=>∃a b Y ys,U=[.ref a,.ref b]/\SqL K z a Y/\SqL K z b ys/\yX (Itz K a b) J B g G O σ z Q):=rfl
end
def Itr3 (lo c:Int)(n:Nat):It:=⟨fun i _=>i<n,fun i H x z=>z=H/\x=.int (lo+i*c),fun i _=>n<=i⟩
theorem turn_range3 {P:Program}{w:World}{K:zA}{tg:Expr}(it:Addr)(lo c:Int)(n:Nat):Turn P w K tg (Itr3 lo c n) [it] it (fun i h=>IsRangeIter h it (lo+(i:Nat)*c) ((n:Int)-(i:Nat)) c) where
 mem:=by simp
 obj:=fun i h B b G=>by
  have e:b=it:=by simpa using G
  subst e
  exact⟨_,B,fun v z=>by
   have z':Data.fields _=Data.cell v:=z
   cases z'⟩
 keep:=fun i h M B k=>k it (by simp) _ B
 item:=by
  intro X hP hw hK hc i pins s σ H E I O B hg;subst hP hw hK;obtain⟨Y,U,f2,f3,f4,f5⟩:=O it (by simp);have W:=Walks.range (prog:=X.prog) (w:=X.w) (I.ok.hd hc) it lo c n;refine W.item i s _ _ hg B fun v M tk hv J kk=>?_;obtain⟨t,rfl⟩:=hv;have I1:Inv X pins σ H { s with heap:=M,toks:=tk }:=I.turned (fun b o G e=>kk b o (by simpa using G) e) Y U f3 f4 f5;exact⟨_,rfl,go_of (s:={ s with heap:=M,toks:=tk }) (n:="range_iterator") J rfl rfl (by decide) ⟨.int (lo+i*c),H,I1,⟨t,rfl⟩,⟨rfl,rfl⟩,J,fun b G=>(O b G).1⟩⟩
 done:=by
  intro X hP hw hK hc i pins s σ H E I O B hg;subst hP hw hK;obtain⟨Y,U,f2,f3,f4,f5⟩:=O it (by simp);exact wpAny_pyNext_range_end (I.ok.hd hc) B (by have:n<=i:=hg;omega) fun M eb=>⟨rfl,I.turned (t':=s.toks) (fun b o G e=>eb b o G e) Y U f3 f4 f5⟩
 self:=fun _ _ _ _ _ B h=>wpAny_pyIter_rangeiter B h
def stepN (lo z c:Int):Nat:=(Builtin.Range.rangeSize lo z c).toNat
def iRng3 (G:TA):TI:=fun B H R=>G B H fun z J=>∃i j c:Int,z=[.int i,.int j,.int c]/\(0<=i/\i<2^31 /\ -1<=j/\j<2^31/\c=2)/\R (Itr3 i c (stepN i j c)) J
theorem small_two {a b:Int}(h:0<=a/\a<2^31 /\ -1<=b/\b<2^31):Builtin.Range.small a b 2=true:=by
 unfold Builtin.Range.small;simp only[Builtin.Range.rangeSize,Builtin.Range.rangeFitsLong,zX,Bool.or_eq_true,decide_eq_true_eq,beq_iff_eq,show(2:Int)>0 by decide,if_true];split<;>omega
theorem J9 {a b:Int}:((stepN a b 2:Nat):Int)=Builtin.Range.rangeSize a b 2:=by
 unfold stepN;have:0<=Builtin.Range.rangeSize a b 2:=by
  unfold Builtin.Range.rangeSize;rw[if_pos (by decide)];split<;>omega
 omega
theorem pi_range3 {X:Cx} {tg:Expr} {a b c:Expr} {Y:TA} {p pos:Pos} (hg:Gl X "range") (hm:X.mg "range" = none) (ha:PA X [a,b,c] Y) (hs:starEach [a,b,c] X.env=(false,eval a X.env)::starEach [b,c] X.env:=by rfl) (U:(backTo pos (starEach [b,c] X.env)).any (·.1)=false:=by rfl) :
  PI X tg (.Call (.Name "range" p) [a,b,c] [] pos) (iRng3 Y):=by
 intro pins s σ H R I h;refine Call_ (Jf I hg hm boot_range (PyProof.Rows.callWith_type1 (thn (ha pos pins s σ H _ I h) fun us z ⟨vs,H1,I1,r1,M⟩=>?_) hs U));obtain⟨i,j,c,e,⟨M,q2,q3,q4,rfl⟩,q⟩:=M;subst e;cases r1 with
 |cons r G =>
  cases G with
  |cons r' G =>
   cases G with
   |cons r3 G =>
    cases G
    obtain⟨t,rfl⟩:=r;obtain⟨B,rfl⟩:=r';obtain⟨J,rfl⟩:=r3;refine call_range_3 (by decide) ?_ (Or.inl (PyProof.noPylong_of_log2 (by decide +kernel)));refine wpAny_pyIter_range (IsRange.new ..) (small_two ⟨M,q2,q3,q4⟩) ?_;have O:Inv X pins σ H1 { z with heap:=z.heap.push { cls:=.type "range",data:=.fields #[.int i t,.int j B,.int 2 J] },toks:=z.toks }:=I1.kept fun b o e=>Heap.get?_push_of_some _ e;refine⟨(z.heap.push { cls:=.type "range",data:=.fields #[.int i t,.int j B,.int 2 J] }).objs.size,[(z.heap.push { cls:=.type "range",data:=.fields #[.int i t,.int j B,.int 2 J] }).objs.size],_,_,H1,rfl,O.kept (t':=z.toks) fun b o e=>Heap.get?_push_of_some _ e,turn_range3 _ i 2 (stepN i j 2),?_,fun b hb=>?_,q⟩
    ·have e1:i+((0:Nat):Int)*2=i:=by omega
     have e2:((stepN i j 2:Nat):Int)-((0:Nat):Int)=Builtin.Range.rangeSize i j 2:=by rw[J9];omega
     show IsRangeIter _ _ (i+((0:Nat):Int)*2) (((stepN i j 2:Nat):Int)-((0:Nat):Int)) 2
     rw[e1,e2];exact Heap.get?_push_size _ rfl
    ·have e:b=(z.heap.push { cls:=.type "range",data:=.fields #[.int i t,.int j B,.int 2 J] }).objs.size:=by simpa using hb
     subst e;exact O.fpOk (zB _) (O.hok.fresh (zB _))
def ForR3 (lo c:Int)(n:Nat)(g:TG)(tb:TS)(D:Ends)(G:St)(H:Hp):Prop:=∃W:Nat->Nat->St->Hp->Prop,(∃m,W 0 m G H)/\∀i m G H,W i m G H ->
 ((Itr3 lo c n).stop i H/\D.nx G H)\/((Itr3 lo c n).go i H/\∃N:St->Hp->Prop,(∀B z,N B z->∃M,M<m/\W (i+1) M B z)/\∀x z,(Itr3 lo c n).yld i H x z->g x G z fun J O=>tb { D with nx:=N,ct:=N,bk:=D.nx } J O)
section
variable {σ:St}{H:Hp}{D:Ends}{g:TG}{tb:TS}{lo c:Int}{n:Nat}
theorem w_for3 {z:TA}:tFor (iRng3 z) g tb D σ H=(z σ H fun B G=>∃i j c:Int,B=[.int i,.int j,.int c]/\(0<=i/\i<2^31 /\ -1<=j/\j<2^31/\c=2)/\ForR3 i c (stepN i j c) g tb D σ G):=rfl
theorem forR3 (J:Nat->St->Hp->Prop)(h0:J 0 σ H)(Y:∀i σ H (N:St->Hp->Prop),i<n->J i σ H->(∀G M,J (i+1) G M->N G M)->g (.int (lo+i*c)) σ H fun O H2=>tb { D with nx:=N,ct:=N,bk:=D.nx } O H2)
  (hd:∀σ H,J n σ H->D.nx σ H):ForR3 lo c n g tb D σ H:=by
 refine⟨fun i m σ H=>m=n-i/\i<=n/\J i σ H,⟨n,by simp,zS _,h0⟩,?_⟩;rintro i m σ H ⟨rfl,hi,p⟩;by_cases B:i<n
 ·refine .inr ⟨B,J (i+1),fun G M U=>⟨n-(i+1),by omega,rfl,B,U⟩,fun x M y=>?_⟩;obtain⟨e,rfl⟩:=y;subst e;exact Y i σ _ (J (i+1)) B p fun _ _ z=>z
 ·have e:i=n:=by omega
  subst e;exact .inl ⟨zB _,hd σ H p⟩
end
open PySem PySem.Spec
theorem get_snoc {z:Type}{xs:List z}{x y:z}{i:Nat}(h:(xs++[x])[i]? = some y):(i<xs.length/\xs[i]? = some y)\/(i=xs.length/\y=x):=by
 by_cases B:i<xs.length
 ·rw[qH B]at h;exact .inl ⟨B,h⟩
 ·rw[qG (by omega)]at h;have G:i-xs.length=0:=by
   cases H:i-xs.length with
   |zero=>rfl
   |succ m=>rw[H]at h;simp at h
  rw[G]at h;cases h
  exact .inr ⟨by omega,rfl⟩
def gTupK (K:zA)(n:Nat)(t:TGs):TG:=gTup K n t
section
variable {K:zA}{σ:St}{H:Hp}{R:St->Hp->Prop}
theorem w_gTupK {n:Nat}{t:TGs}{a:Addr}:gTupK K n t (.ref a) σ H R=∃z,SqT K H a z/\z.length=n/\t z σ H R :=
 propext ⟨fun⟨B,z,e,h,l,q⟩=>by cases e;exact⟨z,h,l,q⟩,fun⟨z,h,l,q⟩=>⟨a,z,rfl,h,l,q⟩⟩
end
section
variable {X:Cx}{pins:List (Addr×Obj)}{σ:St}{H:Hp}{s:Shared}{p:Addr}{xs:List V}
def gLst (n:Nat)(t:TGs):TG:=fun v σ H Q=>∃a xs,v=.ref a/\H a=some (.lst xs)/\xs.length=n/\t xs σ H Q
end
section
variable {σ:St}{H:Hp}{R:St->Hp->Prop}
theorem w_gLst {n:Nat}{t:TGs}{a:Addr}:gLst n t (.ref a) σ H R=∃z,H a=some (.lst z)/\z.length=n/\t z σ H R :=
 propext ⟨fun⟨B,z,e,h,l,q⟩=>by cases e;exact⟨z,h,l,q⟩,fun⟨z,h,l,q⟩=>⟨a,z,rfl,h,l,q⟩⟩
end
def ForE (K:zA)(a:Addr)(g:TG)(tb:TS)(D:Ends)(G:St)(H:Hp):Prop:=∃W:Nat->Nat->St->Hp->Prop,(∃m,W 0 m G H)/\∀i m G H,W i m G H ->
 ((Ite K a).stop i H/\D.nx G H)\/((Ite K a).go i H/\∃N:St->Hp->Prop,(∀B z,N B z->∃M,M<m/\W (i+1) M B z)/\∀x z,(Ite K a).yld i H x z->g x G z fun J O=>tb { D with nx:=N,ct:=N,bk:=D.nx } J O)
section
variable {K:zA}{σ:St}{H:Hp}{D:Ends}{g:TG}{tb:TS}{a:Addr}
theorem w_forE {B:TA}:tFor (iEnum K B) g tb D σ H=(B σ H fun G z=>∃a J,G=[.ref a]/\SqL K z a J/\ForE K a g tb D σ z):=rfl
end
def mvI (s n:Int):Int:=n*2^(if 0>s then (0:Int) else s).toNat/2^(if 0>0-s then (0:Int) else 0-s).toNat
structure Wd where
 w:Str
 a:Nat
 s:Int
 b:Nat
 t:Int
structure Go where
 th:Nat
 sh:Int
 sg:Int
structure HTs {α:Type} (f:α->List V) (H:Hp) (vs:List V) (xs:List α):Prop where
 len:vs.length=xs.length
 at_:∀(k:Nat) (x:α),xs[k]? = some x->∃p:Addr,vs[k]? = some (.ref p)/\H p=some (.tup (f x))
section
variable {α:Type}{f:α->List V}{H H':Hp}{vs us:List V}{xs:List α}{l:Addr}
theorem HTs.same (h:HTs f H vs xs)(s:Same H H'):HTs f H' vs xs:=⟨h.len,fun k d e=>by
 obtain⟨x,z,B⟩:=h.at_ k d e
 exact⟨x,z,s _ _ B⟩⟩
theorem HTs.chgL (h:HTs f H vs xs)(G:H l=some (.lst us))(c:Chg l H H'):HTs f H' vs xs:=⟨h.len,fun k d e=>by
 obtain⟨x,J,B⟩:=h.at_ k d e
 exact⟨x,J,c _ _ (JE B G (by intro z;cases z)) B⟩⟩
theorem HTs.snoc {x:α}{p:Addr}(h:HTs f H vs xs)(M:H p=some (.tup (f x))):HTs f H (vs++[.ref p]) (xs++[x]):=by
 refine⟨by simp[h.len],fun k e J=>?_⟩;rcases get_snoc J with⟨B,z⟩|⟨B,rfl⟩
 ·obtain⟨y,O,G⟩:=h.at_ k e z;exact⟨y,by rw[qH (by rw[h.len];exact B)];exact O,G⟩
 ·refine⟨p,?_,M⟩;rw[qG (by rw[h.len];omega),h.len,B,Nat.sub_self];rfl
theorem hts_nil:HTs f H [] []:=⟨rfl,fun k d h=>by simp at h⟩
end
section
variable {H H':Hp}{ex:List Addr}{vs:List V}{rs:List (List Int)}{l:Addr}
end
theorem cf_mem:∀(names:List (Str×NameKind)) (n:Nat) (acc:List (Str×Addr)) (p:Str×Addr),p∈cellsFrom n names acc->p∈acc\/((p.1,NameKind.cell)∈names/\n<=p.2)
 |[],_,_,_,h=>.inl h
 |(y,k)::r,n,acc,p,h=>by
  unfold cellsFrom at h
  by_cases B:(k==.cell)=true
  ·rw[if_pos B]at h
   have G:k=.cell:=by simpa using B
   subst G
   rcases cf_mem r (n+1) _ p h with z|⟨z,l⟩
   ·rcases zD.mp z with e|e
    ·subst e
     exact .inr ⟨zM,zB _⟩
    ·exact .inl e
   ·exact .inr ⟨zF _ z,yN l⟩
  ·rw[if_neg B]at h
   rcases cf_mem r n acc p h with z|⟨z,l⟩
   ·exact .inl z
   ·exact .inr ⟨zF _ z,l⟩
theorem cf_inj:∀(names:List (Str×NameKind)) (n lo:Nat) (acc:List (Str×Addr)),lo<=n->(∀p∈acc,(p.2:Nat)<n)->(∀(x y:Str) (c:Addr),(x,c)∈acc->(y,c)∈acc->lo<=c->x=y) ->
  ∀(x y:Str) (c:Addr),(x,c)∈cellsFrom n names acc->(y,c)∈cellsFrom n names acc->lo<=c->x=y
 |[],_,_,_,_,_,J,x,y,c,G,B,l=>J x y c G B l
 |(z,k)::r,n,lo,acc,O,M,J,x,y,c,G,B,l=>by
  unfold cellsFrom at G B
  by_cases U:(k==.cell)=true
  ·rw[if_pos U]at G B
   refine cf_inj r (n+1) lo _ (Nat.le_succ_of_le O) (fun p Y=>?_) (fun x y c a b l=>?_) x y c G B l
   ·rcases zD.mp Y with e|e
    ·subst e;exact yS _
    ·exact zm (M p e)
   ·rcases zD.mp a with e|e<;>rcases zD.mp b with H|H
    ·rw[(Prod.mk.inj e).1,(Prod.mk.inj H).1]
    ·have:=M _ H
     rw[(Prod.mk.inj e).2]at this
     exact absurd this (zt _)
    ·have:=M _ e
     rw[(Prod.mk.inj H).2]at this
     exact absurd this (zt _)
    ·exact J x y c e H l
  ·rw[if_neg U]at G B
   exact cf_inj r n lo acc O M J x y c G B l
theorem cf_keep {x:Str}{c:Addr}:∀(names:List (Str×NameKind)) (n:Nat) (acc:List (Str×Addr)),acc.lookup x=some c->(x,NameKind.cell)∉names->(cellsFrom n names acc).lookup x=some c
 |[],_,_,h,_=>h
 |(y,k)::r,n,acc,h,B=>by
  unfold cellsFrom
  have J:(x,NameKind.cell)∉r:=fun z=>B (zF _ z)
  by_cases G:(k==.cell)=true
  ·rw[if_pos G]
   have M:k=.cell:=by simpa using G
   subst M
   refine cf_keep r (n+1) _ ?_ J
   rw[jK]
   have H:(x==y)=false:=by
    cases e:x==y with
    |false=>rfl
    |true=>rw[beq_iff_eq.mp e]at B;exact absurd zM B
   rw[H];exact h
  ·rw[if_neg G];exact cf_keep r n acc h J
theorem cf_new:∀(names:List (Str×NameKind)) (h:Heap) (acc:List (Str×Addr)) (p:Str×Addr),p∈cellsFrom h.objs.size names acc->p∈acc\/(pushCells h names).IsCell p.2 none
 |[],_,_,_,h=>.inl h
 |(y,k)::r,h,acc,p,B=>by
  unfold cellsFrom at B
  unfold pushCells
  by_cases G:(k==.cell)=true
  ·rw[if_pos G]at B ⊢
   have:=cf_new r (h.push { cls:=.type "cell",data:=.cell none }) ((y,h.objs.size)::acc) p (by rw[Heap.size_push];exact B)
   rcases this with z|z
   ·rcases zD.mp z with e|e
    ·subst e
     exact .inr ⟨_,pushCells_keeps r _ _ _ (Heap.get?_push_size _ rfl),rfl⟩
    ·exact .inl e
   ·exact .inr z
  ·rw[if_neg G]at B ⊢
   exact cf_new r h acc p B
theorem jo {scope:Scope}{env:Env}{x:Str}{c:Addr}(m:(x,c)∈xH scope env):env.cells.lookup x=some c/\(x,NameKind.free)∈scope.names:=by
 unfold xH at m;rw[yl,jf]at m;obtain⟨⟨n,k⟩,B,e⟩:=m;split at e
 ·rename_i z
  have z:k=.free:=by simpa using z
  subst z;cases q:env.cells.lookup n with
  |none=>rw[q]at e;cases e
  |some d =>
   rw[q]at e;simp only[Option.map_some,Option.some.injEq,Prod.mk.injEq]at e;rw[<-e.1,q,e.2];exact⟨rfl,B⟩
 ·cases e
def compEnvK (scope:Scope)(z:List (Str×Addr))(C:Addr)(env:Env):Env :=
 { scope:=relabel scope env,locals:=C,globals:=env.globals,cells:=cellsFrom (C+1) scope.names z,qual:=env.qual,func:=none,code:=env.code,frame:=env.frame,builtins:=env.builtins }
def nfeH (h:Heap)(names:List (Str×NameKind)):Heap:=pushCells (h.push { cls:=.type "dict",data:=.dict #[] }) names
theorem nfe_cells {M:Model}{A:Around}{E:Value->Shared->Prop}{s:Shared}{scope:Scope}{globals:Addr}{B:List (Str×Addr)}{qual:Str}{env:Env}{Q:Env->Shared->Prop}
  (G:Q { scope:=scope,locals:=s.heap.objs.size,globals:=globals,cells:=cellsFrom (s.heap.objs.size+1) scope.names B,qual:=qual,func:=none,code:=env.code,frame:=env.frame,builtins:=env.builtins } { s with heap:=nfeH s.heap scope.names }) :
  wpAny M A (newFunctionEnv scope globals B [] qual none .none (some env)) Q E s:=by
 simp only[newFunctionEnv,Option.isSome_some,if_true];refine wpAny_bind (wpAny_alloc ?_);refine wpAny_bind (wpAny_layCells _ (fun name kind cells=>by cases z:kind==NameKind.cell<;>simp[z]) _ _ _ _ ?_);rw[show({ s with heap:=s.heap.push { cls:=.type "dict",data:=.dict #[] } }:Shared).heap.objs.size=s.heap.objs.size+1 from Heap.size_push ..];rw[List.forIn_nil];exact wpAny_bind (wpAny_pure (wpAny_pure G))
def xV (X:Cx)(N:List Str)(scope:Scope)(C:Addr)(s:Shared)(H:Hp)(z:List Addr):Cx :=
 { X with N:=N,s₀:=s,H₀:=H,env:=compEnvK scope (xH scope X.env) C X.env,outer:=X.stack,stack:=X.stack,ex:=z,fn:=fun x=>scope.names.lookup x==some .cell,pn:=[],xe:=fun _ _=>False }
def scC (B z:Scope):Bool:=(B.kind==.function)&&B.names.all fun x=>(x.2 != .cell || B.names.lookup x.1==some .cell)&&(x.2 != .local || B.names.lookup x.1==some .local)&&(x.2 != .free || ((B.names.lookup x.1==some .free)&&((z.names.lookup x.1==some .cell) || (z.names.lookup x.1==some .free))))
section
variable {X:Cx}
theorem compCxC_inv {pins:List (Addr×Obj)}{σ:St}{H:Hp}{s:Shared}{N:List Str}{scope:Scope}{M:Nat}{cs:List Nat}{fp:List Addr}{tk:Nat}(I:Inv X pins σ H s)
  (hsc:scC scope X.env.scope=true) (Y:capB cs (N.drop M) X.N scope X.env.scope=true) (hlen:N.length=M+cs.length)
  (hf:∀b∈fp,FpOk X pins H b) (hfl:∀b∈fp,b<s.heap.objs.size) :
  Inv (xV X N scope s.heap.objs.size s H fp) [] (capSt M cs σ) H { s with heap:=nfeH s.heap scope.names,toks:=tk }:=by
 have hk:∀b o,s.heap.get? b=some o->(nfeH s.heap scope.names).get? b=some o:=fun b o e=>pushCells_keeps _ _ b o (Heap.get?_push_of_some _ e);have hn:(nfeH s.heap scope.names).Ns s.heap.objs.size fun _=>none:=(Heap.Ns.new s.heap (.type "dict")).keeps (pushCells_keeps _ _);unfold scC at hsc;rw[zX]at hsc;obtain⟨hkd,G⟩:=hsc;have hkd:scope.kind=.function:=by simpa using hkd
 rw[jL]at G;have cellL:∀x,(x,NameKind.cell)∈scope.names->scope.names.lookup x=some .cell:=fun x hx=>by
  have:=G _ hx;simp only[bne_self_eq_false,Bool.false_or,zX,beq_iff_eq]at this;exact this.1.1
 have freeL:∀x,(x,NameKind.free)∈scope.names->scope.names.lookup x=some .free:=fun x hx=>by
  have:=G _ hx;simp only[bne_self_eq_false,Bool.false_or,zX,beq_iff_eq]at this;exact this.2.1
 have O:∀x,(x,NameKind.free)∈scope.names->X.env.kindOf x=some .cell\/X.env.kindOf x=some .free:=fun x hx=>by
  have:=G _ hx;simp only[bne_self_eq_false,Bool.false_or,zX,Bool.or_eq_true,beq_iff_eq]at this;exact this.2.2
 have kinds:∀x,((xV X N scope s.heap.objs.size s H fp).env.kindOf x=some .cell\/(xV X N scope s.heap.objs.size s H fp).env.kindOf x=some .free)->scope.names.lookup x=some .cell\/(x,NameKind.free)∈scope.names:=fun x hx=>by
  have q:∃k,(relabel scope X.env).names.lookup x=some k/\(k=.cell\/k=.free):=by
   rcases hx with e|e
   ·exact⟨_,e,.inl rfl⟩
   ·exact⟨_,e,.inr rfl⟩
  obtain⟨k,e,hk'⟩:=q;obtain⟨k0,e0,r⟩:=xU e;have m:=PySem.mem_of_lookup e0;rcases r with r|⟨r,_⟩
  ·subst r;rcases hk' with z|z
   ·rw[z]at e0;exact .inl e0
   ·rw[z]at m;exact .inr m
  ·rw[r]at m;exact .inr m
 have U:∀x c,X.env.cells.lookup x=some c->c<s.heap.objs.size:=fun x c e=>by
  obtain⟨v,q⟩:=I.cell x c e;exact q.lt
 -- a cell of the block: one of the caller's,or one of its own
 have two:∀x c,(xV X N scope s.heap.objs.size s H fp).env.cells.lookup x=some c->(X.env.cells.lookup x=some c/\(x,NameKind.free)∈scope.names)\/((x,NameKind.cell)∈scope.names/\s.heap.objs.size+1<=c/\(nfeH s.heap scope.names).IsCell c none):=fun x c e=>by
  have m:=PySem.mem_of_lookup e;rcases cf_mem _ _ _ _ m with z|⟨z,l⟩
  ·exact .inl (jo z)
  ·refine .inr ⟨z,l,?_⟩;have m':(x,c)∈cellsFrom (s.heap.push { cls:=.type "dict",data:=.dict #[] }).objs.size scope.names (xH scope X.env):=by rw[Heap.size_push];exact m
   rcases cf_new _ _ _ _ m' with q|q
   ·have:=U x c (jo q).1;exact absurd (qJ this (yN l)) (zt _)
   ·exact q
 refine⟨⟨I.ok.mod,?_,I.ok.glob,I.ok.blt,zB _,?_,?_,?_,I.ok.hd,I.ok.frames,.inl rfl,?_,?_,?_,?_,?_,?_,?_⟩,rfl,I.bare,Un.kept hk,⟨_,hn,?_⟩,?_,?_,?_,?_,I.hok.kept hk,?_⟩
 ·show(relabel scope X.env).kind=_
  exact hkd
 ·intro x y c e1 B;rcases two x c e1 with⟨a,_⟩|⟨_,a,_⟩<;>rcases two y c B with⟨b,_⟩|⟨_,b,_⟩
  ·exact I.ok.inj x y c a b
  ·exact absurd (qJ (U x c a) (yN b)) (zt _)
  ·exact absurd (qJ (U y c b) (yN a)) (zt _)
  ·refine cf_inj scope.names (s.heap.objs.size+1) (s.heap.objs.size+1) (xH scope X.env) (zB _) (fun p hp=>zm (U p.1 p.2 (jo hp).1)) (fun x y c h1 h2 l=>?_) x y c (PySem.mem_of_lookup e1) (PySem.mem_of_lookup B) a;exact absurd (qJ (U x c (jo h1).1) (yN l)) (zt _)
 ·intro x hx;rcases kinds x hx with m|m
  ·exact Option.isSome_iff_exists.mp (PySem.W.cellsFrom_some scope.names (s.heap.objs.size+1) (xH scope X.env) (.inl m))
  ·obtain⟨c,hc⟩:=I.ok.has x (O x m);exact Option.isSome_iff_exists.mp (PySem.W.cellsFrom_some scope.names (s.heap.objs.size+1) (xH scope X.env) (.inr (by rw[clos_has m hc];rfl)))
 ·intro x c z e;have z:scope.names.lookup x=some .cell:=by simpa[xV] using z
  rcases two x c e with⟨_,m⟩|⟨_,l,_⟩
  ·have:=freeL x m;rw[z]at this;cases this
  ·exact yN l
 ·intro b hb;obtain⟨f0,f1,f2,f3,f4,f5⟩:=hf b hb;refine⟨zG (hfl b hb),fun x c e=>?_⟩;rcases two x c e with⟨a,_⟩|⟨_,l,_⟩
  ·exact f4 x c a
  ·exact fun z=>absurd (qJ (hfl b hb) (yN (z ▸ l))) (zt _)
 ·intro b o e;exact I.bs b o e
 ·exact zL I.ok.bsz I.sz
 ·intro b o e hb;obtain⟨f0,f1,f2,f3,f4,f5⟩:=hf b hb;rcases f3 with z|z
  ·exact I.ok.noex b o e z
  ·exact absurd (qJ (Heap.lt_size (I.ok.bs b o e).1) z) (zt _)
 ·intro b hb hs;obtain⟨f0,f1,f2,f3,f4,f5⟩:=hf b hb;rcases zD.mp (I.stkSub b hs) with z|z
  ·exact f1 z
  ·exact f2 z
 ·exact I.stack
 ·exact I.stkFree
 ·intro i x v e1 B _;have hi:M<=i:=by
   refine Nat.le_of_not_lt fun z=>?_;unfold capSt at B;rw[qH (by simpa using z),List.getElem?_replicate,if_pos z]at B;cases B
  unfold capSt at B;rw[qG (by simpa using hi),qL,qI]at B;cases q:cs[i-M]? with
  |none=>rw[q]at B;cases B
  |some c =>
   rw[q]at B;simp only[Option.map_some,Option.some.injEq]at B;have e3:σ[c]? = some (some v):=by
    cases z:σ[c]? with
    |none=>rw[z]at B;cases B
    |some o=>rw[z]at B;exact congrArg some B
   unfold capB at Y;rw[jL]at Y;have e4:(N.drop M)[i-M]? = some x:=by
    rw[yJ,show M+(i-M)=i by omega];exact e1
   have m:(c,x)∈cs.zip (N.drop M):=by
    have:(cs.zip (N.drop M))[i-M]? = some (c,x):=by rw[List.getElem?_zip_eq_some];exact⟨q,e4⟩
    exact qE this
   have hm:=Y _ m;simp only[zX,beq_iff_eq,bne_iff_ne,ne_eq]at hm;obtain⟨⟨h1',J⟩,h3'⟩:=hm;have hlk:scope.names.lookup x=some .free:=J;have J:(x,NameKind.free)∈scope.names:=PySem.mem_of_lookup hlk;have aa:(x,NameKind.cell)∉scope.names:=fun z=>by
    have:=cellL x z;rw[hlk]at this;cases this
   obtain⟨mm,hmm,hl⟩:=I.loc;have vis:Vis X.env.scope x:=.inr (O x J);obtain⟨u,r,l⟩:=hl c x v h1' e3 vis;rcases l with⟨z,_⟩|⟨z,d,hd,hcell⟩
   ·exact absurd z h3'
   ·refine⟨u,r,.inr ⟨?_,d,cf_keep _ _ _ (clos_has J hd) aa,?_⟩⟩
    ·have isf:∃k,(relabel scope X.env).names.lookup x=some k:=by
      have:∃k',(x,k')∈(relabel scope X.env).names:=by
       unfold relabel;by_cases cc:(X.env.scope.kind==.function&&X.env.kindOf x==some .cell)=true
       ·refine⟨.cell,qP.mpr ⟨(x,.free),J,?_⟩⟩;simp only[zX]at cc;simp[cc.1,cc.2]
       ·refine⟨.free,qP.mpr ⟨(x,.free),J,?_⟩⟩;simp only[zX]at cc;have cc':¬ ((NameKind.free==NameKind.free&&X.env.scope.kind==.function&&X.env.kindOf x==some .cell)=true):=by
         simp only[beq_self_eq_true,Bool.true_and,zX];exact cc
        show(if (NameKind.free==NameKind.free&&X.env.scope.kind==.function&&X.env.kindOf x==some .cell)=true then (x,NameKind.cell) else (x,NameKind.free))=(x,NameKind.free)
        rw[if_neg cc']
      obtain⟨k',hk'⟩:=this;exact Jh hk'
     obtain⟨k,ek⟩:=isf;obtain⟨k0,e0,rr⟩:=xU ek;rcases rr with rr|⟨_,rr⟩
     ·subst rr;rw[hlk]at e0;cases e0
      exact .inr ek
     ·subst rr;exact .inl ek
    ·obtain⟨o,ho,hd'⟩:=hcell;exact⟨o,hk _ _ ho,hd'⟩
 ·intro x c e;rcases two x c e with⟨a,_⟩|⟨_,_,a⟩
  ·obtain⟨v,o,ho,hd⟩:=I.cell x c a;exact⟨v,o,hk _ _ ho,hd⟩
  ·exact⟨none,a⟩
 ·exact I.hok.fresh (zB _)
 ·intro x c e;rcases two x c e with⟨a,_⟩|⟨_,l,_⟩
  ·exact I.freeC x c a
  ·exact I.hok.fresh (yN l)
 ·intro p hp;cases hp
 ·show(capSt M cs σ).length=N.length
  unfold capSt;rw[qF,qL,qC,hlen]
theorem zAX {use:Option (Value->Sem Unit)}{QQ:Value->Shared->Prop}{ipos:Pos}{tg iter elt:Expr}{ifs:List Expr}{scope:Scope}{pos:Pos}{wi:TI}{N:List Str}{nt:Nat}{cs:List Nat}{g:TG}{tt:TT}{te:TE}(hc:X.calm=true)(hi:PI X tg iter wi)
  (M:N.Nodup->∀(C:Addr) (s:Shared) (H:Hp) (fp:List Addr),CompBody (xV X N scope C s H fp) tg ifs elt g tt te)
  (hnd:N.Nodup) (hsc:scC scope X.env.scope=true) (hcap:capB cs (N.drop nt) X.N scope X.env.scope=true) (hlen:N.length=nt+cs.length)
  (hs:∀x,foldedSetIterable iter X.env x=pure x) {pins:List (Addr×Obj)} {s:Shared} {σ:St} {H:Hp} {Q:V->Hp->Prop} (I:Inv X pins σ H s) (h:JL wi nt cs g tt te σ H Q)
  (hfin:∀{acc:Addr} {fp:List Addr} {HX:Hp} {B:Shared} {O:St} {H':Hp} {s':Shared},Inv X pins σ HX B->(∀b∈fp,FpOk X pins HX b)->Inv (xV X N scope B.heap.objs.size B HX fp) [] O H' s'->Q (.ref acc) H'->compPost (model X.prog X.w) X.A X.xe use QQ (.ref acc) B.heap.objs.size (.ok .next) s') :
  wpAny (model X.prog X.w) X.A (comprehension (.ListComp elt [⟨tg,iter,ifs,0⟩] scope pos) scope X.env ipos (newList []) false (eval iter X.env) use) QQ X.xe s:=by
 have hsc':=hsc;unfold scC at hsc';rw[zX]at hsc';obtain⟨hkd,hall⟩:=hsc';have hkd:scope.kind=.function:=by simpa using hkd
 rw[jL]at hall;have hnames:∀x∈scope.names,x.2=.local->scope.names.lookup x.1=some .local:=fun x hx e=>by
  have:=hall x hx;rw[e]at this;simp only[bne_self_eq_false,Bool.false_or,zX,beq_iff_eq]at this;exact this.1.2
 have hclos:closureFor scope X.env=pure (xH scope X.env):=closureFor_ok fun x hx e=>by
  have:=hall x hx;rw[e]at this;simp only[bne_self_eq_false,Bool.false_or,zX,Bool.or_eq_true,beq_iff_eq]at this;exact I.ok.has x.1 this.2.2
 refine wpAny_comprehension_free (use:=use) rfl hs hclos hkd hnames (thn (hi pins s σ H _ I h) fun v s1 h1=>thn h1 fun itv s2 h2=>?_);obtain⟨it,fp,tn,J,H2,e,I2,T,st2,f2,hR⟩:=h2;subst e;refine wpAny_newObj_type (nfe_cells ?_);have fr:=I2.fresh;have I3:Inv X pins σ (upd H2 s2.heap.objs.size (.lst [])) { s2 with heap:=s2.heap.push { cls:=.type "list",data:=.seq ([]:List Value).toArray },toks:=s2.toks }:=I2.lnew .nil (zZ (by decide));obtain⟨W,⟨m0,w0⟩,turn⟩:=hR _ fr;generalize hacc:s2.heap.objs.size=acc at *;generalize hsx:({ s2 with heap:=s2.heap.push { cls:=.type "list",data:=.seq ([]:List Value).toArray },toks:=s2.toks }:Shared)=B at *;have hC:B.heap.objs.size=acc+1:=by rw[<-hsx,<-hacc];exact Heap.size_push _ _
 have fpl:∀b∈fp,b<acc:=fun b M=>by
  obtain⟨o,ho,_⟩:=T.obj _ _ st2 b M;rw[<-hacc];exact Heap.lt_size ho
 have f3:∀b∈fp,FpOk X pins (upd H2 acc (.lst [])) b:=fun b M=>by
  obtain⟨f0,f1⟩:=f2 b M;exact⟨by rw[yL (zG (fpl b M))];exact f0,f1⟩
 have keep3:∀b o,B.heap.get? b=some o->(nfeH B.heap scope.names).get? b=some o:=fun b o e=>pushCells_keeps _ _ b o (Heap.get?_push_of_some _ e);have hn3:(nfeH B.heap scope.names).Ns B.heap.objs.size fun _=>none:=(Heap.Ns.new B.heap (.type "dict")).keeps (pushCells_keeps _ _);have IC:Inv (xV X N scope B.heap.objs.size B (upd H2 acc (.lst [])) fp) [] (capSt nt cs σ) (upd H2 acc (.lst [])) { B with heap:=nfeH B.heap scope.names,toks:=B.toks } :=
  compCxC_inv (tk:=B.toks) I3 hsc hcap hlen f3 (fun b M=>by rw[hC];exact zm (fpl b M))
 have hn3':H2 acc=none:=fr;generalize G:xV X N scope B.heap.objs.size B (upd H2 acc (.lst [])) fp=U at IC;have ctxP:U.prog=X.prog:=by rw[<-G];rfl
 have ctxW:U.w=X.w:=by rw[<-G];rfl
 have ctxK:U.K=X.K:=by rw[<-G];rfl
 have ctxA:U.A=X.A:=by rw[<-G];rfl
 have ctxC:U.calm=true:=by rw[<-G];exact hc
 have Y:U.xe=fun _ _=>False:=by rw[<-G];rfl
 have ctxE:U.env=compEnvK scope (xH scope X.env) B.heap.objs.size X.env:=by rw[<-G];rfl
 have body:CompBody U tg ifs elt g tt te:=by rw[<-G];exact M hnd _ _ _ _
 have st3:tn 0 (nfeH B.heap scope.names):=T.keep _ _ _ st2 fun b M o e=>keep3 b o (by rw[<-hsx];exact Heap.get?_push_of_some _ e);have stat:∀{H':Hp},(∀b∈fp,H' b=none)->∀b∈fp,FpOk U [] H' b:=fun hn b M=>by
  obtain⟨f0,f1,f2',f3',f4,f5⟩:=f3 b M;refine⟨hn b M,?_,?_,.inl (by rw[<-G];exact M),fun x c e=>?_,fun p hp=>?_⟩
  ·rw[ctxE];exact zG (by rw[hC];exact zm (fpl b M))
  ·rw[<-G];intro z;rcases zD.mp (I3.stkSub b z) with z|z
   ·exact f1 z
   ·exact f2' z
  ·rw[ctxE]at e;rcases cf_mem _ _ _ _ (PySem.mem_of_lookup e) with z|⟨_,z⟩
   ·exact f4 x c (jo z).1
   ·have h9:=fpl b M;have z:B.heap.objs.size+1<=c:=z;rw[hC]at z;exact xG (qJ h9 (yN (yN z)))
  ·rw[<-G]at hp;cases hp
 have fin:∀{O:St} {H':Hp} {s':Shared},Inv U [] O H' s'->Q (.ref acc) H'->compPost (model X.prog X.w) X.A X.xe use QQ (.ref acc) B.heap.objs.size (.ok .next) s':=fun {O H' s'} J' q=>hfin I3 f3 (by rw[G];exact J') q;have loop:codeAny (model X.prog X.w) X.A (.compLoop (.ListComp elt [⟨tg,iter,ifs,0⟩] scope pos) 0 (.ref it) (.ref acc) U.env) (compPost (model X.prog X.w) X.A X.xe use QQ (.ref acc) B.heap.objs.size)
   { B with heap:=nfeH B.heap scope.names,toks:=B.toks }:=by
  rw[<-ctxP,<-ctxW,<-ctxA];refine JK (fun n s'=>∃i ys O H',Inv U [] O H' s'/\tn i s'.heap/\(∀b∈fp,H' b=none)/\W i n ys O H') ?_ m0 ⟨0,[],_,_,IC,st3,fun b M=>(f3 b M).1,w0⟩;rintro n s3 ⟨i,ys,σ3,H3,I3',st3',fr3,w3⟩;have T':=T;rw[<-ctxP,<-ctxW,<-ctxK]at T';obtain⟨hacc3,alt⟩:=turn i n ys σ3 H3 w3;rcases alt with⟨stop,qn⟩|⟨go,hsz,NN,hNN,step⟩
  ·refine thn (T'.done U rfl rfl rfl ctxC i [] s3 σ3 H3 _ I3' (stat fr3) st3' stop) fun r s4 ⟨hr,I4⟩=>?_;subst hr;rw[ctxP,ctxW,ctxA];exact fin I4 qn
  ·refine thn (T'.item U rfl rfl rfl ctxC i [] s3 σ3 H3 _ I3' (stat fr3) st3' go) fun r s4 ⟨u,hr,h4⟩=>?_;subst hr;refine thn h4 fun _ s5 ⟨x,H5,I5,r5,y5,st5,fr5⟩=>?_;have I5':=I5.pinned (stat fr5) (T'.obj _ _ st5);have a1:=body.tg _ s5 σ3 H5 x u _ I5' r5 (step x H5 y5);rw[Y]at a1;refine thn a1 fun _ s6 ⟨σ6,H6,I6,q6⟩=>?_;have a2:=body.tt _ s6 σ6 H6 _ I6 q6;rw[Y]at a2;refine thn a2 fun b s7 ⟨H7,I7,q7⟩=>?_;have again:∀{s8:Shared} {σ7:St} {H7:Hp} {zs:List V},Inv U ([]++pinsAt fp s5.heap) σ7 H7 s8->NN zs σ7 H7->∃m,m<n/\∃i ys O H',Inv U [] O H' s8/\tn i s8.heap/\(∀b∈fp,H' b=none)/\W i m ys O H':=fun {s8 σ7 H7 zs} I7 n7=>by
    obtain⟨m',hm,w7⟩:=hNN zs σ7 H7 n7;refine⟨m',hm,i+1,zs,σ7,H7,I7.unpinned,T'.keep _ _ _ st5 fun b M o e=>(I7.pin (b,o) (qK _ (qK _ (jz M e)))).1,fun b M=>?_,w7⟩;obtain⟨o,e,d⟩:=T'.obj _ _ st5 b M;exact(I7.pin (b,o) (qK _ (qK _ (jz M e)))).2.1
   cases b with
   |false =>
    rw[if_neg zN]at q7 ⊢;exact again I7 q7
   |true =>
    rw[if_pos rfl]at q7 ⊢;have a3:=body.te _ s7 σ6 H7 _ I7 q7;rw[Y]at a3;refine thn a3 fun xv s8 ⟨y,H8,I8,r8,q8⟩=>?_;obtain⟨hl8,n8⟩:=q8;have a4:=xj (X:=U) _ s8 σ6 H8 (.ref acc) [y] (.ref acc) [xv] (fun _ H9=>NN (ys++[y]) σ6 H9) I8 rfl (.cons r8 .nil) ⟨acc,ys,y,rfl,rfl,hl8,hsz,n8⟩;rw[Y]at a4;refine thn a4 fun _ s9 ⟨_,H9,I9,_,q9⟩=>?_;exact again I9 q9
 rw[ctxE]at loop;exact codeAny_compStart_list loop (T.self X.A 0 _ _ _ st3 loop)
theorem pe_compC {J iter elt:Expr}{ifs:List Expr}{scope:Scope}{pos:Pos}{wi:TI}{N:List Str}{U:Nat}{Y:List Nat}{g:TG}{tt:TT}{te:TE}(hc:X.calm=true)(hi:PI X J iter wi)
  (hb:N.Nodup->∀(C:Addr) (s:Shared) (H:Hp) (fp:List Addr),CompBody (xV X N scope C s H fp) J ifs elt g tt te)
  (O:N.Nodup) (aa:scC scope X.env.scope=true) (G:capB Y (N.drop U) X.N scope X.env.scope=true) (hlen:N.length=U+Y.length)
  (hs:∀x,foldedSetIterable iter X.env x=pure x):PE X (.ListComp elt [⟨J,iter,ifs,0⟩] scope pos) (JL wi U Y g tt te):=by
 intro pins s σ H Q I h;rw[eval_ListComp];refine zAX hc hi hb O aa G hlen hs I h fun {acc fp HX sx σ' H' s'} I3 f3 z q=>?_;obtain⟨m,hm,_⟩:=z.loc;refine⟨m,hm,fun h' B=>⟨.ref acc,H',?_,rfl,q⟩⟩;refine I3.call' (s':={ s' with heap:=h' }) z.os (un_same z.base B (zB _)) (hok_same z.hok B z.free) z.bare fun b hb=>?_;obtain⟨f0,f1,f2',M,f4,f5⟩:=f3 b hb;exact⟨M,f1,f4,f5⟩
theorem ps_setCompC {y:Str}{U B:Pos}{ix:Nat}{J iter elt:Expr}{ifs:List Expr}{scope:Scope}{pos:Pos}{wi:TI}{N:List Str}{nt:Nat}{cs:List Nat}{g:TG}{tt:TT}{te:TE}(hc:X.calm=true)(hi:PI X J iter wi)
  (Y:N.Nodup->∀(C:Addr) (s:Shared) (H:Hp) (fp:List Addr),CompBody (xV X N scope C s H fp) J ifs elt g tt te)
  (hnd:N.Nodup) (hsc:scC scope X.env.scope=true) (hcap:capB cs (N.drop nt) X.N scope X.env.scope=true) (hlen:N.length=nt+cs.length)
  (hs:∀x,foldedSetIterable iter X.env x=pure x) (hN:X.N.Nodup) (hix:X.N[ix]? = some y) (hy:Loc X.env.scope y) (hf:X.fn y=true\/X.env.scope.names.lookup y=some .local)
  (hsw:swapsWith (.ListComp elt [⟨J,iter,ifs,0⟩] scope pos) (some (.Name y U)) B.line X.env=pure true):PS X (.Assign [.Name y U] (.ListComp elt [⟨J,iter,ifs,0⟩] scope pos) B) (tAsg (JL wi nt cs g tt te) (xN ix)):=by
 intro pins s σ H D I h;rw[exec_Assign_Name_used _ _ _ _ hsw];refine wpAny_bind (wpAny_standAt (wpAny_bind ?_));show wpAny _ X.A (do let _ ← comprehension (.ListComp elt [⟨J,iter,ifs,0⟩] scope pos) scope X.env _ (newList []) false (eval iter X.env) (some (assign (.Name y U) X.env))) _ _ s
 refine wpAny_bind (wpAny_mono (zAX (use:=some (assign (.Name y U) X.env)) (QQ:=fun _ s'=>SP X pins D .next s') hc hi Y hnd hsc hcap hlen hs I h fun {acc fp HX sx σ' H' s'} I3 f3 G q=>?_) (fun _ s' hq=>wpAny_pure (wpAny_pure hq)) fun _ _ e=>e);obtain⟨m,hm,_⟩:=G.loc;have IX:Inv X pins σ H' s':=I3.call' G.os G.base G.hok G.bare fun b Y=>by
  obtain⟨f0,f1,f2',f3',f4,f5⟩:=f3 b Y;exact⟨f3',f1,f4,f5⟩
 have M:sx.heap.objs.size≠X.env.locals:=xG I3.lt;have O:∀x c,X.env.cells.lookup x=some c->c≠sx.heap.objs.size:=fun x c e=>by
  obtain⟨v,z⟩:=I3.cell x c e;exact zG z.lt
 have hCp:∀p∈X.pn++pins,p.1≠sx.heap.objs.size:=fun p hp=>zG (Heap.lt_size (I3.pin p hp).1);show wpAny _ X.A (assign (.Name y U) X.env (.ref acc)) _ _ s'
 refine wpAny_assign_Name (store_ok2 IX hN hix hy (v:=.ref acc) rfl (fun s'' I'' ⟨a,hsb,ha⟩=>?_) hf);have hCa:sx.heap.objs.size≠a:=fun z=>by
  rcases ha with e|e
  ·exact M (z.trans e)
  ·exact O _ _ e z.symm
 refine⟨m,hm.sameBut hsb hCa,fun h' hs'=>⟨_,H',?_,q⟩⟩;exact I''.turned (t':=s''.toks) (fun b o Y e=>(hs'.2 b Y).trans e) G.free M (.inr I3.sz) O hCp
end
theorem Chg.updN {p q:Addr}{H H':Hp}{o:HO}(c:Chg p H H')(h:H q=none):Chg p H (L2.upd H' q o):=fun b u n e=>by rw[yL (ne_of_none e h)];exact c b u n e
theorem Chg.new {p q:Addr}{H H':Hp}(c:Chg p H H')(n:q≠p)(h:H' q=none):H q=none:=by
 cases e:H q with
 |none=>rfl
 |some o=>rw[c q o n e]at h;cases h
section
variable {K:zA}{σ:St}{H:Hp}{Q:VK}{cs:List Nat}{te:TE}
end
def unitRow (n i:Nat):List Int:=(zj n).map fun k=>if k=i then 1 else 0
theorem j6 {ns:List Int}{i:Nat}{x:V}(h:(ns.map V.int)[i]? = some x):∃n,ns[i]? = some n/\x=V.int n:=by
 rw[qI]at h;cases e:ns[i]? with
 |none=>rw[e]at h;cases h
 |some n=>rw[e]at h;exact⟨n,rfl,(Option.some.inj h).symm⟩
def sgW (w:Str):Int:=if w = "less" then -1 else 1
structure Ar where
 st:Nat
 go:Nat
 sh:Int
 sg:Int
inductive Rch (ins:Nat) (ds:List Wd) (gs:List Go):Nat->Prop
 |root {g:Go}:g∈gs->g.sg≠0->Rch ins ds gs g.th
 |fst {k:Nat} {d:Wd}:ds[k]? = some d->Rch ins ds gs (ins+k)->Rch ins ds gs d.a
 |snd {k:Nat} {d:Wd}:ds[k]? = some d->Rch ins ds gs (ins+k)->Rch ins ds gs d.b
theorem ixN_nat {n j:Nat}(h:j<n):ixN n (j:Int)=some j:=by unfold ixN;rw[if_pos (by omega),if_pos (by omega)];rfl
section
variable {H:Hp}{Q:VK}
theorem w_pop {l:Addr}:rPop (.ref l) [] H Q=∃z y,H l=some (.lst z)/\z[z.length-1]? = some y/\Q y (upd H l (.lst z.dropLast)) :=
 propext ⟨fun⟨B,z,y,e,_,h,g,q⟩=>by cases e;exact⟨z,y,h,g,q⟩,fun⟨z,y,h,g,q⟩=>⟨l,z,y,rfl,rfl,h,g,q⟩⟩
theorem w_extend {l b:Addr}:rExtend (.ref l) [.ref b] H Q=∃z B,H l=some (.lst z)/\H b=some (.lst B)/\z.length+B.length<=sizeLine/\Q .non (upd H l (.lst (z++B))) :=
 propext ⟨fun⟨M,J,z,B,e,G,h⟩=>by cases e;cases G;exact⟨z,B,h⟩,fun⟨z,B,h⟩=>⟨l,b,z,B,rfl,rfl,h⟩⟩
theorem zAA {l:Addr}:rReverse (.ref l) [] H Q=∃z,H l=some (.lst z)/\Q .non (upd H l (.lst z.reverse)) :=
 propext ⟨fun⟨B,z,e,_,h⟩=>by cases e;exact⟨z,h⟩,fun⟨z,h⟩=>⟨l,z,rfl,rfl,h⟩⟩
theorem w_clear {l:Addr}:rClear (.ref l) [] H Q=∃z,H l=some (.lst z)/\Q .non (upd H l (.lst [])) :=
 propext ⟨fun⟨B,z,e,_,h⟩=>by cases e;exact⟨z,h⟩,fun⟨z,h⟩=>⟨l,z,rfl,rfl,h⟩⟩
theorem w_cat {l b:Addr}:rCat (.ref l) (.ref b) H Q=∃z B,H l=some (.lst z)/\H b=some (.lst B)/\z.length+B.length<=sizeLine/\∀p,H p=none->Q (.ref p) (upd H p (.lst (z++B))) :=
 propext ⟨fun⟨M,J,z,B,e,G,h⟩=>by cases e;cases G;exact⟨z,B,h⟩,fun⟨z,B,h⟩=>⟨l,b,z,B,rfl,rfl,h⟩⟩
end
section
variable {X:Cx}
theorem op_inK (K:zA)(h:X.K=K:=by rfl):OpR X (compareOp .In) (rIn K false):=by subst h;exact J4
theorem JW (K:zA)(h:X.K=K:=by rfl):OpR X (compareOp .NotIn) (rIn K true):=by subst h;exact Jq
theorem call_listK (K:zA)(h:X.K=K:=by rfl):CallR X (.type "list") (fun B H Q=>∃p z,B=[.ref p]/\(SqL K H p z\/SqT K H p z)/\∀l,H l=none->Q (.ref l) (upd H l (.lst z))):=by subst h;exact call_list_of
theorem call_tupleK (K:zA)(h:X.K=K:=by rfl):CallR X (.type "tuple") (fun B H Q=>∃p z,B=[.ref p]/\((SqL K H p z/\∀l,H l=none->Q (.ref l) (upd H l (.tup z)))\/(SqT K H p z/\Q (.ref p) H))):=by subst h;exact y7
end
section
variable {K:zA}{σ:St}{H:Hp}{Q:VK}{cs:List Nat}{tt:TT}{te:TE}
end
def fr (ms:List Nat):Nat->Nat
 |0=>0
 |n+1=>(if n∈ms then 0 else 1)+fr ms n
theorem ukv_len (us:List Int):(ukv us).length=us.length:=by unfold ukv;rw[qC]
section
variable {prog:Program}{w:World}{A:Around}{E:Value->Shared->Prop}{s:Shared}
end
section
variable {prog:Program}{w:World}{A:Around}{s:Shared}{R:Result->Shared->Prop}{xs ys:Array Value}{z TI TO i1 i2 l1 l2 S lo:Addr}
end
section
variable {prog:Program}{w:World}{A:Around}{E:Value->Shared->Prop}{s:Shared}{xs ys:Array Value}{z TI TO i1 i2 l1 l2:Addr}
end
def tLZ (K:zA)(Y:TA):TE:=fun U H Q=>Y U H fun O G=>∃a b z J,O=[.ref a,.ref b]/\SqL K G a z/\SqL K G b J/\J.length=z.length/\z.length<=1000 /\
 ∀l M B,G l=none->Same G B->B l=some (.lst M)->M.length=z.length->(∀(k:Nat) (x y:V),z[k]? = some x->J[k]? = some y->∃t:Addr,M[k]? = some (.ref t)/\B t=some (.tup [x,y]))->Q (.ref l) B
theorem w_LZ {K:zA}{U:TA}{O:St}{H:Hp}{Q:VK}:tLZ K U O H Q=(U O H fun Y G=>∃a b z J,Y=[.ref a,.ref b]/\SqL K G a z/\SqL K G b J/\J.length=z.length/\z.length<=1000 /\
 ∀l M B,G l=none->Same G B->B l=some (.lst M)->M.length=z.length->(∀(k:Nat) (x y:V),z[k]? = some x->J[k]? = some y->∃t:Addr,M[k]? = some (.ref t)/\B t=some (.tup [x,y]))->Q (.ref l) B):=rfl
theorem vals_refs:∀(as:List Addr),Vals (as.map V.ref) (as.map Value.ref)
 |[]=>.nil
 |a::r=>.cons rfl (vals_refs r)
def rowD (z:List (List Int))(d:Wd):List Int:=List.zipWith (fun x y=>mvI d.s x+sgW d.w*mvI d.t y) (z.getD d.a []) (z.getD d.b [])
def rowsW (ins:Nat)(ds:List Wd):List (List Int):=ds.foldl (fun z d=>z++[rowD z d]) ((zj ins).map (unitRow ins))
section
variable {K:zA}{σ:St}{H:Hp}{Q:VK}{cs:List Nat}{te:TE}
end
def iT (r:List Int):List V:=r.map V.int
section
variable {K:zA}{σ:St}{H:Hp}{Q:VK}{cs:List Nat}{te:TE}
end
section
variable {α:Type}{f:α->List V}{K:zA}{H:Hp}{l l':Addr}{ys ys':List V}{xs:List α}{Q:VK}
end
theorem cut_drop {xs:List V}{n:Nat}(h:n<=xs.length):cutV xs (some (n:Int)) none=xs.drop n:=by
 unfold cutV;rw[HT.sIx_none,HT.sIx_nat,Nat.min_eq_left h,yD (by rw[zd];omega)]
theorem HTs.app {G:Type}{f:G->List V}{H:Hp}{vs us:List V}{xs J:List G}(h:HTs f H vs xs)(h':HTs f H us J):HTs f H (vs++us) (xs++J):=by
 refine⟨by rw[qF,qF,h.len,h'.len],fun k x z=>?_⟩;by_cases B:k<xs.length
 ·rw[qH B]at z;rw[qH (by rw[h.len];exact B)];exact h.at_ k x z
 ·rw[qG (by omega)]at z;rw[qG (by rw[h.len];omega),h.len];exact h'.at_ _ x z
def tLR (M:TA):TE:=fun J H Q=>M J H fun G B=>∃j:Nat,G=[.int (j:Int)]/\j<=1000/\∀l z,B l=none->Same B z->z l=some (.lst (rngV 0 j))->Q (.ref l) z
theorem w_LR {G:TA}{B:St}{H:Hp}{Q:VK}:tLR G B H Q=(G B H fun M J=>∃j:Nat,M=[.int (j:Int)]/\j<=1000/\∀l z,J l=none->Same J z->z l=some (.lst (rngV 0 j))->Q (.ref l) z):=rfl
def iRngD (z:TA):TI:=fun J H R=>z J H fun B G=>∃i:Int,B=[.int i,.int (-1),.int (-1)]/\(-1<=i/\i<2^31)/\R (Itr3 i (-1) (i+1).toNat) G
theorem w_forD {z:St}{H:Hp}{D:Ends}{g:TG}{tb:TS}{B:TA}:tFor (iRngD B) g tb D z H=(B z H fun G J=>∃i:Int,G=[.int i,.int (-1),.int (-1)]/\(-1<=i/\i<2^31)/\ForR3 i (-1) (i+1).toNat g tb D z J):=rfl
section
variable {K:zA}{σ:St}{H:Hp}{Q:VK}{cs:List Nat}{te:TE}
end
section
variable {prog:Program}{w:World}{A:Around}{E:Value->Shared->Prop}{s:Shared}
def TI2 (h:Heap)(it t:Addr)(items:Array Value)(i:Nat):Prop:=h.IsTupleIter it t i/\h.IsTuple t items
theorem TI2.at {h h':Heap}{it t:Addr}{items:Array Value}{i:Nat}(x:TI2 h it t items i)(k1:∀o,h.get? it=some o->h'.get? it=some o)(k2:∀o,h.get? t=some o->h'.get? t=some o):TI2 h' it t items i:=by
 obtain⟨⟨o,e,r⟩,⟨z,B,G⟩⟩:=x;exact⟨⟨o,k1 o e,r⟩,⟨z,k2 z B,G⟩⟩
theorem TI2.but {h h':Heap}{it t c:Addr}{items:Array Value}{i:Nat}(x:TI2 h it t items i)(b:Heap.ExtBut c h h')(z:it≠c)(B:t≠c):TI2 h' it t items i :=
 x.at (fun o e=>b _ o z e) (fun o e=>b _ o B e)
theorem Jj {it t:Addr}{i:Nat}{items:Array Value}{x:Value}{Q:Value->Shared->Prop}(Y:TI2 s.heap it t items i)(ne:t≠it)(U:items[i]? = some x)
  (O:∀G,TI2 G it t items (i+1)->Heap.SameBut it s.heap G->Q x { s with heap:=G }):wpAny (model prog w) A (Builtin.SmallTypes.nextOf (.ref it)) Q E s:=by
 obtain⟨hit,M⟩:=Y;obtain⟨o,B,hc,z⟩:=id hit;obtain⟨ol,H,_,nl,J⟩:=id M;unfold Builtin.SmallTypes.nextOf;refine wpAny_bind (wpAny_callSpecial?_slot (name:=Str.ofString "__next__") hit.typeIs F.slot_tuple_iterator_next (wpAny_call_entry F.slot_tuple_iterator_next hit.typeIs F.entry_tuple_iterator_next ?_ (F.args_tuple_iterator_next_1 _)));show wpAny _ _ (field (.ref it) 0 >>= _) _ _ s
 refine wpAny_bind (wpAny_field B z (x:=.ref t) rfl ?_);show wpAny _ _ (if (Value.ref t==Value.none)=true then _ else _) _ _ s
 rw[if_neg (show ¬ ((Value.ref t==Value.none)=true) from zN)];show wpAny _ _ (field (.ref it) 1 >>= _) _ _ s
 refine wpAny_bind (wpAny_field B z (x:=.int i 0) rfl ?_);show wpAny _ _ (seqItems? (.ref t) >>= _) _ _ s
 refine wpAny_bind (wpAny_seqItems H J ?_);simp only[zV,U];refine wpAny_bind (wpAny_setField B z (by simp) (wpAny_pure ⟨x,rfl,wpAny_pure (O _ ⟨?_,M.extBut (Heap.SameBut.update ..).extBut ne⟩ (Heap.SameBut.update ..))⟩));exact⟨_,Heap.get?_update_self _ B (Obj.isFreed_of_fields (Obj.data_mapFields z _)),(Obj.cls_mapFields ..).trans hc,by rw[Obj.data_mapFields z];simp[rawInt]⟩
theorem nextT_end {it t:Addr}{i:Nat}{items:Array Value}{Q:Value->Shared->Prop}(M:A.handled=none)(Y:TI2 s.heap it t items i)(U:items[i]? = none)
  (hE:∀B e,Heap.ExtBut it s.heap B->(∃o,B.get? e=some o/\o.cls=.type "StopIteration")->E (.ref e) { s with heap:=B }):wpAny (model prog w) A (Builtin.SmallTypes.nextOf (.ref it)) Q E s:=by
 obtain⟨hit,O⟩:=Y;obtain⟨o,z,hc,J⟩:=id hit;obtain⟨ol,G,_,nl,H⟩:=id O;unfold Builtin.SmallTypes.nextOf;refine wpAny_bind (wpAny_callSpecial?_slot (name:=Str.ofString "__next__") hit.typeIs F.slot_tuple_iterator_next (wpAny_call_entry F.slot_tuple_iterator_next hit.typeIs F.entry_tuple_iterator_next ?_ (F.args_tuple_iterator_next_1 _)));show wpAny _ _ (field (.ref it) 0 >>= _) _ _ s
 refine wpAny_bind (wpAny_field z J (x:=.ref t) rfl ?_);show wpAny _ _ (if (Value.ref t==Value.none)=true then _ else _) _ _ s
 rw[if_neg (show ¬ ((Value.ref t==Value.none)=true) from zN)];show wpAny _ _ (field (.ref it) 1 >>= _) _ _ s
 refine wpAny_bind (wpAny_field z J (x:=.int i 0) rfl ?_);show wpAny _ _ (seqItems? (.ref t) >>= _) _ _ s
 refine wpAny_bind (wpAny_seqItems G H ?_);simp only[zV,U];refine wpAny_bind (wpAny_rule (wpAny_bind (wpAny_setField z J (by simp) ?_)));show wpAny _ _ (newExc (.type "StopIteration") [] >>= _) _ _ _
 refine wpAny_bind ?_;simp only[newExc,newTuple];refine wpAny_bind (wpAny_newObj_type ?_ (by size_fits));refine wpAny_bind (m:=firstArgMember _ _) (wpAny_of_eq (a:=Value.none) (by first|rfl|(simp only[firstArgMember];rfl)) ?_);refine wpAny_newObj_type ?_ (by size_fits);simp only[raiseNew];refine wpAny_bind (wpAny_handled ?_)
 first|rw[show A.in1.handled=none from M]|rw[M]
 refine wpAny_bind (wpAny_pure (wpAny_throw ?_));exact hE _ _ (((Heap.SameBut.update ..).extBut.push _).push _) ⟨_,Heap.get?_push_size _ rfl,rfl⟩
theorem zipT_item {z TI TO J M l1 l2:Addr}{k1 k2:Nat}{xs ys:Array Value}{x y a b:Value}{Q:Option Value->Shared->Prop}(D:ZipApart z TI TO J M l1 l2)
  (hz:IsZip s.heap z TI TO .none) (hTI:IsPair s.heap TI (.ref J) (.ref M)) (hTO:IsPair s.heap TO a b) (h1:TI2 s.heap J l1 xs k1) (h2:TI2 s.heap M l2 ys k2) (hx:xs[k1]? = some x) (hy:ys[k2]? = some y)
  (hQ:∀G,IsZip G z TI TO (rawInt s.heap.objs.size)->IsPair G TO x y->TI2 G J l1 xs (k1+1)->TI2 G M l2 ys (k2+1)->IsPair G s.heap.objs.size x y->G.objs.size=s.heap.objs.size+1 ->
   (∀c o,c≠z->c≠TO->c≠J->c≠M->s.heap.get? c=some o->G.get? c=some o)->Q (some (.ref s.heap.objs.size)) { s with heap:=G }) :
  wpAny (model prog w) A (pyNext (.ref z)) Q E s:=by
 have hT:s.TypeIs (.ref z) "zip":=⟨_,hz,rfl⟩;unfold pyNext;refine wpAny_bind (wpAny_attempt (wpAny_callSpecial?_slot (name:=Str.ofString "__next__") hT F.slot_zip_next (wpAny_call_entry F.slot_zip_next hT F.entry_zip_next ?_ (F.args_zip_next_1 _))));show wpAny _ _ (field (.ref z) 2 >>= _) _ _ _
 refine wpAny_bind (wpAny_field hz rfl (x:=.bool false) rfl ?_);show wpAny _ _ (field (.ref z) 3 >>= _) _ _ _
 refine wpAny_bind (wpAny_field hz rfl (x:=.ref TI) rfl ?_);refine wpAny_bind (wpAny_seqItems hTI rfl ?_);show wpAny _ _ (Builtin.SmallTypes.ownedTupleIsFree (.ref z) >>= _) _ _ _
 refine wpAny_bind ?_;unfold Builtin.SmallTypes.ownedTupleIsFree;refine wpAny_bind (wpAny_field hz rfl (x:=.none) rfl (wpAny_pure ?_));simp only[if_true];refine wpAny_bind (wpAny_rule ?_);refine wpAny_bind (wpAny_field hz rfl (x:=.ref TO) rfl ?_);refine wpAny_bind (wpAny_setField_rec hz (by simp) fun g1 z1 s1=>?_);replace z1:IsZip g1 z TI TO .ellipsis:=z1;refine wpAny_bind ?_;simp only[List.zipIdx_cons,List.zipIdx_nil,List.forIn_cons,List.forIn_nil];refine wpAny_bind (wpAny_bind (wpAny_onRaise ?_));show wpAny _ _ (Builtin.SmallTypes.nextOf (.ref J) >>= _) _ _ _
 refine wpAny_bind (Jj (h1.but s1.extBut D.i1z D.l1z) D.l1i1 hx fun g2 f2 s2=>wpAny_pure ?_);have o2:IsPair g2 TO a b:=s2.extBut _ _ D.TOi1 (s1.extBut _ _ D.TOz hTO);refine wpAny_bind (wpAny_seqItems o2 rfl ?_);refine wpAny_bind (wpAny_updateSeq_pair o2 fun g3 o3 Y=>?_);replace o3:IsPair g3 TO x b:=o3;refine wpAny_bind (wpAny_letGo (wpAny_pure ?_));refine wpAny_bind (wpAny_bind (wpAny_onRaise ?_));show wpAny _ _ (Builtin.SmallTypes.nextOf (.ref M) >>= _) _ _ _
 refine wpAny_bind (Jj (((h2.but s1.extBut D.i2z D.l2z).but s2.extBut D.i12.symm D.l2i1).but Y.extBut D.TOi2.symm D.l2TO) D.l2i2 hy fun g4 f4 s4=>wpAny_pure ?_);have o4:IsPair g4 TO x b:=s4.extBut _ _ D.TOi2 o3;refine wpAny_bind (wpAny_seqItems o4 rfl ?_);refine wpAny_bind (wpAny_updateSeq_pair o4 fun B o5 s5=>?_);replace o5:IsPair B TO x y:=o5;refine wpAny_bind (wpAny_letGo (wpAny_pure (wpAny_pure ?_)));refine wpAny_bind (wpAny_seqItems o5 rfl ?_);refine wpAny_bind (wpAny_newTuple ?_);have hsz:B.objs.size=s.heap.objs.size:=by rw[s5.1,s4.1,Y.1,s2.1,s1.1]
 have z5:IsZip B z TI TO .ellipsis:=s5.extBut _ _ D.TOz.symm (s4.extBut _ _ D.i2z.symm (Y.extBut _ _ D.TOz.symm (s2.extBut _ _ D.i1z.symm z1)));have k5:∀c o,c≠z->c≠TO->c≠J->c≠M->s.heap.get? c=some o->B.get? c=some o:=fun c o O c2 c3 c4 e =>
  s5.extBut _ _ c2 (s4.extBut _ _ c4 (Y.extBut _ _ c2 (s2.extBut _ _ c3 (s1.extBut _ _ O e))))
 have a5:TI2 B J l1 xs (k1+1):=((f2.but Y.extBut D.TOi1.symm D.l1TO).but s4.extBut D.i12 D.l1i2).but s5.extBut D.TOi1.symm D.l1TO;have b5:TI2 B M l2 ys (k2+1):=f4.but s5.extBut D.TOi2.symm D.l2TO;have H:z<B.objs.size:=Heap.lt_size z5;show wpAny _ _ (Builtin.SmallTypes.ownedTupleHandOut (.ref z) (.ref B.objs.size) >>= _) _ _ _
 refine wpAny_bind ?_;unfold Builtin.SmallTypes.ownedTupleHandOut;have z6:IsZip (B.push { cls:=.type "tuple",data:=.seq #[x,y] }) z TI TO .ellipsis:=Heap.get?_push_of_some _ z5;refine wpAny_bind (wpAny_setField_rec z6 (by simp) fun g7 z7 s7=>?_);replace z7:IsZip g7 z TI TO (rawInt B.objs.size):=z7;refine wpAny_setField_rec z7 (by simp) fun g8 z8 s8=>?_;replace z8:IsZip g8 z TI TO (rawInt B.objs.size):=z8;have U:∀c o,c≠z->B.get? c=some o->g8.get? c=some o:=fun c o O e=>s8.extBut _ _ O (s7.extBut _ _ O (Heap.get?_push_of_some _ e));have t8:IsPair g8 B.objs.size x y:=s8.extBut _ _ (xG H) (s7.extBut _ _ (xG H) (Heap.get?_push_size _ rfl));have n8:g8.objs.size=B.objs.size+1:=by rw[s8.1,s7.1,Heap.size_push]
 rw[hsz]at z8 t8 n8;refine wpAny_pure ⟨_,rfl,wpAny_pure ?_⟩;show Q (some (.ref B.objs.size)) _
 rw[hsz];exact hQ g8 z8 (U _ _ D.TOz o5) (a5.at (fun o e=>U _ o D.i1z e) (fun o e=>U _ o D.l1z e)) (b5.at (fun o e=>U _ o D.i2z e) (fun o e=>U _ o D.l2z e)) t8 n8 fun c o O c2 c3 c4 e=>U c o O (k5 c o O c2 c3 c4 e)
theorem zipT_end {z TI TO i1 i2 l1 l2:Addr}{k1 k2:Nat}{xs ys:Array Value}{a b:Value}{Q:Option Value->Shared->Prop}(hh:A.handled=none)(D:ZipApart z TI TO i1 i2 l1 l2)
  (hz:IsZip s.heap z TI TO .none) (hTI:IsPair s.heap TI (.ref i1) (.ref i2)) (hTO:IsPair s.heap TO a b) (h1:TI2 s.heap i1 l1 xs k1) (h2:TI2 s.heap i2 l2 ys k2) (U:xs[k1]? = none\/ys[k2]? = none)
  (hQ:∀h',(∀c o,c≠z->c≠TO->c≠i1->c≠i2->s.heap.get? c=some o->h'.get? c=some o)->Q none { s with heap:=h' }):wpAny (model prog w) A (pyNext (.ref z)) Q E s:=by
 have hT:s.TypeIs (.ref z) "zip":=⟨_,hz,rfl⟩;unfold pyNext;refine wpAny_bind (wpAny_attempt (wpAny_callSpecial?_slot (name:=Str.ofString "__next__") hT F.slot_zip_next (wpAny_call_entry F.slot_zip_next hT F.entry_zip_next ?_ (F.args_zip_next_1 _))));show wpAny _ _ (field (.ref z) 2 >>= _) _ _ _
 refine wpAny_bind (wpAny_field hz rfl (x:=.bool false) rfl ?_);show wpAny _ _ (field (.ref z) 3 >>= _) _ _ _
 refine wpAny_bind (wpAny_field hz rfl (x:=.ref TI) rfl ?_);refine wpAny_bind (wpAny_seqItems hTI rfl ?_);show wpAny _ _ (Builtin.SmallTypes.ownedTupleIsFree (.ref z) >>= _) _ _ _
 refine wpAny_bind ?_;unfold Builtin.SmallTypes.ownedTupleIsFree;refine wpAny_bind (wpAny_field hz rfl (x:=.none) rfl (wpAny_pure ?_));simp only[if_true];refine wpAny_bind (wpAny_rule ?_);refine wpAny_bind (wpAny_field hz rfl (x:=.ref TO) rfl ?_);refine wpAny_bind (wpAny_setField_rec hz (by simp) fun g1 z1 O=>?_);replace z1:IsZip g1 z TI TO .ellipsis:=z1;refine wpAny_bind ?_;simp only[List.zipIdx_cons,List.zipIdx_nil,List.forIn_cons,List.forIn_nil];refine wpAny_bind (wpAny_bind (wpAny_onRaise ?_));show wpAny _ _ (Builtin.SmallTypes.nextOf (.ref i1) >>= _) _ _ _
 cases hx:xs[k1]? with
 |none =>
  refine wpAny_bind (nextT_end hh (h1.but O.extBut D.i1z D.l1z) hx fun g2 e H he=>?_);obtain⟨oe,B,G⟩:=he;have z2:IsZip g2 z TI TO .ellipsis:=H _ _ D.i1z.symm z1;have J:e≠z:=fun q=>by subst q;rw[z2]at B;cases B;simp at G
  refine wpAny_setField_rec z2 (by simp) fun g3 _ M=>?_;exact wpAny_bind (wpAny_isInstance (T:="StopIteration") (b:=true) ⟨oe,M.extBut _ _ J B,G⟩ isSubtype_stop (wpAny_pure (hQ _ fun c o Y _ c3 _ q=>M.extBut _ _ Y (H _ _ c3 (O.extBut _ _ Y q)))))
 |some x =>
  have hy:ys[k2]? = none:=by rcases U with h|h;rw[hx]at h;cases h;exact h
  refine wpAny_bind (Jj (h1.but O.extBut D.i1z D.l1z) D.l1i1 hx fun g2 f2 H=>wpAny_pure ?_);have o2:IsPair g2 TO a b:=H.extBut _ _ D.TOi1 (O.extBut _ _ D.TOz hTO);refine wpAny_bind (wpAny_seqItems o2 rfl ?_);refine wpAny_bind (wpAny_updateSeq_pair o2 fun g3 o3 M=>?_);refine wpAny_bind (wpAny_letGo (wpAny_pure ?_));refine wpAny_bind (wpAny_bind (wpAny_onRaise ?_));show wpAny _ _ (Builtin.SmallTypes.nextOf (.ref i2) >>= _) _ _ _
  refine wpAny_bind (nextT_end hh (((h2.but O.extBut D.i2z D.l2z).but H.extBut D.i12.symm D.l2i1).but M.extBut D.TOi2.symm D.l2TO) hy fun g4 e s4 he=>?_);obtain⟨oe,B,G⟩:=he;have z4:IsZip g4 z TI TO .ellipsis:=s4 _ _ D.i2z.symm (M.extBut _ _ D.TOz.symm (H.extBut _ _ D.i1z.symm z1));have J:e≠z:=fun q=>by subst q;rw[z4]at B;cases B;simp at G
  refine wpAny_setField_rec z4 (by simp) fun g5 _ s5=>?_;exact wpAny_bind (wpAny_isInstance (T:="StopIteration") (b:=true) ⟨oe,s5.extBut _ _ J B,G⟩ isSubtype_stop (wpAny_pure (hQ _ fun c o Y c2 c3 c4 q=>s5.extBut _ _ Y (s4 _ _ c4 (M.extBut _ _ c2 (H.extBut _ _ c3 (O.extBut _ _ Y q)))))))
end
def zT5 (h:Heap)(l1 z:Addr):Heap:=((((h.push { cls:=.type "tuple_iterator",data:=.fields #[.ref l1,.int 0 0] }).push { cls:=.type "tuple_iterator",data:=.fields #[.ref z,.int 0 0] }).push { cls:=.type "tuple",data:=.seq #[.ref h.objs.size,.ref (h.objs.size+1)] }).push { cls:=.type "tuple",data:=.seq #[.none,.none] }).push { cls:=.type "zip",data:=.fields #[.none,.bool false,.bool false,.ref (h.objs.size+2),.ref (h.objs.size+3)] }
theorem meets_zipT (l1 z:Addr)(xs Y:Array Value) :
  Meets (Builtin.«zip.__new__» ⟨[.type "zip",.ref l1,.ref z],[]⟩) (fun _ R s=>s.heap.IsTuple l1 xs/\s.heap.IsTuple z Y/\R (.ok (.ret (.ref (s.heap.objs.size+4)))) { s with heap:=zT5 s.heap l1 z }) :=
 .of_wp fun prog w A R s h=>by
  obtain⟨U,g,d,tk,O⟩:=s;obtain⟨B,G,h⟩:=h
  have M:=sub_zip
  have H:Heap.IsTuple (Shared.heap ⟨U,g,d,tk,O⟩) l1 xs:=B
  have J:Heap.IsTuple (Shared.heap ⟨U.push { cls:=.type "tuple_iterator",data:=.fields #[.ref l1,.int 0 0] },g,d,tk,O⟩) z Y:=Heap.IsTuple.push G _
  wp_walk using wpAny_pyIter_tuple H,wpAny_pyIter_tuple J
  refine⟨_,rfl,?_⟩
  simp only[zT5]at h
  simp only[Heap.size_push,Nat.add_assoc]at h ⊢
  exact h
section
variable {prog:Program}{w:World}{A:Around}{E:Value->Shared->Prop}{s:Shared}
theorem gps {h:Heap}{o:Obj}{n:Nat}(e:h.objs.size=n)(z:(h.push o).get? h.objs.size=some o):(h.push o).get? n=some o:=e ▸ z
theorem call_zipT {l1 z:Addr}{xs J:Array Value}{Q:Value->Shared->Prop}(H:s.heap.IsTuple l1 xs)(G:s.heap.IsTuple z J)
  (h:∀B,IsZip B (s.heap.objs.size+4) (s.heap.objs.size+2) (s.heap.objs.size+3) .none->IsPair B (s.heap.objs.size+2) (.ref s.heap.objs.size) (.ref (s.heap.objs.size+1)) ->
   IsPair B (s.heap.objs.size+3) .none .none->B.IsTupleIter s.heap.objs.size l1 0->B.IsTupleIter (s.heap.objs.size+1) z 0 ->
   (∀c o,s.heap.get? c=some o->B.get? c=some o)->Q (.ref (s.heap.objs.size+4)) { s with heap:=B }) :
  wpAny (model prog w) A (call (.type "zip") [.ref l1,.ref z]) Q E s:=by
 refine callType_new F.called_zip (by decide) (F.typeCall_zip_2 _ _) (F.newCall_zip_2 _ _) (fun obj=>F.args_object_init_3 obj _ _) F.entry_zip_new (meets_zipT l1 z xs J) ⟨H,G,?_⟩;have M:(zT5 s.heap l1 z).get? (s.heap.objs.size+4)=some _:=gps (by simp only[Heap.size_push]) (Heap.get?_push_size _ rfl);have O:(zT5 s.heap l1 z).get? (s.heap.objs.size+3)=some _:=Heap.get?_push_of_some _ (gps (by simp only[Heap.size_push]) (Heap.get?_push_size _ rfl));have Y:(zT5 s.heap l1 z).get? (s.heap.objs.size+2)=some _:=Heap.get?_push_of_some _ (Heap.get?_push_of_some _ (gps (by simp only[Heap.size_push]) (Heap.get?_push_size _ rfl)));have U:(zT5 s.heap l1 z).get? (s.heap.objs.size+1)=some _:=Heap.get?_push_of_some _ (Heap.get?_push_of_some _ (Heap.get?_push_of_some _ (gps (by simp only[Heap.size_push]) (Heap.get?_push_size _ rfl))));have g1:(zT5 s.heap l1 z).get? s.heap.objs.size=some _:=Heap.get?_push_of_some _ (Heap.get?_push_of_some _ (Heap.get?_push_of_some _ (Heap.get?_push_of_some _ (Heap.get?_push_size _ rfl))));exact⟨⟨_,M,rfl⟩,h _ M Y O ⟨_,g1,rfl,rfl⟩ ⟨_,U,rfl,rfl⟩ fun c o x =>
  Heap.get?_push_of_some _ (Heap.get?_push_of_some _ (Heap.get?_push_of_some _ (Heap.get?_push_of_some _ (Heap.get?_push_of_some _ x))))⟩
end
def Itzt (K : zA)(a b : Addr) : It :=
  ⟨fun i H => ∃z B, SqT K H a z∧SqT K H b B∧i<z.length∧i<B.length,
   fun i H x G => ∃T u v, x=.ref T∧H T=none∧G=upd H T (.tup [u, v])∧(∀z, SqT K H a z → z[i]? = some u)∧(∀B, SqT K H b B → B[i]? = some v),
   fun i H => ∃z B, SqT K H a z∧SqT K H b B∧(z.length ≤ i∨B.length ≤ i)⟩
def tnZT (z TI TO B G a b:Addr)(i:Nat)(h:Heap):Prop:=IsZip h z TI TO .none/\IsPair h TI (.ref B) (.ref G)/\(∃x y,IsPair h TO x y)/\h.IsTupleIter B a i/\h.IsTupleIter G b i
theorem ti_at {h h':Heap}{a t:Addr}{i:Nat}(x:h.IsTupleIter a t i)(k:∀o,h.get? a=some o->h'.get? a=some o):h'.IsTupleIter a t i :=
 let ⟨o,z,r⟩:=x;⟨o,k o z,r⟩
theorem turn_zipT {P:Program}{w:World}{K:zA}{elts:List Expr}{x1:Nat}{pos:Pos}{z TI TO G J a b:Addr}(D:ZipApart z TI TO G J a b):Turn P w K (.Tuple elts x1 pos) (Itzt K a b) [z,TI,TO,G,J] z (tnZT z TI TO G J a b) where
 mem:=by simp
 obj:=fun i h M c B=>by
  obtain⟨t1,O,⟨x0,y0,Y⟩,⟨o4,e4,c4,d4⟩,⟨o5,e5,c5,d5⟩⟩:=M
  simp only[zD,zW,or_false]at B
  rcases B with e|e|e|e|e<;>subst e
  ·exact⟨_,t1,fun v q=>by cases q⟩
  ·exact⟨_,O,fun v q=>by cases q⟩
  ·exact⟨_,Y,fun v q=>by cases q⟩
  ·exact⟨o4,e4,fun v q=>by rw[d4]at q;cases q⟩
  ·exact⟨o5,e5,fun v q=>by rw[d5]at q;cases q⟩
 keep:=fun i h h' M k=>by
  obtain⟨t1,O,⟨x0,y0,Y⟩,t4,t5⟩:=M
  exact⟨k z (by simp) _ t1,k TI (by simp) _ O,⟨x0,y0,k TO (by simp) _ Y⟩,ti_at t4 fun o e=>k G (by simp) o e,ti_at t5 fun o e=>k J (by simp) o e⟩
 item:=by
  intro X hP hw hK B i pins s σ H E I hf M hg;subst hP hw hK;obtain⟨xs,ys,hq,U,hi,hi2⟩:=hg;obtain⟨its,rv,p,hz⟩:=I.tuple hq;obtain⟨its2,rv2,p2,hz2⟩:=I.tuple U;obtain⟨u,hu,ru⟩:=rv.get (qA hi);obtain⟨v,hv,rv'⟩:=rv2.get (qA hi2);obtain⟨t1,O,⟨x0,y0,Y⟩,t4,t5⟩:=M;have hl1:z<s.heap.objs.size:=Heap.lt_size t1;have hl3:TO<s.heap.objs.size:=Heap.lt_size Y;have hl2:TI<s.heap.objs.size:=Heap.lt_size O;have hl4:G<s.heap.objs.size:=by obtain⟨o,e,_⟩:=t4;exact Heap.lt_size e
  have hl5:J<s.heap.objs.size:=by obtain⟨o,e,_⟩:=t5;exact Heap.lt_size e
  refine zipT_item D t1 O Y ⟨t4,p⟩ ⟨t5,p2⟩ (x:=u) (y:=v) (by simpa using hu) (by simpa using hv) fun h' a1 a2 a3 a4 a5 a6 a7=>⟨_,rfl,?_⟩;refine wpAny_letOwnedTupleGo_zip a1 fun h2 b1 b2=>?_;have hT0:H s.heap.objs.size=none:=I.hok.fresh (zB _);have I1:Inv X pins σ (upd H s.heap.objs.size (.tup [xs[i],ys[i]])) { s with heap:=s.heap.push { cls:=.type "tuple",data:=.seq [u,v].toArray } } :=
   I.laid (t':=s.toks) (fun b o e=>Heap.get?_push_of_some _ e) (zB _) (show ObjOk X.prog X.w _ _ _ (.tup [xs[i],ys[i]]) from⟨zZ (by show 2<=1000;decide),[u,v],.cons ru (.cons rv' .nil),IsTup.new _ _⟩)
  have fpk:∀c∈[z,TI,TO,G,J],c≠s.heap.objs.size:=fun c B=>by
   simp only[zD,zW,or_false]at B;rcases B with e|e|e|e|e<;>subst e<;>exact zG (by assumption)
  have fp2:∀c∈[z,TI,TO,G,J],FpOk X pins (upd H s.heap.objs.size (.tup [xs[i],ys[i]])) c:=fun c B=>by
   obtain⟨f0,f⟩:=hf c B;exact⟨by rw[yL (fpk c B)];exact f0,f⟩
  have I2:Inv X pins σ (upd H s.heap.objs.size (.tup [xs[i],ys[i]])) { s with heap:=h2 }:=by
   refine Inv.turnedL (s:={ s with heap:=s.heap.push { cls:=.type "tuple",data:=.seq [u,v].toArray } }) (t':=s.toks) (h':=h2) [z,TO,G,J] I1 (fun b o hb e=>?_) (fun c B=>fp2 c (by simp only[zD,zW,or_false]at B ⊢;rcases B with e|e|e|e<;>simp[e]));simp only[zD,zW,or_false,not_or]at hb;obtain⟨n1,n2,n3,n4⟩:=hb;refine(b2.2 b n1).trans ?_;by_cases hT:b=s.heap.objs.size
   ·subst hT;rw[Heap.get?_push_size _ rfl]at e;rw[<-e];exact a5
   ·exact a7 b o n1 n2 n3 n4 (zAQ hT e)
  have t4':h2.IsTupleIter G a (i+1):=ti_at a3.1 fun o e=>(b2.2 _ D.i1z).trans e;have t5':h2.IsTupleIter J b (i+1):=ti_at a4.1 fun o e=>(b2.2 _ D.i2z).trans e;refine⟨.ref s.heap.objs.size,_,I2,rfl,⟨_,xs[i],ys[i],rfl,hT0,rfl,fun zs h=>?_,fun zs h=>?_⟩,⟨b1,(b2.2 _ D.TIz).trans (a7 TI _ D.TIz D.TITO D.TIi1 D.TIi2 O),⟨_,_,(b2.2 _ D.TOz).trans a2⟩,t4',t5'⟩,fun c B=>(fp2 c B).1⟩
  ·rw[I.tuple_inj h hq];exact qA hi
  ·rw[I.tuple_inj h U];exact qA hi2
 done:=by
  intro X hP hw hK B i pins s σ H E I hf M hg;subst hP hw hK;obtain⟨xs,ys,hq,U,hend⟩:=hg;obtain⟨its,rv,p,hz⟩:=I.tuple hq;obtain⟨its2,rv2,p2,hz2⟩:=I.tuple U;obtain⟨t1,O,⟨x0,y0,Y⟩,t4,t5⟩:=M;refine zipT_end (I.ok.hd B) D t1 O Y ⟨t4,p⟩ ⟨t5,p2⟩ ?_ fun h' a7=>⟨rfl,?_⟩
  ·rcases hend with e|e
   ·left;simp[<-rv.length,e]
   ·right;simp[<-rv2.length,e]
  ·refine Inv.turnedL (t':=s.toks) (h':=h') [z,TO,G,J] I (fun b o hb e=>?_) (fun c B=>hf c (by simp only[zD,zW,or_false]at B ⊢;rcases B with e|e|e|e<;>simp[e]));simp only[zD,zW,or_false,not_or]at hb;obtain⟨n1,n2,n3,n4⟩:=hb;exact a7 b o n1 n2 n3 n4 e
 self:=fun _ _ _ _ _ M h=>wpAny_pyIter_zip M.1 h
def iZip2 (K:zA)(O:TA):TI:=fun M H R=>O M H fun J z=>∃a b B G,J=[.ref a,.ref b]/\((SqL K z a B/\SqL K z b G/\R (Itz K a b) z)\/(SqT K z a B/\SqT K z b G/\R (Itzt K a b) z))
theorem pi_zip2 {X:Cx} {elts:List Expr} {x1:Nat} {Y:Pos} {a b:Expr} {ta:TA} {p pos:Pos} (hg:Gl X "zip") (hm:X.mg "zip" = none) (ha:PA X [a,b] ta) (hs:starEach [a,b] X.env=(false,eval a X.env)::starEach [b] X.env:=by rfl) (hpl:(backTo pos (starEach [b] X.env)).any (·.1)=false:=by rfl) :
  PI X (.Tuple elts x1 Y) (.Call (.Name "zip" p) [a,b] [] pos) (iZip2 X.K ta):=by
 intro pins s σ H R I h;refine Call_ (Jf I hg hm bo_zip (PyProof.Rows.callWith_type1 (thn (ha pos pins s σ H _ I h) fun us z ⟨vs,H1,G,r1,q1⟩=>?_) hs hpl));obtain⟨l1,l2,xs,ys,e,alt⟩:=q1;subst e;obtain⟨u1,u2,rfl,ru1,ru2⟩:=vals2 r1;cases (show u1=Value.ref l1 from ru1)
 cases (show u2=Value.ref l2 from ru2)
 have mk:∀(O:l1<z.heap.objs.size) (lt2:l2<z.heap.objs.size),ZipApart (z.heap.objs.size+4) (z.heap.objs.size+2) (z.heap.objs.size+3) z.heap.objs.size (z.heap.objs.size+1) l1 l2:=fun O lt2=>by
  have q1:@LT.lt Nat _ l1 z.heap.objs.size:=O;have q2:@LT.lt Nat _ l2 z.heap.objs.size:=lt2;constructor<;>(show ¬ @Eq Nat _ _;omega)
 have fp:∀c∈[z.heap.objs.size+4,z.heap.objs.size+2,z.heap.objs.size+3,z.heap.objs.size,z.heap.objs.size+1],FpOk X pins H1 c:=fun c hc=>by
  have hle:z.heap.objs.size<=c:=by
   simp only[zD,zW,or_false]at hc;show(z.heap.objs.size:Nat)<=c
   rcases hc with e|e|e|e|e<;>subst e<;>(show @LE.le Nat _ _ _;omega)
  exact G.fpOk hle (G.hok.fresh hle)
 rcases alt with⟨hq,J,q⟩|⟨hq,J,q⟩
 ·obtain⟨its,rv,U,hz⟩:=G.list hq;obtain⟨M,rv2,B,hz2⟩:=G.list J;refine call_zip_2 U.isList B.isList fun h' z1 z2 z3 z4 z5 z6 z7=>?_;refine wpAny_pyIter_zip z1 ?_;exact⟨z.heap.objs.size+4,_,_,_,H1,rfl,G.kept (t':=z.toks) z7,turn_zip (mk (by obtain⟨o,e,_⟩:=U.isList;exact Heap.lt_size e) (by obtain⟨o,e,_⟩:=B.isList;exact Heap.lt_size e)),⟨z1,z2,⟨_,_,z3⟩,z4,z5⟩,fp,q⟩
 ·obtain⟨its,rv,U,hz⟩:=G.tuple hq;obtain⟨M,rv2,B,hz2⟩:=G.tuple J;refine call_zipT U B fun h' z1 z2 z3 z4 z5 z7=>?_;refine wpAny_pyIter_zip z1 ?_;exact⟨z.heap.objs.size+4,_,_,_,H1,rfl,G.kept (t':=z.toks) z7,turn_zipT (mk (by obtain⟨o,e,_⟩:=U;exact Heap.lt_size e) (by obtain⟨o,e,_⟩:=B;exact Heap.lt_size e)),⟨z1,z2,⟨_,_,z3⟩,z4,z5⟩,fp,q⟩
theorem w_compZ2 {K:zA}{B:St}{H:Hp}{Q:VK}{Y:TA}{O:Nat}{G:List Nat}{g:TG}{M:TT}{J:TE}:JL (iZip2 K Y) O G g M J B H Q=(Y B H fun vs z=>∃a b U ys,vs=[.ref a,.ref b]/\((SqL K z a U/\SqL K z b ys/\yX (Itz K a b) O G g M J B z Q)\/(SqT K z a U/\SqT K z b ys/\yX (Itzt K a b) O G g M J B z Q))):=rfl
structure Gt (ins:Nat) (ds:List Wd) (gs:List Go) (i:Nat) (ms:List Nat):Prop where
 sd:∀x∈ms,Rch ins ds gs x
 rt:∀g∈gs,g.sg≠0->g.th∈ms
 cl:∀k d,ds[k]? = some d->ds.length<=k+i->ins+k∈ms->d.a∈ms/\d.b∈ms
 ln:ms.length<=gs.length+2*i
def kp (bs:List Bool)(ins j:Nat):Prop:=j<ins\/bs[j]? = some true
instance (bs:List Bool) (ins j:Nat):Decidable (kp bs ins j):=by unfold kp;infer_instance
section
variable {ins:Nat}{ds:List Wd}{gs:List Go}{bs:List Bool}
end
section
variable {K:zA}{σ:St}{H:Hp}{Q:VK}{cs:List Nat}{te:TE}
end
def TrX (h:Heap)(e:Addr)(C:Value)(d:Option Addr)(T:Addr):Prop :=
 ∃z B G H,h.get? e=some z/\z.cls=C/\z.dict=d/\z.data=.fields B/\B[1]? = some (.ref T)/\T≠e/\h.get? T=some G/\G.data=.fields H/\H[3]? = some .none
def NwX (h:Heap)(e:Addr)(C:Value)(d:Option Addr):Prop:=∃z B,h.get? e=some z/\z.cls=C/\z.dict=d/\z.data=.fields B/\B[1]? = some .none
structure Lv (fr:List Addr) (e:Addr) (C:Value) (d:Option Addr) (T:Option Addr) (h h':Heap):Prop where
 keep:∀b o,b∉fr->b≠e->some b≠T->h.get? b=some o->h'.get? b=some o
 slot:∀b o,b∈fr->h.get? b=some o->∃sl,h'.get? b=some { o with slots:=sl }
 exc:TrX h' e C d h.objs.size
section
variable {M:Model}{A:Around}{E:Value->Shared->Prop}{s:Shared}{base:Heap}{env:Env}{outer:List Env}{L e:Addr}{oe:Obj}{vs:Array Value}{Q:Unit->Shared->Prop}
theorem lv_entry {head:Value}{H:Bool}(hfr:A.frames=some (env::outer))(hl:s.heap.FunFrames base (env::outer))(hf:env.frame=some L)
  (he:s.heap.get? e=some oe) (hd:oe.data=.fields vs) (hsz:1<vs.size)
  (h:∀h',Lv ((env::outer).filterMap (·.frame)) e oe.cls oe.dict none s.heap h'->Q () { s with heap:=h' }) :
  wpAny M A (do let a ← frameOf env;let Y ← entryPlaceOf L H;let b ← EntryCells.newEntry head a .none (rawInt L) .none Y;setField (.ref e) 1 b) (fun _ s'=>wpAny M A (setFlight (.ref e) none) Q E s') E s:=by
 have J:e∉(env::outer).filterMap (·.frame):=fun hm=>by
  obtain⟨_,o,ho,hnf⟩:=hl.mem hm;rw[he]at ho;injection ho with ho;subst ho;exact hnf vs hd
 refine wpAny_bind (wpAny_frameOf_fun hfr hl hf fun B s1=>?_);refine wpAny_bind (wpAny_entryPlaceOf fun Y hpl=>?_);unfold EntryCells.newEntry newFields;refine wpAny_bind (wpAny_newObj_type ?_ (hpl.sizeOk5 _ _ _ _ _));have e1:B.get? e=some oe:=(s1.2.1 e J).trans he;generalize hob:({ cls:=.type "traceback",dict:=none,data:=.fields ([head,.ref L,.none,rawInt L,.none]++(if Y.isEmpty then qQ 6 Value.none else Y)).toArray }:Obj)=ob;have e2:=Heap.get?_push_of_some (h:=B) ob e1;refine wpAny_setField e2 hd hsz ?_;have O:B.objs.size≠e:=xG (Heap.lt_size e1);have d3:=Obj.data_mapFields hd (·.setIfInBounds 1 (Value.ref B.objs.size));have e3:=Heap.get?_update_self (Obj.mapFields (·.setIfInBounds 1 (Value.ref B.objs.size))) e2 (Obj.isFreed_of_fields d3);have G:ob.data=.fields ([head,.ref L,.none,rawInt L,.none]++(if Y.isEmpty then qQ 6 Value.none else Y)).toArray:=by rw[<-hob]
 have T3:=(Heap.get?_update_other (B.push ob) (Obj.mapFields (·.setIfInBounds 1 (Value.ref B.objs.size))) (Ne.symm O)).trans (Heap.get?_push_size B (by rw[<-hob];rfl));unfold setFlight;refine wpAny_bind (wpAny_field e3 d3 (x:=.ref B.objs.size) (by simp[hsz]) ?_);rw[if_pos (show(Value.ref B.objs.size != Value.none)=true from by simp)];refine wpAny_setField T3 G (by simp only[qM,qF,zI,xi]<;>omega) (h _ ?_);have keep:∀b o,b≠e->B.get? b=some o->(((B.push ob).update e (Obj.mapFields (·.setIfInBounds 1 (Value.ref B.objs.size)))).update B.objs.size (Obj.mapFields (·.setIfInBounds 3 ((none:Option Addr).elim Value.none fun f=>rawInt f)))).get? b=some o:=fun b o U hb=>by
  have hbT:B.objs.size≠b:=xG (Heap.lt_size hb);rw[Heap.get?_update_other _ _ hbT,Heap.get?_update_other _ _ (Ne.symm U)];exact Heap.get?_push_of_some _ hb
 refine⟨fun b o hb U _ hg=>keep b o U ((s1.2.1 b hb).trans hg),fun b o hb hg=>?_,?_⟩
 ·obtain⟨sl,hs⟩:=s1.2.2 b o hg;exact⟨sl,keep b _ (fun z=>J (z ▸ hb)) hs⟩
 ·rw[<-s1.1];refine⟨_,_,_,_,?_,Obj.cls_mapFields _ _,?_,d3,by simp[hsz],O,Heap.get?_update_self _ T3 (Obj.isFreed_of_fields (Obj.data_mapFields G _)),Obj.data_mapFields G _,by first|(simp;done)|(rcases hpl with rfl|⟨_,_,_,_,_,_,_,rfl⟩<;>simp)⟩
  ·rw[Heap.get?_update_other _ _ O];exact e3
  ·obtain⟨oc,od,dt,sl⟩:=oe;cases hd
   rfl
theorem lv_first {C:Value}{d:Option Addr}(B:A.frames=some (env::outer))(U:s.heap.FunFrames base (env::outer))(G:env.frame=some L)(z:NwX s.heap e C d)
  (h:∀H,Lv ((env::outer).filterMap (·.frame)) e C d none s.heap H->Q () { s with heap:=H }):wpAny M A (leaving env (.ref e)) Q E s:=by
 obtain⟨oe,vs,z,rfl,rfl,J,O⟩:=z;unfold leaving noteFrame;simp only[G];refine wpAny_bind (wpAny_bind (wpAny_field z J O ?_));rw[if_neg (by decide)];exact lv_entry B U G z J (Array.getElem?_eq_some_iff.mp O).1 h
end
def CXe (P:Program)(w:World)(base:Heap):CXT:=fun outer H s E e z=>∃(x T:Addr) (C:Value) (d:Option Addr) (B:Hp),e=.ref x/\z.os=s.os/\AllBare z.gens/\Un (frs outer) [] H B s.heap z.heap/\HOk P w B z.heap /\
 TrX z.heap x C d T/\s.heap.get? x=none/\s.heap.get? T=none/\B x=none/\B T=none/\E C d B
def Raises (X:Cx)(E:XK):Prop:=∀(pins:List (Addr×Obj)) (z:St) (H:Hp) (s:Shared) (e:Addr) (C:Value) (d:Option Addr),Inv X pins z H s->NwX s.heap e C d->H e=none->X.s₀.heap.get? e=none->E C d H->X.xe (.ref e) s
section
variable {P:Program}{w:World}{K:zA}{mg:Str->Option Value}{base:Heap}{N:List Str}{qual:Str}{scope:Scope}{f:Addr}{cd:Value}{A:Around}{outer:List Env}{s:Shared}{H:Hp}{E:XK}
theorem leave_ok {pins:List (Addr×Obj)}{σ:St}{H':Hp}{s':Shared}{h':Heap}{x:Addr}{C:Value}{d:Option Addr}{U:Option Addr}
  (I:Inv (cxOf (CXe P w base) P w K mg base N qual scope f cd A outer s H E) pins σ H' s') (l:Lv ((envOfC qual scope s.heap.objs.size f cd::outer).filterMap (·.frame)) x C d U s'.heap h')
  (hx:s.heap.get? x=none) (hn:H' x=none) (hT:∀T,U=some T->s.heap.get? T=none/\H' T=none) (he:E C d H'):CXe P w base outer H s E (.ref x) { s' with heap:=h' }:=by
 have st:(cxOf (CXe P w base) P w K mg base N qual scope f cd A outer s H E).stack=envOfC qual scope s.heap.objs.size f cd::outer:=rfl;have aa:∀b,b∈(envOfC qual scope s.heap.objs.size f cd::outer).filterMap (·.frame)->b=s.heap.objs.size\/b∈frs outer:=fun b G=>by
  have:=I.stkSub b G;exact zD.mp this
 have J:∀b o,s.heap.get? b=some o->b∉frs outer->b∉(envOfC qual scope s.heap.objs.size f cd::outer).filterMap (·.frame):=fun b o e G z=>by
  rcases aa b z with q|q
  ·exact absurd (Heap.lt_size e) (by rw[q];exact zt _)
  ·exact G q
 have O:∀b o,s.heap.get? b=some o->b≠x:=fun b o e z=>by rw[z,hx]at e;cases e
 have M:∀b o,s.heap.get? b=some o->some b≠U:=fun b o e z=>by rw[(hT b z.symm).1]at e;cases e
 have sub:∀b,b∈frs outer->b∈(envOfC qual scope s.heap.objs.size f cd::outer).filterMap (·.frame):=fun b G=>by
  rw[zY];split
  ·exact G
  ·exact zF _ G
 refine⟨x,s'.heap.objs.size,C,d,H',rfl,I.os,I.bare,⟨fun b o e n G B=>?_,fun b o e n G B=>?_,fun b o e n B=>I.base.free b o e n B,fun b o e B=>?_,I.base.tups,I.base.frzs,I.base.tbls⟩,fun b u q=>?_,l.exc,hx,Heap.get?_none_of_le I.sz,hn,I.hok.fresh (zB _),he⟩
 ·exact l.keep b o (J b o e G) (O b o e) (M b o e) (I.base.keep b o e n G B)
 ·obtain⟨sl,Y⟩:=I.base.slot b o e n G B;obtain⟨sl2,e2⟩:=l.slot b _ (sub b G) Y;exact⟨sl2,e2⟩
 ·obtain⟨o',Y⟩:=I.base.there b o e B;by_cases G:b∈(envOfC qual scope s.heap.objs.size f cd::outer).filterMap (·.frame)
  ·obtain⟨sl,e2⟩:=l.slot b o' G Y;exact⟨_,e2⟩
  ·exact⟨o',l.keep b o' G (O b o e) (M b o e) Y⟩
 ·have trk:∀c v,H' c=some v->c∉(envOfC qual scope s.heap.objs.size f cd::outer).filterMap (·.frame)/\c≠x/\some c≠U:=fun c v e=>by
   refine⟨fun z=>?_,fun z=>?_,fun z=>?_⟩
   ·have:=I.stkFree c z;rw[e]at this;cases this
   ·rw[z,hn]at e;cases e
   ·rw[(hT c z.symm).2]at e;cases e
  refine(I.hok b u q).stay (fun c v hc e=>?_) (fun _ z=>z) fun _ _ z=>z;have tc:∃v,H' c=some v:=by
   rcases hc with z|z
   ·rw[z];exact⟨_,q⟩
   ·exact⟨_,z⟩
  obtain⟨v',hv⟩:=tc;obtain⟨n1,n2,n3⟩:=trk c v' hv;exact l.keep c v n1 n2 n3 e
theorem raises_of:Raises (cxOf (CXe P w base) P w K mg base N qual scope f cd A outer s H E) E:=by
 intro pins σ Y U e C d I J M B G;exact lv_first (base:=base) (L:=s.heap.objs.size) I.ok.frames I.stack rfl J fun O l=>leave_ok I l B M (fun T z=>by cases z) G
end
structure CalX (P:Program) (w:World) (K:zA) (mg:Str->Option Value) (base:Heap) (k:Nat) (x:Str) (ps:List Str) (sp:Sp):Prop where
 ex:∃(f:Addr) (fd:FuncData),FnOk P w K mg base (CXe P w base) k f fd ps sp/\mg x=some (.ref f)/\x5 K (.ref f)=true/\Binds K fd ps []
section
variable {X:Cx}{k:Nat}{x:Str}{ps:List Str}{sp:Sp}{e:Expr}{es:List Expr}{t:TA}{p pos:Pos}{E:XK}
end
section
variable {P:Program}{w:World}{K:zA}{mg:Str->Option Value}{base:Heap}
theorem mkCalX {x qual:Str}{st:Stmt}{N G:List Str}{k:Nat}{sp:Sp}(T:∃(f:Addr) (J:FuncData),Fun K x qual st f J/\mg x=some (.ref f)/\Binds K J G [])(S:FnScope N G (zT st))(len:∀vs H Q E,sp vs H Q E->vs.length=G.length)
  (B:∀(f:Addr) (z:Value) (A:Around) (outer:List Env) (s:Shared) (H:Hp) (vs:List V) (Q:VK) (E:XK),Room k (A.deeper (envOfC qual (zT st) s.heap.objs.size f z))->sp vs H Q E ->
   ∃t,PSs (cxOf (CXe P w base) P w K mg base N qual (zT st) f z A outer s H E) (xq st) t/\t { nx:=fun _ U=>Q .non U,rt:=Q } (jj N vs) H):CalX P w K mg base (k+1) x G sp:=by
 obtain⟨f,J,F,m,b⟩:=T;obtain⟨oc,od,kV,doc,pm,an,z,ct,aa,rfl,lk,M⟩:=F.ex;exact⟨f,_,fn_of lk M S len fun A outer s H vs Q E Y O=>B f z A outer s H vs Q E Y O,m,F.kp,b⟩
end
theorem exc_obj {K:zA}{h:Heap}{C:Addr}{G:List Value}{newId:String}(X:K.In h)(q:PySem.W.excIn K C G newId=true) :
  ∃Y N nm q bs B sn sub ab col dd O M k2 U J mN,h.get? C=some (excClassObj nm q C N bs Y B sn sub ab col dd O M k2 U J newId)/\h.Ns N mN/\mN "__init__" = none/\OwnTail h G Y:=by
 unfold PySem.W.excIn at q;split at q
 ·rename_i dd cd sl ho
  split at q
  ·rename_i C' Y O M k2 U n J hm hs
   simp only[zX,beq_iff_eq,yb]at q;obtain⟨⟨⟨⟨⟨rfl,rfl⟩,z⟩,ht⟩,hok⟩,H⟩:=q;obtain⟨nm,bs,mro,ns,qn,hd,sn,sub,ab,col,del⟩:=cd;dsimp only at hm z hok H;subst hm z;have hsl:sl = #[O,M,k2,U,some (.builtin n),J]:=by
    obtain⟨l⟩:=sl;simp only at hs;rw[hs]
   subst hsl;exact⟨Y,ns,nm,qn,bs,hd,sn,sub,ab,col,dd,O,M,k2,U,J,_,X _ _ ho,.of_isNs (PySem.W.isNs_of_in X hok),PySem.W.nsMap_none_of_in X hok H,PySem.W.tail_of_in X ht⟩
  ·cases q
 ·cases q
theorem ObjOk.there {P:Program}{w:World}{H:Hp}{h:Heap}{a:Addr}{o:HO}(x:ObjOk P w H h a o):∃u,h.get? a=some u:=by
 cases o with
 |lst B=>obtain⟨_,_,_,_,e⟩:=x;exact⟨_,e⟩
 |tup B=>obtain⟨_,_,_,o,e,_⟩:=x;exact⟨_,e⟩
 |dK z=>obtain⟨_,_,_,_,o,_,_,e,_⟩:=x;exact⟨_,e⟩
 |dT z=>obtain⟨_,_,_,_,o,_,_,e,_⟩:=x;exact⟨_,e⟩
 |set S n=>obtain⟨o,_,_,_,e,_⟩:=x;exact⟨_,e⟩
 |ins C Y fs=>obtain⟨_,_,_,e,_⟩:=x;exact⟨_,e⟩
 |own y=>obtain⟨_,e⟩:=x;exact⟨_,e⟩
 |xd fs=>obtain⟨_,⟨_,_,_,e,_⟩,_⟩:=x;exact⟨_,e⟩
 |rng J U=>obtain⟨_,_,_,e⟩:=x;exact⟨_,e⟩
 |frz O u=>obtain⟨e,_⟩:=x;exact⟨_,e⟩
 |tbl M=>exact⟨_,show h.get? a=some _ from x⟩
 |met f y=>exact⟨_,show h.get? a=some _ from x⟩
 |ext G=>obtain⟨_,⟨_,e⟩,_⟩:=x;exact⟨_,e⟩
theorem hok_none {P:Program}{w:World}{H:Hp}{h:Heap}{a:Addr}(k:HOk P w H h)(n:h.get? a=none):H a=none:=by
 cases q:H a with
 |none=>rfl
 |some o =>
  obtain⟨u,e⟩:=ObjOk.there (k a o q);rw[n]at e;cases e
def tRaise (E:XK)(C:Addr)(B:TA):TS:=fun _ z H=>B z H fun G J=>G.length<=sizeLine/\E (.ref C) none J
theorem w_raise {E:XK}{C:Addr}{B:TA}{D:Ends}{z:St}{H:Hp}:tRaise E C B D z H=(B z H fun G J=>G.length<=sizeLine/\E (.ref C) none J):=rfl
theorem ps_raise {X:Cx}{E:XK}{x:Str}{C:Addr}{ae:List Value}{newId G B:String}{np z pos:Pos}{e:Expr}{es:List Expr}{ta:TA}(hE:Raises X E)(hq:PySem.W.excIn X.K C ae newId=true)(FB:ExcBaseFacts B newId G ae)
  (hc:X.calm=true) (hex:∀b,b∉X.ex) (hg:Gl X x) (hm:X.mg x=some (.ref C)) (ha:PA X (e::es) ta) (hd:(x==("__debug__" : Str))=false:=by decide)
  (he:starEach (e::es) X.env=(false,eval e X.env)::starEach es X.env:=by rfl) (ag:(backTo z (starEach es X.env)).any (·.1)=false:=by rfl) :
  PS X (.Raise (some (.Call (.Name x np) (e::es) [] z)) none pos) (tRaise E C ta):=by
 intro pins s σ H D I h;obtain⟨bm,N,nm,q,bs,ac,sn,sub,ab,col,dd,k0,k1,k2,k3,k5,mN,hC,hN,hni,T⟩:=exc_obj I.kIn hq;obtain⟨ah,N0,au,q0,bs0,M,ai,ad,an,U,ap,av,am,aj,ar,al,ak,aa,ao,af,T0⟩:=exc_obj I.ok.mod.kin hq;have hb0:=aa;refine wpAny_Raise_call_subT (C:=C) (nm:=au) (q:=q0) (N:=N0) (bs:=bs0) (bm:=ah) (hdct:=M) (sn:=ai) (sub:=ad) (ab:=an) (col:=U) (dd:=ap) (k0:=av) (k1:=am) (k2:=aj) (k3:=ar) (k5:=al)
  FB (mN:=ak) (T0.hasType FB.hasBase) (I.ok.hd hc) (by rw[he];show(false || (backTo z (starEach es X.env)).any (·.1))=false;rw[ag];rfl) af (ld_glob I hg hm ⟨rfl,?_⟩ hd)
 have h2:=ha z pins s σ H _ I h;rw[he]at h2 ⊢;refine Calls.evalArgs_plain (wpAny_mono h2 (fun us s1 h1=>?_) fun _ _ y=>y);obtain⟨vs,H1,O,rv,hz,aq⟩:=h1;refine⟨rfl,by rw[<-rv.length];exact hz,O.bk _ _ aa,ao.keeps O.bk,T0.keeps O.bk,fun h' Y J=>?_⟩;obtain⟨t,ht,_,_⟩:=J.there;have n0:X.s₀.heap.get? Y=none:=by
  cases q:X.s₀.heap.get? Y with
  |none=>rfl
  |some o =>
   obtain⟨o',e'⟩:=O.base.there Y o q (hex Y);rw[J.new]at e';cases e'
 exact hE pins σ H1 _ Y (.ref C) none (O.kept (t':=s1.toks) J.keeps) ⟨_,_,ht,rfl,rfl,rfl,rfl⟩ (hok_none O.hok J.new) n0 aq
section
variable {M:Model}{A:Around}{E:Value->Shared->Prop}
end
def XP (X:Cx)(pins:List (Addr×Obj))(B:St)(E:XK)(e:Value)(s':Shared):Prop:=∃(x T:Addr) (C:Value) (d:Option Addr) (z:Hp),e=.ref x/\Inv X pins B z s'/\TrX s'.heap x C d T /\
 (X.s₀.heap.get? x=none/\X.s₀.heap.get? T=none)/\(∀p∈X.pn++pins,p.1≠x/\p.1≠T)/\z x=none/\z T=none/\E C d z
section
variable {prog:Program}{w:World}{A:Around}{E:Value->Shared->Prop}{s:Shared}{K:zA}{x D:Addr}{o:Obj}
end
theorem CalX.cal {P:Program}{w:World}{K:zA}{G:Str->Option Value}{base:Heap}{k:Nat}{x:Str}{J:List Str}{sp:Sp}(C:CalX P w K G base k x J sp):Cal P w K G base k x J (fun B H Q _=>sp B H Q E0):=by
 obtain⟨f,fd,F,b,c,d⟩:=C.ex;refine⟨f,fd,⟨fun B H Q E h=>F.len B H Q E0 h,fun A outer s H args U B Q E O M hb r h=>codeAny_mono (F.run A outer s H args U B Q E0 O M hb r h) fun r s' q=>?_⟩,b,c,d⟩;cases r with
 |error e =>
  obtain⟨_,_,_,_,_,_,_,_,_,_,_,_,_,_,_,z⟩:=q;exact z.elim
 |ok Y =>
  cases Y with
  |ret u=>exact q
  |next=>exact q
  |brk=>exact q
  |cont=>exact q
def PPen (H:Hp)(p a:Addr)(c:Int):Prop:=∃t l:Int,H p=some (.lst [.int l,.int t,.ref a])/\0<=t/\t<=c/\0<=l
theorem PPen.mono {H:Hp}{p a:Addr}{c d:Int}(h:PPen H p a c)(l:c<=d):PPen H p a d:=by
 obtain⟨t,x,e,B,G,z⟩:=h;exact⟨t,x,e,B,by omega,z⟩
theorem PPen.same {H H':Hp}{p a:Addr}{c:Int}(h:PPen H p a c)(s:Same H H'):PPen H' p a c:=by
 obtain⟨t,x,e,r⟩:=h;exact⟨t,x,s _ _ e,r⟩
theorem PPen.lst {H:Hp}{p a:Addr}{c:Int}(h:PPen H p a c):∃z,H p=some (.lst z):=by
 obtain⟨t,x,e,r⟩:=h;exact⟨_,e⟩
theorem PPen.ne {H:Hp}{p a q:Addr}{c:Int}(h:PPen H p a c)(z:H q=none):q≠p:=by
 obtain⟨B,h⟩:=h.lst;exact(ne_of_none h z).symm
theorem PPen.chg {H H':Hp}{p a q:Addr}{c:Int}(h:PPen H p a c)(n:p≠q)(s:Chg q H H'):PPen H' p a c:=by
 obtain⟨t,x,e,r⟩:=h;exact⟨t,x,s _ _ n e,r⟩
theorem ppen_of {H:Hp}{p a:Addr}{t l c:Int}(G:0<=t)(B:t<=c)(z:0<=l):PPen (upd H p (.lst [.int l,.int t,.ref a])) p a c:=⟨t,l,upd_same,G,B,z⟩
theorem Scr.ppen {K:zA}{H H':Hp}{p a:Addr}{c:Int}{ns:List Int}(h:Scr K H a ns)(z:PPen H p a c)(s:Chg p H H'):Scr K H' a ns:=by
 obtain⟨B,e⟩:=z.lst;exact h.chg e s
def spPPen (K:zA):Sp:=fun B H Q _=>∃(a:Addr),B=[.ref a]/\∀p z,H p=none->Same H z->PPen z p a 0->Q (.ref p) z
def spPick (K:zA):Sp:=fun G H Q _=>∃(p a:Addr) (B:List Int) (m c:Int),G=[.ref p,.int m]/\PPen H p a c/\Scr K H a B/\B.length<=63/\c<=1000000000/\1<=m/\m<2^64 /\
 ∀(r:Int) z,0<=r->r<m->PPen z p a (c+1)->Scr K z a B->Chg p H z->Q (.int r) z
theorem y6 {K:zA}{H:Hp}{p a:Addr}{ns:List Int}{m c:Int}{Q:VK}{E:XK}(G:PPen H p a c)(U:Scr K H a ns)(B:ns.length<=63)(M:c<=1000000000)(O:1<=m)(J:m<2^64)
  (q:∀(r:Int) z,0<=r->r<m->PPen z p a (c+1)->Scr K z a ns->Chg p H z->Q (.int r) z):spPick K [.ref p,.int m] H Q E:=⟨p,a,ns,m,c,rfl,G,U,B,M,O,J,q⟩
def coV:V->Option V:=fun x=>match x with
 |.int n=>some (.int (coreN n))
 |_=>none
theorem coV_map (xs:List Int):(xs.map V.int).filterMap coV=(xs.map coreN).map V.int:=by
 rw[List.filterMap_map,yp];exact zAW (fun n=>V.int (coreN n)) xs
def spCores:Sp:=fun G H Q _=>∃(a:Addr) (z:List Int),G=[.ref a]/\H a=some (.lst (z.map V.int))/\z.length<=1000/\∀l B,H l=none->Same H B->B l=some (.lst ((z.map coreN).map V.int))->Q (.ref l) B
open PySem PySem.Spec PyProof PyProof.Rows
section
variable {P:Program}{w:World}{A:Around}{E:Value->Shared->Prop}{s:Shared}
end
section
variable {X:Cx}
end
section
variable {K:zA}{σ:St}{H:Hp}{D:Ends}{g:TG}{tb:TS}{a b:Addr}
end
section
variable {K:zA}{σ:St}{H:Hp}{Q:VK}{cs:List Nat}{te:TE}
end
theorem cut_drop1 {xs:List V}:cutV xs (some 1) none=xs.drop 1:=by
 unfold cutV;rw[HT.sIx_none,show HT.sIx xs.length 0 (some 1)=min 1 xs.length from HT.sIx_nat xs.length 0 1];by_cases h:1<=xs.length
 ·rw[Nat.min_eq_left h];exact yD (by rw[zd];omega)
 ·have:xs=[]:=zJ (by omega);subst this;rfl
section
variable {g:Int->Int->Int->Int->Int}{z:Int}
end
section
variable {K:zA}{σ:St}{H:Hp}{Q:VK}{cs:List Nat}{te:TE}
end
section
variable {prog:Program}{w:World}{A:Around}{E:Value->Shared->Prop}{s:Shared}
end
section
variable {K:zA}{σ:St}{H:Hp}{D:Ends}{g:TG}{tb:TS}{a b c:Addr}
end
section
variable {prog:Program}{w:World}{A:Around}{E:Value->Shared->Prop}{s:Shared}
end
section
variable {K:zA}{σ:St}{H:Hp}{Q:VK}{cs:List Nat}{te:TE}
end
section
variable {X:Cx}
end
def Lies (w x:Int):Prop:=-(2^(w-1).toNat)<=x/\x<2^(w-1).toNat
instance (w x:Int):Decidable (Lies w x):=by unfold Lies;infer_instance
def nz (ns:List Int):List Int:=ns.filter fun n=>decide (n≠0)
theorem zh {t u:TS}{D:Ends}{z:St}{H:Hp}(h:∀R:TS,R=u->tSeq t R D z H):tSeq t u D z H:=h u rfl
theorem seq_inG {g:TG}{x:V}{t u:TS}{D:Ends}{G:St}{H:Hp}(h:∀R:TS,R=u->g x G H fun z B=>tSeq t R D z B):g x G H fun z B=>tSeq t u D z B:=h u rfl
theorem zf {R u:TS}{D:Ends}{z:St}{H:Hp}(e:R=u)(h:u D z H):R D z H:=by rw[e];exact h
section
variable {K:zA}{σ:St}{H:Hp}{Q:VK}{cs:List Nat}{te:TE}
end
section
variable {H H':Hp}{x dl gl:Addr}{ins:Nat}{us:List V}{ds:List Wd}{os:List V}{gs:List Go}
end
theorem same_chg {H B z:Hp}{l:Addr}(n:H l=none)(s:Same H B)(c:Chg l B z):Same H z:=fun b o q=>c b o (ne_of_none q n) (s b o q)
section
variable {α:Type}{f:α->List V}{H0 H H':Hp}{p dl:Addr}{us:List V}{ds:List α}
theorem Chg.two {H B z:Hp}{p l:Addr}(c:Chg p H B)(n:H l=none)(d:Chg l B z):Chg p H z:=fun b o G q=>d b o (ne_of_none q n) (c b o G q)
end
section
variable {H:Hp}{w:Str}{a b d1 g1 d2 g2:Addr}{i1 i2:Nat}{u1 u2:List V}{s1 s2:List Wd}{o1 o2:List V}{t1 t2:List Go}{Q:VK}{E:XK}
end
section
variable {I ins l m:Nat}{f:Nat->Nat}{ds0 ds:List Wd}{gs0 gs:List Go}
end
section
variable {α:Type}{K:zA}{f:α->List V}{H H':Hp}{vs us:List V}{xs:List α}{l:Addr}
end
def fB2 (B z G:Nat)(k:Nat):Nat:=if k<z then B+k else B+z+G+(k-z)
def sT (n:Nat):List V:=[.int n,.int 0,.int 1]
section
variable {X:Cx}
end
section
variable {K:zA}{σ:St}{H:Hp}{Q:VK}{cs:List Nat}{te:TE}
end
section
variable {c:Bool}{i1 i2:Nat}{s1 s2:List Wd}{t1 t2:List Go}
end
section
variable {K:zA}{σ:St}{H:Hp}{Q:VK}{cs:List Nat}{te:TE}
end
def Rise (xs:Array Nat):Prop:=∀i j (B:i<xs.size) (z:j<xs.size),i<j->xs[i]<xs[j]
theorem below_go {xs:Array Nat}(R:Rise xs)(j:Nat):∀(fuel lo B:Nat),lo<=B->B<=xs.size->B-lo<=fuel->(∀i (h:i<xs.size),i<lo->xs[i]<j)->(∀i (h:i<xs.size),B<=i->j<=xs[i]) ->
  (SetTable.below.go xs j fuel lo B<=xs.size/\(∀i (h:i<xs.size),i<SetTable.below.go xs j fuel lo B->xs[i]<j)/\∀i (h:i<xs.size),SetTable.below.go xs j fuel lo B<=i->j<=xs[i])
 |0,lo,B,h1,M,Y,H,J=>by
  have:lo=B:=by omega
  subst this
  exact⟨M,H,J⟩
 |fuel+1,lo,B,h1,M,Y,H,J=>by
  unfold SetTable.below.go
  by_cases z:lo<B
  ·rw[if_pos z]
   have O:(lo+B)/2<xs.size:=by omega
   have e:xs.getD ((lo+B)/2) j=xs[(lo+B)/2]:=by simp[O]
   dsimp only
   rw[e]
   by_cases y:xs[(lo+B)/2]<j
   ·rw[if_pos y]
    refine below_go R j fuel _ _ (by omega) M (by omega) (fun i G U=>?_) J
    by_cases q:i=(lo+B)/2
    ·subst q;exact y
    ·exact Nat.lt_trans (R i _ G O (by omega)) y
   ·rw[if_neg y]
    refine below_go R j fuel _ _ (by omega) (by omega) (by omega) H (fun i G aa=>?_)
    by_cases q:i=(lo+B)/2
    ·subst q;omega
    ·have:=R _ i O G (by omega)
     omega
  ·rw[if_neg z]
   have:lo=B:=by omega
   subst this
   exact⟨M,H,J⟩
theorem below_ok {xs:Array Nat}(R:Rise xs)(j:Nat):SetTable.below xs j<=xs.size/\(∀i (h:i<xs.size),i<SetTable.below xs j->xs[i]<j)/\∀i (h:i<xs.size),SetTable.below xs j<=i->j<=xs[i]:=by
 unfold SetTable.below;exact below_go R j _ _ _ (by omega) (zB _) (by omega) (fun i _ h=>by omega) (fun i _ h=>by omega)
theorem insAt_get {G:Type}(xs:Array G){p:Nat}(x:G)(H:p<=xs.size)(i:Nat):(SetTable.insertAt xs p x)[i]? = if i<p then xs[i]? else if i=p then some x else xs[i-1]?:=by
 rw[<-zR,SetTable.toList_insertAt];have lt:(xs.toList.take p).length=p:=by rw[qO,zC];omega
 by_cases z:i<p
 ·rw[if_pos z,qH (by rw[lt];exact z),yP z,zR]
 ·rw[if_neg z];by_cases B:i=p
  ·rw[if_pos B,qG (by rw[lt];omega),lt,B,Nat.sub_self];rfl
  ·rw[if_neg B,qG (by rw[lt];omega),lt,show i-p=(i-1-p)+1 by omega,jx,yJ,zR]
   congr 1
   omega
theorem rise_ins {xs:Array Nat}{j:Nat}(R:Rise xs)(Y:xs[SetTable.below xs j]? ≠ some j):Rise (SetTable.insertAt xs (SetTable.below xs j) j):=by
 obtain⟨M,b2,b3⟩:=below_ok R j;generalize SetTable.below xs j=p at M b2 b3 Y;intro i k hi hk J;have B:=insAt_get xs j M i;have z:=insAt_get xs j M k;rw[zi hi]at B;rw[zi hk]at z;generalize (SetTable.insertAt xs p j)[i]=u at B;generalize (SetTable.insertAt xs p j)[k]=v at z;have get:∀{m w:Nat},some w=xs[m]? -> ∃h:m<xs.size,xs[m]=w:=fun {m w} h=>by
  obtain⟨h1,h2⟩:=Array.getElem?_eq_some_iff.mp h.symm;exact⟨h1,h2⟩
 by_cases U:i<p
 ·rw[if_pos U]at B;obtain⟨H,rfl⟩:=get B;by_cases k1:k<p
  ·rw[if_pos k1]at z;obtain⟨G,rfl⟩:=get z;exact R i k H G J
  ·rw[if_neg k1]at z;by_cases k2:k=p
   ·rw[if_pos k2]at z;cases z
    exact b2 i H U
   ·rw[if_neg k2]at z;obtain⟨G,rfl⟩:=get z;exact R i (k-1) H G (by omega)
 ·rw[if_neg U]at B;by_cases i2:i=p
  ·rw[if_pos i2]at B;cases B
   rw[if_neg (by omega),if_neg (by omega)]at z;obtain⟨G,rfl⟩:=get z;have O:p<xs.size:=by omega
   have h1:j<=xs[p]:=b3 p O (zB _);have h2:xs[p]≠j:=fun e=>Y (by rw[zi O,e]);by_cases q:k-1=p
   ·simp only[q];omega
   ·have:=R p (k-1) O G (by omega);omega
  ·rw[if_neg i2]at B;rw[if_neg (by omega),if_neg (by omega)]at z;obtain⟨H,rfl⟩:=get B;obtain⟨G,rfl⟩:=get z;exact R _ _ H G (by omega)
theorem rise_list {xs:List Nat}(h:xs.Pairwise (· < ·)):Rise xs.toArray:=fun i j B G z=>by
 simp only[List.getElem_toArray]
 exact List.pairwise_iff_getElem.mp h i j (by simpa using B) (by simpa using G) z
theorem rise_range (n:Nat):Rise (Array.range n):=fun i j B G z=>by
 simp only[Array.getElem_range]
 exact z
structure TabZ (led:Bool) (t:SetTable):Prop where
 rise:Rise t.place
 dum:t.dummies = #[]
 led_:t.led=led
theorem tabZ_fresh (led:Bool):TabZ led (.fresh 0 0 led):=⟨fun i j z=>by simp[SetTable.fresh]at z,rfl,rfl⟩
theorem TabZ.stand {led:Bool}{t:SetTable}(h:TabZ led t)(n:Nat):TabZ led (t.standIn n):=⟨rise_range n,rfl,h.led_⟩
theorem TabZ.orStand {led:Bool}{t:SetTable}(h:TabZ led t)(n:Nat):TabZ led (t.orStandIn n):=by
 unfold SetTable.orStandIn;split
 ·exact h
 ·exact h.stand n
theorem has_nil (j:Nat):SetTable.has #[] j=false:=by
 unfold SetTable.has;simp
theorem probe_go {led:Bool}{t:SetTable}(h:TabZ led t)(f:Nat->Int)(x:Int):∀(fuel:Nat) (p:SetTable.Probe) (m:SetTable.Met),p.dummy=none->SetTable.probe.go t f x fuel p=some m->(∀i,(f i==x)=false)->∃j,m=.empty j none/\t.slot j=.empty
 |0,p,m,_,e,_=>by cases e
 |fuel+1,p,m,B,e,G=>by
  unfold SetTable.probe.go at e
  cases z:t.slot p.j with
  |empty =>
   rw[z]at e
   cases e
   exact⟨p.j,by rw[B],z⟩
  |dummy =>
   exfalso
   unfold SetTable.slot at z
   dsimp only at z
   split at z
   ·cases z
   ·rw[h.dum,has_nil]at z
    cases z
  |live i =>
   rw[z]at e
   dsimp only at e
   rw[G i]at e
   refine probe_go h f x fuel _ m ?_ e G
   unfold SetTable.advance
   split
   ·exact B
   ·exact B
theorem free_slot {led:Bool}{t:SetTable}(h:TabZ led t){x:Int}{j:Nat}{b:Bool}(e:t.freeSlot x=some (j,b)):b=false/\t.place[SetTable.below t.place j]? ≠ some j:=by
 unfold SetTable.freeSlot at e;cases G:t.probe (fun _=>x+1) x (t.probeStart x) with
 |none=>rw[G]at e;cases e
 |some m =>
  obtain⟨H,rfl,B⟩:=probe_go h _ _ _ _ _ rfl G (fun _=>by simp;omega);rw[G]at e;cases e
  refine⟨rfl,fun z=>?_⟩;unfold SetTable.slot at B;dsimp only at B;rw[Option.getD_none]at z;rw[z]at B;simp at B
theorem layNew_z {led:Bool}{t:SetTable}(h:TabZ led t)(es:Array (Int×Value))(x:Int)(v:Value):TabZ led (layNew t es x v).2.1:=by
 unfold layNew;cases z:t.freeSlot x with
 |none=>exact h.stand _
 |some q =>
  obtain⟨j,b⟩:=q;obtain⟨rfl,B⟩:=free_slot h z;have G:TabZ led (t.put j).1:=by
   refine⟨rise_ins h.rise B,?_,h.led_⟩;show(if SetTable.has t.dummies j=true then _ else t.dummies) = #[]
   rw[h.dum,has_nil];rfl
  exact G.orStand _
theorem rise_live (owner:Array (Option Nat))(n:Nat):((((zj n).filterMap fun j=>(owner.getD j none).map (j,·)).map (·.1))).Pairwise (· < ·):=by
 rw[List.pairwise_map];refine xJ.filterMap _ (R:=(· < ·)) (fun a M G b B O z=>?_) List.pairwise_lt_range;cases J:owner.getD a none with
 |none=>rw[J]at B;cases B
 |some u =>
  cases H:owner.getD M none with
  |none=>rw[H]at z;cases z
  |some v =>
   rw[J]at B;rw[H]at z;cases B
   cases z
   exact G
theorem relay_z {led:Bool}{t:SetTable}(h:TabZ led t)(es:Array (Int×Value))(n:Nat):TabZ led (relayAll t es n).2.1:=by
 unfold relayAll;cases z:t.relaid (es.map (·.1)) n with
 |none=>exact h.stand _
 |some q =>
  obtain⟨H,o⟩:=q;dsimp only;split
  ·unfold SetTable.relaid SetTable.laid at z;cases B:SetTable.layClean (SetTable.sizeAbove n-1) (es.map (·.1)) with
   |none=>rw[B]at z;cases z
   |some G =>
    rw[B]at z;cases z
    exact⟨rise_list (rise_live G _),rfl,h.led_⟩
  ·exact h.stand _
def keyZ (e:Int×Value):Int:=match e.2 with
 |.int k _=>k
 |_=>0
abbrev yH (es:Array (Int×Value)) (ep:Nat) (t:SetTable):Obj:={ cls:=.type "set",dict:=none,data:=.set es ep t }
def EntZ (es:List (Int×Value)):Prop:=∀e∈es,∃k tk,e=(hashInt k,Value.int k tk)
structure SetO (led:Bool) (es:Array (Int×Value)) (t:SetTable) (ks:List Int):Prop where
 ent:EntZ es.toList
 perm:(es.toList.map keyZ).Perm ks
 nd:ks.Nodup
 sm:es.size<scanBound
 fit:t.fits es.size=true
 tab:TabZ led t
def SetZ (led:Bool)(h:Heap)(a:Addr)(ks:List Int):Prop:=∃z B t,h.get? a=some (yH z B t)/\SetO led z t ks
theorem EntZ.elems {prog:Program}{w:World}{l:List (Int×Value)}(h:EntZ l):ElemsOf (intKind prog w) l:=fun e z=>by
 obtain⟨k,tk,rfl⟩:=h e z
 exact⟨⟨k,intKind_is _ _ _ _,rfl⟩,rfl⟩
theorem isInt_key {e:Int×Value}{k:Int}(h:∃k tk,e=(hashInt k,Value.int k tk)):Value.isInt k e.2=decide (keyZ e=k):=by
 obtain⟨z,tk,rfl⟩:=h;show(z==k)=decide (z=k)
 cases B:decide (z=k) with
 |true=>exact beq_iff_eq.mpr (of_decide_eq_true B)
 |false=>exact beq_eq_false_iff_ne.mpr (of_decide_eq_false B)
theorem SetO.len {led:Bool}{es:Array (Int×Value)}{t:SetTable}{ks:List Int}(h:SetO led es t ks):es.size=ks.length:=by
 have:=h.perm.length_eq;rw[qC,zC]at this;exact this
section
variable {prog:Program}{w:World}{A:Around}{E:Value->Shared->Prop}{s:Shared}
theorem put_at {h:Heap}{a:Addr}{es z:Array (Int×Value)}{ep:Nat}{t t':SetTable}(B:h.get? a=some (yH es ep t)):(h.update a (Obj.putSet z t')).get? a=some (yH z (ep+1) t'):=by
 have q:=Heap.get?_update_self (Obj.putSet z t') B (by rw[putSet_of z t' rfl];rfl);rw[putSet_of z t' rfl]at q;exact q
theorem tail_z {g:Bool->Sem Unit}(hg:∀(b:Bool) (G:Shared) (U:Unit->Shared->Prop),U () G->wpAny (model prog w) A (g b) U E G)
  {led wd:Bool} {a:Addr} {es z:Array (Int×Value)} {ep:Nat} {t B:SetTable} {ks:List Int} {R:Option Bool->Shared->Prop} (ho:s.heap.get? a=some (yH es ep t)) (Z:SetO led z B ks)
  (h:∀J,Heap.SameBut a s.heap J->SetZ led J a ks->R (some true) { s with heap:=J }) :
  wpAny (model prog w) A (do
    storeSet a z B
    if (!wd&&B.tooFull)=true then do
      g (relayAll B z (SetTable.grown z.size)).2.2
      storeSet a (relayAll B z (SetTable.grown z.size)).1 (relayAll B z (SetTable.grown z.size)).2.1
      pure (some true)
     else pure (some true)) R E s:=by
 refine wpAny_bind (wpAny_storeSet_of ho rfl ?_ (fits_of_scanBound Z.sm));have M:(s.heap.update a (Obj.putSet z B)).get? a=some (yH z (ep+1) B):=put_at ho;have O:=Heap.SameBut.update s.heap a (Obj.putSet z B);split
 ·have z1:=relay_z Z.tab z (SetTable.grown z.size);have H:=relayAll_perm B z (SetTable.grown z.size);have z3:=relayAll_fits B z (SetTable.grown z.size);generalize relayAll B z (SetTable.grown z.size)=Y at z1 H z3 ⊢;have sz:Y.1.size=z.size:=by
   have:=H.length_eq;rw[zC,zC]at this;exact this
  refine wpAny_bind (hg _ _ _ (wpAny_bind (wpAny_storeSet_of M rfl ?_ (fits_of_scanBound (by rw[sz];exact Z.sm)))));refine wpAny_pure (h _ (O.trans (Heap.SameBut.update _ a _)) ⟨Y.1,_,Y.2.1,put_at M,fun e he=>Z.ent e (H.mem_iff.mp he),(H.map _).trans Z.perm,Z.nd,by rw[sz];exact Z.sm,z3,z1⟩)
 ·exact wpAny_pure (h _ O ⟨z,_,B,M,Z⟩)
theorem setAdd_z {led:Bool}{a:Addr}{ks:List Int}{k:Int}{tk:Tok}{Q:Bool->Shared->Prop}(hS:SetZ led s.heap a ks)(hr:ks.length+1<scanBound)
  (h:∀(b:Bool) H,Heap.SameBut a s.heap H->SetZ led H a (step_dedup ks k)->Q b { s with heap:=H }):wpAny (model prog w) A (setAddHashed a (.int k tk) (hashInt k)) Q E s:=by
 obtain⟨G,ep,t,O,Z⟩:=hS;have el:=Z.ent.elems (prog:=prog) (w:=w);have ln:=Z.len;have any:ks.any (· == k)=true↔∃e∈G.toList,keyZ e=k:=by
  rw[xQ];constructor
  ·rintro⟨x,hx,e⟩;obtain⟨y,hy,rfl⟩:=qP.mp (Z.perm.mem_iff.mpr hx);exact⟨y,hy,beq_iff_eq.mp e⟩
  ·rintro⟨e,M,rfl⟩;exact⟨keyZ e,Z.perm.mem_iff.mp (qP.mpr ⟨e,M,rfl⟩),beq_self_eq_true _⟩
 unfold setAddHashed setAddHashedIn;refine wpAny_holding (wpAny_bind (wpAny_setState_of O rfl Z.fit ?_));dsimp only;rw[byScan_of (x:=.int k tk) rfl Z.sm el];simp only[↓reduceIte];unfold setAddByScan;refine wpAny_bind (wpAny_bind (wpAny_rule (wpAny_bind ?_)));refine wpAny_setScan_of (knd:=intKind prog w) (k:=k) (intKind_is _ _ _ _) O rfl Z.fit el ?_;cases hf:List.findIdx? (fun e=>(intKind prog w).is k e.2) G.toList with
 |some j =>
  obtain⟨hj,pj,_⟩:=List.findIdx?_eq_some_iff_getElem.mp hf;have hk:keyZ G.toList[j]=k:=by
   have q:=(isInt_key (k:=k) (Z.ent _ (List.getElem_mem hj))).symm.trans pj;exact of_decide_eq_true q
  have ha:ks.any (· == k)=true:=any.mpr ⟨_,List.getElem_mem hj,hk⟩;dsimp only;refine wpAny_pure (wpAny_pure (h false s.heap (Heap.SameBut.refl a s.heap) ⟨G,ep,t,O,?_⟩));unfold step_dedup;rw[if_pos ha];exact Z
 |none =>
  have ha:¬ ks.any (· == k)=true:=fun z=>by
   obtain⟨e,M,hk⟩:=any.mp z;have q:=List.findIdx?_eq_none_iff.mp hf e M;rw[show(intKind prog w).is k e.2=decide (keyZ e=k) from isInt_key (Z.ent e M),decide_eq_true hk]at q;cases q
  have hd:step_dedup ks k=ks++[k]:=by unfold step_dedup;rw[if_neg ha]
  have J:=layNew_perm t G (hashInt k) (.int k tk);have n2:=layNew_fits t G (hashInt k) (.int k tk);have n3:=layNew_z Z.tab G (hashInt k) (.int k tk);dsimp only;generalize layNew t G (hashInt k) (.int k tk)=Y at J n2 n3 ⊢;obtain⟨U,t1,wd,gv⟩:=Y;dsimp only at J n2 n3 ⊢;rw[yG]at J;have sz:U.size=G.size+1:=by
   have:=J.length_eq;rw[zC,qF,zC]at this;exact this
  have Z1:SetO led U t1 (ks++[k]):=by
   refine⟨fun e M=>?_,?_,?_,by omega,n2,n3⟩
   ·rcases zK.mp (J.mem_iff.mp M) with z|z
    ·exact Z.ent e z
    ·exact⟨k,tk,zE.mp z⟩
   ·refine(J.map keyZ).trans ?_;rw[z9];exact Z.perm.append_right _
   ·rw[List.nodup_append];refine⟨Z.nd,(by simp),fun x hx y hy e=>ha ?_⟩;rw[zE.mp hy]at e;subst e;exact xQ.mpr ⟨x,hx,beq_self_eq_true _⟩
  have gw:∀(b:Bool) (B:Shared) (Q':Unit->Shared->Prop),Q' () B->wpAny (model prog w) A (match b with|true=>rule "set.scan.the-table-gave-way" |false=>pure ()) Q' E B:=fun b B Q' q=>by
   cases b
   ·exact wpAny_pure q
   ·exact wpAny_rule q
  refine wpAny_bind (gw _ _ _ ?_);split
  ·refine wpAny_bind ?_;rw[hashByValue_scannable 8 (x:=.int k tk) rfl];refine wpAny_pure ?_;refine tail_z gw O ?_ fun H sb q=>wpAny_pure (h _ H sb (by rw[hd];exact q));exact Z1
  ·refine wpAny_bind (wpAny_pure ?_);refine tail_z gw O ?_ fun H sb q=>wpAny_pure (h _ H sb (by rw[hd];exact q));exact Z1
end
def ye (w:World):Bool:=!w.params.followText "set-order"
theorem SetZ.keep {led:Bool}{h h':Heap}{a:Addr}{ks:List Int}(z:SetZ led h a ks)(k:∀o,h.get? a=some o->h'.get? a=some o):SetZ led h' a ks:=by
 obtain⟨G,H,t,B,Z⟩:=z;exact⟨G,H,t,k _ B,Z⟩
theorem setZ_new {led:Bool}{h:Heap}{a:Addr}(e:h.get? a=some (yH #[] 0 (.fresh 0 0 led))):SetZ led h a [] :=
 ⟨#[],0,_,e,fun x z=>(by simp at z),ym.refl _,List.nodup_nil,by decide,rfl,tabZ_fresh led⟩
theorem dedup_len (ks:List Int)(k:Int):(step_dedup ks k).length<=ks.length+1:=by
 unfold step_dedup;split
 ·omega
 ·rw[qF];exact zB _
theorem JB:∀(ns ks:List Int),(ns.foldl step_dedup ks).length<=ks.length+ns.length
 |[],ks=>zB _
 |n::ns,ks=>by
  have B:=JB ns (step_dedup ks n)
  have z:=dedup_len ks n
  rw[List.foldl_cons,zI]
  omega
section
variable {prog:Program}{w:World}{A:Around}{E:Value->Shared->Prop}{s:Shared}
theorem new_z (a:Value){Q₁:Value->Shared->Prop}(h:Q₁ (.ref s.heap.objs.size) { s with heap:=s.heap.push (yH #[] 0 (.fresh 0 0 (ye w))) }) :
  codeAny (model prog w) A (.call (.builtin "set.__new__") ⟨[.type "set",a],[]⟩) (wants Q₁ E) s:=by
 refine codeAny_of_tree ?_;show wpAny _ A.in1 (checkBuiltinCall "set.__new__" ⟨[.type "set",a],[]⟩ >>= fun _=>again (.builtin "set.__new__" ⟨[.type "set",a],[]⟩)) _ _ s
 refine wpAny_bind (wpAny_of_eq (PySem.F.newCall_set_1 a) (wpAny_pure ⟨plainId_quiet PySem.F.plain_set_new _,codeAny_builtin PySem.F.entry_set_new ?_⟩));rw[Around.under_plainId PySem.F.plain_set_new _];unfold Builtin.«set.__new__» Builtin.Frozenset.newClass;have z:=sub_set_self;obtain⟨G,g,d,tk,B⟩:=s;dsimp only
 wp_walk
 refine wpAny_askSetting (wpAny_pure ?_);dsimp only;simp only[newObj];exact wpAny_bind (wpAny_alloc (wpAny_pure (wpAny_pure h)))
end
section
variable {prog:Program}{w:World}{A:Around}{R:Result->Shared->Prop}{I:Addr}{fp wr:List Addr}{G:Array GenState->Array GenState->Prop}{P:Nat->Value->Prop}{St:Nat->Shared->Prop}
theorem loop_z {ns:List Int}(W:WalksS prog w A.in1 I fp wr G ns.length P St)(S:Addr)(M:S∉fp)(hv:∀i v,P i v->∃k t,ns[i]? = some k/\v=.int k t){led:Bool} :
  ∀(m i:Nat) (s:Shared) (ks:List Int),ns.length-i=m->i<=ns.length->St i s->SetZ led s.heap S ks->ks.length+m+1<scanBound ->
   (∀z,Moved (S::wr) G s z->SetZ led z.heap S ((ns.drop i).foldl step_dedup ks)->R (.ok (.ret .none)) z)->codeAny (model prog w) A (.builtin "set.update.loop" ⟨[.ref S,.ref I],[]⟩) R s:=by
 have J:S∉wr:=fun h=>M (W.sub _ h);have sub:∀b∈wr,b∈S::wr:=fun b H=>zF _ H;intro m;induction m with
 |zero =>
  intro i s ks hm hi st hz H Y;have e:i=ns.length:=by omega
  subst e;refine codeAny_builtin F.entry_set_update_loop ?_;rw[Around.under_plainId F.plain_set_update_loop _];show wpAny _ A.in1 (pyNext (.ref I) >>= _) _ _ s
  refine wpAny_bind (W.done s _ _ st fun z O=>?_);show wpAny _ A.in1 (ret Value.none) _ _ z
  refine wpAny_pure (Y z (O.mono sub) ?_);rw[List.drop_length];exact hz.keep fun o e=>O.heap S _ J e
 |succ m ih =>
  intro i s ks hm hi st hz H Y;have B:i<ns.length:=by omega
  refine codeAny_builtin F.entry_set_update_loop ?_;rw[Around.under_plainId F.plain_set_update_loop _];show wpAny _ A.in1 (pyNext (.ref I) >>= _) _ _ s
  refine wpAny_bind (W.item i s _ _ B st fun v z hP st' O=>?_);obtain⟨k,t,hk,rfl⟩:=hv i v hP;have hz':SetZ led z.heap S ks:=hz.keep fun o e=>O.heap S _ J e;show wpAny _ A.in1 (holding [Value.int k t] (setAdd S (.int k t)) >>= _) _ _ z
  refine wpAny_bind (wpAny_holding ?_);unfold setAdd;refine wpAny_holding (wpAny_bind ((intKind prog w).pyHash (k:=k) (intKind_is _ _ _ _) ?_));refine setAdd_z (s:={ z with toks:=z.toks+1 }) hz' (by omega) fun b h' sb U=>?_;have dl:=dedup_len ks k;refine wpAny_pure ⟨plainId_quiet F.plain_set_update_loop _,ih (i+1) _ (step_dedup ks k) (by omega) B (W.frame _ z _ _ st' (Nat.le_succ _) fun b H o e=>?_) U (by omega) fun aa mv' hz3=>?_⟩
  ·rw[sb.2 b fun h:b=S=>M (by rw[<-h];exact H)];exact e
  ·refine Y aa (Moved.trans W.gtrans ((O.mono sub).then_heap (Nat.le_succ _) fun b o H e=>?_) mv') ?_
   ·rw[sb.2 b fun h:b=S=>H (by rw[h];exact zM)];exact e
   ·rw[yg B,List.foldl_cons];rw[qA B]at hk;cases hk
    exact hz3
end
section
variable {prog:Program}{w:World}{A:Around}{E:Value->Shared->Prop}{s:Shared}
theorem callSet {arg:Value} {Q Q₁:Value->Shared->Prop} (hn:codeAny (model prog w) A.in1 (.call (.builtin "set.__new__") ⟨[.type "set",arg],[]⟩) (wants Q₁ E) s)
  (hx:∀H G,Q₁ H G->G.TypeIs H "set" /\ wpAny (model prog w) A.in1.in1 (Builtin.«set.__init__» ⟨[H,arg],[]⟩)
    (fun fin O=>match fin with|.done f=>wants (fun r z=>r=.none/\Q H z) E (.ok f) O|.again c'=>c'.quiet=true/\codeAny (model prog w) A.in1 c' (wants (fun r z=>r=.none/\Q H z) E) O) (fun e O=>wants (fun r z=>r=.none/\Q H z) E (.error e) O) G) :
  wpAny (model prog w) A (call (.type "set") [arg]) Q E s:=by
 obtain⟨c,tl,hmro⟩:=yi.mro;have a1:=yi.made;have a2:=yi.sub;refine wpAny_call (codeAny_of_tree ?_);show wpAny _ _ (callAny (.type "set") _) _ _ _
 refine wpAny_pure ⟨Code.quiet_builtin _ (by decide +kernel),codeAny_builtin PySem.F.entry_type_call ?_⟩;rw[Around.under_plain (weight_type_call_type "set" [arg] []) rfl];have a3:=yi.notType;have a4:=yi.canCreate;have a5:=PySem.F.typeCall_set_1 arg
 repeat (any_goals (first|assumption|wp_step))
 refine codeAny_mono hn fun r G U=>?_;cases r with
 |error e=>exact U
 |ok fl =>
  cases fl with
  |ret H =>
   obtain⟨hT,Y⟩:=hx _ _ U;have b1:=yi.init.lookup;have b2:=yi.init.bind H
   repeat (any_goals (first|assumption|wp_step))
   refine codeAny_mono (codeAny_call_builtin (R:=wants (fun r z=>r=.none/\Q H z) E) yi.init.plain PySem.F.entry_set_init (PySem.check_set_init_1 hT Y)) fun M z B=>?_;cases M with
   |error e=>exact B
   |ok J =>
    cases J with
    |ret r =>
     obtain⟨rfl,hq⟩:=B
     repeat (any_goals (first|assumption|wp_step))
    |_=>exact B.elim
  |_=>exact U.elim
theorem call_setZ {l:Addr}{vs:List Value}{ns:List Int}{Q:Value->Shared->Prop}(hh:A.handled=none)(hl:s.heap.IsList l vs.toArray)(hi:IntsAre vs ns)(hb:ns.length+1<scanBound)
  (h:∀(h':Heap) (tk:Nat),SetZ (ye w) h' s.heap.objs.size (ns.foldl step_dedup [])->(∀b o,s.heap.get? b=some o->h'.get? b=some o)->Q (.ref s.heap.objs.size) { s with heap:=h',toks:=tk }) :
  wpAny (model prog w) A (call (.type "set") [.ref l]) Q E s:=by
 have vl:vs.length=ns.length:=IntsAre.length hi;refine callSet (Q₁:=fun obj z=>obj=.ref s.heap.objs.size/\z = { s with heap:=s.heap.push (yH #[] 0 (.fresh 0 0 (ye w))) }) (new_z _ ⟨rfl,rfl⟩) fun obj z B=>?_;obtain⟨rfl,rfl⟩:=B;have hS:(s.heap.push (yH #[] 0 (.fresh 0 0 (ye w)))).get? s.heap.objs.size=some (yH #[] 0 (.fresh 0 0 (ye w))):=Heap.get?_push_size _ rfl;refine⟨⟨_,hS,rfl⟩,?_⟩;have H:(s.heap.push (yH #[] 0 (.fresh 0 0 (ye w)))).IsList l vs.toArray:=hl.push _;obtain⟨ol,J,M,nl,O⟩:=hl;have lS:l<s.heap.objs.size:=Heap.lt_size J;obtain⟨ocls,ah,ae,Y⟩:=ol;simp only at M O;subst M;subst O;have ai:=Heap.get?_push_of_some (yH #[] 0 (.fresh 0 0 (ye w))) J;have f1:=PySem.F.sub_list_set;have f2:=PySem.F.sub_list_frozenset;have f3:(Value.type "list" == Value.type "dict")=false:=by decide
 unfold Builtin.«set.__init__» noKeywords Builtin.Frozenset.updateFrom;generalize ac:pyIter=PI
 wp_walk
 subst ac;refine wpAny_pyIter_list H ?_;refine wpAny_bind (wpAny_runValue ?_);have ag:l≠(s.heap.push (yH #[] 0 (.fresh 0 0 (ye w)))).objs.size:=by
  rw[Heap.size_push];exact zG (zm lS)
 have ad:s.heap.objs.size∉[(s.heap.push (yH #[] 0 (.fresh 0 0 (ye w)))).objs.size,l]:=by
  rw[Heap.size_push];simp only[zD,zW,or_false,not_or];exact⟨zG (yS _),xG lS⟩
 have W:=(Walks.list (prog:=prog) (w:=w) (A:=A.in1.in1.in1) (by simp[hh]) _ l ag vs.toArray).toS;rw[show vs.toArray.size=ns.length by rw[qM];exact vl]at W;refine loop_z W s.heap.objs.size ad (fun i v hv=>?_) (led:=ye w) ns.length 0 _ [] (by omega) (zS _) ⟨⟨_,Heap.get?_push_size _ rfl,rfl,rfl⟩,H.push _⟩ (setZ_new (Heap.get?_push_of_some _ hS)) (by simpa using hb) fun s' U hz=>?_
 ·obtain⟨t,e⟩:=IntsAre.int_at hi i v (by simpa using hv);have il:i<ns.length:=by
   have:=(qB.mp (show vs[i]? = some v by simpa using hv)).1;omega
  exact⟨ns[i],t,qA il,by rw[e];simp[il]⟩
 ·obtain⟨h',g',d',aa,af⟩:=s';have eg:g'=s.gens:=U.gens;have ed:d'=s.drawn:=U.drawn;have eo:af=s.os:=U.os;subst eg;subst ed;subst eo;show wpAny _ _ _ _ _ _
  refine wpAny_pure ?_;show wpAny _ _ (ret Value.none) _ _ _
  refine wpAny_pure ⟨rfl,h h' aa hz fun b o e=>?_⟩;have G:b<s.heap.objs.size:=Heap.lt_size e;refine U.heap b o ?_ (Heap.get?_push_of_some _ (Heap.get?_push_of_some _ e));rw[Heap.size_push];simp only[zD,zW,or_false,not_or];exact⟨zG G,zG (zm G)⟩
end
theorem slot_si_next:Slot "set_iterator" "__next__" "set_iterator.__next__" :=
 .of (owner:="set_iterator") (n:="__next__") (by rw[typeLookup_type,builtinLookup_eq_fast];kernel_rfl) (by decide +kernel) (by decide +kernel) (by decide +kernel) (by first|exact .inl (by decide +kernel)|exact .inr (by decide +kernel)) (by rw[isSubtype_type];kernel_rfl)
theorem xr:entryFor table "set_iterator.__next__" = some Builtin.«set_iterator.__next__»:=entryFor_of_tree (by kernel_rfl)
theorem jC (a:Value):argsOk "set_iterator.__next__" ⟨[a],[]⟩:=by unfold argsOk;kernel_rfl
theorem entry_si:entryFor table "set.__iter__" = some Builtin.«frozenset.__iter__»:=entryFor_alias (id':="frozenset.__iter__") (by kernel_rfl) rfl (by decide +kernel) (by kernel_rfl)
abbrev JC (f:Value) (i:Nat) (S:Addr) (n ep:Nat):Obj:={ cls:=.type "set_iterator",dict:=none,data:=.fields #[f,.int i 0,.ref S,.int n 0,.int ep 0] }
section
variable {prog:Program}{w:World}{A:Around}{E:Value->Shared->Prop}{s:Shared}{it S:Addr}{f:Value}{i n ep:Nat}{es:Array (Int×Value)}{t:SetTable}
theorem next_some {sl nx:Nat}{x:Value}{Q:Option Value->Shared->Prop}(z:s.heap.get? it=some (JC (.int sl 0) i S n ep))(H:s.heap.get? S=some (yH es ep t))(fit:t.fits es.size=true)(hn:es.size=n)
  (hx:∀(A:Around) (E:Value->Shared->Prop) (Q:Option (Value×Nat)->Shared->Prop),Q (some (x,nx)) s->wpAny (model prog w) A (setNext S sl i ep) Q E s)
  (M:∀B,B.get? it=some (JC (.int nx 0) (i+1) S n ep)->Heap.SameBut it s.heap B->Q (some x) { s with heap:=B }):wpAny (model prog w) A (pyNext (.ref it)) Q E s:=by
 have G:s.TypeIs (.ref it) "set_iterator":=⟨_,z,rfl⟩;unfold pyNext;refine wpAny_bind (wpAny_attempt (wpAny_callSpecial?_slot (name:=Str.ofString "__next__") G slot_si_next (wpAny_call_entry slot_si_next G xr ?_ (jC _))));unfold Builtin.«set_iterator.__next__»;refine wpAny_bind (m:=slotArgs _ _ _) (wpAny_pure ?_);refine wpAny_bind (wpAny_fieldsOf z rfl ?_);dsimp only;refine wpAny_bind (wpAny_setEntries_of H rfl fit ?_);rw[if_neg (by rw[hn];simp)];refine wpAny_bind ?_;rw[zV,zV,zV];refine hx _ _ _ ?_;dsimp only;refine wpAny_bind (wpAny_setField_rec z (by show 0<5;decide) fun h1 Y O=>?_);refine wpAny_bind (wpAny_setField_rec (s:={ s with heap:=h1 }) Y (by show 1<5;decide) fun U J b2=>?_);exact wpAny_pure ⟨_,rfl,wpAny_pure (M U J (O.trans b2))⟩
theorem stop_now {G:Heap}{Q:Option Value->Shared->Prop}{M:Value->Shared->Prop}(J:A.handled=none)(H:∀B,(∀b o,G.get? b=some o->B.get? b=some o)->Q none { s with heap:=B }) :
  wpAny (model prog w) A.in1 (newExc (.type "StopIteration") [] >>= fun e=>(raiseNew e:Sem Fin)) (fun fin z=>∃r,fin=.done (.ret r)/\M r z) (fun e z=>wpAny (model prog w) A (isInstance e (.type "StopIteration") >>= fun b=>if b=true then pure none else throw e) Q E z) { s with heap:=G }:=by
 refine wpAny_bind ?_;simp only[newExc,newTuple];refine wpAny_bind (wpAny_newObj_type ?_ (by size_fits));refine wpAny_bind (m:=firstArgMember _ _) (wpAny_of_eq (a:=Value.none) (by first|rfl|(simp only[firstArgMember];rfl)) ?_);refine wpAny_newObj_type ?_ (by size_fits);simp only[raiseNew];refine wpAny_bind (wpAny_handled ?_);rw[show A.in1.handled=none from J];refine wpAny_bind (wpAny_pure (wpAny_throw ?_));refine wpAny_bind (wpAny_isInstance (T:="StopIteration") (b:=true) ⟨_,Heap.get?_push_size _ rfl,rfl⟩ isSubtype_stop ?_);exact wpAny_pure (H _ fun b o e=>Heap.get?_push_of_some _ (Heap.get?_push_of_some _ e))
theorem next_none {sl:Nat}{Q:Option Value->Shared->Prop}(M:A.handled=none)(B:s.heap.get? it=some (JC (.int sl 0) i S n ep))(H:s.heap.get? S=some (yH es ep t))(fit:t.fits es.size=true)(Y:es.size=n)
  (U:∀(A:Around) (E:Value->Shared->Prop) (Q:Option (Value×Nat)->Shared->Prop),Q none s->wpAny (model prog w) A (setNext S sl i ep) Q E s)
  (J:∀z,(∀b o,b≠it->s.heap.get? b=some o->z.get? b=some o)->Q none { s with heap:=z }):wpAny (model prog w) A (pyNext (.ref it)) Q E s:=by
 have G:s.TypeIs (.ref it) "set_iterator":=⟨_,B,rfl⟩;unfold pyNext;refine wpAny_bind (wpAny_attempt (wpAny_callSpecial?_slot (name:=Str.ofString "__next__") G slot_si_next (wpAny_call_entry slot_si_next G xr ?_ (jC _))));unfold Builtin.«set_iterator.__next__»;refine wpAny_bind (m:=slotArgs _ _ _) (wpAny_pure ?_);refine wpAny_bind (wpAny_fieldsOf B rfl ?_);dsimp only;refine wpAny_bind (wpAny_setEntries_of H rfl fit ?_);rw[if_neg (by rw[Y];simp)];refine wpAny_bind ?_;rw[zV,zV,zV];refine U _ _ _ ?_;dsimp only;refine wpAny_bind (wpAny_setField_rec B (by show 2<5;decide) fun h1 o1 O=>?_);exact stop_now (s:=s) M fun z k=>J z fun b o ne e=>k b o ((O.2 b ne).trans e)
theorem next_drawn {J:Addr}{U:Array Value}{j:Nat}{tk:Tok}{x:Int×Value}{Q:Option Value->Shared->Prop}(z:s.heap.get? it=some (JC (.ref J) i S n ep))(M:s.heap.get? S=some (yH es ep t))(fit:t.fits es.size=true)(hn:es.size=n)
  (Y:s.heap.IsTuple J U) (hp:U[i]? = some (.int j tk)) (hx:es[j]? = some x)
  (hQ:∀B,B.get? it=some (JC (.ref J) (i+1) S n ep)->Heap.SameBut it s.heap B->Q (some x.2) { s with heap:=B }):wpAny (model prog w) A (pyNext (.ref it)) Q E s:=by
 have O:s.TypeIs (.ref it) "set_iterator":=⟨_,z,rfl⟩;obtain⟨ot,G,_,nt,H⟩:=Y;unfold pyNext;refine wpAny_bind (wpAny_attempt (wpAny_callSpecial?_slot (name:=Str.ofString "__next__") O slot_si_next (wpAny_call_entry slot_si_next O xr ?_ (jC _))));unfold Builtin.«set_iterator.__next__»;refine wpAny_bind (m:=slotArgs _ _ _) (wpAny_pure ?_);refine wpAny_bind (wpAny_fieldsOf z rfl ?_);dsimp only;refine wpAny_bind (wpAny_setEntries_of M rfl fit ?_);rw[if_neg (by rw[hn];simp)];refine wpAny_bind (wpAny_seqItems G H ?_);dsimp only;rw[zV,hp];dsimp only;refine wpAny_bind ?_;unfold setNextDrawn;refine wpAny_bind (wpAny_setState_of M rfl fit ?_);dsimp only;rw[zV,zV,if_neg (by simp),hx];refine wpAny_pure ?_;refine wpAny_bind (wpAny_setField_rec z (by show 1<5;decide) fun h1 o1 b1=>?_);exact wpAny_pure ⟨_,rfl,wpAny_pure (hQ h1 o1 b1)⟩
theorem zAY {O:Addr}{M:Array Value}{Q:Option Value->Shared->Prop}(hh:A.handled=none)(B:s.heap.get? it=some (JC (.ref O) i S n ep))(U:s.heap.get? S=some (yH es ep t))(fit:t.fits es.size=true)(hn:es.size=n)
  (Y:s.heap.IsTuple O M) (hp:M[i]? = none) (hQ:∀z,(∀b o,b≠it->s.heap.get? b=some o->z.get? b=some o)->Q none { s with heap:=z }):wpAny (model prog w) A (pyNext (.ref it)) Q E s:=by
 have J:s.TypeIs (.ref it) "set_iterator":=⟨_,B,rfl⟩;obtain⟨ot,G,_,nt,H⟩:=Y;unfold pyNext;refine wpAny_bind (wpAny_attempt (wpAny_callSpecial?_slot (name:=Str.ofString "__next__") J slot_si_next (wpAny_call_entry slot_si_next J xr ?_ (jC _))));unfold Builtin.«set_iterator.__next__»;refine wpAny_bind (m:=slotArgs _ _ _) (wpAny_pure ?_);refine wpAny_bind (wpAny_fieldsOf B rfl ?_);dsimp only;refine wpAny_bind (wpAny_setEntries_of U rfl fit ?_);rw[if_neg (by rw[hn];simp)];refine wpAny_bind (wpAny_seqItems G H ?_);dsimp only;rw[zV,hp];dsimp only;refine wpAny_bind (wpAny_setField_rec B (by show 0<5;decide) fun h1 o1 b1=>?_);refine wpAny_bind (wpAny_setField_rec (s:={ s with heap:=h1 }) o1 (by show 2<5;decide) fun h2 o2 b2=>?_);exact stop_now (s:=s) hh fun z k=>hQ z fun b o ne e=>k b o ((b2.2 b ne).trans ((b1.2 b ne).trans e))
end
def JD (z:Array Nat)(i:Nat):Nat:=if i=0 then 0 else z.getD (i-1) 0+1
theorem below_slot {B:Array Nat}(R:Rise B){i:Nat}(hi:i<=B.size):SetTable.below B (JD B i)=i:=by
 obtain⟨O,G,J⟩:=below_ok R (JD B i);generalize hb:SetTable.below B (JD B i)=b at O G J;have U:∀k (h:k<B.size),B.getD k 0=B[k]:=fun k h=>by simp[h]
 by_cases z:i=0
 ·subst z;by_cases q:b=0
  ·exact q
  ·have:=G 0 (by omega) (by omega);unfold JD at this;rw[if_pos rfl]at this;omega
 ·have H:i-1<B.size:=by omega
  have M:JD B i=B[i-1]+1:=by unfold JD;rw[if_neg z,U _ H]
  rw[M]at G J;rcases Nat.lt_trichotomy b i with q|q|q
  ·have Y:=J b (by omega) (zB _);by_cases y:b=i-1
   ·subst y;omega
   ·have:=R b (i-1) (by omega) H (by omega);omega
  ·exact q
  ·have Y:=G i (by omega) q;have:=R (i-1) i H (by omega) (by omega);omega
theorem zAZ {z:Type}{xs:List z}{j:Nat}(h:j<xs.length):(xs[j]::xs.eraseIdx j).Perm xs:=by
 have e:xs.take j++xs[j]::xs.drop (j+1)=xs:=by rw[<-yg h,zr]
 rw[List.eraseIdx_eq_take_drop_succ];exact(List.perm_middle.symm).trans (ym.of_eq e)
theorem pick_go {B:Type}(nx:Nat->Nat):∀(fuel k:Nat) (left:List B) (out:Array B),left.length=fuel->((pickOrder.go nx fuel k left out).toList).Perm (out.toList++left)
 |0,k,left,out,h=>by
  have:left=[]:=zJ h
  subst this
  rw[pickOrder.go,zu]
 |fuel+1,k,left,out,h=>by
  have z:nx k%left.length<left.length:=Nat.mod_lt _ (by omega)
  have e:=qA z
  rw[pickOrder.go,e]
  dsimp only
  refine(pick_go nx fuel (k+1) _ _ (by rw[List.length_eraseIdx_of_lt z];omega)).trans ?_
  rw[yG,zP]
  refine ym.append_left _ ?_
  exact zAZ z
theorem pick_perm {z:Type}(nx:Nat->Nat)(xs:Array z):((pickOrder nx xs).toList).Perm xs.toList:=by
 unfold pickOrder;have:=pick_go nx xs.size 0 xs.toList #[] (by simp)
 simpa using this
section
variable {prog:Program}{w:World}{A:Around}{E:Value->Shared->Prop}{s:Shared}{S:Addr}{i ep:Nat}{es:Array (Int×Value)}{t:SetTable}{ks:List Int}
theorem JX {Q:Bool->Shared->Prop} (h:Q (w.params.followText "set-order") s):wpAny (model prog w) A setsByText Q E s:=by
 unfold setsByText;exact wpAny_bind (wpAny_askSetting (wpAny_pure h))
theorem setNext_p {Q:Option (Value×Nat)->Shared->Prop} (H:s.heap.get? S=some (yH es ep t)) (Z:SetO (ye w) es t ks) (G:w.params.followText "set-order" = false) (M:(!t.plain&&decide (es.size>1))=false) (hi:i<=es.size)
  (h:Q (if h:i<es.size then some (es[i].2,JD t.place (i+1)) else none) s):wpAny (model prog w) A (setNext S (JD t.place i) i ep) Q E s:=by
 have ps:t.place.size=es.size:=by
  have:=Z.fit;unfold SetTable.fits at this;simp at this;exact this.1
 have O:t.led=true:=by rw[Z.tab.led_];unfold ye;rw[G];rfl
 unfold setNext;refine wpAny_bind (wpAny_setState_of H rfl Z.fit ?_);dsimp only;refine wpAny_bind (JX ?_);rw[G,if_neg zN];show wpAny _ _ (if (!t.plain&&decide (es.size>1))=true then _ else _) _ _ _
 rw[if_neg (by rw[M];exact zN)];show wpAny _ _ ((if (!t.led && !es.isEmpty)=true then unsupported "set:maker-not-led" else pure ()) >>= _) _ _ _
 rw[O];refine wpAny_bind (wpAny_pure ?_);rw[below_slot Z.tab.rise (by omega)];refine wpAny_pure ?_;by_cases z:i<es.size
 ·rw[dif_pos z]at h;have U:es[i]? = some es[i]:=zi z;have B:i<t.place.size:=by omega
  have J:t.place[i]? = some t.place[i]:=zi B;rw[U,J];have Y:JD t.place (i+1)=t.place[i]+1:=by
   unfold JD;rw[if_neg (by omega),Nat.add_sub_cancel];simp[B]
  rw[Y]at h;exact h
 ·rw[dif_neg z]at h;rw[Array.getElem?_eq_none (by omega)];exact h
theorem setNext_t {Q:Option (Value×Nat)->Shared->Prop} (z:s.heap.get? S=some (yH es ep t)) (Z:SetO (ye w) es t ks) (B:w.params.followText "set-order" = true)
  (h:Q (((pickOrder (w.params.setOrder S ep) es)[i]?).map fun e=>(e.2,0)) s):wpAny (model prog w) A (setNext S 0 i ep) Q E s:=by
 unfold setNext;refine wpAny_bind (wpAny_setState_of z rfl Z.fit ?_);dsimp only;refine wpAny_bind (JX ?_);rw[B,if_pos rfl,if_neg (by simp)];refine wpAny_bind ?_;unfold setWalk;refine wpAny_bind (wpAny_setState_of z rfl Z.fit ?_);dsimp only;refine wpAny_bind (JX ?_);rw[B,if_pos rfl];refine wpAny_bind (wpAny_askSetting (wpAny_pure (wpAny_pure h)))
theorem choose_wp {src:Source}{n:Nat}{Q:Nat->Shared->Prop}(B:n≠0)(h:∀(j:Nat) (d:Drawn),j<n->Q j { s with drawn:=d }):wpAny (model prog w) A (choose src n) Q E s:=fun Γ p z=>by
 unfold choose
 rw[Sem.wp_choose]
 exact⟨B,h _ _ (Nat.mod_lt _ (by omega))⟩
theorem draw_wp {H:Type}{Q:List H->Shared->Prop}:∀(n:Nat) (xs:List H) (s:Shared),xs.length=n->(∀(J:List H) (d:Drawn),J.Perm xs->Q J { s with drawn:=d })->wpAny (model prog w) A (drawOrder n xs) Q E s
 |0,xs,s,B,h=>by
  have:xs=[]:=zJ B
  subst this
  rw[drawOrder]
  exact wpAny_pure (h [] s.drawn (ym.refl _))
 |n+1,[],s,B,h=>by cases B
 |n+1,x::r,s,B,h=>by
  rw[drawOrder]
  ·refine wpAny_bind (choose_wp (by rw[B];omega) fun j d G=>?_)
   have e:=qA G
   rw[e]
   dsimp only
   refine wpAny_bind (draw_wp n _ _ (by rw[List.length_eraseIdx_of_lt G];omega) fun J M O=>wpAny_pure (h _ M ?_))
   exact(ym.cons _ O).trans (zAZ G)
  ·intro z;cases z
end
theorem slot_siI:Slot "set_iterator" "__iter__" "set_iterator.__iter__" :=
 .of (owner:="set_iterator") (n:="__iter__") (by rw[typeLookup_type,builtinLookup_eq_fast];kernel_rfl) (by decide +kernel) (by decide +kernel) (by decide +kernel) (by first|exact .inl (by decide +kernel)|exact .inr (by decide +kernel)) (by rw[isSubtype_type];kernel_rfl)
theorem entry_siI:entryFor table "set_iterator.__iter__" = some Builtin.«dict_keyiterator.__iter__»:=entryFor_alias (id':="dict_keyiterator.__iter__") (by kernel_rfl) rfl (by decide +kernel) (by kernel_rfl)
theorem args_siI (a:Value):argsOk "set_iterator.__iter__" ⟨[a],[]⟩:=by unfold argsOk;kernel_rfl
theorem ints_of {es:List (Int×Value)}(h:EntZ es):IntsAre (es.map (·.2)) (es.map keyZ):=by
 induction es with
 |nil=>exact .nil
 |cons e r ih =>
  obtain⟨k,tk,rfl⟩:=h e zM;exact .cons k tk (ih fun x z=>h x (zF _ z))
section
variable {prog:Program}{w:World}{A:Around}{E:Value->Shared->Prop}{s:Shared}{S it:Addr}{ep:Nat}{es:Array (Int×Value)}{t:SetTable}{ks:List Int}
theorem self_z {f:Value}{i n:Nat}{Q:Value->Shared->Prop}(B:s.heap.get? it=some (JC f i S n ep))(h:Q (.ref it) s):wpAny (model prog w) A (pyIter (.ref it)) Q E s:=by
 have z:s.TypeIs (.ref it) "set_iterator":=⟨_,B,rfl⟩;refine wpAny_pyIter_slot z slot_siI (wpAny_call_entry slot_siI z entry_siI ?_ (args_siI _));show wpAny _ _ (ret (.ref it)) _ _ s
 exact wpAny_pure ⟨_,rfl,"set_iterator",_,z,slot_si_next.lookup,h⟩
theorem walks_p (Y:A.handled=none) (ne:S≠it) (Z:SetO (ye w) es t ks) (G:w.params.followText "set-order" = false) (U:(!t.plain&&decide (es.size>1))=false) :
  Walks prog w A it [it,S] [it] (es.toList.map (·.2)).length (fun i v=>(es.toList.map (·.2))[i]? = some v) (fun i h=>i<=es.size/\h.get? it=some (JC (.int (JD t.place i) 0) i S es.size ep)/\h.get? S=some (yH es ep t)) where
 sub:=fun b G=>by simp at G;simp[G]
 frame:=fun i h J B k=>⟨B.1,k it (by simp) _ B.2.1,k S (by simp) _ B.2.2⟩
 item:=fun i s Q E M B H=>by
  rw[qC,zC]at M
  refine next_some (x:=es[i].2) (nx:=JD t.place (i+1)) B.2.1 B.2.2 Z.fit rfl (fun A E Q q=>setNext_p B.2.2 Z G U B.1 (by rw[dif_pos M];exact q)) fun J o1 O=>?_
  refine H _ J s.toks ?_ ⟨M,o1,(O.2 S ne).trans B.2.2⟩ fun b o G e=>(O.2 b fun z=>G (by simp[z])).trans e
  rw[qI,zR,zi M]
  rfl
 done:=fun s Q E B H=>by
  rw[qC,zC]at B
  exact next_none Y B.2.1 B.2.2 Z.fit rfl (fun A E Q q=>setNext_p B.2.2 Z G U B.1 (by rw[dif_neg (zt _)];exact q)) fun J k=>H J s.toks fun b o G e=>k b o (fun z=>G (by simp[z])) e
 self:=fun i s Q E B H=>self_z B.2.1 H
theorem walks_t (U:A.handled=none) (ne:S≠it) (Z:SetO (ye w) es t ks) (G:w.params.followText "set-order" = true) :
  Walks prog w A it [it,S] [it] ((pickOrder (w.params.setOrder S ep) es).toList.map (·.2)).length (fun i v=>((pickOrder (w.params.setOrder S ep) es).toList.map (·.2))[i]? = some v) (fun i h=>h.get? it=some (JC (.int 0 0) i S es.size ep)/\h.get? S=some (yH es ep t)) where
 sub:=fun b G=>by simp at G;simp[G]
 frame:=fun i h J B k=>⟨k it (by simp) _ B.1,k S (by simp) _ B.2⟩
 item:=fun i s Q E O B H=>by
  rw[qC]at O
  have e:=qA O
  generalize (pickOrder (w.params.setOrder S ep) es).toList[i]=y at e
  refine next_some (sl:=0) (nx:=0) (x:=y.2) B.1 B.2 Z.fit rfl (fun A E Q q=>setNext_t B.2 Z G (by rw[<-zR,e];exact q)) fun J Y M=>?_
  refine H _ J s.toks ?_ ⟨Y,(M.2 S ne).trans B.2⟩ fun b o G e=>(M.2 b fun z=>G (by simp[z])).trans e
  rw[qI,e]
  rfl
 done:=fun s Q E B H=>by
  refine next_none (sl:=0) U B.1 B.2 Z.fit rfl (fun A E Q q=>setNext_t B.2 Z G ?_) fun J k=>H J s.toks fun b o G e=>k b o (fun z=>G (by simp[z])) e
  rw[<-zR,ze (by rw[qC];exact zB _)]
  exact q
 self:=fun i s Q E B H=>self_z B.1 H
theorem walks_d {H:Addr}{G:List Nat}(hh:A.handled=none)(ne:S≠it)(nt:H≠it)(Z:SetO (ye w) es t ks)(hj:G.Perm (zj es.size)) :
  Walks prog w A it [it,S,H] [it] (G.filterMap fun j=>(es[j]?).map (·.2)).length (fun i v=>(G.filterMap fun j=>(es[j]?).map (·.2))[i]? = some v)
   (fun i h=>h.get? it=some (JC (.ref H) i S es.size ep)/\h.get? S=some (yH es ep t)/\h.IsTuple H (G.map fun(j:Nat)=>rawInt j).toArray):=by
 have jl:∀j∈G,j<es.size:=fun j h=>x6.mp (hj.mem_iff.mp h);have e0:G.filterMap (fun j=>(es[j]?).map (·.2))=G.map fun j=>(es.getD j (0,.none)).2:=by
  clear hj;induction G with
  |nil=>rfl
  |cons j r ih =>
   have:=jl j zM;rw[zQ,<-ih fun x hx=>jl x (zF _ hx),zY];simp[this]
 rw[e0];refine⟨fun b J=>by simp at J;simp[J],fun i h O B k=>⟨k it (by simp) _ B.1,k S (by simp) _ B.2.1,?_⟩,fun i s Q E hi B M=>?_,fun s Q E B M=>?_,fun i s Q E B M=>self_z B.1 M⟩
 ·obtain⟨o,ho,r⟩:=B.2.2;exact⟨o,k H (by simp) _ ho,r⟩
 ·rw[qC]at hi;have e:=qA hi;have U:=jl _ (List.getElem_mem hi);generalize G[i]=j at e U;refine next_drawn (j:=j) (tk:=0) (x:=es[j]) B.1 B.2.1 Z.fit rfl B.2.2 (by simp[e,rawInt]) (zi U) fun O o1 Y=>?_;refine M _ O s.toks ?_ ⟨o1,(Y.2 S ne).trans B.2.1,?_⟩ fun b o J e=>(Y.2 b fun z=>J (by simp[z])).trans e
  ·rw[qI,e];simp[U]
  ·obtain⟨o,ho,r⟩:=B.2.2;exact⟨o,(Y.2 H nt).trans ho,r⟩
 ·refine zAY hh B.1 B.2.1 Z.fit rfl B.2.2 (by simp) fun O k=>M O s.toks fun b o J e=>k b o (fun z=>J (by simp[z])) e
theorem iter_z {Q:Value->Shared->Prop}(hh:A.handled=none)(G:s.heap.get? S=some (yH es ep t))(Z:SetO (ye w) es t ks)
  (h:∀(h':Heap) (d:Drawn) (it:Addr) (H:List Addr) (vs:List Value) (ns:List Int) (St:Nat->Heap->Prop),(∀b o,s.heap.get? b=some o->h'.get? b=some o)->s.heap.objs.size<=it->(∀b∈H,b=S\/(s.heap.objs.size<=b/\b<h'.objs.size))->it<h'.objs.size->IntsAre vs ns->ns.Perm ks ->
   Walks prog w A it H [it] vs.length (fun i v=>vs[i]? = some v) St->St 0 h'->Q (.ref it) { s with heap:=h',drawn:=d }):wpAny (model prog w) A (pyIter (.ref S)) Q E s:=by
 have hT:s.TypeIs (.ref S) "set":=⟨_,G,rfl⟩;have Sl:S<s.heap.objs.size:=Heap.lt_size G;refine wpAny_pyIter_slot hT PySem.F.slot_set_iter (wpAny_call_entry PySem.F.slot_set_iter hT entry_si ?_ (PySem.F.args_set_iter_1 _));unfold Builtin.«frozenset.__iter__» Builtin.Frozenset.slot0 Builtin.Frozenset.sizeOf;refine wpAny_bind (wpAny_pure ?_);refine wpAny_bind (wpAny_bind (wpAny_setEntries_of G rfl Z.fit (wpAny_pure ?_)));refine wpAny_bind ?_;unfold setDrawn;refine wpAny_bind (wpAny_setState_of G rfl Z.fit ?_);dsimp only;refine wpAny_bind (JX (wpAny_pure ?_));have fin:∀(B:Heap) (d:Drawn) (f:Value) (H:List Addr) (vs:List Value) (ns:List Int) (St:Nat->Heap->Prop),(∀b o,s.heap.get? b=some o->B.get? b=some o)->s.heap.objs.size<=B.objs.size->(∀b∈H,b=S\/(s.heap.objs.size<=b/\b<=B.objs.size)) ->
   IntsAre vs ns->ns.Perm ks->Walks prog w A B.objs.size H [B.objs.size] vs.length (fun i v=>vs[i]? = some v) St->St 0 (B.push (JC f 0 S es.size ep)) ->
   wpAny (model prog w) A.in1 (setEpoch S >>= fun e=>newFields "set_iterator" [f,rawInt 0,.ref S,rawInt es.size,rawInt e] >>= fun v=>ret v) (fun fin s'=>∃r,fin=.done (.ret r)/\∃T' r',s'.TypeIs r T'/\typeLookup (.type T') "__next__" = pure (some r')/\Q r s') E { s with heap:=B,drawn:=d }:=by
  intro B d f H vs ns St kp sz hfp hi hp W st;refine wpAny_bind (wpAny_setEpoch_of (kp _ _ G) rfl Z.fit ?_);unfold newFields;refine wpAny_bind (wpAny_newObj_type (wpAny_pure ⟨_,rfl,"set_iterator",_,⟨_,Heap.get?_push_size _ rfl,rfl⟩,slot_si_next.lookup,?_⟩) (by size_fits));exact h (B.push (JC f 0 S es.size ep)) d B.objs.size H vs ns St (fun b o e=>Heap.get?_push_of_some _ (kp b o e)) sz (fun b z=>(hfp b z).imp id fun q=>⟨q.1,by rw[Heap.size_push];exact Nat.lt_succ_of_le q.2⟩) (by rw[Heap.size_push];exact yS _) hi hp W st
 have M:S≠s.heap.objs.size:=zG Sl;by_cases z:w.params.followText "set-order" = true
 ·rw[z];have c1:(!true&&(!t.plain&&decide (es.size>1)))=false:=rfl;show wpAny _ _ (if (!true&&(!t.plain&&decide (es.size>1)))=true then _ else _) _ _ _
  rw[c1,if_neg zN];refine wpAny_bind (wpAny_pure ?_);have U:=pick_perm (w.params.setOrder S ep) es;have ent:EntZ (pickOrder (w.params.setOrder S ep) es).toList:=fun e he=>Z.ent e (U.mem_iff.mp he);exact fin s.heap s.drawn (.int 0 0) _ _ _ _ (fun _ _ e=>e) (zB _) (fun b z=>by
   simp only[zD,zW,or_false]at z;rcases z with e|e
   ·exact .inr ⟨xc e.symm,xc e⟩
   ·exact .inl e) (ints_of ent) ((U.map keyZ).trans Z.perm) (walks_t hh M Z z) ⟨Heap.get?_push_size _ rfl,Heap.get?_push_of_some _ G⟩
 ·have z:w.params.followText "set-order" = false:=by simpa using z
  rw[z];show wpAny _ _ (if (!false&&(!t.plain&&decide (es.size>1)))=true then _ else _) _ _ _
  by_cases O:(!t.plain&&decide (es.size>1))=true
  ·rw[O,if_pos (by rfl)];refine wpAny_bind (draw_wp (prog:=prog) (w:=w) es.size (zj es.size) s (yZ) fun J d Y=>?_);refine wpAny_bind (wpAny_newTuple ?_ (by rw[qC,Y.length_eq,yZ];exact fits_of_scanBound Z.sm));have nt:s.heap.objs.size≠(s.heap.push { cls:=.type "tuple",data:=.seq (J.map fun(j:Nat)=>rawInt j).toArray }).objs.size:=by rw[Heap.size_push];first|exact zG (yS _)|exact zG (zm Sl)
   have nS:S≠(s.heap.push { cls:=.type "tuple",data:=.seq (J.map fun(j:Nat)=>rawInt j).toArray }).objs.size:=by rw[Heap.size_push];first|exact zG (yS _)|exact zG (zm Sl)
   have e0:J.filterMap (fun j=>(es[j]?).map (·.2))=(J.filterMap (fun j=>es[j]?)).map (·.2):=by
    rw[List.map_filterMap]
   have U:(J.filterMap (fun j=>es[j]?)).Perm es.toList:=by
    have:=Y.filterMap (fun j=>es[j]?);rw[filterMap_getElem?_range]at this;exact this
   have ent:EntZ (J.filterMap (fun j=>es[j]?)):=fun e he=>Z.ent e (U.mem_iff.mp he);have ii:=ints_of ent;rw[<-e0]at ii;exact fin _ d (.ref s.heap.objs.size) _ _ _ _ (fun b o e=>Heap.get?_push_of_some _ e) (by rw[Heap.size_push];exact Nat.le_succ _) (fun b z=>by
    simp only[zD,zW,or_false]at z;rcases z with e|e|e
    ·exact .inr ⟨by rw[e,Heap.size_push];exact Nat.le_succ _,xc e⟩
    ·exact .inl e
    ·exact .inr ⟨xc e.symm,by rw[e,Heap.size_push];exact Nat.le_succ _⟩) ii ((U.map keyZ).trans Z.perm) (walks_d hh nS nt Z Y) ⟨Heap.get?_push_size _ rfl,Heap.get?_push_of_some _ (Heap.get?_push_of_some _ G),⟨_,Heap.get?_push_of_some _ (Heap.get?_push_size _ rfl),rfl,0,rfl⟩⟩
  ·have O:(!t.plain&&decide (es.size>1))=false:=by simpa using O
   rw[O,if_neg (by simp)];refine wpAny_bind (wpAny_pure ?_);exact fin s.heap s.drawn (.int 0 0) _ _ _ _ (fun _ _ e=>e) (zB _) (fun b z=>by
    simp only[zD,zW,or_false]at z;rcases z with e|e
    ·exact .inr ⟨xc e.symm,xc e⟩
    ·exact .inl e) (ints_of Z.ent) Z.perm (walks_p hh M Z z O) ⟨zS _,Heap.get?_push_size _ rfl,Heap.get?_push_of_some _ G⟩
end
structure Src (prog:Program) (w:World) (T:String) (r:Addr) (C:Nat->(Nat->Value->Prop)->Prop) (OK:Heap->Prop):Prop where
 ty:∀s:Shared,OK s.heap->s.TypeIs (.ref r) T
 keep:∀h h':Heap,OK h->(∀o,h.get? r=some o->h'.get? r=some o)->OK h'
 nl:(Value.type T==Value.type "list")=false
 nt:(Value.type T==Value.type "tuple")=false
 hint:∀(A:Around) (E:Value->Shared->Prop) (s:Shared) (Q:Bool->Shared->Prop),OK s.heap->Q false s->wpAny (model prog w) A (Builtin.List.listLengthHint (.ref r)) Q E s
 iter:∀(A:Around) (E:Value->Shared->Prop) (s:Shared) (Q:Value->Shared->Prop),A.handled=none->OK s.heap ->
  (∀(h':Heap) (d:Drawn) (it:Addr) (fp:List Addr) (n:Nat) (P:Nat->Value->Prop) (St:Nat->Heap->Prop),(∀b o,s.heap.get? b=some o->h'.get? b=some o)->s.heap.objs.size<=it->(∀b∈fp,b=r\/(s.heap.objs.size<=b/\b<h'.objs.size))->C n P ->
   Walks prog w A it fp [it] n P St->St 0 h'->Q (.ref it) { s with heap:=h',drawn:=d })->wpAny (model prog w) A (pyIter (.ref r)) Q E s
section
variable {prog:Program}{w:World}{A:Around}{E:Value->Shared->Prop}{s:Shared}{T:String}{r:Addr}{C:Nat->(Nat->Value->Prop)->Prop}{OK:Heap->Prop}
theorem ext_src {R:Result->Shared->Prop} (K:Src prog w T r C OK) (hC:∀n P,C n P->n<=sizeLine) (hh:A.handled=none) (hok:OK s.heap) (S:Addr) (O:S≠r) (res:Value) (hS:s.heap.get? S=some { cls:=.type "list",data:=.seq #[] 0 })
  (hR:∀h' d tk acc c n P,(∀b o,b≠S->s.heap.get? b=some o->h'.get? b=some o)->h'.get? S=some { cls:=.type "list",dict:=none,data:=.seq acc c,slots:=#[] }->C n P->ItemsOf P acc n->R (.ok (.ret res)) { s with heap:=h',drawn:=d,toks:=tk }) :
  wpAny (model prog w) A.in1 (Builtin.List.listExtendWith (.ref S) (.ref r) res) (fun fin J=>match fin with|.done f=>R (.ok f) J|.again c'=>c'.quiet=true/\codeAny (model prog w) A c' R J) (fun e J=>R (.error e) J) s:=by
 have Sl:S<s.heap.objs.size:=Heap.lt_size hS;unfold Builtin.List.listExtendWith;refine wpAny_bind (wpAny_typeOf (T:=T) (K.ty s hok) ?_);have h1:Builtin.List.listSameRef (.ref S) (.ref r)=false:=by simp[Builtin.List.listSameRef,O]
 simp only[h1,K.nl,K.nt,Bool.or_false,zv,if_false];refine wpAny_bind (K.iter A.in1 _ s _ hh hok fun h' d it fp n P St kp le hfp hc W st=>?_);have G:=kp _ _ hS;have Sit:S≠it:=zG (qJ Sl le);have nf:S∉fp:=fun M=>by
  rcases hfp S M with e|e
  ·exact O e
  ·exact absurd (qJ Sl e.1) (zt _)
 have key:∀(h2:Heap) (c:Nat),St 0 h2->(∀b o,b≠S->s.heap.get? b=some o->h2.get? b=some o)->h2.get? S=some { cls:=.type "list",data:=.seq #[] c }->codeAny (model prog w) A (.builtin "list.extend.loop" ⟨[.ref S,.ref it,res],[]⟩) R { s with heap:=h2,drawn:=d }:=by
  intro h2 c st2 k2 B;refine codeAny_extend_loopS W.toS (hC n P hc) S nf res n 0 _ #[] c rfl (zS _) st2 B (ItemsOf.nil _) fun J acc c' mv hS' Y=>?_;obtain⟨h3,g3,d3,tk3,os3⟩:=J;have eg:g3=s.gens:=mv.gens;have ed:d3=d:=mv.drawn;have eo:os3=s.os:=mv.os;subst eg;subst ed;subst eo;refine hR h3 d3 tk3 acc c' n P (fun b o H e=>mv.heap b o (fun M=>?_) (k2 b o H e)) hS' hc Y;rcases zD.mp M with e'|M
  ·exact H e'
  ·rw[zE.mp M]at e;exact absurd (qJ (Heap.lt_size e) le) (zt _)
 refine wpAny_bind (wpAny_holding (K.hint _ _ _ _ (K.keep _ _ hok fun o e=>kp _ _ e) ?_));refine wpAny_ite_split (fun _=>?_) (fun _=>wpAny_pure ⟨plainId_quiet PySem.F.plain_extend_loop _,key _ 0 st (fun b o _ e=>kp b o e) G⟩);refine wpAny_bind (wpAny_rule (wpAny_bind ?_));show wpAny _ _ (updateSeq S (·.push .none) >>= fun _=>updateSeq S (·.pop)) _ _ _
 refine wpAny_bind (wpAny_updateSeq G rfl ?_);have B:=Heap.get?_update_self (Obj.mapSeq (·.push Value.none)) G rfl;refine wpAny_updateSeq (hz:=by seq_fits) B rfl ?_;have hS3:=Heap.get?_update_self (Obj.mapSeq (·.pop)) B rfl;refine wpAny_pure ⟨plainId_quiet PySem.F.plain_extend_loop _,key _ _ ?_ (fun b o H e=>?_) hS3⟩
 ·refine W.frame 0 _ _ st fun b H o e=>?_;have U:b≠S:=fun z=>nf (z ▸ H);exact(Heap.get?_update_other _ _ (Ne.symm U)).trans ((Heap.get?_update_other _ _ (Ne.symm U)).trans e)
 ·exact(Heap.get?_update_other _ _ (Ne.symm H)).trans ((Heap.get?_update_other _ _ (Ne.symm H)).trans (kp b o e))
theorem coll_src {R:List Value->Shared->Prop}(K:Src prog w T r C OK)(hC:∀n P,C n P->n<=sizeLine)(hh:A.handled=none)(hok:OK s.heap)
  (h:∀G d tk (acc:Array Value) n P,(∀b o,s.heap.get? b=some o->G.get? b=some o)->s.heap.objs.size<G.objs.size->C n P->ItemsOf P acc n->R acc.toList { s with heap:=G,drawn:=d,toks:=tk }):wpAny (model prog w) A (collect (.ref r)) R E s:=by
 have rl:r<s.heap.objs.size:=by
  obtain⟨o,ho,_⟩:=K.ty s hok;exact Heap.lt_size ho
 unfold collect;refine wpAny_bind (wpAny_runValue (codeAny_builtin entry_proto_collect' ?_));rw[Around.under_plainId PySem.F.plain_proto_collect _];show wpAny _ A.in1 (newList [] >>= fun l=>again (.builtin "list.__iadd__" ⟨[l,.ref r],[]⟩)) _ _ s
 refine wpAny_bind (wpAny_newObj_type (wpAny_pure ⟨plainId_quiet jw _,codeAny_builtin entry_list_iadd' ?_⟩));rw[Around.under_plainId jw _];have M:(s.heap.push { cls:=.type "list",data:=.seq ([]:List Value).toArray }).get? s.heap.objs.size=some { cls:=.type "list",data:=.seq #[] }:=Heap.get?_push_size _ rfl;show wpAny _ A.in1 (Builtin.List.listExtendWith (.ref s.heap.objs.size) (.ref r) (.ref s.heap.objs.size)) _ _ _
 have key:=ext_src (A:=A) (s:={ s with heap:=s.heap.push { cls:=.type "list",data:=.seq ([]:List Value).toArray } })
  (R:=fun(q:Result) (O:Shared)=>∃G d tk acc c n P,q=.ok (.ret (.ref s.heap.objs.size))/\O = { s with heap:=G,drawn:=d,toks:=tk }/\(∀b o,s.heap.get? b=some o->G.get? b=some o)/\G.get? s.heap.objs.size=some { cls:=.type "list",dict:=none,data:=.seq acc c,slots:=#[] }/\C n P/\ItemsOf P acc n)
  K hC hh (K.keep _ _ hok fun o e=>Heap.get?_push_of_some _ e) s.heap.objs.size (xG rl) (.ref s.heap.objs.size) M
  (fun G d tk acc c n P H B J z=>⟨G,d,tk,acc,c,n,P,rfl,rfl,fun b o e=>H b o (zG (Heap.lt_size e)) (Heap.get?_push_of_some _ e),B,J,z⟩)
 refine wpAny_mono key (fun fin O x=>?_) fun e O x=>?_
 ·cases fin with
  |done f =>
   obtain⟨G,d,tk,acc,c,n,P,e,rfl,H,B,J,z⟩:=x;cases e
   show wpAny _ A (load s.heap.objs.size >>= _) _ _ _
   exact wpAny_bind (wpAny_load B (wpAny_pure (h G d tk acc n P H (Heap.lt_size B) J z)))
  |again U =>
   refine⟨x.1,codeAny_mono x.2 fun q Y y=>?_⟩;obtain⟨G,d,tk,acc,c,n,P,rfl,rfl,H,B,J,z⟩:=y;show wpAny _ A (load s.heap.objs.size >>= _) _ _ _
   exact wpAny_bind (wpAny_load B (wpAny_pure (h G d tk acc n P H (Heap.lt_size B) J z)))
 ·obtain⟨_,_,_,_,_,_,_,e',_⟩:=x;cases e'
theorem sort_src {Q:Value->Shared->Prop}{ks:List Int}(K:Src prog w T r C OK)(H:ks.length<64)(U:∀n P,C n P->n<=sizeLine/\∀acc:Array Value,ItemsOf P acc n->∃G,IntsAre acc.toList G/\G.Perm ks)(hh:A.handled=none)(hok:OK s.heap)
  (h:∀z d tk D c (vs:List Value) G,(∀b o,s.heap.get? b=some o->z.get? b=some o)->s.heap.objs.size<=D->z.get? D=some (seqObj "list" vs.toArray c)->IntsAre vs G->G.Perm ks->G.Pairwise (· <= ·)->Q (.ref D) { s with heap:=z,drawn:=d,toks:=tk }) :
  wpAny (model prog w) A (call (.builtin "sorted") [.ref r]) Q E s:=by
 refine Calls.call_function_entry kind_sorted plain_sorted entry_sorted (args_sorted1 _) ?_;unfold Builtin.«sorted»;refine wpAny_bind (m:=checkCount "sorted" 1 1 _) (wpAny_pure ?_);refine wpAny_bind (coll_src (A:=A.in1) K (fun n P c=>(U n P c).1) hh hok fun z d tk acc n P kp le hc hi=>?_);obtain⟨G,M,O⟩:=(U n P hc).2 acc hi;have al:acc.toList.length<64:=by rw[IntsAre.length M,O.length_eq];exact H
 refine wpAny_bind (wpAny_newList ?_ (zZ (by omega)));have B:(z.push (seqObj "list" acc.toList.toArray 0)).get? z.objs.size=some (seqObj "list" acc.toList.toArray 0):=Heap.get?_push_size _ rfl;refine wpAny_bind (wpAny_holding (wpAny_call_entry slot_list_sort ⟨_,B,rfl⟩ entry_list_sort (list_sort_tree B M al fun out J Y a2 a3=>⟨_,rfl,?_⟩) (args_list_sort _)));obtain⟨c,hD⟩:=sortedHeap_at (out:=out) B;refine wpAny_pure ⟨_,rfl,h _ d tk z.objs.size c out.toList J (fun b o e=>?_) (Nat.le_of_lt le) hD Y (a2.trans O) a3⟩;have bl:=Heap.lt_size (kp b o e);rw[sortedHeap_old (zG bl) (by rw[size_push'];exact zm bl),Heap.get?_push_of_some _ (kp b o e)]
end
theorem hint_set {prog:Program} {w:World} {A:Around} {E:Value->Shared->Prop} {s:Shared} {r:Addr} {Q:Bool->Shared->Prop} (B:s.TypeIs (.ref r) "set") (h:Q false s):wpAny (model prog w) A (Builtin.List.listLengthHint (.ref r)) Q E s:=by
 unfold Builtin.List.listLengthHint;refine wpAny_bind (wpAny_specialOf B PySem.F.slot_set_len.lookup ?_);generalize z:("set.__len__" : String)=G
 wp_delta
 rw[show splitId G=some ("set","__len__") from by subst z;decide +kernel];subst z;refine wpAny_bind (wpAny_isInstance (T:="set") (b:=true) B (by rw[isSubtype_type];kernel_rfl) ?_);refine wpAny_ite_split (fun q=>absurd q (by decide)) (fun _=>wpAny_ite_split (fun _=>?_) (fun q=>absurd (by decide +kernel) q));exact wpAny_bind (wpAny_typeOf B (wpAny_pure h))
theorem src_set {prog:Program}{w:World}{r:Addr}{ks:List Int}:Src prog w "set" r (fun n P=>n=ks.length/\∃B H,B.length=n/\IntsAre B H/\H.Perm ks/\P=fun i v=>B[i]? = some v) (fun h=>SetZ (ye w) h r ks) where
 ty:=fun s ⟨M,O,t,G,_⟩=>⟨_,G,rfl⟩
 keep:=fun h J z k=>z.keep k
 nl:=by decide
 nt:=by decide
 hint:=fun A E s Q z q=>by
  obtain⟨M,O,t,G,_⟩:=z
  exact hint_set ⟨_,G,rfl⟩ q
 iter:=fun A E s Q hh z h=>by
  obtain⟨M,O,t,G,Z⟩:=z
  refine iter_z hh G Z fun J d it fp B H St a1 a2 a3 a4 U Y W st=>h J d it fp B.length _ St a1 a2 a3 ⟨?_,B,H,rfl,U,Y,rfl⟩ W st
  rw[IntsAre.length U,Y.length_eq]
theorem zAa:∀{vs:List Value} {ns:List Int},IntsAre vs ns->Vals (ns.map V.int) vs
 |_,_,.nil=>.nil
 |_,_,.cons n t r=>.cons ⟨t,rfl⟩ (zAa r)
theorem jp:∀{ns:List Int} {vs:List Value},Vals (ns.map V.int) vs->IntsAre vs ns
 |[],vs,h=>by cases h;exact .nil
 |n::ns,vs,h=>by
  cases h with
  |cons r t =>
   obtain⟨tk,rfl⟩:=r
   exact .cons n tk (jp t)
def sortI (ks:List Int):List Int:=ks.mergeSort (fun a b=>decide (a<=b))
theorem yA (ks:List Int):(sortI ks).Perm ks:=List.mergeSort_perm _ _
theorem yy (ks:List Int):(sortI ks).Pairwise (· <= ·):=by
 have:=List.pairwise_mergeSort (le:=fun(a b:Int)=>decide (a<=b)) (fun a b c B z=>by simp at B z ⊢;omega) (fun a b=>by simp;omega) ks;exact this.imp fun h=>by simpa using h
theorem Ju {ns ks:List Int}(B:ns.Perm ks)(z:ns.Pairwise (· <= ·)):ns=sortI ks:=PySem.W.ksm_same (B.trans (yA ks).symm) z (yy ks)
def SetE (w:World)(a:Addr)(ks:List Int):HO:=.ext (fun h=>SetZ (ye w) h a ks)
section
variable {X:Cx}
theorem Inv.drawn {pins:List (Addr×Obj)}{z:St}{H:Hp}{s:Shared}(I:Inv X pins z H s)(d:Drawn):Inv X pins z H { s with drawn:=d } :=
 ⟨I.ok,I.os,I.bare,I.base,I.loc,I.cell,I.free,I.freeC,I.pin,I.hok,I.len⟩
def rSetZ (w:World):List V->Hp->VK->Prop:=fun B H Q=>∃(p:Addr) (z:List Int),B=[.ref p]/\H p=some (.lst (z.map V.int))/\z.length<=4000/\∀a,H a=none->Q (.ref a) (upd H a (SetE w a (z.foldl step_dedup [])))
theorem call_setL (J:X.calm=true):CallR X (.type "set") (rSetZ X.w):=by
 intro pins s σ H xs us Q I r h;obtain⟨p,ns,rfl,hp,hl,q⟩:=h;obtain⟨u,rfl,M⟩:=ji r;cases M
 obtain⟨hz,B,c,U,_,O⟩:=I.lstM hp;refine call_setZ (I.ok.hd J) (vs:=B) ⟨_,O,rfl,c,rfl⟩ (jp U) (by unfold scanBound;omega) fun G tk z kp=>?_;refine⟨.ref s.heap.objs.size,_,I.laid (t':=tk) kp (zB _) ?_,rfl,q _ I.fresh⟩;show(SetZ (ye X.w) G s.heap.objs.size _)/\_
 refine⟨z,?_,fun h1 h2 Y k=>Y.keep k⟩;obtain⟨es,ep,t,e,_⟩:=z;exact⟨_,e⟩
def rSortS (w:World):List V->Hp->VK->Prop:=fun B H Q=>∃(a:Addr) (z:List Int),B=[.ref a]/\H a=some (SetE w a z)/\z.length<64/\∀l,H l=none->Q (.ref l) (upd H l (.lst ((sortI z).map V.int)))
theorem zAR {pins:List (Addr×Obj)}{B:St}{H:Hp}{s:Shared}{Q:VK}{h':Heap}{d:Drawn}{tk D c:Nat}{vs:List Value}{ns ks:List Int}(I:Inv X pins B H s)(kp:∀b o,s.heap.get? b=some o->h'.get? b=some o)(le:s.heap.objs.size<=D)
  (J:h'.get? D=some (seqObj "list" vs.toArray c)) (U:IntsAre vs ns) (z:ns.Perm ks) (G:ns.Pairwise (· <= ·)) (M:ks.length<64) (q:∀l,H l=none->Q (.ref l) (upd H l (.lst ((sortI ks).map V.int)))):EP X pins B Q (.ref D) { s with heap:=h',drawn:=d,toks:=tk }:=by
 have e:=Ju z G;subst e;have O:((sortI ks).map V.int).length<=sizeLine:=by rw[qC,z.length_eq];exact zZ (by omega)
 exact⟨.ref D,_,(I.laid (t':=tk) kp le (show ObjOk X.prog X.w _ h' D (.lst ((sortI ks).map V.int)) from⟨O,vs,c,zAa U,J⟩)).drawn d,rfl,q D (I.hok.fresh le)⟩
theorem call_sortS (hc:X.calm=true):CallR X (.builtin "sorted") (rSortS X.w):=by
 intro pins s σ H xs us Q I r h;obtain⟨a,J,rfl,ha,B,q⟩:=h;obtain⟨u,rfl,ru⟩:=ji r;cases ru
 have z:SetZ (ye X.w) s.heap a J:=(I.hok a _ ha).1;refine sort_src (ks:=J) src_set B ?_ (I.ok.hd hc) z fun h' d tk D c O U kp le hD G M ho=>zAR I kp le hD G M ho B q;rintro n P ⟨rfl,O,U,hl,G,M,rfl⟩;refine⟨zZ (by omega),fun acc Y=>⟨U,?_,M⟩⟩;have:acc.toList=O:=by
  apply yv;intro i;by_cases z:i<acc.size
  ·have e:=Y.2 i _ (zi z);rw[zR,zi z,e]
  ·rw[zR,Array.getElem?_eq_none (by omega),ze (by rw[hl,<-Y.1];omega)]
 rw[this];exact G
theorem JY (w:World)(z:X.calm=true)(h:X.w=w:=by rfl):CallR X (.type "set") (rSetZ w):=by subst h;exact call_setL z
theorem call_sortW (w:World)(z:X.calm=true)(h:X.w=w:=by rfl):CallR X (.builtin "sorted") (rSortS w):=by subst h;exact call_sortS z
end
theorem dedup_if (ks:List Int)(k:Int):step_dedup ks k=if k∈ks then ks else ks++[k]:=by
 unfold step_dedup;by_cases h:k∈ks
 ·have e:(ks.any fun x=>x==k)=true:=xQ.mpr ⟨k,h,beq_self_eq_true _⟩;rw[if_pos h,if_pos e]
 ·rw[if_neg h,if_neg];intro z;obtain⟨x,B,e⟩:=xQ.mp z;rw[beq_iff_eq.mp e]at B;exact h B
def ded (xs:List Int):List Int:=xs.foldl step_dedup []
theorem jS (xs:List Int)(x:Int):ded (xs++[x])=if x∈ded xs then ded xs else ded xs++[x]:=by
 unfold ded;rw[List.foldl_append];exact dedup_if _ _
theorem ded_len (xs:List Int):(ded xs).length<=xs.length:=by
 have:=JB xs [];unfold ded
 simpa using this
theorem xW (xs:List Int)(x:Int):x∈ded xs↔x∈xs:=by
 refine Jt (p:=fun xs=>x∈ded xs↔x∈xs) (by simp[ded]) (fun B y ih=>?_) xs;rw[jS];by_cases h:y∈ded B
 ·rw[if_pos h,ih,zK,zE];exact⟨.inl,fun z=>z.elim id fun e=>ih.mp (e ▸ h)⟩
 ·rw[if_neg h,zK,zK,ih]
def wantC (xs:List Int):List Int:=(xs.map coreN).filter fun c=>decide (1<c)
def gtV:V->Option V:=fun x=>match x with
 |.int n=>if 1<n then some (.int n) else none
 |_=>none
theorem gtV_map:∀z:List Int,(z.map V.int).filterMap gtV=(z.filter fun c=>decide (1<c)).map V.int
 |[]=>rfl
 |x::r=>by
  have e:gtV (.int x)=if 1<x then some (.int x) else none:=rfl
  rw[zQ,zY,e]
  by_cases h:1<x
  ·rw[if_pos h,List.filter_cons_of_pos (by simpa using h),zQ,<-gtV_map r]
  ·rw[if_neg h,List.filter_cons_of_neg (by simpa using h),<-gtV_map r]
def spWanted:Sp:=fun G H Q _=>∃(a:Addr) (z:List Int),G=[.ref a]/\H a=some (.lst (z.map V.int))/\z.length<=60/\∀l B,H l=none->Same H B->B l=some (.lst ((sortI (ded (wantC z))).map V.int))->Q (.ref l) B
section
variable {ins:Nat}{ds:List Wd}
end
section
variable {ins:Nat}{ds:List Wd}{j lo:Nat}{far:List Int}
end
section
variable {K:zA}{σ:St}{H:Hp}{Q:VK}{cs:List Nat}{te:TE}
end
section
variable {K:zA}{σ:St}{H:Hp}{Q:VK}{cs:List Nat}{tt:TT}{te:TE}
end
def tFrz (J:TE):TE:=fun G H Q=>J G H fun x B=>∃d z,x=.ref d/\B d=some (.dK z)/\∀o,Q x (upd B d (.frz o (.dK z)))
theorem w_frz {J:TE}{B:St}{H:Hp}{Q:VK}:tFrz J B H Q=(J B H fun x G=>∃d z,x=.ref d/\G d=some (.dK z)/\∀o,Q x (upd G d (.frz o (.dK z)))):=rfl
section
variable {X:Cx}
theorem pe_frz {e:Expr}{M:TE}(he:PE X e M):PE X e (tFrz M):=by
 intro pins s Y H Q I h;refine thn (he pins s Y H _ I h) fun v G ⟨x,H1,U,r1,q1⟩=>?_;obtain⟨d,B,rfl,O,q⟩:=q1;have ok:=U.hok d _ O;obtain⟨z,lo,vs,rel,dd⟩:=id ok;obtain⟨ep,o,es,J,_⟩:=dd.dictAt;have I2:Inv X pins Y (upd H1 d (.frz o (.dK B))) { G with heap:=G.heap,toks:=G.toks }:=U.write (by rw[O];trivial) (.inl rfl) (fun b u _ e=>e) ⟨o,J⟩ ⟨J,ok⟩;exact⟨.ref d,_,I2,r1,q o⟩
def ItD (d:Addr)(o:Obj)(z:List (Key×V)):It :=
 ⟨fun i H=>H d=some (.frz o (.dK z))/\i<z.length,fun i H x B=>B=H/\(z.map fun q=>kV q.1)[i]? = some x,fun i H=>H d=some (.frz o (.dK z))/\z.length<=i⟩
theorem kv_len:∀{a:List (Key×V)} {b:List (Key×Value)},KV a b->a.length=b.length:=by
 intro a b r;induction r with
 |nil=>rfl
 |cons _ _ ih=>simp[ih]
theorem kv_at:∀{a:List (Key×V)} {b:List (Key×Value)},KV a b->∀{i:Nat} {k:Key} {x:Value},b[i]? = some (k,x)->∃v,a[i]? = some (k,v):=by
 intro a b r;induction r with
 |nil=>intro i k x h;simp at h
 |@cons p q _ _ h _ ih =>
  intro i k x e;cases i with
  |zero =>
   simp only[yV,Option.some.injEq]at e;subst e;refine⟨p.2,?_⟩;simp only[yV,Option.some.injEq];exact Prod.ext h.1 rfl
  |succ i=>exact ih (by simpa using e)
theorem frz_at {P:Program}{w:World}{H:Hp}{h:Heap}{d:Addr}{o:Obj}{J:List (Key×V)}(ok:HOk P w H h)(e:H d=some (.frz o (.dK J))):h.get? d=some o/\(d==sysModules)=false/\∃O U Y,KV J O/\o.data=.dict Y U/\h.DictAt (y8 P w) d O U:=by
 obtain⟨ho,z,lo,O,rel,dd⟩:=ok d _ e;obtain⟨U,G⟩:=dd.dictAt;obtain⟨o',Y,M,hc,B,_⟩:=id G;rw[ho]at M;cases M
 exact⟨ho,lo,O,U,Y,rel,B,G⟩
theorem turn_dict {P:Program}{w:World}{K:zA}{tg:Expr}(d it:Addr)(o:Obj)(O:List (Key×V))(es:Array DictEntry)(ep:Nat)(ho:o.data=.dict es ep):Turn P w K tg (ItD d o O) [it] it (fun i h=>h.IsKeyIter it d i O.length ep) where
 mem:=by simp
 obj:=fun i h G b M=>by
  have e:b=it:=by simpa using M
  subst e
  obtain⟨u,e,c,dd⟩:=G
  exact⟨u,e,fun v z=>by rw[dd]at z;cases z⟩
 keep:=fun i h h' G k=>G.at fun o e=>k it (by simp) o e
 item:=by
  intro X hP hw hK hc i pins s σ H E I hf G hg;subst hP hw hK;obtain⟨hd,hi⟩:=hg;obtain⟨_,lo,vs,ep',es',rel,B,J⟩:=frz_at I.hok hd;rw[ho]at B;cases B
  have kl:=kv_len rel;obtain⟨⟨k,x⟩,hx⟩:∃p,vs[i]? = some p:=⟨vs[i]'(by omega),qA _⟩;obtain⟨v,hv⟩:=kv_at rel hx;obtain⟨f0,f1,f2,f3,f4,f5⟩:=hf it (by simp);rw[kl]at G;refine wpAny_pyNext_dict_item G J hx fun key h' Y U sb=>?_;have I1:Inv X pins σ H { s with heap:=h' }:=I.turned (t':=s.toks) (fun b o M e=>(sb.2 b M).trans e) f0 f1 f3 f4 f5;obtain⟨u,e,c,dd⟩:=id U;refine⟨key,rfl,go_of (s:={ s with heap:=h' }) e c dd (by decide) ⟨kV k,H,I1,key_rel Y,⟨rfl,by rw[qI,hv];rfl⟩,by rw[kl];exact U,fun b M=>(hf b M).1⟩⟩
 done:=by
  intro X hP hw hK hc i pins s σ H E I hf G hg;subst hP hw hK;obtain⟨hd,hi⟩:=hg;obtain⟨_,lo,vs,ep',es',rel,B,J⟩:=frz_at I.hok hd;rw[ho]at B;cases B
  have kl:=kv_len rel;obtain⟨f0,f1,f2,f3,f4,f5⟩:=hf it (by simp);rw[kl]at G;exact wpAny_pyNext_dict_end (I.ok.hd hc) G J (ze (by omega)) fun h' eb=>⟨rfl,I.turned (t':=s.toks) (fun b o M e=>eb b o M e) f0 f1 f3 f4 f5⟩
 self:=fun _ _ _ _ _ G h=>wpAny_pyIter_keyiter G h
def iDict (tl:TE):TI:=fun G H R=>tl G H fun x B=>∃d o z,x=.ref d/\B d=some (.frz o (.dK z))/\R (ItD d o z) B
theorem pi_dict {U l:Expr}{tl:TE}(hl:PE X l tl):PI X U l (iDict tl):=by
 intro pins s σ H R I h;refine thn (hl pins s σ H _ I h) fun v B ⟨x,H1,G,r1,O⟩=>?_;obtain⟨d,o,M,rfl,hd,q⟩:=O;cases r1
 obtain⟨ho,lo,vs,ep,Y,rel,z,J⟩:=frz_at G.hok hd;refine wpAny_pyIter_dict lo J ?_;refine⟨B.heap.objs.size,[B.heap.objs.size],_,_,H1,rfl,G.kept (t':=B.toks) fun b o e=>Heap.get?_push_of_some _ e,turn_dict d _ o M Y ep z,⟨_,Heap.get?_push_size _ rfl,rfl,by rw[kv_len rel];rfl⟩,fun b hb=>?_,q⟩;have e:b=B.heap.objs.size:=by simpa using hb
 subst e;exact G.fpOk (zB _) (G.hok.fresh (zB _))
theorem w_compD {tl:TE}{M:Nat}{G:List Nat}{g:TG}{J:TT}{O:TE}{B:St}{H:Hp}{Q:VK}:JL (iDict tl) M G g J O B H Q=(tl B H fun x U=>∃d o z,x=.ref d/\U d=some (.frz o (.dK z))/\yX (ItD d o z) M G g J O B U Q):=rfl
theorem it_D {d:Addr}{o:Obj}{z:List (Key×V)}{H:Hp}(h:H d=some (.frz o (.dK z))){H':Hp}(s:Same H H'):(∀i,i<(z.map fun q=>kV q.1).length->(ItD d o z).go i H')/\(∀i x B,(ItD d o z).yld i H' x B->B=H'/\(i<(z.map fun q=>kV q.1).length->(z.map fun q=>kV q.1)[i]? = some x))/\(ItD d o z).stop (z.map fun q=>kV q.1).length H':=by
 refine⟨fun i G=>⟨s _ _ h,by rwa [qC]at G⟩,fun i x B y=>⟨y.1,fun _=>y.2⟩,⟨s _ _ h,by rw[qC];exact zB _⟩⟩
end
theorem w_popAt {l:Addr}{i:Int}{H:Hp}{Q:VK}:rPopAt (.ref l) [.int i] H Q=∃z k y,H l=some (.lst z) /\ -(2^63)<=i/\i<2^63/\seqIndex? i z.length=some k/\z[k]? = some y/\Q y (upd H l (.lst (z.eraseIdx k))) :=
 propext ⟨fun⟨_,z,_,k,y,G,B,h⟩=>by cases G;cases B;exact⟨z,k,y,h⟩,fun⟨z,k,y,h⟩=>⟨l,z,i,k,y,rfl,rfl,h⟩⟩
theorem oddU:∀(a b:Nat) {m n:Int},m%2=1->n%2=1->m*2^a=n*2^b->m=n
 |0,0,m,n,_,_,h=>by simpa using h
 |0,b+1,m,n,z,_,h=>by
  rw[y4,<-yY,yq,yW]at h
  omega
 |a+1,0,m,n,_,B,h=>by
  rw[y4,<-yY,yq,yW]at h
  omega
 |a+1,b+1,m,n,z,B,h=>by
  rw[y4,y4,<-yY,<-yY]at h
  exact oddU a b z B (by omega)
theorem Jv {n:Int}(h:n≠0):∃k:Nat,(n.natAbs:Int)=coreN n*2^k:=by
 obtain⟨H,J,k,M,z,G,_⟩:=xM h;refine⟨k,?_⟩;have B:=Int.mul_pos H (jQ k);generalize coreN n*2^k=g at z B;rcases G with e|e<;>rw[e]at z<;>omega
theorem core_is {n m:Int}{k:Nat}(z:n≠0)(B:m%2=1)(h:(n.natAbs:Int)=m*2^k):coreN n=m:=by
 obtain⟨j,e⟩:=Jv z;exact oddU j k (xM z).2.1 B (by rw[<-e,h])
theorem JZ (n:Int):coreN (-n)=coreN n:=by
 by_cases h:n=0
 ·subst h;rfl
 ·obtain⟨k,e⟩:=Jv h;exact core_is (k:=k) (by omega) (xM h).2.1 (by rw[<-e];omega)
theorem core_abs2 (n:Int):coreN (if n<0 then -n else n)=coreN n:=by
 split
 ·exact JZ n
 ·rfl
theorem jq {n:Int}(h:n%2=1)(z:0<n):coreN n=n:=core_is (k:=0) (by omega) h (by rw[yq,yW];omega)
theorem zAB:coreN 0=0:=rfl
structure OdIn (some_:List Int) (top:Int):Prop where
 odd:∀x∈some_,x%2=1
 lo:∀x∈some_,1<=x
 hi:∀x∈some_,x<=top
def dbl (l top:Int):Nat->List Int
 |0=>[l]
 |n+1=>l::(if l<=top then dbl (2*l) top n else [])
theorem Jw {top:Int}:∀(n:Nat) {l x:Int},1<=l->top<l*2^n->(x∈dbl l top n↔∃k:Nat,x=l*2^k/\∀j,j<k->l*2^j<=top)
 |0,l,x,J,B=>by
  rw[yq,yW]at B
  unfold dbl
  rw[zE]
  constructor
  ·rintro rfl
   exact⟨0,by simp,fun j h=>by omega⟩
  ·rintro⟨k,rfl,h⟩
   cases k with
   |zero=>simp
   |succ k =>
    have:=h 0 (by omega)
    rw[yq,yW]at this
    omega
 |n+1,l,x,J,B=>by
  unfold dbl
  rw[zD]
  have e:∀k:Nat,l*2^(k+1)=2*l*2^k:=fun k=>by rw[y4];rw[Int.mul_comm 2 l,yY,Int.mul_comm 2]
  constructor
  ·rintro(rfl|h)
   ·exact⟨0,by simp,fun j h=>by omega⟩
   ·by_cases z:l<=top
    ·rw[if_pos z]at h
     obtain⟨k,rfl,G⟩:=(Jw n (by omega) (by rw[<-e];exact B)).mp h
     refine⟨k+1,(e k).symm,fun j H=>?_⟩
     cases j with
     |zero=>rw[yq,yW];exact z
     |succ j=>rw[e];exact G j (by omega)
    ·rw[if_neg z]at h
     cases h
  ·rintro⟨k,rfl,G⟩
   cases k with
   |zero=>exact .inl (by simp)
   |succ k =>
    have z:l<=top:=by
     have:=G 0 (by omega)
     rwa [yq,yW]at this
    refine .inr ?_;rw[if_pos z];exact(Jw n (by omega) (by rw[<-e];exact B)).mpr ⟨k,e k,fun j H=>by rw[<-e];exact G (j+1) (by omega)⟩
theorem dbl_le {top:Int}:∀(n:Nat) {l x:Int},1<=l->l<=2*top->x∈dbl l top n->1<=x/\x<=2*top
 |0,l,x,G,B,h=>by
  unfold dbl at h
  rw[zE.mp h]
  omega
 |n+1,l,x,G,B,h=>by
  unfold dbl at h
  rcases zD.mp h with rfl|h
  ·omega
  ·by_cases z:l<=top
   ·rw[if_pos z]at h
    exact dbl_le n (by omega) (by omega) h
   ·rw[if_neg z]at h
    cases h
def pm (z:List Int)(h:Int):List Int:=z.flatMap fun r=>[h+r,h-r]
def sumsL (z:List Int)(top:Int):List Int:=z.flatMap fun l=>(dbl l top 7).flatMap (pm z)
theorem mem_pm {z:List Int}{h x:Int}:x∈pm z h↔∃r∈z,x=h+r\/x=h-r:=by
 unfold pm;rw[xP];constructor
 ·rintro⟨r,B,G⟩;exact⟨r,B,by simpa using G⟩
 ·rintro⟨r,B,G⟩;exact⟨r,B,by simpa using G⟩
theorem mem_sums {z:List Int}{top x:Int}:x∈sumsL z top↔∃l∈z,∃h∈dbl l top 7,∃r∈z,x=h+r\/x=h-r:=by
 unfold sumsL;rw[xP];constructor
 ·rintro⟨l,G,B⟩;obtain⟨h,H,B⟩:=xP.mp B;exact⟨l,G,h,H,mem_pm.mp B⟩
 ·rintro⟨l,G,h,H,B⟩;exact⟨l,G,xP.mpr ⟨h,H,mem_pm.mpr B⟩⟩
def madeL (z:List Int)(top:Int):List Int:=sortI (ded (((ded (sumsL z top)).map coreN).filter fun c=>decide (0<c/\c<=top)))
def twoC (z:List Int)(x:Int):Prop:=∃one∈z,∃other∈z,x=coreN (one+other)\/(one≠other/\x=coreN (one-other))
def oneC (z:List Int)(x other:Int):Prop:=coreN (x+other)∈z\/(x≠other/\coreN (x-other)∈z)
theorem mem_made {z:List Int}{top x:Int}:x∈madeL z top↔(0<x/\x<=top)/\∃y∈sumsL z top,coreN y=x:=by
 unfold madeL;rw[(yA _).mem_iff,xW,zk,qP,decide_eq_true_eq];constructor
 ·rintro⟨⟨y,B,e⟩,h⟩;exact⟨h,y,(xW _ _).mp B,e⟩
 ·rintro⟨h,y,B,e⟩;exact⟨⟨y,(xW _ _).mpr B,e⟩,h⟩
theorem pow_even {k:Nat}(h:0<k)(l:Int):(l*2^k)%2=0:=by
 obtain⟨j,rfl⟩:∃j,k=j+1:=⟨k-1,by omega⟩;rw[y4,<-yY];omega
theorem pow_mono2 {l:Int}(G:1<=l){i j:Nat}(h:i<=j):l*2^i<=l*2^j:=by
 obtain⟨d,rfl⟩:∃d,j=i+d:=⟨j-i,by omega⟩;rw[Int.pow_add,<-yY];have z:=jQ d;have B:0<l*2^i:=Int.mul_pos (by omega) (jQ i);generalize (2:Int)^d=g at z;generalize l*2^i=m at B;have:=Int.mul_le_mul_of_nonneg_left (show(1:Int)<=g by omega) (show 0<=m by omega);omega
theorem made_iff {B:List Int}{top x:Int}(O:OdIn B top)(ht:top<=99):x∈madeL B top↔(x%2=1/\1<=x/\x<=top)/\(twoC B x\/∃other∈B,oneC B x other):=by
 have big:∀l∈B,top<l*2^7:=fun l G=>by
  have:=O.lo l G;have e:(2:Int)^7=128:=by decide
  rw[e];omega
 rw[mem_made];constructor
 ·rintro⟨⟨x0,x1⟩,y,hy,e⟩;obtain⟨l,G,h,hh,r,M,J⟩:=mem_sums.mp hy;have l1:=O.lo l G;have lo:=O.odd l G;have r1:=O.lo r M;have ro:=O.odd r M;have y0:y≠0:=fun z=>by rw[z]at e;rw[zAB]at e;omega
  have Y:x%2=1:=by rw[<-e];exact(xM y0).2.1
  refine⟨⟨Y,by omega,x1⟩,?_⟩;obtain⟨k,rfl,hk⟩:=(Jw 7 l1 (big l G)).mp hh;by_cases z:k=0
  ·subst z;rw[yq,yW]at J;rcases J with rfl|rfl
   ·exact .inl ⟨l,G,r,M,.inl e.symm⟩
   ·exact .inl ⟨l,G,r,M,.inr ⟨by omega,e.symm⟩⟩
  ·have ev:=pow_even (show 0<k by omega) l;have gp:0<l*2^k:=Int.mul_pos (by omega) (jQ k);have cg:coreN (l*2^k)=l:=core_is (k:=k) (by omega) lo (by omega);have U:coreN (-(l*2^k))=l:=by rw[JZ];exact cg
   generalize l*2^k=g at J ev gp cg U;refine .inr ⟨r,M,?_⟩;rcases J with rfl|rfl
   ·rw[jq (by omega) (by omega)]at e;refine .inr ⟨by omega,?_⟩;rw[show x-r=g by omega,cg];exact G
   ·by_cases s:0<g-r
    ·rw[jq (by omega) s]at e;refine .inl ?_;rw[show x+r=g by omega,cg];exact G
    ·rw[<-JZ,jq (by omega) (by omega)]at e;refine .inr ⟨by omega,?_⟩;rw[show x-r = -g by omega,U];exact G
 ·rintro⟨⟨Y,x1,x2⟩,h⟩;refine⟨⟨by omega,x2⟩,?_⟩;have zero:∀l∈B,l∈dbl l top 7:=fun l G=>(Jw 7 (O.lo l G) (big l G)).mpr ⟨0,by simp,fun j h=>by omega⟩;rcases h with⟨one,h1,other,H,h⟩|⟨other,H,h⟩
  ·rcases h with h|⟨_,h⟩
   ·exact⟨one+other,mem_sums.mpr ⟨one,h1,one,zero one h1,other,H,.inl rfl⟩,h.symm⟩
   ·exact⟨one-other,mem_sums.mpr ⟨one,h1,one,zero one h1,other,H,.inr rfl⟩,h.symm⟩
  ·have o1:=O.lo other H;have o2:=O.hi other H;have oo:=O.odd other H;have key:∀n:Int,n≠0->n%2=0->coreN n∈B->n.natAbs<=2*top->∃h∈dbl (coreN n) top 7,h=n.natAbs:=fun n hn he J hb=>by
    obtain⟨k,e⟩:=Jv hn;refine⟨n.natAbs,(Jw 7 (O.lo _ J) (big _ J)).mpr ⟨k,e,fun j hj=>?_⟩,rfl⟩;have m1:=pow_mono2 (O.lo _ J) (show j<=k-1 by omega);obtain⟨i,rfl⟩:∃i,k=i+1:=⟨k-1,by omega⟩;rw[Nat.add_sub_cancel]at m1;rw[y4,<-yY]at e;omega
   rcases h with h|⟨hne,h⟩
   ·obtain⟨g,hg,e⟩:=key (x+other) (by omega) (by omega) h (by omega);refine⟨g-other,mem_sums.mpr ⟨_,h,g,hg,other,H,.inr rfl⟩,?_⟩;rw[show g-other=x by omega];exact jq Y (by omega)
   ·obtain⟨g,hg,e⟩:=key (x-other) (by omega) (by omega) h (by omega);by_cases s:other<x
    ·refine⟨g+other,mem_sums.mpr ⟨_,h,g,hg,other,H,.inl rfl⟩,?_⟩;rw[show g+other=x by omega];exact jq Y (by omega)
    ·refine⟨g-other,mem_sums.mpr ⟨_,h,g,hg,other,H,.inr rfl⟩,?_⟩;rw[show g-other = -x by omega,JZ];exact jq Y (by omega)
theorem j7 (xs:List Int):(ded xs).Nodup:=by
 refine Jt (p:=fun xs=>(ded xs).Nodup) (by simp[ded]) (fun z y ih=>?_) xs;rw[jS];by_cases h:y∈ded z
 ·rw[if_pos h];exact ih
 ·rw[if_neg h,List.nodup_append];exact⟨ih,by simp,fun a B b G e=>h (by rw[zE.mp G]at e;exact e ▸ B)⟩
theorem made_rise (z:List Int)(top:Int):(madeL z top).Pairwise (· < ·):=by
 unfold madeL;generalize (((ded (sumsL z top)).map coreN).filter fun c=>decide (0<c/\c<=top))=B;have H:=yy (ded B);have G:(sortI (ded B)).Nodup:=(yA _).nodup_iff.mpr (j7 B);have:=H.and G;exact this.imp fun⟨a,b⟩=>by omega
theorem zAC:∀{l m:List Int},l.Nodup->(∀x∈l,x∈m)->l.length<=m.length
 |[],m,_,_=>zS _
 |a::r,m,H,h=>by
  have z:=jc.mp H
  have G:=h a zM
  have:=zAC (m:=m.erase a) z.2 fun x B=>by
   have J:x≠a:=fun e=>z.1 (e ▸ B)
   exact(List.mem_erase_of_ne J).mpr (h x (zF _ B))
  rw[List.length_erase_of_mem G]at this
  have M:=List.length_pos_of_mem G
  rw[zI]
  omega
theorem jW {l:List Int}{lo:Int}{n:Nat}(B:l.Nodup)(h:∀x∈l,lo<=x/\x<lo+n):l.length<=n:=by
 have:=zAC (m:=(zj n).map fun(i:Nat)=>lo+(i:Int)) B fun x z=>by
  obtain⟨a,b⟩:=h x z;exact qP.mpr ⟨(x-lo).toNat,x6.mpr (by omega),by omega⟩
 rwa [qC,yZ]at this
theorem sums_in {z:List Int}{top x:Int}(O:OdIn z top)(ht:top<=99)(h:x∈sumsL z top):-99<=x/\x < -99+(400:Nat):=by
 obtain⟨l,G,g,H,r,B,Y⟩:=mem_sums.mp h;have J:=O.lo l G;have U:=O.hi l G;have M:=O.lo r B;have r2:=O.hi r B;have:=dbl_le 7 J (by omega) H;omega
theorem Je (xs:List Int)(c:Int):inV (.int c) (xs.map V.int)=decide (c∈xs):=by
 unfold inV;rw[List.any_map];by_cases h:c∈xs
 ·rw[decide_eq_true h,xQ];exact⟨c,h,by simp[eqV]⟩
 ·rw[decide_eq_false h,List.any_eq_false];intro x z;have:x≠c:=fun e=>h (e ▸ z);simp[eqV,this]
section
variable {K:zA}{σ:St}{H:Hp}{Q:VK}{cs:List Nat}{te:TE}
end
def spDbl:Sp:=fun B H Q _=>∃(l top:Int),B=[.int l,.int top]/\1<=l/\l<=1000/\top<l*2^7/\∀r z,H r=none->Same H z->z r=some (.lst ((dbl l top 7).map V.int))->Q (.ref r) z
def spCoresD:Sp:=fun G H Q _=>∃(a:Addr) (o:Obj) (z:List Int),G=[.ref a]/\H a=some (.frz o (.dK (ukv z)))/\z.length<=1000/\∀l B,H l=none->Same H B->B l=some (.lst ((z.map coreN).map V.int))->Q (.ref l) B
def spMade:Sp:=fun G H Q _=>∃(a:Addr) (z:List Int) (top:Int),G=[.ref a,.int top]/\H a=some (.lst (z.map V.int))/\OdIn z top/\1<=top/\top<=99/\z.length<=100/\∀l B,H l=none->Same H B->B l=some (.lst ((madeL z top).map V.int))->Q (.ref l) B
def spOdd:Sp:=fun z H Q _=>∃n:Int,z=[.int n]/\0<n/\Q (.int (coreN n)) H
theorem made_len {xs:List Int}{top:Int}(G:top<=99):(madeL xs top).length<=99:=by
 have z:(madeL xs top).Nodup:=(made_rise xs top).imp fun h=>by omega
 refine jW (lo:=1) z fun x B=>?_;have:=(mem_made.mp B).1;omega
theorem jF {xs:List Int}{top:Int}(O:OdIn xs top)(z:top<=99):(ded (sumsL xs top)).length<=400:=jW (j7 _) fun x B=>sums_in O z ((xW _ _).mp B)
theorem fil_len {xs:List Int}{top:Int}(O:OdIn xs top)(U:top<=99):(ded (((ded (sumsL xs top)).map coreN).filter fun c=>decide (0<c/\c<=top))).length<64:=by
 refine y9 (zAC (m:=(zj 50).map fun(i:Nat)=>2*(i:Int)+1) (j7 _) fun x G=>?_) (by rw[qC,yZ];decide);obtain⟨H,B⟩:=zk.mp ((xW _ _).mp G);obtain⟨y,_,e⟩:=qP.mp H;have M:=of_decide_eq_true B;have J:y≠0:=fun z=>by rw[z,zAB]at e;omega
 have odd:=(xM J).2.1;rw[e]at odd;exact qP.mpr ⟨((x-1)/2).toNat,x6.mpr (by omega),by omega⟩
def jX (xs:List Int)(top:Int)(i:Nat):List Int:=(xs.take i).flatMap fun l=>(dbl l top 7).flatMap (pm xs)
theorem sumsT_all (xs:List Int)(top:Int):jX xs top xs.length=sumsL xs top:=by unfold jX sumsL;rw[zn]
theorem zAb {xs:List Int}{top l:Int}{i:Nat}(h:xs[i]? = some l):jX xs top (i+1)=jX xs top i++(dbl l top 7).flatMap (pm xs):=by
 unfold jX;rw[zq,h,List.flatMap_append];simp
theorem pm_snoc {xs:List Int}{g x:Int}{k:Nat}(h:xs[k]? = some x):pm (xs.take (k+1)) g=pm (xs.take k) g++[g+x,g-x]:=by
 unfold pm;rw[zq,h,List.flatMap_append];simp
theorem sumsT_sub {xs:List Int}{top l g x:Int}{i j k:Nat}(M:xs[i]? = some l)(U:(dbl l top 7)[j]? = some g)(h:x∈jX xs top i++((dbl l top 7).take j).flatMap (pm xs)++pm (xs.take k) g):x∈sumsL xs top:=by
 rw[mem_sums];rcases zK.mp h with h|h
 ·rcases zK.mp h with h|h
  ·obtain⟨O,J,G⟩:=xP.mp h;obtain⟨H,B,z⟩:=xP.mp G;exact⟨O,yC J,H,B,mem_pm.mp z⟩
  ·obtain⟨H,B,z⟩:=xP.mp h;exact⟨l,qE M,H,yC B,mem_pm.mp z⟩
 ·obtain⟨r,J,G⟩:=mem_pm.mp h;exact⟨l,qE M,g,qE U,r,yC J,G⟩
theorem sumsT_len {xs:List Int}{top l g:Int}{i j k:Nat}(O:OdIn xs top)(H:top<=99)(B:xs[i]? = some l)(z:(dbl l top 7)[j]? = some g):(ded (jX xs top i++((dbl l top 7).take j).flatMap (pm xs)++pm (xs.take k) g)).length<=400 :=
 jW (j7 _) fun x G=>sums_in O H (sumsT_sub B z ((xW _ _).mp G))
theorem zAc {xs:List Int}{top l g x:Int}{i j k:Nat}(O:OdIn xs top)(H:top<=99)(B:xs[i]? = some l)(z:(dbl l top 7)[j]? = some g)(G:xs[k]? = some x):(ded (jX xs top i++((dbl l top 7).take j).flatMap (pm xs)++pm (xs.take k) g++[g+x])).length<=400:=by
 refine jW (j7 _) fun y J=>sums_in O H (sumsT_sub (k:=k+1) B z ?_);rw[pm_snoc G];have:=(xW _ _).mp J;simp only[zK]at this ⊢;rcases this with h|h
 ·rcases h with h|h
  ·exact .inl h
  ·exact .inr (.inl h)
 ·rw[zE.mp h];exact .inr (.inr (by simp))
def inT (top:Int):V->Option V:=fun x=>match x with
 |.int n=>if 0<n/\n<=top then some (.int n) else none
 |_=>none
theorem inT_int (top n:Int):inT top (.int n)=if 0<n/\n<=top then some (.int n) else none:=rfl
theorem inT_map (top:Int):∀z:List Int,(z.map V.int).filterMap (inT top)=(z.filter fun c=>decide (0<c/\c<=top)).map V.int
 |[]=>rfl
 |x::r=>by
  rw[zQ,zY,inT_int]
  by_cases h:0<x/\x<=top
  ·rw[if_pos h,List.filter_cons_of_pos (by simpa using h),zQ,<-inT_map top r]
  ·rw[if_neg h,List.filter_cons_of_neg (by simpa using h),<-inT_map top r]
theorem seqIx {i:Int}{n:Nat}(B:0<=i)(z:i<(n:Int)):seqIndex? i n=some i.toNat:=by
 unfold seqIndex?;simp only[];rw[if_neg (show ¬ i<0 by omega)];rw[if_pos (by simp;omega)]
section
variable {prog:Program}{w:World}{A:Around}{E:Value->Shared->Prop}{s:Shared}{K:zA}{x C dx:Addr}{ox:Obj}{name:Str}{v:Value}
end
section
variable {prog:Program}{w:World}{A:Around}{E:Value->Shared->Prop}{h:Heap}{g:Array GenState}{d:Drawn}{t:Nat}{os:OsState}
variable {nm q:Str}{C N:Addr}{bs bm bmB:List Value}{hdct:Bool}{sn:List Str}{sub:List Value}{ab:Bool}{col:Option Bool}{dd:Option Addr}{k0 k1 k2 k3 k5:Option Value}{B newId initId:String}
end
section
variable {X:Cx}{pins:List (Addr×Obj)}{σ:St}{H:Hp}{s:Shared}{x C t:Addr}{f:Str}
end
section
variable {M:Model}{A:Around}{E:Value->Shared->Prop}{env:Env}
variable {nm q:Str}{C N:Addr}{bs bm:List Value}{hdct:Bool}{sn:List Str}{sub:List Value}{ab:Bool}{col:Option Bool}{dd:Option Addr}{k0 k1 k2 k3 k5:Option Value}{newId:String}
end
section
variable {X:Cx}{C:Addr}{f:Str}
end
section
variable {prog:Program}{w:World}{A:Around}{E:Value->Shared->Prop}{s:Shared}{K:zA}{x D:Addr}{o:Obj}{od:Option Obj}
end
section
variable {α:Type}{p:α->Bool}{l:List α}{i:Nat}{x:α}
end
section
variable {K:zA}{σ:St}{H:Hp}{Q:VK}{cs:List Nat}{te:TE}
end
section
variable {key:Nat->Int}{n:Nat}{p q:Array Nat}
end
section
variable {prog:Program}{w:World}{A:Around}{E:Value->Shared->Prop}{s:Shared}{vs:List Value}{ks:List Int}
end
def spMadeT (K:zA):Sp:=fun G H Q _=>∃(a:Addr) (z:List Int) (top:Int),G=[.ref a,.int top]/\SqT K H a (z.map V.int)/\OdIn z top/\1<=top/\top<=99/\z.length<=100/\∀l B,H l=none->Same H B->B l=some (.lst ((madeL z top).map V.int))->Q (.ref l) B
def farB (top most:Int):Prop:=99<top\/4<most\/(31<top/\3<most)
def spRefB (M:Addr):Sp:=fun z H Q E=>∃(top most:Int),z=[.int top,.int most]/\(¬ farB top most->Q .non H)/\(farB top most->E (.ref M) none H)
theorem kit_non_list {K:zA}:kitOne K (.type "NoneType") (.type "list")=some false:=by kernel_rfl
section
variable {K:zA}{σ:St}{H:Hp}{Q:VK}{cs:List Nat}{te:TE}
end
section
variable {X:Cx}{pos:Pos}
end
def g0:Go:=⟨0,0,0⟩
section
variable {K:zA}{σ:St}{H:Hp}{Q:VK}{cs:List Nat}{te:TE}{tt:TT}
end
section
variable {ins m:Nat}{s1 s2:List Wd}{t1 t2:List Go}
end
section
variable {K:zA}{σ:St}{H:Hp}{Q:VK}{cs:List Nat}{te:TE}
end
section
variable {ins:Nat}{ds:List Wd}{gs:List Go}{μ:List Int}{B:Int}
end
def st0 (n m:Nat):List Go:=qQ n g0++(zj m).map fun p=>⟨p,0,1⟩
section
variable {ins:Nat}{ds:List Wd}{gs:List Go}{μ:List Int}{B:Int}
def bs0 (n m:Nat):List Bool:=qQ n false++qQ m true
end
section
variable {α:Type}{K:zA}{f:α->List V}{H H':Hp}{vs us:List V}{xs:List α}{l:Addr}
end
section
variable {K:zA}{σ:St}{H:Hp}{Q:VK}{cs:List Nat}{te:TE}
end
section
variable {H:Hp}{p dl gl a:Addr}{ins k n j:Nat}{us os:List V}{ds:List Wd}{gs:List Go}{H' H'':Hp}{c:Int}
end
section
variable {K:zA}{σ:St}{H:Hp}{Q:VK}{cs:List Nat}{tt:TT}
end
section
variable {K:zA}{σ:St}{H:Hp}{Q:VK}{cs:List Nat}{te:TE}
end
def Cell (H:Hp)(v:V):Prop:=xF v=true\/∃p,v=.ref p/\((∃z,H p=some (.lst z))\/∃z,H p=some (.tup z))
def isWh:V->Bool
 |.int _=>true
 |_=>false
theorem kit_lst_int {K:zA}:zg K (.type "list") (.type "int")=some false:=by kernel_rfl
theorem cell_int {K:zA}{H:Hp}{v:V}{Q:VK}(h:Cell H v)(B:isWh v=false->(∀b,v≠.bl b)->Q (.bl false) H)(G:(∃b,v=.bl b)->Q (.bl true) H)(M:isWh v=true->Q (.bl true) H):rIsI K [v,.ty "int"] H Q:=by
 rcases h with h|⟨p,rfl,⟨J,h⟩|⟨J,h⟩⟩
 ·cases v with
  |non=>exact⟨_,_,_,_,rfl,.non,kit_non_int,B rfl (fun b z=>by cases z)⟩
  |bl b=>exact⟨_,_,_,_,rfl,.bl b,kit_bool_int,G ⟨b,rfl⟩⟩
  |int i=>exact⟨_,_,_,_,rfl,.int i,kit_same _,M rfl⟩
  |str x=>exact⟨_,_,_,_,rfl,.str x,kit_str_int,B rfl (fun b z=>by cases z)⟩
  |_=>cases h
 ·exact⟨_,_,_,_,rfl,.lst h,kit_lst_int,B rfl (fun b z=>by cases z)⟩
 ·exact⟨_,_,_,_,rfl,.tup h,kit_tuple_int,B rfl (fun b z=>by cases z)⟩
def spIsWh:Sp:=fun z H Q _=>∃v:V,z=[v]/\Cell H v/\Q (.bl (isWh v)) H
def btw (v:V)(lo z:Int):Bool:=match v with
 |.int n=>decide (lo<=n/\n<=z)
 |_=>false
def spBtw:Sp:=fun G H Q _=>∃(v:V) (z B:Int),G=[v,.int z,.int B]/\Cell H v/\Q (.bl (btw v z B)) H
theorem kit_non_tup {K:zA}:zg K (.type "NoneType") (.type "tuple")=some false:=by kernel_rfl
theorem kit_lst_tup {K:zA}:zg K (.type "list") (.type "tuple")=some false:=by kernel_rfl
section
variable {prog:Program}{w:World}{A:Around}{E:Value->Shared->Prop}{s:Shared}
theorem cat_tup0 {t b:Addr}{vs M:List Value}{Q:Value->Shared->Prop}(ht:IsTup s.heap t vs.toArray)(hb:IsTup s.heap b M.toArray)(hv:vs=[])(h1:Q (.ref b) s):wpAny (model prog w) A (binaryOp .Add (.ref t) (.ref b)) Q E s:=by
 obtain⟨⟨cls,dd,data,sl⟩,J,Y,n,U⟩:=id ht;obtain⟨⟨O,H,data2,G⟩,B,z,n2,hd2⟩:=id hb;simp only at Y U z hd2;subst Y U z hd2;exact concat_meets ⟨_,J,rfl⟩ ⟨_,B,rfl⟩ noFill_tuple_add seq_tuple_add PySem.F.slot_tuple_add PySem.F.entry_tuple_add (PySem.F.args_tuple_add_2 _ _)
   (tuple_addW0 t b vs.toArray M.toArray n n2 dd H sl G (by simp[hv])) ⟨J,B,h1⟩
end
def rCatC (K:zA):R2:=fun x y H Q=>∃a b z G,x=.ref a/\y=.ref b/\SqT K H a z/\SqT K H b G/\z.length+G.length<=sizeLine/\∀r B,Same H B->SqT K B r (z++G)->Q (.ref r) B
theorem op_catC {X:Cx}:OpR X (binaryOp .Add) (rCatC X.K):=by
 intro pins s σ H x y v u Q I J U h;obtain⟨a,b,M,ys,rfl,rfl,B,G,Y,q⟩:=h;by_cases z:M=[]
 ·cases J
  cases U
  obtain⟨its,r1,p1,_⟩:=I.tuple B;obtain⟨O,r2,p2,_⟩:=I.tuple G;refine cat_tup0 p1 p2 (r1.nil_iff.mpr z) ⟨.ref b,H,I,rfl,q b H (Same.refl _) ?_⟩;rw[z];exact G
 ·refine op_catT pins s σ H (.ref a) (.ref b) v u Q I J U ⟨a,b,M,ys,rfl,rfl,B,G,z,Y,fun e=>q a H (Same.refl _) ?_,fun _ p hp=>q p _ (zU hp _) (SqT.of upd_same)⟩;rw[e,zu];exact B
section
variable {K:zA}{H:Hp}
end
theorem kit_dct_lst {K:zA}:zg K (.type "dict") (.type "list")=some false:=by kernel_rfl
theorem kit_bl_lst {K:zA}:zg K (.type "bool") (.type "list")=some false:=by kernel_rfl
@[elab_as_elim] theorem zx {C:Hp->Prop} {H:Hp} {p:Addr} {o:HO} (B:H p=none) (k:∀z,Same H z->z p=some o->C z):C (upd H p o):=k _ (zU B _) upd_same
def NoT (H:Hp)(v:V):Prop:=xF v=true\/∃p,v=.ref p/\((∃B,H p=some (.lst B))\/∃z,H p=some (.dK z))
section
variable {K:zA}{H:Hp}
end
def cg (z:Int):Go:=⟨300,z,1⟩
section
variable {X:Cx}{o i:Expr}{pos:Pos}{td ty:TE}
end
section
variable {σ:St}{H:Hp}{Q:VK}{a:Addr}
end
section
variable {α:Type}
def lk (rows:List (Int×α))(c:Int):Option α:=(rows.find? fun r=>decide (r.1=c)).map (·.2)
variable {R:V->α->Prop}{kvs:List (Key×V)}{rows:List (Int×α)}
end
section
variable {σ:St}{H:Hp}{D:Ends}{g:TG}{tb:TS}{d:Addr}{o:Obj}{kvs:List (Key×V)}
end
theorem w_dget2 {G ty M:TE}{B:St}{H:Hp}{Q:VK}:tDGet2 G ty M B H Q=(G B H fun x O=>∃a,x=.ref a/\IsD O a/\ty B O fun y U=>M B U fun z J=>∃o,DGet J a y o/\Q (o.getD z) J):=rfl
section
variable {L:Nat}{n:Int}
end
section
variable {X:Cx}
theorem Vals.take' {xs:List V}{us:List Value}(r:Vals xs us)(k:Nat):Vals (xs.take k) (us.take k):=by
 induction r generalizing k with
 |nil=>rw[List.take_nil,List.take_nil];exact .nil
 |cons h _ ih =>
  cases k with
  |zero=>exact .nil
  |succ k=>exact .cons h (ih k)
theorem Vals.drop' {xs:List V}{us:List Value}(r:Vals xs us)(k:Nat):Vals (xs.drop k) (us.drop k):=by
 induction r generalizing k with
 |nil=>rw[List.drop_nil,List.drop_nil];exact .nil
 |cons h r ih =>
  cases k with
  |zero=>exact .cons h r
  |succ k=>exact ih k
def rInsert:V->List V->Hp->VK->Prop:=fun x B H Q=>∃l z i y,x=.ref l/\B=[.int (i:Nat),y]/\H l=some (.lst z)/\i<=z.length/\z.length<=1000/\Q .non (upd H l (.lst (z.take i++y::z.drop i)))
theorem mt_insert:MtM X "list.insert" rInsert:=by
 intro pins s σ H x vs v us Q I rx rv h;obtain⟨l,xs,i,y,rfl,rfl,hH,hi,hz,q⟩:=h;cases rx
 obtain⟨O,u,rfl,J,h2⟩:∃O u,us=[O,u]/\RelV (.int (i:Nat)) O/\RelV y u:=by
  cases rv with
  |cons J r1 =>
   cases r1 with
   |cons h2 r2 =>
    cases r2
    exact⟨_,_,rfl,J,h2⟩
 generalize hx:((i:Nat):Int)=x at J;obtain⟨t,rfl⟩:=J;obtain⟨z,B,n,r,hl,e⟩:=I.lstM hH;have U:xs.length<=sizeLine:=zZ hz;have G:Builtin.List.listFitsIndex x=true:=fitsIndex_both (by omega) (by omega);have h1':¬(!Builtin.List.listFitsIndex x)=true:=fun z=>by rw[G]at z;cases z
 have Y:B.toArray.size<=sizeLine:=by rw[qM,<-hl];exact U
 have M:=AutoSeq1.list_insert_list_int_val_1 l B.toArray n x t u h1' Y;refine call_meets F.slot_list_insert ⟨_,e,rfl⟩ F.entry_list_insert (F.args_list_insert_3 _ _ _) M ⟨e,?_⟩;have ek:(if x<0 then (x+(B.toArray.size:Int)).toNat else min x.toNat B.toArray.size)=i:=by
  rw[if_neg (by omega),qM];omega
 refine⟨.non,_,I.lset (its':=B.take i++u::B.drop i) hH e ?_ ((r.take' i).append (.cons h2 (r.drop' i))) ?_,rfl,q⟩
 ·show(B.toArray.extract 0 (if x<0 then (x+(B.toArray.size:Int)).toNat else min x.toNat B.toArray.size)).push u++B.toArray.extract (if x<0 then (x+(B.toArray.size:Int)).toNat else min x.toNat B.toArray.size)=_
  rw[ek];apply Array.toList_inj.mp;simp;exact yD (by simp)
 ·rw[qF,zI,qO,zd];have:xs.length+1<=sizeLine:=xI (by omega);omega
end
section
variable {prog:Program}{w:World}{A:Around}{E:Value->Shared->Prop}{s:Shared}{vs:List Value}{xss:List (List Int)}{a:Addr}
end
section
variable {prog:Program}{w:World}{A:Around}{E:Value->Shared->Prop}{κ:SortKind}{it:Array Keyed}{vs:List Value}{s:Shared}
variable {xss:List (List Int)}{a:Addr}
end
section
variable {prog:Program}{w:World}{A:Around}{E:Value->Shared->Prop}
end
inductive Tg where
 |f (x:V)
 |l (xs:List Tg)
 |t (xs:List Tg)
 |d (xs:List Tg)
section
variable {X:Cx}{pins:List (Addr×Obj)}{σ:St}{H:Hp}{s:Shared}
end
abbrev FSt:=Int×Int×Int
def mx1 (d st:Int):Int:=(d+40692*st*st+69621*st)%2147483647
def mx2 (m st:Int):Int:=(m*m+39373*m+st)%2147483579
def mx3 (m:Int):Int:=(m*m+16807*m)%2147483549
def tkS (m:Int)(s:FSt):Int×FSt:=if s.1>0 then (s.1%m,(s.1/m,s.2.1,s.2.2)) else (mx3 (mx2 (mx1 s.2.1 (s.2.2+1)) (s.2.2+1))/64%m,(s.1,s.2.1,s.2.2+1))
def tk:Nat->Int->FSt->Int×FSt
 |0,_,s=>(0,s)
 |n+1,m,s=>if m>10000000 then (((tk n (m/1000000+1) s).1*1000000+(tk n 1000000 (tk n (m/1000000+1) s).2).1)%m,(tk n 1000000 (tk n (m/1000000+1) s).2).2) else tkS m s
def pk (xs:List Int)(i:Int):Int:=xs.getD i.toNat 0
def pkV (xs:List V)(i:Int):V:=xs.getD i.toNat .non
def txs:List V:=[.str (Str.ofString ""),.str (Str.ofString "0"),.str (Str.ofString "7"),.str (Str.ofString "-1"),.str (Str.ofString "True"),.str (Str.ofString "None")]
def flt (way:Int)(s:FSt):Tg×FSt :=
 if way<3 then (.f (.int (tk 10 (pk [3,1000,10^60] way) s).1),(tk 10 (pk [3,1000,10^60] way) s).2)
 else if way<5 then (.f (.int (-(tk 10 (pk [9,10^60] (way-3)) s).1)),(tk 10 (pk [9,10^60] (way-3)) s).2)
 else if way=5 then (.f (pkV [.bl true,.bl false,.non] (tk 10 3 s).1),(tk 10 3 s).2)
 else (.f (pkV txs (tk 10 6 s).1),(tk 10 6 s).2)
def knd (way:Int)(z:List Tg):Tg:=if way=7 then .l z else if way=8 then .t z else .d z
section
variable {σ:St}{H:Hp}{Q:VK}{cs:List Nat}{te:TE}
end
section
variable {σ:St}{H:Hp}{Q:VK}{cs:List Nat}{te:TE}{K:zA}
end
def maskN (xs:List Int):Nat:=xs.foldr (fun n m=>2^n.toNat ||| m) 0
theorem JP {xs:List Int}(h:∀n∈xs,0<=n)(j:Nat):(maskN xs).testBit j=true↔(j:Int)∈xs:=by
 induction xs with
 |nil=>simp[maskN]
 |cons x xs ih =>
  have ih:=ih fun n z=>h n (zF _ z);have B:=h x zM;show(2^x.toNat ||| maskN xs).testBit j=true↔_
  rw[Nat.testBit_or,Bool.or_eq_true,ih,Nat.testBit_two_pow,decide_eq_true_eq,zD];constructor
  ·rintro(e|e)
   ·exact .inl (by omega)
   ·exact .inr e
  ·rintro(e|e)
   ·exact .inl (by omega)
   ·exact .inr e
theorem mask_nil:maskN []=0:=rfl
theorem zAD (x:Int)(xs:List Int):maskN (x::xs)=2^x.toNat ||| maskN xs:=rfl
theorem mask_app:∀(xs z:List Int),maskN (xs++z)=maskN xs ||| maskN z
 |[],z=>by rw[List.nil_append,mask_nil,Nat.zero_or]
 |x::xs,z=>by rw[List.cons_append,zAD,zAD,mask_app xs z,Nat.or_assoc]
theorem mask_one (x:Int):maskN [x]=2^x.toNat:=by rw[zAD,mask_nil,Nat.or_zero]
theorem or_nat (M N:Nat):Builtin.bitOr (M:Int) (N:Int)=((M ||| N:Nat):Int):=by
 unfold Builtin.bitOr;have B:∀k:Nat,Builtin.bitNot (k:Int) = -(k:Int)-1:=fun k=>by unfold Builtin.bitNot;omega
 have z:∀k:Nat,Builtin.bitNot (-(k:Int)-1)=(k:Int):=fun k=>by unfold Builtin.bitNot;omega
 rw[B,B];unfold Builtin.bitAnd;rw[decide_eq_false (by omega:¬ (0:Int) <= -(M:Int)-1),decide_eq_false (by omega:¬ (0:Int) <= -(N:Int)-1)];show Builtin.bitNot (Builtin.bitNot _)=_
 rw[z,z,B,z,zV,zV]
theorem made_in {S:List Int}{top x:Int}(h:x∈madeL S top):0<x/\x<=top:=(mem_made.mp h).1
section
variable {prog:Program}{w:World}{A:Around}{E:Value->Shared->Prop}{s:Shared}
def kiO (d:Addr)(i n ep:Nat):Obj:={ cls:=.type "dict_keyiterator",data:=.fields #[.ref d,.int i 0,.int n 0,.int ep 0] }
theorem rk_item {it d:Addr}{i ep:Nat}{o:Obj}{es:Array DictEntry}{e:DictEntry}{Q:Option Value->Shared->Prop}(hit:s.heap.get? it=some (kiO d i es.size ep))(hd:s.heap.get? d=some o)(z:o.data=.dict es ep)(hx:es[i]? = some e)
  (U:∀B,B.get? it=some (kiO d (i+1) es.size ep)->Heap.SameBut it s.heap B->Q (some e.key) { s with heap:=B }):wpAny (model prog w) A (pyNext (.ref it)) Q E s:=by
 have hT:∀h g2 d2 tk G,h.get? it=some (kiO d i es.size ep)->Shared.TypeIs ⟨h,g2,d2,tk,G⟩ (.ref it) "dict_keyiterator":=fun _ _ _ _ _ e=>⟨_,e,rfl⟩;unfold kiO at hit;obtain⟨oc,od,H,Y⟩:=o;cases z
 obtain⟨hp,g,dd,tk,G⟩:=s;unfold pyNext;refine wpAny_bind (wpAny_attempt (wpAny_callSpecial?_slot (name:=Str.ofString "__next__") ⟨_,hit,rfl⟩ F.slot_dict_keyiterator_next
  (wpAny_call_entry F.slot_dict_keyiterator_next ⟨_,hit,rfl⟩ F.entry_dict_keyiterator_next ?_ (F.args_dict_keyiterator_next_1 _))))
 unfold Builtin.«dict_keyiterator.__next__»
 wp_walk
 have O:((es.size:Int) != (es.size:Int))=false:=by simp
 have J:((ep:Int) != (ep:Int))=false:=by simp
 have M:¬ ((i:Int)<0):=by omega
 simp only[O,J,M,zv,if_false,zV,hx]
 wp_walk
 refine⟨_,rfl,wpAny_pure (U _ ((Heap.get?_update_self _ hit rfl).trans (congrArg some ?_)) (Heap.SameBut.update ..))⟩
 kernel_rfl
theorem rk_end {it d:Addr}{i ep:Nat}{o:Obj}{es:Array DictEntry}{Q:Option Value->Shared->Prop}(U:A.handled=none)(hit:s.heap.get? it=some (kiO d i es.size ep))(hd:s.heap.get? d=some o)(z:o.data=.dict es ep)(hx:es[i]? = none)
  (O:∀B,Heap.ExtBut it s.heap B->Q none { s with heap:=B }):wpAny (model prog w) A (pyNext (.ref it)) Q E s:=by
 unfold kiO at hit;obtain⟨oc,od,G,Y⟩:=o;cases z
 obtain⟨hp,g,dd,tk,os⟩:=s;unfold pyNext;refine wpAny_bind (wpAny_attempt (wpAny_callSpecial?_slot (name:=Str.ofString "__next__") ⟨_,hit,rfl⟩ F.slot_dict_keyiterator_next
  (wpAny_call_entry F.slot_dict_keyiterator_next ⟨_,hit,rfl⟩ F.entry_dict_keyiterator_next ?_ (F.args_dict_keyiterator_next_1 _))))
 unfold Builtin.«dict_keyiterator.__next__»
 wp_walk
 have M:((es.size:Int) != (es.size:Int))=false:=by simp
 have H:((ep:Int) != (ep:Int))=false:=by simp
 have J:¬ ((i:Int)<0):=by omega
 simp only[M,H,J,zv,if_false,zV,hx]
 wp_walk
 unfold raiseNew;refine wpAny_bind (wpAny_handled ?_);rw[show A.in1.handled=none from U];refine wpAny_bind (wpAny_pure (wpAny_throw ?_));refine wpAny_bind (wpAny_isInstance (T:="StopIteration") (b:=true) ⟨_,Heap.get?_push_size _ rfl,rfl⟩ isSubtype_stop ?_);rw[if_pos rfl];exact wpAny_pure (O _ fun b u hb e=>Heap.get?_push_of_some _ (Heap.get?_push_of_some _ ((Heap.get?_update_other _ _ (Ne.symm hb)).trans e)))
theorem rk_iter {d:Addr} {ep:Nat} {o:Obj} {es:Array DictEntry} {Q:Value->Shared->Prop} (lo:(d==sysModules)=false) (O:s.heap.get? d=some o) (H:o.cls=.type "dict") (z:o.data=.dict es ep)
  (J:Q (.ref s.heap.objs.size) { s with heap:=s.heap.push (kiO d 0 es.size ep) }):wpAny (model prog w) A (pyIter (.ref d)) Q E s:=by
 have G:s.TypeIs (.ref d) "dict":=⟨o,O,H⟩;refine wpAny_pyIter_slot G F.slot_dict_iter (wpAny_call_entry F.slot_dict_iter G F.entry_dict_iter ?_ (F.args_dict_iter_1 _));obtain⟨oc,od,B,M⟩:=o;cases z
 cases H
 obtain⟨hp,g,Y,tk,U⟩:=s;unfold Builtin.«dict.__iter__»
 wp_walk
 exact⟨_,rfl,"dict_keyiterator",_,⟨_,Heap.get?_push_size _ rfl,rfl⟩,F.slot_dict_keyiterator_next.lookup,J⟩
end
def RawD (d:Addr)(es:Array DictEntry)(ep:Nat)(h:Heap):Prop:=∃o,h.get? d=some o/\o.cls=.type "dict" /\ o.data=.dict es ep
section
variable {prog:Program}{w:World}{d:Addr}{es:Array DictEntry}{ep:Nat}
theorem raw_walks {A:Around}(hh:A.handled=none){I:Addr}(hne:d≠I):Walks prog w A I [I,d] [I] es.size (fun i v=>∃e,es[i]? = some e/\v=e.key) (fun i h=>h.get? I=some (kiO d i es.size ep)/\RawD d es ep h) where
 sub:=fun b H=>by simp at H;simp[H]
 frame:=fun _ _ _ B hk=>⟨hk I (by simp) _ B.1,by obtain⟨o,G,Y⟩:=B.2;exact⟨o,hk d (by simp) _ G,Y⟩⟩
 item:=fun i s Q E hi B M=>by
  obtain⟨o,G,Y,U⟩:=B.2
  refine rk_item B.1 G U (zi hi) fun h' J O=>?_
  exact M _ h' s.toks ⟨_,zi hi,rfl⟩ ⟨J,o,(O.2 d hne).trans G,Y,U⟩ fun b o H e=>(O.2 b (fun z=>H (by simp[z]))).trans e
 done:=fun s Q E B M=>by
  obtain⟨o,G,Y,U⟩:=B.2
  exact rk_end hh B.1 G U (Array.getElem?_eq_none (zB _)) fun h' he'=>M h' s.toks fun b o H e=>he' b o (fun z=>H (by simp[z])) e
 self:=fun i s Q E B M=>wpAny_pyIter_keyiter (d:=d) (i:=i) (n:=es.size) (ep:=ep) ⟨_,B.1,rfl,rfl⟩ M
theorem raw_src (lo:(d==sysModules)=false):KdlSrc prog w "dict" d d es.size (fun i v=>∃e,es[i]? = some e/\v=e.key) (RawD d es ep) where
 type:=fun _ ⟨o,z,B,_⟩=>⟨o,z,B⟩
 there:=fun _ ⟨o,z,_⟩=>⟨Heap.lt_size z,Heap.lt_size z⟩
 keep:=fun _ _ ⟨o,z,B⟩ J=>⟨o,J d (.inl rfl) _ z,B⟩
 notList:=by decide
 notTuple:=by decide
 hint:=fun _ _ _ _ ⟨o,z,B,_⟩ G=>kdl_hint_dict ⟨o,z,B⟩ G
 iter:=fun A s M ⟨o,z,B,H⟩=>⟨_,_,(fun _ _ G=>rk_iter lo z B H G),raw_walks M (zG (Heap.lt_size z)),⟨Heap.get?_push_size _ rfl,o,Heap.get?_push_of_some _ z,B,H⟩⟩
end
section
variable {prog:Program}{w:World}{A:Around}{E:Value->Shared->Prop}{s:Shared}
theorem collect_tup {t:Addr}{vs:List Value}{Q:List Value->Shared->Prop}(M:IsTup s.heap t vs.toArray)(hz:vs.length<=1000)
  (h:Q vs { s with heap:=(s.heap.push (seqObj "list" #[] 0)).update s.heap.objs.size (Obj.mapSeq (· ++ vs.toArray)) }):wpAny (model prog w) A (collect (.ref t)) Q E s:=by
 obtain⟨o,G,J,n,H⟩:=M;have tl:t≠s.heap.objs.size:=zG (Heap.lt_size G);have z:(s.heap.push (seqObj "list" #[] 0)).get? t=some o:=Heap.get?_push_of_some _ G;have B:(s.heap.push (seqObj "list" #[] 0)).get? s.heap.objs.size=some (seqObj "list" #[] 0):=Heap.get?_push_size _ rfl;unfold collect;refine wpAny_bind (wpAny_runValue (codeAny_builtin entry_proto_collect' ?_));rw[Around.under_plainId PySem.F.plain_proto_collect _];show wpAny _ _ (newList [] >>= fun l=>again (.builtin "list.__iadd__" ⟨[l,.ref t],[]⟩)) _ _ s
 refine wpAny_bind (wpAny_newList (wpAny_pure ⟨plainId_quiet jw _,codeAny_builtin entry_list_iadd' ?_⟩));rw[Around.under_plainId jw _];show wpAny _ _ (Builtin.List.listExtendWith (.ref s.heap.objs.size) (.ref t) (.ref s.heap.objs.size)) _ _ { s with heap:=s.heap.push (seqObj "list" #[] 0) }
 unfold Builtin.List.listExtendWith;refine wpAny_bind (wpAny_typeOf (T:="tuple") ⟨o,z,J⟩ ?_);have O:Builtin.List.listSameRef (.ref s.heap.objs.size) (.ref t)=false:=by simp[Builtin.List.listSameRef,Ne.symm tl]
 rw[if_pos (by rw[show(Value.type "tuple" == Value.type "tuple")=true from rfl,Bool.or_true])];refine wpAny_bind (listItems_at z H ?_);refine wpAny_bind (listItems_at B rfl ?_);rw[if_neg (by simp)];refine wpAny_bind (listUpdate_at B rfl ?_ (zS _) (by show(#[]++vs.toArray).size<=sizeLine+1;rw[Array.size_append,qM];have:=zZ hz;show 0+vs.length<=_;omega));refine wpAny_pure ?_;show wpAny (model prog w) A (load s.heap.objs.size >>= _) Q E _
 refine wpAny_bind (wpAny_load (get?_update_seq B _) ?_);refine wpAny_pure ?_;rw[show((#[]:Array Value)++vs.toArray).toList=vs by simp];exact h
end
def rSortT (K:zA):List V->Hp->VK->Prop:=fun B H Q=>∃(a:Addr) (z:List Int),B=[.ref a]/\SqT K H a (z.map V.int)/\z.length<64/\∀l,H l=none->Q (.ref l) (upd H l (.lst ((sortI z).map V.int)))
theorem call_sortT {X:Cx}(K:zA)(Y:X.K=K:=by rfl):CallR X (.builtin "sorted") (rSortT K):=by
 subst Y;intro pins s σ H xs us Q I r h;obtain⟨a,ks,rfl,ha,J,q⟩:=h;obtain⟨u,rfl,ru⟩:=ji r;cases ru
 obtain⟨z,M,U,_⟩:=I.tuple ha;have il:z.length=ks.length:=by rw[<-M.length,qC]
 refine Calls.call_function_entry kind_sorted plain_sorted entry_sorted (args_sorted1 _) ?_;unfold Builtin.«sorted»;refine wpAny_bind (m:=checkCount "sorted" 1 1 _) (wpAny_pure ?_);refine wpAny_bind (collect_tup U (by omega) ?_);refine wpAny_bind (wpAny_newList ?_ (zZ (by omega)));have G:((s.heap.push (seqObj "list" #[] 0)).update s.heap.objs.size (Obj.mapSeq fun x=>x++z.toArray)).objs.size=s.heap.objs.size+1:=by rw[Heap.size_update,size_push']
 have B:(((s.heap.push (seqObj "list" #[] 0)).update s.heap.objs.size (Obj.mapSeq fun x=>x++z.toArray)).push (seqObj "list" z.toArray 0)).get? (s.heap.objs.size+1)=some (seqObj "list" z.toArray 0):=G ▸ Heap.get?_push_size _ rfl;rw[G];refine wpAny_bind (wpAny_holding (wpAny_call_entry slot_list_sort ⟨_,B,rfl⟩ entry_list_sort (list_sort_tree B (jp M) (by omega) fun out ns' O a2 a3=>⟨_,rfl,?_⟩) (args_list_sort _)));obtain⟨e,he⟩:=sortedAll_at s.heap z out;refine wpAny_pure ⟨_,rfl,?_⟩;exact zAR (h':=sortedAll s.heap z out) (s:=s) (d:=s.drawn) (tk:=s.toks) I (fun b o q=>sortedAll_old q) (Nat.le_succ _) (vs:=out.toList) (by simpa using he) O a2 a3 J q
theorem op_catCK {X:Cx}(K:zA)(h:X.K=K:=by rfl):OpR X (binaryOp .Add) (rCatC K):=by subst h;exact op_catC
section
variable {σ:St}{H:Hp}{Q:VK}{cs:List Nat}{te:TE}{K:zA}
end
def notV (z:List Int):V->Option V:=fun v=>match v with
 |.int o=>if o∈z then none else some (.int o)
 |_=>none
theorem JQ (B:List Int):∀G:List Int,(G.map V.int).filterMap (notV B)=(G.filter fun o=>decide (o∉B)).map V.int
 |[]=>rfl
 |x::G=>by
  rw[zQ,zY,List.filter_cons,JQ B G]
  by_cases z:x∈B
  ·rw[show notV B (V.int x)=none from if_pos z,if_neg (by simpa using z)]
  ·rw[show notV B (V.int x)=some (V.int x) from if_neg z,if_pos (by simpa using z),zQ]
section
variable {X:Cx}{e:Expr}{es:List Expr}{te:TE}{tj:Str->TE}{pos:Pos}
def figI (i:Int):Str:=Str.ofString (toString i)
end
section
variable {X:Cx}
end
section
variable {K:zA}{σ:St}{H:Hp}{Q:VK}{cs:List Nat}{te:TE}
end
def fig (n:Nat):Str:=figI n
section
variable {K:zA}{H:Hp}{Q:VK}
end
theorem szL {n:Nat}(h:n<=10000000):n<=sizeLine:=zL h (by decide)
@[elab_as_elim] theorem absU {C:Hp->Prop} {H B:Hp} {p:Addr} {o:HO} (G:H p=none) (s:Same H B) (k:∀z,Same H z->z p=some o->C z):C (upd B p o):=k _ (yE G s) upd_same
def stS (n:Nat)(l:List Str):Str:=Builtin.Str.glued "\n" (("in " ++ fig n)::l)
theorem w_neS {x y:Str}{H:Hp}{Q:VK}:rNe (.str x) (.str y) H Q=Q (.bl (!decide (x=y))) H :=
 propext (by
  have e:decide (V.str x=V.str y)=decide (x=y):=by by_cases h:x=y<;>simp[h]
  unfold rNe
  rw[e]
  exact⟨fun h=>h.2,fun h=>⟨rfl,h⟩⟩)
theorem ne_ss {x:Str}{H:Hp}{Q:VK}(h:Q (.bl false) H):rNe (.str x) (.str x) H Q:=by
 rw[w_neS,decide_eq_true rfl];exact h
def tkey (S:List Int):List Key:=S.map Sum.inl
theorem tkey_kV (S:List Int):(tkey S).map kV=S.map V.int:=by
 unfold tkey;rw[yp];rfl
theorem tkey_inj {S z:List Int}(h:tkey S=tkey z):S=z:=(jg (fun a b e=>by cases e;rfl)).mp h
def rDPT:V->V->V->Hp->(Hp->Prop)->Prop:=fun x y v H R=>∃a b S z,x=.ref a/\y=.ref b/\H a=some (.dT z)/\H b=some (.tup (S.map V.int))/\z.length<sizeLine/\R (upd H a (.dT (xg z (tkey S) v)))
def sDPT (B ty J:TE):TS:=fun D z H=>J z H fun v O=>B z O fun x M=>ty z M fun y G=>rDPT x y v G fun U=>D.nx z U
def rDIT (neg:Bool):R2:=fun y x H Q=>∃a b S z,x=.ref a/\y=.ref b/\H a=some (.dT z)/\H b=some (.tup (S.map V.int))/\Q (.bl (if neg then !(xL z (tkey S)).isSome else (xL z (tkey S)).isSome)) H
def rDGT:R2:=fun x y H Q=>∃a b S z,x=.ref a/\y=.ref b/\H a=some (.dT z)/\H b=some (.tup (S.map V.int))/\∃v,xL z (tkey S)=some v/\Q v H
section
variable {X:Cx}{o i e value:Expr}{pos pos' tpos:Pos}{td ty tv:TE}
theorem ps_dpT (Y:X.A.units+1<cLine)(ho:PE X o td)(hi:PE X i ty)(hv:PE X value tv)(B:swapsWith value (some (.Subscript o i pos')) pos.line X.env=pure false):PS X (.Assign [.Subscript o i pos'] value pos) (sDPT td ty tv):=by
 intro pins s z H D I h;refine wpAny_Assign_Subscript (thn (hv pins s z H _ I h) fun r s1 ⟨v,H1,I1,rv,G⟩=>thn (ho pins s1 z H1 _ I1 G) fun u M ⟨x,H2,J,rx,q2⟩=>thn (hi pins M z H2 _ J q2) fun iv s3 ⟨y,H3,I3,ry,q3⟩=>?_) B;obtain⟨a,b,S,kvs,rfl,rfl,U,hb,O,q⟩:=q3;obtain rfl:u=Value.ref a:=rx;exact d_setItem Y I3 (DPut.t (v:=v) U (by rw[tkey_kV];exact hb) O) ry rv fun s4 I4=>⟨z,_,I4,q⟩
end
section
variable {σ:St}{H:Hp}{Q:VK}{D:Ends}{a b:Addr}{v:V}{R:Hp->Prop}
theorem w_sDPT {z ty B:TE}:sDPT z ty B D σ H=(B σ H fun v M=>z σ M fun x J=>ty σ J fun y G=>rDPT x y v G fun O=>D.nx σ O):=rfl
theorem w_dpT:rDPT (.ref a) (.ref b) v H R=∃S z,H a=some (.dT z)/\H b=some (.tup (S.map V.int))/\z.length<sizeLine/\R (upd H a (.dT (xg z (tkey S) v))) :=
 propext ⟨fun⟨M,J,S,z,G,B,q⟩=>by cases G;cases B;exact⟨S,z,q⟩,fun⟨S,z,q⟩=>⟨a,b,S,z,rfl,rfl,q⟩⟩
theorem w_dIT {neg:Bool}:rDIT neg (.ref b) (.ref a) H Q=∃S z,H a=some (.dT z)/\H b=some (.tup (S.map V.int))/\Q (.bl (if neg then !(xL z (tkey S)).isSome else (xL z (tkey S)).isSome)) H :=
 propext ⟨fun⟨M,J,S,z,G,B,q⟩=>by cases G;cases B;exact⟨S,z,q⟩,fun⟨S,z,q⟩=>⟨a,b,S,z,rfl,rfl,q⟩⟩
theorem w_dgT:rDGT (.ref a) (.ref b) H Q=∃S z,H a=some (.dT z)/\H b=some (.tup (S.map V.int))/\∃v,xL z (tkey S)=some v/\Q v H :=
 propext ⟨fun⟨M,J,S,z,G,B,q⟩=>by cases G;cases B;exact⟨S,z,q⟩,fun⟨S,z,q⟩=>⟨a,b,S,z,rfl,rfl,q⟩⟩
theorem w_dnT:tDNewT σ H Q=∀p,H p=none->Q (.ref p) (upd H p (.dT [])):=rfl
end
def KsT (z:List (List Key×V))(B:List (List Int)):Prop:=z.map (·.1)=B.map tkey
theorem valV_isSome {G:Type}[DecidableEq G](z:List (G×V))(k:G):(xL z k).isSome=true↔k∈z.map (·.1):=by
 rw[<-xT,xQ];constructor
 ·rintro⟨x,B,e⟩;exact qP.mpr ⟨x,B,of_decide_eq_true e⟩
 ·intro h;obtain⟨x,B,e⟩:=qP.mp h;exact⟨x,B,decide_eq_true e⟩
theorem KsT.mem {B:List (List Key×V)}{G:List (List Int)}(h:KsT B G)(S:List Int):(xL B (tkey S)).isSome=true↔S∈G:=by
 rw[valV_isSome,h];constructor
 ·intro z;obtain⟨J,H,e⟩:=qP.mp z;rw[<-tkey_inj e];exact H
 ·exact fun z=>qP.mpr ⟨S,z,rfl⟩
theorem KsT.put {G:List (List Key×V)}{B:List (List Int)}(h:KsT G B)(S:List Int)(v:V):KsT (xg G (tkey S) v) (if S∈B then B else B++[S]):=by
 unfold KsT xg;by_cases z:S∈B
 ·rw[if_pos z,xT,if_pos ((h.mem S).mpr z)];rw[yp,<-h];refine jV fun x _=>?_;show(if x.1=tkey S then (x.1,v) else x).1=x.1
  split<;>rfl
 ·rw[if_neg z,xT,if_neg (fun y=>z ((h.mem S).mp y)),z9,z9,h];rfl
theorem KsT.len {z:List (List Key×V)}{B:List (List Int)}(h:KsT z B):z.length=B.length:=by
 have:=congrArg List.length h;rw[qC,qC]at this;exact this
def rEqE (K:zA):R2:=fun x y H Q=>∃p q z,x=.ref p/\y=.ref q/\SqL K H p z/\SqL K H q []/\Q (.bl (decide (z.length=0))) H
theorem op_eqE {X:Cx}{k:Nat}(U:Room k X.A):OpR X (compareOp .Eq) (rEqE X.K):=by
 intro pins s σ H x y v u Q I rx ry h;obtain⟨p,q,J,rfl,rfl,hp,Y,O⟩:=h;cases rx
 cases ry
 have hu:X.A.units<cLine:=by have:=U.units;omega
 cases J with
 |nil =>
  have h1:=JM (xs:=[]) hp rfl;have h2:=JM (xs:=[]) Y rfl;have:=(rcAt_D 50 _ _ (A:=X.A) (by rw[dep_l];decide) (by have:=U.units;omega) I h1 h2 rfl rfl).2 p rfl;exact this X.prog X.w X.xe _ ⟨.bl _,H,I,rfl,O⟩
 |cons x r =>
  obtain⟨G,rv,pl,_⟩:=I.list hp;obtain⟨z,M,B,_⟩:=I.list Y;have e1:G.toArray.size=r.length+1:=by rw[qM,<-rv.length];rfl
  have e2:z.toArray.size=0:=by rw[qM,<-M.length];rfl
  have:=SeqAt.RcAt.lists_lengths (A:=X.A) pl.isList B.isList (by rw[bne_iff_ne];omega) hu;exact this X.prog X.w X.xe _ ⟨.bl _,H,I,rfl,O⟩
theorem w_eqE {K:zA}{p q:Addr}{H:Hp}{Q:VK}:rEqE K (.ref p) (.ref q) H Q=∃z,SqL K H p z/\SqL K H q []/\Q (.bl (decide (z.length=0))) H :=
 propext ⟨fun⟨J,M,z,G,B,h⟩=>by cases G;cases B;exact⟨z,h⟩,fun⟨z,h⟩=>⟨p,q,z,rfl,rfl,h⟩⟩
theorem atI_gl {xs:List V}{v:V}(h:xs.getLast? = some v):atI xs (-1)=some v:=by
 obtain⟨z,rfl⟩:=List.getLast?_eq_some_iff.mp h;exact atI_last _ _
theorem made_nn {S:List Int}{top:Int}:∀n∈madeL S top,0<=n:=fun n z=>by
 have:=made_in z
 omega
theorem mask_snoc (xs:List Int)(x:Int):maskN (xs++[x])=maskN xs ||| 2^x.toNat:=by rw[mask_app,mask_one]
def jr (S as:List Int):List Int:=as.filter fun o=>decide (o∉S)
def Fin_ (top:Int)(S as:List Int):Prop:=jr S as=[]\/∃o,jr S as=[o]/\o∈madeL S top
section
variable {K:zA}{σ:St}{H:Hp}{Q:VK}{cs:List Nat}{te:TE}
end
def rNeE (K:zA):R2:=fun x y H Q=>∃p q z,x=.ref p/\y=.ref q/\SqL K H p z/\SqL K H q []/\Q (.bl (decide (z.length≠0))) H
theorem op_neE {X:Cx}{k:Nat}(U:Room k X.A):OpR X (compareOp .NotEq) (rNeE X.K):=by
 intro pins s σ H x y v u Q I rx ry h;obtain⟨p,q,J,rfl,rfl,hp,Y,O⟩:=h;cases rx
 cases ry
 have hu:X.A.units<cLine:=by have:=U.units;omega
 cases J with
 |nil =>
  have h1:=JM (xs:=[]) hp rfl;have h2:=JM (xs:=[]) Y rfl;have:=neAt_D 50 _ _ (A:=X.A) (by rw[dep_l];decide) (by have:=U.units;omega) I h1 h2 rfl;exact this X.prog X.w X.xe _ ⟨.bl _,H,I,rfl,O⟩
 |cons x r =>
  obtain⟨G,rv,pl,_⟩:=I.list hp;obtain⟨z,M,B,_⟩:=I.list Y;have e1:G.toArray.size=r.length+1:=by rw[qM,<-rv.length];rfl
  have e2:z.toArray.size=0:=by rw[qM,<-M.length];rfl
  have:=SeqAt.RcNeAt.lists_lengths (A:=X.A) pl.isList B.isList (by rw[bne_iff_ne];omega) hu;exact this X.prog X.w X.xe _ ⟨.bl _,H,I,rfl,O⟩
theorem w_neE {K:zA}{p q:Addr}{H:Hp}{Q:VK}:rNeE K (.ref p) (.ref q) H Q=∃z,SqL K H p z/\SqL K H q []/\Q (.bl (decide (z.length≠0))) H :=
 propext ⟨fun⟨J,M,z,G,B,h⟩=>by cases G;cases B;exact⟨z,h⟩,fun⟨z,h⟩=>⟨p,q,z,rfl,rfl,h⟩⟩
def spFin:Sp:=fun J H Q _=>∃(c l:Addr) (z B:List Int) (top:Int),J=[.ref c,.ref l,.int top]/\H c=some (.tup (z.map V.int))/\H l=some (.lst (B.map V.int))/\B.length<=60/\OdIn z top/\1<=top/\top<=99/\z.length<=100/\∀(b:Bool) G,Same H G->(b=true↔Fin_ top z B)->Q (.bl b) G
def jt (xs:List Int):List Int:=sortI (ded (wantC xs))
theorem mem_ask {xs:List Int}{c:Int}:c∈jt xs↔1<c/\∃x∈xs,coreN x=c:=by
 unfold jt;rw[(yA _).mem_iff,xW];unfold wantC;rw[zk,decide_eq_true_eq,qP,And.comm]
theorem ask_nd (xs:List Int):(jt xs).Nodup:=(yA _).nodup_iff.mpr (j7 _)
theorem fin_one {top:Int}{S as:List Int}{o:Int}(e:jr S as=[o]):Fin_ top S as↔o∈madeL S top :=
 ⟨fun h=>h.elim (fun z=>by rw[e]at z;cases z) fun⟨G,B,h⟩=>by rw[e]at B;cases B;exact h,fun h=>.inr ⟨o,e,h⟩⟩
theorem fin_more {top:Int}{S as:List Int}(h:2<=(jr S as).length):¬ Fin_ top S as:=fun z=>z.elim (fun e=>by rw[e]at h;exact absurd h (by decide)) fun⟨o,e,_⟩=>by rw[e]at h;exact absurd h (by show ¬ 2<=1;decide)
section
variable {K:zA}{σ:St}{H:Hp}{Q:VK}{cs:List Nat}{tt:TT}
end
theorem slicePick_rev (z:List Value):slicePick z.toArray none none (some (-1))=z.reverse.toArray:=by
 unfold slicePick
 congr 1
 have O:sliceBounds none none (some (-1)) z.toArray.size=((z.length:Int)-1,-1,-1):=by
  simp[sliceBounds]
 rw[O];show(sliceRange ((z.length:Int)-1) (-1) (-1)).filterMap _=_
 have J:sliceRange ((z.length:Int)-1) (-1) (-1)=(zj z.length).map fun k=>z.length-1-k:=by
  unfold sliceRange;have e:(if (-1:Int)>0 then (if (z.length:Int)-1 < -1 then (-1-((z.length:Int)-1) + -1-1) / -1 else 0) else (if (z.length:Int)-1 > -1 then ((z.length:Int)-1 - -1 - -1-1)/(- -1) else 0)).toNat=z.length:=by
   rw[if_neg (by decide)];split
   ·rw[show(- -1:Int)=1 from rfl,Int.ediv_one];omega
   ·omega
  simp only[e];apply jV;intro k H;have:=x6.mp H;omega
 rw[J];apply yv;intro i;have G:∀n,n<=z.length->((zj n).map fun k=>z.length-1-k).filterMap (fun x=>z.toArray[x]?)=z.reverse.take n:=by
  intro n;induction n with
  |zero=>intro _;simp
  |succ n ih =>
   intro U;rw[List.range_succ,z9,xA,ih (by omega),List.take_succ]
   congr 1
   have M:z.reverse[n]? = z[z.length-1-n]?:=List.getElem?_reverse (by omega);rw[M,List.map_singleton,zY,List.filterMap_nil];have B:z.toArray[z.length-1-n]? = z[z.length-1-n]?:=by simp
   rw[B,qA (by omega)];rfl
 rw[G _ (zB _),<-zw (as:=z),zn]
def tRevL (O:TE)(U:TO):TE:=fun G H Q=>O G H fun x M=>U G M fun J z=>J=some (-1)/\∃a B,x=.ref a/\z a=some (.lst B)/\∀p,z p=none->Q (.ref p) (upd z p (.lst B.reverse))
theorem w_revL {J:TE}{M:TO}{z:St}{H:Hp}{Q:VK}:tRevL J M z H Q=(J z H fun x U=>M z U fun O B=>O=some (-1)/\∃a G,x=.ref a/\B a=some (.lst G)/\∀p,B p=none->Q (.ref p) (upd B p (.lst G.reverse))):=rfl
theorem vals_rev {xs:List V}{us:List Value}(r:Vals xs us):Vals xs.reverse us.reverse:=by
 induction r with
 |nil=>exact .nil
 |cons a _ ih =>
  rw[List.reverse_cons,List.reverse_cons];exact ih.append (.cons a .nil)
theorem pe_revL {X:Cx}{e:Expr}{st:Expr}{p2 pos:Pos}{O:TE}{U:TO}(he:PE X e O)(B:PO X (some st) U):PE X (.Subscript e (.Slice none none (some st) p2) pos) (tRevL O U):=by
 intro pins s J H Q I h;refine Subscript_ (thn (he pins s J H _ I h) fun v s1 ⟨x,H1,I1,r1,Y⟩=>?_);refine wpAny_Slice ?_;rw[evalPart_none];refine wpAny_pure (wpAny_pure ?_);refine thn (B pins s1 J H1 _ I1 Y) fun vs z ⟨st',H3,I3,ps,e1,a,xs,ex,hx,q3⟩=>?_;subst e1;subst ex;obtain rfl:v=Value.ref a:=r1;have G:Inv X pins J H3 { z with heap:=z.heap.push { cls:=.type "slice",data:=.fields #[.none,.none,vs] } }:=I3.kept (t':=z.toks) fun b ob q=>Heap.get?_push_of_some _ q;obtain⟨its,r,M,hz⟩:=G.list (SqL.of (K:=X.K) hx);have hlen:=r.length;refine tail_any (ops:=[.ref a,.ref z.heap.objs.size]) M.isList.typeIs slot_list_getitem.lookup ?_ (by with_unfolding_all rfl);refine wpAny_getItem_list_slice M.isList (Heap.IsSliceOf.new ..) .none .none ps (by simp) ?_ (by rw[qM]<;>omega);rw[slicePick_rev];refine⟨.ref _,_,G.laid (t':=z.toks) (o:=.lst xs.reverse) (fun b ob q=>Heap.get?_push_of_some _ q) (zB _) ?_,rfl,q3 _ (G.hok.fresh (zB _))⟩;exact⟨by rw[zw];exact hz,_,0,vals_rev r,Heap.get?_push_size _ rfl⟩
theorem w_dget1 {B ty:TE}{z:St}{H:Hp}{Q:VK}:tDGet1 B ty z H Q=(B z H fun x J=>∃a,x=.ref a/\IsD J a/\ty z J fun y G=>∃o,DGet G a y o/\Q (o.getD .non) G):=rfl
section
variable {K:zA}{σ:St}{H:Hp}{Q:VK}{cs:List Nat}{te:TE}
end
section
variable {K:zA}{σ:St}{H:Hp}{Q:VK}{cs:List Nat}{te:TE}{tt:TT}
end
section
variable {X:Cx}{pins:List (Addr×Obj)}{σ:St}{H:Hp}{s:Shared}
end
section
variable {n:Nat}{ds:List Wd}{gs:List Go}{bs:List Bool}
end
section
variable {n i:Nat}{R:List (List Int)}{kvs:List (List Key×V)}{es:List Wd}
end
section
variable {K:zA}{σ:St}{H:Hp}{Q:VK}{cs:List Nat}{te:TE}
end
section
variable {n i:Nat}{R:List (List Int)}{kvs:List (List Key×V)}{es:List Wd}
end
section
variable {n i:Nat}{ds:List Wd}{gs:List Go}{ms:List Nat}
end
theorem ixN_m1 {n:Nat}:ixN (n+1) (-1)=some n:=by
 unfold ixN;rw[if_neg (by decide)]
 first|(rw[if_pos (by omega)];congr 1;omega)|(simp;omega)
section
variable {K:zA}{σ:St}{H:Hp}{Q:VK}{cs:List Nat}{te:TE}
end
section
variable {ins m:Nat}{s1 s2:List Wd}{t1 t2:List Go}
end
section
variable {ins:Nat}{ds:List Wd}{gs:List Go}{μ:List Int}{B:Int}
end
def advM (m:Nat)(p:SetTable.Probe):SetTable.Probe :=
 if p.more>0 then { p with j:=p.j+1,more:=p.more-1 } else
 { p with j:=(p.i*5+1+p.perturb/32)%(m+1),more:=SetTable.runEnd m ((p.i*5+1+p.perturb/32)%(m+1))-(p.i*5+1+p.perturb/32)%(m+1),i:=(p.i*5+1+p.perturb/32)%(m+1),perturb:=p.perturb/32 }
def pn (m:Nat):Nat->SetTable.Probe->SetTable.Probe
 |0,p=>p
 |n+1,p=>pn m n (advM m p)
def fM (m x:Nat):Nat:=(x*5+1)%(m+1)
def stP (m:Nat)(x:Int):SetTable.Probe:={ j:=SetTable.bits x%(m+1),more:=SetTable.runEnd m (SetTable.bits x%(m+1))-SetTable.bits x%(m+1),i:=SetTable.bits x%(m+1),perturb:=SetTable.bits x,dummy:=none }
def sl (m:Nat)(x:Int)(n:Nat):Nat:=(pn m n (stP m x)).j
section
variable {led:Bool}{t:SetTable}{es:Array (Int×Value)}
end
section
variable {prog:Program}{w:World}{ok:Addr->Prop}{A:Around}{E:Value->Shared->Prop}{s:Shared}
end
section
variable {prog:Program}{w:World}{ok:Addr->Prop}{A:Around}{R:Result->Shared->Prop}{I:Addr}{fp wr:List Addr}{G:Array GenState->Array GenState->Prop}{P:Nat->Value->Prop}{St:Nat->Shared->Prop}
end
section
variable {prog:Program}{w:World}{A:Around}{E:Value->Shared->Prop}{s:Shared}
end
section
variable {K:zA}{σ:St}{H:Hp}{Q:VK}{cs:List Nat}{te:TE}
end
structure Met (n:Nat) (ds:List Wd) (gs:List Go) (i:Nat) (ms:List Nat):Prop where
 snd:∀m∈ms,Rch n ds gs m
 root:∀g∈gs,g.sg≠0->g.th∈ms
 cl:∀(k:Nat) d,ds.length<=k+i->ds[k]? = some d->d.a∈ms/\d.b∈ms
 all:∀k,ds.length<=k+i->k<ds.length->Rch n ds gs (n+k)
section
variable {ins:Nat}{ds:List Wd}{gs:List Go}{bs:List Bool}
end
section
variable {n:Nat}{ds:List Wd}{gs:List Go}{bs:List Bool}
end
section
variable {n i:Nat}{R:List (List Int)}{kvs:List (List Key×V)}{es:List Wd}
end
def nm (ds:List Wd):List Int:=(rowsW 1 ds).map fun r=>r.headD 0
theorem ded_id:∀B:List Int,B.Nodup->ded B=B:=by
 refine Jt (p:=fun B:List Int=>B.Nodup->ded B=B) (fun _=>rfl) (fun B x ih h=>?_);rw[List.nodup_append]at h;rw[jS,ih h.1,if_neg fun z=>h.2.2 x z x (zE.mpr rfl) rfl]
section
variable {K:zA}{σ:St}{H:Hp}{Q:VK}{cs:List Nat}{te:TE}
end
theorem mask_sub {A B:List Int}(G:∀n∈A,0<=n)(H:∀n∈B,0<=n)(h:∀n∈A,n∈B):maskN A &&& maskN B=maskN A:=by
 refine Nat.eq_of_testBit_eq fun j=>?_;rw[Nat.testBit_and,jd,zX,JP G,JP H];exact⟨fun z=>z.1,fun z=>⟨z,h _ z⟩⟩
theorem sort_id {S:List Int}(h:S.Pairwise (· <= ·)):sortI S=S:=(Ju (ym.refl S) h).symm
section
variable {K:zA}{σ:St}{H:Hp}{Q:VK}{cs:List Nat}{tt:TT}
end
section
variable {X:Cx}
end
section
variable {X:Cx}{o e:Expr}{apos cpos:Pos}{td ty:TE}
end
section
variable {K:zA}{σ:St}{H:Hp}{Q:VK}{cs:List Nat}{nt:Nat}{g:TG}{tt:TT}{te:TE}
end
open PySem PySem.Spec PyProof.Rows PySem.NumText
def tl (x:Str):List Nat:=x.cps.toList
def oD (o:Option (List V)):List V:=o.getD []
section
open PySem.W HT
variable {prog:Program}{w:World}{A:Around}{E:Value->Shared->Prop}{s:Shared}
theorem Jx {t sl:Addr}{items:Array Value}{U Y:Value}{lo G:Option Int}{Q:Value->Shared->Prop}(B:IsTup s.heap t items)(O:s.heap.IsSliceOf sl U Y .none)(pl:IsPart U lo)(pu:IsPart Y G)
  (h1:sIx items.size 0 lo=0) (h2:sIx items.size items.size G=items.size) (h:Q (.ref t) s):wpAny (model prog w) A (getItem (.ref t) (.ref sl)) Q E s:=by
 obtain⟨os,J,M,hds⟩:=id O;have H:s.TypeIs (.ref sl) "slice":=⟨os,J,M⟩;unfold getItem
 try with_reducible refine wpAny_holding ?_
 first|refine wpAny_bind (wpAny_pure ?_)|skip
 refine wpAny_bind (wpAny_sequenceKey B.typeIs (by decide) ?_);refine wpAny_bind (wpAny_callSpecial?_slot (name:=Str.ofString "__getitem__") B.typeIs PyProof.Rows.slot_tuple_getitem
  (wpAny_call_entry PyProof.Rows.slot_tuple_getitem B.typeIs entry_tuple_getitem ?_ (args_tuple_getitem _ _)))
 show wpAny _ _ (Builtin.Tuple.tupleItemsOf (.ref t) >>= _) _ _ s
 refine wpAny_bind (tupleItemsOf_ B ?_);refine wpAny_bind (wpAny_typeOf H ?_);rw[if_pos (by decide)];refine wpAny_bind (jk O pl pu ?_);have z:((((sIx items.size 0 lo:Nat):Int)==0&&(1:Int)==1&&(sIx items.size items.size G-sIx items.size 0 lo)==items.size)=true):=by
  rw[h1,h2];simp
 show wpAny _ _ (if (((sIx items.size 0 lo:Nat):Int)==0&&(1:Int)==1&&(sIx items.size items.size G-sIx items.size 0 lo)==items.size)=true then _ else _) _ _ s
 rw[if_pos z];refine wpAny_bind (m:=Builtin.Tuple.tupleIsExact _) (wpAny_bind (wpAny_typeOf B.typeIs (wpAny_pure ?_)));rw[if_pos (by decide)];refine wpAny_bind (wpAny_rule ?_);exact wpAny_pure ⟨_,rfl,wpAny_pure h⟩
end
def rSlA (K:zA):V->Option Int->Option Int->Hp->VK->Prop:=fun x B G H Q=>∃a z,x=.ref a/\SqT K H a z /\
 ((HT.sIx z.length 0 B=0/\HT.sIx z.length z.length G=z.length)->Q (.ref a) H)/\(¬ (HT.sIx z.length 0 B=0/\HT.sIx z.length z.length G=z.length)->∀p,H p=none->Q (.ref p) (upd H p (.tup (cutV z B G))))
theorem jD {X:Cx}:SlR X (rSlA X.K):=by
 intro pins s σ H x v vl vu O hi sl Q I Y J pl M h;obtain⟨a,z,rfl,hx,q1,q2⟩:=h;by_cases B:(HT.sIx z.length 0 O=0/\HT.sIx z.length z.length hi=z.length)
 ·cases Y
  obtain⟨G,r,U,hz⟩:=I.tuple hx;have hlen:G.toArray.size=z.length:=by rw[qM];exact r.length.symm
  refine⟨"tuple",_,PyProof.Rows.slot_tuple_getitem.lookup,U.typeIs,?_⟩;exact Jx U J pl M (by rw[hlen];exact B.1) (by rw[hlen];exact B.2) ⟨.ref a,H,I,rfl,q1 B⟩
 ·exact sl_tup pins s σ H _ v vl vu O hi sl Q I Y J pl M ⟨a,z,rfl,hx,B,q2 B⟩
theorem sl_from {K:zA}{H:Hp}{Q:VK}{p:Addr}{xs:List V}{c:Nat}(h:SqT K H p xs)(J:c<=xs.length)(q:∀r B,Same H B->SqT K B r (xs.drop c)->Q (.ref r) B):rSlA K (.ref p) (some (c:Int)) none H Q:=by
 refine⟨p,xs,rfl,h,fun z=>?_,fun _ r M=>?_⟩
 ·have G:=z.1;rw[HT.sIx_nat]at G;have:c=0:=by omega
  subst this;exact q p H (Same.refl _) h
 ·rw[cut_drop J];exact q r _ (zU M _) (SqT.of upd_same)
section
variable {K:zA}{H H':Hp}{l:Addr}{o:HO}
end
def LOk (x:Str):Prop:=x.length<=100/\10∉tl x
instance (x:Str):Decidable (LOk x):=by unfold LOk;infer_instance
section
variable {σ:St}{H:Hp}{Q:VK}{cs:List Nat}{te:TE}
end
section
variable {K:zA}{H:Hp}
end
section
variable {X:Cx}
end
section
variable {H:Hp}{Q:VK}
end
section
variable {σ:St}{H:Hp}{D:Ends}{g:TG}{tb:TS}{x:Str}
end
theorem mask_lt {S:List Int}{x:Int}(B:∀y∈S,0<=y)(h:∀y∈S,y<x):maskN S<2^x.toNat:=by
 refine Nat.lt_pow_two_of_testBit _ fun i G=>?_;rw[yO];intro z;have m:=(JP B i).mp z;have:=h _ m;omega
theorem mask_sum {S:List Int}(B:∀y∈S,0<=y)(h:S.Pairwise (· < ·)):(S.map fun x=>(2:Int)^x.toNat).sum=(maskN S:Nat):=by
 refine Jt (p:=fun S=>(∀y∈S,0<=y)->S.Pairwise (· < ·)->(S.map fun x=>(2:Int)^x.toNat).sum=(maskN S:Nat)) ?_ (fun H x ih B h=>?_) S B h
 ·intro _ _;rfl
 ·have G:=yT.mp h;have ih:=ih (fun y z=>B y (yt _ z)) G.1;have lt:=mask_lt (x:=x) (fun y z=>B y (yt _ z)) (fun y z=>G.2.2 y z x (zE.mpr rfl));have e:=Nat.two_pow_add_eq_or_of_lt lt 1;rw[Nat.mul_one]at e;rw[z9,List.sum_append,ih,mask_snoc,Nat.or_comm,<-e];simp;omega
theorem j8 {A B:List Int}(z:∀n∈A,0<=n)(H:∀n∈B,0<=n):maskN B &&& maskN A=maskN A↔∀n∈A,n∈B:=by
 constructor
 ·intro h n G;have:=(JP z n.toNat).mpr (by rw[Int.toNat_of_nonneg (z n G)];exact G);rw[<-h,Nat.testBit_and,zX,JP H,Int.toNat_of_nonneg (z n G)]at this;exact this.1
 ·intro h;rw[Nat.and_comm];exact mask_sub z H h
def LedP (top:Int)(S:List Int)(L:List (List Int)):Prop:=∀x∈madeL S top,∃z∈L,(∀y∈S,y∈z)/\x∈z
def SupB (S z:List Int):Bool:=S.all fun y=>decide (y∈z)
theorem supB_iff {S B:List Int}:SupB S B=true↔∀y∈S,y∈B:=by
 unfold SupB;rw[jL];exact⟨fun h y z=>of_decide_eq_true (h y z),fun h y z=>decide_eq_true (h y z)⟩
def rchL (S:List Int)(L:List (List Int)):List Int:=(L.filter (SupB S)).flatten
theorem led_iff {top:Int}{S:List Int}{L:List (List Int)}(U:∀n∈madeL S top,0<=n)(Y:∀z∈L,∀n∈z,0<=n):maskN (madeL S top) &&& maskN (rchL S L)=maskN (madeL S top)↔LedP top S L:=by
 have O:∀n∈rchL S L,0<=n:=fun n hn=>by
  obtain⟨z,G,B⟩:=List.mem_flatten.mp hn;exact Y z (zk.mp G).1 n B
 rw[Nat.and_comm,j8 U O];unfold LedP;constructor
 ·intro h x J;obtain⟨z,G,B⟩:=List.mem_flatten.mp (h x J);obtain⟨H,M⟩:=zk.mp G;exact⟨z,H,supB_iff.mp M,B⟩
 ·intro h x J;obtain⟨z,G,B,H⟩:=h x J;exact List.mem_flatten.mpr ⟨z,zk.mpr ⟨G,supB_iff.mpr B⟩,H⟩
def spMaskT:Sp:=fun B H Q _=>∃(c:Addr) (S:List Int),B=[.ref c]/\H c=some (.tup (S.map V.int))/\(∀x∈S,0<=x/\x<=99)/\S.Pairwise (· < ·)/\S.length<=200/\∀z,Same H z->Q (.int (maskN S:Nat)) z
def spMaskL:Sp:=fun B H Q _=>∃(c:Addr) (S:List Int),B=[.ref c]/\H c=some (.lst (S.map V.int))/\(∀x∈S,0<=x/\x<=99)/\S.Pairwise (· < ·)/\S.length<=200/\∀z,Same H z->Q (.int (maskN S:Nat)) z
def ShowsP (top:Int)(as:List Int)(z:List (List (List Int))):Prop:=(z=[]->as≠[])/\(∀L,z[0]? = some L->∃S∈L,(1:Int)∈S)/\(∀(i:Nat) L B,z[i]? = some L->z[i+1]? = some B->∀S∈L,LedP top S B)/\∀L,z.getLast? = some L->∀S∈L,¬ Fin_ top S as
theorem made_inc (S:List Int)(top:Int):(madeL S top).Pairwise (· < ·):=by
 have B:(madeL S top).Pairwise (· <= ·):=yy _;have z:(madeL S top).Nodup:=by
  unfold madeL;exact(yA _).nodup_iff.mpr (j7 _)
 exact(B.and z).imp fun⟨a,b⟩=>by omega
section
variable {K:zA}{σ:St}{H:Hp}{Q:VK}{cs:List Nat}{te:TE}
theorem comp_zipT1 {r1 r2:Addr}{us vs:List V}(h1:SqT K H r1 us)(Y:SqT K H r2 vs)(J:List V)(hzl:J.length=vs.length)(hl:vs.length<=us.length)(hz:vs.length<=1000)
  (hb:∀(i:Nat) (x y z:V) B (R:VK),us[i]? = some x->vs[i]? = some y->J[i]? = some z->Same H B->(∀O,Same B O->R z O)->te ([some x,some y]++yF cs σ) B R)
  (hd:∀acc B,H acc=none->Same H B->B acc=some (.lst J)->Q (.ref acc) B) :
  yX (Itzt K r1 r2) 2 cs (gTupM 2 (gCons (xN 0) (gCons (xN 1) gNil))) tYes te σ H Q:=by
 refine jR vs.length (fun acc i G B=>Same H B/\B acc=some (.lst G)/\G=J.take i) (zZ hz) ?_ ?_ ?_ ?_ ?_ ?_
 ·rintro acc i G B hi ⟨s,_,_⟩;exact⟨_,_,s.seqT h1,s.seqT Y,by omega,hi⟩
 ·rintro acc G B ⟨s,_,_⟩;exact⟨_,_,s.seqT h1,s.seqT Y,.inr (zB _)⟩
 ·intro acc M;exact⟨zU M _,upd_same,rfl⟩
 ·rintro acc i G B ⟨s,M,rfl⟩;exact⟨M,by rw[qO];omega⟩
 ·rintro acc i G B ts x H2 N U hi ⟨s,M,rfl⟩ ⟨T,u,v,rfl,hT,rfl,e1,e2⟩ hts hN;have hu:=e1 _ (s.seqT h1);have hv:=e2 _ (s.seqT Y);obtain⟨z,hzi⟩:∃z,J[i]? = some z:=⟨_,qA (by omega)⟩;obtain⟨t0,t1,rfl⟩:∃t0 t1,ts=[t0,t1]:=by
   match ts,hts with
   |[a,b],_=>exact⟨a,b,rfl⟩
  rw[Js];refine⟨[u,v],upd_same,rfl,?_⟩;rw[j5,xK,j5,xK,w_gNil,w_yes,if_pos rfl];have sT:=zU hT (.tup [u,v]);refine hb i u v z _ _ hu hv hzi (s.trans sT) fun O s5=>?_;have tk:J.take (i+1)=J.take i++[z]:=by rw[zq,hzi];rfl
  refine⟨s5 _ _ (sT _ _ M),hN _ [some u,some v] _ rfl ⟨yE U ((s.trans sT).trans s5),upd_same,tk.symm⟩⟩
 ·rintro acc G B U ⟨s,M,rfl⟩;refine hd acc B U s ?_;rw[M,yD (by omega)]
theorem comp_blJ {J:It}{us:List V}(Bb:Nat->Bool->Prop)(hz:us.length<=sizeLine)
  (hJ:∀B,Same H B->(∀i,i<us.length->J.go i B)/\(∀i x U,J.yld i B x U->U=B/\(i<us.length->us[i]? = some x))/\J.stop us.length B)
  (hb:∀(i:Nat) x B (R:VK),us[i]? = some x->Same H B->(∀b Y,Same B Y->Bb i b->R (.bl b) Y)->te (some x::yF cs σ) B R)
  (hd:∀acc (bs:List Bool) B,H acc=none->Same H B->B acc=some (.lst (bs.map V.bl))->bs.length=us.length->(∀(i:Nat) b,bs[i]? = some b->Bb i b)->Q (.ref acc) B) :
  yX J 1 cs (xN 0) tYes te σ H Q:=by
 refine jR us.length (fun acc i G B=>∃bs:List Bool,Same H B/\B acc=some (.lst G)/\G=bs.map V.bl/\bs.length=i/\∀(i:Nat) b,bs[i]? = some b->Bb i b) hz ?_ ?_ ?_ ?_ ?_ ?_
 ·rintro acc i G B hi ⟨_,s,_⟩;exact(hJ _ s).1 i hi
 ·rintro acc G B ⟨_,s,_⟩;exact(hJ _ s).2.2
 ·intro acc O;exact⟨[],zU O _,upd_same,rfl,rfl,fun i b h=>by simp at h⟩
 ·rintro acc i G B ⟨bs,s,O,rfl,e,_⟩;exact⟨O,by rw[qC,e];exact zB _⟩
 ·rintro acc i G B ts x U N hn hi ⟨bs,s,O,rfl,e,hB⟩ y hts hN;obtain⟨e2,M⟩:=(hJ _ s).2.1 i x U y;have M:=M hi;subst e2;obtain⟨t0,rfl⟩:∃t0,ts=[t0]:=ya.mp hts;rw[xK,w_yes,if_pos rfl];refine hb i x _ _ M s fun b Y s5 aa=>?_;refine⟨s5 _ _ O,hN _ [_] _ rfl ⟨bs++[b],yE hn (s.trans s5),upd_same,by rw[z9];rfl,by rw[qF,e];rfl,fun k b' ac=>?_⟩⟩;rcases get_snoc ac with⟨_,z⟩|⟨kl,rfl⟩
  ·exact hB k b' z
  ·rw[kl,e];exact aa
 ·rintro acc G B hn ⟨bs,s,O,rfl,e,hB⟩;exact hd acc bs B hn s O e hB
theorem JR {a:Addr}{us:List V}(B:Nat->Bool->Prop)(h:SqL K H a us)(hz:us.length<=sizeLine)
  (U:∀(i:Nat) x z (R:VK),us[i]? = some x->Same H z->(∀b J,Same z J->B i b->R (.bl b) J)->te (some x::yF cs σ) z R)
  (M:∀acc (bs:List Bool) z,H acc=none->Same H z->z acc=some (.lst (bs.map V.bl))->bs.length=us.length->(∀(i:Nat) b,bs[i]? = some b->B i b)->Q (.ref acc) z) :
  yX (Itl K a) 1 cs (xN 0) tYes te σ H Q :=
 comp_blJ B hz (fun z s=>by
  have G:=s.seq h
  exact⟨fun i O=>⟨us,us[i],G,by simp[O]⟩,fun i x Y y=>⟨y.1,fun _=>y.2 us G⟩,⟨us,G,zB _⟩⟩) U M
theorem comp_blT {a:Addr}{us:List V}(B:Nat->Bool->Prop)(h:SqT K H a us)(hz:us.length<=sizeLine)
  (U:∀(i:Nat) x z (R:VK),us[i]? = some x->Same H z->(∀b J,Same z J->B i b->R (.bl b) J)->te (some x::yF cs σ) z R)
  (M:∀acc (bs:List Bool) z,H acc=none->Same H z->z acc=some (.lst (bs.map V.bl))->bs.length=us.length->(∀(i:Nat) b,bs[i]? = some b->B i b)->Q (.ref acc) z) :
  yX (Itt K a) 1 cs (xN 0) tYes te σ H Q :=
 comp_blJ B hz (fun z s=>by
  have G:=s.seqT h
  exact⟨fun i O=>⟨us,us[i],G,by simp[O]⟩,fun i x Y y=>⟨y.1,fun _=>y.2 us G⟩,⟨us,G,zB _⟩⟩) U M
theorem comp_zsL {a:Addr}{us:List V}(J:List V)(hzl:J.length=us.length)(h:SqL K H a us)(hz:us.length<=sizeLine)
  (hb:∀(i:Nat) x z B (R:VK),us[i]? = some x->J[i]? = some z->Same H B->(∀U,Same B U->R z U)->te (some x::yF cs σ) B R)
  (hd:∀acc B,H acc=none->Same H B->B acc=some (.lst J)->Q (.ref acc) B) :
  yX (Itl K a) 1 cs (xN 0) tYes te σ H Q:=by
 refine jR us.length (fun acc i G B=>Same H B/\B acc=some (.lst G)/\G=J.take i) hz ?_ ?_ ?_ ?_ ?_ ?_
 ·rintro acc i G B hi ⟨s,_⟩;exact⟨us,us[i],s.seq h,qA hi⟩
 ·rintro acc G B ⟨s,_⟩;exact⟨us,s.seq h,zB _⟩
 ·intro acc O;exact⟨zU O _,upd_same,rfl⟩
 ·rintro acc i G B ⟨s,O,rfl⟩;exact⟨O,by rw[qO];omega⟩
 ·rintro acc i G B ts x H2 N Y hi ⟨s,O,rfl⟩ ⟨rfl,M⟩ hts hN;have M:=M us (s.seq h);obtain⟨t0,rfl⟩:∃t0,ts=[t0]:=ya.mp hts;obtain⟨z,hzi⟩:∃z,J[i]? = some z:=⟨_,qA (by omega)⟩;rw[xK,w_yes,if_pos rfl];refine hb i x z _ _ M hzi s fun U s5=>?_;have tk:J.take (i+1)=J.take i++[z]:=by rw[zq,hzi];rfl
  exact⟨s5 _ _ O,hN _ [_] _ rfl ⟨yE Y (s.trans s5),upd_same,tk.symm⟩⟩
 ·rintro acc G B Y ⟨s,O,rfl⟩;refine hd acc B Y s ?_;rw[O,yD (by omega)]
theorem comp_zipLB {r1 r2:Addr}{us vs:List V}(h1:H r1=some (.lst us))(h2:H r2=some (.lst vs))(Bb:Nat->Bool->Prop)(hl:vs.length<=us.length)(hz:vs.length<=1000)
  (hb:∀(i:Nat) (x y:V) B (R:VK),us[i]? = some x->vs[i]? = some y->Same H B->(∀b J,Same B J->Bb i b->R (.bl b) J)->te ([some x,some y]++yF cs σ) B R)
  (hd:∀acc (bs:List Bool) B,H acc=none->Same H B->B acc=some (.lst (bs.map V.bl))->bs.length=vs.length->(∀(i:Nat) b,bs[i]? = some b->Bb i b)->Q (.ref acc) B) :
  yX (Itz K r1 r2) 2 cs (gTupM 2 (gCons (xN 0) (gCons (xN 1) gNil))) tYes te σ H Q:=by
 refine jR vs.length (fun acc i ys B=>∃bs:List Bool,Same H B/\B acc=some (.lst ys)/\ys=bs.map V.bl/\bs.length=i/\∀(i:Nat) b,bs[i]? = some b->Bb i b) (zZ hz) ?_ ?_ ?_ ?_ ?_ ?_
 ·rintro acc i U B hi ⟨_,s,_,_⟩;exact⟨_,_,SqL.of (s _ _ h1),SqL.of (s _ _ h2),by omega,hi⟩
 ·rintro acc U B ⟨_,s,_,_⟩;exact⟨_,_,SqL.of (s _ _ h1),SqL.of (s _ _ h2),.inr (zB _)⟩
 ·intro acc G;exact⟨[],zU G _,upd_same,rfl,rfl,fun i b h=>by simp at h⟩
 ·rintro acc i U B ⟨bs,s,G,rfl,e,_⟩;exact⟨G,by rw[qC,e];exact zB _⟩
 ·rintro acc i U B ts x H2 N hn hi ⟨bs,s,G,rfl,e,Y⟩ ⟨T,u,v,rfl,hT,rfl,e1,e2⟩ hts hN;have hu:=e1 _ (SqL.of (s _ _ h1));have hv:=e2 _ (SqL.of (s _ _ h2));obtain⟨t0,t1,rfl⟩:∃t0 t1,ts=[t0,t1]:=by
   match ts,hts with
   |[a,b],_=>exact⟨a,b,rfl⟩
  rw[Js];refine⟨[u,v],upd_same,rfl,?_⟩;rw[j5,xK,j5,xK,w_gNil,w_yes,if_pos rfl];have sT:=zU hT (.tup [u,v]);refine hb i u v _ _ hu hv (s.trans sT) fun b J s5 M=>?_;refine⟨s5 _ _ (sT _ _ G),hN _ [some u,some v] _ rfl ⟨bs++[b],yE hn ((s.trans sT).trans s5),upd_same,by rw[z9];rfl,by rw[qF,e];rfl,fun k b' O=>?_⟩⟩;rcases get_snoc O with⟨_,z⟩|⟨kl,rfl⟩
  ·exact Y k b' z
  ·rw[kl,e];exact M
 ·rintro acc ys B hn ⟨bs,s,G,rfl,e,Y⟩;exact hd acc bs B hn s G e Y
end
theorem Jy {bs:List Bool}{n:Nat}{p:Nat->Prop}(G:bs.length=n)(h:∀(i:Nat) b,bs[i]? = some b->(b=true↔p i)):bs.all id=true↔∀i,i<n->p i:=by
 rw[jL];constructor
 ·intro z i H;have e:=qA (l:=bs) (by omega:i<bs.length);exact(h i _ e).mp (z _ (qE e))
 ·intro z b B;obtain⟨i,e⟩:=zO.mp B;have:i<bs.length:=(qB.mp e).1;exact(h i _ e).mpr (z i (by omega))
theorem any_iff {bs:List Bool}{n:Nat}{p:Nat->Prop}(G:bs.length=n)(h:∀(i:Nat) b,bs[i]? = some b->(b=true↔p i)):bs.any id=true↔∃i,i<n/\p i:=by
 rw[xQ];constructor
 ·rintro⟨b,B,z⟩;obtain⟨i,e⟩:=zO.mp B;have:i<bs.length:=(qB.mp e).1;exact⟨i,by omega,(h i _ e).mp z⟩
 ·rintro⟨i,H,z⟩;have e:=qA (l:=bs) (by omega:i<bs.length);exact⟨_,qE e,(h i _ e).mpr z⟩
def bitV:V->Option V:=fun v=>match v with
 |.int x=>some (.int ((2:Int)^x.toNat))
 |_=>none
theorem bitV_map:∀S:List Int,(S.map V.int).filterMap bitV=(S.map fun x=>(2:Int)^x.toNat).map V.int
 |[]=>rfl
 |x::r=>by
  rw[zQ,zY,bitV_map r]
  rfl
def spMask:Sp:=fun z H Q E=>spMaskT z H Q E\/spMaskL z H Q E
theorem and_nat (M N:Nat):Builtin.bitAnd (M:Int) (N:Int)=((M &&& N:Nat):Int):=by
 unfold Builtin.bitAnd;rw[decide_eq_true (by omega:(0:Int)<=(M:Int)),decide_eq_true (by omega:(0:Int)<=(N:Int))];show((_:Nat):Int)=_
 rw[zV,zV]
theorem rch_snoc {S B:List Int}{L:List (List Int)}{i:Nat}(e:L[i]? = some B):rchL S (L.take (i+1))=rchL S (L.take i)++(if SupB S B=true then B else []):=by
 unfold rchL;rw[zq,e,List.filter_append,List.flatten_append]
 congr 1
 show(List.filter (SupB S) [B]).flatten=_
 by_cases z:SupB S B=true
 ·rw[if_pos z,List.filter_cons_of_pos z];simp
 ·rw[if_neg z,List.filter_cons_of_neg z];rfl
def gallop':Bool->Keyed->Array Keyed->Nat->Nat->Nat->StateT SortSt Sem (Option Nat):=sortPriv% PySem.Builtin.gallop
def mergeLo':Array Keyed->Array Keyed->StateT SortSt Sem (Array Keyed):=sortPriv% PySem.Builtin.mergeLo
def mergeHi':Array Keyed->Array Keyed->StateT SortSt Sem (Array Keyed):=sortPriv% PySem.Builtin.mergeHi
def setG':Nat->StateT SortSt Sem Unit:=sortPriv% PySem.Builtin.setMinGallop
section
variable {prog:Program}{w:World}{A:Around}{E:Value->Shared->Prop}{s:Shared}{κ:SortKind}{mem:Keyed->Prop}{key:Keyed->Int}{st:SortSt}
def SCmp (prog:Program)(w:World)(A:Around)(s:Shared)(κ:SortKind)(mem:Keyed->Prop)(key:Keyed->Int):Prop :=
 ∀x y,mem x->mem y->wpAny (model prog w) A (keyLt' κ x.1 y.1) (fun b z=>z=s/\b=decide (key x<key y)) (fun _ _=>False) s
theorem s_lt {x y:Keyed}{Q:Option Bool->SortSt->Prop}(H:SCmp prog w A s κ mem key)(z:kindOf st=κ)(B:mem x)(G:mem y)(h:Q (some (decide (key x<key y))) st) :
  wpS (model prog w) A E s (lt' x y) Q st:=by
 rw[lt'_eq];refine wpS_bind (wpS_get ?_);rw[z];refine wpS_bind (wpS_lift (wpAny_attempt (wpAny_mono (H x y B G) (fun b O J=>?_) fun _ _ M=>M.elim)));obtain⟨rfl,rfl⟩:=J;exact⟨rfl,wpS_pure h⟩
theorem yf {arr:Array Keyed}{i:Nat}{x:Keyed}{Q:Keyed->SortSt->Prop}(z:arr[i]? = some x)(h:Q x st):wpS (model prog w) A E s (elem' arr i) Q st:=by
 rw[elem'_eq,z];exact wpS_pure h
def beyB (key:Keyed->Int)(left:Bool)(k x:Keyed):Bool:=if left=true then decide (key x<key k) else !decide (key k<key x)
theorem s_bey {left:Bool}{k x:Keyed}{arr:Array Keyed}{j:Nat}{Q:Option Bool->SortSt->Prop}(H:SCmp prog w A s κ mem key)(G:kindOf st=κ)(J:mem k)(M:arr[j]? = some x)(B:mem x)(h:Q (some (beyB key left k x)) st) :
  wpS (model prog w) A E s (elem' arr j >>= fun x=>if left=true then lt' x k else lt' k x >>= fun b=>pure (Option.map (fun c=>!c) b)) Q st:=by
 refine wpS_bind (yf M ?_);unfold beyB at h;by_cases z:left=true
 ·rw[if_pos z]at h ⊢;exact s_lt H G B J h
 ·rw[if_neg z]at h ⊢;exact wpS_bind (s_lt H G J B (wpS_pure h))
theorem gallop_ok {left:Bool}{k:Keyed}{arr:Array Keyed}{base n hint:Nat}{b:Nat->Bool}{Q:Option Nat->SortSt->Prop}(hc:SCmp prog w A s κ mem key)(hk:kindOf st=κ)(hm:mem k)
  (hb:∀i,i<n->∃x,arr[base+i]? = some x/\mem x/\beyB key left k x=b i) (mono:∀i j,i<=j->j<n->b j=true->b i=true) (hh:hint<n)
  (h:∀m,m<=n->(∀i,i<n->(b i=true↔i<m))->Q (some m) st):wpS (model prog w) A E s (gallop' left k arr base n hint) Q st:=by
 have bey:∀i,i<n->∀{Q':Option Bool->SortSt->Prop},Q' (some (b i)) st->wpS (model prog w) A E s (elem' arr (base+i) >>= fun x=>if left=true then lt' x k else lt' k x >>= fun b=>pure (Option.map (fun c=>!c) b)) Q' st:=fun i G Q' O=>by
  obtain⟨x,e1,e2,e3⟩:=hb i G;exact s_bey hc hk hm e1 e2 (by rw[e3];exact O)
 have fin:∀(B G:Nat) {β:Type} (F:Nat->Option (Option Nat)×Nat×Nat->StateT SortSt Sem (ForInStep (Option (Option Nat)×Nat×Nat))),
   (∀i B G,G<=n->B<=G->(B=0\/b (B-1)=true)->(G=n\/b G=false)->∀{Q':ForInStep (Option (Option Nat)×Nat×Nat)->SortSt->Prop},(if B>=G then Q' (.done (none,B,G)) st else if b (B+(G-B)/2)=true then Q' (.yield (none,B+(G-B)/2+1,G)) st else Q' (.yield (none,B,B+(G-B)/2)) st)->wpS (model prog w) A E s (F i (none,B,G)) Q' st) ->
   G<=n->B<=G->(B=0\/b (B-1)=true)->(G=n\/b G=false)->∀{Q':Option (Option Nat)×Nat×Nat->SortSt->Prop},(∀B m,m<=n->(∀i,i<n->(b i=true↔i<m))->Q' (none,B,m) st)->wpS (model prog w) A E s (forIn [:n] (none,B,G) F) Q' st:=by
  intro B G _ F hF h1 h2 h3 h4 Q' O;have ex:∀B G,G<=n->B<=G->G<=B->(B=0\/b (B-1)=true)->(G=n\/b G=false)->(∀i,i<n->(b i=true↔i<G)):=fun B G U g2 g3 M Y i hi'=>by
   have e:B=G:=by omega
   subst e;constructor
   ·intro hbi;rcases Y with z|z
    ·omega
    ·rcases Nat.lt_or_ge i B with y|y
     ·exact y
     ·by_cases x:B<n
      ·have:=mono B i y hi' hbi;rw[z]at this;cases this
      ·omega
   ·intro hlt;rcases M with z|z
    ·omega
    ·exact mono i (B-1) (by omega) (by omega) z
  refine wpS_forRange (I:=fun i c H=>H=st/\∃B G,c=(none,B,G)/\G<=n/\B<=G/\G-B<=n-i/\(B=0\/b (B-1)=true)/\(G=n\/b G=false)) ?_ ?_ ⟨rfl,B,G,rfl,h1,h2,by omega,h3,h4⟩
  ·rintro i c H _ hi' ⟨rfl,B,G,rfl,U,g2,g3,M,Y⟩;refine hF i B G U g2 M Y ?_;by_cases z:B>=G
   ·rw[if_pos z];exact O B G U (ex B G U g2 z M Y)
   ·rw[if_neg z];by_cases y:b (B+(G-B)/2)=true
    ·rw[if_pos y];exact⟨rfl,_,_,rfl,U,by omega,by omega,.inr y,Y⟩
    ·rw[if_neg y];exact⟨rfl,_,_,rfl,by omega,by omega,by omega,M,.inr (by simpa using y)⟩
  ·rintro c H ⟨rfl,B,G,rfl,U,g2,g3,M,Y⟩;exact O B G U (ex B G U g2 (by have:=yk (zS n);omega) M Y)
 unfold gallop';refine wpS_bind (bey hint hh ?_);dsimp only;have step:∀B G,G<=n->B<=G->(B=0\/b (B-1)=true)->(G=n\/b G=false)->True:=fun _ _ _ _ _ _=>trivial;by_cases z:b hint=true
 ·rw[if_pos z];refine wpS_bind (wpS_mono (wpS_forRange (I:=fun i c H=>H=st/\∃J of,c=(none,J,of)/\J<of/\i+1<=of/\hint+J<n/\b (hint+J)=true)
   (Q:=fun c H=>H=st/\∃J of,c=(none,J,of)/\J<of/\hint+J<n/\b (hint+J)=true/\(of>=n-hint\/b (hint+of)=false)) ?_ ?_ ⟨rfl,0,1,rfl,by omega,by omega,by omega,z⟩) ?_)
  ·rintro i c H _ hi' ⟨rfl,J,of,rfl,U,g2,g3,M⟩;dsimp only;by_cases y:of>=n-hint
   ·rw[if_pos y];exact wpS_pure ⟨rfl,_,_,rfl,U,g3,M,.inl y⟩
   ·rw[if_neg y];refine wpS_bind (bey (hint+of) (by omega) ?_);dsimp only;by_cases x:b (hint+of)=true
    ·rw[x];rw[if_neg (by decide)];exact wpS_pure ⟨rfl,_,_,rfl,by omega,by omega,by omega,x⟩
    ·have x':b (hint+of)=false:=by simpa using x
     rw[x',if_pos (by decide)];exact wpS_pure ⟨rfl,_,_,rfl,U,g3,M,.inr x'⟩
  ·rintro c H ⟨rfl,J,of,rfl,U,g2,g3,M⟩;exact⟨rfl,_,_,rfl,U,g3,M,.inl (by have:=yk (zS n);omega)⟩
  ·rintro c H ⟨rfl,J,of,rfl,U,g3,M,Y⟩;dsimp only;refine wpS_bind (fin (hint+J+1) (hint+min of (n-hint)) (β:=Unit) _ ?_ (by omega) (by omega) (.inr M) ?_ ?_)
   ·intro i B G q1 q2 q3 q4 Q' O;dsimp only;by_cases y:B>=G
    ·rw[if_pos y]at O ⊢;exact wpS_pure O
    ·rw[if_neg y]at O ⊢;refine wpS_bind (bey _ (by omega) ?_);dsimp only;by_cases x:b (B+(G-B)/2)=true
     ·rw[if_pos x]at O ⊢;exact wpS_pure O
     ·rw[if_neg x]at O ⊢;exact wpS_pure O
   ·rcases Y with Y|Y
    ·left;omega
    ·by_cases y:of>=n-hint
     ·left;omega
     ·right;rw[show min of (n-hint)=of by omega];exact Y
   ·intro B m hm1 hm2;exact wpS_pure (h m hm1 hm2)
 ·have z':b hint=false:=by simpa using z
  rw[if_neg z];refine wpS_bind (wpS_mono (wpS_forRange (I:=fun i c H=>H=st/\∃J of,c=(none,J,of)/\J<of/\i+1<=of/\J<=hint/\b (hint-J)=false)
   (Q:=fun c H=>H=st/\∃J of,c=(none,J,of)/\J<of/\J<=hint/\b (hint-J)=false/\(of>=hint+1\/b (hint-of)=true)) ?_ ?_ ⟨rfl,0,1,rfl,by omega,by omega,by omega,z'⟩) ?_)
  ·rintro i c H _ hi' ⟨rfl,J,of,rfl,U,g2,g3,M⟩;dsimp only;by_cases y:of>=hint+1
   ·rw[if_pos y];exact wpS_pure ⟨rfl,_,_,rfl,U,g3,M,.inl y⟩
   ·rw[if_neg y];refine wpS_bind (bey (hint-of) (by omega) ?_);dsimp only;by_cases x:b (hint-of)=true
    ·rw[if_pos x];exact wpS_pure ⟨rfl,_,_,rfl,U,g3,M,.inr x⟩
    ·rw[if_neg x];exact wpS_pure ⟨rfl,_,_,rfl,by omega,by omega,by omega,by simpa using x⟩
  ·rintro c H ⟨rfl,J,of,rfl,U,g2,g3,M⟩;exact⟨rfl,_,_,rfl,U,g3,M,.inl (by have:=yk (zS n);omega)⟩
  ·rintro c H ⟨rfl,J,of,rfl,U,g3,M,Y⟩;dsimp only;refine wpS_bind (fin (hint+1-min of (hint+1)) (hint-J) (β:=Unit) _ ?_ (by omega) (by omega) ?_ (.inr M) ?_)
   ·intro i B G q1 q2 q3 q4 Q' O;dsimp only;by_cases y:B>=G
    ·rw[if_pos y]at O ⊢;exact wpS_pure O
    ·rw[if_neg y]at O ⊢;refine wpS_bind (bey _ (by omega) ?_);dsimp only;by_cases x:b (B+(G-B)/2)=true
     ·rw[if_pos x]at O ⊢;exact wpS_pure O
     ·rw[if_neg x]at O ⊢;exact wpS_pure O
   ·rcases Y with Y|Y
    ·left;omega
    ·by_cases y:of>=hint+1
     ·left;omega
     ·right;rw[show hint+1-min of (hint+1)-1=hint-of by omega];exact Y
   ·intro B m hm1 hm2;exact wpS_pure (h m hm1 hm2)
end
section
variable {key:Keyed->Int}{a b out:List Keyed}{ia ib k:Nat}
def Srt (key:Keyed->Int)(l:List Keyed):Prop:=l.Pairwise fun x y=>key x<=key y
def Ble (key:Keyed->Int)(l m:List Keyed):Prop:=∀x∈l,∀y∈m,key x<=key y
structure MGL (key:Keyed->Int) (a b out:List Keyed) (ia ib:Nat):Prop where
 la:ia<=a.length
 lb:ib<=b.length
 perm:out.Perm (a.take ia++b.take ib)
 srt:Srt key out
 lea:Ble key out (a.drop ia)
 leb:Ble key out (b.drop ib)
theorem MGL.symm (h:MGL key a b out ia ib):MGL key b a out ib ia:=⟨h.lb,h.la,h.perm.trans xw,h.srt,h.leb,h.lea⟩
theorem MGL.zero:MGL key a b [] 0 0:=⟨zS _,zS _,by simp,.nil,(fun x z=>by cases z),(fun x z=>by cases z)⟩
theorem MGL.addA (h:MGL key a b out ia ib)(sa:Srt key a)(M:ia+k<=a.length)(Y:Ble key ((a.drop ia).take k) (b.drop ib)):MGL key a b (out++(a.drop ia).take k) (ia+k) ib:=by
 have sd:Srt key (a.drop ia):=xJ.sublist (List.drop_sublist _ _) sa;have U:a.take (ia+k)=a.take ia++(a.drop ia).take k:=List.take_add ..;have J:a.drop (ia+k)=(a.drop ia).drop k:=by rw[List.drop_drop]
 have O:Srt key ((a.drop ia).take k++(a.drop ia).drop k):=by rw[zr];exact sd
 have G:=yT.mp O;refine⟨M,h.lb,?_,?_,?_,?_⟩
 ·rw[U];refine(h.perm.append_right _).trans ?_;rw[zP,zP];exact ym.append_left _ xw
 ·exact yT.mpr ⟨h.srt,G.1,fun x H y B=>h.lea x H y (yC B)⟩
 ·intro x H y B;rw[J]at B;rcases zK.mp H with z|z
  ·exact h.lea x z y (yU B)
  ·exact G.2.2 x z y B
 ·intro x H y B;rcases zK.mp H with z|z
  ·exact h.leb x z y B
  ·exact Y x z y B
theorem MGL.addB (h:MGL key a b out ia ib)(z:Srt key b)(G:ib+k<=b.length)(B:Ble key ((b.drop ib).take k) (a.drop ia)):MGL key a b (out++(b.drop ib).take k) ia (ib+k) :=
 (h.symm.addA z G B).symm
theorem take_one {l:List Keyed}{i:Nat}{x:Keyed}(h:l[i]? = some x):(l.drop i).take 1=[x]:=by
 obtain⟨z,e⟩:=qB.mp h;rw[yg z,e];rfl
theorem MGL.pushA {x:Keyed}(h:MGL key a b out ia ib)(M:Srt key a)(B:a[ia]? = some x)(J:∀y∈b.drop ib,key x<=key y):MGL key a b (out++[x]) (ia+1) ib:=by
 rw[<-take_one B];refine h.addA M (qB.mp B).1 ?_;rw[take_one B];intro z G y H;rw[zE]at G;rw[G];exact J y H
theorem MGL.pushB {x:Keyed}(h:MGL key a b out ia ib)(z:Srt key b)(G:b[ib]? = some x)(B:∀y∈a.drop ia,key x<=key y):MGL key a b (out++[x]) ia (ib+1) :=
 (h.symm.pushA z G B).symm
def Mgd (key:Keyed->Int)(a b r:List Keyed):Prop:=r.Perm (a++b)/\Srt key r
theorem MGL.done (h:MGL key a b out ia ib)(U:Srt key a)(M:Srt key b)(O:Ble key (a.drop ia) (b.drop ib)):Mgd key a b (out++a.drop ia++b.drop ib):=by
 have Y:Srt key (a.drop ia):=xJ.sublist (List.drop_sublist _ _) U;have H:Srt key (b.drop ib):=xJ.sublist (List.drop_sublist _ _) M;refine⟨?_,?_⟩
 ·have J:a++b=(a.take ia++a.drop ia)++(b.take ib++b.drop ib):=by rw[zr,zr]
  rw[J];refine((h.perm.append_right _).append_right _).trans ?_;simp only[zP];refine ym.append_left _ ?_;rw[<-zP,<-zP];exact ym.append_right _ xw
 ·refine yT.mpr ⟨yT.mpr ⟨h.srt,Y,h.lea⟩,H,fun x G y B=>?_⟩;rcases zK.mp G with z|z
  ·exact h.leb x z y B
  ·exact O x z y B
theorem MGL.doneB (h:MGL key a b out ia ib)(G:Srt key a)(z:Srt key b)(B:Ble key (b.drop ib) (a.drop ia)):Mgd key a b (out++b.drop ib++a.drop ia):=by
 have:=h.symm.done z G B;exact⟨this.1.trans xw,this.2⟩
theorem ble_nilR {l:List Keyed}{i:Nat}(h:b.length<=i):Ble key l (b.drop i):=fun x _ y z=>by rw[List.drop_eq_nil_of_le h]at z;cases z
theorem ble_nilL {l:List Keyed}{i:Nat}(h:b.length<=i):Ble key (b.drop i) l:=fun x z y _=>by rw[List.drop_eq_nil_of_le h]at z;cases z
theorem ju {l:List Keyed}(h:Srt key l){i:Nat}{x y:Keyed}(H:l[i]? = some x)(B:y∈l.drop i):key x<=key y:=by
 obtain⟨J,e⟩:=qB.mp H;have G:Srt key (l.drop i):=xJ.sublist (List.drop_sublist _ _) h;rw[yg J,e]at B G;rcases zD.mp B with z|z
 ·rw[z];exact xY _
 ·exact(je.mp G).1 y z
theorem Jk {l:List Keyed}(h:Srt key l){i j:Nat}{x y:Keyed}(z:i<=j)(B:l[i]? = some x)(G:l[j]? = some y):key x<=key y:=by
 refine ju h B ?_;refine qE (i:=j-i) ?_;rw[yJ,show i+(j-i)=j by omega];exact G
theorem zAE {a:Array Keyed}{i:Nat}:(a.extract i a.size).toList=a.toList.drop i:=by
 rw[x8,xD];refine yD ?_;rw[zd,zC];exact zB _
theorem ext_k {a:Array Keyed}{i k:Nat}:(a.extract i (i+k)).toList=(a.toList.drop i).take k:=by
 rw[x8,xD,Nat.add_sub_cancel_left]
theorem xt {l:List Keyed}{i k:Nat}{x:Keyed}(h:x∈(l.drop i).take k):∃j,j<k/\i+j<l.length/\l[i+j]? = some x:=by
 obtain⟨j,e⟩:=zO.mp h;have B:j<k:=by
  rcases Nat.lt_or_ge j k with z|z
  ·exact z
  ·rw[ze (by rw[qO];omega)]at e;cases e
 rw[yP B,yJ]at e;exact⟨j,B,(qB.mp e).1,e⟩
theorem jT {l:List Keyed}{i:Nat}{x:Keyed}(h:x∈l.drop i):∃j,i+j<l.length/\l[i+j]? = some x:=by
 obtain⟨j,e⟩:=zO.mp h;rw[yJ]at e;exact⟨j,(qB.mp e).1,e⟩
end
section
variable {prog:Program}{w:World}{A:Around}{E:Value->Shared->Prop}{s:Shared}{κ:SortKind}{mem:Keyed->Prop}{key:Keyed->Int}{st:SortSt}
structure SSame (st st':SortSt):Prop where
 kind:kindOf st'=kindOf st
 arr:arrOf st'=arrOf st
 pend:pendingOf st'=pendingOf st
 fail:failedOf st'=failedOf st
theorem SSame.refl (st:SortSt):SSame st st:=⟨rfl,rfl,rfl,rfl⟩
theorem wpS_ite {M:Model}{B G:Type}{c:Prop}[Decidable c]{t e:StateT B Sem G}{Q:G->B->Prop}{st:B}(J:c->wpS M A E s t Q st)(H:¬ c->wpS M A E s e Q st):wpS M A E s (if c then t else e) Q st:=by
 by_cases z:c
 ·rw[if_pos z];exact J z
 ·rw[if_neg z];exact H z
theorem wpS_iteG {M:Model}{z B:Type}{c:Prop}{_:Decidable c}{f:Nat->StateT z Sem B}{Q:B->z->Prop}{st:z}{g1 g2:Nat}(H:∀g,wpS M A E s (f g) Q st):wpS M A E s (if c then f g1 else f g2) Q st:=wpS_ite (fun _=>H g1) fun _=>H g2
theorem s_setG {g:Nat}{st0:SortSt}{Q:Unit->SortSt->Prop}(B:SSame st0 st)(h:∀z,SSame st0 z->Q () z):wpS (model prog w) A E s (setG' g) Q st:=by
 unfold setG';refine wpS_modify (h _ ⟨B.kind,B.arr,B.pend,B.fail⟩)
theorem s_at {a:Array Keyed}{i:Nat}(h:i<a.size):∃x,a[i]? = some x/\a.toList[i]? = some x:=⟨a[i],by simp[h],by simp[h]⟩
theorem gallopR {k:Keyed}{a:Array Keyed}{i n hint:Nat}{Q:Option Nat->SortSt->Prop}(hc:SCmp prog w A s κ mem key)(hk:kindOf st=κ)(hm:mem k)(ma:∀x∈a.toList,mem x)(hin:i+n<=a.size)(sa:∀p q x y,i<=p->p<=q->q<i+n->a.toList[p]? = some x->a.toList[q]? = some y->key x<=key y)(hh:hint<n)
  (h:∀m,m<=n->(∀j x,j<m->a.toList[i+j]? = some x->key x<=key k)->(∀j x,m<=j->j<n->a.toList[i+j]? = some x->key k<key x)->Q (some m) st):wpS (model prog w) A E s (gallop' false k a i n hint) Q st:=by
 have U:∀j,j<n->∃x,a[i+j]? = some x/\a.toList[i+j]? = some x:=fun j J=>s_at (by omega);refine gallop_ok (b:=fun j=>match a.toList[i+j]? with|some x=>!decide (key k<key x)|none=>false) hc hk hm (fun j J=>?_) (fun p q hpq hq B=>?_) hh fun m O H=>?_
 ·obtain⟨x,e1,G⟩:=U j J;exact⟨x,e1,ma x (qE G),by rw[G];rfl⟩
 ·obtain⟨x,_,G⟩:=U p (by omega);obtain⟨y,_,Y⟩:=U q hq;rw[Y]at B;rw[G];have:=sa (i+p) (i+q) x y (by omega) (by omega) (by omega) G Y;simp only[yb,decide_eq_false_iff_not,Int.not_lt]at B ⊢;omega
 ·refine h m O (fun j x J M=>?_) fun j x h1 h2 M=>?_
  ·have:=(H j (by omega)).mpr J;rw[M]at this;simp only[yb,decide_eq_false_iff_not,Int.not_lt]at this;exact this
  ·have:¬ _:=fun z=>Nat.not_lt.mpr h1 ((H j h2).mp z);rw[M]at this;simp only[yb,decide_eq_false_iff_not,Int.not_lt]at this;omega
theorem gallopL {k:Keyed}{a:Array Keyed}{i n hint:Nat}{Q:Option Nat->SortSt->Prop}(hc:SCmp prog w A s κ mem key)(hk:kindOf st=κ)(hm:mem k)(ma:∀x∈a.toList,mem x)(hin:i+n<=a.size)(sa:∀p q x y,i<=p->p<=q->q<i+n->a.toList[p]? = some x->a.toList[q]? = some y->key x<=key y)(hh:hint<n)
  (h:∀m,m<=n->(∀j x,j<m->a.toList[i+j]? = some x->key x<key k)->(∀j x,m<=j->j<n->a.toList[i+j]? = some x->key k<=key x)->Q (some m) st):wpS (model prog w) A E s (gallop' true k a i n hint) Q st:=by
 have U:∀j,j<n->∃x,a[i+j]? = some x/\a.toList[i+j]? = some x:=fun j J=>s_at (by omega);refine gallop_ok (b:=fun j=>match a.toList[i+j]? with|some x=>decide (key x<key k)|none=>false) hc hk hm (fun j J=>?_) (fun p q hpq hq B=>?_) hh fun m O H=>?_
 ·obtain⟨x,e1,G⟩:=U j J;exact⟨x,e1,ma x (qE G),by rw[G];rfl⟩
 ·obtain⟨x,_,G⟩:=U p (by omega);obtain⟨y,_,Y⟩:=U q hq;rw[Y]at B;rw[G];have:=sa (i+p) (i+q) x y (by omega) (by omega) (by omega) G Y;simp only[decide_eq_true_eq]at B ⊢;omega
 ·refine h m O (fun j x J M=>?_) fun j x h1 h2 M=>?_
  ·have:=(H j (by omega)).mpr J;rw[M]at this;simp only[decide_eq_true_eq]at this;exact this
  ·have:¬ _:=fun z=>Nat.not_lt.mpr h1 ((H j h2).mp z);rw[M]at this;simp only[decide_eq_true_eq]at this;omega
structure ML (key:Keyed->Int) (a b out:Array Keyed) (ia ib:Nat):Prop where
 ha:ia+1<a.size
 hb:ib<b.size
 g:MGL key a.toList b.toList out.toList ia ib
inductive Dn (key:Keyed->Int) (a b:Array Keyed) {β:Type} (c:Option (Array Keyed)×β):Prop
 |mk (r:Array Keyed) (e:c.1=some r) (h:Mgd key a.toList b.toList r.toList):Dn key a b c
inductive LoA (key:Keyed->Int) (a b:Array Keyed) (n:Nat) (c:Option (Array Keyed)×Array Keyed×Nat×Nat×Nat):Prop
 |mk (o:Array Keyed) (p q mg:Nat) (e:c=(none,o,p,q,mg)) (h:ML key a b o p q) (l:n<=p+q):LoA key a b n c
inductive LoB (key:Keyed->Int) (a b:Array Keyed) (n:Nat) (c:Option (Array Keyed)×Array Keyed×Nat×Nat×Nat×Nat):Prop
 |mk (o:Array Keyed) (p q ac bc:Nat) (e:c=(none,o,p,q,ac,bc)) (h:ML key a b o p q) (l:n<=p+q):LoB key a b n c
inductive LoC (key:Keyed->Int) (a b:Array Keyed) (n:Nat) (c:Option (Array Keyed)×Array Keyed×Nat×Nat×Nat×Nat×Nat):Prop
 |mk (o:Array Keyed) (p q mg ac bc:Nat) (e:c=(none,o,p,q,mg,ac,bc)) (h:ML key a b o p q) (l:n<=p+q):LoC key a b n c
set_option hygiene false in
local macro_rules | `(tactic| walk_at "TAIL_B")=>`(tactic| (
 refine wpS_bind (yf ex ?_)
 (try dsimp only)
 have G4:MGL key a.toList b.toList (o3.push x).toList (p2+1) q3:=by
  rw[yG]
  exact G3.pushA sa ex' hv3
 by_cases d5:(p2+1+1==a.size)=true
 ·rw[if_pos d5]
  exact wpS_pure ⟨hs4,.inl ⟨_,rfl,lastA G4 (beq_iff_eq.mp d5)⟩⟩
 rw[if_neg d5]
 have hp5:p2+1+1<a.size:=by
  have:¬ p2+1+1=a.size:=fun z=>d5 (beq_iff_eq.mpr z)
  omega
 split
 ·exact wpS_pure ⟨hs4,.inr ⟨_,_,_,_,_,_,rfl,⟨hp5,hq3,G4⟩,by omega⟩⟩
 ·exact wpS_pure ⟨hs4,_,_,_,_,_,_,rfl,⟨hp5,hq3,G4⟩,by omega⟩))
set_option hygiene false in
local macro_rules | `(tactic| walk_at "TAIL_A")=>`(tactic| (
 refine wpS_bind (yf ey ?_)
 (try dsimp only)
 have G2:MGL key a.toList b.toList (o2.push y).toList p2 (q1+1):=by
  rw[yG]
  exact G.pushB sb ey' hv
 by_cases d3:(q1+1==b.size)=true
 ·rw[if_pos d3]
  exact wpS_pure ⟨hs4,.inl ⟨_,rfl,doneB G2 (by have:=beq_iff_eq.mp d3;omega)⟩⟩
 rw[if_neg d3]
 have hq:q1+1<b.size:=by
  have:¬ q1+1=b.size:=fun z=>d3 (beq_iff_eq.mpr z)
  omega
 obtain⟨x,ex,ex'⟩:=s_at (a:=a) (i:=p2) (by omega)
 refine wpS_bind (yf ex ?_)
 refine wpS_bind (gallopL hc (hs4.kind.trans hk) (ma x (qE ex')) mb (by omega) (fun p q u v _ hpq _ hu hv=>Jk sb hpq hu hv) (by omega) fun k2 hn1 hn2 hn3=>?_)
 (try dsimp only)
 by_cases ck2:k2>0
 ·rw[if_pos ck2]
  have G3:MGL key a.toList b.toList (o2.push y++b.extract (q1+1) (q1+1+k2)).toList p2 (q1+1+k2):=by
   rw[zc,ext_k]
   refine G2.addB sb (by rw[zC];omega) fun u hu v hv=>?_
   obtain⟨j,j1,j2,j3⟩:=xt hu
   exact yr (xf (hn2 j u j1 j3)) (ju sa ex' hv)
  by_cases d4:(q1+1+k2==b.size)=true
  ·rw[if_pos d4]
   exact wpS_pure ⟨hs4,.inl ⟨_,rfl,doneB G3 (by have:=beq_iff_eq.mp d4;omega)⟩⟩
  rw[if_neg d4]
  have hq3:q1+1+k2<b.size:=by
   have:¬ q1+1+k2=b.size:=fun z=>d4 (beq_iff_eq.mpr z)
   omega
  have hv3:∀v∈b.toList.drop (q1+1+k2),key x<=key v:=fun v hv=>by
   obtain⟨j,j1,j2⟩:=jT hv
   rw[zC]at j1
   exact hn3 (k2+j) v (by omega) (by omega) (by rw[<-Nat.add_assoc];exact j2)
  have hqe:q1+1<=q1+1+k2:=Nat.le_add_right _ _
  generalize o2.push y++b.extract (q1+1) (q1+1+k2)=o3 at G3 ⊢
  generalize q1+1+k2=q3 at G3 hq3 hv3 hqe ⊢
  walk_at "TAIL_B"
 ·rw[if_neg ck2]
  have k0:k2=0:=by omega
  subst k0
  have G3:=G2
  have hv3:∀v∈b.toList.drop (q1+1),key x<=key v:=fun v hv=>by
   obtain⟨j,j1,j2⟩:=jT hv
   rw[zC]at j1
   exact hn3 j v (by omega) (by omega) j2
  have hq3:=hq
  obtain⟨o3,eo3⟩:∃o3,o2.push y=o3:=⟨_,rfl⟩
  obtain⟨q3,eq3⟩:∃q3,q1+1=q3:=⟨_,rfl⟩
  rw[eo3,eq3]at G3 ⊢
  rw[eq3]at hq3 hv3
  walk_at "TAIL_B"))
theorem mergeLo_ok {a b:Array Keyed}{Q:Array Keyed->SortSt->Prop}(hc:SCmp prog w A s κ mem key)(hk:kindOf st=κ)(ma:∀x∈a.toList,mem x)(mb:∀x∈b.toList,mem x)(sa:Srt key a.toList)(sb:Srt key b.toList)(na:1<=a.size)(nb:1<=b.size)
  (hlo:∀x,b.toList[0]? = some x->∀y∈a.toList,key x<=key y) (hhi:∀x∈b.toList,∀y,a.toList[a.size-1]? = some y->key x<=key y)
  (h:∀r st',SSame st st'->Mgd key a.toList b.toList r.toList->Q r st'):wpS (model prog w) A E s (mergeLo' a b) Q st:=by
 have doneB:∀{out:Array Keyed} {ia ib:Nat},MGL key a.toList b.toList out.toList ia ib->b.size<=ib->Mgd key a.toList b.toList (out++a.extract ia a.size++b.extract ib b.size).toList:=fun {out ia ib} g hz=>by
  rw[zc,zc,zAE,zAE];exact g.done sa sb (ble_nilR (by rw[zC];exact hz))
 have doneA:∀{out:Array Keyed} {ia ib:Nat},MGL key a.toList b.toList out.toList ia ib->a.size<=ia->Mgd key a.toList b.toList (out++a.extract ia a.size++b.extract ib b.size).toList:=fun {out ia ib} g hz=>by
  rw[zc,zc,zAE,zAE];exact g.done sa sb (ble_nilL (by rw[zC];exact hz))
 have lastA:∀{out:Array Keyed} {ia ib:Nat},MGL key a.toList b.toList out.toList ia ib->ia+1=a.size->Mgd key a.toList b.toList (out++b.extract ib b.size++a.extract ia a.size).toList:=fun {out ia ib} g hz=>by
  rw[zc,zc,zAE,zAE];refine g.doneB sa sb fun x hx y hy=>?_;obtain⟨j,h1,h2⟩:=jT hy;rw[zC]at h1;rw[show ia+j=a.size-1 by omega]at h2;exact hhi x (yU hx) y h2
 obtain⟨b0,eb0,eb0'⟩:=s_at (a:=b) (i:=0) (by omega);unfold mergeLo';refine wpS_bind (wpS_lift (wpAny_rule ⟨rfl,?_⟩));refine wpS_bind (yf eb0 ?_);(try dsimp only)
 have g0:MGL key a.toList b.toList #[b0].toList 0 1:=MGL.zero.pushB sb eb0' fun y hy=>hlo b0 eb0' y hy;by_cases z1:(1==b.size)=true
 ·rw[if_pos z1];exact wpS_pure (h _ st (SSame.refl st) (doneB g0 (by have:=beq_iff_eq.mp z1;omega)))
 rw[if_neg z1];by_cases z2:(0+1==a.size)=true
 ·rw[if_pos z2];exact wpS_pure (h _ st (SSame.refl st) (lastA g0 (by have:=beq_iff_eq.mp z2;omega)))
 rw[if_neg z2];have z1':1<b.size:=by
  have:¬ 1=b.size:=fun z=>z1 (beq_iff_eq.mpr z);omega
 have z2':0+1<a.size:=by
  have:¬ 0+1=a.size:=fun z=>z2 (beq_iff_eq.mpr z);omega
 refine wpS_bind (wpS_get ?_);refine wpS_bind (wpS_mono (wpS_forRange (I:=fun i c st'=>SSame st st'/\LoA key a b (i+1) c)
  (Q:=fun c st'=>SSame st st'/\Dn key a b c) ?_ ?_ ⟨SSame.refl st,_,_,_,_,rfl,⟨z2',z1',g0⟩,by omega⟩) ?_)
 ·rintro i c st1 _ hi ⟨hs1,out,ia,ib,mg,rfl,hM,hlen⟩;(try dsimp only)
  refine wpS_bind (wpS_mono (wpS_forRange (I:=fun j c st'=>SSame st st'/\LoB key a b (ia+ib+j) c)
   (Q:=fun c st'=>SSame st st'/\(Dn key a b c\/LoB key a b (ia+ib+1) c)) ?_ ?_ ⟨hs1,_,_,_,_,_,rfl,hM,by omega⟩) ?_)
  ·rintro j c st2 _ hj ⟨hs2,o,p,q,ac,bc,rfl,hN,hl2⟩;(try dsimp only)
   obtain⟨y,ey,ey'⟩:=s_at hN.hb;obtain⟨x,ex,ex'⟩:=s_at (a:=a) (i:=p) (by have:=hN.ha;omega);refine wpS_bind (yf ey (wpS_bind (yf ex ?_)));refine wpS_bind (s_lt hc (hs2.kind.trans hk) (mb y (qE ey')) (ma x (qE ex')) ?_);(try dsimp only)
   by_cases lt:key y<key x
   ·rw[decide_eq_true lt,if_pos rfl];refine wpS_bind (yf ey ?_);(try dsimp only)
    have g1:MGL key a.toList b.toList (o.push y).toList p (q+1):=by
     rw[yG];exact hN.g.pushB sb ey' fun v hv=>by have:=ju sa ex' hv;omega
    by_cases c1:(q+1==b.size)=true
    ·rw[if_pos c1];exact wpS_pure ⟨hs2,.inl ⟨_,rfl,doneB g1 (by have:=beq_iff_eq.mp c1;omega)⟩⟩
    ·rw[if_neg c1];have c1':q+1<b.size:=by
      have:¬ q+1=b.size:=fun z=>c1 (beq_iff_eq.mpr z);have:=hN.hb;omega
     by_cases c2:bc+1>=mg
     ·rw[if_pos c2];exact wpS_pure ⟨hs2,.inr ⟨_,_,_,_,_,rfl,⟨hN.ha,c1',g1⟩,by omega⟩⟩
     ·rw[if_neg c2];exact wpS_pure ⟨hs2,_,_,_,_,_,rfl,⟨hN.ha,c1',g1⟩,by omega⟩
   ·rw[decide_eq_false lt,if_neg (by decide)];refine wpS_bind (yf ex ?_);(try dsimp only)
    have g1:MGL key a.toList b.toList (o.push x).toList (p+1) q:=by
     rw[yG];exact hN.g.pushA sa ex' fun v hv=>by have:=ju sb ey' hv;omega
    by_cases c1:(p+1+1==a.size)=true
    ·rw[if_pos c1];exact wpS_pure ⟨hs2,.inl ⟨_,rfl,lastA g1 (beq_iff_eq.mp c1)⟩⟩
    ·rw[if_neg c1];have c1':p+1+1<a.size:=by
      have:¬ p+1+1=a.size:=fun z=>c1 (beq_iff_eq.mpr z);have:=hN.ha;omega
     by_cases c2:ac+1>=mg
     ·rw[if_pos c2];exact wpS_pure ⟨hs2,.inr ⟨_,_,_,_,_,rfl,⟨c1',hN.hb,g1⟩,by omega⟩⟩
     ·rw[if_neg c2];exact wpS_pure ⟨hs2,_,_,_,_,_,rfl,⟨c1',hN.hb,g1⟩,by omega⟩
  ·rintro c st2 ⟨hs2,o,p,q,ac,bc,rfl,hN,hl2⟩;exact⟨hs2,.inr ⟨_,_,_,_,_,rfl,hN,by have:=yk (zS (a.size+b.size));omega⟩⟩
  ·rintro c st2 ⟨hs2,⟨r,er,hr⟩|⟨o,p,q,ac,bc,rfl,hN,hl2⟩⟩
   ·rw[er];exact wpS_pure ⟨hs2,r,rfl,hr⟩
   (try dsimp only)
   refine wpS_bind (wpS_lift (wpAny_rule ⟨rfl,?_⟩));refine wpS_bind (wpS_mono (wpS_forRange (I:=fun j c st'=>SSame st st'/\LoC key a b (p+q) c)
    (Q:=fun c st'=>SSame st st'/\(Dn key a b c\/LoC key a b (p+q) c)) ?_ ?_ ⟨hs2,_,_,_,_,_,_,rfl,hN,zB _⟩) ?_)
   ·rintro j c st3 _ hj ⟨hs3,o1,p1,q1,mg1,ac1,bc1,rfl,hR,hl3⟩;(try dsimp only)
    obtain⟨y,ey,ey'⟩:=s_at hR.hb;have ha1:=hR.ha;have hb1:=hR.hb;generalize mg1-1=g1;apply wpS_iteG (g1:=g1) (g2:=mg1);intro g1
    ·refine wpS_bind (s_setG hs3 fun st4 hs4=>?_);refine wpS_bind (yf ey ?_);refine wpS_bind (gallopR hc (hs4.kind.trans hk) (mb y (qE ey')) ma (by omega) (fun p q u v _ hpq _ hu hv=>Jk sa hpq hu hv) (by omega) fun k hm1 hm2 hm3=>?_);(try dsimp only)
     by_cases ck:k>0
     ·rw[if_pos ck];have G:MGL key a.toList b.toList (o1++a.extract p1 (p1+k)).toList (p1+k) q1:=by
       rw[zc,ext_k];refine hR.g.addA sa (by rw[zC];omega) fun u hu v hv=>?_;obtain⟨j,j1,j2,j3⟩:=xt hu;exact yr (hm2 j u j1 j3) (ju sb ey' hv)
      by_cases d1:(p1+k+1==a.size)=true
      ·rw[if_pos d1];exact wpS_pure ⟨hs4,.inl ⟨_,rfl,lastA G (beq_iff_eq.mp d1)⟩⟩
      rw[if_neg d1];by_cases d2:(p1+k==a.size)=true
      ·rw[if_pos d2];exact wpS_pure ⟨hs4,.inl ⟨_,rfl,doneA G (by have:=beq_iff_eq.mp d2;omega)⟩⟩
      rw[if_neg d2];have hp:p1+k+1<a.size:=by
       have:¬ p1+k+1=a.size:=fun z=>d1 (beq_iff_eq.mpr z);have:¬ p1+k=a.size:=fun z=>d2 (beq_iff_eq.mpr z);omega
      have hv:∀v∈a.toList.drop (p1+k),key y<=key v:=fun v hv=>by
       obtain⟨j,j1,j2⟩:=jT hv;rw[zC]at j1;have:=hm3 (k+j) v (by omega) (by omega) (by rw[<-Nat.add_assoc];exact j2);omega
      have hle:p1<=p1+k:=Nat.le_add_right _ _;generalize o1++a.extract p1 (p1+k)=o2 at G ⊢;generalize p1+k=p2 at G hp hv hle ⊢
      walk_at "TAIL_A"
     ·rw[if_neg ck];have k0:k=0:=by omega
      subst k0;have G:=hR.g;have hp:=hR.ha;have hv:∀v∈a.toList.drop p1,key y<=key v:=fun v hv=>by
       obtain⟨j,j1,j2⟩:=jT hv;rw[zC]at j1;have:=hm3 j v (by omega) (by omega) j2;omega
      have hle:p1<=p1:=zB _;obtain⟨o2,eo2⟩:∃o2,o1=o2:=⟨_,rfl⟩;obtain⟨p2,ep2⟩:∃p2,p1=p2:=⟨_,rfl⟩;rw[eo2,ep2]at G ⊢;rw[ep2]at hp hv
      walk_at "TAIL_A"
   ·rintro c st3 ⟨hs3,o1,p1,q1,mg1,ac1,bc1,rfl,hR,hl3⟩;exact⟨hs3,.inr ⟨_,_,_,_,_,_,rfl,hR,hl3⟩⟩
   ·rintro c st3 ⟨hs3,⟨r,er,hr⟩|⟨o1,p1,q1,mg1,ac1,bc1,rfl,hR,hl3⟩⟩
    ·rw[er];exact wpS_pure ⟨hs3,r,rfl,hr⟩
    (try dsimp only)
    refine wpS_bind (s_setG hs3 fun st4 hs4=>?_);exact wpS_pure ⟨hs4,_,_,_,_,rfl,hR,by omega⟩
 ·rintro c st1 ⟨hs1,out,ia,ib,mg,rfl,hM,hlen⟩;have:=yk (zS (a.size+b.size));have:=hM.ha;have:=hM.hb;omega
 ·rintro c st1 ⟨hs1,r,er,hr⟩;(try dsimp only)
  rw[er];exact wpS_pure (h r st1 hs1 hr)
end
section
variable {key:Keyed->Int}{a b out:List Keyed}{na nb k:Nat}
structure MH (key:Keyed->Int) (a b out:List Keyed) (na nb:Nat):Prop where
 hna:na<=a.length
 hnb:nb<=b.length
 g:MGL (fun x=>-key x) a.reverse b.reverse out (a.length-na) (b.length-nb)
theorem srt_rev (h:Srt key a):Srt (fun x=>-key x) a.reverse:=by
 unfold Srt at h ⊢;rw[List.pairwise_reverse];exact h.imp fun z=>Int.neg_le_neg z
theorem jG (h:na<=a.length):a.reverse.drop (a.length-na)=(a.take na).reverse:=by
 rw[List.drop_reverse,show a.length-(a.length-na)=na by omega]
theorem MH.symm (h:MH key a b out na nb):MH key b a out nb na:=⟨h.hnb,h.hna,h.g.symm⟩
theorem MH.addA {t:Nat}(h:MH key a b out na nb)(J:Srt key a)(M:t<=na)(H:∀x∈(a.drop t).take (na-t),∀y∈b.take nb,key y<=key x):MH key a b (out++((a.drop t).take (na-t)).reverse) t nb:=by
 have hna:=h.hna;have z:(a.reverse.drop (a.length-na)).take (na-t)=((a.drop t).take (na-t)).reverse:=by
  rw[jG hna,List.take_reverse,qO,Nat.min_eq_left hna,show na-(na-t)=t by omega,List.drop_take]
 have:=h.g.addA (k:=na-t) (srt_rev J) (by rw[zw];omega) (by
  rw[z,jG h.hnb];intro x B y G;have:=H x (yl.mp B) y (yl.mp G);show -key x <= -key y
  omega)
 rw[z,show a.length-na+(na-t)=a.length-t by omega]at this;exact⟨by omega,h.hnb,this⟩
theorem MH.pushA {x:Keyed}{t:Nat}(h:MH key a b out na nb)(M:Srt key a)(O:t+1=na)(G:a[t]? = some x)(J:∀y∈b.take nb,key y<=key x):MH key a b (out++[x]) t nb:=by
 have e:((a.drop t).take (na-t))=[x]:=by
  rw[show na-t=1 by omega];exact take_one G
 have:=h.addA M (t:=t) (by omega) (by
  rw[e];intro z B y H;rw[zE]at B;rw[B];exact J y H)
 rw[e]at this;exact this
theorem MH.addB {t:Nat}(h:MH key a b out na nb)(B:Srt key b)(z:t<=nb)(G:∀x∈(b.drop t).take (nb-t),∀y∈a.take na,key y<=key x):MH key a b (out++((b.drop t).take (nb-t)).reverse) na t :=
 (h.symm.addA B z G).symm
theorem MH.pushB {x:Keyed}{t:Nat}(h:MH key a b out na nb)(G:Srt key b)(B:t+1=nb)(z:b[t]? = some x)(H:∀y∈a.take na,key y<=key x):MH key a b (out++[x]) na t :=
 (h.symm.pushA G B z H).symm
theorem mgd_rev {r:List Keyed}(h:Mgd (fun x=>-key x) a.reverse b.reverse r):Mgd key a b r.reverse:=by
 refine⟨?_,?_⟩
 ·refine(List.reverse_perm r).trans (h.1.trans ?_);exact(List.reverse_perm a).append (List.reverse_perm b)
 ·have z:=h.2;unfold Srt at z ⊢;rw[List.pairwise_reverse];exact z.imp fun B=>by dsimp only at B;omega
theorem MH.done (h:MH key a b out na nb)(J:Srt key a)(G:Srt key b)(H:Ble key (a.take na) (b.take nb)):Mgd key a b (a.take na++b.take nb++out.reverse):=by
 have:=mgd_rev (h.g.doneB (srt_rev J) (srt_rev G) (by
  rw[jG h.hna,jG h.hnb];intro x z y B;have:=H y (yl.mp B) x (yl.mp z);show -key x <= -key y
  omega))
 rw[jG h.hna,jG h.hnb,List.reverse_append,List.reverse_append,List.reverse_reverse,List.reverse_reverse,<-zP]at this;exact this
theorem MH.doneB (h:MH key a b out na nb)(G:Srt key a)(z:Srt key b)(B:Ble key (b.take nb) (a.take na)):Mgd key a b (b.take nb++a.take na++out.reverse):=by
 have:=h.symm.done z G B;exact⟨this.1.trans xw,this.2⟩
theorem MH.zero:MH key a b [] a.length b.length:=⟨zB _,zB _,by rw[Nat.sub_self,Nat.sub_self];exact MGL.zero⟩
theorem ext_0 {a:Array Keyed}{i:Nat}:(a.extract 0 i).toList=a.toList.take i:=by
 rw[x8,xD];rfl
theorem ext_r {a:Array Keyed}{t i:Nat}:(a.extract t i).reverse.toList=((a.toList.drop t).take (i-t)).reverse:=by
 rw[Array.toList_reverse,x8,xD]
theorem jv {l:List Keyed}{n:Nat}{x:Keyed}(h:x∈l.take n):∃j,j<n/\l[j]? = some x:=by
 obtain⟨j,e⟩:=zO.mp h;have B:j<n:=by
  rcases Nat.lt_or_ge j n with z|z
  ·exact z
  ·rw[ze (by rw[qO];omega)]at e;cases e
 rw[yP B]at e;exact⟨j,B,e⟩
theorem JS {l:List Keyed}(h:Srt key l){i:Nat}{x y:Keyed}(B:l[i]? = some x)(G:y∈l.take (i+1)):key y<=key x:=by
 obtain⟨j,H,z⟩:=jv G;exact Jk h (by omega) z B
end
section
variable {prog:Program}{w:World}{A:Around}{E:Value->Shared->Prop}{s:Shared}{κ:SortKind}{mem:Keyed->Prop}{key:Keyed->Int}{st:SortSt}
structure MHs (key:Keyed->Int) (a b out:Array Keyed) (na nb:Nat):Prop where
 ha:0<na
 hb:1<nb
 la:na<=a.size
 lb:nb<=b.size
 g:MH key a.toList b.toList out.toList na nb
inductive HiA (key:Keyed->Int) (a b:Array Keyed) (n m:Nat) (c:Option (Array Keyed)×Nat×Nat×Array Keyed×Nat):Prop
 |mk (p q:Nat) (o:Array Keyed) (mg:Nat) (e:c=(none,p,q,o,mg)) (h:MHs key a b o p q) (l:n+p+q<=m):HiA key a b n m c
inductive HiB (key:Keyed->Int) (a b:Array Keyed) (n m:Nat) (c:Option (Array Keyed)×Nat×Nat×Array Keyed×Nat×Nat):Prop
 |mk (p q:Nat) (o:Array Keyed) (ac bc:Nat) (e:c=(none,p,q,o,ac,bc)) (h:MHs key a b o p q) (l:p+q+n<=m):HiB key a b n m c
inductive HiC (key:Keyed->Int) (a b:Array Keyed) (m:Nat) (c:Option (Array Keyed)×Nat×Nat×Array Keyed×Nat×Nat×Nat):Prop
 |mk (p q:Nat) (o:Array Keyed) (mg ac bc:Nat) (e:c=(none,p,q,o,mg,ac,bc)) (h:MHs key a b o p q) (l:p+q<=m):HiC key a b m c
set_option hygiene false in
local macro_rules | `(tactic| walk_at "TAIL_D")=>`(tactic| (
 refine wpS_bind (yf ex ?_)
 (try dsimp only)
 have G4:MH key a.toList b.toList (o3.push x).toList (p2-1) q3:=by
  rw[yG]
  exact G3.pushA sa (by omega) ex' hv3
 by_cases d5:(p2-1==0)=true
 ·rw[if_pos d5]
  exact wpS_pure ⟨hs4,.inl ⟨_,rfl,doneA G4 (by have:=beq_iff_eq.mp d5;omega)⟩⟩
 rw[if_neg d5]
 have hp5:0<p2-1:=by
  have:¬ p2-1=0:=fun z=>d5 (beq_iff_eq.mpr z)
  omega
 split
 ·exact wpS_pure ⟨hs4,.inr ⟨_,_,_,_,_,_,rfl,⟨hp5,hq3,by omega,by omega,G4⟩,by omega⟩⟩
 ·exact wpS_pure ⟨hs4,_,_,_,_,_,_,rfl,⟨hp5,hq3,by omega,by omega,G4⟩,by omega⟩))
set_option hygiene false in
local macro_rules | `(tactic| walk_at "TAIL_C")=>`(tactic| (
 refine wpS_bind (yf ey ?_)
 (try dsimp only)
 have G2:MH key a.toList b.toList (o2.push y).toList p2 (q1-1):=by
  rw[yG]
  exact G.pushB sb (by omega) ey' hv
 by_cases d3:(q1-1==1)=true
 ·rw[if_pos d3]
  exact wpS_pure ⟨hs4,.inl ⟨_,rfl,firstB G2 (beq_iff_eq.mp d3)⟩⟩
 rw[if_neg d3]
 have hq:1<q1-1:=by
  have:¬ q1-1=1:=fun z=>d3 (beq_iff_eq.mpr z)
  omega
 obtain⟨x,ex,ex'⟩:=s_at (a:=a) (i:=p2-1) (by omega)
 refine wpS_bind (yf ex ?_)
 refine wpS_bind (gallopL hc (hs4.kind.trans hk) (ma x (qE ex')) mb (by omega) (fun p q u v _ hpq _ hu hv=>Jk sb hpq hu hv) (by omega) fun t2 hn1 hn2 hn3=>?_)
 (try dsimp only)
 have hv3:∀v∈b.toList.take t2,key v<=key x:=fun v hv=>by
  obtain⟨j,j1,j2⟩:=jv hv
  exact xf (hn2 j v j1 (by rw[jJ];exact j2))
 by_cases ck2:q1-1-t2>0
 ·rw[if_pos ck2]
  have G3:MH key a.toList b.toList (o2.push y++(b.extract t2 (q1-1)).reverse).toList p2 t2:=by
   rw[zc,ext_r]
   refine G2.addB sb (by omega) fun u hu v hv=>?_
   obtain⟨j,j1,j2,j3⟩:=xt hu
   refine yr (JS sa ex' (by rw[show p2-1+1=p2 by omega];exact hv)) ?_
   exact hn3 (t2+j) u (by omega) (by omega) (by rw[jJ];exact j3)
  by_cases d4:(t2==1)=true
  ·rw[if_pos d4]
   exact wpS_pure ⟨hs4,.inl ⟨_,rfl,firstB G3 (beq_iff_eq.mp d4)⟩⟩
  rw[if_neg d4]
  by_cases d6:(t2==0)=true
  ·rw[if_pos d6]
   exact wpS_pure ⟨hs4,.inl ⟨_,rfl,doneZ G3 (beq_iff_eq.mp d6)⟩⟩
  rw[if_neg d6]
  have hq3:1<t2:=by
   have:¬ t2=1:=fun z=>d4 (beq_iff_eq.mpr z)
   have:¬ t2=0:=fun z=>d6 (beq_iff_eq.mpr z)
   omega
  have hqe:t2<=q1-1:=by omega
  generalize o2.push y++(b.extract t2 (q1-1)).reverse=o3 at G3 ⊢
  obtain⟨q3,eq3⟩:∃q3,t2=q3:=⟨_,rfl⟩
  rw[eq3]at G3 hq3 hv3 hqe ⊢
  walk_at "TAIL_D"
 ·rw[if_neg ck2]
  have k0:t2=q1-1:=by omega
  rw[k0]at hv3
  have G3:=G2
  have hq3:=hq
  have hqe:q1-1<=q1-1:=zB _
  obtain⟨o3,eo3⟩:∃o3,o2.push y=o3:=⟨_,rfl⟩
  obtain⟨q3,eq3⟩:∃q3,q1-1=q3:=⟨_,rfl⟩
  rw[eo3,eq3]at G3 ⊢
  rw[eq3]at hq3 hv3 hqe
  walk_at "TAIL_D"))
theorem mergeHi_ok {a b:Array Keyed}{Q:Array Keyed->SortSt->Prop}(hc:SCmp prog w A s κ mem key)(hk:kindOf st=κ)(ma:∀x∈a.toList,mem x)(mb:∀x∈b.toList,mem x)(sa:Srt key a.toList)(sb:Srt key b.toList)(na:1<=a.size)(nb:1<=b.size)
  (hlo:∀x,b.toList[0]? = some x->∀y∈a.toList,key x<=key y) (hhi:∀x∈b.toList,∀y,a.toList[a.size-1]? = some y->key x<=key y)
  (h:∀r st',SSame st st'->Mgd key a.toList b.toList r.toList->Q r st'):wpS (model prog w) A E s (mergeHi' a b) Q st:=by
 have doneA:∀{out:Array Keyed} {p q:Nat},MH key a.toList b.toList out.toList p q->p=0->Mgd key a.toList b.toList (a.extract 0 p++b.extract 0 q++out.reverse).toList:=fun {out p q} g hz=>by
  rw[zc,zc,ext_0,ext_0,Array.toList_reverse];exact g.done sa sb fun x hx=>by rw[hz,List.take_zero]at hx;cases hx
 have doneZ:∀{out:Array Keyed} {p q:Nat},MH key a.toList b.toList out.toList p q->q=0->Mgd key a.toList b.toList (a.extract 0 p++b.extract 0 q++out.reverse).toList:=fun {out p q} g hz=>by
  rw[zc,zc,ext_0,ext_0,Array.toList_reverse];exact g.done sa sb fun x _ y hy=>by rw[hz,List.take_zero]at hy;cases hy
 have firstB:∀{out:Array Keyed} {p q:Nat},MH key a.toList b.toList out.toList p q->q=1->Mgd key a.toList b.toList (b.extract 0 q++a.extract 0 p++out.reverse).toList:=fun {out p q} g hz=>by
  rw[zc,zc,ext_0,ext_0,Array.toList_reverse];refine g.doneB sa sb fun x hx y hy=>?_;obtain⟨j,h1,h2⟩:=jv hx;rw[show j=0 by omega]at h2;exact hlo x h2 y (yC hy)
 obtain⟨a0,ea0,ea0'⟩:=s_at (a:=a) (i:=a.size-1) (by omega);unfold mergeHi';refine wpS_bind (wpS_lift (wpAny_rule ⟨rfl,?_⟩));refine wpS_bind (yf ea0 ?_);(try dsimp only)
 have g0:MH key a.toList b.toList #[a0].toList (a.size-1) b.size:=by
  have:=(MH.zero (key:=key) (a:=a.toList) (b:=b.toList)).pushA sa (t:=a.size-1) (by rw[zC];omega) ea0' fun y hy=>hhi y (yC hy) a0 ea0';rw[zC]at this;exact this
 by_cases z1:(a.size-1==0)=true
 ·rw[if_pos z1];exact wpS_pure (h _ st (SSame.refl st) (doneA g0 (beq_iff_eq.mp z1)))
 rw[if_neg z1];by_cases z2:(b.size==1)=true
 ·rw[if_pos z2];exact wpS_pure (h _ st (SSame.refl st) (firstB g0 (beq_iff_eq.mp z2)))
 rw[if_neg z2];have z1':0<a.size-1:=by
  have:¬ a.size-1=0:=fun z=>z1 (beq_iff_eq.mpr z);omega
 have z2':1<b.size:=by
  have:¬ b.size=1:=fun z=>z2 (beq_iff_eq.mpr z);omega
 refine wpS_bind (wpS_get ?_);refine wpS_bind (wpS_mono (wpS_forRange (I:=fun i c st'=>SSame st st'/\HiA key a b (i+1) (a.size+b.size) c)
  (Q:=fun c st'=>SSame st st'/\Dn key a b c) ?_ ?_ ⟨SSame.refl st,_,_,_,_,rfl,⟨z1',z2',by omega,by omega,g0⟩,by omega⟩) ?_)
 ·rintro i c st1 _ hi ⟨hs1,ia,ib,out,mg,rfl,hM,hlen⟩;(try dsimp only)
  refine wpS_bind (wpS_mono (wpS_forRange (I:=fun j c st'=>SSame st st'/\HiB key a b j (ia+ib) c)
   (Q:=fun c st'=>SSame st st'/\(Dn key a b c\/HiB key a b 1 (ia+ib) c)) ?_ ?_ ⟨hs1,_,_,_,_,_,rfl,hM,by omega⟩) ?_)
  ·rintro j c st2 _ hj ⟨hs2,p,q,o,ac,bc,rfl,hN,hl2⟩;(try dsimp only)
   have hN1:=hN.ha;have hN2:=hN.hb;have hN3:=hN.la;have hN4:=hN.lb;obtain⟨y,ey,ey'⟩:=s_at (a:=b) (i:=q-1) (by omega);obtain⟨x,ex,ex'⟩:=s_at (a:=a) (i:=p-1) (by omega);refine wpS_bind (yf ey (wpS_bind (yf ex ?_)));refine wpS_bind (s_lt hc (hs2.kind.trans hk) (mb y (qE ey')) (ma x (qE ex')) ?_);(try dsimp only)
   by_cases lt:key y<key x
   ·rw[decide_eq_true lt,if_pos rfl];refine wpS_bind (yf ex ?_);(try dsimp only)
    have g1:MH key a.toList b.toList (o.push x).toList (p-1) q:=by
     rw[yG];exact hN.g.pushA sa (by omega) ex' fun v hv=>by
      have:=JS sb ey' (y:=v) (by rw[show q-1+1=q by omega];exact hv);omega
    by_cases c1:(p-1==0)=true
    ·rw[if_pos c1];exact wpS_pure ⟨hs2,.inl ⟨_,rfl,doneA g1 (beq_iff_eq.mp c1)⟩⟩
    ·rw[if_neg c1];have c1':0<p-1:=by
      have:¬ p-1=0:=fun z=>c1 (beq_iff_eq.mpr z);omega
     by_cases c2:ac+1>=mg
     ·rw[if_pos c2];exact wpS_pure ⟨hs2,.inr ⟨_,_,_,_,_,rfl,⟨c1',hN2,by omega,hN4,g1⟩,by omega⟩⟩
     ·rw[if_neg c2];exact wpS_pure ⟨hs2,_,_,_,_,_,rfl,⟨c1',hN2,by omega,hN4,g1⟩,by omega⟩
   ·rw[decide_eq_false lt,if_neg (by decide)];refine wpS_bind (yf ey ?_);(try dsimp only)
    have g1:MH key a.toList b.toList (o.push y).toList p (q-1):=by
     rw[yG];exact hN.g.pushB sb (by omega) ey' fun v hv=>by
      have:=JS sa ex' (y:=v) (by rw[show p-1+1=p by omega];exact hv);omega
    by_cases c1:(q-1==1)=true
    ·rw[if_pos c1];exact wpS_pure ⟨hs2,.inl ⟨_,rfl,firstB g1 (beq_iff_eq.mp c1)⟩⟩
    ·rw[if_neg c1];have c1':1<q-1:=by
      have:¬ q-1=1:=fun z=>c1 (beq_iff_eq.mpr z);omega
     by_cases c2:bc+1>=mg
     ·rw[if_pos c2];exact wpS_pure ⟨hs2,.inr ⟨_,_,_,_,_,rfl,⟨hN1,c1',hN3,by omega,g1⟩,by omega⟩⟩
     ·rw[if_neg c2];exact wpS_pure ⟨hs2,_,_,_,_,_,rfl,⟨hN1,c1',hN3,by omega,g1⟩,by omega⟩
  ·rintro c st2 ⟨hs2,p,q,o,ac,bc,rfl,hN,hl2⟩;exact⟨hs2,.inr ⟨_,_,_,_,_,rfl,hN,by have:=yk (zS (a.size+b.size));omega⟩⟩
  ·rintro c st2 ⟨hs2,⟨r,er,hr⟩|⟨p,q,o,ac,bc,rfl,hN,hl2⟩⟩
   ·rw[er];exact wpS_pure ⟨hs2,r,rfl,hr⟩
   (try dsimp only)
   refine wpS_bind (wpS_lift (wpAny_rule ⟨rfl,?_⟩));refine wpS_bind (wpS_mono (wpS_forRange (I:=fun j c st'=>SSame st st'/\HiC key a b (p+q) c)
    (Q:=fun c st'=>SSame st st'/\(Dn key a b c\/HiC key a b (p+q) c)) ?_ ?_ ⟨hs2,_,_,_,_,_,_,rfl,hN,zB _⟩) ?_)
   ·rintro j c st3 _ hj ⟨hs3,p1,q1,o1,mg1,ac1,bc1,rfl,hR,hl3⟩;(try dsimp only)
    have ha1:=hR.ha;have hb1:=hR.hb;have ha2:=hR.la;have hb2:=hR.lb;obtain⟨y,ey,ey'⟩:=s_at (a:=b) (i:=q1-1) (by omega);generalize mg1-1=g1;apply wpS_iteG (g1:=g1) (g2:=mg1);intro g1
    ·refine wpS_bind (s_setG hs3 fun st4 hs4=>?_);refine wpS_bind (yf ey ?_);refine wpS_bind (gallopR hc (hs4.kind.trans hk) (mb y (qE ey')) ma (by omega) (fun p q u v _ hpq _ hu hv=>Jk sa hpq hu hv) (by omega) fun t hm1 hm2 hm3=>?_);(try dsimp only)
     have hv:∀v∈a.toList.take t,key v<=key y:=fun v hv=>by
      obtain⟨j,j1,j2⟩:=jv hv;exact hm2 j v j1 (by rw[jJ];exact j2)
     by_cases ck:p1-t>0
     ·rw[if_pos ck];have G:MH key a.toList b.toList (o1++(a.extract t p1).reverse).toList t q1:=by
       rw[zc,ext_r];refine hR.g.addA sa (by omega) fun u hu v hv=>?_;obtain⟨j,j1,j2,j3⟩:=xt hu;refine yr (JS sb ey' (by rw[show q1-1+1=q1 by omega];exact hv)) ?_;exact xf (hm3 (t+j) u (by omega) (by omega) (by rw[jJ];exact j3))
      by_cases d1:(t==0)=true
      ·rw[if_pos d1];exact wpS_pure ⟨hs4,.inl ⟨_,rfl,doneA G (beq_iff_eq.mp d1)⟩⟩
      rw[if_neg d1];have hp:0<t:=by
       have:¬ t=0:=fun z=>d1 (beq_iff_eq.mpr z);omega
      have hle:t<=p1:=by omega
      generalize o1++(a.extract t p1).reverse=o2 at G ⊢;obtain⟨p2,ep2⟩:∃p2,t=p2:=⟨_,rfl⟩;rw[ep2]at G hp hv hle ⊢
      walk_at "TAIL_C"
     ·rw[if_neg ck];have k0:t=p1:=by omega
      rw[k0]at hv;have G:=hR.g;have hp:=hR.ha;have hle:p1<=p1:=zB _;obtain⟨o2,eo2⟩:∃o2,o1=o2:=⟨_,rfl⟩;obtain⟨p2,ep2⟩:∃p2,p1=p2:=⟨_,rfl⟩;rw[eo2,ep2]at G ⊢;rw[ep2]at hp hv hle
      walk_at "TAIL_C"
   ·rintro c st3 ⟨hs3,o1,p1,q1,mg1,ac1,bc1,rfl,hR,hl3⟩;exact⟨hs3,.inr ⟨_,_,_,_,_,_,rfl,hR,hl3⟩⟩
   ·rintro c st3 ⟨hs3,⟨r,er,hr⟩|⟨p1,q1,o1,mg1,ac1,bc1,rfl,hR,hl3⟩⟩
    ·rw[er];exact wpS_pure ⟨hs3,r,rfl,hr⟩
    (try dsimp only)
    refine wpS_bind (s_setG hs3 fun st4 hs4=>?_);exact wpS_pure ⟨hs4,_,_,_,_,rfl,hR,by omega⟩
 ·rintro c st1 ⟨hs1,ia,ib,out,mg,rfl,hM,hlen⟩;have:=yk (zS (a.size+b.size));have:=hM.ha;have:=hM.hb;omega
 ·rintro c st1 ⟨hs1,r,er,hr⟩;(try dsimp only)
  rw[er];exact wpS_pure (h r st1 hs1 hr)
end
section
variable {prog:Program}{w:World}{A:Around}{E:Value->Shared->Prop}{s:Shared}{κ:SortKind}{mem:Keyed->Prop}{key:Keyed->Int}{st:SortSt}{a0 xs:Array Keyed}{pd:Array (Nat×Nat×Nat)}{lo nrem:Nat}
def Kx (key:Keyed->Int)(xs:Array Keyed)(i:Nat):Int:=match xs[i]? with
 |some p=>key p
 |none=>0
theorem kx_eq {z:Array Keyed}{i j:Nat}(h:xs[i]? = z[j]?):Kx key xs i=Kx key z j:=by unfold Kx;rw[h]
def SegS (key:Keyed->Int)(xs:Array Keyed)(lo z:Nat):Prop:=∀i j,lo<=i->i<=j->j<z->Kx key xs i<=Kx key xs j
def SegD (key:Keyed->Int)(xs:Array Keyed)(lo z:Nat):Prop:=∀i j,lo<=i->i<=j->j<z->Kx key xs j<=Kx key xs i
theorem zAF {i j:Nat}(B:j<=xs.size)(k:Nat):Kx key (mirror xs i j ((j-i)/2)) k=if i<=k/\k<j then Kx key xs (i+j-1-k) else Kx key xs k:=by
 have e:=getElem?_mirror_all (i:=i) B k;by_cases z:i<=k/\k<j
 ·rw[if_pos z]at e ⊢;exact kx_eq e
 ·rw[if_neg z]at e ⊢;exact kx_eq e
theorem yu {i j:Nat}(z:j<=xs.size)(heq:∀k,i<=k->k<j->Kx key xs k=Kx key xs (j-1))(k:Nat):Kx key (mirror xs i j ((j-i)/2)) k=Kx key xs k:=by
 rw[zAF z];split
 ·rw[heq _ (by omega) (by omega),heq k (by omega) (by omega)]
 ·rfl
theorem kx_bubble {src d:Nat}(G:src<xs.size)(H:d<=src)(k:Nat) :
  Kx key (bubble xs src d) k=if k=src-d then Kx key xs src else if src-d<k/\k<=src then Kx key xs (k-1) else Kx key xs k:=by
 have e:=getElem?_bubble G d H k;by_cases B:k=src-d
 ·rw[if_pos B]at e ⊢;exact kx_eq e
 ·rw[if_neg B]at e ⊢;by_cases z:src-d<k/\k<=src
  ·rw[if_pos z]at e ⊢;exact kx_eq e
  ·rw[if_neg z]at e ⊢;exact kx_eq e
theorem SegS.ext {k:Nat}(h:SegS key xs lo k)(J:lo+1<=k)(H:Kx key xs (k-1)<=Kx key xs k):SegS key xs lo (k+1):=fun i j G B M=>by
 by_cases z:j=k
 ·by_cases y:i=j
  ·rw[y];exact xY _
  ·rw[z];exact yr (h i (k-1) G (by omega) (by omega)) H
 ·exact h i j G B (by omega)
theorem SegD.ext {k:Nat}(h:SegD key xs lo k)(J:lo+1<=k)(H:Kx key xs k<=Kx key xs (k-1)):SegD key xs lo (k+1):=fun i j G B M=>by
 by_cases z:j=k
 ·by_cases y:i=j
  ·rw[y];exact xY _
  ·rw[z];exact yr H (h i (k-1) G (by omega) (by omega))
 ·exact h i j G B (by omega)
structure SX (κ:SortKind) (a0:Array Keyed) (pd:Array (Nat×Nat×Nat)) (lo:Nat) (st:SortSt):Prop where
 kind:kindOf st=κ
 fail:failedOf st=none
 pend:pendingOf st=pd
 perm:(arrOf st).Perm a0
 pre:∀i,i<lo->(arrOf st)[i]? = a0[i]?
theorem SX.size (h:SX κ a0 pd lo st):(arrOf st).size=a0.size:=h.perm.size_eq
theorem SX.setA (h:SX κ a0 pd lo st)(B:xs.Perm (arrOf st))(G:∀i,i<lo->xs[i]? = (arrOf st)[i]?):SX κ a0 pd lo (setArr st xs) :=
 ⟨h.kind,h.fail,h.pend,B.trans h.perm,fun i z=>(G i z).trans (h.pre i z)⟩
theorem SX.mir (h:SX κ a0 pd lo st){i j:Nat}(G:lo<=i)(z:j<=a0.size):SX κ a0 pd lo (setArr st (mirror (arrOf st) i j ((j-i)/2))) :=
 h.setA (mirror_perm _ _ _ _) fun k B=>by rw[getElem?_mirror_all (by rw[h.size];exact z),if_neg (by omega)]
theorem SX.bub (h:SX κ a0 pd lo st){src d:Nat}(z:src<a0.size)(G:lo+d<=src):SX κ a0 pd lo (setArr st (bubble (arrOf st) src d)) :=
 h.setA (bubble_perm _ _ _) fun k B=>by rw[getElem?_bubble (by rw[h.size];exact z) d (by omega),if_neg (by omega),if_neg (by omega)]
theorem SX.get (h:SX κ a0 pd lo st)(G:∀x∈a0.toList,mem x){i:Nat}(H:i<a0.size):∃x,(arrOf st)[i]? = some x/\mem x/\Kx key (arrOf st) i=key x:=by
 obtain⟨x,z,B⟩:=s_at (a:=arrOf st) (i:=i) (by rw[h.size];exact H);refine⟨x,z,G x ((x9.mp h.perm).mem_iff.mp (qE B)),?_⟩;unfold Kx;rw[z]
theorem s_ltK {i j:Nat}{Q:Option Bool->SortSt->Prop}(O:SCmp prog w A s κ mem key)(B:∀x∈a0.toList,mem x)(z:SX κ a0 pd lo st)(M:i<a0.size)(H:j<a0.size)(h:Q (some (decide (Kx key (arrOf st) i<Kx key (arrOf st) j))) st):wpS (model prog w) A E s (ltAt' i j) Q st:=by
 obtain⟨x,U,G,e3⟩:=z.get (key:=key) B M;obtain⟨y,Y,J,f3⟩:=z.get (key:=key) B H;rw[e3,f3]at h;rw[ltAt'_eq];refine wpS_bind (wpS_get ?_);refine wpS_bind (yf U (wpS_bind (yf Y ?_)));exact s_lt O z.kind G J h
theorem asc_gen {a:Nat}{F:Nat->AscSt->StateT SortSt Sem (ForInStep AscSt)}{Q:AscSt->SortSt->Prop}(ha:1<=a)(M:a<=nrem)(U:SegS key (arrOf st) lo (lo+a))
  (Y:∀i n (O:ForInStep AscSt->SortSt->Prop),1<=n->n<nrem->(if Kx key (arrOf st) (lo+n)<Kx key (arrOf st) (lo+n-1) then O (.done (none,n)) st else O (.yield (none,n+1)) st)->wpS (model prog w) A E s (F i (none,n)) O st)
  (h:∀n,a<=n->n<=nrem->SegS key (arrOf st) lo (lo+n)->(n=nrem\/Kx key (arrOf st) (lo+n)<Kx key (arrOf st) (lo+n-1))->Q (none,n) st):wpS (model prog w) A E s (forIn [a:nrem] (none,a) F) Q st:=by
 refine wpS_forRange (I:=fun x c G=>G=st/\c=(none,x)/\SegS key (arrOf st) lo (lo+x)) ?_ ?_ ⟨rfl,rfl,U⟩
 ·rintro x c G H J ⟨rfl,rfl,B⟩;refine Y x x _ (by omega) J ?_;by_cases z:Kx key (arrOf G) (lo+x)<Kx key (arrOf G) (lo+x-1)
  ·rw[if_pos z];exact h x H (by omega) B (.inr z)
  ·rw[if_neg z];exact⟨rfl,rfl,B.ext (by omega) (by omega)⟩
 ·rintro c G ⟨rfl,rfl,B⟩;rw[show max a nrem=nrem by omega]at B ⊢;exact h nrem M (zB _) B (.inl rfl)
theorem desc_gen {a:Nat}{F:Nat->DescSt->StateT SortSt Sem (ForInStep DescSt)}{Q:DescSt->SortSt->Prop}(hB:SX κ a0 pd lo st)(hn:lo+nrem<=a0.size)(ha:1<=a)(han:a<=nrem)(hs:SegD key (arrOf st) lo (lo+a))
  (hF:∀i n q B (M:ForInStep DescSt->SortSt->Prop),SX κ a0 pd lo B->1<=n->n<nrem->(if Kx key (arrOf B) (lo+n)<Kx key (arrOf B) (lo+n-1) then (if q>0 then M (.yield (none,n+1,0)) (setArr B (mirror (arrOf B) (lo+n-(q+1)) (lo+n) ((lo+n-(lo+n-(q+1)))/2))) else M (.yield (none,n+1,0)) B) else if Kx key (arrOf B) (lo+n-1)<Kx key (arrOf B) (lo+n) then M (.done (none,n,q)) B else M (.yield (none,n+1,q+1)) B)->wpS (model prog w) A E s (F i (none,n,q)) M B)
  (h:∀m q B,SX κ a0 pd lo B->a<=m->m<=nrem->SegD key (arrOf B) lo (lo+m)->q+1<=m->(∀i,lo+m-(q+1)<=i->i<lo+m->Kx key (arrOf B) i=Kx key (arrOf B) (lo+m-1))->Q (none,m,q) B):wpS (model prog w) A E s (forIn [a:nrem] (none,a,0) F) Q st:=by
 refine wpS_forRange (I:=fun x c B=>∃q,c=(none,x,q)/\SX κ a0 pd lo B/\SegD key (arrOf B) lo (lo+x)/\q+1<=x/\(∀i,lo+x-(q+1)<=i->i<lo+x->Kx key (arrOf B) i=Kx key (arrOf B) (lo+x-1))) ?_ ?_ ⟨0,rfl,hB,hs,by omega,fun i Y U=>by congr 1;omega⟩
 ·rintro x c B hax hxn ⟨q,rfl,G,H,hq,J⟩;refine hF x x q B _ G (by omega) hxn ?_;have O:lo+x<=(arrOf B).size:=by rw[G.size];omega
  by_cases z:Kx key (arrOf B) (lo+x)<Kx key (arrOf B) (lo+x-1)
  ·rw[if_pos z];have s1:SegD key (arrOf B) lo (lo+x+1):=H.ext (by omega) (by omega);by_cases y:q>0
   ·rw[if_pos y];refine⟨0,rfl,G.mir (by omega) (by omega),fun i j Y U h3=>?_,by omega,fun i Y U=>by congr 1;omega⟩;show Kx key (mirror (arrOf B) _ _ _) j<=Kx key (mirror (arrOf B) _ _ _) i
    rw[yu O J,yu O J];exact s1 i j Y U (by omega)
   ·rw[if_neg y];exact⟨0,rfl,G,s1,by omega,fun i Y U=>by congr 1;omega⟩
  ·rw[if_neg z];by_cases y:Kx key (arrOf B) (lo+x-1)<Kx key (arrOf B) (lo+x)
   ·rw[if_pos y];exact h x q B G hax (by omega) H hq J
   ·rw[if_neg y];have heq:Kx key (arrOf B) (lo+x)=Kx key (arrOf B) (lo+x-1):=by omega
    refine⟨q+1,rfl,G,H.ext (by omega) (by omega),by omega,fun i Y U=>?_⟩;rw[show lo+(x+1)-1=lo+x by omega];by_cases hix:i=lo+x
    ·rw[hix]
    ·rw[heq];exact J i (by omega) (by omega)
 ·rintro c B ⟨q,rfl,G,H,hq,J⟩;rw[show max a nrem=nrem by omega]at H hq J ⊢;exact h nrem q B G han (zB _) H hq J
set_option hygiene false in
local macro_rules | `(tactic| walk_at "ASC_STEP")=>`(tactic| (
 intro i n Q' n1 n2 hQ
 (try dsimp only)
 refine wpS_bind (s_ltK hc hm hB' (by omega) (by omega) ?_)
 (try dsimp only)
 split at hQ
 ·rename_i z
  rw[decide_eq_true z,if_pos rfl]
  exact wpS_pure hQ
 ·rename_i z
  rw[decide_eq_false z,if_neg (by decide)]
  exact wpS_pure hQ))
set_option hygiene false in
local macro_rules | `(tactic| walk_at "TAIL_3")=>`(tactic| (
 refine wpS_bind (wpS_reverse ?_)
 have hB':=hB3.mir (i:=lo) (j:=lo+m) (zB _) (by omega)
 have hsz:lo+m<=(arrOf st3).size:=by rw[hB3.size];omega
 refine wpS_bind (asc_gen (key:=key) (lo:=lo) (nrem:=nrem) (by omega) hm2 ?_ ?_ fun k k1 k2 k3 k4=>?_)
 ·intro i j h1 h2 h3
  show Kx key (mirror (arrOf st3) _ _ _) i<=Kx key (mirror (arrOf st3) _ _ _) j
  rw[zAF hsz,zAF hsz,if_pos (by omega),if_pos (by omega)]
  exact hs3 _ _ (by omega) (by omega) (by omega)
 ·walk_at "ASC_STEP"
 ·exact wpS_pure (h k _ hB' (by omega) k2 k3)))
set_option hygiene false in
local macro_rules | `(tactic| walk_at "DESC_PART")=>`(tactic| (
 refine wpS_bind (wpS_lift (wpAny_rule ⟨rfl,?_⟩))
 refine wpS_bind (desc_gen (key:=key) hB2 hn (by omega) (by omega) hs2 ?_ fun m q st3 hB3 hm1 hm2 hs3 hq he=>?_)
 ·intro i n q st' Q' hB' n1 n2 hQ
  (try dsimp only)
  refine wpS_bind (s_ltK hc hm hB' (by omega) (by omega) ?_)
  (try dsimp only)
  by_cases z:Kx key (arrOf st') (lo+n)<Kx key (arrOf st') (lo+n-1)
  ·rw[if_pos z]at hQ
   rw[decide_eq_true z,if_pos rfl]
   by_cases y:q>0
   ·rw[if_pos y]at hQ ⊢
    exact wpS_bind (wpS_reverse (wpS_pure hQ))
   ·rw[if_neg y]at hQ ⊢
    exact wpS_pure hQ
  ·rw[if_neg z]at hQ
   rw[decide_eq_false z,if_neg (by decide)]
   refine wpS_bind (s_ltK hc hm hB' (by omega) (by omega) ?_)
   (try dsimp only)
   by_cases y:Kx key (arrOf st') (lo+n-1)<Kx key (arrOf st') (lo+n)
   ·rw[if_pos y]at hQ
    rw[decide_eq_true y,if_pos rfl]
    exact wpS_pure hQ
   ·rw[if_neg y]at hQ
    rw[decide_eq_false y,if_neg (by decide)]
    exact wpS_pure hQ
 ·(try dsimp only)
  by_cases y:q>0
  ·rw[if_pos y]
   refine wpS_bind (wpS_reverse ?_)
   have hsz0:lo+m<=(arrOf st3).size:=by rw[hB3.size];omega
   have hs3':SegD key (arrOf (setArr st3 (mirror (arrOf st3) (lo+m-(q+1)) (lo+m) ((lo+m-(lo+m-(q+1)))/2)))) lo (lo+m):=fun i j h1 h2 h3=>by
    show Kx key (mirror (arrOf st3) _ _ _) j<=Kx key (mirror (arrOf st3) _ _ _) i
    rw[yu hsz0 he,yu hsz0 he]
    exact hs3 i j h1 h2 h3
   have hB3':=hB3.mir (i:=lo+m-(q+1)) (j:=lo+m) (by omega) (by omega)
   generalize setArr st3 (mirror (arrOf st3) (lo+m-(q+1)) (lo+m) ((lo+m-(lo+m-(q+1)))/2))=st3 at hB3' hs3' ⊢
   have hB3:=hB3'
   have hs3:=hs3'
   walk_at "TAIL_3"
  ·rw[if_neg y]
   walk_at "TAIL_3"))
theorem countRun_ok {Q:Option Nat->SortSt->Prop}(hc:SCmp prog w A s κ mem key)(hm:∀x∈a0.toList,mem x)(hB:SX κ a0 pd lo st)(h1:1<=nrem)(hn:lo+nrem<=a0.size)
  (h:∀m st',SX κ a0 pd lo st'->1<=m->m<=nrem->SegS key (arrOf st') lo (lo+m)->Q (some m) st'):wpS (model prog w) A E s (countRun' lo nrem) Q st:=by
 rw[countRun'_eq];have s1:SegS key (arrOf st) lo (lo+1):=fun i j a b c=>by
  have:i=j:=by omega
  rw[this];exact xY _
 have hB':=hB;refine wpS_bind (asc_gen (key:=key) (lo:=lo) (nrem:=nrem) (zB _) h1 s1 ?_ fun n n1 n2 hs hor=>?_)
 ·walk_at "ASC_STEP"
 (try dsimp only)
 by_cases hnn:(n==nrem)=true
 ·rw[if_pos hnn];exact wpS_pure (h n st hB n1 n2 hs)
 rw[if_neg hnn];have hne:n≠nrem:=fun z=>hnn (beq_iff_eq.mpr z);have hlt:=hor.resolve_left hne;by_cases hgt:n>1
 ·rw[if_pos hgt];refine wpS_bind (s_ltK hc hm hB (by omega) (by omega) ?_);(try dsimp only)
  by_cases hr:Kx key (arrOf st) lo<Kx key (arrOf st) (lo+n-1)
  ·rw[decide_eq_true hr,if_pos rfl];exact wpS_pure (h n st hB n1 n2 hs)
  ·rw[decide_eq_false hr,if_neg (by decide)];have hsz:lo+n<=(arrOf st).size:=by rw[hB.size];omega
   have hall:∀k,lo<=k->k<lo+n->Kx key (arrOf st) k=Kx key (arrOf st) (lo+n-1):=fun k k1 k2=>by
    have a1:=hs lo k (zB _) k1 k2;have a2:=hs k (lo+n-1) k1 (by omega) (by omega);omega
   refine wpS_bind (wpS_reverse ?_);have hB2:=hB.mir (i:=lo) (j:=lo+n) (zB _) (by omega);have hs2:SegD key (arrOf (setArr st (mirror (arrOf st) lo (lo+n) ((lo+n-lo)/2)))) lo (lo+(n+1)):=fun i j h1 h2 h3=>by
    show Kx key (mirror (arrOf st) _ _ _) j<=Kx key (mirror (arrOf st) _ _ _) i
    rw[yu hsz hall,yu hsz hall];by_cases y:i=j
    ·rw[y];exact xY _
    ·rw[hall i h1 (by omega)];by_cases x:j=lo+n
     ·rw[x];omega
     ·rw[hall j (by omega) (by omega)];exact xY _
   walk_at "DESC_PART"
 ·rw[if_neg hgt];have hn1:n=1:=by omega
  subst hn1;have hB2:=hB;have hs2:SegD key (arrOf st) lo (lo+(1+1)):=fun i j h1 h2 h3=>by
   by_cases y:i=j
   ·rw[y];exact xY _
   ·have e1:i=lo+1-1:=by omega
    have e2:j=lo+1:=by omega
    rw[e1,e2];omega
  walk_at "DESC_PART"
theorem binarySort_ok {n ok:Nat}{Q:Bool->SortSt->Prop}(hc:SCmp prog w A s κ mem key)(hm:∀x∈a0.toList,mem x)(hB:SX κ a0 pd lo st)(hn:lo+n<=a0.size)(hok:ok<=n)(hs:SegS key (arrOf st) lo (lo+ok))
  (h:∀B,SX κ a0 pd lo B->SegS key (arrOf B) lo (lo+n)->Q true B):wpS (model prog w) A E s (binarySort' lo n ok) Q st:=by
 rw[binarySort'_eq];refine wpS_bind (wpS_mono (wpS_forRange (I:=fun k c B=>c=(none,())/\SX κ a0 pd lo B/\SegS key (arrOf B) lo (lo+min k n))
  (Q:=fun c B=>c=(none,())/\SX κ a0 pd lo B/\SegS key (arrOf B) lo (lo+n)) ?step ?fin ?init) ?post)
 case post =>
  rintro c B ⟨rfl,J,H⟩;exact wpS_pure (h B J H)
 case init =>
  refine⟨rfl,hB,fun i j hi aa hj=>?_⟩;by_cases h1:ok=0
  ·have:i=j:=by omega
   subst this;exact xY _
  ·exact hs i j hi aa (by omega)
 case fin =>
  rintro c B ⟨hc,J,H⟩;refine⟨hc,J,?_⟩
  rwa [show min (max (max ok 1) n) n=n by omega]at H
 case step =>
  rintro k c B hak hkn ⟨rfl,J,H⟩;rw[show min k n=k by omega]at H;have hk:lo+k<a0.size:=by omega
  refine wpS_bind (wpS_mono (wpS_forRange (I:=fun x c z=>z=B/\∃l r,c=(none,l,r)/\l<=r/\r<=k/\r-l<=k-x /\
    (∀i,i<l->Kx key (arrOf B) (lo+i)<=Kx key (arrOf B) (lo+k))/\(∀i,r<=i->i<k->Kx key (arrOf B) (lo+k)<Kx key (arrOf B) (lo+i)))
   (Q:=fun c z=>z=B/\∃l r,c=(none,l,r)/\l<=k /\
    (∀i,i<l->Kx key (arrOf B) (lo+i)<=Kx key (arrOf B) (lo+k))/\(∀i,l<=i->i<k->Kx key (arrOf B) (lo+k)<Kx key (arrOf B) (lo+i))) ?istep ?ifin ?iinit) ?ipost)
  case iinit=>exact⟨rfl,0,k,rfl,by omega,by omega,by omega,fun i hi=>by omega,fun i h1 h2=>by omega⟩
  case ifin =>
   rintro c z ⟨rfl,l,r,rfl,hlr,U,hm,M,O⟩;have:l=r:=by omega
   subst this;exact⟨rfl,l,l,rfl,U,M,O⟩
  case istep =>
   rintro x c z _ hxk ⟨rfl,l,r,rfl,hlr,U,hm0,M,O⟩;dsimp only;by_cases Y:l>=r
   ·rw[if_pos Y];have:l=r:=by omega
    subst this;exact wpS_pure ⟨rfl,l,l,rfl,U,M,O⟩
   ·rw[if_neg Y];refine wpS_bind (s_ltK hc hm J hk (by omega) ?_);by_cases G:Kx key (arrOf z) (lo+k)<Kx key (arrOf z) (lo+(l+r)/2)
    ·simp only[G,decide_true,if_true];refine wpS_pure ⟨rfl,l,(l+r)/2,rfl,by omega,by omega,by omega,M,fun i h1 h2=>?_⟩;exact Int.lt_of_lt_of_le G (H _ _ (by omega) (by omega) (by omega))
    ·simp only[G,decide_false,zv,if_false];refine wpS_pure ⟨rfl,(l+r)/2+1,r,rfl,by omega,by omega,by omega,fun i h1=>?_,O⟩;exact yr (H (lo+i) (lo+(l+r)/2) (by omega) (by omega) (by omega)) (Int.not_lt.mp G)
  case ipost =>
   rintro c z ⟨rfl,l,r,rfl,hlk,M,O⟩;show wpS _ _ _ _ (do moveDown' (lo+k) (lo+l);pure (ForInStep.yield (none,()))) _ _
   rw[moveDown'_eq];refine wpS_bind (wpS_modify (wpS_pure ⟨rfl,J.bub hk (by omega),?_⟩));rw[show min (k+1) n=k+1 by omega];have ac:lo+k<(arrOf z).size:=by rw[J.size];exact hk
   intro i j hi aa hj;show Kx key (bubble (arrOf z) (lo+k) (lo+k-(lo+l))) i<=Kx key (bubble (arrOf z) (lo+k) (lo+k-(lo+l))) j
   rw[kx_bubble ac (by omega),kx_bubble ac (by omega),show lo+k-(lo+k-(lo+l))=lo+l by omega];have ad:∀i,lo<=i->i<lo+l->Kx key (arrOf z) i<=Kx key (arrOf z) (lo+k):=fun i a b=>by
    have:=M (i-lo) (by omega)
    rwa [show lo+(i-lo)=i by omega]at this
   have hi':∀i,lo+l<=i->i<lo+k->Kx key (arrOf z) (lo+k)<Kx key (arrOf z) i:=fun i a b=>by
    have:=O (i-lo) (by omega) (by omega)
    rwa [show lo+(i-lo)=i by omega]at this
   repeat' split
   all_goals first
    |(exfalso;omega)
    |exact xY _
    |exact ad _ (by omega) (by omega)
    |exact xf (hi' _ (by omega) (by omega))
    |exact H _ _ (by omega) (by omega) (by omega)
end
section
variable {key:Keyed->Int}
inductive Rns (key:Keyed->Int):Nat->List Keyed->List (Nat×Nat×Nat)->Prop
 |nil {s:Nat}:Rns key s [] []
 |cons {s p:Nat} {c l:List Keyed} {rs:List (Nat×Nat×Nat)}:c≠[]->Srt key c->Rns key (s+c.length) l rs->Rns key s (c++l) ((s,c.length,p)::rs)
theorem Rns.len {s:Nat}{l:List Keyed}{z:List (Nat×Nat×Nat)}(h:Rns key s l z):z.length<=l.length:=by
 induction h with
 |nil=>exact zB _
 |@cons s p c l z B G H ih =>
  have:=yx.mpr B;rw[qF,zI];omega
theorem Rns.app {B:List Keyed}{r2:List (Nat×Nat×Nat)}:∀{r1:List (Nat×Nat×Nat)} {s:Nat} {l1:List Keyed},Rns key s l1 r1->Rns key (s+l1.length) B r2->Rns key s (l1++B) (r1++r2)
 |_,_,_,.nil,z=>z
 |_,s,_,.cons (c:=c) (l:=l) g1 g2 g3,z=>by
  rw[zP,List.cons_append]
  refine .cons g1 g2 (Rns.app g3 ?_)
  rw[qF]at z
  rw[Nat.add_assoc]
  exact z
theorem Rns.split:∀{r1:List (Nat×Nat×Nat)} {r2:List (Nat×Nat×Nat)} {s:Nat} {l:List Keyed},Rns key s l (r1++r2)->∃z B,l=z++B/\Rns key s z r1/\Rns key (s+z.length) B r2
 |[],r2,s,l,h=>⟨[],l,rfl,.nil,h⟩
 |r::r1,r2,s,l,h=>by
  rw[List.cons_append]at h
  cases h with
  |@cons _ p c l U M J H =>
   obtain⟨z,B,rfl,G,O⟩:=Rns.split H
   refine⟨c++z,B,by rw[zP],.cons M J G,?_⟩
   rw[qF,<-Nat.add_assoc]
   exact O
theorem Rns.pw {pw:Nat}{f:Nat×Nat×Nat->Nat×Nat×Nat}(J:∀a b c,f (a,b,c)=(a,b,pw)):∀{z:List (Nat×Nat×Nat)} {s:Nat} {l:List Keyed} (k:Nat),Rns key s l z->Rns key s l (z.modify k f)
 |[],s,l,k,h=>by rw[List.modify_nil];exact h
 |r::z,s,l,0,h=>by
  rw[List.modify_zero_cons]
  cases h with
  |@cons _ p c l z H G B=>rw[J];exact .cons H G B
 |r::z,s,l,k+1,h=>by
  rw[List.modify_succ_cons]
  cases h with
  |@cons _ p c l z H G B=>exact .cons H G (Rns.pw J k B)
theorem Rns.one {s:Nat}{l:List Keyed}{z:List (Nat×Nat×Nat)}(h:Rns key s l z)(G:z.length<=1):Srt key l:=by
 cases h with
 |nil=>exact .nil
 |@cons _ p c l z J B H =>
  cases H with
  |nil=>rw[zu];exact B
  |cons _ _ _=>simp at G
theorem srt_app {a b:List Keyed}(B:Srt key a)(z:Srt key b)(G:Ble key a b):Srt key (a++b):=yT.mpr ⟨B,z,G⟩
theorem get_mid {l1 a t:List Keyed}{j:Nat}(h:j<a.length):(l1++(a++t))[l1.length+j]? = a[j]?:=by
 rw[qG (Nat.le_add_right _ _),Nat.add_sub_cancel_left,qH h]
theorem wr_list:∀(m:List Keyed) (arr:Array Keyed) (k j:Nat),k+j+m.length<=arr.size->((m.zipIdx j).foldl (fun(a:Array Keyed) (x:Keyed×Nat)=>match x with|(p,j)=>a.setIfInBounds (k+j) p) arr).toList=arr.toList.take (k+j)++m++arr.toList.drop (k+j+m.length)
 |[],arr,k,j,h=>by
  show arr.toList=_
  rw[zu]
  exact(zr _ _).symm
 |p::m,arr,k,j,h=>by
  rw[zI]at h
  show((m.zipIdx (j+1)).foldl _ (arr.setIfInBounds (k+j) p)).toList=_
  rw[wr_list m (arr.setIfInBounds (k+j) p) k (j+1) (by rw[Array.size_setIfInBounds];omega),Array.toList_setIfInBounds]
  have G:k+j<arr.toList.length:=by rw[zC];omega
  have B:(arr.toList.set (k+j) p).take (k+(j+1))=arr.toList.take (k+j)++[p]:=by
   rw[show k+(j+1)=k+j+1 by omega,zq,List.getElem?_set_self G,List.take_set_of_le (zB _)];rfl
  have z:(arr.toList.set (k+j) p).drop (k+(j+1)+m.length)=arr.toList.drop (k+j+(p::m).length):=by
   rw[List.drop_set_of_lt (by omega),zI]
   congr 1
   omega
  rw[B,z];simp
end
section
variable {prog:Program}{w:World}{A:Around}{E:Value->Shared->Prop}{s:Shared}{κ:SortKind}{mem:Keyed->Prop}{key:Keyed->Int}{st:SortSt}
theorem wpS_set {M:Model}{B:Type}{st z:B}{Q:PUnit->B->Prop}(h:Q ⟨⟩ z):wpS M A E s (set z:StateT B Sem PUnit) Q st:=by
 unfold wpS;rw[StateT.run_set];exact wpAny_pure ⟨rfl,h⟩
theorem mergeAt_ok {i p1 p2:Nat}{l1 C D T:List Keyed}{r1 r2:List (Nat×Nat×Nat)}{Q:Bool->SortSt->Prop}(hc:SCmp prog w A s κ mem key)(hk:kindOf st=κ)(hf:failedOf st=none)(hm:∀x∈(arrOf st).toList,mem x)(ea:(arrOf st).toList=l1++(C++(D++T)))
  (ep:(pendingOf st).toList=r1++(l1.length,C.length,p1)::(l1.length+C.length,D.length,p2)::r2) (hi:r1.length=i) (sC:Srt key C) (sD:Srt key D) (nC:C≠[]) (nD:D≠[])
  (h:∀(M:List Keyed) (B:SortSt),M.Perm (C++D)->Srt key M->kindOf B=κ->failedOf B=none->(arrOf B).toList=l1++(M++T)->(pendingOf B).toList=r1++(l1.length,C.length+D.length,p1)::r2->Q true B):wpS (model prog w) A E s (mergeAt' i) Q st:=by
 have lC:=yx.mpr nC;have lD:=yx.mpr nD;have hsz:(arrOf st).size=l1.length+(C.length+(D.length+T.length)):=by
  rw[<-zC,ea];simp only[qF]
 have g1:(pendingOf st)[i]? = some (l1.length,C.length,p1):=by
  rw[<-zR,ep,qG (by omega),hi,Nat.sub_self];rfl
 have g2:(pendingOf st)[i+1]? = some (l1.length+C.length,D.length,p2):=by
  rw[<-zR,ep,qG (by omega),show i+1-r1.length=1 by omega];rfl
 have atC:∀j,j<C.length->(arrOf st).toList[l1.length+j]? = C[j]?:=fun j hj=>by rw[ea];exact get_mid hj
 have aa:(arrOf st).toList=(l1++C)++(D++T):=by rw[ea,zP]
 have J:∀j,j<D.length->(arrOf st).toList[l1.length+C.length+j]? = D[j]?:=fun j hj=>by
  rw[aa,<-qF];exact get_mid hj
 have oC:∀p q x y,l1.length<=p->p<=q->q<l1.length+C.length->(arrOf st).toList[p]? = some x->(arrOf st).toList[q]? = some y->key x<=key y:=fun p q x y h1 h2 h3 h4 h5=>by
  have e1:=atC (p-l1.length) (by omega);have e2:=atC (q-l1.length) (by omega);rw[show l1.length+(p-l1.length)=p by omega,h4]at e1;rw[show l1.length+(q-l1.length)=q by omega,h5]at e2;exact Jk sC (by omega) e1.symm e2.symm
 have oD:∀p q x y,l1.length+C.length<=p->p<=q->q<l1.length+C.length+D.length->(arrOf st).toList[p]? = some x->(arrOf st).toList[q]? = some y->key x<=key y:=fun p q x y h1 h2 h3 h4 h5=>by
  have e1:=J (p-(l1.length+C.length)) (by omega);have e2:=J (q-(l1.length+C.length)) (by omega);rw[show l1.length+C.length+(p-(l1.length+C.length))=p by omega,h4]at e1;rw[show l1.length+C.length+(q-(l1.length+C.length))=q by omega,h5]at e2;exact Jk sD (by omega) e1.symm e2.symm
 have U:(((pendingOf st).setIfInBounds i (l1.length,C.length+D.length,p1)).eraseIdxIfInBounds (i+1)).toList=r1++(l1.length,C.length+D.length,p1)::r2:=by
  rw[Array.toList_eraseIdxIfInBounds,Array.toList_setIfInBounds,ep,<-hi,List.set_append_right _ _ (zB _),Nat.sub_self,List.set_cons_zero,List.eraseIdx_append_of_length_le (by omega),show r1.length+1-r1.length=1 by omega];rfl
 obtain⟨b0,eb0,eb0'⟩:=s_at (a:=arrOf st) (i:=l1.length+C.length) (by omega);have hb0:D[0]? = some b0:=by
  have:=J 0 lD;rw[Nat.add_zero,eb0']at this;exact this.symm
 unfold mergeAt';refine wpS_bind (wpS_get ?_);rw[g1,g2];refine wpS_bind (wpS_set ?_);refine wpS_bind (yf eb0 ?_);refine wpS_bind (gallopR (a:=arrOf st) hc hk (hm b0 (qE eb0')) hm (by omega) oC lC fun k hk1 hk2 hk3=>?_);(try dsimp only)
 have c1:∀x∈C.take k,key x<=key b0:=fun x G=>by
  obtain⟨j,j1,j2⟩:=jv G;exact hk2 j x j1 (by rw[atC j (by omega)];exact j2)
 have c2:∀x∈C.drop k,key b0<key x:=fun x G=>by
  obtain⟨j,j1,j2⟩:=jT G;exact hk3 (k+j) x (by omega) j1 (by rw[atC _ j1];exact j2)
 have d0:∀y∈D,key b0<=key y:=fun y H=>ju sD hb0 (by rw[List.drop_zero];exact H);by_cases z1:(C.length-k==0)=true
 ·rw[if_pos z1];have ek:C.take k=C:=yD (by have:=beq_iff_eq.mp z1;omega);rw[ek]at c1;exact wpS_pure (h (C++D) _ (ym.refl _) (srt_app sC sD fun x G y H=>yr (c1 x G) (d0 y H)) hk hf (by rw[zP];exact ea) U)
 rw[if_neg z1];have z1':k<C.length:=by
  have:¬ C.length-k=0:=fun z=>z1 (beq_iff_eq.mpr z);omega
 obtain⟨al,eal,eal'⟩:=s_at (a:=arrOf st) (i:=l1.length+k+(C.length-k)-1) (by omega);have hal:C[C.length-1]? = some al:=by
  rw[<-atC (C.length-1) (by omega),show l1.length+(C.length-1)=l1.length+k+(C.length-k)-1 by omega];exact eal'
 refine wpS_bind (yf eal ?_);refine wpS_bind (gallopL (a:=arrOf st) hc hk (hm al (qE eal')) hm (by omega) oD (by omega) fun n hn1 hn2 hn3=>?_);(try dsimp only)
 have cl:∀x∈C,key x<=key al:=fun x G=>JS sC hal (by rw[show C.length-1+1=C.length by omega,zn];exact G);have d1:∀y∈D.take n,key y<=key al:=fun y H=>by
  obtain⟨j,j1,j2⟩:=jv H;exact xf (hn2 j y j1 (by rw[J j (by omega)];exact j2))
 have d2:∀y∈D.drop n,key al<=key y:=fun y H=>by
  obtain⟨j,j1,j2⟩:=jT H;exact hn3 (n+j) y (by omega) j1 (by rw[J _ j1];exact j2)
 by_cases z2:(n==0)=true
 ·rw[if_pos z2];rw[beq_iff_eq.mp z2,List.drop_zero]at d2;exact wpS_pure (h (C++D) _ (ym.refl _) (srt_app sC sD fun x G y H=>yr (cl x G) (d2 y H)) hk hf (by rw[zP];exact ea) U)
 rw[if_neg z2];have z2':0<n:=by
  have:¬ n=0:=fun z=>z2 (beq_iff_eq.mpr z);omega
 have ex:((arrOf st).extract (l1.length+k) (l1.length+C.length)).toList=C.drop k:=by
  rw[x8,xD,ea,List.drop_append,List.drop_eq_nil_of_le (by omega),List.nil_append,show l1.length+k-l1.length=k by omega,List.drop_append,show k-C.length=0 by omega,List.drop_zero];rw[show l1.length+C.length-(l1.length+k)=(C.drop k).length by rw[zd];omega,List.take_left]
 have ey:((arrOf st).extract (l1.length+C.length) (l1.length+C.length+n)).toList=D.take n:=by
  rw[ext_k,aa,<-qF,List.drop_left,List.take_append_of_le_length hn1]
 have mx:∀x∈((arrOf st).extract (l1.length+k) (l1.length+C.length)).toList,mem x:=fun x G=>by
  rw[ex]at G;exact hm x (by rw[ea];exact qK _ (yt _ (yU G)))
 have my:∀x∈((arrOf st).extract (l1.length+C.length) (l1.length+C.length+n)).toList,mem x:=fun x G=>by
  rw[ey]at G;exact hm x (by rw[aa];exact qK _ (yt _ (yC G)))
 have sx:Srt key ((arrOf st).extract (l1.length+k) (l1.length+C.length)).toList:=by
  rw[ex];exact xJ.sublist (List.drop_sublist _ _) sC
 have sy:Srt key ((arrOf st).extract (l1.length+C.length) (l1.length+C.length+n)).toList:=by
  rw[ey];exact xJ.sublist (List.take_sublist _ _) sD
 have nx:((arrOf st).extract (l1.length+k) (l1.length+C.length)).size=C.length-k:=by
  rw[<-zC,ex,zd]
 have ny:((arrOf st).extract (l1.length+C.length) (l1.length+C.length+n)).size=n:=by
  rw[<-zC,ey,qO];omega
 have hlo:∀x,((arrOf st).extract (l1.length+C.length) (l1.length+C.length+n)).toList[0]? = some x->∀y∈((arrOf st).extract (l1.length+k) (l1.length+C.length)).toList,key x<=key y:=fun x G y H=>by
  rw[ey,yP z2',hb0]at G;cases G
  rw[ex]at H;exact xf (c2 y H)
 have hhi:∀x∈((arrOf st).extract (l1.length+C.length) (l1.length+C.length+n)).toList,∀y,((arrOf st).extract (l1.length+k) (l1.length+C.length)).toList[((arrOf st).extract (l1.length+k) (l1.length+C.length)).size-1]? = some y->key x<=key y:=fun x G y H=>by
  rw[nx,ex,yJ,show k+(C.length-k-1)=C.length-1 by omega,hal]at H;cases H
  rw[ey]at G;exact d1 x G
 have fin:∀(r:Array Keyed) (B:SortSt),kindOf B=kindOf st->arrOf B=arrOf st->(pendingOf B).toList=r1++(l1.length,C.length+D.length,p1)::r2->failedOf B=failedOf st->Mgd key (C.drop k) (D.take n) r.toList ->
   Q (failedOf B).isNone (SortSt.mk' (kindOf B) (List.foldl (fun(a:Array Keyed) (x:Keyed×Nat)=>match x with|(p,j)=>a.setIfInBounds (l1.length+k+j) p) (arrOf B) r.toList.zipIdx) (pendingOf B) (gallopOf B) (failedOf B)):=fun r B e1 e2 e3 e4 O=>by
  rw[e4,hf];have lr:r.toList.length=C.length-k+n:=by
   rw[O.1.length_eq,qF,zd,qO];omega
  refine h (C.take k++(r.toList++D.drop n)) _ ?_ ?_ (e1.trans hk) rfl ?_ e3
  ·have e5:C++D=C.take k++((C.drop k++D.take n)++D.drop n):=by
    rw[zP (C.drop k),zr,<-zP,zr]
   rw[e5];exact ym.append_left _ (O.1.append_right _)
  ·have sp:Srt key (C.take k++C.drop k):=by rw[zr];exact sC
   have sq:Srt key (D.take n++D.drop n):=by rw[zr];exact sD
   have sp2:=yT.mp sp;have sq2:=yT.mp sq;refine srt_app sp2.1 (srt_app O.2 sq2.2.1 fun x G y H=>?_) fun x G y H=>?_
   ·rcases zK.mp (O.1.mem_iff.mp G) with z|z
    ·exact yr (cl x (yU z)) (d2 y H)
    ·exact sq2.2.2 x z y H
   ·rcases zK.mp H with z|z
    ·rcases zK.mp (O.1.mem_iff.mp z) with v|v
     ·exact sp2.2.2 x G y v
     ·exact yr (c1 x G) (d0 y (yC v))
    ·exact yr (c1 x G) (d0 y (yU z))
  ·show(List.foldl _ (arrOf B) (r.toList.zipIdx 0)).toList=_
   rw[wr_list r.toList (arrOf B) (l1.length+k) 0 (by rw[e2,lr,hsz];omega),e2,lr,Nat.add_zero];have t1:(arrOf st).toList.take (l1.length+k)=l1++C.take k:=by
    rw[ea,List.take_append,yD (by omega),show l1.length+k-l1.length=k by omega,List.take_append_of_le_length (by omega)]
   have t2:(arrOf st).toList.drop (l1.length+k+(C.length-k+n))=D.drop n++T:=by
    rw[aa,List.drop_append,List.drop_eq_nil_of_le (by rw[qF];omega),List.nil_append,qF,show l1.length+k+(C.length-k+n)-(l1.length+C.length)=n by omega,List.drop_append_of_le_length hn1]
   rw[t1,t2];simp only[zP]
 by_cases z3:C.length-k<=n
 ·rw[if_pos z3];refine wpS_bind (mergeLo_ok hc hk mx my sx sy (by rw[nx];omega) (by rw[ny];omega) hlo hhi fun r B Y O=>?_);rw[ex,ey]at O;refine wpS_bind (wpS_modify (wpS_bind (wpS_get (wpS_pure ?_))));exact fin r B Y.kind Y.arr (by rw[Y.pend];exact U) Y.fail O
 ·rw[if_neg z3];refine wpS_bind (mergeHi_ok hc hk mx my sx sy (by rw[nx];omega) (by rw[ny];omega) hlo hhi fun r B Y O=>?_);rw[ex,ey]at O;refine wpS_bind (wpS_modify (wpS_bind (wpS_get (wpS_pure ?_))));exact fin r B Y.kind Y.arr (by rw[Y.pend];exact U) Y.fail O
end
section
variable {prog:Program}{w:World}{A:Around}{E:Value->Shared->Prop}{s:Shared}{κ:SortKind}{mem:Keyed->Prop}{key:Keyed->Int}{st:SortSt}{it:Array Keyed}{D T:List Keyed}
structure SR (key:Keyed->Int) (κ:SortKind) (it:Array Keyed) (D T:List Keyed) (st:SortSt):Prop where
 kind:PyProof.Rows.kindOf st=κ
 fail:failedOf st=none
 perm:(arrOf st).Perm it
 ea:(arrOf st).toList=D++T
 rn:Rns key 0 D (pendingOf st).toList
theorem SR.mm (h:SR key κ it D T st)(z:∀x∈it.toList,mem x):∀x∈(arrOf st).toList,mem x:=fun x B=>z x ((x9.mp h.perm).mem_iff.mp B)
theorem cut_two {B:Type}{l:List B}{i:Nat}(h:i+1<l.length):∃z x y G,l=z++x::y::G/\z.length=i:=by
 refine⟨l.take i,l[i],l[i+1],l.drop (i+2),?_,by rw[qO];omega⟩;rw[<-yg,<-yg,zr]
theorem zAd {i:Nat}{Q:Bool->SortSt->Prop}(hc:SCmp prog w A s κ mem key)(hm:∀x∈it.toList,mem x)(G:SR key κ it D T st)(hi:i+1<(pendingOf st).size)
  (h:∀D' B,SR key κ it D' T B->D'.length=D.length->(pendingOf B).size+1=(pendingOf st).size->Q true B):wpS (model prog w) A E s (mergeAt' i) Q st:=by
 obtain⟨r1,x,y,r2,Y,aa⟩:=cut_two (l:=(pendingOf st).toList) (i:=i) (by rw[zC];exact hi);have H:=G.rn;rw[Y]at H;obtain⟨O,l2,U,n1,n2⟩:=H.split
 rw[jJ]at n2;cases n2 with
 |@cons _ p1 c l rs c1 c2 c3 =>
  cases c3 with
  |@cons _ p2 d l' rs' d1 d2 d3 =>
   refine mergeAt_ok (l1:=O) (C:=c) (D:=d) (T:=l'++T) (r1:=r1) (r2:=r2) (p1:=p1) (p2:=p2) hc G.kind G.fail (G.mm hm) ?_ Y aa c2 d2 c1 d1 fun M B m1 m2 m3 m4 m5 m6=>?_
   ·rw[G.ea,U];simp only[zP]
   ·have J:M.length=c.length+d.length:=by rw[m1.length_eq,qF]
    have nM:M≠[]:=fun z=>by
     have:=yx.mpr c1;rw[z,xi]at J;omega
    refine h (O++(M++l')) B ⟨m3,m4,?_,?_,?_⟩ ?_ ?_
    ·refine Array.Perm.trans ?_ G.perm;rw[x9,m5,G.ea,U];simp only[zP];refine ym.append_left _ ?_;rw[<-zP c d];exact m1.append_right _
    ·rw[m5];simp only[zP]
    ·rw[m6,<-J];refine n1.app ?_;rw[jJ];refine .cons nM m2 ?_;rw[J,<-Nat.add_assoc];exact d3
    ·rw[U];simp only[qF];omega
    ·rw[<-zC,m6,<-zC,Y];simp only[qF,zI];omega
theorem zAe {B:Type}(xs:Array B)(i:Nat)(f:B->B):(xs.modify i f).toList=xs.toList.modify i f:=by
 apply yv;intro j;rw[zR,Array.getElem?_modify,List.getElem?_modify,zR];by_cases z:i=j
 ·rw[if_pos z];simp[z]
 ·rw[if_neg z];simp[z]
set_option hygiene false in
local macro_rules | `(tactic| walk_at "RUN_REST")=>`(tactic| (
 obtain⟨c,T',g1,g2,g3,g4⟩:=cont n st3 hX3 n1 n2 n3
 refine wpS_bind (wpS_get ?_)
 cases hb:(pendingOf st3).back? with
 |none =>
  (try dsimp only)
  refine wpS_bind (wpS_modify (wpS_pure ⟨lo+n,D++c,T',rfl,by omega,push n st3 D c T' g1 h3 g2 g3 g4,by rw[qF];omega⟩))
 |some r =>
  obtain⟨s1,n1',p1⟩:=r
  (try dsimp only)
  refine wpS_bind (wpS_mono (wpS_forRange (I:=fun x c' st''=>c'=(none,())/\∃D',SR key κ it D' (c++T') st''/\D'.length=lo) (Q:=fun c' st''=>c'=(none,())/\∃D',SR key κ it D' (c++T') st''/\D'.length=lo) ?_ (fun _ _ hh=>hh) ⟨rfl,D,g1,h3⟩) ?_)
  ·rintro x' c' st4 _ _ ⟨rfl,D',hS',hl'⟩
   refine wpS_bind (wpS_get ?_)
   (try dsimp only)
   by_cases y:(pendingOf st4).size>1
   ·rw[if_pos y]
    obtain⟨r,er,_⟩:∃r,(pendingOf st4)[(pendingOf st4).size-2]? = some r/\True:=⟨(pendingOf st4)[(pendingOf st4).size-2]'(by omega),by simp<;>omega,trivial⟩
    obtain⟨r1,r2,r3⟩:=r
    rw[er]
    (try dsimp only)
    refine wpS_ite (fun _=>wpS_pure ⟨rfl,D',hS',hl'⟩) fun _=>?_
    refine wpS_bind (zAd hc hm hS' (by omega) fun D2 st5 hS5 hl5 _=>?_)
    simp only[Bool.not_true,zv,if_false]
    exact wpS_pure ⟨rfl,D2,hS5,hl5.trans hl'⟩
   ·rw[if_neg y]
    exact wpS_pure ⟨rfl,D',hS',hl'⟩
  ·rintro c' st4 ⟨rfl,D',hS',hl'⟩
   (try dsimp only)
   refine wpS_bind (wpS_modify (wpS_bind (wpS_modify (wpS_pure ⟨lo+n,D'++c,T',rfl,by omega,push n _ D' c T' ⟨hS'.kind,hS'.fail,hS'.perm,hS'.ea,?_⟩ hl' g2 g3 g4,by rw[qF];omega⟩))))
   show Rns key 0 D' ((pendingOf st4).modify _ _).toList
   rw[zAe]
   exact hS'.rn.pw (fun _ _ _=>rfl) _))
theorem sortRuns_ok {Q:Unit->SortSt->Prop}(hc:SCmp prog w A s κ mem key)(hm:∀x∈it.toList,mem x)(hk:PyProof.Rows.kindOf st=κ)(hf:failedOf st=none)(hp:pendingOf st = #[])(ha:arrOf st=it)
  (h:∀st',failedOf st'=none->(arrOf st').Perm it->Srt key (arrOf st').toList->Q () st'):wpS (model prog w) A E s sortRuns' Q st:=by
 rw[sortRuns'_eq];refine wpS_bind (wpS_get ?_);dsimp only;have hsz:(arrOf st).size=it.size:=by rw[ha]
 simp only[hsz];generalize minRun' it.size it.size 0=mr;refine wpS_bind (wpS_mono (wpS_forRange (I:=fun x c st'=>∃lo D T,c=(none,lo)/\x<=lo/\SR key κ it D T st'/\D.length=lo)
  (Q:=fun c st'=>∃lo D,c=(none,lo)/\SR key κ it D [] st') ?step ?fin ⟨0,[],it.toList,rfl,zB _,⟨hk,hf,by rw[ha],by rw[ha];rfl,by rw[hp];exact .nil⟩,rfl⟩) ?post)
 case fin =>
  rintro c st' ⟨lo,D,T,rfl,h1,h2,h3⟩;have e:=h2.perm.size_eq;rw[<-zC,h2.ea,qF]at e;have:=yk (zS it.size);have:T=[]:=zJ (by omega);subst this;exact⟨lo,D,rfl,h2⟩
 case step =>
  rintro x c st' _ hx ⟨lo,D,T,rfl,h1,h2,h3⟩;have e:=h2.perm.size_eq;have e':=e;rw[<-zC,h2.ea,qF]at e;dsimp only;by_cases z:lo>=it.size
  ·rw[if_pos z];have:T=[]:=zJ (by omega);subst this;exact wpS_pure ⟨lo,D,rfl,h2⟩
  rw[if_neg z];have hX:SX κ (arrOf st') (pendingOf st') lo st':=⟨h2.kind,h2.fail,rfl,Array.Perm.refl _,fun _ _=>rfl⟩;refine wpS_bind (countRun_ok hc (h2.mm hm) hX (by omega) (by omega) fun m st2 hX2 m1 m2 m3=>?_);dsimp only;have cont:∀(n:Nat) (st3:SortSt),SX κ (arrOf st') (pendingOf st') lo st3->1<=n->lo+n<=it.size->SegS key (arrOf st3) lo (lo+n)->∃c T',SR key κ it D (c++T') st3/\c.length=n/\Srt key c/\c≠[]:=fun n st3 hX3 n1 n2 n3=>by
   have sz3:(arrOf st3).size=it.size:=hX3.size.trans e';have eD:(arrOf st3).toList.take lo=D:=by
    apply yv;intro j;by_cases y:j<lo
    ·rw[yP y,zR,hX3.pre j y,<-zR,h2.ea,qH (by omega)]
    ·rw[ze (by rw[qO];omega),ze (by omega)]
   have lc:(((arrOf st3).toList.drop lo).take n).length=n:=by
    rw[qO,zd,zC];omega
   refine⟨((arrOf st3).toList.drop lo).take n,((arrOf st3).toList.drop lo).drop n,⟨hX3.kind,hX3.fail,hX3.perm.trans h2.perm,?_,by rw[hX3.pend];exact h2.rn⟩,lc,?_,?_⟩
   ·rw[zr,<-eD,zr]
   ·unfold Srt;rw[List.pairwise_iff_getElem];intro i j hi hj hij;have e1:∀i (hi:i<(((arrOf st3).toList.drop lo).take n).length),Kx key (arrOf st3) (lo+i)=key ((((arrOf st3).toList.drop lo).take n)[i]):=fun i hi=>by
     unfold Kx;have:(arrOf st3)[lo+i]? = some ((((arrOf st3).toList.drop lo).take n)[i]):=by
      rw[<-zR,<-yJ,<-yP (show i<n by omega)];exact qA hi
     rw[this]
    rw[<-e1 i hi,<-e1 j hj];exact n3 _ _ (by omega) (by omega) (by omega)
   ·intro z;rw[z,xi]at lc;omega
  have push:∀(n:Nat) (st3:SortSt) (D3 c T':List Keyed),SR key κ it D3 (c++T') st3->D3.length=lo->c.length=n->Srt key c->c≠[]->SR key κ it (D3++c) T' (setPending st3 ((pendingOf st3).push (lo,n,0))):=fun n st3 D3 c T' g1 g2 g3 g4 g5 =>
   ⟨g1.kind,g1.fail,g1.perm,by rw[zP];exact g1.ea,by
    show Rns key 0 (D3++c) ((pendingOf st3).push (lo,n,0)).toList
    rw[yG,<-g3];refine g1.rn.app ?_;rw[jJ,g2];have:=Rns.cons (key:=key) (s:=lo) (p:=0) g5 g4 (Rns.nil (s:=lo+c.length));rw[zu]at this;exact this⟩
  have rest:∀(n:Nat) (st3:SortSt),SX κ (arrOf st') (pendingOf st') lo st3->1<=n->lo+n<=it.size->SegS key (arrOf st3) lo (lo+n)->True:=fun _ _ _ _ _ _=>trivial;by_cases z2:m<mr
  ·rw[if_pos z2];refine wpS_bind (wpS_lift (wpAny_rule ⟨rfl,?_⟩));refine wpS_bind (binarySort_ok hc (h2.mm hm) hX2 (n:=min (it.size-lo) mr) (ok:=m) (by omega) (by omega) m3 fun st3 hX3 n3=>?_);simp only[Bool.not_true,zv,if_false];obtain⟨n,en⟩:∃n,min (it.size-lo) mr=n:=⟨_,rfl⟩;have n1:1<=n:=by omega
   have n2:lo+n<=it.size:=by omega
   rw[en]at n3 ⊢
   walk_at "RUN_REST"
  ·rw[if_neg z2];obtain⟨n,en⟩:∃n,m=n:=⟨_,rfl⟩;obtain⟨st3,e3⟩:∃st3,st2=st3:=⟨_,rfl⟩;have n1:1<=n:=by omega
   have n2:lo+n<=it.size:=by omega
   have hX3:=hX2;have n3:=m3;rw[e3]at n3 hX3 ⊢;rw[en]at n3 ⊢
   walk_at "RUN_REST"
 case post =>
  rintro c st' ⟨lo,D,rfl,hS⟩;dsimp only;refine wpS_bind (wpS_mono (wpS_forRange (I:=fun x c st''=>c=(none,())/\∃D,SR key κ it D [] st''/\((pendingOf st'').size<=1\/(pendingOf st'').size+x<=it.size)) (Q:=fun c st''=>c=(none,())/\∃D,SR key κ it D [] st''/\(pendingOf st'').size<=1) ?_ ?_ ⟨rfl,D,hS,.inr ?_⟩) ?_)
  ·rintro x c st'' _ _ ⟨rfl,D',hS',hl⟩;refine wpS_bind (wpS_get ?_);by_cases y:(pendingOf st'').size<=1
   ·rw[if_pos y];exact wpS_pure ⟨rfl,D',hS',y⟩
   rw[if_neg y];refine wpS_bind (zAd hc hm hS' ?_ fun D2 st2 hS2 _ hl2=>?_)
   ·(repeat' split)<;>omega
   ·simp only[Bool.not_true,zv,if_false];exact wpS_pure ⟨rfl,D2,hS2,by omega⟩
  ·rintro c st'' ⟨rfl,D',hS',hl⟩;refine⟨rfl,D',hS',?_⟩;have:=yk (zS it.size);omega
  ·have:=hS.rn.len;have e:=hS.perm.size_eq;rw[<-zC,hS.ea,zu]at e;rw[zC]at this;omega
  ·rintro c st'' ⟨rfl,D',hS',hl⟩;refine wpS_pure (h st'' hS'.fail hS'.perm ?_);rw[hS'.ea,zu];exact hS'.rn.one (by rw[zC];exact hl)
end
def xy:List Int->List Int->Bool
 |[],[]=>false
 |[],_::_=>true
 |_::_,[]=>false
 |a::x,b::y=>if a=b then xy x y else decide (a<b)
theorem lexI_irr:∀x:List Int,xy x x=false
 |[]=>rfl
 |a::x=>by
  show(if a=a then xy x x else decide (a<a))=false
  rw[if_pos rfl]
  exact lexI_irr x
theorem Jl:∀{x y z:List Int},xy x y=true->xy y z=true->xy x z=true
 |[],[],_,h,_=>by cases h
 |[],_::_,[],_,h=>by cases h
 |[],_::_,_::_,_,_=>rfl
 |_::_,[],_,h,_=>by cases h
 |_::_,_::_,[],_,h=>by cases h
 |a::x,b::y,c::z,H,B=>by
  change (if a=b then xy x y else decide (a<b))=true at H
  change (if b=c then xy y z else decide (b<c))=true at B
  show(if a=c then xy x z else decide (a<c))=true
  by_cases J:a=b
  ·rw[if_pos J]at H
   by_cases G:b=c
   ·rw[if_pos G]at B
    rw[if_pos (J.trans G)]
    exact Jl H B
   ·rw[if_neg G]at B
    rw[if_neg (by rw[J];exact G),J]
    exact B
  ·rw[if_neg J]at H
   have:=of_decide_eq_true H
   by_cases G:b=c
   ·rw[<-G,if_neg J]
    exact H
   ·rw[if_neg G]at B
    have:=of_decide_eq_true B
    rw[if_neg (by omega)]
    exact decide_eq_true (by omega)
theorem lexI_tot:∀{x y:List Int},xy x y=false->xy y x=true\/x=y
 |[],[],_=>.inr rfl
 |[],_::_,h=>by cases h
 |_::_,[],_=>.inl rfl
 |a::x,b::y,h=>by
  change (if a=b then xy x y else decide (a<b))=false at h
  by_cases e:a=b
  ·rw[if_pos e]at h
   rcases lexI_tot h with z|z
   ·left
    show(if b=a then xy y x else decide (b<a))=true
    rw[if_pos e.symm]
    exact z
   ·right
    rw[e,z]
  ·rw[if_neg e]at h
   have:=of_decide_eq_false h
   left
   show(if b=a then xy y x else decide (b<a))=true
   rw[if_neg fun z=>e z.symm]
   exact decide_eq_true (by omega)
def lexF (fin:Bool):List Int->List Int->Bool
 |a::x,b::y=>if a=b then lexF fin x y else decide (a<b)
 |_,_=>fin
theorem lexF_eq:∀(x y:List Int),lexF (decide (x.length<y.length)) x y=xy x y
 |[],[]=>rfl
 |[],_::_=>by simp[lexF,xy]
 |_::_,[]=>by simp[lexF,xy]
 |a::x,b::y=>by
  have:=lexF_eq x y
  show(if a=b then lexF (decide ((a::x).length<(b::y).length)) x y else decide (a<b))=(if a=b then xy x y else decide (a<b))
  rw[zI,zI,show decide (x.length+1<y.length+1)=decide (x.length<y.length) by simp,this]
def xh (h:Heap)(v:Value):List Int:=match v with
 |.ref a=>match h.get? a with
  |some o=>match o.data with
   |.seq z _=>z.toList.map numOf
   |_=>[]
  |none=>[]
 |_=>[]
def TpI (h:Heap)(v:Value)(xs:List Int):Prop:=∃(a:Addr) (o:Obj) (z:Array Value) (c:Nat),v=.ref a/\h.get? a=some o/\o.cls=.type "tuple" /\ o.data=.seq z c/\IntsAre z.toList xs
theorem ints_num:∀{us:List Value} {xs:List Int},IntsAre us xs->us.map numOf=xs
 |_,_,.nil=>rfl
 |_,_,.cons n t r=>by rw[zQ,ints_num r];rfl
theorem TpI.cont {h:Heap}{v:Value}{xs:List Int}(p:TpI h v xs):xh h v=xs:=by
 obtain⟨a,o,J,c,rfl,G,H,z,B⟩:=p;unfold xh;simp only[G,z];exact ints_num B
def rkI (h:Heap)(vs:List Value)(v:Value):Int:=((vs.countP fun u=>xy (xh h u) (xh h v):Nat):Int)
theorem countP_lt {J:Type}{p q:J->Bool}:∀{l:List J},(∀x,p x=true->q x=true)->(∃x∈l,q x=true/\p x=false)->l.countP p<l.countP q
 |[],_,⟨x,G,_⟩=>by cases G
 |a::l,B,⟨x,G,M,H⟩=>by
  have le:l.countP p<=l.countP q:=List.countP_mono_left fun x _=>B x
  rw[List.countP_cons,List.countP_cons]
  rcases zD.mp G with z|z
  ·subst z
   rw[M,H]
   simp
   omega
  ·have:=countP_lt (l:=l) B ⟨x,z,M,H⟩
   by_cases y:p a=true
   ·rw[if_pos y,if_pos (B a y)];omega
   ·rw[if_neg y]
    split<;>omega
theorem rk_lt {h:Heap}{vs:List Value}{x y:Value}(H:x∈vs):decide (rkI h vs x<rkI h vs y)=xy (xh h x) (xh h y):=by
 unfold rkI;cases G:xy (xh h x) (xh h y) with
 |true =>
  have:=countP_lt (p:=fun u=>xy (xh h u) (xh h x)) (q:=fun u=>xy (xh h u) (xh h y)) (l:=vs) (fun u B=>Jl B G) ⟨x,H,G,lexI_irr _⟩;exact decide_eq_true (by omega)
 |false =>
  have:vs.countP (fun u=>xy (xh h u) (xh h y))<=vs.countP (fun u=>xy (xh h u) (xh h x)):=List.countP_mono_left fun u _ B=>by
   rcases lexI_tot G with z|z
   ·exact Jl B z
   ·rw[z];exact B
  exact decide_eq_false (by omega)
section
variable {prog:Program}{w:World}{A:Around}{E:Value->Shared->Prop}{s:Shared}{vs:List Value}
theorem lex_ask {fin:Bool}{Q:Bool->Shared->Prop}:∀{us B:List Value} {xs G:List Int} (i:Nat),IntsAre us xs->IntsAre B G->Q (lexF fin xs G) s->KatLex prog w A true fin Q (us.zip B) i s
 |_,_,_,_,i,.nil,_,h=>by
  simp only[List.zip_nil_left]
  exact kat_nil h
 |_,_,_,_,i,.cons n t r,.nil,h=>by
  simp only[List.zip_nil_right]
  exact kat_nil h
 |_,_,_,_,i,.cons n t r,.cons m u q,h=>by
  rw[List.zip_cons_cons]
  refine kat_cons (wpAny_eqBool_int ?_)
  change Q (if n=m then lexF fin _ _ else decide (n<m)) s at h
  by_cases e:n=m
  ·rw[if_pos e]at h
   rw[beq_iff_eq.mpr e]
   exact kat_yes (lex_ask (i+1) r q h)
  ·rw[if_neg e]at h
   rw[beq_eq_false_iff_ne.mpr e]
   refine kat_no ?_
   by_cases z:(i==0)=true
   ·rw[z,Bool.and_true]
    exact oneLt_int h
   ·rw[show(true&&i==0)=false by simpa using z]
    exact kat_one _ _ (lt_int h)
theorem cmp_tups (p:∀v∈vs,∃z,TpI s.heap v z):SCmp prog w A s (tuples' true) (fun x=>x.1∈vs) (fun x=>rkI s.heap vs x.1):=by
 intro x y H hy;obtain⟨z,M⟩:=p _ H;obtain⟨ys,J⟩:=p _ hy;have e:=rk_lt (h:=s.heap) (y:=y.1) H;rw[M.cont,J.cont]at e;obtain⟨a,o,us,c,ea,h1,h2,h3,B⟩:=M;obtain⟨b,o',O,c',eb,U,k2,k3,G⟩:=J;rw[ea,eb];refine kat_lt h1 h3 U k3 ?_;refine lex_ask 0 B G ⟨rfl,?_⟩;have l1:us.size=z.length:=by rw[<-zC,IntsAre.length B]
 have Y:O.size=ys.length:=by rw[<-zC,IntsAre.length G]
 rw[l1,Y,lexF_eq];exact e.symm
theorem zAS {h:Heap}:∀{vs:List Value},(∀v∈vs,∃H,H≠[]/\TpI h v H)->∃fs,KatTups h vs fs/\fs.length=vs.length/\∀v∈fs,∃n t,v=Value.int n t
 |[],_=>⟨[],.nil,rfl,fun v G=>by cases G⟩
 |v::vs,p=>by
  obtain⟨fs,U,J,Y⟩:=zAS fun v G=>p v (zF _ G)
  obtain⟨H,ne,a,o,us,c,rfl,h1,h2,M,O⟩:=p v zM
  match B:us.toList,O with
  |_,.nil=>exact absurd rfl ne
  |_,.cons n t r =>
   refine⟨.int n t::fs,.cons h1 h2 M (by rw[<-zR,B];rfl) U,by rw[zI,zI,J],fun u B=>?_⟩
   rcases zD.mp B with z|z
   ·exact⟨n,t,z⟩
   ·exact Y u z
theorem j9 {l:List Value}{x:Keyed}(h:x∈l.zip l):x.1∈l/\x.2=x.1:=by
 induction l with
 |nil=>cases h
 |cons a r ih =>
  rw[List.zip_cons_cons]at h;rcases zD.mp h with z|z
  ·subst z;exact⟨zM,rfl⟩
  ·exact⟨zF _ (ih z).1,(ih z).2⟩
theorem Jz (l:List Value):(l.zip l).map (fun x=>x.2)=l:=by
 induction l with
 |nil=>rfl
 |cons x r ih=>rw[List.zip_cons_cons,zQ,ih]
theorem pw_few {z:Type}{R:z->z->Prop}:∀{l:List z},l.length<2->l.Pairwise R
 |[],_=>.nil
 |[_],_=>.cons (fun _ B=>by cases B) .nil
 |_::_::_,h=>by simp only[zI]at h;omega
theorem zAf {a:Addr} {n:Nat} {P:PySem.Fin->Shared->Prop} (ho:s.heap.get? a=some (seqObj "list" vs.toArray n)) (p:∀v∈vs,∃G,G≠[]/\TpI s.heap v G) (hz:vs.length<=1000)
  (h:∀(out:List Value),out.Perm vs->out.Pairwise (fun u v=>xy (xh s.heap v) (xh s.heap u)=false)->P (.done (.ret .none)) { s with heap:=sortedHeap s.heap a vs out.toArray }) :
  wpAny (model prog w) A (Builtin.«list.sort» ⟨[.ref a],[]⟩) P E s:=by
 rw[list_sort_plain];have ha:a<s.heap.objs.size:=Heap.lt_size ho;have Y:=zZ hz;refine wpAny_bind (listItems_at ho rfl ?_);refine wpAny_bind (listUpdate_at ho rfl ?_ (by rw[qM];exact Y) (zS _));obtain⟨e1,ho1⟩:∃e1,(s.heap.update a (Obj.mapSeq fun _=>(#[]:Array Value))).get? a=some (seqObj "list" #[] e1):=⟨_,get?_update_seq ho fun _=>#[]⟩;refine wpAny_bind (seqEpoch_at ho1 rfl ?_);refine wpAny_bind (wpAny_newTuple ?_ Y);refine wpAny_bind (wpAny_newList ?_ (zS _));refine wpAny_holding ?_;have H:(((s.heap.update a (Obj.mapSeq fun _=>(#[]:Array Value))).push (seqObj "tuple" vs.toArray 0)).push (seqObj "list" #[] 0)).get? a=some (seqObj "list" #[] e1):=by
  rw[Heap.get?_push_ne _ _ _ (by rw[size_push',Heap.size_update];exact zG (zm ha)),Heap.get?_push_ne _ _ _ (by rw[Heap.size_update];exact zG ha)];exact ho1
 have p6:∀v∈vs,∀G,TpI s.heap v G->TpI (((s.heap.update a (Obj.mapSeq fun _=>(#[]:Array Value))).push (seqObj "tuple" vs.toArray 0)).push (seqObj "list" #[] 0)) v G:=by
  rintro v O G ⟨b,o,us,c,rfl,h1,J,h3,h4⟩;have hb:a≠b:=fun z=>by rw[<-z,ho]at h1;cases h1;exact absurd (show Value.type "list" = Value.type "tuple" from J) (by decide)
  exact⟨b,o,us,c,rfl,Heap.get?_push_of_some _ (Heap.get?_push_of_some _ ((Heap.get?_update_other _ _ hb).trans h1)),J,h3,h4⟩
 show wpAny (model prog w) A _ P E { s with heap:=((s.heap.update a (Obj.mapSeq fun _=>(#[]:Array Value))).push (seqObj "tuple" vs.toArray 0)).push (seqObj "list" #[] 0) }
 dsimp only;by_cases J:vs.toArray.size<2
 ·rw[if_pos J,if_pos J];refine wpAny_bind (wpAny_pure ?_);rw[StateT.run_pure];refine wpAny_bind (wpAny_pure ?_);dsimp only;refine wpAny_bind (seqEpoch_at H rfl ?_);have ad:(vs.toArray.zip vs.toArray).map (·.2)=vs.toArray:=by
   apply Array.toList_inj.mp
   simpa using Jz vs
  have aa:vs.length<2:=by simpa using J
  refine wpAny_bind (listUpdate_at H rfl ?_ (zS _) (by rw[ad,qM];omega));simp only[bne_self_eq_false,zv,if_false];refine wpAny_pure ?_;have:=h vs (ym.refl _) (by
   exact pw_few aa)
  rw[<-ad]at this;exact this
 ·rw[if_neg J,if_neg J];have aa:2<=vs.length:=by
   have:¬ vs.length<2:=by simpa using J
   omega
  obtain⟨fs,f1,f2,f3⟩:=zAS (h:=((s.heap.update a (Obj.mapSeq fun _=>(#[]:Array Value))).push (seqObj "tuple" vs.toArray 0)).push (seqObj "list" #[] 0)) (vs:=vs) fun v O=>by
   obtain⟨G,ne,t⟩:=p v O;exact⟨G,ne,p6 v O G t⟩
  refine wpAny_bind (kat_kind (T:=.type "int") f1 (by omega) (fun v O=>?_) (by decide) ?_)
  ·obtain⟨k,t,rfl⟩:=f3 v O;exact .now
  have cm:=cmp_tups (prog:=prog) (w:=w) (A:=A) (s:={ s with heap:=((s.heap.update a (Obj.mapSeq fun _=>(#[]:Array Value))).push (seqObj "tuple" vs.toArray 0)).push (seqObj "list" #[] 0) }) (vs:=vs) fun v O=>by
   obtain⟨G,ne,t⟩:=p v O;exact⟨G,p6 v O G t⟩
  have zl:(vs.toArray.zip vs.toArray).toList=vs.zip vs:=by simp
  have run:=sortRuns_ok (E:=E) (Q:=fun _ B=>failedOf B=none/\(arrOf B).Perm (vs.toArray.zip vs.toArray)/\Srt (fun x=>rkI (((s.heap.update a (Obj.mapSeq fun _=>(#[]:Array Value))).push (seqObj "tuple" vs.toArray 0)).push (seqObj "list" #[] 0)) vs x.1) (arrOf B).toList) (st:=SortSt.mk' (tuples' true) (vs.toArray.zip vs.toArray) #[] 7 none) (it:=vs.toArray.zip vs.toArray) cm (fun x hx=>(j9 (by rw[<-zl];exact hx)).1) rfl rfl rfl rfl fun B g1 g2 g3=>⟨g1,g2,g3⟩;refine wpAny_bind (wpAny_mono run ?_ fun _ _ e=>e);rintro⟨⟨⟩,B⟩ s' ⟨rfl,hf,hp,hs⟩;dsimp only at hf hp hs ⊢;have U:(arrOf B).toList.Perm (vs.zip vs):=by
   have:=x9.mp hp
   rwa [zl]at this
  have M:(arrOf B).map (·.2)=((arrOf B).toList.map (·.2)).toArray:=by
   apply Array.toList_inj.mp;simp
  have ac:((arrOf B).toList.map (·.2)).Perm vs:=by
   have:=U.map (fun x=>x.2)
   rwa [Jz]at this
  refine wpAny_bind (seqEpoch_at H rfl ?_);have hsz:((arrOf B).map (·.2)).size<=sizeLine:=by
   rw[M,qM,ac.length_eq];exact Y
  refine wpAny_bind (listUpdate_at H rfl ?_ (zS _) (Nat.le_succ_of_le hsz));rw[hf];simp only[bne_self_eq_false,zv,if_false];refine wpAny_pure ?_;have:=h ((arrOf B).toList.map (·.2)) ac (by
   rw[List.pairwise_map];refine xJ.imp_of_mem ?_ hs;intro x y hx hy hxy;obtain⟨x1,x2⟩:=j9 (U.mem_iff.mp hx);obtain⟨y1,y2⟩:=j9 (U.mem_iff.mp hy);rw[x2,y2];have e:=rk_lt (h:=((s.heap.update a (Obj.mapSeq fun _=>(#[]:Array Value))).push (seqObj "tuple" vs.toArray 0)).push (seqObj "list" #[] 0)) (y:=x.1) y1;obtain⟨G,_,tx⟩:=p _ x1;obtain⟨ys,_,ty⟩:=p _ y1;rw[(p6 _ x1 _ tx).cont,(p6 _ y1 _ ty).cont]at e;rw[tx.cont,ty.cont,<-e];exact decide_eq_false (Int.not_lt.mpr hxy))
  rw[<-M]at this;exact this
end
theorem perm_pm {H:Type}{d:H}{l m:List H}(h:l.Perm m):∃pm:List Nat,pm.Perm (zj m.length)/\l=pm.map fun i=>m.getD i d:=by
 induction h with
 |nil=>exact⟨[],ym.refl _,rfl⟩
 |@cons x l m h ih =>
  obtain⟨pm,G,J⟩:=ih;refine⟨0::pm.map (· + 1),?_,?_⟩
  ·rw[zI,y3];exact(G.map _).cons _
  ·rw[zQ,yp,J];rfl
 |swap x y l =>
  refine⟨1::0::(zj l.length).map (· + 2),?_,?_⟩
  ·rw[zI,zI,y3,y3,zQ,yp];exact ym.swap _ _ _
  ·rw[zQ,zQ,yp];have e:∀f:Nat->H,(∀i,f i=l.getD i d)->(zj l.length).map f=l:=fun f hf=>by
    apply yv;intro i;rw[qI];by_cases z:i<l.length
    ·rw[List.getElem?_range z,qA z,Option.map_some,hf];simp[z]
    ·rw[ze (by rw[yZ];omega),ze (by omega)];rfl
   rw[e ((fun i=>(x::y::l).getD i d) ∘ fun x=>x+2) fun i=>rfl];rfl
 |@trans l m n h1 h2 O M =>
  obtain⟨p,G,J⟩:=O;obtain⟨q,Y,q2⟩:=M;have lm:m.length=n.length:=h2.length_eq;have U:q.length=n.length:=by rw[Y.length_eq,yZ]
  refine⟨p.map fun i=>q.getD i 0,?_,?_⟩
  ·refine(G.map _).trans ?_;rw[lm,<-U];have:((zj q.length).map fun i=>q.getD i 0)=q:=by
    apply yv;intro i;rw[qI];by_cases z:i<q.length
    ·rw[List.getElem?_range z,qA z];simp[z]
    ·rw[ze (by rw[yZ];omega),ze (by omega)];rfl
   rw[this,U];exact Y
  ·rw[J,yp];refine jV fun i z=>?_;have hl:i<m.length:=x6.mp (G.mem_iff.mp z);show m.getD i d=n.getD (q.getD i 0) d
   have B:i<q.length:=by omega
   have e:m[i]? = some (n.getD (q[i]) d):=by
    rw[q2,qI,qA B];rfl
   rw[qD,e];simp[B]
section
variable {ins:Nat}{ds:List Wd}
end
section
variable {f:Int×Int->Int}{W:Nat->Int}{E:List (List (Int×Int))}
end
section
variable {f:Int×Int->Int}{W:Nat->Int}{ins:Nat}{ds:List Wd}{C:Int}{E:List (List (Int×Int))}{P:Int×Int->Prop}{i:Nat}{a:Ar}
end
section
variable {ins:Nat}{ds:List Wd}{g:Go}{B:Nat}{E:List (List (Int×Int))}{i:Nat}{a:Ar}
end
section
variable {ins:Nat}{ds:List Wd}{g:Go}{B L:Nat}
end
section
variable {K:zA}{σ:St}{H:Hp}{Q:VK}
end
section
variable {H H':Hp}{l:Addr}{vs:List V}{E:List (List (Int×Int))}
end
section
variable {prog:Program}{w:World}{A:Around}{E:Value->Shared->Prop}{s:Shared}
end
section
variable {K:zA}{σ:St}{H:Hp}{D:Ends}{g:TG}{tb:TS}{b:Addr}{n:Nat}
end
section
variable {K:zA}{σ:St}{H:Hp}{Q:VK}
end
section
variable {ins:Nat}{ds:List Wd}{g:Go}{B:Nat}
end
def goN (ins:Nat)(ds:List Wd):Nat->Nat->Int->Int->List (List Int)
 |0,_,_,_=>[]
 |n+1,z,G,B=>if z<ins then [[(z:Int),G,B]] else match ds[z-ins]? with
  |some d=>goN ins ds n d.a (G+d.s) B++goN ins ds n d.b (G+d.t) (B*sgW d.w)
  |none=>[]
def gw (ins:Nat)(ds:List Wd)(z:Nat)(G B:Int):List (List Int):=goN ins ds (z+1) z G B
section
variable {ins:Nat}{ds:List Wd}
end
section
variable {ds:List Wd}
end
theorem src_raw {prog:Program}{w:World}{d:Addr}{es:Array DictEntry}{ep:Nat}(lo:(d==sysModules)=false) :
  Src prog w "dict" d (fun n P=>n=es.size/\P=fun i v=>∃e,es[i]? = some e/\v=e.key) (RawD d es ep) where
 ty:=fun s ⟨o,G,B,_⟩=>⟨o,G,B⟩
 keep:=fun h U ⟨o,G,B⟩ k=>⟨o,k o G,B⟩
 nl:=by decide
 nt:=by decide
 hint:=fun A E s Q ⟨o,G,B,_⟩ q=>PySem.W.kdl_hint_dict ⟨o,G,B⟩ q
 iter:=fun A E s Q M z h=>by
  obtain⟨Y,St,J,W,O⟩:=(raw_src (prog:=prog) (w:=w) (es:=es) (ep:=ep) lo).iter A s M z
  refine J E Q (h _ s.drawn _ _ _ _ St (fun b o e=>Heap.get?_push_of_some _ e) (zB _) (fun b H=>?_) ⟨rfl,rfl⟩ W O)
  simp only[zD,zW,or_false]at H
  rcases H with e|e
  ·exact .inr ⟨xc e.symm,by rw[e,Heap.size_push];exact yS _⟩
  ·exact .inl e
theorem TpI.keep {h h':Heap}{v:Value}{xs:List Int}(p:TpI h v xs)(k:∀b o,h.get? b=some o->h'.get? b=some o):TpI h' v xs:=by
 obtain⟨b,o,H,c,rfl,J,G,z,B⟩:=p;exact⟨b,o,H,c,rfl,k b o J,G,z,B⟩
section
variable {prog:Program}{w:World}{A:Around}{E:Value->Shared->Prop}{s:Shared}{T:String}{r:Addr}{C:Nat->(Nat->Value->Prop)->Prop}{OK:Heap->Prop}
theorem sort_srcT {Q:Value->Shared->Prop}(K:Src prog w T r C OK)(M:∀n P,C n P->n<=1000/\∀acc:Array Value,ItemsOf P acc n->∀v∈acc.toList,∃G,G≠[]/\TpI s.heap v G)(O:A.handled=none)(hok:OK s.heap)
  (h:∀z d tk D c (vs:List Value) (acc:Array Value) n P,(∀b o,s.heap.get? b=some o->z.get? b=some o)->s.heap.objs.size<=D->z.get? D=some (seqObj "list" vs.toArray c)->C n P->ItemsOf P acc n->vs.Perm acc.toList->Q (.ref D) { s with heap:=z,drawn:=d,toks:=tk }) :
  wpAny (model prog w) A (call (.builtin "sorted") [.ref r]) Q E s:=by
 refine Calls.call_function_entry kind_sorted plain_sorted entry_sorted (args_sorted1 _) ?_;unfold Builtin.«sorted»;refine wpAny_bind (m:=checkCount "sorted" 1 1 _) (wpAny_pure ?_);refine wpAny_bind (coll_src (A:=A.in1) K (fun n P c=>zZ (M n P c).1) O hok fun z d tk acc n P kp le J H=>?_);obtain⟨Y,tp⟩:=M n P J;have al:acc.toList.length<=1000:=by rw[zC,H.1];exact Y
 refine wpAny_bind (wpAny_newList ?_ (zZ (by omega)));have B:(z.push (seqObj "list" acc.toList.toArray 0)).get? z.objs.size=some (seqObj "list" acc.toList.toArray 0):=Heap.get?_push_size _ rfl;refine wpAny_bind (wpAny_holding (wpAny_call_entry slot_list_sort ⟨_,B,rfl⟩ entry_list_sort (zAf B (fun v U=>?_) al fun out o1 o2=>⟨_,rfl,?_⟩) (args_list_sort _)))
 ·obtain⟨G,ne,t⟩:=tp acc H v U;exact⟨G,ne,t.keep fun b o e=>Heap.get?_push_of_some _ (kp b o e)⟩
 obtain⟨c,hD⟩:=sortedHeap_at (out:=out.toArray) B;refine wpAny_pure ⟨_,rfl,h _ d tk z.objs.size c out acc n P (fun b o e=>?_) (Nat.le_of_lt le) hD J H o1⟩;have bl:=Heap.lt_size (kp b o e);rw[sortedHeap_old (zG bl) (by rw[size_push'];exact zm bl),Heap.get?_push_of_some _ (kp b o e)]
end
section
variable {prog:Program}{w:World}{A:Around}{E:Value->Shared->Prop}{s:Shared}
theorem call_setZT {l:Addr}{vs:List Value}{ns:List Int}{Q:Value->Shared->Prop}(hh:A.handled=none)(hl:s.heap.IsTuple l vs.toArray)(hi:IntsAre vs ns)(hb:ns.length+1<scanBound)
  (h:∀(h':Heap) (tk:Nat),SetZ (ye w) h' s.heap.objs.size (ns.foldl step_dedup [])->(∀b o,s.heap.get? b=some o->h'.get? b=some o)->Q (.ref s.heap.objs.size) { s with heap:=h',toks:=tk }) :
  wpAny (model prog w) A (call (.type "set") [.ref l]) Q E s:=by
 have vl:vs.length=ns.length:=IntsAre.length hi;refine callSet (Q₁:=fun obj z=>obj=.ref s.heap.objs.size/\z = { s with heap:=s.heap.push (yH #[] 0 (.fresh 0 0 (ye w))) }) (new_z _ ⟨rfl,rfl⟩) fun obj z B=>?_;obtain⟨rfl,rfl⟩:=B;have hS:(s.heap.push (yH #[] 0 (.fresh 0 0 (ye w)))).get? s.heap.objs.size=some (yH #[] 0 (.fresh 0 0 (ye w))):=Heap.get?_push_size _ rfl;refine⟨⟨_,hS,rfl⟩,?_⟩;have H:(s.heap.push (yH #[] 0 (.fresh 0 0 (ye w)))).IsTuple l vs.toArray:=hl.push _;obtain⟨ol,J,M,nl,O⟩:=hl;have lS:l<s.heap.objs.size:=Heap.lt_size J;obtain⟨ocls,ah,ae,Y⟩:=ol;simp only at M O;subst M;subst O;have ai:=Heap.get?_push_of_some (yH #[] 0 (.fresh 0 0 (ye w))) J;have f1:=PySem.F.sub_tuple_set;have f2:=PySem.F.sub_tuple_frozenset;have f3:(Value.type "tuple" == Value.type "dict")=false:=by decide
 unfold Builtin.«set.__init__» noKeywords Builtin.Frozenset.updateFrom;generalize ac:pyIter=PI
 wp_walk
 subst ac;refine wpAny_pyIter_tuple H ?_;refine wpAny_bind (wpAny_runValue ?_);have ag:l≠(s.heap.push (yH #[] 0 (.fresh 0 0 (ye w)))).objs.size:=by
  rw[Heap.size_push];exact zG (zm lS)
 have ad:s.heap.objs.size∉[(s.heap.push (yH #[] 0 (.fresh 0 0 (ye w)))).objs.size,l]:=by
  rw[Heap.size_push];simp only[zD,zW,or_false,not_or];exact⟨zG (yS _),xG lS⟩
 have W:=(Walks.tuple (prog:=prog) (w:=w) (A:=A.in1.in1.in1) (by simp[hh]) _ l ag vs.toArray).toS;rw[show vs.toArray.size=ns.length by rw[qM];exact vl]at W;refine loop_z W s.heap.objs.size ad (fun i v hv=>?_) (led:=ye w) ns.length 0 _ [] (by omega) (zS _) ⟨⟨_,Heap.get?_push_size _ rfl,rfl,rfl⟩,H.push _⟩ (setZ_new (Heap.get?_push_of_some _ hS)) (by simpa using hb) fun s' U hz=>?_
 ·obtain⟨t,e⟩:=IntsAre.int_at hi i v (by simpa using hv);have il:i<ns.length:=by
   have:=(qB.mp (show vs[i]? = some v by simpa using hv)).1;omega
  exact⟨ns[i],t,qA il,by rw[e];simp[il]⟩
 ·obtain⟨h',g',d',aa,af⟩:=s';have eg:g'=s.gens:=U.gens;have ed:d'=s.drawn:=U.drawn;have eo:af=s.os:=U.os;subst eg;subst ed;subst eo;show wpAny _ _ _ _ _ _
  refine wpAny_pure ?_;show wpAny _ _ (ret Value.none) _ _ _
  refine wpAny_pure ⟨rfl,h h' aa hz fun b o e=>?_⟩;have G:b<s.heap.objs.size:=Heap.lt_size e;refine U.heap b o ?_ (Heap.get?_push_of_some _ (Heap.get?_push_of_some _ e));rw[Heap.size_push];simp only[zD,zW,or_false,not_or];exact⟨zG G,zG (zm G)⟩
end
def rSetZT (w:World)(K:zA):List V->Hp->VK->Prop:=fun B H Q=>∃(p:Addr) (z:List Int),B=[.ref p]/\SqT K H p (z.map V.int)/\z.length<=4000/\∀a,H a=none->Q (.ref a) (upd H a (SetE w a (z.foldl step_dedup [])))
theorem Jm {X:Cx}(w:World)(K:zA)(B:X.calm=true)(M:X.w=w:=by rfl)(U:X.K=K:=by rfl):CallR X (.type "set") (rSetZT w K):=by
 subst M U;intro pins s σ H xs us Q I r h;obtain⟨p,ns,rfl,hp,hl,q⟩:=h;obtain⟨u,rfl,Y⟩:=ji r;cases Y
 obtain⟨ts,rt,O,_⟩:=I.tuple hp;refine call_setZT (I.ok.hd B) (vs:=ts) (by obtain⟨o,ho,B,n,J⟩:=O;exact⟨o,ho,B,n,J⟩) (jp rt) (by unfold scanBound;omega) fun G tk z kp=>?_;refine⟨.ref s.heap.objs.size,_,I.laid (t':=tk) kp (zB _) ?_,rfl,q _ I.fresh⟩;show(SetZ (ye X.w) G s.heap.objs.size _)/\_
 refine⟨z,?_,fun h1 h2 z1 k=>z1.keep k⟩;obtain⟨es,ep,t,e,_⟩:=z;exact⟨_,e⟩
def rSortDT:List V->Hp->VK->Prop:=fun M H Q=>∃(a:Addr) (z:List (List Key×V)) (B:List (List Int)),M=[.ref a]/\H a=some (.dT z)/\KsT z B/\(∀S∈B,S≠[])/\B.length<=1000 /\
 ∀l J G,H l=none->HTs iT H J G->G.Perm B->Q (.ref l) (upd H l (.lst J))
theorem call_sortDT {X:Cx}{k:Nat}(hr:Room k X.A):CallR X (.builtin "sorted") rSortDT:=by
 intro pins s σ H xs us Q I r h;obtain⟨p,B,J,rfl,hp,hK,hne,h1000,q⟩:=h;obtain⟨u,rfl,rx⟩:=ji r;cases rx
 obtain⟨z,lo,G,pr,o,es,ep,h1,h2,h3,h4,h5⟩:=(show ObjOk X.prog X.w H s.heap p (.dT B) from I.hok p _ hp);have hl:B.length=G.length:=Paired.length pr;have hS:B.length=J.length:=hK.len;have hes:es.size=G.length:=by rw[<-zC,h4,qC]
 have pat:∀(j:Nat) (kv:List Key×V) (y:List Key×Addr×Value),B[j]? = some kv->G[j]? = some y->kv.1=y.1/\H y.2.1=some (.tup (kv.1.map kV)):=by
  clear q h4 h5 hl hes z hp hK hS;induction pr with
  |nil=>intro j kv y U;simp at U
  |cons a _ ih =>
   intro j kv y U Y;cases j with
   |zero =>
    simp only[yV,Option.some.injEq]at U Y;subst U Y;exact⟨a.1,a.2.1⟩
   |succ j=>exact ih j kv y (by simpa using U) (by simpa using Y)
 have sat:∀(j:Nat) y,G[j]? = some y->∃S,J[j]? = some S/\H y.2.1=some (.tup (iT S)):=fun j y hy=>by
  have jl:j<G.length:=(qB.mp hy).1;have ek:B[j]? = some (B[j]'(by omega)):=qA _;have eS:J[j]? = some (J[j]'(by omega)):=qA _;have e:=congrArg (fun l=>l[j]?) (show B.map (·.1)=J.map tkey from hK);simp only[qI,ek,eS,Option.map_some,Option.some.injEq]at e;refine⟨_,eS,?_⟩;rw[(pat j _ y ek hy).2,e,tkey_kV];rfl
 have O:∀(acc:Array Value),ItemsOf (fun i v=>∃e,es[i]? = some e/\v=e.key) acc es.size->acc.toList=(G.map fun y=>y.2.1).map Value.ref:=fun acc it=>by
  have al:acc.toList.length=G.length:=by rw[zC,it.1,hes]
  refine yv fun j=>?_;rw[yp,qI];cases hj:acc.toList[j]? with
  |none =>
   have:G.length<=j:=by rw[<-al];exact List.getElem?_eq_none_iff.mp hj
   rw[ze this];rfl
  |some v =>
   obtain⟨en,U,Y⟩:=it.2 j v (by rw[<-zR];exact hj);rw[<-zR,h4,qI]at U;obtain⟨y,hy,rfl⟩:=yK.mp U;rw[hy,Y];rfl
 refine sort_srcT (src_raw (es:=es) (ep:=ep) lo) (fun n P c=>?_) hr.hd ⟨o,h1,h2.1,h3⟩ fun h' d tk D c vs acc n P kp le hD hc M pm=>?_
 ·obtain⟨rfl,rfl⟩:=c;refine⟨by omega,fun acc it v hv=>?_⟩;rw[O acc it,yp]at hv;obtain⟨y,hy,rfl⟩:=qP.mp hv;obtain⟨j,hj⟩:=List.getElem?_of_mem hy;obtain⟨S,eS,aa⟩:=sat j y hj;obtain⟨_,ts,rt,o',f1,f2,n',f3⟩:=(show ObjOk X.prog X.w H s.heap y.2.1 (.tup (iT S)) from I.hok _ _ aa);exact⟨S,hne S (qE eS),y.2.1,o',ts.toArray,n',rfl,f1,f2,f3,jp rt⟩
 ·obtain⟨rfl,rfl⟩:=hc;rw[O acc M]at pm;obtain⟨im,im1,im2⟩:=perm_pm (d:=Value.none) pm;have iml:∀i∈im,i<G.length:=fun i M=>by
   have:=x6.mp (im1.mem_iff.mp M)
   simpa using this
  have ev:vs=(im.map fun i=>(G.map fun y=>y.2.1).getD i 0).map Value.ref:=by
   refine im2.trans (Eq.trans (jV (g:=fun i=>Value.ref ((G.map fun y=>y.2.1).getD i 0)) fun i M=>?_) yp.symm);have il:=iml i M;simp[il]
  have len:im.length=J.length:=by rw[im1.length_eq,yZ,qC,qC];omega
  refine⟨.ref D,_,(I.drawn d).laid (t':=tk) kp le (show ObjOk X.prog X.w _ h' _ (.lst ((im.map fun i=>(G.map fun y=>y.2.1).getD i 0).map V.ref)) from⟨zZ (by rw[qC,qC];omega),vs,c,by rw[ev];exact vals_refs _,hD⟩),rfl,q _ ((im.map fun i=>(G.map fun y=>y.2.1).getD i 0).map V.ref) (im.map fun i=>J.getD i []) (I.hok.fresh le) ⟨by rw[qC,qC,qC],fun j S hj=>?_⟩ ?_⟩
  ·rw[qI]at hj;obtain⟨i,M,ei⟩:=yK.mp hj;have il:=iml i (qE M);obtain⟨S',eS,aa⟩:=sat i _ (qA il);rw[qD,eS]at ei;refine⟨G[i].2.1,?_,by rw[<-ei];exact aa⟩;rw[qI,qI,M];simp[il]
  ·have e:((zj J.length).map fun i=>J.getD i [])=J:=by
    apply yv;intro i;rw[qI];by_cases M:i<J.length
    ·rw[List.getElem?_range M,qA M];simp[M]
    ·rw[ze (by rw[yZ];omega),ze (by omega)];rfl
   have im1':im.Perm (zj J.length):=by
    have Y:((G.map fun y=>y.2.1).map Value.ref).length=J.length:=by rw[qC,qC];omega
    rwa [Y]at im1
   have p2:=im1'.map fun i=>J.getD i []
   rwa [e]at p2
theorem od_len:∀{S:List Int} {top lo:Int},lo<=top+2->(∀x∈S,x%2=1/\lo<=x/\x<=top)->S.Pairwise (· < ·)->2*(S.length:Int)<=top-lo+2
 |[],top,lo,B,_,_=>by simp;omega
 |x::t,top,lo,B,h,p=>by
  obtain⟨G,H⟩:=je.mp p
  obtain⟨O,M,J⟩:=h x zM
  have:=od_len (S:=t) (top:=top) (lo:=x+2) (by omega) (fun y z=>by
   obtain⟨a,b,c⟩:=h y (zF _ z)
   have:=G y z
   omega) H
  rw[zI]
  push_cast
  omega
theorem OdIn.few {S:List Int}{top:Int}(o:OdIn S top)(p:S.Pairwise (· < ·))(t:1<=top):2*(S.length:Int)<=top+1:=by
 have:=od_len (S:=S) (top:=top) (lo:=1) (by omega) (fun x z=>⟨o.odd x z,o.lo x z,o.hi x z⟩) p;omega
structure TbE where
 n:Str
 s:Stmt
 ps:List Str
structure DX (K:zA) (n:Str) (s:Stmt):Prop where
 ex:∃(f:Addr) (od an:Option Addr) (sl:Array (Option Value)) (oc kV dc pm cd ct:Value),jI K mainGlobals n=some (some (.ref f)) /\
  K.lookup f=some ⟨oc,od,.func (xZ n n (j4 s) (xq s) (zT s) .none kV dc pm an cd ct),sl⟩/\PySem.W.codeIn K cd n=true/\x5 K (.ref f)=true
def TD (K:zA)(G:Str->Option Value)(n:Str)(s:Stmt)(B:List Str):Prop:=∃(f:Addr) (z:FuncData),Fun K n n s f z/\G n=some (.ref f)/\Binds K z B []
def BX (n:Str)(s:Stmt)(B:List Str):Prop:=∀(kV M pm:Value) (J:Option Addr) (H G:Value) (z:List Value),z.length=B.length->bindArgs (xZ n n (j4 s) (xq s) (zT s) .none kV M pm J H G) ⟨z,[]⟩=pure (B.zip z)
def DL (K:zA):List TbE->Prop
 |[]=>True
 |⟨n,s,_⟩::r=>DX K n s/\DL K r
def BL:List TbE->Prop
 |[]=>True
 |⟨n,s,z⟩::r=>BX n s z/\BL r
def NL (K:zA):List Str->Prop
 |[]=>True
 |n::r=>jI K mainGlobals n=some none/\NL K r
theorem dl_cons {K:zA}{n:Str}{s:Stmt}{M:List Str}{r:List TbE}{f:Addr}{J G:Option Addr}{sl:Array (Option Value)}{B kV H pm z ct:Value}(a:jI K mainGlobals n=some (some (.ref f)))
  (l:K.lookup f=some ⟨B,J,.func (xZ n n (j4 s) (xq s) (zT s) .none kV H pm G z ct),sl⟩) (c:PySem.W.codeIn K z n=true) (k:x5 K (.ref f)=true) (t:DL K r):DL K (⟨n,s,M⟩::r):=⟨⟨f,J,G,sl,B,kV,H,pm,z,ct,a,l,c,k⟩,t⟩
theorem nl_cons {K:zA}{n:Str}{r:List Str}(a:jI K mainGlobals n=some none)(t:NL K r):NL K (n::r):=⟨a,t⟩
theorem bx_at:∀{l:List TbE} {i:Nat} {x:TbE},BL l->l[i]? = some x->BX x.n x.s x.ps
 |⟨n,s,z⟩::r,0,x,h,e=>by cases e;exact h.1
 |⟨n,s,z⟩::r,i+1,x,h,e=>bx_at (l:=r) (i:=i) h.2 e
 |[],i,x,h,e=>by simp at e
theorem dx_at {K:zA}:∀{l:List TbE} {i:Nat} {x:TbE},DL K l->l[i]? = some x->DX K x.n x.s
 |⟨n,s,z⟩::r,0,x,h,e=>by cases e;exact h.1
 |⟨n,s,z⟩::r,i+1,x,h,e=>dx_at (l:=r) (i:=i) h.2 e
 |[],i,x,h,e=>by simp at e
theorem tx_of {K:zA}{h:Heap}{z:Str->Option Value}{l:List TbE}{i:Nat}{x:TbE}(X:K.In h)(G:h.Ns mainGlobals z)(D:DL K l)(b:BL l)(e:l[i]? = some x):TD K z x.n x.s x.ps:=by
 obtain⟨f,od,an,sl,Y,kV,dc,pm,U,O,M,J,B,H⟩:=(dx_at D e).ex;have F:=fun_mk (st:=x.s) J B H;exact⟨f,_,F,PySem.W.mg_of X G M,F.binds (bx_at b e)⟩
theorem law_tx {K:zA}{H:Str->Option Value}{n:Str}{s:Stmt}{p:Str}{J:Addr}(t:TD K H n s [p])(b:BX n s [p])(B:H n=some (.ref J)):∃z,Fun K n n s J z/\∀(s':Shared) (v:Value),BindsTo s' z ⟨[v],[]⟩ [(p,v)]:=by
 obtain⟨f,z,F,m,_⟩:=t;rw[B]at m;cases m
 refine⟨z,F,fun s' v=>?_⟩;obtain⟨oc,od,kV,doc,pm,U,G,M,O,rfl,lk,Y⟩:=F.ex;exact .of_eq (b kV doc pm U G M [v] rfl)
theorem nl_at {K:zA}{h:Heap}{B:Str->Option Value}(X:K.In h)(G:h.Ns mainGlobals B):∀{l:List Str} {n:Str},NL K l->n∈l->B n=none
 |m::r,n,z,e=>by
  rcases zD.mp e with e|e
  ·rw[e];exact PySem.W.mg_none_of X G z.1
  ·exact nl_at X G z.2 e
def stA:List Str->List V->St
 |_::N,v::z=>some v::stA N z
 |_::N,[]=>none::stA N []
 |[],_=>[]
theorem zAG:∀{N:List Str} {vs:List V},vs.length<=N.length->jj N vs=stA N vs
 |_::N,v::vs,h=>by
  have ih:=zAG (N:=N) (vs:=vs) (Nat.le_of_succ_le_succ h)
  unfold jj at ih ⊢
  rw[stA,<-ih,zQ,zI,zI,Nat.add_sub_add_right]
  rfl
 |_::N,[],h=>by
  have ih:=zAG (N:=N) (vs:=[]) (zS _)
  unfold jj at ih ⊢
  rw[stA,<-ih]
  simp[List.replicate_succ]
 |[],[],_=>rfl
 |[],v::vs,h=>by cases h
inductive SD
 |t (xs:List V)
 |l (xs:List V)
 |n
inductive LD
 |l (ss:List SD)
 |t (ss:List SD)
inductive PD
 |l (ls:List LD)
 |t (ls:List LD)
 |x (v:V)
 |d
def IsSD (N:Addr->Prop)(H:Hp)(v:V):SD->Prop
 |.t z=>∃q,v=.ref q/\H q=some (.tup z)/\(∀x∈z,xF x=true)/\z.length<=300
 |.l z=>∃q,v=.ref q/\N q/\H q=some (.lst z)/\(∀x∈z,xF x=true)/\z.length<=300
 |.n=>v=.non
def AllD {z:Type}(R:V->z->Prop)(us:List V)(ds:List z):Prop:=us.length=ds.length/\∀(i:Nat) u d,us[i]? = some u->ds[i]? = some d->R u d
def IsLD (N:Addr->Prop)(H:Hp)(v:V):LD->Prop
 |.l B=>∃q z,v=.ref q/\N q/\H q=some (.lst z)/\AllD (IsSD N H) z B/\z.length<=2000
 |.t B=>∃q z,v=.ref q/\H q=some (.tup z)/\AllD (IsSD N H) z B/\z.length<=2000
def IsPD (N:Addr->Prop)(H:Hp)(v:V):PD->Prop
 |.l B=>∃q z,v=.ref q/\N q/\H q=some (.lst z)/\AllD (IsLD N H) z B/\z.length<=10
 |.t B=>∃q z,v=.ref q/\H q=some (.tup z)/\AllD (IsLD N H) z B/\z.length<=10
 |.x y=>v=y/\xF y=true
 |.d=>∃q,v=.ref q/\H q=some (.dK [])
theorem AllD.imp {z:Type}{R B:V->z->Prop}{us:List V}{ds:List z}(h:AllD R us ds)(f:∀u d,R u d->B u d):AllD B us ds:=⟨h.1,fun i u d H G=>f u d (h.2 i u d H G)⟩
theorem AllD.at_ {z:Type}{R:V->z->Prop}{us:List V}{ds:List z}(h:AllD R us ds){i:Nat}{u:V}(e:us[i]? = some u):∃d,ds[i]? = some d/\R u d:=by
 have B:i<ds.length:=by rw[<-h.1];exact(qB.mp e).1
 exact⟨_,qA B,h.2 i u _ e (qA B)⟩
theorem AllD.nil {z:Type}{R:V->z->Prop}:AllD R [] []:=⟨rfl,fun i u d e=>by simp at e⟩
theorem AllD.snoc {G:Type}{R:V->G->Prop}{us:List V}{ds:List G}{u:V}{d:G}(h:AllD R us ds)(r:R u d):AllD R (us++[u]) (ds++[d]):=by
 refine⟨by rw[qF,qF,h.1];rfl,fun i a b H B=>?_⟩;rcases get_snoc H with⟨l,z⟩|⟨z,rfl⟩
 ·rw[qH (by rw[<-h.1];exact l)]at B;exact h.2 i a b z B
 ·rw[z,h.1,qG (zB _),Nat.sub_self]at B;cases B
  exact r
section
variable {N N':Addr->Prop}{p:Addr}{H H':Hp}{v:V}
theorem IsSD.chg {d:SD}(h:IsSD N H v d){xs:List V}(O:∀q,N q->q≠p)(J:H p=some (.lst xs))(c:Chg p H H'):IsSD N H' v d:=by
 cases d with
 |t M =>
  obtain⟨q,e,B,G⟩:=h;exact⟨q,e,c _ _ (JE B J (by intro z;cases z)) B,G⟩
 |l M =>
  obtain⟨q,e,n,B,G⟩:=h;exact⟨q,e,n,c _ _ (O _ n) B,G⟩
 |n=>exact h
theorem IsLD.chg {d:LD}(h:IsLD N H v d){xs:List V}(U:∀q,N q->q≠p)(M:H p=some (.lst xs))(c:Chg p H H'):IsLD N H' v d:=by
 cases d with
 |l Y =>
  obtain⟨q,O,e,n,B,J,G⟩:=h;exact⟨q,O,e,n,c _ _ (U _ n) B,J.imp fun u d r=>r.chg U M c,G⟩
 |t Y =>
  obtain⟨q,O,e,B,J,G⟩:=h;exact⟨q,O,e,c _ _ (JE B M (by intro z;cases z)) B,J.imp fun u d r=>r.chg U M c,G⟩
theorem IsPD.chg {d:PD}(h:IsPD N H v d){xs:List V}(U:∀q,N q->q≠p)(G:H p=some (.lst xs))(c:Chg p H H'):IsPD N H' v d:=by
 cases d with
 |l Y =>
  obtain⟨q,O,e,n,B,M,J⟩:=h;exact⟨q,O,e,n,c _ _ (U _ n) B,M.imp fun u d r=>r.chg U G c,J⟩
 |t Y =>
  obtain⟨q,O,e,B,M,J⟩:=h;exact⟨q,O,e,c _ _ (JE B G (by intro z;cases z)) B,M.imp fun u d r=>r.chg U G c,J⟩
 |x y=>exact h
 |d =>
  obtain⟨q,e,B⟩:=h;exact⟨q,e,c _ _ (JE B G (by intro z;cases z)) B⟩
theorem IsSD.imp {d:SD}(h:IsSD N H v d)(f:∀q,N q->N' q):IsSD N' H v d:=by
 cases d with
 |l B =>
  obtain⟨q,e,n,z⟩:=h;exact⟨q,e,f q n,z⟩
 |_=>exact h
theorem IsLD.imp {d:LD}(h:IsLD N H v d)(f:∀q,N q->N' q):IsLD N' H v d:=by
 cases d with
 |l M =>
  obtain⟨q,B,e,n,J,z,G⟩:=h;exact⟨q,B,e,f q n,J,z.imp fun u d r=>r.imp f,G⟩
 |t M =>
  obtain⟨q,B,e,J,z,G⟩:=h;exact⟨q,B,e,J,z.imp fun u d r=>r.imp f,G⟩
theorem IsSD.same {d:SD}(h:IsSD N H v d)(s:Same H H'):IsSD N H' v d:=by
 cases d with
 |t G =>
  obtain⟨q,e,B,z⟩:=h;exact⟨q,e,s _ _ B,z⟩
 |l G =>
  obtain⟨q,e,n,B,z⟩:=h;exact⟨q,e,n,s _ _ B,z⟩
 |n=>exact h
theorem IsLD.same {d:LD}(h:IsLD N H v d)(s:Same H H'):IsLD N H' v d:=by
 cases d with
 |l M =>
  obtain⟨q,B,e,n,J,z,G⟩:=h;exact⟨q,B,e,n,s _ _ J,z.imp fun u d r=>r.same s,G⟩
 |t M =>
  obtain⟨q,B,e,J,z,G⟩:=h;exact⟨q,B,e,s _ _ J,z.imp fun u d r=>r.same s,G⟩
theorem IsPD.same {d:PD}(h:IsPD N H v d)(s:Same H H'):IsPD N H' v d:=by
 cases d with
 |l M =>
  obtain⟨q,G,e,n,z,B,J⟩:=h;exact⟨q,G,e,n,s _ _ z,B.imp fun u d r=>r.same s,J⟩
 |t M =>
  obtain⟨q,G,e,z,B,J⟩:=h;exact⟨q,G,e,s _ _ z,B.imp fun u d r=>r.same s,J⟩
 |x y=>exact h
 |d =>
  obtain⟨q,e,z⟩:=h;exact⟨q,e,s _ _ z⟩
end
structure SetQ (top:Int) (S:List Int):Prop where
 od:OdIn S top
 inc:S.Pairwise (· < ·)
theorem SetQ.len {top:Int}{S:List Int}(h:SetQ top S)(z:1<=top)(B:top<=99):S.length<=50:=by
 have:=h.od.few h.inc z;omega
def iS (S:List Int):SD:=.t (S.map V.int)
def iL (L:List (List Int)):LD:=.l (L.map iS)
def SetB (top:Int)(d:SD):Prop:=∃S,d=iS S/\SetQ top S
def LevB (top:Int)(d:LD):Prop:=∃L,d=iL L/\∀S∈L,SetQ top S
def PapB (top:Int)(most:Nat)(d:PD):Prop:=∃z:List (List (List Int)),d=.l (z.map iL)/\z.length=most/\∀L∈z,∀S∈L,SetQ top S
theorem levB_iff {top:Int}{z:List SD}:LevB top (.l z)↔∀s∈z,SetB top s:=by
 constructor
 ·rintro⟨L,e,h⟩ s B;cases e
  obtain⟨S,G,rfl⟩:=qP.mp B;exact⟨S,rfl,h S G⟩
 ·intro h;induction z with
  |nil=>exact⟨[],rfl,fun S h=>by cases h⟩
  |cons s z ih =>
   obtain⟨L,e,H⟩:=ih fun s B=>h s (zF _ B);obtain⟨S,rfl,G⟩:=h s zM;cases e
   exact⟨S::L,rfl,fun M J=>(zD.mp J).elim (fun e=>e ▸ G) (H M)⟩
theorem papB_iff {top:Int}{most:Nat}{G:List LD}:PapB top most (.l G)↔G.length=most/\∀l∈G,LevB top l:=by
 constructor
 ·rintro⟨B,e,z,h⟩;cases e
  refine⟨by rw[qC];exact z,fun l z=>?_⟩;obtain⟨L,J,rfl⟩:=qP.mp z;exact⟨L,rfl,h L J⟩
 ·rintro⟨z,h⟩
  suffices ∃B:List (List (List Int)),G=B.map iL/\∀L∈B,∀S∈L,SetQ top S by
   obtain⟨B,e,H⟩:=this;rw[e,qC]at z;exact⟨B,by rw[e],z,H⟩
  clear z;induction G with
  |nil=>exact⟨[],rfl,fun S h=>by cases h⟩
  |cons l G ih =>
   obtain⟨B,rfl,J⟩:=ih fun s M=>h s (zF _ M);obtain⟨L,rfl,O⟩:=h l zM;exact⟨L::B,rfl,fun U H=>(zD.mp H).elim (fun e=>e ▸ O) (J U)⟩
theorem papB_no {top:Int}{most:Nat}{d:PD}(h:∀z,d≠.l z):¬ PapB top most d:=fun⟨_,e,_⟩=>h _ e
def oddB (top:Int)(v:V):Bool:=match v with
 |.int n=>decide (1<=n/\n<=top/\n%2=1)
 |_=>false
theorem setB_iff {top:Int}{xs:List V}:SetB top (.t xs)↔(∀x∈xs,oddB top x=true)/\∀(i:Nat) m n,xs[i]? = some (.int m)->xs[i+1]? = some (.int n)->m<n:=by
 constructor
 ·rintro⟨S,e,h⟩;cases e
  refine⟨fun x G=>?_,fun i m n J H=>?_⟩
  ·obtain⟨k,M,rfl⟩:=qP.mp G;exact decide_eq_true ⟨h.od.lo k M,h.od.hi k M,h.od.odd k M⟩
  ·rw[qI]at J H;obtain⟨a,ea,za⟩:=yK.mp J;obtain⟨b,eb,zb⟩:=yK.mp H;cases za
   cases zb
   obtain⟨z1,z2⟩:=qB.mp ea;obtain⟨z3,z4⟩:=qB.mp eb;rw[<-z2,<-z4];exact List.pairwise_iff_getElem.mp h.inc _ _ z1 z3 (by omega)
 ·rintro⟨U,O⟩;have ei:∃S:List Int,xs=S.map V.int/\OdIn S top:=by
   clear O;induction xs with
   |nil=>exact⟨[],rfl,⟨(fun x h=>by cases h),(fun x h=>by cases h),(fun x h=>by cases h)⟩⟩
   |cons x xs ih =>
    obtain⟨S,rfl,o⟩:=ih fun y z=>U y (zF _ z);have G:=U x zM;cases x with
    |int n =>
     obtain⟨a,b,c⟩:=of_decide_eq_true (show decide (1<=n/\n<=top/\n%2=1)=true from G);exact⟨n::S,rfl,⟨fun y z=>(zD.mp z).elim (fun e=>e ▸ c) (o.odd y),fun y z=>(zD.mp z).elim (fun e=>e ▸ a) (o.lo y),fun y z=>(zD.mp z).elim (fun e=>e ▸ b) (o.hi y)⟩⟩
    |_=>cases G
  obtain⟨S,rfl,o⟩:=ei;refine⟨S,rfl,o,?_⟩;clear U o;induction S with
  |nil=>exact .nil
  |cons a S ih =>
   have B:=ih fun i m n J H=>O (i+1) m n J H;refine je.mpr ⟨fun y z=>?_,B⟩;cases S with
   |nil=>cases z
   |cons b S =>
    have Y:=O 0 a b rfl rfl;rcases zD.mp z with e|e
    ·rw[e];exact Y
    ·exact Int.lt_trans Y ((je.mp B).1 y e)
theorem kit_int_lst {K:zA}:zg K (.type "int") (.type "list")=some false:=by kernel_rfl
theorem kit_str_lst {K:zA}:zg K (.type "str") (.type "list")=some false:=by kernel_rfl
theorem zAT {K:zA}:zg K (.type "tuple") (.type "list")=some false:=by kernel_rfl
theorem isT_SD {K:zA}{N:Addr->Prop}{H:Hp}{v:V}{d:SD}{Q:VK}(h:IsSD N H v d)(J:∀a z,d=.t z->v=.ref a->H a=some (.tup z)->Q (.bl true) H)(G:(∀z,d≠.t z)->Q (.bl false) H):rIsI K [v,.ty "tuple"] H Q:=by
 cases d with
 |t z =>
  obtain⟨a,rfl,B,_⟩:=h;rw[isI_tt B];exact J a z rfl rfl B
 |l z =>
  obtain⟨a,rfl,_,B,_⟩:=h;exact⟨_,_,_,_,rfl,.lst B,kit_lst_tup,G fun z e=>by cases e⟩
 |n =>
  obtain rfl:v=.non:=h;exact⟨_,_,_,_,rfl,.non,kit_non_tup,G fun z e=>by cases e⟩
theorem isL_LD {K:zA}{N:Addr->Prop}{H:Hp}{v:V}{d:LD}{Q:VK}(h:IsLD N H v d)(M:∀a B z,d=.l z->v=.ref a->H a=some (.lst B)->AllD (IsSD N H) B z->B.length<=2000->Q (.bl true) H)(J:(∀z,d≠.l z)->Q (.bl false) H):rIsI K [v,.ty "list"] H Q:=by
 cases d with
 |l z =>
  obtain⟨a,B,rfl,_,G,U,O⟩:=h;rw[isI_ll G];exact M a B z rfl rfl G U O
 |t z =>
  obtain⟨a,B,rfl,G,_⟩:=h;exact⟨_,_,_,_,rfl,.tup G,zAT,J fun Y e=>by cases e⟩
theorem isL_PD {K:zA}{N:Addr->Prop}{H:Hp}{v:V}{d:PD}{Q:VK}(h:IsPD N H v d)(Y:∀a z J,d=.l J->v=.ref a->H a=some (.lst z)->AllD (IsLD N H) z J->z.length<=10->Q (.bl true) H)(M:(∀J,d≠.l J)->Q (.bl false) H):rIsI K [v,.ty "list"] H Q:=by
 cases d with
 |l O =>
  obtain⟨a,z,rfl,_,B,h2,h3⟩:=h;rw[isI_ll B];exact Y a z O rfl rfl B h2 h3
 |t O =>
  obtain⟨a,z,rfl,B,_⟩:=h;exact⟨_,_,_,_,rfl,.tup B,zAT,M fun U e=>by cases e⟩
 |d =>
  obtain⟨a,rfl,B⟩:=h;exact⟨_,_,_,_,rfl,.dK B,kit_dct_lst,M fun U e=>by cases e⟩
 |x y =>
  obtain⟨rfl,hf⟩:=h;have G:Q (.bl false) H:=M fun U e=>by cases e
  cases v with
  |non=>exact⟨_,_,_,_,rfl,.non,kit_non_list,G⟩
  |int i=>exact⟨_,_,_,_,rfl,.int i,kit_int_lst,G⟩
  |bl b=>exact⟨_,_,_,_,rfl,.bl b,kit_bl_lst,G⟩
  |str s=>exact⟨_,_,_,_,rfl,.str s,kit_str_lst,G⟩
  |_=>cases hf
inductive CoreSetDP (vs:List V) (H:Hp) (Q:VK):Prop
 |mk (N:Addr->Prop) (v:V) (d:SD) (top:Int) (e:vs=[v,.int top]) (h:IsSD N H v d) (t1:1<=top) (t2:top<=99) (q:∀b H',Same H H'->(b=true↔SetB top d)->Q (.bl b) H'):CoreSetDP vs H Q
def spCoreSetD:Sp:=fun z H Q _=>CoreSetDP z H Q
inductive LevelDP (vs:List V) (H:Hp) (Q:VK):Prop
 |mk (N:Addr->Prop) (v:V) (d:LD) (top:Int) (e:vs=[v,.int top]) (h:IsLD N H v d) (t1:1<=top) (t2:top<=99) (q:∀b H',Same H H'->(b=true↔LevB top d)->Q (.bl b) H'):LevelDP vs H Q
def spLevelD:Sp:=fun z H Q _=>LevelDP z H Q
inductive PaperDP (vs:List V) (H:Hp) (Q:VK):Prop
 |mk (N:Addr->Prop) (v:V) (d:PD) (top:Int) (most:Nat) (e:vs=[v,.int top,.int (most:Nat)]) (h:IsPD N H v d) (t1:1<=top) (t2:top<=99) (q:∀b H',Same H H'->(b=true↔PapB top most d)->Q (.bl b) H'):PaperDP vs H Q
def spPaperD:Sp:=fun z H Q _=>PaperDP z H Q
def ltZ (xs:List V):List Bool:=List.zipWith (fun x y=>match x,y with
 |.int m,.int n=>decide (m<n)
 |_,_=>false) xs (xs.drop 1)
theorem ltZ_all {top:Int}{xs:List V}(h:∀x∈xs,oddB top x=true):(ltZ xs).all id=true↔SetB top (.t xs):=by
 rw[setB_iff,jL];unfold ltZ;constructor
 ·intro z;refine⟨h,fun i m n B G=>?_⟩;have:=z (decide (m<n)) (zO.mpr ⟨i,by
   rw[List.getElem?_zipWith,B,yJ,Nat.add_comm 1 i,G]⟩)
  exact of_decide_eq_true this
 ·rintro⟨_,z⟩ b M;obtain⟨i,e⟩:=zO.mp M;rw[List.getElem?_zipWith,yJ,Nat.add_comm 1 i]at e;cases B:xs[i]? with
  |none=>rw[B]at e;cases e
  |some x =>
   cases G:xs[i+1]? with
   |none=>rw[B,G]at e;cases e
   |some y =>
    rw[B,G]at e;have H:=h x (qE B);have J:=h y (qE G);cases x with
    |int m =>
     cases y with
     |int n =>
      cases e
      exact decide_eq_true (z i m n B G)
     |_=>cases J
    |_=>cases H
theorem sl_tail {K:zA}{H:Hp}{Q:VK}{p:Addr}{xs:List V}(h:SqT K H p xs)(q:∀r B,Same H B->SqT K B r (xs.drop 1)->Q (.ref r) B):rSlA K (.ref p) (some 1) none H Q:=by
 cases xs with
 |nil=>exact⟨p,[],rfl,h,fun _=>q p H (Same.refl _) h,fun z=>absurd ⟨rfl,rfl⟩ z⟩
 |cons x xs=>exact sl_from (c:=1) h (by rw[zI];omega) q
structure PapQ (H:Hp) (lv:Addr) (lvs:List V) (Ls:List (List (List Int))):Prop where
 lst:H lv=some (.lst lvs)
 len:lvs.length=Ls.length
 at_:∀(i:Nat) L,Ls[i]? = some L->∃(r:Addr) (us:List V),lvs[i]? = some (.ref r)/\H r=some (.lst us)/\HTs iT H us L
theorem PapQ.same {H H':Hp}{G:Addr}{z:List V}{B:List (List (List Int))}(h:PapQ H G z B)(s:Same H H'):PapQ H' G z B:=⟨s _ _ h.lst,h.len,fun i L e=>by
 obtain⟨r,M,O,J,U⟩:=h.at_ i L e
 exact⟨r,M,O,s _ _ J,U.same s⟩⟩
theorem hts_D {N:Addr->Prop}{H:Hp}{us:List V}{L:List (List Int)}(h:AllD (IsSD N H) us (L.map iS)):HTs iT H us L:=⟨by rw[h.1,qC],fun k x e=>by
 have G:k<us.length:=by rw[h.1,qC];exact(qB.mp e).1
 have z:=qA G
 obtain⟨q,J,B,_⟩:=h.2 k _ (iS x) z (by rw[qI,e];rfl)
 exact⟨q,by rw[z,J],B⟩⟩
theorem papQ_of {N:Addr->Prop}{H:Hp}{v:V}{G:List (List (List Int))}(h:IsPD N H v (.l (G.map iL))):∃a J,v=.ref a/\PapQ H a J G/\G.length<=10/\∀L∈G,L.length<=2000:=by
 obtain⟨a,J,rfl,_,h1,M,O⟩:=h;have key:∀(i:Nat) L,G[i]? = some L->∃(r:Addr) (B:List V),J[i]? = some (.ref r)/\H r=some (.lst B)/\HTs iT H B L/\L.length<=2000:=fun i L e=>by
  have hk:i<J.length:=by rw[M.1,qC];exact(qB.mp e).1
  have Y:=qA hk;obtain⟨q,B,e1,_,e2,e3,U⟩:=M.2 i _ (iL L) Y (by rw[qI,e];rfl);exact⟨q,B,by rw[Y,e1],e2,hts_D e3,by rw[e3.1,qC]at U;exact U⟩
 refine⟨a,J,rfl,⟨h1,by rw[M.1,qC],fun i L e=>?_⟩,by rw[M.1,qC]at O;exact O,fun L hL=>?_⟩
 ·obtain⟨r,B,k1,k2,k3,_⟩:=key i L e;exact⟨r,B,k1,k2,k3⟩
 ·obtain⟨i,e⟩:=zO.mp hL;obtain⟨_,_,_,_,_,z⟩:=key i L e;exact z
def PapQk (top:Int)(z:List (List (List Int))):Prop:=∀L∈z,L.length<=99^3/\∀S∈L,SetQ top S
inductive LedOnQP (vs:List V) (H:Hp) (Q:VK):Prop
 |mk (c ml:Addr) (S:List Int) (L:List (List Int)) (top:Int) (e:vs=[.ref c,.ref ml,.int top]) (hc:H c=some (.tup (S.map V.int))) (hS:SetQ top S) (hm:H ml=some (.lst (L.map fun S'=>V.int (maskN S':Nat)))) (hL:∀S'∈L,∀n∈S',0<=n) (ll:L.length<=99^3) (t1:1<=top) (t2:top<=99) (q:∀b H',Same H H'->(b=true↔LedP top S L)->Q (.bl b) H'):LedOnQP vs H Q
def spLedOnQ:Sp:=fun z H Q _=>LedOnQP z H Q
inductive LeadsQP (vs:List V) (H:Hp) (Q:VK):Prop
 |mk (c d:Addr) (us ws:List V) (L L':List (List Int)) (top:Int) (e:vs=[.ref c,.ref d,.int top]) (hc:H c=some (.lst us)) (hu:HTs iT H us L) (hd:H d=some (.lst ws)) (hw:HTs iT H ws L') (oL:∀S∈L,SetQ top S) (oL':∀S∈L',SetQ top S) (ll:L.length<=99^3) (ll':L'.length<=99^3) (t1:1<=top) (t2:top<=99) (q:∀b H',Same H H'->(b=true↔∀S∈L,LedP top S L')->Q (.bl b) H'):LeadsQP vs H Q
def spLeadsQ:Sp:=fun z H Q _=>LeadsQP z H Q
def ShowsD (top:Int)(most:Nat)(as:List Int)(d:PD):Prop:=∃z:List (List (List Int)),d=.l (z.map iL)/\z.length=most/\(∀L∈z,∀S∈L,SetQ top S)/\ShowsP top as z
theorem iL_inj {G H:List (List (List Int))}(h:PD.l (G.map iL)=PD.l (H.map iL)):G=H:=by
 have J:∀{A B:List Int},iS A=iS B->A=B:=fun {A B} e=>by
  have e:A.map V.int=B.map V.int:=by injection e
  exact(jg (fun x y z=>by injection z)).mp e
 have M:∀{A B:List (List Int)},iL A=iL B->A=B:=fun {A B} e=>by
  have e:A.map iS=B.map iS:=by injection e
  exact(jg (fun x y z=>J z)).mp e
 have e:G.map iL=H.map iL:=by injection h
 exact(jg (fun x y z=>M z)).mp e
inductive ShowsDP (vs:List V) (H:Hp) (Q:VK):Prop
 |mk (N:Addr->Prop) (v:V) (nl:Addr) (d:PD) (xs:List Int) (top:Int) (most:Nat) (e:vs=[v,.ref nl,.int top,.int (most:Nat)]) (h:IsPD N H v d) (m4:most<=4) (nf:¬ farB top (most:Nat)) (t1:1<=top) (t2:top<=99) (hn:H nl=some (.lst (xs.map V.int))) (xl:xs.length<=60)
  (q:∀b H',Same H H'->(b=true↔ShowsD top most (sortI (ded (wantC xs))) d)->Q (.bl b) H'):ShowsDP vs H Q
def spShowsD:Sp:=fun z H Q _=>ShowsDP z H Q
def MeetB (a b c:Int):Bool:=decide (coreN (a+b)=c\/(a≠b/\coreN (a-b)=c))
def spMeet:Sp:=fun z H Q _=>∃a b c:Int,z=[.int a,.int b,.int c]/\1<=a/\1<=b/\Q (.bl (MeetB a b c)) H
def xz (a own b:Int):Bool:=MeetB a b own || MeetB own a b
def GainP (S:List Int)(own:Int):Prop:=∃a∈S,∃b∈S,xz a own b=true
theorem gain_iff {S:List Int}{top own:Int}(O:OdIn S top)(H:top<=99):own∈madeL S top↔(own%2=1/\1<=own/\own<=top)/\GainP S own:=by
 rw[made_iff O H];refine and_congr_right fun _=>?_;unfold GainP xz MeetB twoC oneC;constructor
 ·rintro(⟨a,B,b,G,z⟩|⟨a,B,z⟩)
  ·refine⟨a,B,b,G,Bool.or_eq_true_iff.mpr (.inl (decide_eq_true ?_))⟩;exact z.elim (fun e=>.inl e.symm) fun e=>.inr ⟨e.1,e.2.symm⟩
  ·rcases z with z|⟨n,z⟩
   ·exact⟨a,B,_,z,Bool.or_eq_true_iff.mpr (.inr (decide_eq_true (.inl rfl)))⟩
   ·exact⟨a,B,_,z,Bool.or_eq_true_iff.mpr (.inr (decide_eq_true (.inr ⟨n,rfl⟩)))⟩
 ·rintro⟨a,B,b,G,z⟩;rcases Bool.or_eq_true_iff.mp z with z|z
  ·refine .inl ⟨a,B,b,G,?_⟩;exact(of_decide_eq_true z).elim (fun e=>.inl e.symm) fun e=>.inr ⟨e.1,e.2.symm⟩
  ·refine .inr ⟨a,B,?_⟩;exact(of_decide_eq_true z).elim (fun e=>.inl (e ▸ G)) fun e=>.inr ⟨e.1,e.2 ▸ G⟩
def mateV (a own:Int)(v:V):Option V:=match v with
 |.int b=>if xz a own b=true then some (.int b) else none
 |_=>none
theorem mateV_map (a own:Int)(S:List Int):(S.map V.int).filterMap (mateV a own)=(S.filter (xz a own)).map V.int:=by
 induction S with
 |nil=>rfl
 |cons b S ih =>
  rw[zQ,zY,List.filter_cons];by_cases z:xz a own b=true
  ·rw[show mateV a own (V.int b)=some (V.int b) from if_pos z,z,if_pos rfl,ih];rfl
  ·rw[show mateV a own (V.int b)=none from if_neg z,if_neg z,ih]
inductive GainsP (vs:List V) (H:Hp) (Q:VK):Prop
 |mk (c:Addr) (S:List Int) (top:Int) (e:vs=[.ref c,.int top]) (hc:H c=some (.tup (S.map V.int))) (O:OdIn S top) (l:S.length<=50) (t1:1<=top) (t2:top<=99)
  (q:∀(r:Addr) (fs:List Int) H',H r=none->Same H H'->H' r=some (.lst (fs.map V.int))->(∀x,x∈fs↔x∈madeL S top)->2*(fs.length:Int)<=top+1->Q (.ref r) H'):GainsP vs H Q
def spGains:Sp:=fun z H Q _=>GainsP z H Q
theorem setq_ins {top own:Int}{S:List Int}(h:SetQ top S)(B:own%2=1/\1<=own/\own<=top)(M:own∉S):SetQ top (sortI (S++[own])):=by
 have mem:∀x,x∈sortI (S++[own])↔x∈S\/x=own:=fun x=>by rw[(yA _).mem_iff,zK,zE]
 refine⟨⟨fun x z=>?_,fun x z=>?_,fun x z=>?_⟩,?_⟩
 ·exact((mem x).mp z).elim (h.od.odd x) fun e=>e ▸ B.1
 ·exact((mem x).mp z).elim (h.od.lo x) fun e=>e ▸ B.2.1
 ·exact((mem x).mp z).elim (h.od.hi x) fun e=>e ▸ B.2.2
 ·have J:(sortI (S++[own])).Nodup:=(yA _).nodup_iff.mpr (List.nodup_append.mpr ⟨h.inc.imp fun h e=>by omega,by simp,fun x z y H e=>M (by rw[<-zE.mp H,<-e];exact z)⟩);exact((yy _).and J).imp fun {a b} ⟨O,G⟩=>by
   have:a≠b:=G;omega
theorem sort_ne {S:List Int}{x:Int}:sortI (S++[x])≠[]:=List.ne_nil_of_mem ((yA _).mem_iff.mpr (qK _ (zE.mpr rfl)))
inductive Levels34P (vs:List V) (H:Hp) (Q:VK):Prop
 |mk (N:Addr->Prop) (top:Int) (most M:Nat) (e:vs=[.int top,.int (most:Nat)]) (t1:1<=top) (t2:top<=99) (hM:top+1<=2*(M:Int)) (M1:1<=M) (M99:M<=99) (B1:M^(most-1)<=1000) (B2:M^most<=5000) (m4:most<=4) (hN:∀q,H q=none->N q)
  (q:∀la (Ls:List (List (List Int))) H',H la=none->Same H H'->(∃lvs,H' la=some (.lst lvs)/\AllD (IsLD (fun q=>N q/\q≠la) H') lvs (Ls.map iL))->Ls.length=most->(∀L∈Ls,L≠[]/\L.length<=1000/\∀S∈L,SetQ top S)->Q (.ref la) H'):Levels34P vs H Q
def spLevels34:Sp:=fun z H Q _=>Levels34P z H Q
inductive J34 (N:Addr->Prop) (la:Addr) (top:Int) (most M:Nat) (H:Hp) (i:Nat) (σ:St) (H':Hp):Prop
 |mk (se:Addr) (us lvs:List V) (Ss:List (List Int)) (Ls:List (List (List Int))) (o5 o6 o7 o8 o9:Option V) (e:σ=[some (.int top),some (.int (most:Nat)),some (.ref la),some (.ref se),o5,o6,o7,o8,o9])
  (s:Same H H') (hla:H' la=some (.lst lvs)) (A:AllD (IsLD (fun q=>N q/\q≠la) H') lvs (Ls.map iL)) (lL:Ls.length=i) (O:∀L∈Ls,L≠[]/\L.length<=1000/\∀S∈L,SetQ top S) (hse:H' se=some (.lst us)) (n1:N se) (n2:se≠la) (hS:HTs iT H' us Ss) (SO:∀S∈Ss,SetQ top S/\S≠[]) (S0:Ss≠[]) (cS:i<most->Ss.length<=M^i):J34 N la top most M H i σ H'
theorem d_hts {N:Addr->Prop}{top:Int}{H:Hp}{us:List V}{L:List (List Int)}(h:HTs iT H us L)(o:∀S∈L,SetQ top S)(Y:1<=top)(O:top<=99):AllD (IsSD N H) us (L.map iS):=⟨by rw[qC,h.len],fun i u d J z=>by
 rw[qI]at z
 obtain⟨S,G,rfl⟩:=yK.mp z
 obtain⟨q,B,M⟩:=h.at_ i S G
 rw[J]at B
 cases B
 refine⟨q,rfl,M,fun x U=>?_,?_⟩
 ·obtain⟨n,_,rfl⟩:=qP.mp U
  rfl
 ·have:=(o S (qE G)).len Y O
  rw[qC]
  omega⟩
theorem zAH {xs:List Int}{top:Int}(o:OdIn xs top):SetQ top (sortI (ded xs)):=by
 have mem:∀x,x∈sortI (ded xs)↔x∈xs:=fun x=>((yA _).mem_iff).trans (xW xs x);refine⟨⟨fun x z=>o.odd x ((mem x).mp z),fun x z=>o.lo x ((mem x).mp z),fun x z=>o.hi x ((mem x).mp z)⟩,?_⟩;exact((yy (ded xs)).and ((yA _).nodup_iff.mpr (j7 xs))).imp fun {a b} ⟨G,B⟩=>by
  have:a≠b:=B;omega
theorem dedq_few {xs:List Int}{top:Int}(o:OdIn xs top)(B:1<=top)(z:top<=99):(ded xs).length<=50:=by
 have:=(zAH o).len B z
 rwa [(yA _).length_eq]at this
theorem setq_nil {top:Int}:SetQ top []:=⟨⟨(fun x h=>by cases h),(fun x h=>by cases h),(fun x h=>by cases h)⟩,.nil⟩
structure LevH (H:Hp) (a:Addr) (us:List V) (L:List (List Int)) (top:Int):Prop where
 lst:H a=some (.lst us)
 hts:HTs iT H us L
 ok:∀S∈L,SetQ top S
 ne:L≠[]
inductive Joined34P (vs:List V) (H:Hp) (Q:VK):Prop
 |mk (l:Addr) (us:List V) (L:List (List Int)) (top:Int) (e:vs=[.ref l]) (h:LevH H l us L top) (ll:L.length<=1000) (t1:1<=top) (t2:top<=99)
  (q:∀(r:Addr) (ws:List V) (L':List (List Int)) H',H r=none->Same H H'->LevH H' r ws L' top->L'.length<=1000->Q (.ref r) H'):Joined34P vs H Q
def spJoined34:Sp:=fun z H Q _=>Joined34P z H Q
inductive Ordered34P (K:zA) (vs:List V) (H:Hp) (Q:VK):Prop
 |mk (p a l:Addr) (ns:List Int) (c:Int) (us:List V) (L:List (List Int)) (top:Int) (e:vs=[.ref p,.ref l]) (hP:PPen H p a c) (hS:Scr K H a ns) (h63:ns.length<=63) (hc:c<=900000000) (lp:l≠p) (h:LevH H l us L top) (ll:L.length<=1000)
  (q:∀(r:Addr) (ws:List V) (L':List (List Int)) H',H r=none->Chg p H H'->PPen H' p a (c+1)->Scr K H' a ns->LevH H' r ws L' top->L'.length<=1001->Q (.ref r) H'):Ordered34P K vs H Q
def spOrdered34 (K:zA):Sp:=fun z H Q _=>Ordered34P K z H Q
theorem LevH.same {H H':Hp}{a:Addr}{us:List V}{L:List (List Int)}{top:Int}(h:LevH H a us L top)(s:Same H H'):LevH H' a us L top:=⟨s _ _ h.lst,h.hts.same s,h.ok,h.ne⟩
theorem HTs.rev {B:Type}{f:B->List V}{H:Hp}{vs:List V}{xs:List B}(h:HTs f H vs xs):HTs f H vs.reverse xs.reverse:=⟨by rw[zw,zw,h.len],fun k x e=>by
 have z:k<xs.length:=by have:=(qB.mp e).1;rwa [zw]at this
 rw[List.getElem?_reverse z]at e
 obtain⟨p,J,G⟩:=h.at_ _ x e
 exact⟨p,by rw[List.getElem?_reverse (by rw[h.len];exact z),h.len];exact J,G⟩⟩
inductive IsSet34P (vs:List V) (H:Hp) (Q:VK):Prop
 |mk (N:Addr->Prop) (v:V) (d:SD) (top:Int) (e:vs=[v,.int top]) (h:IsSD N H v d) (t1:1<=top) (t2:top<=99) (q:∀b H',Same H H'->(b=true↔SetB top d)->Q (.bl b) H'):IsSet34P vs H Q
def spIsSet34:Sp:=fun z H Q _=>IsSet34P z H Q
theorem odd_ints {top:Int}{xs:List V}(h:∀x∈xs,oddB top x=true):∃S:List Int,xs=S.map V.int/\OdIn S top:=by
 induction xs with
 |nil=>exact⟨[],rfl,⟨(fun x h=>by cases h),(fun x h=>by cases h),(fun x h=>by cases h)⟩⟩
 |cons x xs ih =>
  obtain⟨S,rfl,o⟩:=ih fun y z=>h y (zF _ z);have B:=h x zM;cases x with
  |int n =>
   obtain⟨a,b,c⟩:=of_decide_eq_true (show decide (1<=n/\n<=top/\n%2=1)=true from B);exact⟨n::S,rfl,⟨fun y z=>(zD.mp z).elim (fun e=>e ▸ c) (o.odd y),fun y z=>(zD.mp z).elim (fun e=>e ▸ a) (o.lo y),fun y z=>(zD.mp z).elim (fun e=>e ▸ b) (o.hi y)⟩⟩
  |_=>cases B
theorem set_sorted {top:Int}{S:List Int}(o:OdIn S top):S=sortI (ded S)↔SetB top (.t (S.map V.int)):=by
 constructor
 ·intro e;exact⟨S,rfl,by rw[e];exact zAH o⟩
 ·rintro⟨B,e,h⟩;have:S=B:=by
   have e:S.map V.int=B.map V.int:=by injection e
   exact(jg (fun x y z=>by injection z)).mp e
  subst this;rw[ded_id S (h.inc.imp fun h e=>by omega),sort_id (h.inc.imp fun h=>xf h)]
inductive IsLed34P (vs:List V) (H:Hp) (Q:VK):Prop
 |mk (c l:Addr) (S:List Int) (us:List V) (L:List (List Int)) (top:Int) (e:vs=[.ref c,.ref l,.int top]) (hc:H c=some (.tup (S.map V.int))) (hS:SetQ top S) (hl:H l=some (.lst us)) (hu:HTs iT H us L) (ll:L.length<=2000) (oL:∀S∈L,SetQ top S) (t1:1<=top) (t2:top<=99)
  (q:∀b H',Same H H'->(b=true↔LedP top S L)->Q (.bl b) H'):IsLed34P vs H Q
def spIsLed34:Sp:=fun z H Q _=>IsLed34P z H Q
theorem pi_tupK (K:zA){X:Cx}{z l:Expr}{tl:TE}(B:PE X l tl)(h:X.K=K:=by rfl):PI X z l (iTup K tl):=by subst h;exact pi_tup B
theorem op_eqEK (K:zA){X:Cx}{k:Nat}(z:Room k X.A)(h:X.K=K:=by rfl):OpR X (compareOp .Eq) (rEqE K):=by subst h;exact op_eqE z
section
variable {K:zA}{σ:St}{H:Hp}{Q:VK}{cs:List Nat}{tt:TT}
theorem comp_keep {v:Addr}{us:List V}{L:List (List Int)}(b:List Int->Bool)(hv:H v=some (.lst us))(ht:HTs iT H us L)(hz:us.length<=1000000)
  (hb:∀t S B (R:Bool->Hp->Prop),S∈L->H t=some (.tup (iT S))->Same H B->(∀H5,Same B H5->R (b S) H5)->tt (some (.ref t)::yF cs σ) B R)
  (hd:∀acc G B,H acc=none->Same H B->B acc=some (.lst G)->HTs iT H G (L.filter b)->Q (.ref acc) B) :
  yX (Itl K v) 1 cs (xN 0) tt (tVar 0) σ H Q:=by
 have ul:=ht.len;refine jR us.length (fun acc i G B=>Same H B/\B acc=some (.lst G)/\G.length<=i/\HTs iT H G ((L.take i).filter b)) (zL hz (by decide)) ?_ ?_ ?_ ?_ ?_ ?_
 ·rintro acc i G B hi ⟨s,_⟩;exact⟨us,us[i],SqL.of (s _ _ hv),qA hi⟩
 ·rintro acc G B ⟨s,_⟩;exact⟨us,SqL.of (s _ _ hv),zB _⟩
 ·intro acc O;exact⟨zU O _,upd_same,zB _,hts_nil⟩
 ·rintro acc i G B ⟨s,O,U,_⟩;exact⟨O,U⟩
 ·rintro acc i G B ts x H2 N hn hi ⟨s,O,U,hy⟩ ⟨rfl,hx⟩ hts hN;have hx:=hx us (SqL.of (s _ _ hv));obtain⟨t0,rfl⟩:∃t0,ts=[t0]:=ya.mp hts;have Y:i<L.length:=by rw[<-ul];exact hi
  obtain⟨t,aa,M⟩:=ht.at_ i _ (qA Y);have J:L[i]? = some L[i]:=qA Y;generalize L[i]=S at M J;rw[hx]at aa;cases aa
  have hm:=qE J;have tk:(L.take (i+1)).filter b=(L.take i).filter b++(if b S=true then [S] else []):=by
   rw[zq,J,List.filter_append,Option.toList_some,List.filter_cons,List.filter_nil]
  rw[xK];refine hb t S _ _ hm M s fun H5 s5=>?_;have ac:=s5 _ _ O;by_cases z:b S=true
  ·rw[z,if_pos rfl];refine⟨_,rfl,ac,hN _ [_] _ rfl ⟨yE hn (s.trans s5),upd_same,by rw[qF];exact Nat.succ_le_succ U,?_⟩⟩;rw[tk,if_pos z];exact hy.snoc M
  ·rw[yO.mpr z,if_neg (by decide)];refine hN _ [_] _ rfl ⟨s.trans s5,ac,Nat.le_succ_of_le U,?_⟩;rw[tk,if_neg z,zu];exact hy
 ·rintro acc G B hn ⟨s,O,U,hy⟩;rw[ul,zn]at hy;exact hd acc G B hn s O hy
end
inductive Row34P (K:zA) (vs:List V) (H:Hp) (Q:VK):Prop
 |mk (p a:Addr) (ns:List Int) (c top:Int) (e:vs=[.ref p,.int top]) (hP:PPen H p a c) (hS:Scr K H a ns) (h63:ns.length<=63) (hc:c<=800000000) (t1:1<=top) (t2:top<=99)
  (q:∀(r:Addr) (xs:List Int) H',H r=none->Chg p H H'->PPen H' p a (c+70)->Scr K H' a ns->H' r=some (.lst (xs.map V.int))->xs.length<=6->Q (.ref r) H'):Row34P K vs H Q
def spRow34 (K:zA):Sp:=fun z H Q _=>Row34P K z H Q
inductive Due34P (vs:List V) (H:Hp) (Q:VK):Prop
 |mk (N:Addr->Prop) (v:V) (nl:Addr) (d:PD) (xs:List Int) (top:Int) (most:Nat) (e:vs=[v,.ref nl,.int top,.int (most:Nat)]) (h:IsPD N H v d) (m4:most<=4) (t1:1<=top) (t2:top<=99) (hn:H nl=some (.lst (xs.map V.int))) (xl:xs.length<=60)
  (q:∀b H',Same H H'->(b=true↔ShowsD top most (jt xs) d)->Q (.bl b) H'):Due34P vs H Q
def spDue34:Sp:=fun z H Q _=>Due34P z H Q
section
variable {K:zA}{σ:St}{H:Hp}{Q:VK}{cs:List Nat}{tt:TT}
theorem comp_nof {v:Addr}{us:List V}(Y:Nat->Prop)(hv:H v=some (.lst us))(hz:us.length<=1000000)
  (hb:∀(i:Nat) x B (R:Bool->Hp->Prop),us[i]? = some x->Same H B->(∀b H5,Same B H5->(b=true↔Y i)->R b H5)->tt (some x::yF cs σ) B R)
  (hd:∀acc G B,H acc=none->Same H B->B acc=some (.lst G)->(G=[]↔∀i,i<us.length -> ¬ Y i)->Q (.ref acc) B) :
  yX (Itl K v) 1 cs (xN 0) tt (tVar 0) σ H Q:=by
 refine jR us.length (fun acc i G B=>Same H B/\B acc=some (.lst G)/\G.length<=i/\(G=[]↔∀k,k<i -> ¬ Y k)) (zL hz (by decide)) ?_ ?_ ?_ ?_ ?_ ?_
 ·rintro acc i G B hi ⟨s,_⟩;exact⟨us,us[i],SqL.of (s _ _ hv),qA hi⟩
 ·rintro acc G B ⟨s,_⟩;exact⟨us,SqL.of (s _ _ hv),zB _⟩
 ·intro acc J;exact⟨zU J _,upd_same,zB _,fun _ k h=>absurd h (Nat.not_lt_zero k),fun _=>rfl⟩
 ·rintro acc i G B ⟨s,J,M,_⟩;exact⟨J,M⟩
 ·rintro acc i G B ts x H2 N hn hi ⟨s,J,M,hy⟩ ⟨rfl,hx⟩ hts hN;have hx:=hx us (SqL.of (s _ _ hv));obtain⟨t0,rfl⟩:∃t0,ts=[t0]:=ya.mp hts;rw[xK];refine hb i _ _ _ hx s fun b H5 s5 O=>?_;have U:=s5 _ _ J;cases b with
  |true =>
   rw[if_pos rfl];exact⟨_,rfl,U,hN _ [_] _ rfl ⟨yE hn (s.trans s5),upd_same,by rw[qF];exact Nat.succ_le_succ M,fun e=>by simp at e,fun h=>absurd (O.mp rfl) (h i (yS i))⟩⟩
  |false =>
   rw[if_neg (by decide)];refine hN _ [_] _ rfl ⟨s.trans s5,U,Nat.le_succ_of_le M,hy.trans ⟨fun h k hk=>?_,fun h k hk=>h k (zm hk)⟩⟩;by_cases z:k=i
   ·rw[z];exact fun p=>absurd (O.mpr p) (by decide)
   ·exact h k (by omega)
 ·rintro acc G B hn ⟨s,J,M,hy⟩;exact hd acc G B hn s J hy
end
def nzQ (v:V):Option V:=match v with
 |.int n=>if n≠0 then some (.int (coreN n)) else none
 |_=>none
def nzC (xs:List Int):List Int:=(xs.filter fun n=>decide (n≠0)).map coreN
theorem nzQ_map (xs:List Int):(xs.map V.int).filterMap nzQ=(nzC xs).map V.int:=by
 unfold nzC;induction xs with
 |nil=>rfl
 |cons n xs ih =>
  rw[zQ,zY,List.filter_cons];by_cases z:n=0
  ·rw[show nzQ (V.int n)=none from if_neg (not_not_intro z),if_neg (by simpa using z),ih]
  ·rw[show nzQ (V.int n)=some (V.int (coreN n)) from if_pos z,if_pos (by simpa using z),ih];rfl
theorem nz_len (xs:List Int):(nzC xs).length<=xs.length:=by
 unfold nzC;rw[qC];exact yh _ _
theorem owed_eq (xs:List Int):(sortI (ded (nzC xs++[1]))).drop 1=jt xs:=by
 have mem:∀x,x∈sortI (ded (nzC xs++[1]))↔x∈nzC xs\/x=1:=fun x=>by rw[(yA _).mem_iff,xW,zK,zE]
 have pos:∀x,x∈nzC xs->1<=x:=fun x G=>by
  obtain⟨n,B,rfl⟩:=qP.mp G;have:=(xM (of_decide_eq_true (zk.mp B).2)).1;omega
 have J:(sortI (ded (nzC xs++[1]))).Nodup:=(yA _).nodup_iff.mpr (j7 _);have H:=yy (ded (nzC xs++[1]));generalize sortI (ded (nzC xs++[1]))=T at mem J H;cases T with
 |nil=>exact absurd ((mem 1).mpr (.inr rfl)) (fun h=>by cases h)
 |cons t T =>
  obtain⟨U,O⟩:=je.mp H;obtain⟨Y,n2⟩:=jc.mp J;have t1:t=1:=by
   have a:=((mem t).mp zM).elim (pos t) fun e=>by omega
   rcases zD.mp ((mem 1).mpr (.inr rfl)) with e|e
   ·exact e.symm
   ·have:=U 1 e;omega
  show T=jt xs
  have pm:T.Perm (jt xs):=(List.perm_ext_iff_of_nodup n2 (ask_nd xs)).mpr fun x=>by
   rw[mem_ask];constructor
   ·intro G;have ne:x≠1:=fun e=>Y (by rw[t1,<-e];exact G);rcases(mem x).mp (zF _ G) with h|h
    ·have:=pos x h;obtain⟨n,B,e⟩:=qP.mp h;exact⟨by omega,n,(zk.mp B).1,e⟩
    ·exact absurd h ne
   ·rintro⟨h1,n,B,e⟩;have nz:n≠0:=fun z=>by rw[z,zAB]at e;omega
    rcases zD.mp ((mem x).mpr (.inl (qP.mpr ⟨n,zk.mpr ⟨B,decide_eq_true nz⟩,e⟩))) with h|h
    ·omega
    ·exact h
  have M:=Ju pm O;rw[M];unfold jt;exact(Ju (ym.refl _) (yy _)).symm
section
open PySem.W HT
variable {prog:Program}{w:World}{A:Around}{E:Value->Shared->Prop}{s:Shared}
theorem pick_rev (xs:Array Value):((zj xs.size).filterMap fun(k:Nat)=>xs[(((xs.size:Int)-1)+(k:Int)*(-1)).toNat]?).toArray=xs.toList.reverse.toArray:=by
 obtain⟨z⟩:=xs
 congr 1
 have G:∀n,n<=z.length->((zj n).filterMap fun(k:Nat)=>z.toArray[(((z.length:Int)-1)+(k:Int)*(-1)).toNat]?)=z.reverse.take n:=by
  intro n;induction n with
  |zero=>intro _;simp
  |succ n ih =>
   intro J;rw[List.range_succ,xA,ih (by omega),List.take_succ]
   congr 1
   have H:z.reverse[n]? = z[z.length-1-n]?:=List.getElem?_reverse (by omega);rw[H,zY,List.filterMap_nil];have B:z.toArray[(((z.length:Int)-1)+(n:Int)*(-1)).toNat]? = z[z.length-1-n]?:=by
    rw[show(((z.length:Int)-1)+(n:Int)*(-1)).toNat=z.length-1-n by omega];simp
   rw[B,qA (by omega)];rfl
 have:=G z.length (zB _);rw[<-zw (as:=z),zn,zw]at this;exact this
theorem zAI {sl:Addr}{vs:Value}{n:Nat}{Q:Int×Int×Nat->Shared->Prop}(B:s.heap.IsSliceOf sl .none .none vs)(H:IsPart vs (some (-1)))
  (h:Q ((n:Int)-1,-1,n) s):wpAny (model prog w) A (Builtin.Slice.sliceApplied (.ref sl) (pure (n:Int))) Q E s:=by
 obtain⟨J,z,G,hds⟩:=id B;unfold Builtin.Slice.sliceApplied Builtin.Slice.sliceFields;refine wpAny_bind (wpAny_bind (wpAny_field z hds (x:=.none) rfl (wpAny_bind (wpAny_field z hds (x:=.none) rfl (wpAny_bind (wpAny_field z hds (x:=vs) rfl (wpAny_pure ?_)))))));refine wpAny_bind (Jg H ?_);show wpAny _ _ (if ((-1:Int)==0)=true then _ else _) _ _ s
 rw[if_neg (by decide)];refine wpAny_bind (slicePart_none (wpAny_bind (slicePart_none (wpAny_bind (wpAny_pure ?_)))));show wpAny _ _ (pure ((n:Int)-1,(-1:Int),Builtin.Slice.slicePlaces ((n:Int)-1) (-1) (-1))) _ _ s
 have e:Builtin.Slice.slicePlaces ((n:Int)-1) (-1) (-1)=n:=by
  unfold Builtin.Slice.slicePlaces;rw[if_neg (by decide)];split
  ·rw[show(- -1:Int)=1 from rfl,Int.ediv_one];omega
  ·omega
 rw[e];exact wpAny_pure h
theorem J0 {t sl:Addr}{items:Array Value}{vs:Value}{Q:Value->Shared->Prop}(B:IsTup s.heap t items)(O:s.heap.IsSliceOf sl .none .none vs)(Y:IsPart vs (some (-1)))
  (h:Q (.ref s.heap.objs.size) { s with heap:=s.heap.push { cls:=.type "tuple",data:=.seq items.toList.reverse.toArray } })
  (hsz:items.size<=sizeLine):wpAny (model prog w) A (getItem (.ref t) (.ref sl)) Q E s:=by
 have z:sizeOk (.seq items.toList.reverse.toArray):=by
  show items.toList.reverse.toArray.size<=sizeLine
  rw[qM,zw,zC];exact hsz
 obtain⟨U,J,H,hds⟩:=id O;have G:s.TypeIs (.ref sl) "slice":=⟨U,J,H⟩;unfold getItem
 try with_reducible refine wpAny_holding ?_
 first|refine wpAny_bind (wpAny_pure ?_)|skip
 refine wpAny_bind (wpAny_sequenceKey B.typeIs (by decide) ?_);refine wpAny_bind (wpAny_callSpecial?_slot (name:=Str.ofString "__getitem__") B.typeIs PyProof.Rows.slot_tuple_getitem
  (wpAny_call_entry PyProof.Rows.slot_tuple_getitem B.typeIs entry_tuple_getitem ?_ (args_tuple_getitem _ _)))
 show wpAny _ _ (Builtin.Tuple.tupleItemsOf (.ref t) >>= _) _ _ s
 refine wpAny_bind (tupleItemsOf_ B ?_);refine wpAny_bind (wpAny_typeOf G ?_);rw[if_pos (by decide)];refine wpAny_bind (zAI O Y ?_);have M:¬ ((((items.size:Int)-1)==0&&(-1:Int)==1&&items.size==items.size)=true):=by simp
 show wpAny _ _ (if ((((items.size:Int)-1)==0&&(-1:Int)==1&&items.size==items.size)=true) then _ else _) _ _ s
 rw[if_neg M,pick_rev]
 first
  |exact wpAny_bind (m:=Builtin.Tuple.tupleExact _) (wpAny_newObj_type (wpAny_pure ⟨_,rfl,wpAny_pure h⟩) z)
  |exact wpAny_bind (m:=Builtin.Tuple.tupleExact _) (wpAny_newObj_type (wpAny_bind (wpAny_pure (wpAny_pure ⟨_,rfl,wpAny_pure h⟩))) z)
  |exact wpAny_bind (wpAny_bind (m:=Builtin.Tuple.tupleExact _) (wpAny_newObj_type (wpAny_pure (wpAny_pure ⟨_,rfl,wpAny_pure h⟩)) z))
  |exact wpAny_bind (wpAny_bind (m:=Builtin.Tuple.tupleExact _) (wpAny_newObj_type (wpAny_pure ⟨_,rfl,wpAny_pure h⟩) z))
end
def tRevT (K:zA)(O:TE)(U:TO):TE:=fun G H Q=>O G H fun x M=>U G M fun J z=>J=some (-1)/\∃a B,x=.ref a/\SqT K z a B/\∀p,z p=none->Q (.ref p) (upd z p (.tup B.reverse))
theorem w_revT {K:zA}{J:TE}{M:TO}{z:St}{H:Hp}{Q:VK}:tRevT K J M z H Q=(J z H fun x U=>M z U fun O B=>O=some (-1)/\∃a G,x=.ref a/\SqT K B a G/\∀p,B p=none->Q (.ref p) (upd B p (.tup G.reverse))):=rfl
theorem pe_revT {X:Cx}{e:Expr}{st:Expr}{p2 pos:Pos}{U:TE}{Y:TO}(he:PE X e U)(B:PO X (some st) Y):PE X (.Subscript e (.Slice none none (some st) p2) pos) (tRevT X.K U Y):=by
 intro pins s M H Q I h;refine Subscript_ (thn (he pins s M H _ I h) fun v s1 ⟨x,H1,I1,r1,q1⟩=>?_);refine wpAny_Slice ?_;rw[evalPart_none];refine wpAny_pure (wpAny_pure ?_);refine thn (B pins s1 M H1 _ I1 q1) fun vs z ⟨st',H3,I3,ps,e1,a,xs,ex,hx,q3⟩=>?_;subst e1;subst ex;obtain rfl:v=Value.ref a:=r1;have J:Inv X pins M H3 { z with heap:=z.heap.push { cls:=.type "slice",data:=.fields #[.none,.none,vs] } }:=I3.kept (t':=z.toks) fun b ob q=>Heap.get?_push_of_some _ q;obtain⟨G,r,O,hz⟩:=J.tuple hx;have hlen:=r.length;refine PyProof.Rows.tail_any (ops:=[.ref a,.ref z.heap.objs.size]) O.typeIs PyProof.Rows.slot_tuple_getitem.lookup ?_ (by with_unfolding_all rfl);refine J0 O (Heap.IsSliceOf.new ..) ps ?_ (by rw[qM]<;>omega);refine⟨.ref _,_,J.laid (t':=z.toks) (o:=.tup xs.reverse) (fun b ob q=>Heap.get?_push_of_some _ q) (zB _) ?_,rfl,q3 _ (J.hok.fresh (zB _))⟩;exact⟨by rw[zw];exact hz,G.reverse,vals_rev r,⟨_,Heap.get?_push_size _ rfl,rfl,_,rfl⟩⟩
def vP:V->PyData
 |.non=>.none
 |.bl b=>.bool b
 |.int n=>.int n
 |.str x=>.str x
 |_=>.none
def sP:SD->PyData
 |.t z=>.tuple (z.map vP)
 |.l z=>.list (z.map vP)
 |.n=>.none
def lP:LD->PyData
 |.l z=>.list (z.map sP)
 |.t z=>.tuple (z.map sP)
def pP:PD->PyData
 |.l z=>.list (z.map lP)
 |.t z=>.tuple (z.map lP)
 |.x v=>vP v
 |.d=>.dict []
structure SmV (v:V):Prop where
 fl:xF v=true
 sh:(vP v).showable=true
 ln:(vP v).shown.length<=5
def SmS:SD->Prop
 |.t z=>(∀x∈z,SmV x)/\z.length<=300
 |.l z=>(∀x∈z,SmV x)/\z.length<=300
 |.n=>True
def SmL:LD->Prop
 |.l z=>(∀s∈z,SmS s)/\z.length<=1100
 |.t z=>(∀s∈z,SmS s)/\z.length<=1100
def SmP:PD->Prop
 |.l z=>(∀l∈z,SmL l)/\z.length<=6
 |.t z=>(∀l∈z,SmL l)/\z.length<=6
 |.x v=>SmV v
 |.d=>True
theorem sumN_le {k:Nat}:∀{ns:List Nat},(∀n∈ns,n<=k)->ns.sum<=ns.length*k
 |[],_=>zS _
 |n::ns,h=>by
  rw[List.sum_cons,zI,Nat.succ_mul]
  have:=sumN_le fun m z=>h m (zF _ z)
  have:=h n zM
  omega
theorem J1 {t:Str}:∀{ds:List PyData},t∈PyData.shownAll ds->∃d∈ds,t=d.shown
 |[],h=>by rw[PyData.shownAll_nil]at h;cases h
 |d::ds,h=>by
  rw[PyData.shownAll_cons]at h
  rcases zD.mp h with e|e
  ·exact⟨d,zM,e⟩
  ·obtain⟨B,G,z⟩:=J1 e
   exact⟨B,zF _ G,z⟩
theorem join_le {k:Nat}{ds:List PyData}(h:∀d∈ds,d.shown.length<=k):(Str.join ", " (PyData.shownAll ds)).length<=ds.length*(k+2):=by
 refine zL (StrLaws.join_length_le _ _) ?_;have e:((", " : String):Str).length=2:=by decide +kernel
 rw[e,PyData.shownAll_length];have:=sumN_le (k:=k) (ns:=(PyData.shownAll ds).map (·.length)) fun n G=>by
  obtain⟨t,B,rfl⟩:=qP.mp G;obtain⟨d,z,rfl⟩:=J1 B;exact h d z
 rw[qC,PyData.shownAll_length]at this;rw[Nat.mul_add];omega
theorem list_le {k:Nat}{ds:List PyData}(h:∀d∈ds,d.shown.length<=k):(PyData.list ds).shown.length<=ds.length*(k+2)+4:=by
 rw[PyData.shown_list,PySem.Str.length_append,PySem.Str.length_append];have:=join_le h;have z:(("[" : String):Str).length=1:=by decide +kernel
 have B:(("]" : String):Str).length=1:=by decide +kernel
 omega
theorem tuple_le {k:Nat}{ds:List PyData}(h:∀d∈ds,d.shown.length<=k):(PyData.tuple ds).shown.length<=ds.length*(k+2)+4:=by
 rw[PyData.shown_tuple,PySem.Str.length_append,PySem.Str.length_append];have:=join_le h;have z:(("(" : String):Str).length=1:=by decide +kernel
 have B:((",)" : String):Str).length=2:=by decide +kernel
 have G:((")" : String):Str).length=1:=by decide +kernel
 split<;>omega
structure ShwD (d:PyData) (k n:Nat):Prop where
 sh:d.showable=true
 ln:d.shown.length<=k
 dp:d.depth<=n
 nd:d.hasDict=false
theorem JT {n:Nat}:∀{ds:List PyData},(∀d∈ds,d.depth<=n)->PyData.depthAll ds<=n
 |[],_=>by rw[PyData.depthAll];exact zS _
 |d::ds,h=>by
  rw[PyData.depthAll]
  exact Nat.max_le.mpr ⟨h d zM,JT fun x z=>h x (zF _ z)⟩
theorem zAJ:∀{ds:List PyData},(∀d∈ds,d.hasDict=false)->PyData.hasDictAll ds=false
 |[],_=>by rw[PyData.hasDictAll]
 |d::ds,h=>by
  rw[PyData.hasDictAll,h d zM,zAJ fun x z=>h x (zF _ z)]
  rfl
theorem shw_list {k n m:Nat}{ds:List PyData}(h:∀d∈ds,ShwD d k n)(B:ds.length<=m):ShwD (.list ds) (m*(k+2)+4) (n+1):=⟨by rw[PyData.showable];exact showableAll_of fun d z=>(h d z).sh,zL (list_le fun d z=>(h d z).ln) (Nat.add_le_add_right (Nat.mul_le_mul_right _ B) _),by rw[PyData.depth];exact Nat.succ_le_succ (JT fun d z=>(h d z).dp),by rw[PyData.hasDict];exact zAJ fun d z=>(h d z).nd⟩
theorem zAK {k n m:Nat}{ds:List PyData}(h:∀d∈ds,ShwD d k n)(B:ds.length<=m):ShwD (.tuple ds) (m*(k+2)+4) (n+1):=⟨by rw[PyData.showable];exact showableAll_of fun d z=>(h d z).sh,zL (tuple_le fun d z=>(h d z).ln) (Nat.add_le_add_right (Nat.mul_le_mul_right _ B) _),by rw[PyData.depth];exact Nat.succ_le_succ (JT fun d z=>(h d z).dp),by rw[PyData.hasDict];exact zAJ fun d z=>(h d z).nd⟩
theorem shw_V {v:V}(h:SmV v):ShwD (vP v) 5 0:=by
 refine⟨h.sh,h.ln,?_,?_⟩<;>cases v<;>simp[vP,PyData.depth,PyData.hasDict]
theorem Ja {z:Type}{f:z->PyData}{ds:List z}{k n:Nat}(h:∀d∈ds,ShwD (f d) k n):∀d∈ds.map f,ShwD d k n:=fun d B=>by
 obtain⟨x,G,rfl⟩:=qP.mp B
 exact h x G
theorem shw_S {d:SD}(h:SmS d):ShwD (sP d) 2104 1:=by
 cases d with
 |t B=>exact zAK (k:=5) (Ja fun x z=>shw_V (h.1 x z)) (by rw[qC];exact h.2)
 |l B=>exact shw_list (k:=5) (Ja fun x z=>shw_V (h.1 x z)) (by rw[qC];exact h.2)
 |n=>exact⟨by simp[sP,PyData.showable],by rw[sP,PyData.shown_none];decide +kernel,by simp[sP,PyData.depth],by simp[sP,PyData.hasDict]⟩
theorem shw_L {d:LD}(h:SmL d):ShwD (lP d) 2316604 2:=by
 cases d with
 |t B=>exact zAK (k:=2104) (Ja fun x z=>shw_S (h.1 x z)) (by rw[qC];exact h.2)
 |l B=>exact shw_list (k:=2104) (Ja fun x z=>shw_S (h.1 x z)) (by rw[qC];exact h.2)
theorem shw_P {d:PD}(h:SmP d)(B:d≠.d):ShwD (pP d) 13899640 3:=by
 cases d with
 |t G=>exact zAK (k:=2316604) (Ja fun x z=>shw_L (h.1 x z)) (by rw[qC];exact h.2)
 |l G=>exact shw_list (k:=2316604) (Ja fun x z=>shw_L (h.1 x z)) (by rw[qC];exact h.2)
 |x v =>
  have:=shw_V (v:=v) h;exact⟨this.sh,zL this.ln (by decide),zL this.dp (by decide),this.nd⟩
 |d=>exact absurd rfl B
section
variable {P:Program}{w:World}{N:Addr->Prop}{H:Hp}{h:Heap}
theorem reads_V {v:V}{u:Value}(r:RelV v u)(f:xF v=true):Reads h u (vP v) []:=by
 cases v with
 |non=>obtain rfl:u=Value.none:=r;exact .none
 |bl b=>obtain rfl:u=Value.bool b:=r;exact .bool b
 |int n=>obtain⟨t,rfl⟩:=r;exact .int n t
 |str x=>obtain⟨t,rfl⟩:=r;exact .str x t
 |_=>cases f
theorem zAg {xs:List V}{us:List Value}(r:Vals xs us)(f:∀x∈xs,xF x=true):ReadsAll h us (xs.map vP) []:=by
 induction r with
 |nil=>exact .nil
 |cons a _ ih=>exact .cons (as:=[]) (bs:=[]) (reads_V a (f _ zM)) (ih fun x z=>f x (zF _ z))
theorem jU {B:Type}{R:V->B->Prop}{f:B->PyData}(one:∀v u d,R v d->RelV v u->∃z,Reads h u (f d) z):∀{vs:List V} {ds:List B} {us:List Value},AllD R vs ds->Vals vs us->∃z,ReadsAll h us (ds.map f) z
 |[],ds,us,A,r=>by
  cases r
  obtain rfl:ds=[]:=zJ A.1.symm
  exact⟨_,.nil⟩
 |v::vs,[],us,A,r=>by cases A.1
 |v::vs,d::ds,us,A,r=>by
  cases r with
  |cons a t =>
   obtain⟨z,O⟩:=one _ _ _ (A.2 0 v d rfl rfl) a
   obtain⟨bs,M⟩:=jU one (vs:=vs) (ds:=ds) ⟨by have:=A.1;simpa using this,fun i u d J G=>A.2 (i+1) u d J G⟩ t
   exact⟨_,.cons O M⟩
theorem reads_S (x:HOk P w H h){v:V}{u:Value}{d:SD}(i:IsSD N H v d)(r:RelV v u):∃O,Reads h u (sP d) O:=by
 cases d with
 |t G =>
  obtain⟨q,rfl,J,z,_⟩:=i;obtain rfl:u=Value.ref q:=r;obtain⟨_,B,r,o,M,U,n,Y⟩:=(show ObjOk P w H h q (.tup G) from x q _ J);exact⟨_,.tuple M U Y (zAg r z)⟩
 |l G =>
  obtain⟨q,rfl,_,J,z,_⟩:=i;obtain rfl:u=Value.ref q:=r;obtain⟨_,B,n,r,M⟩:=(show ObjOk P w H h q (.lst G) from x q _ J);exact⟨_,.list M rfl rfl (zAg r z)⟩
 |n =>
  obtain rfl:v=.non:=i;obtain rfl:u=Value.none:=r;exact⟨_,.none⟩
theorem reads_L (x:HOk P w H h){v:V}{u:Value}{d:LD}(i:IsLD N H v d)(r:RelV v u):∃B,Reads h u (lP d) B:=by
 cases d with
 |t Y =>
  obtain⟨q,M,rfl,O,G,_⟩:=i;obtain rfl:u=Value.ref q:=r;obtain⟨_,J,r,o,U,g2,n,g3⟩:=(show ObjOk P w H h q (.tup M) from x q _ O);obtain⟨B,z⟩:=jU (R:=IsSD N H) (fun v u d=>reads_S x) G r;exact⟨_,.tuple U g2 g3 z⟩
 |l Y =>
  obtain⟨q,M,rfl,_,O,G,_⟩:=i;obtain rfl:u=Value.ref q:=r;obtain⟨_,J,n,r,U⟩:=(show ObjOk P w H h q (.lst M) from x q _ O);obtain⟨B,z⟩:=jU (R:=IsSD N H) (fun v u d=>reads_S x) G r;exact⟨_,.list U rfl rfl z⟩
theorem reads_P (x:HOk P w H h){v:V}{u:Value}{d:PD}(i:IsPD N H v d)(r:RelV v u)(nd:d≠.d):∃G,Reads h u (pP d) G:=by
 cases d with
 |t Y =>
  obtain⟨q,O,rfl,U,J,_⟩:=i;obtain rfl:u=Value.ref q:=r;obtain⟨_,M,r,o,B,g2,n,g3⟩:=(show ObjOk P w H h q (.tup O) from x q _ U);obtain⟨G,z⟩:=jU (R:=IsLD N H) (fun v u d=>reads_L x) J r;exact⟨_,.tuple B g2 g3 z⟩
 |l Y =>
  obtain⟨q,O,rfl,_,U,J,_⟩:=i;obtain rfl:u=Value.ref q:=r;obtain⟨_,M,n,r,B⟩:=(show ObjOk P w H h q (.lst O) from x q _ U);obtain⟨G,z⟩:=jU (R:=IsLD N H) (fun v u d=>reads_L x) J r;exact⟨_,.list B rfl rfl z⟩
 |x y =>
  obtain⟨rfl,f⟩:=i;exact⟨_,reads_V r f⟩
 |d=>exact absurd rfl nd
end
theorem bo_repr:bootBuiltins "repr" = some (.builtin "repr"):=by decide +kernel
def rRepr:List V->Hp->VK->Prop:=fun z H Q=>∃N v d,z=[v]/\IsPD N H v d/\SmP d/\Q (.str (pP d).shown) H
theorem call_repr {X:Cx}{k:Nat}(U:Room k X.A):CallR X (.builtin "repr") rRepr:=by
 intro pins s σ H xs us Q I r hq;obtain⟨N,v,d,rfl,J,G,q⟩:=hq;obtain⟨u,rfl,B⟩:=ji r;have hz:13899640<=sizeLine:=by decide +kernel
 have two:∀{q:Addr} {d:PD},SmP d->d≠.d->Q (.str (pP d).shown) H->(∃as,Reads s.heap (.ref q) (pP d) as)->wpAny (model X.prog X.w) X.A (call (.builtin "repr") [.ref q]) (EP X pins σ Q) X.xe s:=fun {q d} G nd qq R=>by
  have S:=shw_P G nd;obtain⟨as,R⟩:=R;exact repr_of_reads' R S.sh (PyData.noDict_hsm S.nd) U.gd (by have:=U.un;have:=S.dp;omega) (fun _ _ e=>e) (fun h' t tk Y=>⟨.str _,H,I.kept (t':=tk) Y,⟨t,rfl⟩,qq⟩) (zL S.ln hz)
 cases d with
 |d =>
  obtain⟨p,rfl,h1⟩:=J;obtain rfl:u=Value.ref p:=B;obtain⟨_,M,vs,kv,o,es,ep,g1,g2,g3,g4,g5,_⟩:=(show ObjOk X.prog X.w H s.heap p (.dK []) from I.hok p _ h1);cases kv
  have O:es.toList=[]:=by cases e:es.toList with
   |nil=>rfl
   |cons a b=>rw[e]at g5;cases g5
  have R:Reads s.heap (.ref p) (.dict []) (p::[]++[]):=.dict g1 g2.1 g3 (by rw[O];exact .nil) (by rw[O];exact .nil);refine repr_of_reads' R (by simp[PyData.showable,PyData.showableKv]) (fun _ hm=>?_) U.gd (by have:=U.un;simp only[PyData.depth,PyData.depthKv];omega) (fun _ _ e=>e) (fun h' t tk Y=>⟨.str _,H,I.kept (t':=tk) Y,⟨t,rfl⟩,q⟩) (zL (show(PyData.dict []).shown.length<=2 by rw[PyData.shown_dict,PyData.shownKv_nil];decide +kernel) (by decide +kernel));rw[zu]at hm;rw[<-zE.mp hm]at M;exact absurd M (by decide)
 |l ls =>
  have R:=reads_P I.hok J B (by intro z;cases z);obtain⟨a,us,rfl,_⟩:=J;cases B
  exact two G (by intro z;cases z) q R
 |t ls =>
  have R:=reads_P I.hok J B (by intro z;cases z);obtain⟨a,us,rfl,_⟩:=J;cases B
  exact two G (by intro z;cases z) q R
 |x y =>
  obtain⟨rfl,f⟩:=J;have sh:=G.sh;have ln:=G.ln;rw[show pP (.x v)=vP v from rfl]at q;cases v with
  |non =>
   rw[show vP .non=.none from rfl,PyData.shown_none]at q;cases B
   exact PySem.P.repr_of_none ⟨.str _,H,I.tok _,⟨_,rfl⟩,q⟩
  |bl b =>
   rw[show vP (.bl b)=.bool b from rfl,PyData.shown_bool]at q;cases B
   exact PySem.P.repr_of_bool ⟨.str _,H,I.tok _,⟨_,rfl⟩,by cases b<;>exact q⟩
  |int n =>
   rw[show vP (.int n)=.int n from rfl,PyData.shown_int]at q;obtain⟨t,rfl⟩:=B;exact PySem.P.repr_of_int (of_decide_eq_true (by simpa[vP,PyData.showable] using sh)) ⟨.str _,H,I.tok _,⟨_,rfl⟩,q⟩
  |str x =>
   rw[show vP (.str x)=.str x from rfl,PyData.shown_str]at q ln;obtain⟨t,rfl⟩:=B;exact PySem.P.repr_of_str ⟨.str _,H,I.tok _,⟨_,rfl⟩,q⟩ (zL ln (by decide))
  |_=>cases f
def rCatX:R2:=fun x y H Q=>∃a b z G,x=.ref a/\y=.ref b/\H a=some (.tup z)/\H b=some (.tup G)/\z.length+G.length<=sizeLine/\∀r B,Same H B->B r=some (.tup (z++G))->Q (.ref r) B
theorem op_catX {X:Cx}:OpR X (binaryOp .Add) rCatX:=by
 intro pins s σ H x y v u Q I J U h;obtain⟨a,b,M,ys,rfl,rfl,B,G,Y,q⟩:=h;by_cases z:M=[]
 ·cases J
  cases U
  obtain⟨its,r1,p1,_⟩:=I.tuple (SqT.of (K:=X.K) B);obtain⟨O,r2,p2,_⟩:=I.tuple (SqT.of (K:=X.K) G);refine cat_tup0 p1 p2 (r1.nil_iff.mpr z) ⟨.ref b,H,I,rfl,q b H (Same.refl _) ?_⟩;rw[z];exact G
 ·refine op_catT pins s σ H (.ref a) (.ref b) v u Q I J U ⟨a,b,M,ys,rfl,rfl,SqT.of B,SqT.of G,z,Y,fun e=>q a H (Same.refl _) ?_,fun _ p hp=>q p _ (zU hp _) upd_same⟩;rw[e,zu];exact B
theorem jY {K:zA}{H:Hp}{Q:VK}{p:Addr}{xs:List V}{lo M:Option Int}(h:H p=some (.tup xs))(q:∀r G B,Same H B->B r=some (.tup G)->(∀y∈G,y∈xs)->G.length<=xs.length->Q (.ref r) B):rSlA K (.ref p) lo M H Q:=by
 refine⟨p,xs,rfl,SqT.of h,fun z=>q p xs H (Same.refl _) h (fun _ h=>h) (zB _),fun _ r O=>?_⟩;refine q r _ _ (zU O _) upd_same (fun y J=>?_) ?_
 ·unfold cutV at J;exact yU (yC J)
 ·unfold cutV;rw[qO,zd];omega
theorem xX {n:Int}(B:-1<=n)(z:n<=200):SmV (.int n):=by
 have key:∀k:Fin 202,(((toString ((k.val:Int)-1):String):Str)).length<=5:=by decide +kernel
 refine⟨rfl,?_,?_⟩
 ·show(PyData.int n).showable=true
  rw[PyData.showable];have:n.natAbs.log2<=n.natAbs:=Nat.log2_le_self _;exact decide_eq_true (by omega)
 ·show(PyData.int n).shown.length<=5
  rw[PyData.shown_int];have:=key ⟨(n+1).toNat,by omega⟩;rw[show(((n+1).toNat:Nat):Int)-1=n by omega]at this;exact this
theorem smV_bl (b:Bool):SmV (.bl b):=by
 refine⟨rfl,by simp[vP,PyData.showable],?_⟩;show(PyData.bool b).shown.length<=5
 rw[PyData.shown_bool];cases b<;>decide +kernel
theorem smV_non:SmV .non:=by
 refine⟨rfl,by simp[vP,PyData.showable],?_⟩;show PyData.none.shown.length<=5
 rw[PyData.shown_none];decide +kernel
theorem smV_str {n:Int}(B:1<=n)(z:n<=99):SmV (.str (toString n:String)):=by
 have key:∀k:Fin 100,(reprText ((toString (k.val:Int):String):Str)).length<=5:=by decide +kernel
 refine⟨rfl,by simp[vP,PyData.showable],?_⟩;show(PyData.str _).shown.length<=5
 rw[PyData.shown_str];have:=key ⟨n.toNat,by omega⟩;rw[show((n.toNat:Nat):Int)=n by omega]at this;exact this
theorem smV_e:SmV (.str (Str.ofString "")):=by
 refine⟨rfl,by simp[vP,PyData.showable],?_⟩;show(PyData.str _).shown.length<=5
 rw[PyData.shown_str];decide +kernel
theorem smV_set {top:Int}{S:List Int}(O:SetQ top S)(G:top<=99):∀x∈S.map V.int,SmV x:=fun x B=>by
 obtain⟨n,z,rfl⟩:=qP.mp B
 have:=O.od.lo n z
 have:=O.od.hi n z
 exact xX (by omega) (by omega)
def GoodS (N:Addr->Prop)(H:Hp)(v:V):Prop:=∃d,IsSD N H v d/\SmS d
def GoodL (N:Addr->Prop)(H:Hp)(v:V):Prop:=∃d,IsLD N H v d/\SmL d
def GoodP (N:Addr->Prop)(H:Hp)(v:V):Prop:=∃d,IsPD N H v d/\SmP d
section
variable {N:Addr->Prop}{H H':Hp}{p q:Addr}{xs us:List V}{v:V}
theorem GoodS.same (h:GoodS N H v)(s:Same H H'):GoodS N H' v:=let ⟨d,i,m⟩:=h;⟨d,i.same s,m⟩
theorem GoodL.same (h:GoodL N H v)(s:Same H H'):GoodL N H' v:=let ⟨d,i,m⟩:=h;⟨d,i.same s,m⟩
theorem GoodP.same (h:GoodP N H v)(s:Same H H'):GoodP N H' v:=let ⟨d,i,m⟩:=h;⟨d,i.same s,m⟩
theorem GoodS.chg (h:GoodS N H v)(B:∀q,N q->q≠p)(z:H p=some (.lst xs))(c:Chg p H H'):GoodS N H' v:=let ⟨d,i,m⟩:=h;⟨d,i.chg B z c,m⟩
theorem GoodL.chg (h:GoodL N H v)(B:∀q,N q->q≠p)(z:H p=some (.lst xs))(c:Chg p H H'):GoodL N H' v:=let ⟨d,i,m⟩:=h;⟨d,i.chg B z c,m⟩
theorem yI (h:H q=some (.tup xs))(m:∀x∈xs,SmV x)(l:xs.length<=300):GoodS N H (.ref q):=⟨.t xs,⟨q,rfl,h,fun x z=>(m x z).fl,l⟩,m,l⟩
theorem goodS_lst (n:N q)(h:H q=some (.lst xs))(m:∀x∈xs,SmV x)(l:xs.length<=300):GoodS N H (.ref q):=⟨.l xs,⟨q,rfl,n,h,fun x z=>(m x z).fl,l⟩,m,l⟩
theorem goodS_non:GoodS N H .non:=⟨.n,rfl,trivial⟩
theorem allD_of {O:Type}{R:V->O->Prop}{M:O->Prop}{us:List V}(h:∀u∈us,∃d,R u d/\M d):∃z,AllD R us z/\(∀d∈z,M d)/\z.length=us.length:=by
 induction us with
 |nil=>exact⟨[],AllD.nil,(fun d h=>by cases h),rfl⟩
 |cons u us ih =>
  obtain⟨d,r,m⟩:=h u zM;obtain⟨z,A,U,l⟩:=ih fun x B=>h x (zF _ B);refine⟨d::z,⟨by simpa using A.1,fun i a b J G=>?_⟩,fun x B=>(zD.mp B).elim (fun e=>e ▸ m) (U x),by simpa using l⟩;cases i with
  |zero =>
   cases J
   cases G
   exact r
  |succ i=>exact A.2 i a b J G
theorem jH (n:N q)(h:H q=some (.lst us))(m:∀u∈us,GoodS N H u)(l:us.length<=1100):GoodL N H (.ref q):=by
 obtain⟨z,A,M,e⟩:=allD_of m;exact⟨.l z,⟨q,us,rfl,n,h,A,by omega⟩,M,by omega⟩
theorem goodL_tup (h:H q=some (.tup us))(m:∀u∈us,GoodS N H u)(l:us.length<=1100):GoodL N H (.ref q):=by
 obtain⟨z,A,M,e⟩:=allD_of m;exact⟨.t z,⟨q,us,rfl,h,A,by omega⟩,M,by omega⟩
theorem xO (n:N q)(h:H q=some (.lst us))(m:∀u∈us,GoodL N H u)(l:us.length<=6):GoodP N H (.ref q):=by
 obtain⟨z,A,M,e⟩:=allD_of m;exact⟨.l z,⟨q,us,rfl,n,h,A,by omega⟩,M,by omega⟩
theorem goodP_tup (h:H q=some (.tup us))(m:∀u∈us,GoodL N H u)(l:us.length<=6):GoodP N H (.ref q):=by
 obtain⟨z,A,M,e⟩:=allD_of m;exact⟨.t z,⟨q,us,rfl,h,A,by omega⟩,M,by omega⟩
theorem goodP_v (m:SmV v):GoodP N H v:=⟨.x v,⟨rfl,m.fl⟩,m⟩
theorem goodP_d (h:H q=some (.dK [])):GoodP N H (.ref q):=⟨.d,⟨q,rfl,h⟩,trivial⟩
end
structure Mnu (N:Addr->Prop) (t:Addr) (S:List Int) (H:Hp) (us:List V):Prop where
 hN:∀q,H q=none->N q
 ht:H t=some (.tup (S.map V.int))
 A:∀u∈us,GoodS N H u
theorem Mnu.same {N:Addr->Prop}{t:Addr}{S:List Int}{H H':Hp}{us:List V}(M:Mnu N t S H us)(s:Same H H'):Mnu N t S H' us:=⟨fun q h=>M.hN q (s.free h),s _ _ M.ht,fun u z=>(M.A u z).same s⟩
theorem Mnu.add {N:Addr->Prop}{t:Addr}{S:List Int}{H:Hp}{us:List V}{v:V}(M:Mnu N t S H us)(g:GoodS N H v):Mnu N t S H (us++[v]):=⟨M.hN,M.ht,fun u z=>(zK.mp z).elim (M.A u) fun e=>by rw[zE.mp e];exact g⟩
theorem xu {xs z:List V}(H:∀x∈xs,SmV x)(B:∀x∈z,SmV x):∀x∈xs++z,SmV x:=fun x G=>(zK.mp G).elim (H x) (B x)
theorem jE {v:V}(h:SmV v):∀x∈[v],SmV x:=fun x z=>by rw[zE.mp z];exact h
theorem smV_ints {xs:List Int}(h:∀n∈xs,-1<=n/\n<=200):∀x∈xs.map V.int,SmV x:=fun x B=>by
 obtain⟨n,z,rfl⟩:=qP.mp B
 exact xX (h n z).1 (h n z).2
def boV (v:V):Option V:=match v with
 |.int n=>some (.bl (n != 0))
 |_=>none
theorem boV_map (S:List Int):(S.map V.int).filterMap boV=S.map fun n=>V.bl (n != 0):=by
 induction S with
 |nil=>rfl
 |cons n S ih=>rw[zQ,zY,show boV (V.int n)=some (V.bl (n != 0)) from rfl,ih];rfl
theorem log_lt {n:Int}(B:0<=n)(z:n<=1000):n.natAbs.log2<1920:=by
 have:=Nat.log2_le_self n.natAbs;omega
inductive Other34P (K:zA) (vs:List V) (H:Hp) (Q:VK):Prop
 |mk (N:Addr->Prop) (p a t:Addr) (ns:List Int) (c:Int) (S:List Int) (top:Int) (e:vs=[.ref p,.ref t,.int top]) (hP:PPen H p a c) (hS:Scr K H a ns) (h63:ns.length<=63) (hc:c<=900000000) (hN:∀q,H q=none->N q) (hNp:∀q,N q->q≠p) (ht:H t=some (.tup (S.map V.int))) (O:SetQ top S) (t1:1<=top) (t2:top<=99)
  (q:∀v H',Chg p H H'->PPen H' p a (c+3)->Scr K H' a ns->GoodS N H' v->Q v H'):Other34P K vs H Q
def spOther34 (K:zA):Sp:=fun z H Q _=>Other34P K z H Q
section
variable {σ:St}{H:Hp}{Q:VK}{cs:List Nat}{te:TE}{K:zA}
theorem zAL {v:Addr}{us:List V}(J:Nat->Hp->Prop)(M:Addr->Hp->V->Prop)(hz:us.length<=sizeLine)
  (hv:∀i B,J i B->B v=some (.lst us)) (h0:J 0 H) (hu:∀acc i B o,H acc=none->J i B->J i (upd B acc o))
  (mono:∀acc H1 H2 u xs,M acc H1 u->H1 acc=some (.lst xs)->Chg acc H1 H2->M acc H2 u)
  (hb:∀i x B (R:VK) acc G,us[i]? = some x->H acc=none->B acc=some (.lst G)->J i B->(∀u Y,Y acc=some (.lst G)->J (i+1) Y->(∀z,M acc B z->M acc Y z)->M acc Y u->R u Y)->te (some x::yF cs σ) B R)
  (hd:∀acc ws B,H acc=none->J us.length B->B acc=some (.lst ws)->ws.length=us.length->(∀u∈ws,M acc B u)->Q (.ref acc) B) :
  yX (Itl K v) 1 cs (xN 0) tYes te σ H Q:=by
 refine jR us.length (fun acc i G B=>J i B/\B acc=some (.lst G)/\G.length=i/\∀u∈G,M acc B u) hz ?_ ?_ ?_ ?_ ?_ ?_
 ·rintro acc i G B hi ⟨s,_⟩;exact⟨us,us[i],SqL.of (hv _ _ s),qA hi⟩
 ·rintro acc G B ⟨s,_⟩;exact⟨us,SqL.of (hv _ _ s),zB _⟩
 ·intro acc U;exact⟨hu _ _ _ _ U h0,upd_same,rfl,fun u h=>by cases h⟩
 ·rintro acc i G B ⟨s,U,hl,_⟩;exact⟨U,xc hl⟩
 ·rintro acc i G B ts x H2 N hn hi ⟨s,U,hl,hy⟩ ⟨rfl,hx⟩ hts hN;have hx:=hx us (SqL.of (hv _ _ s));obtain⟨t0,rfl⟩:∃t0,ts=[t0]:=ya.mp hts;rw[xK,w_yes,if_pos rfl];refine hb i x _ _ acc G hx hn U s fun u Y O s5 hm h5=>?_;refine⟨O,hN _ [_] _ rfl ⟨hu _ _ _ _ hn s5,upd_same,by rw[qF,hl];rfl,fun z hz=>?_⟩⟩;rcases zK.mp hz with e|e
  ·exact mono _ _ _ _ _ (hm z (hy z e)) O (Chg.upd _)
  ·rw[zE.mp e];exact mono _ _ _ _ _ h5 O (Chg.upd _)
 ·rintro acc G B hn ⟨s,U,hl,hy⟩;exact hd acc G B hn s U hl hy
end
def SetR (top:Int)(H:Hp)(w:V):Prop:=∃t S,w=.ref t/\H t=some (.tup (iT S))/\SetQ top S
def LevR (N:Addr->Prop)(top:Int)(H:Hp)(u:V):Prop:=∃r z,u=.ref r/\N r/\H r=some (.lst z)/\z≠[]/\z.length<=1001/\∀w∈z,SetR top H w
section
variable {N N':Addr->Prop}{top:Int}{H H':Hp}{u w:V}{p:Addr}{xs us:List V}
theorem SetR.chg (h:SetR top H w)(G:H p=some (.lst xs))(c:Chg p H H'):SetR top H' w:=let ⟨t,S,e,B,o⟩:=h;⟨t,S,e,c _ _ (JE B G (by intro z;cases z)) B,o⟩
theorem SetR.same (h:SetR top H w)(s:Same H H'):SetR top H' w:=let ⟨t,S,e,z,o⟩:=h;⟨t,S,e,s _ _ z,o⟩
theorem LevR.chg (h:LevR N top H u)(M:∀q,N q->q≠p)(z:H p=some (.lst xs))(c:Chg p H H'):LevR N top H' u:=let ⟨r,B,e,n,J,ne,l,a⟩:=h;⟨r,B,e,n,c _ _ (M _ n) J,ne,l,fun w G=>(a w G).chg z c⟩
theorem LevR.same (h:LevR N top H u)(s:Same H H'):LevR N top H' u:=let ⟨r,z,e,n,G,ne,l,a⟩:=h;⟨r,z,e,n,s _ _ G,ne,l,fun w B=>(a w B).same s⟩
theorem LevR.imp (h:LevR N top H u)(f:∀q,N q->N' q):LevR N' top H u:=let ⟨r,z,e,n,B⟩:=h;⟨r,z,e,f _ n,B⟩
theorem SetR.good (h:SetR top H w)(B:1<=top)(z:top<=99):GoodS N H w:=by
 obtain⟨t,S,rfl,G,O⟩:=h;exact yI G (smV_set O z) (by unfold iT;rw[qC];have:=O.len B z;omega)
theorem LevR.good (h:LevR N top H u)(G:1<=top)(z:top<=99):GoodL N H u:=by
 obtain⟨r,M,rfl,n,J,ne,l,a⟩:=h;exact jH n J (fun w B=>(a w B).good G z) (by omega)
theorem GoodS.imp (h:GoodS N H u)(f:∀q,N q->N' q):GoodS N' H u:=let ⟨d,i,m⟩:=h;⟨d,i.imp f,m⟩
theorem GoodL.imp (h:GoodL N H u)(f:∀q,N q->N' q):GoodL N' H u:=let ⟨d,i,m⟩:=h;⟨d,i.imp f,m⟩
theorem lev_upd {r:Addr}{z:List V}(A:∀u∈us,LevR N top H u)(B:∃xs,H r=some (.lst xs))(n:N r)(G:∀w∈z,GoodS N (upd H r (.lst z)) w)(l:z.length<=1100)(U:1<=top)(M:top<=99):∀u∈us,GoodL N (upd H r (.lst z)) u:=fun u O=>by
 obtain⟨xs,B⟩:=B
 obtain⟨q,ws,rfl,J,Y,ne,l1,a⟩:=A u O
 by_cases e:q=r
 ·subst e
  exact jH J upd_same G l
 ·exact jH J (by rw[yL e];exact Y) (fun w G=>((a w G).chg B (Chg.upd _)).good U M) (by omega)
theorem GoodP.imp (h:GoodP N H u)(f:∀q,N q->N' q):GoodP N' H u:=by
 obtain⟨d,i,m⟩:=h;refine⟨d,?_,m⟩;cases d with
 |l J =>
  obtain⟨q,us,e,n,G,B,z⟩:=i;exact⟨q,us,e,f q n,G,B.imp fun u d r=>r.imp f,z⟩
 |t J =>
  obtain⟨q,us,e,G,B,z⟩:=i;exact⟨q,us,e,G,B.imp fun u d r=>r.imp f,z⟩
 |_=>exact i
end
theorem GoodP.chg {N:Addr->Prop}{H H':Hp}{p:Addr}{xs:List V}{v:V}(h:GoodP N H v)(B:∀q,N q->q≠p)(z:H p=some (.lst xs))(c:Chg p H H'):GoodP N H' v:=let ⟨d,i,m⟩:=h;⟨d,i.chg B z c,m⟩
def TupR (top:Int)(H:Hp)(u:V):Prop:=∃t z,u=.ref t/\H t=some (.tup z)/\z.length<=1001/\∀w∈z,SetR top H w
theorem TupR.chg {top:Int}{H H':Hp}{p:Addr}{xs:List V}{u:V}(h:TupR top H u)(B:H p=some (.lst xs))(c:Chg p H H'):TupR top H' u:=let ⟨t,J,e,G,l,a⟩:=h;⟨t,J,e,c _ _ (JE G B (by intro z;cases z)) G,l,fun w M=>(a w M).chg B c⟩
theorem TupR.same {top:Int}{H H':Hp}{u:V}(h:TupR top H u)(s:Same H H'):TupR top H' u:=let ⟨t,z,e,G,l,a⟩:=h;⟨t,z,e,s _ _ G,l,fun w B=>(a w B).same s⟩
theorem TupR.good {N:Addr->Prop}{top:Int}{H:Hp}{u:V}(h:TupR top H u)(B:1<=top)(z:top<=99):GoodL N H u:=by
 obtain⟨t,M,rfl,J,l,a⟩:=h;exact goodL_tup J (fun w G=>(a w G).good B z) (by omega)
structure MnP (N:Addr->Prop) (top:Int) (la:Addr) (us0:List V) (H:Hp) (us:List V):Prop where
 hN:∀q,H q=none->N q
 hl:H la=some (.lst us0)
 A0:∀u∈us0,LevR N top H u
 A:∀u∈us,GoodP N H u
section
variable {N:Addr->Prop}{top:Int}{la p:Addr}{us0 us xs:List V}{H H':Hp}{v:V}
theorem MnP.same (M:MnP N top la us0 H us)(s:Same H H'):MnP N top la us0 H' us:=⟨fun q h=>M.hN q (s.free h),s _ _ M.hl,fun u z=>(M.A0 u z).same s,fun u z=>(M.A u z).same s⟩
theorem MnP.add (M:MnP N top la us0 H us)(g:GoodP N H v):MnP N top la us0 H (us++[v]):=⟨M.hN,M.hl,M.A0,fun u z=>(zK.mp z).elim (M.A u) fun e=>by rw[zE.mp e];exact g⟩
theorem MnP.chg (M:MnP N top la us0 H us)(Y:N la)(J:∀q,N q->q≠p)(O:H p=some (.lst xs))(B:∃U,H' p=some (.lst U))(c:Chg p H H'):MnP N top la us0 H' us:=⟨fun q h=>M.hN q (c.new (by obtain⟨_,z⟩:=B;exact(ne_of_none z h).symm) h),c _ _ (J _ Y) M.hl,fun u G=>(M.A0 u G).chg J O c,fun u G=>(M.A u G).chg J O c⟩
end
inductive Bent34P (K:zA) (vs:List V) (H:Hp) (Q:VK):Prop
 |mk (N:Addr->Prop) (p a la:Addr) (ns:List Int) (c:Int) (us:List V) (top:Int) (e:vs=[.ref p,.ref la,.int top]) (hP:PPen H p a c) (hS:Scr K H a ns) (h63:ns.length<=63) (hc:c<=800000000) (hN:∀q,H q=none->N q) (hNp:∀q,N q->q≠p) (nl:N la) (hl:H la=some (.lst us)) (l4:us.length<=4) (A:∀u∈us,LevR N top H u) (t1:1<=top) (t2:top<=99)
  (q:∀v H',Chg p H H'->PPen H' p a (c+7)->Scr K H' a ns->GoodP N H' v->Q v H'):Bent34P K vs H Q
def spBent34 (K:zA):Sp:=fun z H Q _=>Bent34P K z H Q
def LevB34 (N:Addr->Prop)(top:Int)(H:Hp)(u:V):Prop:=∃r z L,u=.ref r/\N r/\LevH H r z L top/\L.length<=1000
section
variable {N:Addr->Prop}{top:Int}{H H':Hp}{u:V}{p:Addr}{xs us:List V}
theorem LevH.chgL {r:Addr}{z:List V}{L:List (List Int)}(h:LevH H r z L top)(B:H p=some (.lst xs))(n:r≠p)(c:Chg p H H'):LevH H' r z L top:=⟨c _ _ n h.lst,h.hts.chgL B c,h.ok,h.ne⟩
theorem LevB34.chg (h:LevB34 N top H u)(J:∀q,N q->q≠p)(z:H p=some (.lst xs))(c:Chg p H H'):LevB34 N top H' u:=let ⟨r,B,L,e,n,G,l⟩:=h;⟨r,B,L,e,n,G.chgL z (J _ n) c,l⟩
theorem LevB34.same (h:LevB34 N top H u)(s:Same H H'):LevB34 N top H' u:=let ⟨r,z,L,e,n,B,l⟩:=h;⟨r,z,L,e,n,B.same s,l⟩
theorem levR_of {r:Addr}{B:List V}{L:List (List Int)}(n:N r)(h:LevH H r B L top)(l:L.length<=1001):LevR N top H (.ref r):=by
 have z:=h.hts.len;refine⟨r,B,rfl,n,h.lst,fun e=>?_,by omega,fun w Y=>?_⟩
 ·rw[e]at z;exact h.ne (zJ z.symm)
 ·obtain⟨j,M⟩:=zO.mp Y;have U:j<L.length:=by rw[<-z];exact(qB.mp M).1
  have J:=qA U;obtain⟨t,G,O⟩:=h.hts.at_ j _ J;rw[M]at G;cases G
  exact⟨t,_,rfl,O,h.ok _ (qE J)⟩
theorem ladder_of {us:List V}{z:List (List (List Int))}(A:AllD (IsLD N H) us (z.map iL))(O:∀L∈z,L≠[]/\L.length<=1000/\∀S∈L,SetQ top S):∀u∈us,LevB34 N top H u:=fun u hu=>by
 obtain⟨i,ei⟩:=zO.mp hu
 obtain⟨d,G,r⟩:=A.at_ ei
 rw[qI]at G
 obtain⟨L,U,rfl⟩:=yK.mp G
 obtain⟨o1,J,o3⟩:=O L (qE U)
 obtain⟨q,M,rfl,nq,Y,B,_⟩:=r
 exact⟨q,M,L,rfl,nq,⟨Y,hts_D B,o3,o1⟩,J⟩
end
inductive W34 (K:zA) (a p f:Addr) (ns:List Int) (top:Int) (us:List V) (c:Int) (H:Hp):Prop
 |mk (P:PPen H p a c) (S:Scr K H a ns) (hf:H f=some (.lst us)) (A:∀u∈us,LevR (fun q=>q≠p/\q≠f) top H u):W34 K a p f ns top us c H
inductive Bs34 (K:zA) (N:Addr->Prop) (p a f r:Addr) (ns:List Int) (c top y:Int) (fs ws:List V) (H0:Hp) (j:Int) (H:Hp):Prop
 |todo (h:j<=y) (P:PPen H p a (c+3)) (S:Scr K H a ns) (C:Chg p H0 H) (hf:H f=some (.lst fs)) (A:∀u∈fs,LevR (fun q=>N q/\q≠f) top H u) (hr:H r=some (.lst ws)) (aw:∀w∈ws,SetR top H w):Bs34 K N p a f r ns c top y fs ws H0 j H
 |done (h:y<j) (P:PPen H p a (c+7)) (S:Scr K H a ns) (C:Chg p H0 H) (g:GoodP N H (.ref f)):Bs34 K N p a f r ns c top y fs ws H0 j H
end L2
namespace Law
open PySem L2
open Option.some renaming injEq → qJs
open L2.HO.tup renaming injEq → qJt
open L2.HO.lst renaming injEq → qJl
open L2.HO.dK renaming injEq → qJd
def top (i:Nat):Stmt:=PySem.Challenge.pw_shiftsums_k34_what_a_paper_shows.main.body.getD i (.Pass ⟨0,0,0,0⟩)
local macro_rules | `(tactic| walk_at "F")=>`(tactic| exact ⟨rfl,rfl,rfl,by decide +kernel,rfl,by decide +kernel,by decide +kernel⟩)
local macro_rules | `(tactic| walk_at "S")=>`(tactic| (rw [zAG (Nat.le_of_ble_eq_true rfl)]; simp only [stA]))
abbrev s_law:Stmt:=top 41
def tb:List TbE:=[⟨"is_whole",top 4,["thing"]⟩,⟨"core",top 5,["number"]⟩,⟨"is_between",top 7,["thing","low","high"]⟩,⟨"made",top 12,["cores","top"]⟩,⟨"doublings",top 13,["odd","top"]⟩,⟨"cores_of",top 14,["numbers"]⟩,⟨"wanted",top 15,["numbers"]⟩,⟨"refuse_beyond",top 16,["top","most"]⟩,⟨"shows",top 18,["paper","numbers","top","most"]⟩,⟨"is_paper",top 19,["paper","top","most"]⟩,⟨"is_level",top 20,["level","top"]⟩,⟨"is_core_set",top 21,["cores","top"]⟩,⟨"leads_on",top 22,["level","following","top"]⟩,⟨"is_led_on",top 23,["cores","masks","top"]⟩,⟨"mask_of",top 24,["cores"]⟩,⟨"finishes",top 25,["cores","asked","top"]⟩,⟨"_law_pen",top 27,["_law_script"]⟩,⟨"_law_pick",top 28,["_law_pen_here","_law_many"]⟩,⟨"_law_odd",top 29,["_law_number"]⟩,⟨"_law_meet",top 30,["_law_one","_law_other","_law_third"]⟩,⟨"_law_gains",top 31,["_law_some","_law_top"]⟩,⟨"_law_levels",top 32,["_law_top","_law_most"]⟩,⟨"_law_joined",top 33,["_law_level"]⟩,⟨"_law_ordered",top 34,["_law_pen_here","_law_level"]⟩,⟨"_law_other_set",top 35,["_law_pen_here","_law_some","_law_top"]⟩,⟨"_law_bent",top 36,["_law_pen_here","_law_paper","_law_top"]⟩,⟨"_law_row",top 37,["_law_pen_here","_law_top"]⟩,⟨"_law_is_set",top 38,["_law_thing","_law_top"]⟩,⟨"_law_is_led",top 39,["_law_some","_law_later","_law_top"]⟩,⟨"_law_due",top 40,["_law_paper","_law_row_here","_law_top","_law_most"]⟩,⟨"law",top 41,["_law_script"]⟩]
theorem sc_is_whole:FnScope ["thing"] ["thing"] (zT (top 4)):=by walk_at "F"
theorem sc_core:FnScope ["number","size","shift","sign"] ["number"] (zT (top 5)):=by walk_at "F"
theorem sc_is_between:FnScope ["thing","low","high"] ["thing","low","high"] (zT (top 7)):=by walk_at "F"
theorem sc_made:FnScope ["cores","top","sums","left","high","right"] ["cores","top"] (zT (top 12)):=by walk_at "F"
theorem sc_doublings:FnScope ["odd","top","told"] ["odd","top"] (zT (top 13)):=by walk_at "F"
theorem zAU:FnScope ["numbers"] ["numbers"] (zT (top 14)):=by walk_at "F"
theorem sc_wanted:FnScope ["numbers"] ["numbers"] (zT (top 15)):=by walk_at "F"
theorem zAM:FnScope ["top","most"] ["top","most"] (zT (top 16)):=by walk_at "F"
theorem sc_shows:FnScope ["paper","numbers","top","most","asked"] ["paper","numbers","top","most"] (zT (top 18)):=by walk_at "F"
theorem sc_is_paper:FnScope ["paper","top","most"] ["paper","top","most"] (zT (top 19)):=by walk_at "F"
theorem sc_is_level:FnScope ["level","top"] ["level","top"] (zT (top 20)):=by walk_at "F"
theorem zAh:FnScope ["cores","top"] ["cores","top"] (zT (top 21)):=by walk_at "F"
theorem sc_leads_on:FnScope ["level","following","top","masks"] ["level","following","top"] (zT (top 22)):=by walk_at "F"
theorem sc_is_led_on:FnScope ["cores","masks","top","whole","reached","mask","asked"] ["cores","masks","top"] (zT (top 23)):=by walk_at "F"
theorem sc_mask_of:FnScope ["cores"] ["cores"] (zT (top 24)):=by walk_at "F"
theorem sc_finishes:FnScope ["cores","asked","top","lacking"] ["cores","asked","top"] (zT (top 25)):=by walk_at "F"
theorem sc_l_pen:FnScope ["_law_script"] ["_law_script"] (zT (top 27)):=by walk_at "F"
theorem sc_l_pick:FnScope ["_law_pen_here","_law_many","_law_digit","_law_at","_law_cell","_law_mixed"] ["_law_pen_here","_law_many"] (zT (top 28)):=by walk_at "F"
theorem sc_l_odd:FnScope ["_law_number"] ["_law_number"] (zT (top 29)):=by walk_at "F"
theorem sc_l_meet:FnScope ["_law_one","_law_other","_law_third"] ["_law_one","_law_other","_law_third"] (zT (top 30)):=by walk_at "F"
theorem sc_l_gains:FnScope ["_law_some","_law_top","_law_found","_law_own","_law_one","_law_mates"] ["_law_some","_law_top"] (zT (top 31)):=by walk_at "F"
theorem sc_l_levels:FnScope ["_law_top","_law_most","_law_ladder","_law_sets","_law_k","_law_later","_law_some","_law_more","_law_own"] ["_law_top","_law_most"] (zT (top 32)):=by walk_at "F"
theorem sc_l_joined:FnScope ["_law_level","_law_found","_law_k","_law_pair"] ["_law_level"] (zT (top 33)):=by walk_at "F"
theorem sc_l_ordered:FnScope ["_law_pen_here","_law_level","_law_way","_law_found"] ["_law_pen_here","_law_level"] (zT (top 34)):=by walk_at "F"
theorem sc_l_other_set:FnScope ["_law_pen_here","_law_some","_law_top","_law_own","_law_at","_law_menu"] ["_law_pen_here","_law_some","_law_top"] (zT (top 35)):=by walk_at "F"
theorem sc_l_bent:FnScope ["_law_pen_here","_law_paper","_law_top","_law_others","_law_way","_law_fresh","_law_at","_law_place"] ["_law_pen_here","_law_paper","_law_top"] (zT (top 36)):=by walk_at "F"
theorem sc_l_row:FnScope ["_law_pen_here","_law_top","_law_row_here","_law_k","_law_own"] ["_law_pen_here","_law_top"] (zT (top 37)):=by walk_at "F"
theorem sc_l_is_set:FnScope ["_law_thing","_law_top","_law_own"] ["_law_thing","_law_top"] (zT (top 38)):=by walk_at "F"
theorem sc_l_is_led:FnScope ["_law_some","_law_later","_law_top","_law_over","_law_own"] ["_law_some","_law_later","_law_top"] (zT (top 39)):=by walk_at "F"
theorem sc_l_due:FnScope ["_law_paper","_law_row_here","_law_top","_law_most","_law_level","_law_owed","_law_k","_law_some","_law_left"] ["_law_paper","_law_row_here","_law_top","_law_most"] (zT (top 40)):=by walk_at "F"
theorem sc_law:FnScope ["_law_script","_law_pen_here","_law_far","_law_deeds","_law_top","_law_most","_law_ladder","_law_k","_law_paper","_law_row_here","_law_told","_law_handed","_law_found"] ["_law_script"] (zT (top 41)):=by walk_at "F"
structure Bl (mg:Str->Option Value):Prop where
 abs:mg "abs" = none
 all:mg "all" = none
 any:mg "any" = none
 bool:mg "bool" = none
 int:mg "int" = none
 isinstance:mg "isinstance" = none
 len:mg "len" = none
 list:mg "list" = none
 range:mg "range" = none
 repr:mg "repr" = none
 «set»:mg "set" = none
 sorted:mg "sorted" = none
 str:mg "str" = none
 sum:mg "sum" = none
 tuple:mg "tuple" = none
 zip:mg "zip" = none
structure Txt (K:zA) (mg:Str->Option Value):Prop where
 bl:Bl mg
 t:∀(i:Nat) (x:TbE),tb[i]? = some x->TD K mg x.n x.s x.ps
 i_TOP_AT_MOST:∃tk:Tok,mg "TOP_AT_MOST" = some (.int 99 tk)
 i_DEEDS_AT_MOST:∃tk:Tok,mg "DEEDS_AT_MOST" = some (.int 4 tk)
 i_TOP_WITH_ALL_DEEDS:∃tk:Tok,mg "TOP_WITH_ALL_DEEDS" = some (.int 31 tk)
 cls:∃(cst_TooMany:Addr),mg "TooMany" = some (.ref cst_TooMany)/\PySem.W.excIn K cst_TooMany [.type "ValueError",.type "Exception",.type "BaseException",.type "object"] "ValueError.__new__" = true
local macro_rules | `(tactic| walk_at "WP")=>`(tactic| (first | (dsimp only [w_gLst,w_forE,w_compE,w_compZ,w_for3,w_gTupK,w_ixT,w_eqS,w_aug,w_ipI,w_dnK,w_maxD,w_sl,w_noPart,w_part,w_slL,w_var,w_C,w_op,w_un,w_rI,w_rI0,w_rU,w_eqI,w_neI,w_eqB,w_neB,w_seq,w_next,w_break,w_cont,w_ifS,w_ret,w_retN,w_drop,w_asg,xK,w_gSub,w_test,w_B,w_and,w_or,w_not,w_andV,w_orV,w_notV,w_if,w_call,w_nil,w_cons,w_CB,w_lst,w_tup,w_isN,w_notN,w_chain,w_for1,w_for2b,w_On2,w_forL,w_forT,w_forV,w_compL,w_compT,w_comp1,w_comp2b,w_yes,w_bm,w_bm0,w_rBits,w_tyInt,Js,j5,w_gNil,w_dgS,w_dgI,w_sDP,w_dpS,w_dpI,w_dII,w_disp,J5,pen_s,pen_a,pen_l,pen_len,pen_pa,pen_pl,qJd,Jr,yV,jx,List.set_cons_zero,List.set_cons_succ,qJs,V.int.injEq,V.bl.injEq,V.ref.injEq,V.str.injEq,exists_eq_left',exists_eq_left,zu,List.cons.injEq,and_true,true_and,exists_and_left,decide_eq_true_eq,yb,decide_eq_false_iff_not,Bool.not_true,Bool.not_false,Jc,w_ixU,w_ixL,w_setL,w_cxK,w_isI_ii,w_isI_ib,w_isI_bi,w_isI_bb,w_isI_ni,w_isI_nb,w_isI_si,w_isI_sb,sl_0,sl_1,sl_2,sl_3,sl_4,sl_5,sl_6,sl_7,sl_8,CPowB,w_shl1,at_0,at_1,at_2,at_3,ixN_0,ixN_1,ixN_2,upd_same,qJl,qJt,Int.reduceToNat,Int.reducePow,Int.reduceNeg,Int.reduceLT,Int.reduceLE,Int.reduceMod,Int.reduceMul,Int.reduceAdd,Int.reduceSub,Int.reduceDiv,Int.reduceEq,ite_true,ite_false,if_true,if_false,Bool.true_eq_false,zv,zI,xi,reduceCtorEq,false_and,and_false,not_false_eq_true,not_true_eq_false,exists_false,false_or,or_false,w_pop,w_extend,zAA,w_clear,w_cat,w_LZ,w_LR,w_forD,w_compZ2,w_sDPT,w_dpT,w_dIT,w_dgT,w_dnT,w_eqE,w_neE,w_revL,w_dget1,w_dget2,w_revT]; try simp only [w_gLst,w_forE,w_compE,w_compZ,w_for3,w_gTupK,w_ixT,w_eqS,w_aug,w_ipI,w_dnK,w_maxD,w_sl,w_noPart,w_part,w_slL,w_var,w_C,w_op,w_un,w_rI,w_rI0,w_rU,w_eqI,w_neI,w_eqB,w_neB,w_seq,w_next,w_break,w_cont,w_ifS,w_ret,w_retN,w_drop,w_asg,xK,w_gSub,w_test,w_B,w_and,w_or,w_not,w_andV,w_orV,w_notV,w_if,w_call,w_nil,w_cons,w_CB,w_lst,w_tup,w_isN,w_notN,w_chain,w_for1,w_for2b,w_On2,w_forL,w_forT,w_forV,w_compL,w_compT,w_comp1,w_comp2b,w_yes,w_bm,w_bm0,w_rBits,w_tyInt,Js,j5,w_gNil,w_dgS,w_dgI,w_sDP,w_dpS,w_dpI,w_dII,w_disp,J5,pen_s,pen_a,pen_l,pen_len,pen_pa,pen_pl,qJd,Jr,yV,jx,List.set_cons_zero,List.set_cons_succ,qJs,V.int.injEq,V.bl.injEq,V.ref.injEq,V.str.injEq,exists_eq_left',exists_eq_left,zu,List.cons.injEq,and_true,true_and,exists_and_left,decide_eq_true_eq,yb,decide_eq_false_iff_not,Bool.not_true,Bool.not_false,Jc,w_ixU,w_ixL,w_setL,w_cxK,w_isI_ii,w_isI_ib,w_isI_bi,w_isI_bb,w_isI_ni,w_isI_nb,w_isI_si,w_isI_sb,sl_0,sl_1,sl_2,sl_3,sl_4,sl_5,sl_6,sl_7,sl_8,CPowB,w_shl1,at_0,at_1,at_2,at_3,ixN_0,ixN_1,ixN_2,upd_same,qJl,qJt,Int.reduceToNat,Int.reducePow,Int.reduceNeg,Int.reduceLT,Int.reduceLE,Int.reduceMod,Int.reduceMul,Int.reduceAdd,Int.reduceSub,Int.reduceDiv,Int.reduceEq,ite_true,ite_false,if_true,if_false,Bool.true_eq_false,zv,zI,xi,reduceCtorEq,false_and,and_false,not_false_eq_true,not_true_eq_false,exists_false,false_or,or_false,w_pop,w_extend,zAA,w_clear,w_cat,w_LZ,w_LR,w_forD,w_compZ2,w_sDPT,w_dpT,w_dIT,w_dgT,w_dnT,w_eqE,w_neE,w_revL,w_dget1,w_dget2,w_revT]) | simp only [w_gLst,w_forE,w_compE,w_compZ,w_for3,w_gTupK,w_ixT,w_eqS,w_aug,w_ipI,w_dnK,w_maxD,w_sl,w_noPart,w_part,w_slL,w_var,w_C,w_op,w_un,w_rI,w_rI0,w_rU,w_eqI,w_neI,w_eqB,w_neB,w_seq,w_next,w_break,w_cont,w_ifS,w_ret,w_retN,w_drop,w_asg,xK,w_gSub,w_test,w_B,w_and,w_or,w_not,w_andV,w_orV,w_notV,w_if,w_call,w_nil,w_cons,w_CB,w_lst,w_tup,w_isN,w_notN,w_chain,w_for1,w_for2b,w_On2,w_forL,w_forT,w_forV,w_compL,w_compT,w_comp1,w_comp2b,w_yes,w_bm,w_bm0,w_rBits,w_tyInt,Js,j5,w_gNil,w_dgS,w_dgI,w_sDP,w_dpS,w_dpI,w_dII,w_disp,J5,pen_s,pen_a,pen_l,pen_len,pen_pa,pen_pl,qJd,Jr,yV,jx,List.set_cons_zero,List.set_cons_succ,qJs,V.int.injEq,V.bl.injEq,V.ref.injEq,V.str.injEq,exists_eq_left',exists_eq_left,zu,List.cons.injEq,and_true,true_and,exists_and_left,decide_eq_true_eq,yb,decide_eq_false_iff_not,Bool.not_true,Bool.not_false,Jc,w_ixU,w_ixL,w_setL,w_cxK,w_isI_ii,w_isI_ib,w_isI_bi,w_isI_bb,w_isI_ni,w_isI_nb,w_isI_si,w_isI_sb,sl_0,sl_1,sl_2,sl_3,sl_4,sl_5,sl_6,sl_7,sl_8,CPowB,w_shl1,at_0,at_1,at_2,at_3,ixN_0,ixN_1,ixN_2,upd_same,qJl,qJt,Int.reduceToNat,Int.reducePow,Int.reduceNeg,Int.reduceLT,Int.reduceLE,Int.reduceMod,Int.reduceMul,Int.reduceAdd,Int.reduceSub,Int.reduceDiv,Int.reduceEq,ite_true,ite_false,if_true,if_false,Bool.true_eq_false,zv,zI,xi,reduceCtorEq,false_and,and_false,not_false_eq_true,not_true_eq_false,exists_false,false_or,or_false,w_pop,w_extend,zAA,w_clear,w_cat,w_LZ,w_LR,w_forD,w_compZ2,w_sDPT,w_dpT,w_dIT,w_dgT,w_dnT,w_eqE,w_neE,w_revL,w_dget1,w_dget2,w_revT]))
local macro_rules | `(tactic| walk_at "o") => `(tactic| first | exact .inl rfl | exact .inr rfl | assumption)
section
variable {P:Program}{w:World}{K:zA}{mg:Str->Option Value}{base:Heap}
theorem ok_ppen (T:Txt K mg):Cal P w K mg base 1 "_law_pen" ["_law_script"] (spPPen K):=by
 have B:=T.bl;refine yc (T.t 16 _ rfl) sc_l_pen (fun vs H Q E h=>?_) (fun f cdv A outer s H vs Q E hr h=>?_)
 ·obtain⟨a,rfl,_⟩:=h;rfl
 obtain⟨a,rfl,q⟩:=h;refine⟨_,((@pss_one _ _ _ (@ps_ret _ _ _ _ (@pe_lst _ _ _ _ (@pa_cons _ _ _ _ _ pe_int (@pa_cons _ _ _ _ _ pe_int (@pa_cons _ _ _ _ _ (pv 0) pa_nil (by rfl)) (by rfl)) (by rfl)))))),?_⟩
 walk_at "S"
 try walk_at "WP"
 intro p hp;exact q p _ hp (zU hp _) (ppen_of (by decide) (by decide) (by decide))
theorem J2 (T:Txt K mg):Cal P w K mg base 1 "_law_pick" ["_law_pen_here","_law_many"] (spPick K):=by
 have B:=T.bl;refine yc (T.t 17 _ rfl) sc_l_pick (fun vs H Q E h=>?_) (fun f cdv A outer s H vs Q E hr h=>?_)
 ·obtain⟨p,a,ns,m,c,rfl,_⟩:=h;rfl
 obtain⟨p,a,ns,m,c_,rfl,hP,hS,h63,hc,h1,h2,q⟩:=h;refine⟨_,((@pss_cons _ _ _ _ _ (@ps_if _ _ _ _ _ _ _ _ (@pt_cmpR _ _ _ _ _ _ _ _ Jb (@pe_ix _ _ _ _ _ _ _ ix_M (pv 0) pe_int (fun _ _=>rfl)) pe_int (@nomark _ _ (by decide) (by decide))) (@pss_cons _ _ _ _ _ (@ps_set _ _ (2) _ _ _ _ sc_l_pick.nd rfl (by walk_at "o") (@pe_op _ _ _ _ _ _ _ _ op_mod (@pe_ix _ _ _ _ _ _ _ ix_M (pv 0) pe_int (fun _ _=>rfl)) (pv 1)) (by rfl) (by walk_at "o")) (@pss_cons _ _ _ _ _ (@J3 _ _ _ _ _ _ (@pe_op _ _ _ _ _ _ _ _ jO (@pe_ix _ _ _ _ _ _ _ ix_M (pv 0) pe_int (fun _ _=>rfl)) (pv 1)) (@pg_sub _ _ _ _ _ _ _ (pv 0) pe_int JI (by intro _ ;rfl)) (by rfl) (by rfl) (by rfl)) (@pss_one _ _ _ (@ps_ret _ _ _ _ (pv 2))))) pss_nil) (@pss_cons _ _ _ _ _ (@ps_set _ _ (3) _ _ _ _ sc_l_pick.nd rfl (by walk_at "o") (@pe_ix _ _ _ _ _ _ _ ix_M (pv 0) pe_int (fun _ _=>rfl)) (by rfl) (by walk_at "o")) (@pss_cons _ _ _ _ _ (@J3 _ _ _ _ _ _ (@pe_op _ _ _ _ _ _ _ _ op_add (pv 3) pe_int) (@pg_sub _ _ _ _ _ _ _ (pv 0) pe_int JI (by intro _ ;rfl)) (by rfl) (by rfl) (by rfl)) (@pss_cons _ _ _ _ _ (@ps_set _ _ (4) _ _ _ _ sc_l_pick.nd rfl (by walk_at "o") pe_int (by rfl) (by walk_at "o")) (@pss_mid _ _ _ _ _ (@ps_if _ _ _ _ _ _ _ _ (@pt_cmpR _ _ _ _ _ _ _ _ Jb (@pe_callB _ _ _ _ _ _ _ _ _ J6 rfl B.len bo_len (@pa_cons _ _ _ _ _ (@pe_ix _ _ _ _ _ _ _ ix_M (pv 0) pe_int (fun _ _=>rfl)) pa_nil (by rfl)) (by decide) (by decide) (by rfl) (by rfl)) pe_int (@nomark _ _ (by decide) (by decide))) (@pss_one _ _ _ (@ps_set _ _ (4) _ _ _ _ sc_l_pick.nd rfl (by walk_at "o") (@pe_ix _ _ _ _ _ _ _ ix_list (@pe_ix _ _ _ _ _ _ _ ix_M (pv 0) pe_int (fun _ _=>rfl)) (@pe_op _ _ _ _ _ _ _ _ op_mod (pv 3) (@pe_callB _ _ _ _ _ _ _ _ _ J6 rfl B.len bo_len (@pa_cons _ _ _ _ _ (@pe_ix _ _ _ _ _ _ _ ix_M (pv 0) pe_int (fun _ _=>rfl)) pa_nil (by rfl)) (by decide) (by decide) (by rfl) (by rfl))) (fun _ _=>rfl)) (by rfl) (by walk_at "o"))) pss_nil) (@pss_cons _ _ _ _ _ (@ps_if _ _ _ _ _ _ _ _ (@PW.pt _ _ _ (@pw_and _ _ _ _ _ _ _ (@pt_cmpR _ _ _ _ _ _ _ _ op_lt (pv 3) (@pe_callB _ _ _ _ _ _ _ _ _ J6 rfl B.len bo_len (@pa_cons _ _ _ _ _ (@pe_ix _ _ _ _ _ _ _ ix_M (pv 0) pe_int (fun _ _=>rfl)) pa_nil (by rfl)) (by decide) (by decide) (by rfl) (by rfl)) (@nomark _ _ (by decide) (by decide))) (@Jo _ _ _ _ (@pt_cmpR _ _ _ _ _ _ _ _ op_ge (@pe_callB _ _ _ _ _ _ _ _ _ call_abs rfl B.abs bo_abs (@pa_cons _ _ _ _ _ (pv 4) pa_nil (by rfl)) (by decide) (by decide) (by rfl) (by rfl)) (@pe_op _ _ _ _ _ _ _ _ op_powB pe_int pe_int) (@nomark _ _ (by decide) (by decide)))))) (@pss_cons _ _ _ _ _ (@J3 _ _ _ _ _ _ (@pe_op _ _ _ _ _ _ _ _ jO (@pe_callB _ _ _ _ _ _ _ _ _ call_abs rfl B.abs bo_abs (@pa_cons _ _ _ _ _ (pv 4) pa_nil (by rfl)) (by decide) (by decide) (by rfl) (by rfl)) (pv 1)) (@pg_sub _ _ _ _ _ _ _ (pv 0) pe_int JI (by intro _ ;rfl)) (by rfl) (by rfl) (by rfl)) (@pss_one _ _ _ (@ps_ret _ _ _ _ (@pe_op _ _ _ _ _ _ _ _ op_mod (@pe_callB _ _ _ _ _ _ _ _ _ call_abs rfl B.abs bo_abs (@pa_cons _ _ _ _ _ (pv 4) pa_nil (by rfl)) (by decide) (by decide) (by rfl) (by rfl)) (pv 1))))) pss_nil) (@pss_cons _ _ _ _ _ (@ps_set _ _ (5) _ _ _ _ sc_l_pick.nd rfl (by walk_at "o") (@pe_op _ _ _ _ _ _ _ _ op_mod (@pe_op _ _ _ _ _ _ _ _ jA (@pe_op _ _ _ _ _ _ _ _ op_add (@pe_op _ _ _ _ _ _ _ _ op_add (@pe_op _ _ _ _ _ _ _ _ op_mod (pv 4) pe_int) (@pe_op _ _ _ _ _ _ _ _ jA pe_int (pv 3))) pe_int) pe_int) pe_int) (by rfl) (by walk_at "o")) (@pss_cons _ _ _ _ _ (@ps_set _ _ (5) _ _ _ _ sc_l_pick.nd rfl (by walk_at "o") (@pe_op _ _ _ _ _ _ _ _ op_mod (@pe_op _ _ _ _ _ _ _ _ jA (pv 5) (@pe_op _ _ _ _ _ _ _ _ op_add (@pe_op _ _ _ _ _ _ _ _ op_add (@pe_op _ _ _ _ _ _ _ _ op_mod (pv 5) pe_int) (pv 3)) pe_int)) pe_int) (by rfl) (by walk_at "o")) (@pss_one _ _ _ (@ps_ret _ _ _ _ (@pe_op _ _ _ _ _ _ _ _ op_mod (@pe_op _ _ _ _ _ _ _ _ jO (pv 5) pe_int) (pv 1))))))))))))),?_⟩
 walk_at "S"
 obtain⟨t,l,hH,ht0,htc,hl⟩:=id hP
 (iterate 5 ((try (walk_at "WP"));(try (simp only[hH,qJs,qJt,qJl,qJd,exists_eq_left',exists_eq_left]))));(try (walk_at "WP"))
 refine yw (fun c=>?_) (fun c=>?_)
 ·exact⟨by omega,divB (by omega) h2,q _ _ (modq (by omega)).1 (modq (by omega)).2 (ppen_of ht0 (by omega) (divq hl (by omega))) (hS.ppen hP (Chg.upd _)) (Chg.upd _)⟩
 have hS1:=hS.ppen hP (Chg.upd (.lst [V.int l,V.int (t+1),V.ref a]));have hP1:PPen (upd H p (.lst [V.int l,V.int (t+1),V.ref a])) p a (c_+1):=ppen_of (by omega) (by omega) hl;have C1:Chg p H (upd H p (.lst [V.int l,V.int (t+1),V.ref a])):=Chg.upd _;have hp1:(upd H p (.lst [V.int l,V.int (t+1),V.ref a])) p=some (.lst [V.int l,V.int (t+1),V.ref a]):=upd_same;generalize upd H p (.lst [V.int l,V.int (t+1),V.ref a])=H1 at *;refine jP (fun σ H2=>∃(cell:Int) (o2 o5:Option V),σ=[some (.ref p),some (.int m),o2,some (.int t),some (.int cell),o5]/\H2=H1) (fun N hN=>?_) ?_
 ·(iterate 5 ((try (walk_at "WP"));(try (simp only[hp1,qJs,qJt,qJl,qJd,exists_eq_left',exists_eq_left]))));(try (walk_at "WP"))
  refine⟨_,hS1.sq,?_⟩;rw[qC];refine yw (fun z=>?_) (fun z=>hN _ _ ⟨_,_,_,rfl,rfl⟩);refine⟨_,hS1.sq,by rw[qC];omega,_,hS1.sq,?_⟩;rw[qC];have b:=modq (g:=t) (m:=(ns.length:Int)) (by omega);obtain⟨v,hv,_⟩:=atI_int (ns:=ns) b.1 b.2;exact⟨_,hv,hN _ _ ⟨v,_,_,rfl,rfl⟩⟩
 ·rintro σ H2 ⟨cell,o2,o5,rfl,rfl⟩
  (iterate 5 ((try (walk_at "WP"));(try (simp only[hp1,qJs,qJt,qJl,qJd,exists_eq_left',exists_eq_left]))));(try (walk_at "WP"))
  refine⟨_,hS1.sq,?_⟩;rw[qC];have h0:0<=(if cell<0 then -cell else cell):=by split<;>omega
  refine yw (fun _=>?_) (fun _=>?_)
  ·refine yw (fun _=>?_) (fun _=>?_)
   ·exact⟨divB (by omega) h2,by omega,q _ _ (modq (by omega)).1 (modq (by omega)).2 (ppen_of (by omega) (by omega) (divq h0 (by omega))) (hS1.ppen hP1 (Chg.upd _)) (C1.trans (Chg.upd _))⟩
   ·exact⟨mul_l (by decide) (by decide),mul_r (by decide) (by decide),mul_l (by omega) (by omega),divB (by decide) (by decide),by omega,q _ _ (modq (by omega)).1 (modq (by omega)).2 hP1 hS1 C1⟩
  ·exact⟨mul_l (by decide) (by decide),mul_r (by decide) (by decide),mul_l (by omega) (by omega),divB (by decide) (by decide),by omega,q _ _ (modq (by omega)).1 (modq (by omega)).2 hP1 hS1 C1⟩
theorem ok_refb (T:Txt K mg) {cst_TooMany:Addr} (mg_TooMany:mg "TooMany" = some (.ref cst_TooMany)) (xi_TooMany:PySem.W.excIn K cst_TooMany [.type "ValueError",.type "Exception",.type "BaseException",.type "object"] "ValueError.__new__" = true):CalX P w K mg base 1 "refuse_beyond" ["top","most"] (spRefB cst_TooMany):=by
 have B:=T.bl;obtain⟨_,mg_TOP_AT_MOST⟩:=T.i_TOP_AT_MOST;obtain⟨_,mg_DEEDS_AT_MOST⟩:=T.i_DEEDS_AT_MOST;obtain⟨_,mg_TOP_WITH_ALL_DEEDS⟩:=T.i_TOP_WITH_ALL_DEEDS;refine mkCalX (T.t 7 _ rfl) zAM (fun vs H Q E h=>?_) (fun f cdv A outer s H vs Q E hr h=>?_)
 ·obtain⟨_,_,rfl,_⟩:=h;rfl
 obtain⟨top,most,rfl,qN,qE⟩:=h;refine⟨_,((@pss_one _ _ _ (@ps_if _ _ _ _ _ _ _ _ (@PW.pt _ _ _ (@pw_or _ _ _ _ _ _ _ (@pt_cmpR _ _ _ _ _ _ _ _ Jb (pv 0) (@pe_glob _ _ (.int 99) _ _ rfl mg_TOP_AT_MOST ⟨_,rfl⟩ (by decide)) (@nomark _ _ (by decide) (by decide))) (@pw_or _ _ _ _ _ _ _ (@pt_cmpR _ _ _ _ _ _ _ _ Jb (pv 1) (@pe_glob _ _ (.int 4) _ _ rfl mg_DEEDS_AT_MOST ⟨_,rfl⟩ (by decide)) (@nomark _ _ (by decide) (by decide))) (@pw_or1 _ _ _ _ (@PW.pt _ _ _ (@pw_and _ _ _ _ _ _ _ (@pt_cmpR _ _ _ _ _ _ _ _ Jb (pv 0) (@pe_glob _ _ (.int 31) _ _ rfl mg_TOP_WITH_ALL_DEEDS ⟨_,rfl⟩ (by decide)) (@nomark _ _ (by decide) (by decide))) (@Jo _ _ _ _ (@pt_cmpR _ _ _ _ _ _ _ _ Jb (pv 1) (@pe_op _ _ _ _ _ _ _ _ JH (@pe_glob _ _ (.int 4) _ _ rfl mg_DEEDS_AT_MOST ⟨_,rfl⟩ (by decide)) pe_int) (@nomark _ _ (by decide) (by decide)))))))))) (@pss_one _ _ _ (@ps_raise _ _ _ (cst_TooMany) _ _ _ _ _ _ _ _ _ _ raises_of xi_TooMany PySem.F.excBase_ValueError rfl (fun _ z=>nomatch z) rfl mg_TooMany (@pa_cons _ _ _ _ _ pe_str pa_nil (by rfl)) (by decide) (by rfl) (by rfl))) pss_nil))),?_⟩
 walk_at "S"
 try walk_at "WP"
 have far:farB top most->tRaise E cst_TooMany (tCons (tC (V.str (Str.ofString "more than can be gone through"))) tNil) { nx:=fun x H'=>Q V.non H',rt:=Q } [some (V.int top),some (V.int most)] H:=fun hf=>by
  rw[w_raise]
  try walk_at "WP"
  exact qE hf
 refine yw (fun z=>far (.inl z)) (fun z=>?_);refine yw (fun z2=>far (.inr (.inl z2))) (fun z2=>?_);refine yw (fun z3=>?_) (fun z3=>qN (fun hf=>by rcases hf with y|y|y<;>omega));refine yw (fun z4=>far (.inr (.inr ⟨z3,by omega⟩))) (fun z4=>qN (fun hf=>by rcases hf with y|y|y<;>omega))
theorem ok_core (T:Txt K mg):Cal P w K mg base 1 "core" ["number"] spCoreT:=by
 have B:=T.bl;refine yc (T.t 1 _ rfl) sc_core (fun vs H Q E h=>?_) (fun f cdv A outer s H vs Q E hr h=>?_)
 ·obtain⟨n,rfl,_⟩:=h;rfl
 obtain⟨n,rfl,q0⟩:=h;have q:∀p,H p=none->Q (.ref p) (upd H p (.tup ((JA n).map V.int))):=fun p hp=>by
  rw[core_three];exact q0 p hp
 refine⟨_,((@pss_cons _ _ _ _ _ (@ps_if _ _ _ _ _ _ _ _ (@pt_cmpR _ _ _ _ _ _ _ _ op_eq (pv 0) pe_int (@nomark _ _ (by decide) (by decide))) (@pss_one _ _ _ (@ps_ret _ _ _ _ (@pe_tup _ _ _ _ _ (@pa_cons _ _ _ _ _ pe_int (@pa_cons _ _ _ _ _ pe_int (@pa_cons _ _ _ _ _ pe_int pa_nil (by rfl)) (by rfl)) (by rfl))))) pss_nil) (@pss_cons _ _ _ _ _ (@ps_set _ _ (1) _ _ _ _ sc_core.nd rfl (by walk_at "o") (@pe_callB _ _ _ _ _ _ _ _ _ call_abs rfl B.abs bo_abs (@pa_cons _ _ _ _ _ (pv 0) pa_nil (by rfl)) (by decide) (by decide) (by rfl) (by rfl)) (by rfl) (by walk_at "o")) (@pss_cons _ _ _ _ _ (@ps_set _ _ (2) _ _ _ _ sc_core.nd rfl (by walk_at "o") (@pe_op _ _ _ _ _ _ _ _ JH (@pe_bm0 _ _ _ _ _ _ _ _ _ PySem.F.plainAttrs_int PyProof.Rows.slot_int_bit_length PyProof.Rows.type_int_bit_length mt_bits (@pe_op _ _ _ _ _ _ _ _ op_and (pv 1) (@JG _ _ _ _ _ _ jN (pv 1))) (by rfl) (by rfl)) pe_int) (by rfl) (by walk_at "o")) (@pss_cons _ _ _ _ _ (@ps_set _ _ (3) _ _ _ _ sc_core.nd rfl (by walk_at "o") (@pe_ifExp _ _ _ _ _ _ _ _ (@pt_cmpR _ _ _ _ _ _ _ _ Jb (pv 0) pe_int (@nomark _ _ (by decide) (by decide))) pe_int (@JG _ _ _ _ _ _ jN pe_int)) (by rfl) (by walk_at "o")) (@pss_one _ _ _ (@ps_ret _ _ _ _ (@pe_tup _ _ _ _ _ (@pa_cons _ _ _ _ _ (@pe_op _ _ _ _ _ _ _ _ op_shr (pv 1) (pv 2)) (@pa_cons _ _ _ _ _ (pv 2) (@pa_cons _ _ _ _ _ (pv 3) pa_nil (by rfl)) (by rfl)) (by rfl)))))))))),?_⟩
 walk_at "S"
 try walk_at "WP"
 refine yw (fun c=>?_) (fun c=>?_)
 ·intro p hp;have:=q p hp;rw[show JA n=[0,0,0] by unfold JA;rw[if_pos c]]at this;exact this
 ·obtain⟨m,k,e1,e2⟩:=J8 c;have el:lowK n=(k:Int):=by
   unfold JA at e2;rw[if_neg c]at e2;simp only[List.cons.injEq]at e2;exact e2.2.1
  have e3:JA n=[absI n/2^(lowK n).toNat,lowK n,if 0<n then 1 else -1]:=by unfold JA;rw[if_neg c]
  rw[e3]at q;have ge:0<=lowK n:=by omega
  refine yw (fun d=>?_) (fun d=>?_)
  ·rw[if_pos d]at q;exact⟨ge,q⟩
  ·rw[if_neg d]at q;exact⟨ge,q⟩
theorem ok_dbl (T:Txt K mg):Cal P w K mg base 1 "doublings" ["odd","top"] spDbl:=by
 have B:=T.bl;refine yc (T.t 4 _ rfl) sc_doublings (fun vs H Q E h=>?_) (fun f cdv A outer s H vs Q E hr h=>?_)
 ·obtain⟨_,_,rfl,_⟩:=h;rfl
 obtain⟨l,top,rfl,l1,l2,hb,q⟩:=h;refine⟨_,((@pss_cons _ _ _ _ _ (@ps_set _ _ (2) _ _ _ _ sc_doublings.nd rfl (by walk_at "o") (@pe_lst _ _ _ _ (@pa_cons _ _ _ _ _ (pv 0) pa_nil (by rfl))) (by rfl) (by walk_at "o")) (@pss_cons _ _ _ _ _ (@ps_whl _ _ _ _ _ _ PassesOwn.never (@pt_cmpR _ _ _ _ _ _ _ _ op_le (@pe_ix _ _ _ _ _ _ _ ix_M (pv 2) (@JG _ _ _ _ _ _ jN pe_int) (fun _ _=>rfl)) (pv 1) (@nomark _ _ (by decide) (by decide))) (@pss_one _ _ _ (@xp _ _ _ _ (@pe_bm _ _ _ _ _ _ _ _ _ _ _ _ yB yo yn xj (pv 2) (@pa_cons _ _ _ _ _ (@pe_op _ _ _ _ _ _ _ _ jA pe_int (@pe_ix _ _ _ _ _ _ _ ix_M (pv 2) (@JG _ _ _ _ _ _ jN pe_int) (fun _ _=>rfl))) pa_nil (by rfl)) (by rfl) (by rfl) (by rfl) (by rfl) (by rfl)) (by rfl)))) (@pss_one _ _ _ (@ps_ret _ _ _ _ (pv 2)))))),?_⟩
 walk_at "S"
 try walk_at "WP"
 intro r nr;have s1:=zU nr (.lst [V.int l]);refine whl (fun m σ H2=>∃(pre:List Int) (x:Int),σ=[some (.int l),some (.int top),some (.ref r)]/\Same H H2/\H2 r=some (.lst ((pre++[x]).map V.int))/\dbl l top 7=pre++dbl x top m/\1<=x/\top<x*2^m/\pre.length+m=7) 7 ⟨[],l,rfl,s1,upd_same,rfl,l1,hb,rfl⟩ ?_;rintro m σ H2 N ⟨pre,x,rfl,s2,hr2,e2,x1,xb,pl⟩ hN;have hat:atI ((pre++[x]).map V.int) (-1)=some (.int x):=by
  obtain⟨d,_,h1,h2⟩:=atI_m1 (ds:=pre++[x]) (by simp);rw[List.getLast?_append]at h2;simp at h2;rw[h1,h2]
 (iterate 5 ((try (walk_at "WP"));(try (simp only[hr2,hat,qJs,qJt,qJl,qJd,exists_eq_left',exists_eq_left]))));(try (walk_at "WP"))
 refine yw (fun z=>?_) (fun z=>?_)
 ·cases m with
  |zero=>rw[yq,yW]at xb;omega
  |succ m =>
   refine⟨jB hr2,mul_l (by decide) (by decide),by rw[qC,qF];exact jb (by simp;omega),hN m _ _ (by omega) ⟨pre++[x],2*x,rfl,yE nr s2,?_,?_,by omega,?_,by simp;omega⟩⟩
   ·rw[upd_same,z9 (l₁:=pre++[x])];rfl
   ·rw[e2,dbl,if_pos z,zP];rfl
   ·rw[y4]at xb;rw[Int.mul_comm 2 x,yY,Int.mul_comm 2];exact xb
 ·have e3:dbl x top m=[x]:=by
   cases m with
   |zero=>rfl
   |succ m=>rw[dbl,if_neg z]
  rw[e3]at e2;rw[<-e2]at hr2;exact q r H2 nr s2 hr2
theorem ok_coresD (T:Txt K mg):Cal P w K mg base 2 "cores_of" ["numbers"] spCoresD:=by
 have B:=T.bl;have C_core:=ok_core (P:=P) (w:=w) (base:=base) T;refine yc (T.t 5 _ rfl) zAU (fun vs H Q E h=>?_) (fun f cdv A outer s H vs Q E hr h=>?_)
 ·obtain⟨_,_,_,rfl,_⟩:=h;rfl
 obtain⟨a,o,ks,rfl,ha,hl,q⟩:=h;refine⟨_,((@pss_one _ _ _ (@ps_ret _ _ _ _ (@pe_compC _ _ _ _ _ _ _ _ (["number"]) (1) ([]) _ _ _ rfl (@pi_dict _ _ _ _ (pv 0)) (fun nd C s H fp=>⟨(@pg_name _ _ (0) _ nd rfl (by walk_at "o") (by walk_at "o")),xB,(@pe_ix _ _ _ _ _ _ _ ix_U (@pe_cal _ _ _ _ _ _ _ _ _ _ C_core hr rfl (@pa_cons _ _ _ _ _ (pv 0) pa_nil (by rfl)) (by decide) (by rfl) (by rfl)) pe_int (fun _ _=>rfl))⟩) (by decide +kernel) (by first|rfl|decide +kernel) (by first|rfl|decide +kernel) rfl (fun _=>rfl))))),?_⟩
 walk_at "S"
 (iterate 5 ((try (walk_at "WP"));(try (simp only[w_compD,qJs,qJt,qJl,qJd,exists_eq_left',exists_eq_left]))));(try (walk_at "WP"))
 refine⟨o,_,ha,?_⟩;have hI:=fun H'=>it_D ha (H':=H');rw[ukv_keys]at hI;refine comp_new coV (by rw[qC];exact xI (by omega)) hI (fun x H' R hx hS' hR=>?_) (fun acc H' hacc sm hac=>?_)
 ·obtain⟨n,hn,rfl⟩:=qP.mp hx
  try walk_at "WP"
  refine⟨n,rfl,fun p hp=>?_⟩;have hpp:upd H' p (.tup [V.int (coreN n),V.int (shN n),V.int (sgN n)]) p=some (.tup [V.int (coreN n),V.int (shN n),V.int (sgN n)]):=upd_same;have sp:=zU hp (.tup [V.int (coreN n),V.int (shN n),V.int (sgN n)]);generalize upd H' p (.tup [V.int (coreN n),V.int (shN n),V.int (sgN n)])=H2 at hpp sp ⊢
  (iterate 5 ((try (walk_at "WP"));(try (simp only[hpp,qJs,qJt,qJl,qJd,exists_eq_left',exists_eq_left]))));(try (walk_at "WP"))
  exact hR _ sp
 rw[coV_map]at hac;exact q acc H' hacc sm hac
theorem ok_made (T:Txt K mg):Cal P w K mg base 3 "made" ["cores","top"] spMade:=by
 have B:=T.bl;have C_cores_of:=ok_coresD (P:=P) (w:=w) (base:=base) T;have C_doublings:=(ok_dbl (P:=P) (w:=w) (base:=base) T).mono (k:=2) (by decide);refine yc (T.t 3 _ rfl) sc_made (fun vs H Q E h=>?_) (fun f cdv A outer s H vs Q E hr h=>?_)
 ·obtain⟨_,_,_,rfl,_⟩:=h;rfl
 obtain⟨a,xs,top,rfl,ha,O,t1,t2,hl,q⟩:=h;have big:∀l∈xs,top<l*2^7:=fun l hl=>by
  have:=O.lo l hl;have e:(2:Int)^7=128:=by decide
  rw[e];omega
 refine⟨_,((@pss_cons _ _ _ _ _ (@ps_set _ _ (2) _ _ _ _ sc_made.nd rfl (by walk_at "o") pe_dnewK (by rfl) (by walk_at "o")) (@pss_cons _ _ _ _ _ (@ps_for _ _ _ _ _ _ _ _ PassesOwn.never rfl (@pi_list _ _ _ _ (pv 0)) (@pg_name _ _ (3) _ sc_made.nd rfl (by walk_at "o") (by walk_at "o")) (@pss_one _ _ _ (@ps_for _ _ _ _ _ _ _ _ PassesOwn.never rfl (@pi_list _ _ _ _ (@pe_cal _ _ _ _ _ _ _ _ _ _ C_doublings hr rfl (@pa_cons _ _ _ _ _ (pv 3) (@pa_cons _ _ _ _ _ (pv 1) pa_nil (by rfl)) (by rfl)) (by decide) (by rfl) (by rfl))) (@pg_name _ _ (4) _ sc_made.nd rfl (by walk_at "o") (by walk_at "o")) (@pss_one _ _ _ (@ps_for _ _ _ _ _ _ _ _ PassesOwn.never rfl (@pi_list _ _ _ _ (pv 0)) (@pg_name _ _ (5) _ sc_made.nd rfl (by walk_at "o") (by walk_at "o")) (@pss_cons _ _ _ _ _ (@ps_dpM _ _ _ _ _ _ _ _ _ (@hu_of _ _ hr) (pv 2) (@pe_op _ _ _ _ _ _ _ _ op_add (pv 4) (pv 5)) pe_bl rfl) (@pss_one _ _ _ (@ps_dpM _ _ _ _ _ _ _ _ _ (@hu_of _ _ hr) (pv 2) (@pe_op _ _ _ _ _ _ _ _ JH (pv 4) (pv 5)) pe_bl rfl))) (by intro _ ;rfl))) (by intro _ ;rfl))) (by intro _ ;rfl)) (@pss_one _ _ _ (@ps_ret _ _ _ _ (@pe_callB _ _ _ _ _ _ _ _ _ (@call_sortW _ w rfl (by rfl)) rfl B.sorted bo_sorted (@pa_cons _ _ _ _ _ (@pe_callTy _ _ _ _ _ _ _ _ _ (@JY _ w rfl (by rfl)) rfl B.set bo_set (@pa_cons _ _ _ _ _ (@pe_compC _ _ _ _ _ _ _ _ (["odd","top"]) (1) ([1]) _ _ _ rfl (@pi_list _ _ _ _ (@pe_cal _ _ _ _ _ _ _ _ _ _ C_cores_of hr rfl (@pa_cons _ _ _ _ _ (@pe_frz _ _ _ (pv 2)) pa_nil (by rfl)) (by decide) (by rfl) (by rfl))) (fun nd C s H fp=>⟨(@pg_name _ _ (0) _ nd rfl (by walk_at "o") (by walk_at "o")),(@xk _ _ _ (@pt_chain _ _ _ _ _ _ _ _ _ _ _ _ op_lt op_le pe_int (pv 0) (pv 1) (by with_unfolding_all rfl))),(pv 0)⟩) (by decide +kernel) (by first|rfl|decide +kernel) (by first|rfl|decide +kernel) rfl (fun _=>rfl)) pa_nil (by rfl)) (by decide) (by decide) (by rfl) (by rfl)) pa_nil (by rfl)) (by decide) (by decide) (by rfl) (by rfl))))))),?_⟩
 walk_at "S"
 try walk_at "WP"
 intro d nd;have smd:=zU nd (.dK []);have ad:a≠d:=ne_of_none ha nd;refine⟨⟨_,SqL.of (smd _ _ ha)⟩,?_⟩;refine forL (xs:=xs.map V.int) (fun i σ H1=>∃(o3 o4 o5:Option V),σ=[some (.ref a),some (.int top),some (.ref d),o3,o4,o5]/\Same H H1/\H1 d=some (.dK (ukv (ded (jX xs top i))))) ⟨_,_,_,rfl,smd,by rw[upd_same];rfl⟩ ?_ ?_ ?_
 ·rintro i σ H1 _ ⟨_,_,_,_,s1,_⟩;exact SqL.of (s1 _ _ ha)
 ·rintro i y σ H1 N hy ⟨o3,o4,o5,rfl,s1,hd1⟩ hN;obtain⟨l,hx,rfl⟩:=j6 hy;have lm:=qE hx;have l1:=O.lo l lm;have l2:=O.hi l lm
  try walk_at "WP"
  refine⟨l,top,rfl,l1,by omega,big l lm,fun r H2 nr s2 hr2=>?_⟩;have rd:r≠d:=fun e=>by rw[e,hd1]at nr;cases nr
  have hd2:=s2 _ _ hd1
  try walk_at "WP"
  refine⟨⟨_,SqL.of hr2⟩,?_⟩;have nr0:H r=none:=s1.free nr;refine forL (xs:=(dbl l top 7).map V.int) (fun j σ H3=>∃(o4 o5:Option V),σ=[some (.ref a),some (.int top),some (.ref d),some (.int l),o4,o5]/\Same H H3/\H3 r=some (.lst ((dbl l top 7).map V.int))/\H3 d=some (.dK (ukv (ded (jX xs top i++((dbl l top 7).take j).flatMap (pm xs)))))) ⟨_,_,rfl,s1.trans s2,hr2,by rw[hd2];simp⟩ ?_ ?_ ?_
  ·rintro j σ H3 _ ⟨_,_,_,s3,hr3,_⟩;exact SqL.of hr3
  ·rintro j y σ H3 N2 hy ⟨o4,o5,rfl,s3,hr3,hd3⟩ hN2;obtain⟨g,hg,rfl⟩:=j6 hy;have gm:=qE hg
   try walk_at "WP"
   refine⟨⟨_,SqL.of (s3 _ _ ha)⟩,?_⟩;refine forL (xs:=xs.map V.int) (fun k σ H4=>∃(o5:Option V),σ=[some (.ref a),some (.int top),some (.ref d),some (.int l),some (.int g),o5]/\Same H H4/\H4 r=some (.lst ((dbl l top 7).map V.int))/\H4 d=some (.dK (ukv (ded (jX xs top i++((dbl l top 7).take j).flatMap (pm xs)++pm (xs.take k) g))))) ⟨_,rfl,s3,hr3,by rw[hd3];simp[pm]⟩ ?_ ?_ ?_
   ·rintro k σ H4 _ ⟨_,_,s4,_⟩;exact SqL.of (s4 _ _ ha)
   ·rintro k y σ H4 N3 hy ⟨o5,rfl,s4,hr4,hd4⟩ hN3;obtain⟨x,hx2,rfl⟩:=j6 hy;have xm:=qE hx2;have bd:=sumsT_len O t2 hx hg (k:=k);have bd2:=zAc O t2 hx hg hx2
    try walk_at "WP"
    refine⟨_,hd4,by rw[ukv_len];exact jb (by omega),?_⟩;rw[ukv_put,<-jS];refine⟨by rw[ukv_len];exact jb (by omega),?_⟩;rw[ukv_put,<-jS];refine hN3 _ _ ⟨_,rfl,yE nd (yE nd s4),by rw[yL rd,yL rd];exact hr4,?_⟩;rw[upd_same,pm_snoc hx2];simp only[zP];rfl
   ·rintro σ H4 ⟨o5,rfl,s4,hr4,hd4⟩;rw[qC,zn]at hd4;refine hN2 _ _ ⟨_,_,rfl,s4,hr4,?_⟩;rw[hd4,zq,hg,List.flatMap_append,zP];simp
  ·rintro σ H3 ⟨o4,o5,rfl,s3,hr3,hd3⟩;rw[qC,zn]at hd3;refine hN _ _ ⟨_,_,_,rfl,s3,?_⟩;rw[hd3,zAb hx]
 ·rintro σ H1 ⟨o3,o4,o5,rfl,s1,hd1⟩;rw[qC,sumsT_all]at hd1
  (iterate 5 ((try (walk_at "WP"));(try (simp only[w_frz,qJs,qJt,qJl,qJd,exists_eq_left',exists_eq_left]))));(try (walk_at "WP"))
  refine⟨_,hd1,fun o=>⟨d,o,ded (sumsL xs top),rfl,upd_same,zL (jF O t2) (by decide),fun c H2 nc s2 hc2=>?_⟩⟩;have e2:=(yE nd s1).trans s2
  try walk_at "WP"
  refine⟨⟨_,SqL.of hc2⟩,?_⟩;refine JN (f:=inT top) (SqL.of hc2) (by simp only[qC];exact xI (zL (jF O t2) (by decide))) (fun y H' R hy hS' hR=>?_) (fun acc hacc=>?_)
  ·obtain⟨n,hn,rfl⟩:=qP.mp hy;rw[show yF [1] [some (V.ref a),some (V.int top),some (V.ref d),o3,o4,o5]=[some (V.int top)] from rfl]
   try walk_at "WP"
   rw[inT_int]at hR;refine yw (fun z=>?_) (fun z=>?_)
   ·refine yw (fun z2=>?_) (fun z2=>?_)
    ·rw[if_pos ⟨z,z2⟩]at hR;exact hR
    ·rw[if_neg (fun h=>z2 h.2)]at hR;exact hR
   ·rw[if_neg (fun h=>z h.1)]at hR;exact hR
  rw[inT_map];have s3:=zU hacc (.lst ((((ded (sumsL xs top)).map coreN).filter fun c=>decide (0<c/\c<=top)).map V.int));refine⟨acc,_,rfl,upd_same,?_,fun b nb=>?_⟩
  ·have h1:=yh (fun c=>decide (0<c/\c<=top)) ((ded (sumsL xs top)).map coreN);have h2:=jF O t2;rw[qC]at h1;omega
  have s4:=zU nb (SetE w b ((((ded (sumsL xs top)).map coreN).filter fun c=>decide (0<c/\c<=top)).foldl PyProof.Rows.step_dedup []))
  try walk_at "WP"
  refine⟨b,ded (((ded (sumsL xs top)).map coreN).filter fun c=>decide (0<c/\c<=top)),rfl,upd_same,fil_len O t2,fun l2 n2=>?_⟩;exact q l2 _ (((e2.trans s3).trans s4).free n2) (((e2.trans s3).trans s4).trans (zU n2 _)) upd_same
theorem ok_madeT (T:Txt K mg):Cal P w K mg base 3 "made" ["cores","top"] (spMadeT K):=by
 have B:=T.bl;have C_cores_of:=ok_coresD (P:=P) (w:=w) (base:=base) T;have C_doublings:=(ok_dbl (P:=P) (w:=w) (base:=base) T).mono (k:=2) (by decide);refine yc (T.t 3 _ rfl) sc_made (fun vs H Q E h=>?_) (fun f cdv A outer s H vs Q E hr h=>?_)
 ·obtain⟨_,_,_,rfl,_⟩:=h;rfl
 obtain⟨a,xs,top,rfl,ha,O,t1,t2,hl,q⟩:=h;have big:∀l∈xs,top<l*2^7:=fun l hl=>by
  have:=O.lo l hl;have e:(2:Int)^7=128:=by decide
  rw[e];omega
 refine⟨_,((@pss_cons _ _ _ _ _ (@ps_set _ _ (2) _ _ _ _ sc_made.nd rfl (by walk_at "o") pe_dnewK (by rfl) (by walk_at "o")) (@pss_cons _ _ _ _ _ (@ps_for _ _ _ _ _ _ _ _ PassesOwn.never rfl (@pi_tup _ _ _ _ (pv 0)) (@pg_name _ _ (3) _ sc_made.nd rfl (by walk_at "o") (by walk_at "o")) (@pss_one _ _ _ (@ps_for _ _ _ _ _ _ _ _ PassesOwn.never rfl (@pi_list _ _ _ _ (@pe_cal _ _ _ _ _ _ _ _ _ _ C_doublings hr rfl (@pa_cons _ _ _ _ _ (pv 3) (@pa_cons _ _ _ _ _ (pv 1) pa_nil (by rfl)) (by rfl)) (by decide) (by rfl) (by rfl))) (@pg_name _ _ (4) _ sc_made.nd rfl (by walk_at "o") (by walk_at "o")) (@pss_one _ _ _ (@ps_for _ _ _ _ _ _ _ _ PassesOwn.never rfl (@pi_tup _ _ _ _ (pv 0)) (@pg_name _ _ (5) _ sc_made.nd rfl (by walk_at "o") (by walk_at "o")) (@pss_cons _ _ _ _ _ (@ps_dpM _ _ _ _ _ _ _ _ _ (@hu_of _ _ hr) (pv 2) (@pe_op _ _ _ _ _ _ _ _ op_add (pv 4) (pv 5)) pe_bl rfl) (@pss_one _ _ _ (@ps_dpM _ _ _ _ _ _ _ _ _ (@hu_of _ _ hr) (pv 2) (@pe_op _ _ _ _ _ _ _ _ JH (pv 4) (pv 5)) pe_bl rfl))) (by intro _ ;rfl))) (by intro _ ;rfl))) (by intro _ ;rfl)) (@pss_one _ _ _ (@ps_ret _ _ _ _ (@pe_callB _ _ _ _ _ _ _ _ _ (@call_sortW _ w rfl (by rfl)) rfl B.sorted bo_sorted (@pa_cons _ _ _ _ _ (@pe_callTy _ _ _ _ _ _ _ _ _ (@JY _ w rfl (by rfl)) rfl B.set bo_set (@pa_cons _ _ _ _ _ (@pe_compC _ _ _ _ _ _ _ _ (["odd","top"]) (1) ([1]) _ _ _ rfl (@pi_list _ _ _ _ (@pe_cal _ _ _ _ _ _ _ _ _ _ C_cores_of hr rfl (@pa_cons _ _ _ _ _ (@pe_frz _ _ _ (pv 2)) pa_nil (by rfl)) (by decide) (by rfl) (by rfl))) (fun nd C s H fp=>⟨(@pg_name _ _ (0) _ nd rfl (by walk_at "o") (by walk_at "o")),(@xk _ _ _ (@pt_chain _ _ _ _ _ _ _ _ _ _ _ _ op_lt op_le pe_int (pv 0) (pv 1) (by with_unfolding_all rfl))),(pv 0)⟩) (by decide +kernel) (by first|rfl|decide +kernel) (by first|rfl|decide +kernel) rfl (fun _=>rfl)) pa_nil (by rfl)) (by decide) (by decide) (by rfl) (by rfl)) pa_nil (by rfl)) (by decide) (by decide) (by rfl) (by rfl))))))),?_⟩
 walk_at "S"
 try walk_at "WP"
 intro d nd;have smd:=zU nd (.dK []);refine⟨⟨_,smd.seqT ha⟩,?_⟩;refine forT (xs:=xs.map V.int) (fun i σ H1=>∃(o3 o4 o5:Option V),σ=[some (.ref a),some (.int top),some (.ref d),o3,o4,o5]/\Same H H1/\H1 d=some (.dK (ukv (ded (jX xs top i))))) ⟨_,_,_,rfl,smd,by rw[upd_same];rfl⟩ ?_ ?_ ?_
 ·rintro i σ H1 _ ⟨_,_,_,_,s1,_⟩;exact s1.seqT ha
 ·rintro i y σ H1 N hy ⟨o3,o4,o5,rfl,s1,hd1⟩ hN;obtain⟨l,hx,rfl⟩:=j6 hy;have lm:=qE hx;have l1:=O.lo l lm;have l2:=O.hi l lm
  try walk_at "WP"
  refine⟨l,top,rfl,l1,by omega,big l lm,fun r H2 nr s2 hr2=>?_⟩;have rd:r≠d:=fun e=>by rw[e,hd1]at nr;cases nr
  have hd2:=s2 _ _ hd1
  try walk_at "WP"
  refine⟨⟨_,SqL.of hr2⟩,?_⟩;have nr0:H r=none:=s1.free nr;refine forL (xs:=(dbl l top 7).map V.int) (fun j σ H3=>∃(o4 o5:Option V),σ=[some (.ref a),some (.int top),some (.ref d),some (.int l),o4,o5]/\Same H H3/\H3 r=some (.lst ((dbl l top 7).map V.int))/\H3 d=some (.dK (ukv (ded (jX xs top i++((dbl l top 7).take j).flatMap (pm xs)))))) ⟨_,_,rfl,s1.trans s2,hr2,by rw[hd2];simp⟩ ?_ ?_ ?_
  ·rintro j σ H3 _ ⟨_,_,_,s3,hr3,_⟩;exact SqL.of hr3
  ·rintro j y σ H3 N2 hy ⟨o4,o5,rfl,s3,hr3,hd3⟩ hN2;obtain⟨g,hg,rfl⟩:=j6 hy;have gm:=qE hg
   try walk_at "WP"
   refine⟨⟨_,s3.seqT ha⟩,?_⟩;refine forT (xs:=xs.map V.int) (fun k σ H4=>∃(o5:Option V),σ=[some (.ref a),some (.int top),some (.ref d),some (.int l),some (.int g),o5]/\Same H H4/\H4 r=some (.lst ((dbl l top 7).map V.int))/\H4 d=some (.dK (ukv (ded (jX xs top i++((dbl l top 7).take j).flatMap (pm xs)++pm (xs.take k) g))))) ⟨_,rfl,s3,hr3,by rw[hd3];simp[pm]⟩ ?_ ?_ ?_
   ·rintro k σ H4 _ ⟨_,_,s4,_⟩;exact s4.seqT ha
   ·rintro k y σ H4 N3 hy ⟨o5,rfl,s4,hr4,hd4⟩ hN3;obtain⟨x,hx2,rfl⟩:=j6 hy;have xm:=qE hx2;have bd:=sumsT_len O t2 hx hg (k:=k);have bd2:=zAc O t2 hx hg hx2
    try walk_at "WP"
    refine⟨_,hd4,by rw[ukv_len];exact jb (by omega),?_⟩;rw[ukv_put,<-jS];refine⟨by rw[ukv_len];exact jb (by omega),?_⟩;rw[ukv_put,<-jS];refine hN3 _ _ ⟨_,rfl,yE nd (yE nd s4),by rw[yL rd,yL rd];exact hr4,?_⟩;rw[upd_same,pm_snoc hx2];simp only[zP];rfl
   ·rintro σ H4 ⟨o5,rfl,s4,hr4,hd4⟩;rw[qC,zn]at hd4;refine hN2 _ _ ⟨_,_,rfl,s4,hr4,?_⟩;rw[hd4,zq,hg,List.flatMap_append,zP];simp
  ·rintro σ H3 ⟨o4,o5,rfl,s3,hr3,hd3⟩;rw[qC,zn]at hd3;refine hN _ _ ⟨_,_,_,rfl,s3,?_⟩;rw[hd3,zAb hx]
 ·rintro σ H1 ⟨o3,o4,o5,rfl,s1,hd1⟩;rw[qC,sumsT_all]at hd1
  (iterate 5 ((try (walk_at "WP"));(try (simp only[w_frz,qJs,qJt,qJl,qJd,exists_eq_left',exists_eq_left]))));(try (walk_at "WP"))
  refine⟨_,hd1,fun o=>⟨d,o,ded (sumsL xs top),rfl,upd_same,zL (jF O t2) (by decide),fun c H2 nc s2 hc2=>?_⟩⟩;have e2:=(yE nd s1).trans s2
  try walk_at "WP"
  refine⟨⟨_,SqL.of hc2⟩,?_⟩;refine JN (f:=inT top) (SqL.of hc2) (by simp only[qC];exact xI (zL (jF O t2) (by decide))) (fun y H' R hy hS' hR=>?_) (fun acc hacc=>?_)
  ·obtain⟨n,hn,rfl⟩:=qP.mp hy;rw[show yF [1] [some (V.ref a),some (V.int top),some (V.ref d),o3,o4,o5]=[some (V.int top)] from rfl]
   try walk_at "WP"
   rw[inT_int]at hR;refine yw (fun z=>?_) (fun z=>?_)
   ·refine yw (fun z2=>?_) (fun z2=>?_)
    ·rw[if_pos ⟨z,z2⟩]at hR;exact hR
    ·rw[if_neg (fun h=>z2 h.2)]at hR;exact hR
   ·rw[if_neg (fun h=>z h.1)]at hR;exact hR
  rw[inT_map];have s3:=zU hacc (.lst ((((ded (sumsL xs top)).map coreN).filter fun c=>decide (0<c/\c<=top)).map V.int));refine⟨acc,_,rfl,upd_same,?_,fun b nb=>?_⟩
  ·have h1:=yh (fun c=>decide (0<c/\c<=top)) ((ded (sumsL xs top)).map coreN);have h2:=jF O t2;rw[qC]at h1;omega
  have s4:=zU nb (SetE w b ((((ded (sumsL xs top)).map coreN).filter fun c=>decide (0<c/\c<=top)).foldl PyProof.Rows.step_dedup []))
  try walk_at "WP"
  refine⟨b,ded (((ded (sumsL xs top)).map coreN).filter fun c=>decide (0<c/\c<=top)),rfl,upd_same,fil_len O t2,fun l2 n2=>?_⟩;exact q l2 _ (((e2.trans s3).trans s4).free n2) (((e2.trans s3).trans s4).trans (zU n2 _)) upd_same
theorem ok_coresL (T:Txt K mg):Cal P w K mg base 2 "cores_of" ["numbers"] spCores:=by
 have B:=T.bl;have C_core:=ok_core (P:=P) (w:=w) (base:=base) T;refine yc (T.t 5 _ rfl) zAU (fun vs H Q E h=>?_) (fun f cdv A outer s H vs Q E hr h=>?_)
 ·obtain⟨a,xs,rfl,_⟩:=h;rfl
 obtain⟨a,xs,rfl,ha,hl,q⟩:=h;refine⟨_,((@pss_one _ _ _ (@ps_ret _ _ _ _ (@pe_compC _ _ _ _ _ _ _ _ (["number"]) (1) ([]) _ _ _ rfl (@pi_list _ _ _ _ (pv 0)) (fun nd C s H fp=>⟨(@pg_name _ _ (0) _ nd rfl (by walk_at "o") (by walk_at "o")),xB,(@pe_ix _ _ _ _ _ _ _ ix_U (@pe_cal _ _ _ _ _ _ _ _ _ _ C_core hr rfl (@pa_cons _ _ _ _ _ (pv 0) pa_nil (by rfl)) (by decide) (by rfl) (by rfl)) pe_int (fun _ _=>rfl))⟩) (by decide +kernel) (by first|rfl|decide +kernel) (by first|rfl|decide +kernel) rfl (fun _=>rfl))))),?_⟩
 walk_at "S"
 try walk_at "WP"
 refine⟨⟨_,SqL.of ha⟩,?_⟩;refine comp_newL (SqL.of ha) (by rw[qC];exact xI (by omega)) coV (fun x H' R hx hS' hR=>?_) (fun acc H' hacc sm hac=>?_)
 ·obtain⟨n,hn,rfl⟩:=qP.mp hx
  try walk_at "WP"
  refine⟨n,rfl,fun p hp=>?_⟩;have hpp:upd H' p (.tup [V.int (coreN n),V.int (shN n),V.int (sgN n)]) p=some (.tup [V.int (coreN n),V.int (shN n),V.int (sgN n)]):=upd_same;have sp:=zU hp (.tup [V.int (coreN n),V.int (shN n),V.int (sgN n)]);generalize upd H' p (.tup [V.int (coreN n),V.int (shN n),V.int (sgN n)])=H2 at hpp sp ⊢
  (iterate 5 ((try (walk_at "WP"));(try (simp only[hpp,qJs,qJt,qJl,qJd,exists_eq_left',exists_eq_left]))));(try (walk_at "WP"))
  exact hR _ sp
 rw[coV_map]at hac;exact q acc H' hacc sm hac
theorem ok_wanted (T:Txt K mg):Cal P w K mg base 3 "wanted" ["numbers"] spWanted:=by
 have B:=T.bl;have C_cores_of:=ok_coresL (P:=P) (w:=w) (base:=base) T;refine yc (T.t 6 _ rfl) sc_wanted (fun vs H Q E h=>?_) (fun f cdv A outer s H vs Q E hr h=>?_)
 ·obtain⟨a,xs,rfl,_⟩:=h;rfl
 obtain⟨a,xs,rfl,ha,hl,q⟩:=h;refine⟨_,((@pss_one _ _ _ (@ps_ret _ _ _ _ (@pe_callB _ _ _ _ _ _ _ _ _ (@call_sortW _ w rfl (by rfl)) rfl B.sorted bo_sorted (@pa_cons _ _ _ _ _ (@pe_callTy _ _ _ _ _ _ _ _ _ (@JY _ w rfl (by rfl)) rfl B.set bo_set (@pa_cons _ _ _ _ _ (@pe_compC _ _ _ _ _ _ _ _ (["odd"]) (1) ([]) _ _ _ rfl (@pi_list _ _ _ _ (@pe_cal _ _ _ _ _ _ _ _ _ _ C_cores_of hr rfl (@pa_cons _ _ _ _ _ (pv 0) pa_nil (by rfl)) (by decide) (by rfl) (by rfl))) (fun nd C s H fp=>⟨(@pg_name _ _ (0) _ nd rfl (by walk_at "o") (by walk_at "o")),(@xk _ _ _ (@pt_cmpR _ _ _ _ _ _ _ _ Jb (pv 0) pe_int (@nomark _ _ (by decide) (by decide)))),(pv 0)⟩) (by decide +kernel) (by first|rfl|decide +kernel) (by first|rfl|decide +kernel) rfl (fun _=>rfl)) pa_nil (by rfl)) (by decide) (by decide) (by rfl) (by rfl)) pa_nil (by rfl)) (by decide) (by decide) (by rfl) (by rfl))))),?_⟩
 walk_at "S"
 try walk_at "WP"
 refine⟨a,xs,rfl,ha,by omega,fun l H1 n1 s1 h1=>?_⟩
 try walk_at "WP"
 refine⟨⟨_,SqL.of h1⟩,?_⟩;refine JN (f:=gtV) (SqL.of h1) (by simp only[qC];exact xI (by omega)) (fun y H' R hy hS' hR=>?_) (fun acc hacc=>?_)
 ·obtain⟨n,hn,rfl⟩:=qP.mp hy
  try walk_at "WP"
  have e:gtV (.int n)=if 1<n then some (.int n) else none:=rfl
  rw[e]at hR;refine yw (fun z=>?_) (fun z=>?_)
  ·rw[if_pos z]at hR;exact hR
  ·rw[if_neg z]at hR;exact hR
 rw[gtV_map];show rSetZ w [V.ref acc] (upd H1 acc (.lst ((wantC xs).map V.int))) _
 have s2:=zU hacc (.lst ((wantC xs).map V.int));have wl:(wantC xs).length<=xs.length:=by
  have:=yh (fun c=>decide (1<c)) (xs.map coreN);rw[qC]at this;exact this
 refine⟨acc,wantC xs,rfl,upd_same,by omega,fun b nb=>?_⟩;have s3:=zU nb (SetE w b ((wantC xs).foldl PyProof.Rows.step_dedup []));have dl:=ded_len (wantC xs)
 try walk_at "WP"
 refine⟨b,ded (wantC xs),rfl,upd_same,by omega,fun l2 n2=>?_⟩;have s4:=zU n2 (.lst ((sortI (ded (wantC xs))).map V.int));exact q l2 _ (((s1.trans s2).trans s3).free n2) (((s1.trans s2).trans s3).trans s4) upd_same
theorem ok_iswh (T:Txt K mg):Cal P w K mg base 1 "is_whole" ["thing"] spIsWh:=by
 have B:=T.bl;refine yc (T.t 0 _ rfl) sc_is_whole (fun vs H Q E h=>?_) (fun f cdv A outer s H vs Q E hr h=>?_)
 ·obtain⟨_,rfl,_⟩:=h;rfl
 obtain⟨v,rfl,hc,q⟩:=h;refine⟨_,((@pss_one _ _ _ (@ps_ret _ _ _ _ (@JF _ _ _ _ _ _ _ (@pe_callB _ _ _ _ _ _ _ _ _ call_isI rfl B.isinstance bo_isinstance (@pa_cons _ _ _ _ _ (pv 0) (@pa_cons _ _ _ _ _ (@pe_bltn _ _ (.ty "int") _ _ rfl B.int bo_int rfl (by decide) (by decide)) pa_nil (by rfl)) (by rfl)) (by decide) (by decide) (by rfl) (by rfl)) (@jy _ _ _ _ _ (@pe_not _ _ _ _ (@pe_callB _ _ _ _ _ _ _ _ _ call_isI rfl B.isinstance bo_isinstance (@pa_cons _ _ _ _ _ (pv 0) (@pa_cons _ _ _ _ _ (@pe_bltn _ _ (.ty "bool") _ _ rfl B.bool bo_bool rfl (by decide) (by decide)) pa_nil (by rfl)) (by rfl)) (by decide) (by decide) (by rfl) (by rfl)))))))),?_⟩
 walk_at "S"
 try walk_at "WP"
 refine cell_int hc (fun z1 z2=>?_) (fun⟨b,e⟩=>?_) (fun z=>?_)
 ·try walk_at "WP"
  rw[z1]at q;exact q
 ·subst e
  try walk_at "WP"
  exact q
 ·cases v with
  |int i =>
   try walk_at "WP"
   exact q
  |_=>cases z
theorem ok_btw (T:Txt K mg):Cal P w K mg base 2 "is_between" ["thing","low","high"] spBtw:=by
 have B:=T.bl;have C_is_whole:=ok_iswh (P:=P) (w:=w) (base:=base) T;refine yc (T.t 2 _ rfl) sc_is_between (fun vs H Q E h=>?_) (fun f cdv A outer s H vs Q E hr h=>?_)
 ·obtain⟨_,_,_,rfl,_⟩:=h;rfl
 obtain⟨v,lo,hi,rfl,hc,q⟩:=h;refine⟨_,((@pss_one _ _ _ (@ps_ret _ _ _ _ (@JF _ _ _ _ _ _ _ (@pe_cal _ _ _ _ _ _ _ _ _ _ C_is_whole hr rfl (@pa_cons _ _ _ _ _ (pv 0) pa_nil (by rfl)) (by decide) (by rfl) (by rfl)) (@jy _ _ _ _ _ (@pe_chain _ _ _ _ _ _ _ _ _ _ _ _ op_le op_le (pv 1) (pv 0) (pv 2) (by with_unfolding_all rfl))))))),?_⟩
 walk_at "S"
 try walk_at "WP"
 refine⟨v,rfl,hc,?_⟩;cases v with
 |int n =>
  try walk_at "WP"
  rw[if_pos (show isWh (V.int n)=true from rfl)];refine yw (fun z=>?_) (fun z=>?_)
  ·rw[show btw (V.int n) lo hi=decide (n<=hi) from decide_eq_decide.mpr ⟨fun h=>h.2,fun h=>⟨z,h⟩⟩]at q;exact q
  ·rw[show btw (V.int n) lo hi=false from decide_eq_false fun h=>z h.1]at q;exact q
 |_ =>
  try walk_at "WP"
  exact q
theorem ok_coreSetD (T:Txt K mg):Cal P w K mg base 3 "is_core_set" ["cores","top"] spCoreSetD:=by
 have B:=T.bl;have C_is_between:=ok_btw (P:=P) (w:=w) (base:=base) T;refine yc (T.t 11 _ rfl) zAh (fun vs H Q E h=>?_) (fun f cdv A outer s H vs Q E hr h=>?_)
 ·obtain⟨_,_,_,_,rfl,_⟩:=h;rfl
 obtain⟨p,v,d,top,rfl,hd,t1,t2,q⟩:=h;refine⟨_,((@pss_cons _ _ _ _ _ (@ps_if _ _ _ _ _ _ _ _ (@PW.pt _ _ _ (@pw_or _ _ _ _ _ _ _ (@pt_not _ _ _ _ (@pt_val _ _ _ (@pe_callB _ _ _ _ _ _ _ _ _ call_isI rfl B.isinstance bo_isinstance (@pa_cons _ _ _ _ _ (pv 0) (@pa_cons _ _ _ _ _ (@pe_bltn _ _ (.ty "tuple") _ _ rfl B.tuple xx rfl (by decide) (by decide)) pa_nil (by rfl)) (by rfl)) (by decide) (by decide) (by rfl) (by rfl)) (by intro _ ;rfl))) (@pw_or1 _ _ _ _ (@pt_not _ _ _ _ (@pt_val _ _ _ (@pe_callB _ _ _ _ _ _ _ _ _ (@call_all _ rfl) rfl B.all bo_all (@pa_cons _ _ _ _ _ (@pe_compC _ _ _ _ _ _ _ _ (["odd","top"]) (1) ([1]) _ _ _ rfl (@pi_tup _ _ _ _ (pv 0)) (fun nd C s H fp=>⟨(@pg_name _ _ (0) _ nd rfl (by walk_at "o") (by walk_at "o")),xB,(@JF _ _ _ _ _ _ _ (@pe_cal _ _ _ _ _ _ _ _ _ _ C_is_between hr rfl (@pa_cons _ _ _ _ _ (pv 0) (@pa_cons _ _ _ _ _ pe_int (@pa_cons _ _ _ _ _ (pv 1) pa_nil (by rfl)) (by rfl)) (by rfl)) (by decide) (by rfl) (by rfl)) (@jy _ _ _ _ _ (@pe_cmpR _ _ _ _ _ _ _ _ op_eq (@pe_op _ _ _ _ _ _ _ _ op_and (pv 0) pe_int) pe_int (@nomark _ _ (by decide) (by decide)))))⟩) (by decide +kernel) (by first|rfl|decide +kernel) (by first|rfl|decide +kernel) rfl (fun _=>rfl)) pa_nil (by rfl)) (by decide) (by decide) (by rfl) (by rfl)) (by intro _ ;rfl)))))) (@pss_one _ _ _ (@ps_ret _ _ _ _ pe_bl)) pss_nil) (@pss_one _ _ _ (@ps_ret _ _ _ _ (@pe_callB _ _ _ _ _ _ _ _ _ (@call_all _ rfl) rfl B.all bo_all (@pa_cons _ _ _ _ _ (@pe_compC _ _ _ _ _ _ _ _ (["one","other"]) (2) ([]) _ _ _ rfl (@pi_zip2 _ _ _ _ _ _ _ _ _ rfl B.zip (@pa_cons _ _ _ _ _ (pv 0) (@pa_cons _ _ _ _ _ (@pe_slice _ _ _ _ _ _ _ _ _ _ jD (pv 0) (@xE _ _ _ pe_int) xS) pa_nil (by rfl)) (by rfl)) (by rfl) (by rfl)) (fun nd C s H fp=>⟨(@pg_tupM _ _ _ _ _ 2 rfl (@jh _ _ _ _ _ (@pg_name _ _ (0) _ nd rfl (by walk_at "o") (by walk_at "o")) (@jh _ _ _ _ _ (@pg_name _ _ (1) _ nd rfl (by walk_at "o") (by walk_at "o")) pgs_nil (by rfl)) (by rfl)) (by rfl) (by rfl)),xB,(@pe_cmpR _ _ _ _ _ _ _ _ op_lt (pv 0) (pv 1) (@nomark _ _ (by decide) (by decide)))⟩) (by decide +kernel) (by first|rfl|decide +kernel) (by first|rfl|decide +kernel) rfl (fun _=>rfl)) pa_nil (by rfl)) (by decide) (by decide) (by rfl) (by rfl)))))),?_⟩
 walk_at "S"
 try walk_at "WP"
 refine isT_SD hd (fun a xs e1 e2 hx=>?_) (fun no=>?_)
 ·subst e1;subst e2;obtain⟨_,_,_,fl,l300⟩:=hd;refine⟨true,rfl,?_⟩;rw[if_neg (by decide)];refine⟨a,rfl,⟨_,SqT.of hx⟩,?_⟩;refine comp_blT (fun i b=>∀x,xs[i]? = some x->(b=true↔oddB top x=true)) (SqT.of hx) (zZ (by omega)) (fun i x H' R hxi s' hR=>?_) (fun acc bs H1 n1 s1 h1 bl hB=>?_)
  ·have hf:=fl x (qE hxi);rw[show yF [1] [some (V.ref a),some (V.int top)]=[some (V.int top)] from rfl];have fin:∀b,(b=true↔oddB top x=true)->R (.bl b) H':=fun b hb=>hR b H' (Same.refl _) fun y hy=>by rw[hxi]at hy;cases hy;exact hb
   try walk_at "WP"
   refine⟨x,1,top,rfl,.inl hf,?_⟩
   try walk_at "WP"
   cases x with
   |int n =>
    by_cases z:1<=n/\n<=top
    ·rw[show btw (V.int n) 1 top=true from decide_eq_true z]
     try walk_at "WP"
     rw[and1];exact fin _ (decide_eq_true_iff.trans ⟨fun h=>decide_eq_true ⟨z.1,z.2,h⟩,fun h=>(of_decide_eq_true (show decide (1<=n/\n<=top/\n%2=1)=true from h)).2.2⟩)
    ·rw[show btw (V.int n) 1 top=false from decide_eq_false z]
     try walk_at "WP"
     exact fin false ⟨fun h=>(by cases h),fun h=>absurd (of_decide_eq_true (show decide (1<=n/\n<=top/\n%2=1)=true from h)) (fun h=>z ⟨h.1,h.2.1⟩)⟩
   |_=>exact fin false ⟨fun h=>(by cases h),fun h=>(by cases h)⟩
  have ea:bs.all id=true↔∀x∈xs,oddB top x=true:=by
   rw[Jy bl (p:=fun i=>∀x,xs[i]? = some x->oddB top x=true) (fun i b e=>?_)]
   ·exact⟨fun h x hx=>by obtain⟨i,e⟩:=zO.mp hx;exact h i (qB.mp e).1 x e,fun h i _ x e=>h x (qE e)⟩
   ·have hi:i<xs.length:=by rw[<-bl];exact(qB.mp e).1
    have eS:=qA hi;rw[hB i b e _ eS];exact⟨fun h S z=>by rw[eS]at z;cases z;exact h,fun h=>h _ eS⟩
  refine⟨acc,bs,rfl,h1,_,rfl,?_⟩;by_cases zb:bs.all id=true
  ·have ho:=ea.mp zb;rw[zb,if_neg (by decide)];have h300:xs.length<=300:=l300;refine sl_tail (SqT.of (s1 _ _ hx)) fun r H2 s2 hr2=>?_;have hx2:=SqT.of (K:=K) (s2 _ _ (s1 _ _ hx));have lz:(ltZ xs).length=(xs.drop 1).length:=by unfold ltZ;rw[List.length_zipWith,zd];omega
   refine⟨a,r,⟨rfl,rfl⟩,_,_,.inr ⟨hx2,hr2,?_⟩⟩;refine comp_zipT1 hx2 hr2 ((ltZ xs).map V.bl) (by rw[qC,lz]) (by rw[zd];omega) (by rw[zd];omega) (fun i x y z H' R hxi hyi hz s' hR=>?_) (fun acc2 H3 n3 s3 h3=>?_)
   ·have hxo:=ho x (qE hxi);have hyo:=ho y (yU (qE hyi));rw[qI]at hz;unfold ltZ at hz;rw[List.getElem?_zipWith,hxi,hyi]at hz;cases x with
    |int m =>
     cases y with
     |int n =>
      cases hz
      rw[show yF [] [some (V.ref a),some (V.int top)]=[] from rfl]
      try walk_at "WP"
      exact hR _ (Same.refl _)
     |_=>cases hyo
    |_=>cases hxo
   refine⟨acc2,ltZ xs,rfl,h3,?_⟩;exact q _ H3 ((s1.trans s2).trans s3) (ltZ_all ho)
  ·rw[yO.mpr zb,if_pos rfl];exact q false H1 s1 ⟨fun h=>(by cases h),fun⟨S,e,hS⟩=>absurd (ea.mpr (setB_iff.mp ⟨S,e,hS⟩).1) zb⟩
 ·refine⟨false,rfl,?_⟩;rw[if_pos rfl];exact q false H (Same.refl _) ⟨fun h=>(by cases h),fun⟨S,e,_⟩=>absurd e (no _)⟩
theorem ok_levelD (T:Txt K mg):Cal P w K mg base 4 "is_level" ["level","top"] spLevelD:=by
 have B:=T.bl;have C_is_core_set:=ok_coreSetD (P:=P) (w:=w) (base:=base) T;refine yc (T.t 10 _ rfl) sc_is_level (fun vs H Q E h=>?_) (fun f cdv A outer s H vs Q E hr h=>?_)
 ·obtain⟨_,_,_,_,rfl,_⟩:=h;rfl
 obtain⟨p,v,d,top,rfl,hd,t1,t2,q⟩:=h;refine⟨_,((@pss_one _ _ _ (@ps_ret _ _ _ _ (@JF _ _ _ _ _ _ _ (@pe_callB _ _ _ _ _ _ _ _ _ call_isI rfl B.isinstance bo_isinstance (@pa_cons _ _ _ _ _ (pv 0) (@pa_cons _ _ _ _ _ (@pe_bltn _ _ (.ty "list") _ _ rfl B.list bo_list rfl (by decide) (by decide)) pa_nil (by rfl)) (by rfl)) (by decide) (by decide) (by rfl) (by rfl)) (@jy _ _ _ _ _ (@pe_callB _ _ _ _ _ _ _ _ _ (@call_all _ rfl) rfl B.all bo_all (@pa_cons _ _ _ _ _ (@pe_compC _ _ _ _ _ _ _ _ (["cores","top"]) (1) ([1]) _ _ _ rfl (@pi_list _ _ _ _ (pv 0)) (fun nd C s H fp=>⟨(@pg_name _ _ (0) _ nd rfl (by walk_at "o") (by walk_at "o")),xB,(@pe_cal _ _ _ _ _ _ _ _ _ _ C_is_core_set hr rfl (@pa_cons _ _ _ _ _ (pv 0) (@pa_cons _ _ _ _ _ (pv 1) pa_nil (by rfl)) (by rfl)) (by decide) (by rfl) (by rfl))⟩) (by decide +kernel) (by first|rfl|decide +kernel) (by first|rfl|decide +kernel) rfl (fun _=>rfl)) pa_nil (by rfl)) (by decide) (by decide) (by rfl) (by rfl))))))),?_⟩
 walk_at "S"
 try walk_at "WP"
 refine isL_LD hd (fun a us ss e1 e2 hx hA h2=>?_) (fun no=>?_)
 ·subst e1;subst e2;refine⟨true,rfl,?_⟩;rw[if_pos rfl];refine⟨a,rfl,⟨_,SqL.of hx⟩,?_⟩;refine JR (fun i b=>∀x,ss[i]? = some x->(b=true↔SetB top x)) (SqL.of hx) (xI (by omega)) (fun i x H' R hxi s' hR=>?_) (fun acc bs H1 n1 s1 h1 bl hB=>?_)
  ·rw[show yF [1] [some (V.ref a),some (V.int top)]=[some (V.int top)] from rfl];obtain⟨d,ed,hd⟩:=hA.at_ hxi
   try walk_at "WP"
   exact⟨p,x,d,top,rfl,hd.same s',t1,t2,fun b H5 s5 hb=>hR b H5 s5 fun y hy=>by rw[ed]at hy;cases hy;exact hb⟩
  refine⟨acc,bs,rfl,h1,q _ H1 s1 ?_⟩;rw[levB_iff,Jy (bl.trans hA.1) (p:=fun i=>∀x,ss[i]? = some x->SetB top x) (fun i b e=>?_)]
  ·exact⟨fun h x hx=>by obtain⟨i,e⟩:=zO.mp hx;exact h i (qB.mp e).1 x e,fun h i _ x e=>h x (qE e)⟩
  ·have hi:i<ss.length:=by rw[<-hA.1,<-bl];exact(qB.mp e).1
   have eS:=qA hi;rw[hB i b e _ eS];exact⟨fun h S z=>by rw[eS]at z;cases z;exact h,fun h=>h _ eS⟩
 ·refine⟨false,rfl,?_⟩;rw[if_neg (by decide)];exact q false H (Same.refl _) ⟨fun h=>(by cases h),fun⟨S,e,_⟩=>absurd e (no _)⟩
theorem ok_paperD (T:Txt K mg):Cal P w K mg base 5 "is_paper" ["paper","top","most"] spPaperD:=by
 have B:=T.bl;have C_is_level:=ok_levelD (P:=P) (w:=w) (base:=base) T;refine yc (T.t 9 _ rfl) sc_is_paper (fun vs H Q E h=>?_) (fun f cdv A outer s H vs Q E hr h=>?_)
 ·obtain⟨_,_,_,_,_,rfl,_⟩:=h;rfl
 obtain⟨p,v,d,top,most,rfl,hd,t1,t2,q⟩:=h;refine⟨_,((@pss_one _ _ _ (@ps_ret _ _ _ _ (@JF _ _ _ _ _ _ _ (@pe_callB _ _ _ _ _ _ _ _ _ call_isI rfl B.isinstance bo_isinstance (@pa_cons _ _ _ _ _ (pv 0) (@pa_cons _ _ _ _ _ (@pe_bltn _ _ (.ty "list") _ _ rfl B.list bo_list rfl (by decide) (by decide)) pa_nil (by rfl)) (by rfl)) (by decide) (by decide) (by rfl) (by rfl)) (@JF _ _ _ _ _ _ _ (@pe_cmpR _ _ _ _ _ _ _ _ op_eq (@pe_callB _ _ _ _ _ _ _ _ _ call_lenM rfl B.len bo_len (@pa_cons _ _ _ _ _ (pv 0) pa_nil (by rfl)) (by decide) (by decide) (by rfl) (by rfl)) (pv 2) (@nomark _ _ (by decide) (by decide))) (@jy _ _ _ _ _ (@pe_callB _ _ _ _ _ _ _ _ _ (@call_all _ rfl) rfl B.all bo_all (@pa_cons _ _ _ _ _ (@pe_compC _ _ _ _ _ _ _ _ (["level","top"]) (1) ([1]) _ _ _ rfl (@pi_list _ _ _ _ (pv 0)) (fun nd C s H fp=>⟨(@pg_name _ _ (0) _ nd rfl (by walk_at "o") (by walk_at "o")),xB,(@pe_cal _ _ _ _ _ _ _ _ _ _ C_is_level hr rfl (@pa_cons _ _ _ _ _ (pv 0) (@pa_cons _ _ _ _ _ (pv 1) pa_nil (by rfl)) (by rfl)) (by decide) (by rfl) (by rfl))⟩) (by decide +kernel) (by first|rfl|decide +kernel) (by first|rfl|decide +kernel) rfl (fun _=>rfl)) pa_nil (by rfl)) (by decide) (by decide) (by rfl) (by rfl)))))))),?_⟩
 walk_at "S"
 try walk_at "WP"
 refine isL_PD hd (fun a us ls e1 e2 hx hA h2=>?_) (fun no=>?_)
 ·subst e1;subst e2;refine⟨true,rfl,?_⟩;rw[if_pos rfl];refine⟨a,rfl,_,hx,?_⟩;by_cases zl:us.length=most
  ·rw[if_pos (show((us.length:Nat):Int)=(most:Nat) by rw[zl])];refine⟨a,rfl,⟨_,SqL.of hx⟩,?_⟩;refine JR (fun i b=>∀x,ls[i]? = some x->(b=true↔LevB top x)) (SqL.of hx) (zZ (by omega)) (fun i x H' R hxi s' hR=>?_) (fun acc bs H1 n1 s1 h1 bl hB=>?_)
   ·rw[show yF [1] [some (V.ref a),some (V.int top),some (V.int (most:Nat))]=[some (V.int top)] from rfl];obtain⟨d,ed,hd⟩:=hA.at_ hxi
    try walk_at "WP"
    exact⟨p,x,d,top,rfl,hd.same s',t1,t2,fun b H5 s5 hb=>hR b H5 s5 fun y hy=>by rw[ed]at hy;cases hy;exact hb⟩
   refine⟨acc,bs,rfl,h1,q _ H1 s1 ?_⟩;rw[papB_iff,Jy (bl.trans hA.1) (p:=fun i=>∀x,ls[i]? = some x->LevB top x) (fun i b e=>?_)]
   ·exact⟨fun h=>⟨by rw[<-hA.1];exact zl,fun x hx=>by obtain⟨i,e⟩:=zO.mp hx;exact h i (qB.mp e).1 x e⟩,fun h i _ x e=>h.2 x (qE e)⟩
   ·have hi:i<ls.length:=by rw[<-hA.1,<-bl];exact(qB.mp e).1
    have eS:=qA hi;rw[hB i b e _ eS];exact⟨fun h S z=>by rw[eS]at z;cases z;exact h,fun h=>h _ eS⟩
  ·rw[if_neg (show ¬ ((us.length:Nat):Int)=(most:Nat) by omega)];exact q false H (Same.refl _) ⟨fun h=>(by cases h),fun h=>absurd (by rw[hA.1];exact(papB_iff.mp h).1) zl⟩
 ·refine⟨false,rfl,?_⟩;rw[if_neg (by decide)];exact q false H (Same.refl _) ⟨fun h=>(by cases h),fun h=>absurd h (papB_no no)⟩
theorem ok_fin (T:Txt K mg):Cal P w K mg base 4 "finishes" ["cores","asked","top"] spFin:=by
 have B:=T.bl;have C_made:=ok_madeT (P:=P) (w:=w) (base:=base) T;refine yc (T.t 15 _ rfl) sc_finishes (fun vs H Q E h=>?_) (fun f cdv A outer s H vs Q E hr h=>?_)
 ·obtain⟨_,_,_,_,_,rfl,_⟩:=h;rfl
 obtain⟨c,l,cs,as,top,rfl,hc,hl,al,O,t1,t2,cl,q⟩:=h;refine⟨_,((@pss_cons _ _ _ _ _ (@ps_setCompC _ _ _ _ (3) _ _ _ _ _ _ _ (["odd","cores"]) (1) ([0]) _ _ _ rfl (@pi_list _ _ _ _ (pv 1)) (fun nd C s H fp=>⟨(@pg_name _ _ (0) _ nd rfl (by walk_at "o") (by walk_at "o")),(@xk _ _ _ (@pt_cmpR _ _ _ _ _ _ _ _ (@JW _ K (by rfl)) (pv 0) (pv 1) (by with_unfolding_all rfl))),(pv 0)⟩) (by decide +kernel) (by first|rfl|decide +kernel) (by first|rfl|decide +kernel) rfl (fun _=>rfl) sc_finishes.nd rfl (by walk_at "o") (by walk_at "o") rfl) (@pss_one _ _ _ (@ps_ret _ _ _ _ (@pe_or _ _ _ _ _ _ _ (@pe_cmpR _ _ _ _ _ _ _ _ op_eq (@pe_callB _ _ _ _ _ _ _ _ _ call_lenM rfl B.len bo_len (@pa_cons _ _ _ _ _ (pv 3) pa_nil (by rfl)) (by decide) (by decide) (by rfl) (by rfl)) pe_int (@nomark _ _ (by decide) (by decide))) (@jy _ _ _ _ _ (@JF _ _ _ _ _ _ _ (@pe_cmpR _ _ _ _ _ _ _ _ op_eq (@pe_callB _ _ _ _ _ _ _ _ _ call_lenM rfl B.len bo_len (@pa_cons _ _ _ _ _ (pv 3) pa_nil (by rfl)) (by decide) (by decide) (by rfl) (by rfl)) pe_int (@nomark _ _ (by decide) (by decide))) (@jy _ _ _ _ _ (@pe_cmpR _ _ _ _ _ _ _ _ J4 (@pe_ix _ _ _ _ _ _ _ ix_M (pv 3) pe_int (fun _ _=>rfl)) (@pe_cal _ _ _ _ _ _ _ _ _ _ C_made hr rfl (@pa_cons _ _ _ _ _ (pv 0) (@pa_cons _ _ _ _ _ (pv 2) pa_nil (by rfl)) (by rfl)) (by decide) (by rfl) (by rfl)) (by with_unfolding_all rfl)))))))))),?_⟩
 walk_at "S"
 try walk_at "WP"
 refine⟨⟨_,SqL.of hl⟩,?_⟩;have ecap:∀o,yF [0] [some (V.ref c),some (V.ref l),some (V.int top),o]=[some (V.ref c)]:=fun _=>rfl;refine JN (f:=notV cs) (SqL.of hl) (by rw[qC];exact xI (by omega)) (fun x H' R hx hS' hR=>?_) (fun a na=>?_)
 ·obtain⟨o,ho,rfl⟩:=qP.mp hx;rw[ecap]
  try walk_at "WP"
  have hin:=Je cs o;refine⟨c,_,rfl,.inr (SqT.of (hS' _ _ hc)),rfl,yR cs,?_⟩;rw[if_pos rfl,hin];by_cases z:o∈cs
  ·rw[show notV cs (V.int o)=none from if_pos z]at hR;rw[decide_eq_true z];exact⟨_,rfl,hR⟩
  ·rw[show notV cs (V.int o)=some (V.int o) from if_neg z]at hR;rw[decide_eq_false z];exact⟨_,rfl,hR⟩
 rw[JQ,show(as.filter fun o=>decide (o∉cs))=jr cs as from rfl];refine zx na fun H2 s2 h2=>?_;have ll:((jr cs as).map V.int).length=(jr cs as).length:=qC ..;refine⟨a,rfl,_,h2,?_⟩;refine yw (fun z=>?_) (fun z=>?_)
 ·exact q true H2 s2 ⟨fun _=>.inl (zJ (by rw[ll]at z;omega)),fun _=>rfl⟩
 refine⟨a,rfl,_,h2,?_⟩;refine yw (fun z2=>?_) (fun z2=>?_)
 ·obtain⟨o,eo⟩:∃o,jr cs as=[o]:=ya.mp (by rw[ll]at z2;omega);rw[eo]at h2
  (iterate 5 ((try (walk_at "WP"));(try (simp only[h2,qJs,qJt,qJl,qJd,exists_eq_left',exists_eq_left]))));(try (walk_at "WP"))
  refine⟨V.int o,rfl,c,cs,top,rfl,SqT.of (s2 _ _ hc),O,t1,t2,cl,fun m H3 n3 s3 h3=>?_⟩;refine⟨m,_,rfl,.inl (SqL.of h3),rfl,yR _,?_⟩;rw[Je];refine q _ H3 (s2.trans s3) ?_;rw[fin_one eo];simp
 ·refine q false H2 s2 ⟨fun h=>absurd h (by decide),fun h=>absurd h (fin_more (by rw[ll]at z z2;omega))⟩
theorem ok_mask (T:Txt K mg):Cal P w K mg base 1 "mask_of" ["cores"] spMask:=by
 have B:=T.bl;refine yc (T.t 14 _ rfl) sc_mask_of (fun vs H Q E h=>?_) (fun f cdv A outer s H vs Q E hr h=>?_)
 ·rcases h with⟨_,_,rfl,_⟩|⟨_,_,rfl,_⟩<;>rfl
 rcases h with⟨c,S,rfl,hc,hb,hi,hl,q⟩|⟨c,S,rfl,hc,hb,hi,hl,q⟩
 ·refine⟨_,((@pss_one _ _ _ (@ps_ret _ _ _ _ (@pe_callB _ _ _ _ _ _ _ _ _ (@call_sum _ rfl) rfl B.sum bo_sum (@pa_cons _ _ _ _ _ (@pe_compC _ _ _ _ _ _ _ _ (["odd"]) (1) ([]) _ _ _ rfl (@pi_tup _ _ _ _ (pv 0)) (fun nd C s H fp=>⟨(@pg_name _ _ (0) _ nd rfl (by walk_at "o") (by walk_at "o")),xB,(@pe_op _ _ _ _ _ _ _ _ op_shlB pe_int (pv 0))⟩) (by decide +kernel) (by first|rfl|decide +kernel) (by first|rfl|decide +kernel) rfl (fun _=>rfl)) pa_nil (by rfl)) (by decide) (by decide) (by rfl) (by rfl))))),?_⟩
  walk_at "S"
  try walk_at "WP"
  refine⟨⟨_,SqT.of hc⟩,?_⟩;refine comp_T (f:=bitV) (SqT.of hc) (by rw[qC];exact xI (by omega)) (fun y H' R hy hS' hR=>?_) (fun acc hacc=>?_)
  ·obtain⟨n,hn,rfl⟩:=qP.mp hy;rw[show yF [] [some (V.ref c)]=[] from rfl];have:=hb n hn
   try walk_at "WP"
   rw[Int.one_mul];exact⟨⟨this.1,by omega⟩,hR⟩
  refine⟨acc,_,rfl,by rw[bitV_map];exact upd_same,?_⟩;rw[mask_sum (fun y hy=>(hb y hy).1) hi];exact q _ (zU hacc _)
 ·refine⟨_,((@pss_one _ _ _ (@ps_ret _ _ _ _ (@pe_callB _ _ _ _ _ _ _ _ _ (@call_sum _ rfl) rfl B.sum bo_sum (@pa_cons _ _ _ _ _ (@pe_compC _ _ _ _ _ _ _ _ (["odd"]) (1) ([]) _ _ _ rfl (@pi_list _ _ _ _ (pv 0)) (fun nd C s H fp=>⟨(@pg_name _ _ (0) _ nd rfl (by walk_at "o") (by walk_at "o")),xB,(@pe_op _ _ _ _ _ _ _ _ op_shlB pe_int (pv 0))⟩) (by decide +kernel) (by first|rfl|decide +kernel) (by first|rfl|decide +kernel) rfl (fun _=>rfl)) pa_nil (by rfl)) (by decide) (by decide) (by rfl) (by rfl))))),?_⟩
  walk_at "S"
  try walk_at "WP"
  refine⟨⟨_,SqL.of hc⟩,?_⟩;refine JN (f:=bitV) (SqL.of hc) (by rw[qC];exact xI (by omega)) (fun y H' R hy hS' hR=>?_) (fun acc hacc=>?_)
  ·obtain⟨n,hn,rfl⟩:=qP.mp hy;rw[show yF [] [some (V.ref c)]=[] from rfl];have:=hb n hn
   try walk_at "WP"
   rw[Int.one_mul];exact⟨⟨this.1,by omega⟩,hR⟩
  refine⟨acc,_,rfl,by rw[bitV_map];exact upd_same,?_⟩;rw[mask_sum (fun y hy=>(hb y hy).1) hi];exact q _ (zU hacc _)
theorem ok_ledOnQ (T:Txt K mg):Cal P w K mg base 4 "is_led_on" ["cores","masks","top"] spLedOnQ:=by
 have B:=T.bl;have C_mask_of:=(ok_mask (P:=P) (w:=w) (base:=base) T).mono (k:=3) (by decide);have C_made:=ok_madeT (P:=P) (w:=w) (base:=base) T;refine yc (T.t 13 _ rfl) sc_is_led_on (fun vs H Q E h=>?_) (fun f cdv A outer s H vs Q E hr h=>?_)
 ·obtain⟨_,_,_,_,_,rfl,_⟩:=h;rfl
 obtain⟨c,ml,S,L,top,rfl,hc,hS,hm,hL,ll,t1,t2,q⟩:=h;refine⟨_,((@pss_cons _ _ _ _ _ (@ps_set _ _ (3) _ _ _ _ sc_is_led_on.nd rfl (by walk_at "o") (@pe_cal _ _ _ _ _ _ _ _ _ _ C_mask_of hr rfl (@pa_cons _ _ _ _ _ (pv 0) pa_nil (by rfl)) (by decide) (by rfl) (by rfl)) (by rfl) (by walk_at "o")) (@pss_cons _ _ _ _ _ (@ps_set _ _ (4) _ _ _ _ sc_is_led_on.nd rfl (by walk_at "o") pe_int (by rfl) (by walk_at "o")) (@pss_cons _ _ _ _ _ (@ps_for _ _ _ _ _ _ _ _ PassesOwn.never rfl (@pi_list _ _ _ _ (pv 1)) (@pg_name _ _ (5) _ sc_is_led_on.nd rfl (by walk_at "o") (by walk_at "o")) (@pss_one _ _ _ (@ps_if _ _ _ _ _ _ _ _ (@pt_cmpR _ _ _ _ _ _ _ _ op_eq (@pe_op _ _ _ _ _ _ _ _ op_and (pv 5) (pv 3)) (pv 3) (@nomark _ _ (by decide) (by decide))) (@pss_one _ _ _ (@ps_set _ _ (4) _ _ _ _ sc_is_led_on.nd rfl (by walk_at "o") (@pe_op _ _ _ _ _ _ _ _ op_or (pv 4) (pv 5)) (by rfl) (by walk_at "o"))) pss_nil)) (by intro _ ;rfl)) (@pss_cons _ _ _ _ _ (@ps_set _ _ (6) _ _ _ _ sc_is_led_on.nd rfl (by walk_at "o") (@pe_cal _ _ _ _ _ _ _ _ _ _ C_mask_of hr rfl (@pa_cons _ _ _ _ _ (@pe_cal _ _ _ _ _ _ _ _ _ _ C_made hr rfl (@pa_cons _ _ _ _ _ (pv 0) (@pa_cons _ _ _ _ _ (pv 2) pa_nil (by rfl)) (by rfl)) (by decide) (by rfl) (by rfl)) pa_nil (by rfl)) (by decide) (by rfl) (by rfl)) (by rfl) (by walk_at "o")) (@pss_one _ _ _ (@ps_ret _ _ _ _ (@pe_cmpR _ _ _ _ _ _ _ _ op_eq (@pe_op _ _ _ _ _ _ _ _ op_and (pv 6) (pv 4)) (pv 6) (@nomark _ _ (by decide) (by decide)))))))))),?_⟩
 walk_at "S"
 try walk_at "WP"
 have hs:=hS.od;have ms:∀y∈S,0<=y:=fun y hy=>by have:=hs.lo y hy;omega
 refine .inl ⟨c,S,rfl,hc,fun x hx=>?_,hS.inc,by have:=hS.len t1 t2;omega,fun H1 s1=>?_⟩
 ·have:=hs.lo x hx;have:=hs.hi x hx;omega
 try walk_at "WP"
 have hm1:=s1 _ _ hm;refine⟨⟨_,SqL.of hm1⟩,?_⟩;refine forL (xs:=L.map fun S'=>V.int (maskN S':Nat)) (fun i σ H'=>∃o5:Option V,σ=[some (V.ref c),some (V.ref ml),some (V.int top),some (V.int (maskN S:Nat)),some (V.int (maskN (rchL S (L.take i)):Nat)),o5,none]/\H'=H1) ⟨_,rfl,rfl⟩ ?_ ?_ ?_
 ·rintro i σ H' _ ⟨_,rfl,rfl⟩;exact SqL.of hm1
 ·rintro i x σ H' N hx ⟨o5,rfl,rfl⟩ hN;rw[qI]at hx;obtain⟨S',eS,rfl⟩:=yK.mp hx
  try walk_at "WP"
  have hS':=hL S' (qE eS);rw[and_nat,or_nat];have e:=rch_snoc (S:=S) eS;refine yw (fun z=>?_) (fun z=>?_)
  ·have z:=(j8 ms hS').mp (Int.ofNat.inj z);rw[if_pos (supB_iff.mpr z)]at e;exact hN _ _ ⟨_,by rw[e,mask_app],rfl⟩
  ·have z:¬ SupB S S'=true:=fun h=>z (congrArg Int.ofNat ((j8 ms hS').mpr (supB_iff.mp h)));rw[if_neg z,zu]at e;exact hN _ _ ⟨_,by rw[e],rfl⟩
 ·rintro σ H' ⟨o5,rfl,rfl⟩;rw[qC,zn]
  try walk_at "WP"
  refine⟨c,S,top,rfl,SqT.of (s1 _ _ hc),hs,t1,t2,by have:=hS.len t1 t2;omega,fun l H2 n2 s2 h2=>?_⟩;have ml:=made_len (xs:=S) t2;refine .inr ⟨l,_,rfl,h2,fun x hx=>?_,made_inc S top,by omega,fun H3 s3=>?_⟩
  ·have:=made_in hx;omega
  try walk_at "WP"
  rw[and_nat];refine q _ H3 ((s1.trans s2).trans s3) ?_;rw[<-led_iff (made_nn) hL,decide_eq_true_eq];exact⟨fun h=>Int.ofNat.inj h,fun h=>congrArg Int.ofNat h⟩
theorem ok_leadsQ (T:Txt K mg):Cal P w K mg base 5 "leads_on" ["level","following","top"] spLeadsQ:=by
 have B:=T.bl;have C_mask_of:=(ok_mask (P:=P) (w:=w) (base:=base) T).mono (k:=4) (by decide);have C_is_led_on:=ok_ledOnQ (P:=P) (w:=w) (base:=base) T;refine yc (T.t 12 _ rfl) sc_leads_on (fun vs H Q E h=>?_) (fun f cdv A outer s H vs Q E hr h=>?_)
 ·obtain⟨_,_,_,_,_,_,_,rfl,_⟩:=h;rfl
 obtain⟨c,d,us,ws,L,L',top,rfl,hc,hu,hd,hw,oL,oL',l1,l2,t1,t2,q⟩:=h;refine⟨_,((@pss_cons _ _ _ _ _ (@ps_set _ _ (3) _ _ _ _ sc_leads_on.nd rfl (by walk_at "o") (@pe_compC _ _ _ _ _ _ _ _ (["cores"]) (1) ([]) _ _ _ rfl (@pi_list _ _ _ _ (pv 1)) (fun nd C s H fp=>⟨(@pg_name _ _ (0) _ nd rfl (by walk_at "o") (by walk_at "o")),xB,(@pe_cal _ _ _ _ _ _ _ _ _ _ C_mask_of hr rfl (@pa_cons _ _ _ _ _ (pv 0) pa_nil (by rfl)) (by decide) (by rfl) (by rfl))⟩) (by decide +kernel) (by first|rfl|decide +kernel) (by first|rfl|decide +kernel) rfl (fun _=>rfl)) (by rfl) (by walk_at "o")) (@pss_one _ _ _ (@ps_ret _ _ _ _ (@pe_callB _ _ _ _ _ _ _ _ _ (@call_all _ rfl) rfl B.all bo_all (@pa_cons _ _ _ _ _ (@pe_compC _ _ _ _ _ _ _ _ (["cores","masks","top"]) (1) ([3,2]) _ _ _ rfl (@pi_list _ _ _ _ (pv 0)) (fun nd C s H fp=>⟨(@pg_name _ _ (0) _ nd rfl (by walk_at "o") (by walk_at "o")),xB,(@pe_cal _ _ _ _ _ _ _ _ _ _ C_is_led_on hr rfl (@pa_cons _ _ _ _ _ (pv 0) (@pa_cons _ _ _ _ _ (pv 1) (@pa_cons _ _ _ _ _ (pv 2) pa_nil (by rfl)) (by rfl)) (by rfl)) (by decide) (by rfl) (by rfl))⟩) (by decide +kernel) (by first|rfl|decide +kernel) (by first|rfl|decide +kernel) rfl (fun _=>rfl)) pa_nil (by rfl)) (by decide) (by decide) (by rfl) (by rfl)))))),?_⟩
 walk_at "S"
 try walk_at "WP"
 refine⟨⟨_,SqL.of hd⟩,?_⟩;refine comp_zsL (L'.map fun S'=>V.int (maskN S':Nat)) (by rw[qC,hw.len]) (SqL.of hd) (szL (by rw[hw.len];exact zL l2 (by decide))) (fun i x z H' R hx hz s' hR=>?_) (fun ml H1 n1 s1 h1=>?_)
 ·rw[qI]at hz;obtain⟨S',eS,rfl⟩:=yK.mp hz;obtain⟨p,hp1,hp2⟩:=hw.at_ i S' eS;rw[hx]at hp1;cases hp1
  have ok:=oL' S' (qE eS)
  try walk_at "WP"
  refine .inl ⟨p,S',rfl,s' _ _ hp2,fun x hx=>⟨by have:=ok.od.lo x hx;omega,by have:=ok.od.hi x hx;omega⟩,ok.inc,by have:=ok.len t1 t2;omega,fun H2 s2=>hR H2 s2⟩
 try walk_at "WP"
 refine⟨⟨_,SqL.of (s1 _ _ hc)⟩,?_⟩;refine JR (fun i b=>∀S,L[i]? = some S->(b=true↔LedP top S L')) (SqL.of (s1 _ _ hc)) (szL (by rw[hu.len];exact zL l1 (by decide))) (fun i x H' R hx s' hR=>?_) (fun acc bs H2 n2 s2 h2 bl hB=>?_)
 ·obtain⟨S,eS⟩:∃S,L[i]? = some S:=⟨_,qA (by rw[<-hu.len];exact(qB.mp hx).1)⟩;obtain⟨p,hp1,hp2⟩:=hu.at_ i S eS;rw[hx]at hp1;cases hp1
  rw[show yF [3,2] [some (V.ref c),some (V.ref d),some (V.int top),some (V.ref ml)]=[some (V.ref ml),some (V.int top)] from rfl]
  try walk_at "WP"
  refine⟨p,ml,S,L',top,rfl,(s1.trans s') _ _ hp2,oL S (qE eS),s' _ _ h1,fun S' hS' n hn=>by have:=(oL' S' hS').od.lo n hn;omega,l2,t1,t2,fun b H5 s5 hb=>hR b H5 s5 fun S2 e2=>?_⟩;rw[eS]at e2;cases e2
  exact hb
 refine⟨acc,bs,rfl,h2,?_⟩;refine q _ H2 (s1.trans s2) ?_;rw[Jy (bl.trans hu.len) (p:=fun i=>∀S,L[i]? = some S->LedP top S L') (fun i b e=>?_)]
 ·constructor
  ·intro h S hS;obtain⟨i,e⟩:=zO.mp hS;exact h i (qB.mp e).1 S e
  ·intro h i _ S e;exact h S (qE e)
 ·have hi:i<L.length:=by rw[<-hu.len,<-bl];exact(qB.mp e).1
  have eS:=qA hi;have:=hB i b e _ eS;rw[this];exact⟨fun h S z=>by rw[eS]at z;cases z;exact h,fun h=>h _ eS⟩
theorem ok_showsD (T:Txt K mg) {cst_TooMany:Addr} (X_refuse_beyond0:CalX P w K mg base 1 "refuse_beyond" ["top","most"] (spRefB cst_TooMany)):Cal P w K mg base 7 "shows" ["paper","numbers","top","most"] spShowsD:=by
 have B:=T.bl;have C_refuse_beyond:=X_refuse_beyond0.cal.mono (k:=6) (by decide);have C_is_paper:=(ok_paperD (P:=P) (w:=w) (base:=base) T).mono (k:=6) (by decide);have C_wanted:=(ok_wanted (P:=P) (w:=w) (base:=base) T).mono (k:=6) (by decide);have C_leads_on:=(ok_leadsQ (P:=P) (w:=w) (base:=base) T).mono (k:=6) (by decide);have C_finishes:=(ok_fin (P:=P) (w:=w) (base:=base) T).mono (k:=6) (by decide);refine yc (T.t 8 _ rfl) sc_shows (fun vs H Q E h=>?_) (fun f cdv A outer s H vs Q E hr h=>?_)
 ·obtain⟨_,_,_,_,_,_,_,rfl,_⟩:=h;rfl
 obtain⟨p,v,nl,d,xs,top,most,rfl,hd,m4,nf,t1,t2,hn,xl,q⟩:=h;refine⟨_,((@pss_cons _ _ _ _ _ (@xp _ _ _ _ (@pe_cal _ _ _ _ _ _ _ _ _ _ C_refuse_beyond hr rfl (@pa_cons _ _ _ _ _ (pv 2) (@pa_cons _ _ _ _ _ (pv 3) pa_nil (by rfl)) (by rfl)) (by decide) (by rfl) (by rfl)) (by rfl)) (@pss_cons _ _ _ _ _ (@ps_if _ _ _ _ _ _ _ _ (@pt_not _ _ _ _ (@pt_val _ _ _ (@pe_cal _ _ _ _ _ _ _ _ _ _ C_is_paper hr rfl (@pa_cons _ _ _ _ _ (pv 0) (@pa_cons _ _ _ _ _ (pv 2) (@pa_cons _ _ _ _ _ (pv 3) pa_nil (by rfl)) (by rfl)) (by rfl)) (by decide) (by rfl) (by rfl)) (by intro _ ;rfl))) (@pss_one _ _ _ (@ps_ret _ _ _ _ pe_bl)) pss_nil) (@pss_cons _ _ _ _ _ (@ps_set _ _ (4) _ _ _ _ sc_shows.nd rfl (by walk_at "o") (@pe_cal _ _ _ _ _ _ _ _ _ _ C_wanted hr rfl (@pa_cons _ _ _ _ _ (pv 1) pa_nil (by rfl)) (by decide) (by rfl) (by rfl)) (by rfl) (by walk_at "o")) (@pss_cons _ _ _ _ _ (@ps_if _ _ _ _ _ _ _ _ (@pt_cmpR _ _ _ _ _ _ _ _ op_eq (pv 3) pe_int (@nomark _ _ (by decide) (by decide))) (@pss_one _ _ _ (@ps_ret _ _ _ _ (@pe_cmpR _ _ _ _ _ _ _ _ (@op_neE _ _ hr) (pv 4) (@pe_lst _ _ _ _ pa_nil) (@nomark _ _ (by decide) (by decide))))) pss_nil) (@pss_cons _ _ _ _ _ (@ps_if _ _ _ _ _ _ _ _ (@pt_not _ _ _ _ (@pt_val _ _ _ (@pe_callB _ _ _ _ _ _ _ _ _ (@call_any _ rfl) rfl B.any bo_any (@pa_cons _ _ _ _ _ (@pe_compC _ _ _ _ _ _ _ _ (["cores"]) (1) ([]) _ _ _ rfl (@pi_list _ _ _ _ (@pe_ix _ _ _ _ _ _ _ ix_M (pv 0) pe_int (fun _ _=>rfl))) (fun nd C s H fp=>⟨(@pg_name _ _ (0) _ nd rfl (by walk_at "o") (by walk_at "o")),xB,(@pe_cmpR _ _ _ _ _ _ _ _ (@op_inK _ K (by rfl)) pe_int (pv 0) (by with_unfolding_all rfl))⟩) (by decide +kernel) (by first|rfl|decide +kernel) (by first|rfl|decide +kernel) rfl (fun _=>rfl)) pa_nil (by rfl)) (by decide) (by decide) (by rfl) (by rfl)) (by intro _ ;rfl))) (@pss_one _ _ _ (@ps_ret _ _ _ _ pe_bl)) pss_nil) (@pss_cons _ _ _ _ _ (@ps_if _ _ _ _ _ _ _ _ (@pt_not _ _ _ _ (@pt_val _ _ _ (@pe_callB _ _ _ _ _ _ _ _ _ (@call_all _ rfl) rfl B.all bo_all (@pa_cons _ _ _ _ _ (@pe_compC _ _ _ _ _ _ _ _ (["level","following","top"]) (2) ([2]) _ _ _ rfl (@pi_zip _ _ _ _ _ _ _ _ _ rfl B.zip (@pa_cons _ _ _ _ _ (pv 0) (@pa_cons _ _ _ _ _ (@pe_slice _ _ _ _ _ _ _ _ _ _ sl_list (pv 0) (@xE _ _ _ pe_int) xS) pa_nil (by rfl)) (by rfl)) (by rfl) (by rfl)) (fun nd C s H fp=>⟨(@pg_tupM _ _ _ _ _ 2 rfl (@jh _ _ _ _ _ (@pg_name _ _ (0) _ nd rfl (by walk_at "o") (by walk_at "o")) (@jh _ _ _ _ _ (@pg_name _ _ (1) _ nd rfl (by walk_at "o") (by walk_at "o")) pgs_nil (by rfl)) (by rfl)) (by rfl) (by rfl)),xB,(@pe_cal _ _ _ _ _ _ _ _ _ _ C_leads_on hr rfl (@pa_cons _ _ _ _ _ (pv 0) (@pa_cons _ _ _ _ _ (pv 1) (@pa_cons _ _ _ _ _ (pv 2) pa_nil (by rfl)) (by rfl)) (by rfl)) (by decide) (by rfl) (by rfl))⟩) (by decide +kernel) (by first|rfl|decide +kernel) (by first|rfl|decide +kernel) rfl (fun _=>rfl)) pa_nil (by rfl)) (by decide) (by decide) (by rfl) (by rfl)) (by intro _ ;rfl))) (@pss_one _ _ _ (@ps_ret _ _ _ _ pe_bl)) pss_nil) (@pss_one _ _ _ (@ps_ret _ _ _ _ (@pe_not _ _ _ _ (@pe_callB _ _ _ _ _ _ _ _ _ (@call_any _ rfl) rfl B.any bo_any (@pa_cons _ _ _ _ _ (@pe_compC _ _ _ _ _ _ _ _ (["cores","asked","top"]) (1) ([4,2]) _ _ _ rfl (@pi_list _ _ _ _ (@pe_ix _ _ _ _ _ _ _ ix_M (pv 0) (@JG _ _ _ _ _ _ jN pe_int) (fun _ _=>rfl))) (fun nd C s H fp=>⟨(@pg_name _ _ (0) _ nd rfl (by walk_at "o") (by walk_at "o")),xB,(@pe_cal _ _ _ _ _ _ _ _ _ _ C_finishes hr rfl (@pa_cons _ _ _ _ _ (pv 0) (@pa_cons _ _ _ _ _ (pv 1) (@pa_cons _ _ _ _ _ (pv 2) pa_nil (by rfl)) (by rfl)) (by rfl)) (by decide) (by rfl) (by rfl))⟩) (by decide +kernel) (by first|rfl|decide +kernel) (by first|rfl|decide +kernel) rfl (fun _=>rfl)) pa_nil (by rfl)) (by decide) (by decide) (by rfl) (by rfl)))))))))))),?_⟩
 walk_at "S"
 try walk_at "WP"
 refine⟨top,_,rfl,fun _=>?_,fun hf=>absurd hf nf⟩;refine⟨p,v,d,top,most,rfl,hd,t1,t2,fun bp H1 s1 hbp=>⟨bp,rfl,?_⟩⟩;by_cases zp:bp=false
 ·rw[zp,if_pos rfl];exact q false H1 s1 ⟨fun h=>(by cases h),fun⟨Ls,e,h1,h2,_⟩=>absurd (hbp.mpr ⟨Ls,e,h1,h2⟩) (by rw[zp];decide)⟩
 have zp:bp=true:=by simpa using zp
 rw[zp,if_neg (by decide)];obtain⟨Ls,rfl,rfl,hO⟩:=hbp.mp zp;obtain⟨lv,lvs,rfl,hp,l10,l2000⟩:=papQ_of hd;have ok:PapQk top Ls:=fun L hL=>⟨zL (l2000 L hL) (by decide),hO L hL⟩;have q:∀b H',Same H H'->(b=true↔ShowsP top (sortI (ded (wantC xs))) Ls)->Q (.bl b) H':=fun b H' s h=>q b H' s (h.trans ⟨fun z=>⟨Ls,rfl,rfl,hO,z⟩,fun⟨Ms,e,_,_,z⟩=>by rw[iL_inj e];exact z⟩);refine⟨nl,xs,rfl,s1 _ _ hn,xl,fun al H2 n2 s2 h2=>?_⟩;have as_len:(sortI (ded (wantC xs))).length<=60:=by
  have h1:=ded_len (wantC xs);have h2:=yh (fun c=>decide (1<c)) (xs.map coreN);rw[qC]at h2;have h3:(wantC xs).length<=xs.length:=h2;have h4:(sortI (ded (wantC xs))).length=(ded (wantC xs)).length:=(yA _).length_eq;omega
 generalize sortI (ded (wantC xs))=as at h2 q as_len;have s12:=s1.trans s2;have P2:=hp.same s12;refine yw (fun z=>?_) (fun z=>?_)
 ·intro p np;have e0:Ls=[]:=zJ (by omega);subst e0;rw[w_neE];refine⟨_,SqL.of (zU np (.lst []) _ _ h2),SqL.of upd_same,?_⟩;refine q _ _ (s12.trans (zU np _)) ?_;rw[decide_eq_true_eq,qC];constructor
  ·intro h;refine⟨fun _ e=>h (by rw[e];rfl),fun L e=>by simp at e,fun i L L' e=>by simp at e,fun L e=>by simp at e⟩
  ·intro h e;exact h.1 rfl (zJ e)
 have lp:0<Ls.length:=by omega
 try walk_at "WP"
 refine⟨_,P2.lst,?_⟩;have e0:=qA lp;generalize Ls[0]=L0 at e0;obtain⟨r0,u0,g1,g3,g4⟩:=P2.at_ 0 L0 e0;have ok0:=ok L0 (qE e0);refine⟨_,yM (j:=0) g1,r0,rfl,⟨_,SqL.of g3⟩,?_⟩;refine JR (fun i b=>∀S,L0[i]? = some S->(b=true↔(1:Int)∈S)) (SqL.of g3) (szL (by rw[g4.len];exact zL ok0.1 (by decide))) (fun i x H' R hx s' hR=>?_) (fun acc bs H3 n3 s3 h3 bl hB=>?_)
 ·obtain⟨S,eS⟩:∃S,L0[i]? = some S:=⟨_,qA (by rw[<-g4.len];exact(qB.mp hx).1)⟩;obtain⟨p,hp1,hp2⟩:=g4.at_ i S eS;rw[hx]at hp1;cases hp1
  rw[show ∀o,yF [] o=[] from fun _=>rfl]
  try walk_at "WP"
  refine⟨p,_,rfl,.inr (SqT.of (s' _ _ hp2)),rfl,yR _,?_⟩;rw[if_neg (by decide),show inV (V.int 1) (iT S)=decide ((1:Int)∈S) from Je S 1];refine hR _ H' (Same.refl _) fun S2 e2=>?_;rw[eS]at e2;cases e2
  exact⟨of_decide_eq_true,fun h=>decide_eq_true h⟩
 refine⟨acc,bs,rfl,h3,_,rfl,?_⟩;have any0:bs.any id=true↔∃S∈L0,(1:Int)∈S:=by
  rw[any_iff (bl.trans g4.len) (p:=fun i=>∀S,L0[i]? = some S->(1:Int)∈S) (fun i b e=>?_)]
  ·constructor
   ·rintro⟨i,hi,h⟩;have e:=qA hi;exact⟨_,qE e,h _ e⟩
   ·rintro⟨S,hS,h⟩;obtain⟨i,e⟩:=zO.mp hS;exact⟨i,(qB.mp e).1,fun S' e'=>by rw[e]at e';cases e';exact h⟩
  ·have hi:i<L0.length:=by rw[<-g4.len,<-bl];exact(qB.mp e).1
   have eS:=qA hi;rw[hB i b e _ eS];exact⟨fun h S z=>by rw[eS]at z;cases z;exact h,fun h=>h _ eS⟩
 have s13:=s12.trans s3;by_cases za:bs.any id=true
 ·rw[za,if_neg (by decide)];have P3:=hp.same s13;refine⟨_,SqL.of P3.lst,fun p np=>?_⟩;have sp:=zU np (.lst (cutV lvs (some 1) none));refine⟨lv,p,⟨rfl,rfl⟩,_,SqL.of (sp _ _ P3.lst),_,SqL.of upd_same,?_⟩;have hcut:upd H3 p (.lst (cutV lvs (some 1) none)) p=some (.lst (lvs.drop 1)):=by rw[upd_same,cut_drop1]
  have s14:=s13.trans sp;generalize upd H3 p (.lst (cutV lvs (some 1) none))=H4 at hcut s14 sp;have P4:=hp.same s14;refine comp_zipLB P4.lst hcut (fun i b=>∀L L',Ls[i]? = some L->Ls[i+1]? = some L'->(b=true↔∀S∈L,LedP top S L')) (by rw[zd];omega) (by rw[zd,P4.len];omega) (fun i x y H' R hx hy s' hR=>?_) (fun acc2 bs2 H5 n5 s5 h5 bl2 hB2=>?_)
  ·have hy2:lvs[i+1]? = some y:=by rw[yJ,Nat.add_comm]at hy;exact hy
   obtain⟨L,eL⟩:∃L,Ls[i]? = some L:=⟨_,qA (by rw[<-P4.len];exact(qB.mp hx).1)⟩;obtain⟨L',eL'⟩:∃L,Ls[i+1]? = some L:=⟨_,qA (by rw[<-P4.len];exact(qB.mp hy2).1)⟩;have P':=P4.same s';obtain⟨r1,u1,a1,a3,a4⟩:=P'.at_ _ _ eL;obtain⟨r2,u2,b1,b3,b4⟩:=P'.at_ _ _ eL';rw[hx]at a1;rw[hy2]at b1;cases a1
   cases b1
   rw[show yF [2] [some (V.ref lv),some (V.ref nl),some (V.int top),some (V.int (Ls.length:Nat)),some (V.ref al)]=[some (V.int top)] from rfl];have o1:=ok L (qE eL);have o2:=ok L' (qE eL');show tCall spLeadsQ [] E0 (tCons (tVar 0) (tCons (tVar 1) (tCons (tVar 2) tNil))) [some (V.ref r1),some (V.ref r2),some (V.int top)] H' R
   try walk_at "WP"
   refine⟨r1,r2,u1,u2,L,L',top,rfl,a3,a4,b3,b4,o1.2,o2.2,o1.1,o2.1,t1,t2,fun b H5 s5 hb=>hR b H5 s5 fun M M' e1 e2=>?_⟩;rw[eL]at e1;rw[eL']at e2;cases e1
   cases e2
   exact hb
  have bl3:bs2.length=Ls.length-1:=by rw[bl2,zd,P4.len]
  have all0:bs2.all id=true↔∀(i:Nat) L L',Ls[i]? = some L->Ls[i+1]? = some L'->∀S∈L,LedP top S L':=by
   rw[Jy bl3 (p:=fun i=>∀L L',Ls[i]? = some L->Ls[i+1]? = some L'->∀S∈L,LedP top S L') (fun i b e=>?_)]
   ·constructor
    ·intro h i L L' e1 e2;have:=(qB.mp e2).1;exact h i (by omega) L L' e1 e2
    ·intro h i _ L L' e1 e2;exact h i L L' e1 e2
   ·have hi:=(qB.mp e).1;have e1:=qA (l:=Ls) (by omega:i<Ls.length);have e2:=qA (l:=Ls) (by omega:i+1<Ls.length);rw[hB2 i b e _ _ e1 e2];exact⟨fun h M M' z1 z2=>by rw[e1]at z1;rw[e2]at z2;cases z1;cases z2;exact h,fun h=>h _ _ e1 e2⟩
  refine⟨acc2,bs2,rfl,h5,_,rfl,?_⟩;have s15:=s14.trans s5;by_cases zb:bs2.all id=true
  ·rw[zb,if_neg (by decide)];have P5:=hp.same s15;refine⟨_,P5.lst,?_⟩;have eg:=qA (l:=Ls) (by omega:Ls.length-1<Ls.length);generalize Ls[Ls.length-1]=Lz at eg;obtain⟨rz,uz,c1,c3,c4⟩:=P5.at_ _ _ eg;have okz:=ok Lz (qE eg);have el:Ls.getLast? = some Lz:=by rw[xC];exact eg
   have ev:lvs.getLast? = some (.ref rz):=by rw[xC,P5.len];exact c1
   refine⟨_,atI_gl ev,rz,rfl,⟨_,SqL.of c3⟩,?_⟩;have ha5:H5 al=some (.lst (as.map V.int)):=s5 _ _ (sp _ _ (s3 _ _ h2));refine JR (fun i b=>∀S,Lz[i]? = some S->(b=true↔Fin_ top S as)) (SqL.of c3) (szL (by rw[c4.len];exact zL okz.1 (by decide))) (fun i x H' R hx s' hR=>?_) (fun acc3 bs3 H6 n6 s6 h6 bl6 hB6=>?_)
   ·obtain⟨S,eS⟩:∃S,Lz[i]? = some S:=⟨_,qA (by rw[<-c4.len];exact(qB.mp hx).1)⟩;obtain⟨p2,hp1,hp2⟩:=c4.at_ i S eS;rw[hx]at hp1;cases hp1
    have o:=okz.2 S (qE eS);rw[show yF [4,2] [some (V.ref lv),some (V.ref nl),some (V.int top),some (V.int (Ls.length:Nat)),some (V.ref al)]=[some (V.ref al),some (V.int top)] from rfl]
    try walk_at "WP"
    refine⟨p2,al,S,as,top,rfl,s' _ _ hp2,s' _ _ ha5,as_len,o.od,t1,t2,by have:=o.len t1 t2;omega,fun b H7 s7 hb=>hR b H7 s7 fun S2 e2=>?_⟩;rw[eS]at e2;cases e2
    exact hb
   have any1:bs3.any id=true↔∃S∈Lz,Fin_ top S as:=by
    rw[any_iff (bl6.trans c4.len) (p:=fun i=>∀S,Lz[i]? = some S->Fin_ top S as) (fun i b e=>?_)]
    ·constructor
     ·rintro⟨i,hi,h⟩;have e:=qA hi;exact⟨_,qE e,h _ e⟩
     ·rintro⟨S,hS,h⟩;obtain⟨i,e⟩:=zO.mp hS;exact⟨i,(qB.mp e).1,fun S' e'=>by rw[e]at e';cases e';exact h⟩
    ·have hi:i<Lz.length:=by rw[<-c4.len,<-bl6];exact(qB.mp e).1
     have eS:=qA hi;rw[hB6 i b e _ eS];exact⟨fun h S z=>by rw[eS]at z;cases z;exact h,fun h=>h _ eS⟩
   refine⟨acc3,bs3,rfl,h6,_,rfl,?_⟩;refine q _ H6 (s15.trans s6) ?_;constructor
   ·intro h;have nb:¬ bs3.any id=true:=by intro y;rw[y]at h;cases h
    refine⟨fun e=>by rw[e]at lp;exact absurd lp (by decide),fun L e=>?_,all0.mp zb,fun L e S hS f=>?_⟩
    ·rw[e0]at e;cases e
     exact any0.mp za
    ·rw[el]at e;cases e
     exact nb (any1.mpr ⟨S,hS,f⟩)
   ·intro h;rw[yb,yO];intro y;obtain⟨S,hS,f⟩:=any1.mp y;exact h.2.2.2 Lz el S hS f
  ·rw[yO.mpr zb,if_pos rfl];exact q false H5 s15 ⟨fun h=>(by cases h),fun h=>absurd (all0.mpr h.2.2.1) zb⟩
 ·rw[yO.mpr za,if_pos rfl];exact q false H3 s13 ⟨fun h=>(by cases h),fun h=>absurd (any0.mpr (h.2.1 L0 e0)) za⟩
theorem ok_odd34 (T:Txt K mg):Cal P w K mg base 1 "_law_odd" ["_law_number"] spOdd:=by
 have B:=T.bl;refine yc (T.t 18 _ rfl) sc_l_odd (fun vs H Q E h=>?_) (fun f cdv A outer s H vs Q E hr h=>?_)
 ·obtain⟨n,rfl,_⟩:=h;rfl
 obtain⟨n,rfl,n0,q⟩:=h;refine⟨_,((@pss_cons _ _ _ _ _ (@ps_whl _ _ _ _ _ _ PassesOwn.never (@pt_cmpR _ _ _ _ _ _ _ _ op_eq (@pe_op _ _ _ _ _ _ _ _ op_mod (pv 0) pe_int) pe_int (@nomark _ _ (by decide) (by decide))) (@pss_one _ _ _ (@ps_set _ _ (0) _ _ _ _ sc_l_odd.nd rfl (by walk_at "o") (@pe_op _ _ _ _ _ _ _ _ jO (pv 0) pe_int) (by rfl) (by walk_at "o")))) (@pss_one _ _ _ (@ps_ret _ _ _ _ (pv 0))))),?_⟩
 walk_at "S"
 try walk_at "WP"
 obtain⟨k,hk⟩:=Jv (n:=n) (by omega);obtain⟨c1,c2,_⟩:=xM (n:=n) (by omega);refine whl (fun m σ H2=>σ=[some (.int (coreN n*2^m))]/\H2=H) k ⟨by rw[<-hk,show((n.natAbs:Nat):Int)=n by omega],rfl⟩ ?_;rintro m σ H2 N ⟨rfl,rfl⟩ hN
 try walk_at "WP"
 refine yw (fun z=>?_) (fun z=>?_)
 ·cases m with
  |zero=>rw[yq,yW]at z;omega
  |succ m =>
   refine⟨divB (by decide) (by decide),hN m _ _ (by omega) ⟨?_,rfl⟩⟩;rw[y4,<-yY,Int.mul_ediv_cancel _ (by decide)]
 ·cases m with
  |zero=>rw[yq,yW];exact q
  |succ m=>rw[y4,<-yY]at z;exact absurd (Int.mul_emod_left _ _) z
theorem ok_meet34 (T:Txt K mg):Cal P w K mg base 2 "_law_meet" ["_law_one","_law_other","_law_third"] spMeet:=by
 have B:=T.bl;have C_l_odd:=ok_odd34 (P:=P) (w:=w) (base:=base) T;refine yc (T.t 19 _ rfl) sc_l_meet (fun vs H Q E h=>?_) (fun f cdv A outer s H vs Q E hr h=>?_)
 ·obtain⟨_,_,_,rfl,_⟩:=h;rfl
 obtain⟨a,b,c,rfl,ha,hb,q⟩:=h;refine⟨_,((@pss_one _ _ _ (@ps_ret _ _ _ _ (@pe_or _ _ _ _ _ _ _ (@pe_cmpR _ _ _ _ _ _ _ _ op_eq (@pe_cal _ _ _ _ _ _ _ _ _ _ C_l_odd hr rfl (@pa_cons _ _ _ _ _ (@pe_op _ _ _ _ _ _ _ _ op_add (pv 0) (pv 1)) pa_nil (by rfl)) (by decide) (by rfl) (by rfl)) (pv 2) (@nomark _ _ (by decide) (by decide))) (@jy _ _ _ _ _ (@JF _ _ _ _ _ _ _ (@pe_cmpR _ _ _ _ _ _ _ _ op_ne (pv 0) (pv 1) (@nomark _ _ (by decide) (by decide))) (@jy _ _ _ _ _ (@pe_cmpR _ _ _ _ _ _ _ _ op_eq (@pe_cal _ _ _ _ _ _ _ _ _ _ C_l_odd hr rfl (@pa_cons _ _ _ _ _ (@pe_callB _ _ _ _ _ _ _ _ _ call_abs rfl B.abs bo_abs (@pa_cons _ _ _ _ _ (@pe_op _ _ _ _ _ _ _ _ JH (pv 0) (pv 1)) pa_nil (by rfl)) (by decide) (by decide) (by rfl) (by rfl)) pa_nil (by rfl)) (by decide) (by rfl) (by rfl)) (pv 2) (@nomark _ _ (by decide) (by decide)))))))))),?_⟩
 walk_at "S"
 try walk_at "WP"
 refine⟨a+b,rfl,by omega,?_⟩
 try walk_at "WP"
 by_cases z1:coreN (a+b)=c
 ·rw[if_pos z1];rw[show MeetB a b c=true from decide_eq_true (.inl z1)]at q;exact q
 rw[if_neg z1];by_cases z2:a=b
 ·rw[if_neg (not_not_intro z2)];rw[show MeetB a b c=false from decide_eq_false fun h=>h.elim z1 fun h=>h.1 z2]at q;exact q
 rw[if_pos z2];refine⟨_,rfl,by split<;>omega,?_⟩;rw[core_abs2]
 try walk_at "WP"
 rw[show MeetB a b c=decide (coreN (a-b)=c) from decide_eq_decide.mpr ⟨fun h=>h.elim (fun h=>absurd h z1) fun h=>h.2,fun h=>.inr ⟨z2,h⟩⟩]at q;exact q
theorem Jn (T:Txt K mg):Cal P w K mg base 3 "_law_gains" ["_law_some","_law_top"] spGains:=by
 have B:=T.bl;have C_l_meet:=ok_meet34 (P:=P) (w:=w) (base:=base) T;refine yc (T.t 20 _ rfl) sc_l_gains (fun vs H Q E h=>?_) (fun f cdv A outer s H vs Q E hr h=>?_)
 ·obtain⟨_,_,_,rfl,_⟩:=h;rfl
 obtain⟨c,S,top,rfl,hc,O,l50,t1,t2,q⟩:=h;refine⟨_,((@pss_cons _ _ _ _ _ (@ps_set _ _ (2) _ _ _ _ sc_l_gains.nd rfl (by walk_at "o") (@pe_lst _ _ _ _ pa_nil) (by rfl) (by walk_at "o")) (@pss_cons _ _ _ _ _ (@ps_for _ _ _ _ _ _ _ _ PassesOwn.never rfl (@pi_range3 _ _ _ _ _ _ _ _ rfl B.range (@pa_cons _ _ _ _ _ pe_int (@pa_cons _ _ _ _ _ (@pe_op _ _ _ _ _ _ _ _ op_add (pv 1) pe_int) (@pa_cons _ _ _ _ _ pe_int pa_nil (by rfl)) (by rfl)) (by rfl)) (by rfl) (by rfl)) (@pg_name _ _ (3) _ sc_l_gains.nd rfl (by walk_at "o") (by walk_at "o")) (@pss_one _ _ _ (@ps_for _ _ _ _ _ _ _ _ PassesOwn.never rfl (@pi_tup _ _ _ _ (pv 0)) (@pg_name _ _ (4) _ sc_l_gains.nd rfl (by walk_at "o") (by walk_at "o")) (@pss_cons _ _ _ _ _ (@ps_setCompC _ _ _ _ (5) _ _ _ _ _ _ _ (["_law_other","_law_one","_law_own"]) (1) ([4,3]) _ _ _ rfl (@pi_tup _ _ _ _ (pv 0)) (fun nd C s H fp=>⟨(@pg_name _ _ (0) _ nd rfl (by walk_at "o") (by walk_at "o")),(@xk _ _ _ (@PW.pt _ _ _ (@pw_or _ _ _ _ _ _ _ (@pt_val _ _ _ (@pe_cal _ _ _ _ _ _ _ _ _ _ C_l_meet hr rfl (@pa_cons _ _ _ _ _ (pv 1) (@pa_cons _ _ _ _ _ (pv 0) (@pa_cons _ _ _ _ _ (pv 2) pa_nil (by rfl)) (by rfl)) (by rfl)) (by decide) (by rfl) (by rfl)) (by intro _ ;rfl)) (@pw_or1 _ _ _ _ (@pt_val _ _ _ (@pe_cal _ _ _ _ _ _ _ _ _ _ C_l_meet hr rfl (@pa_cons _ _ _ _ _ (pv 2) (@pa_cons _ _ _ _ _ (pv 1) (@pa_cons _ _ _ _ _ (pv 0) pa_nil (by rfl)) (by rfl)) (by rfl)) (by decide) (by rfl) (by rfl)) (by intro _ ;rfl)))))),(pv 0)⟩) (by decide +kernel) (by first|rfl|decide +kernel) (by first|rfl|decide +kernel) rfl (fun _=>rfl) sc_l_gains.nd rfl (by walk_at "o") (by walk_at "o") rfl) (@pss_one _ _ _ (@ps_if _ _ _ _ _ _ _ _ (@PW.pt _ _ _ (@pw_and _ _ _ _ _ _ _ (@pt_cmpR _ _ _ _ _ _ _ _ (@op_neE _ _ hr) (pv 5) (@pe_lst _ _ _ _ pa_nil) (@nomark _ _ (by decide) (by decide))) (@Jo _ _ _ _ (@pt_cmpR _ _ _ _ _ _ _ _ Jq (pv 3) (pv 2) (by with_unfolding_all rfl))))) (@pss_one _ _ _ (@xp _ _ _ _ (@pe_bm _ _ _ _ _ _ _ _ _ _ _ _ yB yo yn xj (pv 2) (@pa_cons _ _ _ _ _ (pv 3) pa_nil (by rfl)) (by rfl) (by rfl) (by rfl) (by rfl) (by rfl)) (by rfl))) pss_nil))) (by intro _ ;rfl))) (by intro _ ;rfl)) (@pss_one _ _ _ (@ps_ret _ _ _ _ (pv 2)))))),?_⟩
 walk_at "S"
 try walk_at "WP"
 intro r nr;have s1:=zU nr (.lst []);refine⟨1,top+1,2,⟨rfl,rfl,rfl⟩,⟨by decide,by decide,by omega,by omega,rfl⟩,?_⟩;have rl2:((stepN 1 (top+1) 2:Nat):Int)=(top+1)/2:=by
  rw[J9];unfold Builtin.Range.rangeSize;rw[if_pos (by decide)];split<;>omega
 refine forR3 (fun i σ H2=>∃(fs:List Int) (o4 o5 o6:Option V),σ=[some (.ref c),some (.int top),some (.ref r),o4,o5,o6]/\Same H H2/\H2 r=some (.lst (fs.map V.int))/\(∀x,x∈fs↔∃k,k<i/\x=1+(k:Int)*2/\GainP S x)/\fs.length<=i) ⟨[],_,_,_,rfl,s1,upd_same,(fun x=>⟨fun h=>(by cases h),fun⟨k,h,_⟩=>absurd h (Nat.not_lt_zero k)⟩),zS _⟩ ?_ ?_
 ·rintro i σ H2 N hi ⟨fs,o4,o5,o6,rfl,s2,hr2,hf,fl⟩ hN
  try walk_at "WP"
  have own1:1<=1+(i:Int)*2:=by omega
  generalize eo:1+(i:Int)*2=own at own1 ⊢;refine⟨⟨_,SqT.of (s2 _ _ hc)⟩,?_⟩;refine forT (xs:=S.map V.int) (fun j σ H3=>∃(gs:List Int) (o5 o6:Option V),σ=[some (.ref c),some (.int top),some (.ref r),some (.int own),o5,o6]/\Same H H3/\H3 r=some (.lst (gs.map V.int))/\(∀x,x∈gs↔x∈fs\/(x=own/\∃a∈S.take j,∃b∈S,xz a own b=true))/\gs.length<=i+1/\(own∉gs->gs.length<=i)) ⟨fs,_,_,rfl,s2,hr2,(fun x=>⟨.inl,fun h=>h.elim id fun⟨_,a,h,_⟩=>by rw[List.take_zero]at h;cases h⟩),by omega,fun _=>fl⟩ ?_ ?_ ?_
  ·rintro j σ H3 _ ⟨_,_,_,_,s3,_⟩;exact SqT.of (s3 _ _ hc)
  ·rintro j v σ H3 N2 hv ⟨gs,o5,o6,rfl,s3,hr3,hg,gl,gl2⟩ hN2;obtain⟨a,ha,rfl⟩:=j6 hv;have a1:=O.lo a (qE ha);have tk:S.take (j+1)=S.take j++[a]:=by rw[zq,ha];rfl
   try walk_at "WP"
   refine⟨⟨_,SqT.of (s3 _ _ hc)⟩,?_⟩;refine comp_T (f:=mateV a own) (SqT.of (s3 _ _ hc)) (by rw[qC];exact xI (by omega)) (fun y H' R hy hS' hR=>?_) (fun acc hacc=>?_)
   ·obtain⟨b,hb,rfl⟩:=qP.mp hy;have b1:=O.lo b hb;rw[show ∀o,yF [4,3] [some (V.ref c),some (V.int top),some (V.ref r),some (V.int own),some (V.int a),o]=[some (V.int a),some (V.int own)] from fun _=>rfl]
    try walk_at "WP"
    refine⟨a,b,own,rfl,a1,b1,_,rfl,?_⟩;have hm:∀q:Bool,xz a own b=q->R (if q=true then some (V.int b) else none) H':=fun q e=>by
     rw[show mateV a own (V.int b)=if q=true then some (V.int b) else none by rw[<-e];rfl]at hR;exact hR
    by_cases z1:MeetB a b own=true
    ·rw[if_pos z1];exact hm true (by unfold xz;rw[z1];rfl)
    ·rw[if_neg z1];refine⟨own,a,b,rfl,own1,a1,_,rfl,?_⟩;by_cases z2:MeetB own a b=true
     ·rw[if_pos z2];exact hm true (by unfold xz;rw[z2,Bool.or_true])
     ·rw[if_neg z2];exact hm false (by unfold xz;rw[yO.mpr z1,yO.mpr z2];rfl)
   rw[mateV_map];refine zx hacc fun H4 s4 h4=>?_;intro e ne;refine zx ne fun H5 s5 h5=>?_;have s35:=s4.trans s5;have hr5:=s35 _ _ hr3;have nx:∀x,(∃a'∈S.take (j+1),∃b∈S,xz a' x b=true)↔(∃a'∈S.take j,∃b∈S,xz a' x b=true)\/∃b∈S,xz a x b=true:=fun x=>by
    rw[tk];constructor
    ·rintro⟨a',h,g⟩;rcases zK.mp h with y|y
     ·exact .inl ⟨a',y,g⟩
     ·rw[zE.mp y]at g;exact .inr g
    ·rintro(⟨a',h,g⟩|g)
     ·exact⟨a',yt _ h,g⟩
     ·exact⟨a,qK _ (zE.mpr rfl),g⟩
   rw[w_neE];refine⟨_,SqL.of (s5 _ _ h4),SqL.of h5,?_⟩
   try walk_at "WP"
   rw[qC];refine yw (fun z=>?_) (fun z=>?_)
   ·have ex:∃b∈S,xz a own b=true:=by
     obtain⟨b,hb⟩:=List.exists_mem_of_ne_nil (S.filter (xz a own)) (fun e=>z (by rw[e];rfl));exact⟨b,zk.mp hb⟩
    refine⟨r,_,rfl,.inl (SqL.of hr5),rfl,yR gs,?_⟩;rw[if_pos rfl,Je];by_cases zo:own∈gs
    ·rw[decide_eq_true zo];refine⟨_,rfl,?_⟩;rw[if_neg (by decide)];refine hN2 _ _ ⟨gs,_,_,rfl,s3.trans s35,hr5,fun x=>?_,gl,gl2⟩;rw[hg];refine or_congr_right (and_congr_right fun e=>?_);subst e;rw[nx];exact⟨.inl,fun h=>h.elim id fun _=>((hg x).mp zo).elim (fun h=>by have:=((hf x).mp h);obtain⟨k,hk,e2,_⟩:=this;omega) fun h=>h.2⟩
    ·rw[decide_eq_false zo];refine⟨_,rfl,?_⟩;rw[if_pos (by decide)];refine⟨jB hr5,_,hr5,jb (by rw[qC];omega),?_⟩;refine hN2 _ _ ⟨gs++[own],_,_,rfl,yE nr (s3.trans s35),by rw[upd_same,z9];rfl,fun x=>?_,by rw[qF,zH];have:=gl2 zo;omega,fun h=>absurd (qK _ (zE.mpr rfl)) h⟩;rw[zK,zE,hg,or_assoc];refine or_congr_right ⟨fun h=>?_,fun h=>.inr h.1⟩;have e:x=own:=h.elim (fun h=>h.1) id;subst e;exact⟨rfl,(nx x).mpr (.inr ex)⟩
   ·have zl:(S.filter (xz a own)).length=0:=by omega
    have no:¬ ∃b∈S,xz a own b=true:=fun⟨b,hb,g⟩=>by
     have:=zk.mpr ⟨hb,g⟩;rw[zJ zl]at this;cases this
    refine hN2 _ _ ⟨gs,_,_,rfl,s3.trans s35,hr5,fun x=>?_,gl,gl2⟩;rw[hg];refine or_congr_right (and_congr_right fun e=>?_);subst e;rw[nx];exact⟨.inl,fun h=>h.elim id fun h=>absurd h no⟩
  ·rintro σ H3 ⟨gs,o5,o6,rfl,s3,hr3,hg,gl,gl2⟩
   try walk_at "WP"
   rw[qC,zn]at hg;refine hN _ _ ⟨gs,_,_,_,rfl,s3,hr3,fun x=>?_,gl⟩;rw[hg,hf];constructor
   ·rintro(⟨k,hk,e,g⟩|⟨rfl,g⟩)
    ·exact⟨k,by omega,e,g⟩
    ·exact⟨i,yS i,eo.symm,g⟩
   ·rintro⟨k,hk,rfl,g⟩;by_cases z:k=i
    ·subst z;rw[eo]at g ⊢;exact .inr ⟨rfl,g⟩
    ·exact .inl ⟨k,by omega,rfl,g⟩
 ·rintro σ H2 ⟨fs,o4,o5,o6,rfl,s2,hr2,hf,fl⟩
  try walk_at "WP"
  refine q r fs H2 nr s2 hr2 (fun x=>?_) (by omega);rw[hf,gain_iff O t2];constructor
  ·rintro⟨k,hk,rfl,g⟩;exact⟨⟨by omega,by omega,by omega⟩,g⟩
  ·rintro⟨⟨h1,h2,h3⟩,g⟩;exact⟨((x-1)/2).toNat,by omega,by omega,g⟩
theorem ok_levels34 (T:Txt K mg):Cal P w K mg base 4 "_law_levels" ["_law_top","_law_most"] spLevels34:=by
 have B:=T.bl;have C_l_gains:=Jn (P:=P) (w:=w) (base:=base) T;refine yc (T.t 21 _ rfl) sc_l_levels (fun vs H Q E h=>?_) (fun f cdv A outer s H vs Q E hr h=>?_)
 ·obtain⟨_,_,_,_,rfl,_⟩:=h;rfl
 obtain⟨N,top,most,M,rfl,t1,t2,hM,M1,M99,B1,B2,m4,hN0,q⟩:=h;refine⟨_,((@pss_cons _ _ _ _ _ (@ps_set _ _ (2) _ _ _ _ sc_l_levels.nd rfl (by walk_at "o") (@pe_lst _ _ _ _ pa_nil) (by rfl) (by walk_at "o")) (@pss_cons _ _ _ _ _ (@ps_set _ _ (3) _ _ _ _ sc_l_levels.nd rfl (by walk_at "o") (@pe_lst _ _ _ _ (@pa_cons _ _ _ _ _ (@pe_tup _ _ _ _ _ (@pa_cons _ _ _ _ _ pe_int pa_nil (by rfl))) pa_nil (by rfl))) (by rfl) (by walk_at "o")) (@pss_cons _ _ _ _ _ (@ps_for _ _ _ _ _ _ _ _ PassesOwn.never rfl (@JU _ _ _ _ _ _ rfl B.range (@pa_cons _ _ _ _ _ (pv 1) pa_nil (by rfl)) (by rfl)) (@pg_name _ _ (4) _ sc_l_levels.nd rfl (by walk_at "o") (by walk_at "o")) (@pss_cons _ _ _ _ _ (@xp _ _ _ _ (@pe_bm _ _ _ _ _ _ _ _ _ _ _ _ yB yo yn xj (pv 2) (@pa_cons _ _ _ _ _ (pv 3) pa_nil (by rfl)) (by rfl) (by rfl) (by rfl) (by rfl) (by rfl)) (by rfl)) (@pss_cons _ _ _ _ _ (@ps_set _ _ (5) _ _ _ _ sc_l_levels.nd rfl (by walk_at "o") pe_dnewT (by rfl) (by walk_at "o")) (@pss_cons _ _ _ _ _ (@ps_for _ _ _ _ _ _ _ _ PassesOwn.never rfl (@pi_list _ _ _ _ (pv 3)) (@pg_name _ _ (6) _ sc_l_levels.nd rfl (by walk_at "o") (by walk_at "o")) (@pss_cons _ _ _ _ _ (@ps_setCompC _ _ _ _ (7) _ _ _ _ _ _ _ (["_law_own","_law_some"]) (1) ([6]) _ _ _ rfl (@pi_list _ _ _ _ (@pe_cal _ _ _ _ _ _ _ _ _ _ C_l_gains hr rfl (@pa_cons _ _ _ _ _ (pv 6) (@pa_cons _ _ _ _ _ (pv 0) pa_nil (by rfl)) (by rfl)) (by decide) (by rfl) (by rfl))) (fun nd C s H fp=>⟨(@pg_name _ _ (0) _ nd rfl (by walk_at "o") (by walk_at "o")),(@xk _ _ _ (@pt_cmpR _ _ _ _ _ _ _ _ (@JW _ K (by rfl)) (pv 0) (pv 1) (by with_unfolding_all rfl))),(pv 0)⟩) (by decide +kernel) (by first|rfl|decide +kernel) (by first|rfl|decide +kernel) rfl (fun _=>rfl) sc_l_levels.nd rfl (by walk_at "o") (by walk_at "o") rfl) (@pss_cons _ _ _ _ _ (@ps_for _ _ _ _ _ _ _ _ PassesOwn.never rfl (@pi_list _ _ _ _ (pv 7)) (@pg_name _ _ (8) _ sc_l_levels.nd rfl (by walk_at "o") (by walk_at "o")) (@pss_one _ _ _ (@ps_dpT _ _ _ _ _ _ _ _ _ (@hu_of _ _ hr) (pv 5) (@pe_callTy _ _ _ _ _ _ _ _ _ y7 rfl B.tuple xx (@pa_cons _ _ _ _ _ (@pe_callB _ _ _ _ _ _ _ _ _ (@call_sortT _ K (by rfl)) rfl B.sorted bo_sorted (@pa_cons _ _ _ _ _ (@pe_op _ _ _ _ _ _ _ _ (@op_catCK _ K (by rfl)) (pv 6) (@pe_tup _ _ _ _ _ (@pa_cons _ _ _ _ _ (pv 8) pa_nil (by rfl)))) pa_nil (by rfl)) (by decide) (by decide) (by rfl) (by rfl)) pa_nil (by rfl)) (by decide) (by decide) (by rfl) (by rfl)) pe_bl rfl)) (by intro _ ;rfl)) (@pss_one _ _ _ (@ps_if _ _ _ _ _ _ _ _ (@pt_cmpR _ _ _ _ _ _ _ _ (@op_eqE _ _ hr) (pv 7) (@pe_lst _ _ _ _ pa_nil) (@nomark _ _ (by decide) (by decide))) (@pss_one _ _ _ (@ps_dpT _ _ _ _ _ _ _ _ _ (@hu_of _ _ hr) (pv 5) (pv 6) pe_bl rfl)) pss_nil)))) (by intro _ ;rfl)) (@pss_one _ _ _ (@ps_if _ _ _ _ _ _ _ _ (@pt_cmpR _ _ _ _ _ _ _ _ op_lt (@pe_op _ _ _ _ _ _ _ _ op_add (pv 4) pe_int) (pv 1) (@nomark _ _ (by decide) (by decide))) (@pss_one _ _ _ (@ps_set _ _ (3) _ _ _ _ sc_l_levels.nd rfl (by walk_at "o") (@pe_callB _ _ _ _ _ _ _ _ _ (@call_sortDT _ _ hr) rfl B.sorted bo_sorted (@pa_cons _ _ _ _ _ (pv 5) pa_nil (by rfl)) (by decide) (by decide) (by rfl) (by rfl)) (by rfl) (by walk_at "o"))) pss_nil))))) (by intro _ ;rfl)) (@pss_one _ _ _ (@ps_ret _ _ _ _ (pv 2))))))),?_⟩
 walk_at "S"
 refine zh fun R_ hR_=>?_
 try walk_at "WP"
 intro la nla;refine zx nla fun H1 s1 h1=>?_;(try (walk_at "WP"));(try (refine zf hR_ ?_));(try (refine zh fun R_ hR_=>?_));(try (walk_at "WP"))
 intro t nt;refine zx nt fun H2 s2 h2=>?_;intro se nse;refine zx nse fun H3 s3 h3=>?_;have s13:=(s1.trans s2).trans s3;(try (walk_at "WP"));(try (refine zf hR_ ?_));(try (refine zh fun R_ hR_=>?_));(try (walk_at "WP"))
 refine⟨by omega,by omega,?_⟩;rw[zV];refine forR (J34 N la top most M H) ⟨se,_,[],[[1]],[],_,_,_,_,_,rfl,s13,s3 _ _ (s2 _ _ h1),AllD.nil,rfl,(fun L h=>by cases h),h3,hN0 _ ((s1.trans s2).free nse),(ne_of_none (s2 _ _ h1) nse).symm,hts_nil.snoc (s3 _ _ h2),(fun S h=>by rw[zE.mp h];exact⟨⟨⟨fun x hx=>by rw[zE.mp hx];decide,fun x hx=>by rw[zE.mp hx];decide,fun x hx=>by rw[zE.mp hx];exact t1⟩,by simp⟩,by simp⟩),(by simp),(fun _=>by simp)⟩ ?_ ?_
 ·rintro i σ H4 N1 hi ⟨se,us,lvs,Ss,Ls,o5,o6,o7,o8,o9,rfl,s4,hla,hA,lL,LO,hse,n1,n2,hS,SO,S0,cS⟩ hN;have Mi:M^i<=1000:=zL (qN M1 (by omega)) B1;have Mi1:M^i*M<=5000:=by rw[<-Nat.pow_succ];exact zL (qN M1 (by omega)) B2
  have cS:=cS hi;have ul:=hS.len;have al:=hA.1;rw[qC]at al;refine seq_inG fun R_ hR_=>?_
  try walk_at "WP"
  refine⟨jB hla,lvs,hla,jb (by omega),?_⟩;have C5:Chg la H4 (upd H4 la (.lst (lvs++[V.ref se]))):=Chg.upd _;have h5:upd H4 la (.lst (lvs++[V.ref se])) la=some (.lst (lvs++[V.ref se])):=upd_same;have s5:Same H (upd H4 la (.lst (lvs++[V.ref se]))):=yE nla s4;have hse5:=C5 _ _ n2 hse;have hS5:=hS.chgL hla C5;have A5:AllD (IsLD (fun q=>N q/\q≠la) (upd H4 la (.lst (lvs++[V.ref se])))) (lvs++[V.ref se]) ((Ls++[Ss]).map iL):=by
   rw[z9];exact(hA.imp fun u d r=>r.chg (fun q h=>h.2) hla C5).snoc ⟨se,us,rfl,⟨n1,n2⟩,hse5,d_hts hS5 (fun S h=>(SO S h).1) t1 t2,by omega⟩
  have LO5:∀L∈Ls++[Ss],L≠[]/\L.length<=1000/\∀S∈L,SetQ top S:=fun L h=>by
   rcases zK.mp h with y|y
   ·exact LO L y
   ·rw[zE.mp y];exact⟨S0,by omega,fun S h=>(SO S h).1⟩
  generalize upd H4 la (.lst (lvs++[V.ref se]))=H5 at h5 s5 hse5 hS5 A5;(try (walk_at "WP"));(try (refine zf hR_ ?_));(try (refine zh fun R_ hR_=>?_));(try (walk_at "WP"))
  intro d nd;refine zx nd fun H6 s6 h6=>?_;(try (walk_at "WP"));(try (refine zf hR_ ?_));(try (refine zh fun R_ hR_=>?_));(try (walk_at "WP"))
  have hse6:=s6 _ _ hse5;refine⟨⟨_,SqL.of hse6⟩,?_⟩;refine forL (xs:=us) (fun j σ H'=>∃(kvs:List (List Key×V)) (Gs:List (List Int)) (o7 o8 o9:Option V),σ=[some (.int top),some (.int (most:Nat)),some (.ref la),some (.ref se),some (.int (0+(i:Int))),some (.ref d),o7,o8,o9]/\Same H5 H'/\H' d=some (.dT kvs)/\KsT kvs Gs/\(∀S∈Gs,SetQ top S/\S≠[])/\Gs.length<=j*M/\(0<j->Gs≠[])) ⟨[],[],_,_,_,rfl,s6,h6,rfl,(fun S h=>by cases h),zS _,fun h=>absurd h (zt 0)⟩ ?_ ?_ ?_
  ·rintro j σ H' _ ⟨_,_,_,_,_,rfl,s',_⟩;exact SqL.of (s' _ _ hse5)
  ·rintro j v σ H7 N2 hv ⟨kvs,Gs,o7,o8,o9,rfl,s7,h7,ks,GO,gl,_⟩ hN2;have hj:j<Ss.length:=by rw[<-ul];exact(qB.mp hv).1
   have ej:=qA hj;obtain⟨y,hy1,hy2⟩:=hS5.at_ j _ ej;obtain⟨SOj,SNj⟩:=SO _ (qE ej);generalize Ss[j]=S0_ at hy2 SOj SNj;rw[hv]at hy1;cases hy1
   have sl:=SOj.len t1 t2;have jM:j*M+M<=5000:=by
    rw[<-Nat.succ_mul];exact zL (Nat.mul_le_mul_right M (by omega)) Mi1
   have yd:y≠d:=ne_of_none hy2 nd;refine seq_inG fun R_ hR_=>?_
   try walk_at "WP"
   refine⟨y,S0_,top,rfl,s7 _ _ hy2,SOj.od,sl,t1,t2,fun g fs H8 ng s8 hg hf fl=>?_⟩;refine⟨g,rfl,⟨_,SqL.of hg⟩,?_⟩;have s78:=s7.trans s8;refine JN (f:=notV S0_) (SqL.of hg) (by rw[qC];exact xI (by omega)) (fun x H' R hx hS' hR=>?_) (fun mo nmo=>?_)
   ·obtain⟨o,ho,rfl⟩:=qP.mp hx;rw[show ∀o8 o9,yF [6] [some (V.int top),some (V.int (most:Nat)),some (V.ref la),some (V.ref se),some (V.int (0+(i:Int))),some (V.ref d),some (V.ref y),o8,o9]=[some (V.ref y)] from fun _ _=>rfl]
    try walk_at "WP"
    refine⟨y,_,rfl,.inr (SqT.of ((s78.trans hS') _ _ hy2)),rfl,yR S0_,?_⟩;rw[if_pos rfl,show inV (V.int o) (iT S0_)=decide (o∈S0_) from Je S0_ o];by_cases z:o∈S0_
    ·rw[show notV S0_ (V.int o)=none from if_pos z]at hR;rw[decide_eq_true z];exact⟨_,rfl,hR⟩
    ·rw[show notV S0_ (V.int o)=some (V.int o) from if_neg z]at hR;rw[decide_eq_false z];exact⟨_,rfl,hR⟩
   rw[JQ];have ml:(fs.filter fun o=>decide (o∉S0_)).length<=M:=zL (yh _ _) (by omega);have mm:∀x∈fs.filter (fun o=>decide (o∉S0_)),(x%2=1/\1<=x/\x<=top)/\x∉S0_:=fun x hx=>by
    obtain⟨a,b⟩:=zk.mp hx;exact⟨((gain_iff SOj.od t2).mp ((hf x).mp a)).1,of_decide_eq_true b⟩
   generalize fs.filter (fun o=>decide (o∉S0_))=ms at ml mm;refine zx nmo fun H9 s9 h9=>?_;have s79:=s8.trans s9;have h79:=s79 _ _ h7;have mod:mo≠d:=(ne_of_none (s8 _ _ h7) nmo).symm;(try (walk_at "WP"));(try (refine zf hR_ ?_));(try (refine zh fun R_ hR_=>?_));(try (walk_at "WP"))
   refine⟨⟨_,SqL.of h9⟩,?_⟩;refine forL (xs:=ms.map V.int) (fun u σ H'=>∃(kvs:List (List Key×V)) (Gs:List (List Int)) (o9:Option V),σ=[some (.int top),some (.int (most:Nat)),some (.ref la),some (.ref se),some (.int (0+(i:Int))),some (.ref d),some (.ref y),some (.ref mo),o9]/\Chg d H9 H'/\H' d=some (.dT kvs)/\KsT kvs Gs/\(∀S∈Gs,SetQ top S/\S≠[])/\Gs.length<=j*M+u/\(0<u->Gs≠[])) ⟨kvs,Gs,_,rfl,Chg.refl,h79,ks,GO,gl,fun h=>absurd h (zt 0)⟩ ?_ ?_ ?_
   ·rintro u σ H' _ ⟨_,_,_,rfl,C,_⟩;exact SqL.of (C _ _ mod h9)
   ·rintro u v σ H10 N3 hv2 ⟨kvs,Gs,o9,rfl,C10,h10,ks,GO,gl2,_⟩ hN3;obtain⟨x,hx,rfl⟩:=j6 hv2;have xm:=qE hx;obtain⟨xo,xn⟩:=mm x xm;have hu:u<ms.length:=(qB.mp hx).1;have y10:=C10 _ _ yd ((s7.trans s79) _ _ hy2)
    try walk_at "WP"
    intro o no;refine zx no fun H11 s11 h11=>?_;refine⟨y,o,_,[V.int x],rfl,rfl,SqT.of (s11 _ _ y10),SqT.of h11,zZ (by unfold iT;rw[qC];simp;omega),fun r H12 s12 h12=>?_⟩;dsimp only;have h12:SqT K H12 r ((S0_++[x]).map V.int):=by rw[z9];exact h12
    refine⟨r,S0_++[x],rfl,h12,by rw[qF];simp;omega,fun l nl=>⟨l,rfl,_,.inl ⟨SqL.of upd_same,fun r2 nr=>?_⟩⟩⟩;have s1012:=(s11.trans s12).trans ((zU nl (.lst ((sortI (S0_++[x])).map V.int))).trans (zU nr (.tup ((sortI (S0_++[x])).map V.int))));refine⟨sortI (S0_++[x]),kvs,s1012 _ _ h10,rfl,by rw[ks.len];exact y9 (m:=5000) (by omega) (by decide),?_⟩;refine hN3 _ _ ⟨_,_,_,rfl,(C10.trans s1012.chg).trans (Chg.upd _),upd_same,ks.put _ _,fun S h=>?_,?_,fun _=>?_⟩
    ·split at h
     ·exact GO S h
     ·rcases zK.mp h with e|e
      ·exact GO S e
      ·rw[zE.mp e];exact⟨setq_ins SOj xo xn,sort_ne⟩
    ·split
     ·omega
     ·rw[qF,zH];omega
    ·split
     ·rename_i h
      exact List.ne_nil_of_mem h
     ·simp
   ·rintro σ H10 ⟨kvs,Gs,o9,rfl,C10,h10,ks,GO,gl2,g0⟩;rw[qC]at gl2 g0;(try (walk_at "WP"));(try (refine zf hR_ ?_));(try (refine zh fun R_ hR_=>?_));(try (walk_at "WP"))
    intro e ne;refine zx ne fun H11 s11 h11=>?_;refine⟨_,SqL.of (s11 _ _ (C10 _ _ mod h9)),SqL.of h11,?_⟩
    try walk_at "WP"
    rw[qC];have S11:=(s7.trans s79);have h11d:=s11 _ _ h10;have sm:Same H5 H11:=(same_chg nd S11 C10).trans s11;have y11:=sm _ _ hy2;refine yw (fun z=>?_) (fun z=>?_)
    ·refine⟨S0_,kvs,h11d,y11,by rw[ks.len];exact y9 (m:=5000) (by omega) (by decide),?_⟩;refine hN2 _ _ ⟨_,_,_,_,_,rfl,yE nd sm,upd_same,ks.put _ _,fun S h=>?_,?_,fun _=>?_⟩
     ·split at h
      ·exact GO S h
      ·rcases zK.mp h with e|e
       ·exact GO S e
       ·rw[zE.mp e];exact⟨SOj,SNj⟩
     ·have:=Nat.add_mul j 1 M;split
      ·omega
      ·rw[qF,zH];omega
     ·split
      ·rename_i h
       exact List.ne_nil_of_mem h
      ·simp
    ·refine hN2 _ _ ⟨kvs,Gs,_,_,_,rfl,sm,h11d,ks,GO,?_,fun _=>g0 (by omega)⟩;have:=Nat.add_mul j 1 M;omega
  ·rintro σ H7 ⟨kvs,Gs,o7,o8,o9,rfl,s7,h7,ks,GO,gl,g0⟩;rw[ul]at gl g0;have gl3:Gs.length<=M^i*M:=zL gl (Nat.mul_le_mul_right M cS);have g0:=g0 (yx.mpr S0);have A7:=A5.imp fun u d r=>r.same s7;(try (walk_at "WP"));(try (refine zf hR_ ?_));(try (refine zh fun R_ hR_=>?_));(try (walk_at "WP"))
   refine yw (fun z=>?_) (fun z=>?_)
   ·refine⟨d,kvs,Gs,rfl,h7,ks,fun S h=>?_,?_,fun sl ys Rs nsl hts pm=>?_⟩
    ·exact(GO S h).2
    ·have:M^(i+1)<=1000:=zL (qN M1 (by omega)) B1;rw[Nat.pow_succ]at this;omega
    have s10:=zU nsl (.lst ys);have s710:=s7.trans s10;exact hN _ _ ⟨sl,ys,_,Rs,Ls++[Ss],_,_,_,_,_,rfl,s5.trans s710,s710 _ _ h5,A7.imp fun u d r=>r.same s10,by rw[qF,lL];rfl,LO5,upd_same,hN0 _ ((s5.trans s7).free nsl),(ne_of_none (s7 _ _ h5) nsl).symm,hts.same s10,fun S h=>GO S (pm.mem_iff.mp h),fun e=>g0 (by rw[e]at pm;exact List.perm_nil.mp pm.symm),fun _=>by rw[pm.length_eq,Nat.pow_succ];exact gl3⟩
   ·exact hN _ _ ⟨se,us,_,Ss,Ls++[Ss],_,_,_,_,_,rfl,s5.trans s7,s7 _ _ h5,A7,by rw[qF,lL];rfl,LO5,s7 _ _ hse5,n1,n2,hS5.same s7,SO,S0,fun h=>by omega⟩
 ·rintro σ H4 ⟨se,us,lvs,Ss,Ls,o5,o6,o7,o8,o9,rfl,s4,hla,hA,lL,LO,_⟩;(try (walk_at "WP"));(try (refine zf hR_ ?_));(try (refine zh fun R_ hR_=>?_));(try (walk_at "WP"))
  have al:=hA.1;rw[qC]at al;exact q la Ls H4 nla s4 ⟨lvs,hla,hA⟩ lL LO
theorem ok_joined34 (T:Txt K mg):Cal P w K mg base 1 "_law_joined" ["_law_level"] spJoined34:=by
 have B:=T.bl;refine yc (T.t 22 _ rfl) sc_l_joined (fun vs H Q E h=>?_) (fun f cdv A outer s H vs Q E hr h=>?_)
 ·obtain⟨_,_,_,_,rfl,_⟩:=h;rfl
 obtain⟨l,us,L,top,rfl,h,ll,t1,t2,q⟩:=h;refine⟨_,((@pss_cons _ _ _ _ _ (@ps_set _ _ (1) _ _ _ _ sc_l_joined.nd rfl (by walk_at "o") (@pe_lst _ _ _ _ pa_nil) (by rfl) (by walk_at "o")) (@pss_cons _ _ _ _ _ (@ps_for _ _ _ _ _ _ _ _ PassesOwn.never rfl (@pi_range3 _ _ _ _ _ _ _ _ rfl B.range (@pa_cons _ _ _ _ _ pe_int (@pa_cons _ _ _ _ _ (@pe_callB _ _ _ _ _ _ _ _ _ call_lenM rfl B.len bo_len (@pa_cons _ _ _ _ _ (pv 0) pa_nil (by rfl)) (by decide) (by decide) (by rfl) (by rfl)) (@pa_cons _ _ _ _ _ pe_int pa_nil (by rfl)) (by rfl)) (by rfl)) (by rfl) (by rfl)) (@pg_name _ _ (2) _ sc_l_joined.nd rfl (by walk_at "o") (by walk_at "o")) (@pss_cons _ _ _ _ _ (@ps_set _ _ (3) _ _ _ _ sc_l_joined.nd rfl (by walk_at "o") (@pe_ix _ _ _ _ _ _ _ ix_M (pv 0) (pv 2) (fun _ _=>rfl)) (by rfl) (by walk_at "o")) (@pss_mid _ _ _ _ _ (@ps_if _ _ _ _ _ _ _ _ (@pt_cmpR _ _ _ _ _ _ _ _ op_lt (@pe_op _ _ _ _ _ _ _ _ op_add (pv 2) pe_int) (@pe_callB _ _ _ _ _ _ _ _ _ call_lenM rfl B.len bo_len (@pa_cons _ _ _ _ _ (pv 0) pa_nil (by rfl)) (by decide) (by decide) (by rfl) (by rfl)) (@nomark _ _ (by decide) (by decide))) (@pss_one _ _ _ (@ps_set _ _ (3) _ _ _ _ sc_l_joined.nd rfl (by walk_at "o") (@pe_op _ _ _ _ _ _ _ _ (@op_catCK _ K (by rfl)) (pv 3) (@pe_ix _ _ _ _ _ _ _ ix_M (pv 0) (@pe_op _ _ _ _ _ _ _ _ op_add (pv 2) pe_int) (fun _ _=>rfl))) (by rfl) (by walk_at "o"))) pss_nil) (@pss_one _ _ _ (@xp _ _ _ _ (@pe_bm _ _ _ _ _ _ _ _ _ _ _ _ yB yo yn xj (pv 1) (@pa_cons _ _ _ _ _ (@pe_callTy _ _ _ _ _ _ _ _ _ y7 rfl B.tuple xx (@pa_cons _ _ _ _ _ (@pe_callB _ _ _ _ _ _ _ _ _ (@call_sortW _ w rfl (by rfl)) rfl B.sorted bo_sorted (@pa_cons _ _ _ _ _ (@pe_callTy _ _ _ _ _ _ _ _ _ (@Jm _ w K rfl (by rfl) (by rfl)) rfl B.set bo_set (@pa_cons _ _ _ _ _ (pv 3) pa_nil (by rfl)) (by decide) (by decide) (by rfl) (by rfl)) pa_nil (by rfl)) (by decide) (by decide) (by rfl) (by rfl)) pa_nil (by rfl)) (by decide) (by decide) (by rfl) (by rfl)) pa_nil (by rfl)) (by rfl) (by rfl) (by rfl) (by rfl) (by rfl)) (by rfl))))) (by intro _ ;rfl)) (@pss_one _ _ _ (@ps_ret _ _ _ _ (pv 1)))))),?_⟩
 walk_at "S"
 try walk_at "WP"
 intro r nr;have s1:=zU nr (.lst []);have ul:=h.hts.len;refine⟨_,s1 _ _ h.lst,0,_,2,⟨rfl,rfl,rfl⟩,⟨by decide,by decide,by omega,by omega,rfl⟩,?_⟩;have st:((stepN 0 (us.length:Nat) 2:Nat):Int)=((us.length:Nat)+1:Int)/2:=by
  rw[J9];unfold Builtin.Range.rangeSize;rw[if_pos (by decide)];split<;>omega
 have l0:0<L.length:=yx.mpr h.ne;refine forR3 (fun i σ H2=>∃(fs:List V) (L':List (List Int)) (o3 o4:Option V),σ=[some (.ref l),some (.ref r),o3,o4]/\Same H H2/\H2 r=some (.lst fs)/\HTs iT H2 fs L'/\(∀S∈L',SetQ top S)/\L'.length=i) ⟨[],[],_,_,rfl,s1,upd_same,hts_nil,(fun S h=>by cases h),rfl⟩ ?_ ?_
 ·rintro i σ H2 N hi ⟨fs,L',o3,o4,rfl,s2,hr2,hf,LO,ll'⟩ hN;have hl2:=s2 _ _ h.lst;have hu2:=h.hts.same s2;have e1:=qA (l:=L) (i:=2*i) (by omega);obtain⟨x,x1,x2⟩:=hu2.at_ _ _ e1;have o1:=h.ok _ (qE e1);generalize L[2*i]=S1 at x2 o1;have l1:=o1.len t1 t2;have ea:atI us (0+(i:Int)*2)=some (.ref x):=by
   rw[show(0:Int)+(i:Int)*2=((2*i:Nat):Int) by omega];exact yM x1
  (iterate 5 ((try (walk_at "WP"));(try (simp only[hl2,ea,qJs,qJt,qJl,qJd,exists_eq_left',exists_eq_left]))));(try (walk_at "WP"))
  refine jP (fun σ H3=>∃(y:Addr) (xs:List Int),σ=[some (.ref l),some (.ref r),some (.int (0+(i:Int)*2)),some (.ref y)]/\Same H2 H3/\SqT K H3 y (xs.map V.int)/\OdIn xs top/\xs.length<=100) (fun M hM=>?_) ?_
  ·(iterate 5 ((try (walk_at "WP"));(try (simp only[hl2,qJs,qJt,qJl,qJd,exists_eq_left',exists_eq_left]))));(try (walk_at "WP"))
   refine yw (fun z=>?_) (fun z=>hM _ _ ⟨x,S1,rfl,Same.refl _,SqT.of x2,o1.od,by omega⟩);have e3:=qA (l:=L) (i:=2*i+1) (by omega);obtain⟨x',x3,x4⟩:=hu2.at_ _ _ e3;have o2:=h.ok _ (qE e3);generalize L[2*i+1]=S2 at x4 o2;have l2:=o2.len t1 t2;refine⟨.ref x',?_,?_⟩
   ·rw[show(0:Int)+(i:Int)*2+1=((2*i+1:Nat):Int) by omega];exact yM x3
   refine⟨x,x',_,_,rfl,rfl,SqT.of x2,SqT.of x4,zZ (by unfold iT;rw[qC,qC];omega),fun u H3 s3 h3=>?_⟩;refine hM _ _ ⟨u,S1++S2,rfl,s3,by rw[z9];exact h3,⟨fun z hz=>?_,fun z hz=>?_,fun z hz=>?_⟩,by rw[qF];omega⟩<;>rcases zK.mp hz with e|e
   ·exact o1.od.odd z e
   ·exact o2.od.odd z e
   ·exact o1.od.lo z e
   ·exact o2.od.lo z e
   ·exact o1.od.hi z e
   ·exact o2.od.hi z e
  ·rintro σ H3 ⟨y,xs,rfl,s3,hy,O,xl⟩
   try walk_at "WP"
   have hr3:=s3 _ _ hr2;have df:(xs.foldl PyProof.Rows.step_dedup []).length<=50:=dedq_few O t1 t2;refine⟨jB hr3,?_⟩;refine⟨y,xs,rfl,hy,by omega,fun b nb=>⟨b,_,rfl,upd_same,y9 df (by decide),fun l nl=>⟨l,rfl,_,.inl ⟨SqL.of upd_same,fun r2 nr2=>?_⟩⟩⟩⟩;have s4:=((zU nb (SetE w b (xs.foldl PyProof.Rows.step_dedup []))).trans (zU nl (.lst ((sortI (ded xs)).map V.int)))).trans (zU nr2 (.tup ((sortI (ded xs)).map V.int)));have hr4:=s4 _ _ hr3;have h4:(upd (upd (upd H3 b (SetE w b (xs.foldl PyProof.Rows.step_dedup []))) l (.lst ((sortI (ded xs)).map V.int))) r2 (.tup ((sortI (ded xs)).map V.int))) r2=some (.tup (iT (sortI (ded xs)))):=upd_same;have hf4:=(hf.same s3).same s4;have s24:=s3.trans s4;have r2r:r2≠r:=(ne_of_none (((zU nb (SetE w b (xs.foldl PyProof.Rows.step_dedup []))).trans (zU nl (.lst ((sortI (ded xs)).map V.int)))) _ _ hr3) nr2).symm;refine⟨fs,hr4,jb (by have:=hf.len;omega),?_⟩;have C5:∀o,Chg r (upd (upd (upd H3 b (SetE w b (xs.foldl PyProof.Rows.step_dedup []))) l (.lst ((sortI (ded xs)).map V.int))) r2 (.tup ((sortI (ded xs)).map V.int))) (upd (upd (upd (upd H3 b (SetE w b (xs.foldl PyProof.Rows.step_dedup []))) l (.lst ((sortI (ded xs)).map V.int))) r2 (.tup ((sortI (ded xs)).map V.int))) r o):=fun o=>Chg.upd o;refine hN _ _ ⟨_,L'++[sortI (ded xs)],_,_,rfl,yE nr (s2.trans s24),upd_same,(hf4.chgL hr4 (C5 _)).snoc (C5 _ _ _ r2r h4),fun S hS=>?_,by rw[qF,ll'];rfl⟩;rcases zK.mp hS with e|e
   ·exact LO S e
   ·rw[zE.mp e];exact zAH O
 ·rintro σ H2 ⟨fs,L',o3,o4,rfl,s2,hr2,hf,LO,ll'⟩
  try walk_at "WP"
  exact q r fs L' H2 nr s2 ⟨hr2,hf,LO,fun e=>by rw[e]at ll';simp at ll';omega⟩ (by omega)
theorem ok_ordered34 (T:Txt K mg):Cal P w K mg base 2 "_law_ordered" ["_law_pen_here","_law_level"] (spOrdered34 K):=by
 have B:=T.bl;have C_l_pick:=J2 (P:=P) (w:=w) (base:=base) T;refine yc (T.t 23 _ rfl) sc_l_ordered (fun vs H Q E h=>?_) (fun f cdv A outer s H vs Q E hr h=>?_)
 ·obtain⟨_,_,_,_,_,_,_,_,rfl,_⟩:=h;rfl
 obtain⟨p,a,l,ns,c,us,L,top,rfl,hP,hS,h63,hc,lp,h,ll,q⟩:=h;refine⟨_,((@pss_cons _ _ _ _ _ (@ps_set _ _ (2) _ _ _ _ sc_l_ordered.nd rfl (by walk_at "o") (@pe_cal _ _ _ _ _ _ _ _ _ _ C_l_pick hr rfl (@pa_cons _ _ _ _ _ (pv 0) (@pa_cons _ _ _ _ _ pe_int pa_nil (by rfl)) (by rfl)) (by decide) (by rfl) (by rfl)) (by rfl) (by walk_at "o")) (@pss_cons _ _ _ _ _ (@ps_set _ _ (3) _ _ _ _ sc_l_ordered.nd rfl (by walk_at "o") (@pe_callTy _ _ _ _ _ _ _ _ _ call_list_of rfl B.list bo_list (@pa_cons _ _ _ _ _ (pv 1) pa_nil (by rfl)) (by decide) (by decide) (by rfl) (by rfl)) (by rfl) (by walk_at "o")) (@pss_mid _ _ _ _ _ (@ps_if _ _ _ _ _ _ _ _ (@pt_cmpR _ _ _ _ _ _ _ _ op_eq (@pe_op _ _ _ _ _ _ _ _ op_mod (pv 2) pe_int) pe_int (@nomark _ _ (by decide) (by decide))) (@pss_one _ _ _ (@ps_set _ _ (3) _ _ _ _ sc_l_ordered.nd rfl (by walk_at "o") (@pe_revL _ _ _ _ _ _ _ (pv 3) (@xE _ _ _ (@JG _ _ _ _ _ _ jN pe_int))) (by rfl) (by walk_at "o"))) pss_nil) (@pss_cons _ _ _ _ _ (@ps_if _ _ _ _ _ _ _ _ (@pt_cmpR _ _ _ _ _ _ _ _ Jb (pv 2) pe_int (@nomark _ _ (by decide) (by decide))) (@pss_one _ _ _ (@ps_set _ _ (3) _ _ _ _ sc_l_ordered.nd rfl (by walk_at "o") (@pe_op _ _ _ _ _ _ _ _ op_cat (@pe_lst _ _ _ _ (@pa_cons _ _ _ _ _ (@pe_tup _ _ _ _ _ pa_nil) pa_nil (by rfl))) (pv 3)) (by rfl) (by walk_at "o"))) pss_nil) (@pss_one _ _ _ (@ps_ret _ _ _ _ (pv 3)))))))),?_⟩
 walk_at "S"
 try walk_at "WP"
 refine y6 hP hS h63 (by omega) (by decide) (by decide) fun y H1 y0 y1 P1 S1 C1=>?_;have h1:=C1 _ _ lp h.lst;obtain⟨_,hp⟩:=hP.lst;have hu1:=h.hts.chgL hp C1
 try walk_at "WP"
 refine⟨_,.inl (SqL.of h1),fun l1 nl1=>?_⟩;have l1p:l1≠p:=P1.ne nl1;have l10:H l1=none:=C1.new l1p nl1;refine zx nl1 fun H2 s2 h2=>?_;have hu2:=hu1.same s2;refine jP (fun σ H3=>∃(l2:Addr) (ws:List V) (L':List (List Int)),σ=[some (.ref p),some (.ref l),some (.int y),some (.ref l2)]/\Same H1 H3/\LevH H3 l2 ws L' top/\L'.length<=1000/\H1 l2=none) (fun N hN=>?_) ?_
 ·try walk_at "WP"
  refine yw (fun z=>?_) (fun z=>?_)
  ·refine⟨_,h2,fun l2 nl2=>?_⟩;refine zx nl2 fun H3 s3 h3=>?_;exact hN _ _ ⟨l2,_,L.reverse,rfl,s2.trans s3,⟨h3,(hu2.same s3).rev,fun S hS=>h.ok S (yl.mp hS),by simpa using h.ne⟩,by rw[zw];exact ll,s2.free nl2⟩
  ·exact hN _ _ ⟨l1,us,L,rfl,s2,⟨h2,hu2,h.ok,h.ne⟩,ll,nl1⟩
 ·rintro σ H3 ⟨l2,ws,L',rfl,s3,h3,ll3,nl2⟩
  try walk_at "WP"
  have s13:Chg p H H3:=C1.trans s3.chg;have nH:∀{q:Addr},H1 q=none->H q=none:=fun {q} h=>C1.new (P1.ne h) h;refine yw (fun z=>?_) (fun z=>?_)
  ·intro t nt;refine zx nt fun H4 s4 h4=>?_;intro e ne;refine zx ne fun H5 s5 h5=>?_;refine⟨ws,s5 _ _ (s4 _ _ h3.lst),szL (by have:=h3.hts.len;omega),fun r nr=>?_⟩;refine zx nr fun H6 s6 h6=>?_;have s46:=(s4.trans s5).trans s6;have k1:HTs iT H6 [V.ref t] [[]]:=hts_nil.snoc (s6 _ _ (s5 _ _ h4));exact q r _ ([[]]++L') H6 (nH (((s3.trans s4).trans s5).free nr)) (s13.trans s46.chg) ((P1.same s3).same s46) ((S1.same s3).same s46) ⟨h6,k1.app (h3.hts.same s46),fun S hS=>(zD.mp hS).elim (fun e=>e ▸ setq_nil) (h3.ok S),by simp⟩ (by rw[qF];simp;omega)
  ·exact q l2 ws L' H3 (nH nl2) s13 (P1.same s3) (S1.same s3) h3 (by omega)
theorem ok_isset34 (T:Txt K mg):Cal P w K mg base 1 "_law_is_set" ["_law_thing","_law_top"] spIsSet34:=by
 have B:=T.bl;refine yc (T.t 27 _ rfl) sc_l_is_set (fun vs H Q E h=>?_) (fun f cdv A outer s H vs Q E hr h=>?_)
 ·obtain⟨_,_,_,_,rfl,_⟩:=h;rfl
 obtain⟨N,v,d,top,rfl,hd,t1,t2,q⟩:=h;refine⟨_,((@pss_cons _ _ _ _ _ (@ps_if _ _ _ _ _ _ _ _ (@pt_not _ _ _ _ (@pt_val _ _ _ (@pe_callB _ _ _ _ _ _ _ _ _ call_isI rfl B.isinstance bo_isinstance (@pa_cons _ _ _ _ _ (pv 0) (@pa_cons _ _ _ _ _ (@pe_bltn _ _ (.ty "tuple") _ _ rfl B.tuple xx rfl (by decide) (by decide)) pa_nil (by rfl)) (by rfl)) (by decide) (by decide) (by rfl) (by rfl)) (by intro _ ;rfl))) (@pss_one _ _ _ (@ps_ret _ _ _ _ pe_bl)) pss_nil) (@pss_cons _ _ _ _ _ (@ps_for _ _ _ _ _ _ _ _ PassesOwn.never rfl (@pi_tup _ _ _ _ (pv 0)) (@pg_name _ _ (2) _ sc_l_is_set.nd rfl (by walk_at "o") (by walk_at "o")) (@pss_one _ _ _ (@ps_if _ _ _ _ _ _ _ _ (@PW.pt _ _ _ (@pw_or _ _ _ _ _ _ _ (@pt_not _ _ _ _ (@pt_val _ _ _ (@pe_callB _ _ _ _ _ _ _ _ _ call_isI rfl B.isinstance bo_isinstance (@pa_cons _ _ _ _ _ (pv 2) (@pa_cons _ _ _ _ _ (@pe_bltn _ _ (.ty "int") _ _ rfl B.int bo_int rfl (by decide) (by decide)) pa_nil (by rfl)) (by rfl)) (by decide) (by decide) (by rfl) (by rfl)) (by intro _ ;rfl))) (@pw_or _ _ _ _ _ _ _ (@pt_val _ _ _ (@pe_callB _ _ _ _ _ _ _ _ _ call_isI rfl B.isinstance bo_isinstance (@pa_cons _ _ _ _ _ (pv 2) (@pa_cons _ _ _ _ _ (@pe_bltn _ _ (.ty "bool") _ _ rfl B.bool bo_bool rfl (by decide) (by decide)) pa_nil (by rfl)) (by rfl)) (by decide) (by decide) (by rfl) (by rfl)) (by intro _ ;rfl)) (@pw_or _ _ _ _ _ _ _ (@pt_cmpR _ _ _ _ _ _ _ _ op_eq (@pe_op _ _ _ _ _ _ _ _ op_mod (pv 2) pe_int) pe_int (@nomark _ _ (by decide) (by decide))) (@pw_or1 _ _ _ _ (@pt_not _ _ _ _ (@pt_chain _ _ _ _ _ _ _ _ _ _ _ _ op_lt op_le pe_int (pv 2) (pv 1) (by with_unfolding_all rfl)))))))) (@pss_one _ _ _ (@ps_ret _ _ _ _ pe_bl)) pss_nil)) (by intro _ ;rfl)) (@pss_one _ _ _ (@ps_ret _ _ _ _ (@pe_cmpR _ _ _ _ _ _ _ _ (@op_eqD _ _ hr) (@pe_callTy _ _ _ _ _ _ _ _ _ call_list_of rfl B.list bo_list (@pa_cons _ _ _ _ _ (pv 0) pa_nil (by rfl)) (by decide) (by decide) (by rfl) (by rfl)) (@pe_callB _ _ _ _ _ _ _ _ _ (@call_sortW _ w rfl (by rfl)) rfl B.sorted bo_sorted (@pa_cons _ _ _ _ _ (@pe_callTy _ _ _ _ _ _ _ _ _ (@Jm _ w K rfl (by rfl) (by rfl)) rfl B.set bo_set (@pa_cons _ _ _ _ _ (pv 0) pa_nil (by rfl)) (by decide) (by decide) (by rfl) (by rfl)) pa_nil (by rfl)) (by decide) (by decide) (by rfl) (by rfl)) (@nomark _ _ (by decide) (by decide)))))))),?_⟩
 walk_at "S"
 refine zh fun R_ hR_=>?_
 try walk_at "WP"
 refine isT_SD hd (fun a xs e1 e2 hx=>?_) (fun no=>?_)
 ·subst e1;subst e2;obtain⟨_,_,_,fl,l300⟩:=hd;refine⟨true,rfl,?_⟩;rw[if_neg (by decide)];(try (walk_at "WP"));(try (refine zf hR_ ?_));(try (refine zh fun R_ hR_=>?_));(try (walk_at "WP"))
  refine⟨⟨_,SqT.of hx⟩,?_⟩;refine forT (xs:=xs) (fun i σ H'=>∃o2,σ=[some (.ref a),some (.int top),o2]/\H'=H/\∀x∈xs.take i,oddB top x=true) ⟨_,rfl,rfl,fun x h=>by rw[List.take_zero]at h;cases h⟩ ?_ ?_ ?_
  ·rintro i σ H' _ ⟨_,_,rfl,_⟩;exact SqT.of hx
  ·rintro i x σ H' N2 hxi ⟨o2,rfl,rfl,ho⟩ hN2;have xm:=qE hxi;have hf:=fl x xm;have bad:oddB top x=false->Q (.bl false) H':=fun e=>q false H' (Same.refl _) ⟨fun h=>(by cases h),fun h=>by rw[(setB_iff.mp h).1 x xm]at e;cases e⟩;cases x with
   |int n =>
    try walk_at "WP"
    by_cases z1:n%2=0
    ·rw[if_pos z1];exact bad (decide_eq_false fun h=>by omega)
    rw[if_neg z1];by_cases z2:0<n
    ·rw[if_pos z2];by_cases z3:n<=top
     ·rw[if_neg (not_not_intro z3)];refine hN2 _ _ ⟨_,rfl,rfl,fun y hy=>?_⟩;rw[zq,hxi]at hy;rcases zK.mp hy with e|e
      ·exact ho y e
      ·rw[zE.mp e];exact decide_eq_true ⟨by omega,z3,by omega⟩
     ·rw[if_pos z3];exact bad (decide_eq_false fun h=>z3 h.2.1)
    ·rw[if_neg z2];exact bad (decide_eq_false fun h=>by omega)
   |bl b =>
    try walk_at "WP"
    exact bad rfl
   |str s =>
    try walk_at "WP"
    exact bad rfl
   |non =>
    try walk_at "WP"
    exact bad rfl
   |_=>cases hf
  ·rintro σ H' ⟨o2,rfl,rfl,ho⟩;rw[zn]at ho;obtain⟨S,rfl,O⟩:=odd_ints ho;(try (walk_at "WP"));(try (refine zf hR_ ?_));(try (refine zh fun R_ hR_=>?_));(try (walk_at "WP"))
   rw[qC]at l300;refine⟨_,.inr (SqT.of hx),fun l nl=>?_⟩;refine zx nl fun H2 s2 h2=>?_;have df:(S.foldl PyProof.Rows.step_dedup []).length<=50:=dedq_few O t1 t2;refine⟨a,S,rfl,SqT.of (s2 _ _ hx),by omega,fun b nb=>⟨b,_,rfl,upd_same,y9 df (by decide),fun l3 nl3=>?_⟩⟩;have s3:=(zU nb (SetE w b (S.foldl PyProof.Rows.step_dedup []))).trans (zU nl3 (.lst ((sortI (ded S)).map V.int)));refine eqLI (ns:=S) (ms:=sortI (ded S)) (SqL.of (s3 _ _ h2)) (SqL.of upd_same) ?_;exact q _ _ (s2.trans s3) (decide_eq_true_iff.trans (set_sorted O))
 ·refine⟨false,rfl,?_⟩;rw[if_pos rfl];exact q false H (Same.refl _) ⟨fun h=>(by cases h),fun⟨S,e,_⟩=>absurd e (no _)⟩
theorem ok_isled34 (T:Txt K mg):Cal P w K mg base 4 "_law_is_led" ["_law_some","_law_later","_law_top"] spIsLed34:=by
 have B:=T.bl;have C_l_gains:=Jn (P:=P) (w:=w) (base:=base) T;refine yc (T.t 28 _ rfl) sc_l_is_led (fun vs H Q E h=>?_) (fun f cdv A outer s H vs Q E hr h=>?_)
 ·obtain⟨_,_,_,_,_,_,rfl,_⟩:=h;rfl
 obtain⟨c,l,S,us,L,top,rfl,hc,hS,hl,hu,ll,oL,t1,t2,q⟩:=h;refine⟨_,((@pss_cons _ _ _ _ _ (@ps_setCompC _ _ _ _ (3) _ _ _ _ _ _ _ (["_law_other","_law_some"]) (1) ([0]) _ _ _ rfl (@pi_list _ _ _ _ (pv 1)) (fun nd C s H fp=>⟨(@pg_name _ _ (0) _ nd rfl (by walk_at "o") (by walk_at "o")),(@xk _ _ _ (@pt_cmpR _ _ _ _ _ _ _ _ (@op_eqEK K _ _ hr (by rfl)) (@pe_compC _ _ _ _ _ _ _ _ (["_law_own","_law_other"]) (1) ([0]) _ _ _ rfl (@pi_tupK K _ _ _ _ (pv 1) (by rfl)) (fun nd C s H fp=>⟨(@pg_name _ _ (0) _ nd rfl (by walk_at "o") (by walk_at "o")),(@xk _ _ _ (@pt_cmpR _ _ _ _ _ _ _ _ (@JW _ K (by rfl)) (pv 0) (pv 1) (by with_unfolding_all rfl))),(pv 0)⟩) (by decide +kernel) (by first|rfl|decide +kernel) (by first|rfl|decide +kernel) rfl (fun _=>rfl)) (@pe_lst _ _ _ _ pa_nil) (@nomark _ _ (by decide) (by decide)))),(pv 0)⟩) (by decide +kernel) (by first|rfl|decide +kernel) (by first|rfl|decide +kernel) rfl (fun _=>rfl) sc_l_is_led.nd rfl (by walk_at "o") (by walk_at "o") rfl) (@pss_cons _ _ _ _ _ (@ps_for _ _ _ _ _ _ _ _ PassesOwn.never rfl (@pi_list _ _ _ _ (@pe_cal _ _ _ _ _ _ _ _ _ _ C_l_gains hr rfl (@pa_cons _ _ _ _ _ (pv 0) (@pa_cons _ _ _ _ _ (pv 2) pa_nil (by rfl)) (by rfl)) (by decide) (by rfl) (by rfl))) (@pg_name _ _ (4) _ sc_l_is_led.nd rfl (by walk_at "o") (by walk_at "o")) (@pss_one _ _ _ (@ps_if _ _ _ _ _ _ _ _ (@pt_cmpR _ _ _ _ _ _ _ _ (@op_eqE _ _ hr) (@pe_compC _ _ _ _ _ _ _ _ (["_law_other","_law_own"]) (1) ([4]) _ _ _ rfl (@pi_list _ _ _ _ (pv 3)) (fun nd C s H fp=>⟨(@pg_name _ _ (0) _ nd rfl (by walk_at "o") (by walk_at "o")),(@xk _ _ _ (@pt_cmpR _ _ _ _ _ _ _ _ (@op_inK _ K (by rfl)) (pv 1) (pv 0) (by with_unfolding_all rfl))),(pv 0)⟩) (by decide +kernel) (by first|rfl|decide +kernel) (by first|rfl|decide +kernel) rfl (fun _=>rfl)) (@pe_lst _ _ _ _ pa_nil) (@nomark _ _ (by decide) (by decide))) (@pss_one _ _ _ (@ps_ret _ _ _ _ pe_bl)) pss_nil)) (by intro _ ;rfl)) (@pss_one _ _ _ (@ps_ret _ _ _ _ pe_bl))))),?_⟩
 walk_at "S"
 refine zh fun R_ hR_=>?_
 try walk_at "WP"
 refine⟨⟨_,SqL.of hl⟩,?_⟩;have ul:=hu.len;have sl:=hS.len t1 t2;refine comp_keep (fun S'=>decide (∀y∈S,y∈S')) hl hu (by omega) (fun t S' H' R hS' ht s' hR=>?_) (fun ov ys H1 n1 s1 h1 hy=>?_)
 ·rw[show ∀o4 o5,yF [0] [some (V.ref c),some (V.ref l),some (V.int top),o4,o5]=[some (V.ref c)] from fun _ _=>rfl]
  try walk_at "WP"
  refine⟨⟨_,SqT.of (s' _ _ hc)⟩,?_⟩;refine comp_T (f:=notV S') (SqT.of (s' _ _ hc)) (by rw[qC];exact xI (by omega)) (fun x H5 R5 hx s5 hR5=>?_) (fun acc hacc=>?_)
  ·obtain⟨o,ho,rfl⟩:=qP.mp hx;rw[show yF [0] [some (V.ref t),some (V.ref c)]=[some (V.ref t)] from rfl]
   try walk_at "WP"
   refine⟨t,_,rfl,.inr (SqT.of (s5 _ _ (s' _ _ ht))),rfl,yR S',?_⟩;rw[if_pos rfl,show inV (V.int o) (iT S')=decide (o∈S') from Je S' o];by_cases z:o∈S'
   ·rw[show notV S' (V.int o)=none from if_pos z]at hR5;rw[decide_eq_true z];exact⟨_,rfl,hR5⟩
   ·rw[show notV S' (V.int o)=some (V.int o) from if_neg z]at hR5;rw[decide_eq_false z];exact⟨_,rfl,hR5⟩
  rw[JQ];refine zx hacc fun H5 s5 h5=>?_;intro e ne;refine zx ne fun H6 s6 h6=>?_;refine⟨_,_,_,rfl,rfl,SqL.of (s6 _ _ h5),SqL.of h6,?_⟩;have e:decide (((S.filter fun o=>decide (o∉S')).map V.int).length=0)=decide (∀y∈S,y∈S'):=decide_eq_decide.mpr (by
   rw[qC,List.length_eq_zero_iff,List.filter_eq_nil_iff];exact⟨fun h y hy=>Classical.byContradiction fun n=>h y hy (decide_eq_true n),fun h y hy n=>(of_decide_eq_true n) (h y hy)⟩)
  rw[e];exact⟨_,rfl,hR _ ((s5.trans s6))⟩
 (try (walk_at "WP"));(try (refine zf hR_ ?_));(try (refine zh fun R_ hR_=>?_));(try (walk_at "WP"))
 have hc1:=s1 _ _ hc;refine⟨c,S,top,rfl,hc1,hS.od,sl,t1,t2,fun g fs H2 ng s2 hg hf fl=>?_⟩;have h12:=s2 _ _ h1;have hy2:=(hy.same s1).same s2;have s12:=s1.trans s2
 try walk_at "WP"
 refine⟨⟨_,SqL.of hg⟩,?_⟩;refine forL (xs:=fs.map V.int) (fun i σ H'=>∃o5,σ=[some (.ref c),some (.ref l),some (.int top),some (.ref ov),o5]/\Same H2 H'/\∀x∈fs.take i,∃S'∈L,(∀y∈S,y∈S')/\x∈S') ⟨_,rfl,Same.refl _,fun x h=>by rw[List.take_zero]at h;cases h⟩ ?_ ?_ ?_
 ·rintro i σ H' _ ⟨_,_,s',_⟩;exact SqL.of (s' _ _ hg)
 ·rintro i v σ H3 N2 hv ⟨o5,rfl,s3,ho⟩ hN2;obtain⟨own,hx,rfl⟩:=j6 hv;have om:=qE hx
  try walk_at "WP"
  refine⟨⟨_,SqL.of (s3 _ _ h12)⟩,?_⟩;refine comp_keep (fun S'=>decide (own∈S')) (s3 _ _ h12) (hy2.same s3) (by rw[hy2.len];have:=yh (fun S'=>decide (∀y∈S,y∈S')) L;omega) (fun t S' H' R hS' ht s' hR=>?_) (fun oo zs H4 n4 s4 h4 hz=>?_)
  ·rw[show ∀o4,yF [4] [some (V.ref c),some (V.ref l),some (V.int top),o4,some (V.int own)]=[some (V.int own)] from fun _=>rfl]
   try walk_at "WP"
   refine⟨t,_,rfl,.inr (SqT.of (s' _ _ ht)),rfl,yR S',?_⟩;rw[if_neg (by decide),show inV (V.int own) (iT S')=decide (own∈S') from Je S' own];exact⟨_,rfl,hR _ (Same.refl _)⟩
  ·intro e ne;refine zx ne fun H5 s5 h5=>?_;have s35:=s4.trans s5;refine⟨_,_,_,rfl,rfl,SqL.of (s5 _ _ h4),SqL.of h5,_,rfl,?_⟩;have zl:=hz.len;by_cases z:zs.length=0
   ·rw[decide_eq_true z,if_pos rfl];refine q false H5 (s12.trans (s3.trans s35)) ⟨fun h=>(by cases h),fun h=>?_⟩;obtain⟨S',h1',h2',h3'⟩:=h own ((hf own).mp om);have:S'∈((L.filter fun S'=>decide (∀y∈S,y∈S')).filter fun S'=>decide (own∈S')):=zk.mpr ⟨zk.mpr ⟨h1',decide_eq_true h2'⟩,decide_eq_true h3'⟩;rw[zJ (zl.symm.trans z)]at this;cases this
   ·rw[decide_eq_false z,if_neg (by decide)];refine hN2 _ _ ⟨_,rfl,s3.trans s35,fun x h=>?_⟩;rw[zq,hx]at h;rcases zK.mp h with y|y
    ·exact ho x y
    ·rw[zE.mp y];have nz:((L.filter fun S'=>decide (∀y∈S,y∈S')).filter fun S'=>decide (own∈S'))≠[]:=fun e=>z (by rw[zl,e];rfl);obtain⟨S',hS'⟩:=List.exists_mem_of_ne_nil _ nz;obtain⟨k1,k2⟩:=zk.mp hS';obtain⟨k3,k4⟩:=zk.mp k1;exact⟨S',k3,of_decide_eq_true k4,of_decide_eq_true k2⟩
 ·rintro σ H3 ⟨o5,rfl,s3,ho⟩;rw[qC,zn]at ho;(try (walk_at "WP"));(try (refine zf hR_ ?_));(try (refine zh fun R_ hR_=>?_));(try (walk_at "WP"))
  exact q true H3 (s12.trans s3) ⟨fun _ x hx=>ho x ((hf x).mpr hx),fun _=>rfl⟩
theorem ok_due34 (T:Txt K mg):Cal P w K mg base 5 "_law_due" ["_law_paper","_law_row_here","_law_top","_law_most"] spDue34:=by
 have B:=T.bl;have C_l_is_set:=(ok_isset34 (P:=P) (w:=w) (base:=base) T).mono (k:=4) (by decide);have C_l_is_led:=ok_isled34 (P:=P) (w:=w) (base:=base) T;have C_l_odd:=(ok_odd34 (P:=P) (w:=w) (base:=base) T).mono (k:=4) (by decide);have C_l_gains:=(Jn (P:=P) (w:=w) (base:=base) T).mono (k:=4) (by decide);refine yc (T.t 29 _ rfl) sc_l_due (fun vs H Q E h=>?_) (fun f cdv A outer s H vs Q E hr h=>?_)
 ·obtain⟨_,_,_,_,_,_,_,rfl,_⟩:=h;rfl
 obtain⟨N,v,nl,d,xs,top,most,rfl,hd,m4,t1,t2,hn,xl,q⟩:=h;refine⟨_,((@pss_cons _ _ _ _ _ (@ps_if _ _ _ _ _ _ _ _ (@PW.pt _ _ _ (@pw_or _ _ _ _ _ _ _ (@pt_not _ _ _ _ (@pt_val _ _ _ (@pe_callB _ _ _ _ _ _ _ _ _ call_isI rfl B.isinstance bo_isinstance (@pa_cons _ _ _ _ _ (pv 0) (@pa_cons _ _ _ _ _ (@pe_bltn _ _ (.ty "list") _ _ rfl B.list bo_list rfl (by decide) (by decide)) pa_nil (by rfl)) (by rfl)) (by decide) (by decide) (by rfl) (by rfl)) (by intro _ ;rfl))) (@pw_or1 _ _ _ _ (@pt_cmpR _ _ _ _ _ _ _ _ op_ne (@pe_callB _ _ _ _ _ _ _ _ _ call_lenM rfl B.len bo_len (@pa_cons _ _ _ _ _ (pv 0) pa_nil (by rfl)) (by decide) (by decide) (by rfl) (by rfl)) (pv 3) (@nomark _ _ (by decide) (by decide)))))) (@pss_one _ _ _ (@ps_ret _ _ _ _ pe_bl)) pss_nil) (@pss_cons _ _ _ _ _ (@ps_for _ _ _ _ _ _ _ _ PassesOwn.never rfl (@pi_list _ _ _ _ (pv 0)) (@pg_name _ _ (4) _ sc_l_due.nd rfl (by walk_at "o") (by walk_at "o")) (@pss_one _ _ _ (@ps_if _ _ _ _ _ _ _ _ (@PW.pt _ _ _ (@pw_or _ _ _ _ _ _ _ (@pt_not _ _ _ _ (@pt_val _ _ _ (@pe_callB _ _ _ _ _ _ _ _ _ call_isI rfl B.isinstance bo_isinstance (@pa_cons _ _ _ _ _ (pv 4) (@pa_cons _ _ _ _ _ (@pe_bltn _ _ (.ty "list") _ _ rfl B.list bo_list rfl (by decide) (by decide)) pa_nil (by rfl)) (by rfl)) (by decide) (by decide) (by rfl) (by rfl)) (by intro _ ;rfl))) (@pw_or1 _ _ _ _ (@pt_cmpR _ _ _ _ _ _ _ _ (@op_neE _ _ hr) (@pe_compC _ _ _ _ _ _ _ _ (["_law_some","_law_top"]) (1) ([2]) _ _ _ rfl (@pi_list _ _ _ _ (pv 4)) (fun nd C s H fp=>⟨(@pg_name _ _ (0) _ nd rfl (by walk_at "o") (by walk_at "o")),(@xk _ _ _ (@pt_not _ _ _ _ (@pt_val _ _ _ (@pe_cal _ _ _ _ _ _ _ _ _ _ C_l_is_set hr rfl (@pa_cons _ _ _ _ _ (pv 0) (@pa_cons _ _ _ _ _ (pv 1) pa_nil (by rfl)) (by rfl)) (by decide) (by rfl) (by rfl)) (by intro _ ;rfl)))),(pv 0)⟩) (by decide +kernel) (by first|rfl|decide +kernel) (by first|rfl|decide +kernel) rfl (fun _=>rfl)) (@pe_lst _ _ _ _ pa_nil) (@nomark _ _ (by decide) (by decide)))))) (@pss_one _ _ _ (@ps_ret _ _ _ _ pe_bl)) pss_nil)) (by intro _ ;rfl)) (@pss_cons _ _ _ _ _ (@ps_set _ _ (5) _ _ _ _ sc_l_due.nd rfl (by walk_at "o") (@pe_slice _ _ _ _ _ _ _ _ _ _ sl_list (@pe_callB _ _ _ _ _ _ _ _ _ (@call_sortW _ w rfl (by rfl)) rfl B.sorted bo_sorted (@pa_cons _ _ _ _ _ (@pe_callTy _ _ _ _ _ _ _ _ _ (@JY _ w rfl (by rfl)) rfl B.set bo_set (@pa_cons _ _ _ _ _ (@pe_op _ _ _ _ _ _ _ _ op_cat (@pe_compC _ _ _ _ _ _ _ _ (["_law_number"]) (1) ([]) _ _ _ rfl (@pi_list _ _ _ _ (pv 1)) (fun nd C s H fp=>⟨(@pg_name _ _ (0) _ nd rfl (by walk_at "o") (by walk_at "o")),(@xk _ _ _ (@pt_cmpR _ _ _ _ _ _ _ _ op_ne (pv 0) pe_int (@nomark _ _ (by decide) (by decide)))),(@pe_cal _ _ _ _ _ _ _ _ _ _ C_l_odd hr rfl (@pa_cons _ _ _ _ _ (@pe_callB _ _ _ _ _ _ _ _ _ call_abs rfl B.abs bo_abs (@pa_cons _ _ _ _ _ (pv 0) pa_nil (by rfl)) (by decide) (by decide) (by rfl) (by rfl)) pa_nil (by rfl)) (by decide) (by rfl) (by rfl))⟩) (by decide +kernel) (by first|rfl|decide +kernel) (by first|rfl|decide +kernel) rfl (fun _=>rfl)) (@pe_lst _ _ _ _ (@pa_cons _ _ _ _ _ pe_int pa_nil (by rfl)))) pa_nil (by rfl)) (by decide) (by decide) (by rfl) (by rfl)) pa_nil (by rfl)) (by decide) (by decide) (by rfl) (by rfl)) (@xE _ _ _ pe_int) xS) (by rfl) (by walk_at "o")) (@pss_cons _ _ _ _ _ (@ps_if _ _ _ _ _ _ _ _ (@pt_cmpR _ _ _ _ _ _ _ _ op_eq (pv 3) pe_int (@nomark _ _ (by decide) (by decide))) (@pss_one _ _ _ (@ps_ret _ _ _ _ (@pe_cmpR _ _ _ _ _ _ _ _ (@op_neE _ _ hr) (pv 5) (@pe_lst _ _ _ _ pa_nil) (@nomark _ _ (by decide) (by decide))))) pss_nil) (@pss_cons _ _ _ _ _ (@ps_if _ _ _ _ _ _ _ _ (@pt_cmpR _ _ _ _ _ _ _ _ (@op_eqE _ _ hr) (@pe_compC _ _ _ _ _ _ _ _ (["_law_some"]) (1) ([]) _ _ _ rfl (@pi_list _ _ _ _ (@pe_ix _ _ _ _ _ _ _ ix_M (pv 0) pe_int (fun _ _=>rfl))) (fun nd C s H fp=>⟨(@pg_name _ _ (0) _ nd rfl (by walk_at "o") (by walk_at "o")),(@xk _ _ _ (@pt_cmpR _ _ _ _ _ _ _ _ (@op_inK _ K (by rfl)) pe_int (pv 0) (by with_unfolding_all rfl))),(pv 0)⟩) (by decide +kernel) (by first|rfl|decide +kernel) (by first|rfl|decide +kernel) rfl (fun _=>rfl)) (@pe_lst _ _ _ _ pa_nil) (@nomark _ _ (by decide) (by decide))) (@pss_one _ _ _ (@ps_ret _ _ _ _ pe_bl)) pss_nil) (@pss_cons _ _ _ _ _ (@ps_for _ _ _ _ _ _ _ _ PassesOwn.never rfl (@JU _ _ _ _ _ _ rfl B.range (@pa_cons _ _ _ _ _ (@pe_op _ _ _ _ _ _ _ _ JH (pv 3) pe_int) pa_nil (by rfl)) (by rfl)) (@pg_name _ _ (6) _ sc_l_due.nd rfl (by walk_at "o") (by walk_at "o")) (@pss_one _ _ _ (@ps_for _ _ _ _ _ _ _ _ PassesOwn.never rfl (@pi_list _ _ _ _ (@pe_ix _ _ _ _ _ _ _ ix_M (pv 0) (pv 6) (fun _ _=>rfl))) (@pg_name _ _ (7) _ sc_l_due.nd rfl (by walk_at "o") (by walk_at "o")) (@pss_one _ _ _ (@ps_if _ _ _ _ _ _ _ _ (@pt_not _ _ _ _ (@pt_val _ _ _ (@pe_cal _ _ _ _ _ _ _ _ _ _ C_l_is_led hr rfl (@pa_cons _ _ _ _ _ (pv 7) (@pa_cons _ _ _ _ _ (@pe_ix _ _ _ _ _ _ _ ix_M (pv 0) (@pe_op _ _ _ _ _ _ _ _ op_add (pv 6) pe_int) (fun _ _=>rfl)) (@pa_cons _ _ _ _ _ (pv 2) pa_nil (by rfl)) (by rfl)) (by rfl)) (by decide) (by rfl) (by rfl)) (by intro _ ;rfl))) (@pss_one _ _ _ (@ps_ret _ _ _ _ pe_bl)) pss_nil)) (by intro _ ;rfl))) (by intro _ ;rfl)) (@pss_cons _ _ _ _ _ (@ps_for _ _ _ _ _ _ _ _ PassesOwn.never rfl (@pi_list _ _ _ _ (@pe_ix _ _ _ _ _ _ _ ix_M (pv 0) (@JG _ _ _ _ _ _ jN pe_int) (fun _ _=>rfl))) (@pg_name _ _ (7) _ sc_l_due.nd rfl (by walk_at "o") (by walk_at "o")) (@pss_cons _ _ _ _ _ (@ps_setCompC _ _ _ _ (8) _ _ _ _ _ _ _ (["_law_own","_law_some"]) (1) ([7]) _ _ _ rfl (@pi_list _ _ _ _ (pv 5)) (fun nd C s H fp=>⟨(@pg_name _ _ (0) _ nd rfl (by walk_at "o") (by walk_at "o")),(@xk _ _ _ (@pt_cmpR _ _ _ _ _ _ _ _ (@JW _ K (by rfl)) (pv 0) (pv 1) (by with_unfolding_all rfl))),(pv 0)⟩) (by decide +kernel) (by first|rfl|decide +kernel) (by first|rfl|decide +kernel) rfl (fun _=>rfl) sc_l_due.nd rfl (by walk_at "o") (by walk_at "o") rfl) (@pss_one _ _ _ (@ps_if _ _ _ _ _ _ _ _ (@PW.pt _ _ _ (@pw_or _ _ _ _ _ _ _ (@pt_cmpR _ _ _ _ _ _ _ _ (@op_eqE _ _ hr) (pv 8) (@pe_lst _ _ _ _ pa_nil) (@nomark _ _ (by decide) (by decide))) (@pw_or1 _ _ _ _ (@PW.pt _ _ _ (@pw_and _ _ _ _ _ _ _ (@pt_cmpR _ _ _ _ _ _ _ _ op_eq (@pe_callB _ _ _ _ _ _ _ _ _ call_lenM rfl B.len bo_len (@pa_cons _ _ _ _ _ (pv 8) pa_nil (by rfl)) (by decide) (by decide) (by rfl) (by rfl)) pe_int (@nomark _ _ (by decide) (by decide))) (@Jo _ _ _ _ (@pt_cmpR _ _ _ _ _ _ _ _ J4 (@pe_ix _ _ _ _ _ _ _ ix_M (pv 8) pe_int (fun _ _=>rfl)) (@pe_cal _ _ _ _ _ _ _ _ _ _ C_l_gains hr rfl (@pa_cons _ _ _ _ _ (pv 7) (@pa_cons _ _ _ _ _ (pv 2) pa_nil (by rfl)) (by rfl)) (by decide) (by rfl) (by rfl)) (by with_unfolding_all rfl)))))))) (@pss_one _ _ _ (@ps_ret _ _ _ _ pe_bl)) pss_nil))) (by intro _ ;rfl)) (@pss_one _ _ _ (@ps_ret _ _ _ _ pe_bl)))))))))),?_⟩
 walk_at "S"
 refine zh fun R_ hR_=>?_
 try walk_at "WP"
 have no:¬ PapB top most d->∀H',Same H H'->Q (.bl false) H':=fun np H' s=>q false H' s ⟨fun h=>(by cases h),fun⟨Ls,e,h1,h2,_⟩=>absurd ⟨Ls,e,h1,h2⟩ np⟩;refine isL_PD hd (fun a us ls e1 e2 hx hA h10=>?_) (fun np=>?_)
 rotate_left
 ·exact⟨false,rfl,by rw[if_pos rfl];exact no (papB_no np) H (Same.refl _)⟩
 subst e1;subst e2;refine⟨true,rfl,?_⟩;rw[if_neg (by decide)];refine⟨a,rfl,_,hx,?_⟩;by_cases zl:us.length=most
 rotate_left
 ·rw[if_pos (show ¬ ((us.length:Nat):Int)=(most:Nat) by omega)];exact no (fun h=>zl (by rw[hA.1];exact(papB_iff.mp h).1)) H (Same.refl _)
 rw[if_neg (not_not_intro (show((us.length:Nat):Int)=(most:Nat) by omega))];(try (walk_at "WP"));(try (refine zf hR_ ?_));(try (refine zh fun R_ hR_=>?_));(try (walk_at "WP"))
 refine⟨⟨_,SqL.of hx⟩,?_⟩;refine forL (xs:=us) (fun i σ H'=>∃(o5 o6 o7 o8 o9:Option V),σ=[some (.ref a),some (.ref nl),some (.int top),some (.int (most:Nat)),o5,o6,o7,o8,o9]/\Same H H'/\∀l∈ls.take i,LevB top l) ⟨_,_,_,_,_,rfl,Same.refl _,fun x h=>by rw[List.take_zero]at h;cases h⟩ ?_ ?_ ?_
 ·rintro i σ H' _ ⟨_,_,_,_,_,_,s',_⟩;exact SqL.of (s' _ _ hx)
 ·rintro i x σ H2 N2 hxi ⟨o5,o6,o7,o8,o9,rfl,s2,ho⟩ hN2;obtain⟨ld,el,hld⟩:=hA.at_ hxi;have hld2:=hld.same s2;have bad:¬ LevB top ld->∀H',Same H2 H'->Q (.bl false) H':=fun nb H' s=>no (fun h=>nb ((papB_iff.mp h).2 ld (qE el))) H' (s2.trans s)
  try walk_at "WP"
  refine isL_LD hld2 (fun b ws ss e1 e2 hb hB h2k=>?_) (fun np=>?_)
  rotate_left
  ·exact⟨false,rfl,by rw[if_pos rfl];exact bad (fun⟨L,e,_⟩=>np _ e) H2 (Same.refl _)⟩
  subst e1;subst e2;refine⟨true,rfl,?_⟩;rw[if_neg (by decide)];refine⟨b,rfl,⟨_,SqL.of hb⟩,?_⟩;refine comp_nof (fun i=>∀s,ss[i]? = some s -> ¬ SetB top s) hb (by omega) (fun i y H' R hy s' hR=>?_) (fun acc ys H3 n3 s3 h3 hys=>?_)
  ·rw[show ∀o4 o5 o6 o7 o8,yF [2] [some (V.ref a),some (V.ref nl),some (V.int top),some (V.int (most:Nat)),o4,o5,o6,o7,o8]=[some (V.int top)] from fun _ _ _ _ _=>rfl];obtain⟨sd,es,hsd⟩:=hB.at_ hy
   try walk_at "WP"
   refine⟨N,y,sd,top,rfl,hsd.same s',t1,t2,fun b H5 s5 hb=>⟨b,rfl,?_⟩⟩;refine hR _ H5 s5 ?_;rw[yb,yO,ne_eq,hb];exact⟨fun h s e=>by rw[es]at e;cases e;exact h,fun h=>h _ es⟩
  have all:ys=[]↔LevB top (.l ss):=by
   rw[hys,levB_iff];constructor
   ·intro h s hs;obtain⟨k,e⟩:=zO.mp hs;refine Classical.byContradiction fun z=>h k (by rw[hB.1];exact(qB.mp e).1) fun s' e'=>?_;rw[e]at e';cases e'
    exact z
   ·intro h k hk p;have e:=qA (l:=ss) (i:=k) (by rw[<-hB.1];exact hk);exact p _ e (h _ (qE e))
  intro e ne;refine zx ne fun H4 s4 h4=>?_;have s24:=s3.trans s4;rw[w_neE];refine⟨_,SqL.of (s4 _ _ h3),SqL.of h4,?_⟩
  try walk_at "WP"
  by_cases z:ys=[]
  ·rw[if_neg (fun h=>h (by rw[z];rfl))];refine hN2 _ _ ⟨_,_,_,_,_,rfl,s2.trans s24,fun l hl=>?_⟩;rw[zq,el]at hl;rcases zK.mp hl with e|e
   ·exact ho l e
   ·rw[zE.mp e];exact all.mp z
  ·rw[if_pos (fun h=>z (zJ h))];exact bad (fun h=>z (all.mpr h)) H4 s24
 ·rintro σ H2 ⟨o5,o6,o7,o8,o9,rfl,s2,ho⟩;rw[hA.1,zn]at ho;have pb:PapB top most (.l ls):=papB_iff.mpr ⟨by rw[<-hA.1];exact zl,ho⟩;obtain⟨Ls,eP,hLs,hO⟩:=pb;(try (walk_at "WP"));(try (refine zf hR_ ?_));(try (refine zh fun R_ hR_=>?_));(try (walk_at "WP"))
  refine⟨⟨_,SqL.of (s2 _ _ hn)⟩,?_⟩;refine JN (f:=nzQ) (SqL.of (s2 _ _ hn)) (by rw[qC];exact xI (by omega)) (fun x H' R hx s' hR=>?_) (fun acc hacc=>?_)
  ·obtain⟨n,hn,rfl⟩:=qP.mp hx;rw[show ∀o4 o5 o6 o7 o8,yF [] [some (V.ref a),some (V.ref nl),some (V.int top),some (V.int (most:Nat)),o4,o5,o6,o7,o8]=[] from fun _ _ _ _ _=>rfl]
   try walk_at "WP"
   by_cases z:n=0
   ·rw[if_neg (not_not_intro z)];rw[show nzQ (V.int n)=none from if_neg (not_not_intro z)]at hR;exact hR
   ·rw[if_pos z];rw[show nzQ (V.int n)=some (V.int (coreN n)) from if_pos z]at hR;refine⟨_,rfl,by split<;>omega,?_⟩;rw[core_abs2];exact hR
  rw[nzQ_map];refine zx hacc fun H3 s3 h3=>?_;intro e ne;refine zx ne fun H4 s4 h4=>?_;refine⟨_,_,_,_,rfl,rfl,s4 _ _ h3,h4,zZ (by rw[qC];have:=nz_len xs;simp;omega),fun p5 n5=>?_⟩;refine zx n5 fun H5 s5 h5=>?_;rw[show(nzC xs).map V.int++[V.int 1]=(nzC xs++[1]).map V.int by simp]at h5;have nl1:=nz_len xs;have dl:=ded_len (nzC xs++[1]);rw[qF,zH]at dl;refine⟨p5,nzC xs++[1],rfl,h5,by rw[qF,zH];omega,fun sa nsa=>?_⟩;refine zx nsa fun H6 s6 h6=>?_;refine⟨sa,ded (nzC xs++[1]),rfl,h6,by omega,fun ow now=>?_⟩;refine zx now fun H7 s7 h7=>?_;refine⟨ow,_,rfl,SqL.of h7,fun al nal=>?_⟩;rw[cut_drop1,<-List.map_drop,owed_eq];refine zx nal fun H8 s8 h8=>?_;have s28:=((s3.trans s4).trans (s5.trans s6)).trans (s7.trans s8);have s08:=s2.trans s28;have fin:∀b H',Same H8 H'->(b=true↔ShowsP top (jt xs) Ls)->Q (.bl b) H':=fun b H' s h=>q b H' (s08.trans s) (h.trans ⟨fun z=>⟨Ls,eP,hLs,hO,z⟩,fun⟨Ms,e',_,_,z⟩=>by rw[iL_inj (eP.symm.trans e')];exact z⟩);have hd8:=hd.same s08;rw[eP]at hd8;obtain⟨a',lvs,ea,PQ,_,l2k⟩:=papQ_of hd8;cases ea
  (try (walk_at "WP"));(try (refine zf hR_ ?_));(try (refine zh fun R_ hR_=>?_));(try (walk_at "WP"))
  refine yw (fun z=>?_) (fun z=>?_)
  ·have e0:Ls=[]:=zJ (by omega);subst e0;intro e ne;refine zx ne fun H9 s9 h9=>?_;refine⟨_,SqL.of (s9 _ _ h8),SqL.of h9,?_⟩;refine fin _ H9 s9 ?_;rw[decide_eq_true_eq,qC];constructor
   ·intro h;exact⟨fun _ e=>h (by rw[e];rfl),fun L e=>by simp at e,fun i L L' e=>by simp at e,fun L e=>by simp at e⟩
   ·intro h e;exact h.1 rfl (zJ e)
  have lp:0<Ls.length:=by omega
  (try (walk_at "WP"));(try (refine zf hR_ ?_));(try (refine zh fun R_ hR_=>?_));(try (walk_at "WP"))
  have el0:=qA (l:=Ls) (i:=0) lp;obtain⟨r0,u0,a1,a2,a3⟩:=PQ.at_ 0 _ el0;have l20:=l2k _ (qE el0);generalize hL0:Ls[0]=L0 at el0 a3 l20;refine⟨lvs,PQ.lst,_,yM (j:=0) a1,r0,rfl,⟨_,SqL.of a2⟩,?_⟩;refine comp_nof (fun i=>∀S,L0[i]? = some S->(1:Int)∈S) a2 (by rw[a3.len];omega) (fun i x H' R hx s' hR=>?_) (fun mo ys H9 n9 s9 h9 hys=>?_)
  ·obtain⟨S,eS⟩:∃S,L0[i]? = some S:=⟨_,qA (by rw[<-a3.len];exact(qB.mp hx).1)⟩;obtain⟨t,hp1,hp2⟩:=a3.at_ i S eS;rw[hx]at hp1;cases hp1
   rw[show ∀τ:St,yF [] τ=[] from fun _=>rfl]
   try walk_at "WP"
   refine⟨t,_,rfl,.inr (SqT.of (s' _ _ hp2)),rfl,yR S,?_⟩;rw[if_neg (by decide),show inV (V.int 1) (iT S)=decide ((1:Int)∈S) from Je S 1];exact⟨_,rfl,hR _ H' (Same.refl _) ⟨fun h S' e=>by rw[eS]at e;cases e;exact of_decide_eq_true h,fun h=>decide_eq_true (h S eS)⟩⟩
  have one:ys≠[]↔∃S∈L0,(1:Int)∈S:=by
   rw[ne_eq,hys];constructor
   ·intro h;refine Classical.byContradiction fun z=>h fun k hk p=>?_;have e:=qA (l:=L0) (i:=k) (by rw[<-a3.len];exact hk);exact z ⟨_,qE e,p _ e⟩
   ·rintro⟨S,hS,h1⟩ h;obtain⟨k,e⟩:=zO.mp hS;exact h k (by rw[a3.len];exact(qB.mp e).1) fun S' e'=>by rw[e]at e';cases e';exact h1
  intro e ne;refine zx ne fun H10 s10 h10=>?_;have s810:=s9.trans s10;refine⟨_,_,_,rfl,rfl,SqL.of (s10 _ _ h9),SqL.of h10,_,rfl,?_⟩;by_cases zy:ys.length=0
  ·rw[decide_eq_true zy,if_pos rfl];exact fin false H10 s810 ⟨fun h=>(by cases h),fun h=>absurd (zJ zy) (one.mpr (h.2.1 L0 el0))⟩
  rw[decide_eq_false zy,if_neg (by decide)];have has1:=one.mp fun e=>zy (by rw[e];rfl);(try (walk_at "WP"));(try (refine zf hR_ ?_));(try (refine zh fun R_ hR_=>?_));(try (walk_at "WP"))
  refine⟨by omega,by omega,?_⟩;have PQ10:=PQ.same s810;refine forR (fun i σ H'=>∃o5 o6 o7 o8 o9:Option V,σ=[some (.ref a),some (.ref nl),some (.int top),some (.int (most:Nat)),o5,some (.ref al),o7,o8,o9]/\Same H10 H'/\∀k,k<i->∀L L',Ls[k]? = some L->Ls[k+1]? = some L'->∀S∈L,LedP top S L') ⟨_,none,_,_,_,rfl,Same.refl _,fun k h=>absurd h (Nat.not_lt_zero k)⟩ ?_ ?_
  ·rintro i σ H11 N3 hi ⟨o5,o6,o7,o8,o9,rfl,s11,hl⟩ hN3;have PQ11:=PQ10.same s11;have e1:=qA (l:=Ls) (i:=i) (by omega);have e2:=qA (l:=Ls) (i:=i+1) (by omega);obtain⟨r1,u1,b1,b2,b3⟩:=PQ11.at_ _ _ e1;obtain⟨r2,u2,c1,c2,c3⟩:=PQ11.at_ _ _ e2;have ok1:=hO _ (qE e1);have ok2:=hO _ (qE e2);have k2:=l2k _ (qE e2);generalize Ls[i]=L1 at e1 b3 ok1;generalize Ls[i+1]=L2 at e2 c3 ok2 k2
   try walk_at "WP"
   refine⟨lvs,PQ11.lst,_,by rw[show(0:Int)+(i:Int)=((i:Nat):Int) by omega];exact yM b1,r1,rfl,⟨_,SqL.of b2⟩,?_⟩;refine forL (xs:=u1) (fun j σ H'=>∃o8 o9:Option V,σ=[some (.ref a),some (.ref nl),some (.int top),some (.int (most:Nat)),o5,some (.ref al),some (.int (0+(i:Int))),o8,o9]/\Same H11 H'/\∀k,k<j->∀S,L1[k]? = some S->LedP top S L2) ⟨_,_,rfl,Same.refl _,fun k h=>absurd h (Nat.not_lt_zero k)⟩ ?_ ?_ ?_
   ·rintro j σ H' _ ⟨_,_,_,s',_⟩;exact SqL.of (s' _ _ b2)
   ·rintro j x σ H12 N4 hx ⟨o8,o9,rfl,s12,hl2⟩ hN4;obtain⟨S,eS⟩:∃S,L1[j]? = some S:=⟨_,qA (by rw[<-b3.len];exact(qB.mp hx).1)⟩;obtain⟨t,hp1,hp2⟩:=b3.at_ j S eS;rw[hx]at hp1;cases hp1
    try walk_at "WP"
    refine⟨lvs,s12 _ _ PQ11.lst,_,by rw[show(0:Int)+(i:Int)+1=((i+1:Nat):Int) by omega];exact yM c1,?_⟩;refine⟨t,r2,S,u2,L2,top,rfl,s12 _ _ hp2,ok1 S (qE eS),s12 _ _ c2,c3.same s12,k2,ok2,t1,t2,fun b H13 s13 hb=>⟨b,rfl,?_⟩⟩;by_cases zb:b=true
    ·rw[zb,if_neg (by decide)];refine hN4 _ _ ⟨_,_,rfl,s12.trans s13,fun k hk S' e=>?_⟩;by_cases z:k=j
     ·rw[z,eS]at e;cases e
      exact hb.mp zb
     ·exact hl2 k (by omega) S' e
    ·rw[yO.mpr zb,if_pos rfl];exact fin false H13 (s810.trans (s11.trans (s12.trans s13))) ⟨fun h=>(by cases h),fun h=>absurd (hb.mpr (h.2.2.1 i L1 L2 e1 e2 S (qE eS))) zb⟩
   ·rintro σ H12 ⟨o8,o9,rfl,s12,hl2⟩;rw[b3.len]at hl2;refine hN3 _ _ ⟨_,none,_,_,_,rfl,s11.trans s12,fun k hk L L' ea eb S hS=>?_⟩;by_cases z:k=i
    ·rw[z,e1]at ea;rw[z,e2]at eb;cases ea
     cases eb
     obtain⟨j,ej⟩:=zO.mp hS;exact hl2 j (qB.mp ej).1 S ej
    ·exact hl k (by omega) L L' ea eb S hS
  ·rintro σ H11 ⟨o5,o6,o7,o8,o9,rfl,s11,hl⟩;(try (walk_at "WP"));(try (refine zf hR_ ?_));(try (refine zh fun R_ hR_=>?_));(try (walk_at "WP"))
   have PQ11:=PQ10.same s11;have eg:=qA (l:=Ls) (i:=Ls.length-1) (by omega);generalize Ls[Ls.length-1]=Lz at eg;obtain⟨rz,uz,c1,c2,c3⟩:=PQ11.at_ _ _ eg;have okz:=hO Lz (qE eg);have el:Ls.getLast? = some Lz:=by rw[xC];exact eg
   have ev:lvs.getLast? = some (.ref rz):=by rw[xC,PQ11.len];exact c1
   have ha11:H11 al=some (.lst ((jt xs).map V.int)):=s11 _ _ (s810 _ _ h8);have as_len:(jt xs).length<=61:=by
    rw[<-owed_eq xs,zd,(yA _).length_eq];omega
   refine⟨lvs,PQ11.lst,_,atI_gl ev,rz,rfl,⟨_,SqL.of c2⟩,?_⟩;refine forL (xs:=uz) (fun j σ H'=>∃o8 o9:Option V,σ=[some (.ref a),some (.ref nl),some (.int top),some (.int (most:Nat)),o5,some (.ref al),o7,o8,o9]/\Same H11 H'/\∀k,k<j->∀S,Lz[k]? = some S -> ¬ Fin_ top S (jt xs)) ⟨_,_,rfl,Same.refl _,fun k h=>absurd h (Nat.not_lt_zero k)⟩ ?_ ?_ ?_
   ·rintro j σ H' _ ⟨_,_,_,s',_⟩;exact SqL.of (s' _ _ c2)
   ·rintro j x σ H12 N4 hx ⟨o8,o9,rfl,s12,hl2⟩ hN4;obtain⟨S,eS⟩:∃S,Lz[j]? = some S:=⟨_,qA (by rw[<-c3.len];exact(qB.mp hx).1)⟩;obtain⟨t,hp1,hp2⟩:=c3.at_ j S eS;rw[hx]at hp1;cases hp1
    have mS:=qE eS;have oS:=okz S mS;have ha12:=s12 _ _ ha11;have ht12:=s12 _ _ hp2;have bad:Fin_ top S (jt xs)->∀H',Same H12 H'->Q (.bl false) H':=fun f H' s=>fin false H' (s810.trans (s11.trans (s12.trans s))) ⟨fun h=>(by cases h),fun h=>absurd f (h.2.2.2 Lz el S mS)⟩;have good:¬ Fin_ top S (jt xs)->∀o8 o9 H',Same H12 H'->N4 [some (.ref a),some (.ref nl),some (.int top),some (.int (most:Nat)),o5,some (.ref al),o7,o8,o9] H':=fun nf o8 o9 H' s=>hN4 _ _ ⟨_,_,rfl,s12.trans s,fun k hk S' e=>by
     by_cases z:k=j
     ·rw[z,eS]at e;cases e
      exact nf
     ·exact hl2 k (by omega) S' e⟩
    clear hN4 hl2
    try walk_at "WP"
    refine⟨⟨_,SqL.of ha12⟩,?_⟩;refine JN (f:=notV S) (SqL.of ha12) (by rw[qC];exact xI (by omega)) (fun y H' R hy s' hR=>?_) (fun acc hacc=>?_)
    ·obtain⟨o,ho,rfl⟩:=qP.mp hy;rw[show ∀o9,yF [7] [some (V.ref a),some (V.ref nl),some (V.int top),some (V.int (most:Nat)),o5,some (V.ref al),o7,some (V.ref t),o9]=[some (V.ref t)] from fun _=>rfl]
     try walk_at "WP"
     refine⟨t,_,rfl,.inr (SqT.of (s' _ _ ht12)),rfl,yR S,?_⟩;rw[if_pos rfl,show inV (V.int o) (iT S)=decide (o∈S) from Je S o];by_cases z:o∈S
     ·rw[show notV S (V.int o)=none from if_pos z]at hR;rw[decide_eq_true z];exact⟨_,rfl,hR⟩
     ·rw[show notV S (V.int o)=some (V.int o) from if_neg z]at hR;rw[decide_eq_false z];exact⟨_,rfl,hR⟩
    rw[JQ];refine zx hacc fun H13 s13 h13=>?_;intro e ne;refine zx ne fun H14 s14 h14=>?_;have s1214:=s13.trans s14;refine⟨_,_,_,rfl,rfl,SqL.of (s14 _ _ h13),SqL.of h14,_,rfl,?_⟩;have h1314:=s14 _ _ h13;rw[show((jt xs).filter fun o=>decide (o∉S))=jr S (jt xs) from rfl]at h1314 ⊢;have sl:=oS.len t1 t2;by_cases z0:((jr S (jt xs)).map V.int).length=0
    ·rw[decide_eq_true z0,if_pos rfl];exact bad (.inl (by rw[qC]at z0;exact zJ z0)) H14 s1214
    rw[decide_eq_false z0,if_neg (by decide)];rw[qC]at z0
    (iterate 5 ((try (walk_at "WP"));(try (simp only[h1314,qJs,qJt,qJl,qJd,exists_eq_left',exists_eq_left]))));(try (walk_at "WP"))
    rw[qC];by_cases z1:(jr S (jt xs)).length=1
    ·rw[if_pos (show(((jr S (jt xs)).length:Nat):Int)=1 by omega)];obtain⟨o,eo⟩:=ya.mp z1;refine⟨.int o,by rw[eo];rfl,?_⟩;refine⟨t,S,top,rfl,s1214 _ _ ht12,oS.od,sl,t1,t2,fun g fs H15 n15 s15 h15 hf fl=>?_⟩;refine⟨g,_,rfl,.inl (SqL.of h15),rfl,yR fs,?_⟩;rw[if_neg (by decide),show inV (V.int o) (fs.map V.int)=decide (o∈fs) from Je fs o];refine⟨_,rfl,?_⟩;by_cases zo:o∈fs
     ·rw[decide_eq_true zo,if_pos rfl];exact bad (.inr ⟨o,eo,(hf o).mp zo⟩) H15 (s1214.trans s15)
     ·rw[decide_eq_false zo,if_neg (by decide)];exact good (by
       rintro(e|⟨o',e,h⟩)
       ·rw[e]at z1;cases z1
       ·rw[eo]at e;cases e
        exact zo ((hf o).mpr h)) _ _ H15 (s1214.trans s15)
    ·rw[if_neg (show ¬ (((jr S (jt xs)).length:Nat):Int)=1 by omega)];exact good (by
      rintro(e|⟨o',e,h⟩)
      ·rw[e]at z0;exact z0 rfl
      ·rw[e]at z1;exact z1 rfl) _ _ H14 s1214
   ·rintro σ H12 ⟨o8,o9,rfl,s12,hl2⟩;rw[c3.len]at hl2;(try (walk_at "WP"));(try (refine zf hR_ ?_));(try (refine zh fun R_ hR_=>?_));(try (walk_at "WP"))
    refine fin true H12 (s810.trans (s11.trans s12)) ⟨fun _=>⟨fun e=>?_,fun L e=>?_,fun i L L' e1 e2=>?_,fun L e S hS=>?_⟩,fun _=>rfl⟩
    ·rw[e]at lp;exact absurd lp (by decide)
    ·rw[el0]at e;cases e
     exact has1
    ·have:=(qB.mp e2).1;exact hl i (by omega) L L' e1 e2
    ·rw[el]at e;cases e
     obtain⟨j,ej⟩:=zO.mp hS;exact hl2 j (qB.mp ej).1 S ej
theorem ok_row34 (T:Txt K mg):Cal P w K mg base 2 "_law_row" ["_law_pen_here","_law_top"] (spRow34 K):=by
 have B:=T.bl;have C_l_pick:=J2 (P:=P) (w:=w) (base:=base) T;refine yc (T.t 26 _ rfl) sc_l_row (fun vs H Q E h=>?_) (fun f cdv A outer s H vs Q E hr h=>?_)
 ·obtain⟨_,_,_,_,_,rfl,_⟩:=h;rfl
 obtain⟨p,a,ns,c,top,rfl,hP,hS,h63,hc,t1,t2,q⟩:=h;refine⟨_,((@pss_cons _ _ _ _ _ (@ps_set _ _ (2) _ _ _ _ sc_l_row.nd rfl (by walk_at "o") (@pe_lst _ _ _ _ pa_nil) (by rfl) (by walk_at "o")) (@pss_cons _ _ _ _ _ (@ps_for _ _ _ _ _ _ _ _ PassesOwn.never rfl (@JU _ _ _ _ _ _ rfl B.range (@pa_cons _ _ _ _ _ (@pe_cal _ _ _ _ _ _ _ _ _ _ C_l_pick hr rfl (@pa_cons _ _ _ _ _ (pv 0) (@pa_cons _ _ _ _ _ pe_int pa_nil (by rfl)) (by rfl)) (by decide) (by rfl) (by rfl)) pa_nil (by rfl)) (by rfl)) (@pg_name _ _ (3) _ sc_l_row.nd rfl (by walk_at "o") (by walk_at "o")) (@pss_cons _ _ _ _ _ (@ps_set _ _ (4) _ _ _ _ sc_l_row.nd rfl (by walk_at "o") (@pe_ix _ _ _ _ _ _ _ ix_M (@pe_lst _ _ _ _ (@pa_cons _ _ _ _ _ (@pe_op _ _ _ _ _ _ _ _ op_add pe_int (@pe_op _ _ _ _ _ _ _ _ jA pe_int (@pe_cal _ _ _ _ _ _ _ _ _ _ C_l_pick hr rfl (@pa_cons _ _ _ _ _ (pv 0) (@pa_cons _ _ _ _ _ (@pe_op _ _ _ _ _ _ _ _ jO (@pe_op _ _ _ _ _ _ _ _ op_add (pv 1) pe_int) pe_int) pa_nil (by rfl)) (by rfl)) (by decide) (by rfl) (by rfl)))) (@pa_cons _ _ _ _ _ (@pe_op _ _ _ _ _ _ _ _ op_add pe_int (@pe_op _ _ _ _ _ _ _ _ jA pe_int (@pe_cal _ _ _ _ _ _ _ _ _ _ C_l_pick hr rfl (@pa_cons _ _ _ _ _ (pv 0) (@pa_cons _ _ _ _ _ (@pe_op _ _ _ _ _ _ _ _ jO (@pe_op _ _ _ _ _ _ _ _ op_add (pv 1) pe_int) pe_int) pa_nil (by rfl)) (by rfl)) (by decide) (by rfl) (by rfl)))) (@pa_cons _ _ _ _ _ pe_int pa_nil (by rfl)) (by rfl)) (by rfl))) (@pe_cal _ _ _ _ _ _ _ _ _ _ C_l_pick hr rfl (@pa_cons _ _ _ _ _ (pv 0) (@pa_cons _ _ _ _ _ pe_int pa_nil (by rfl)) (by rfl)) (by decide) (by rfl) (by rfl)) (fun _ _=>rfl)) (by rfl) (by walk_at "o")) (@pss_mid _ _ _ _ _ (@ps_if _ _ _ _ _ _ _ _ (@pt_cmpR _ _ _ _ _ _ _ _ op_eq (@pe_cal _ _ _ _ _ _ _ _ _ _ C_l_pick hr rfl (@pa_cons _ _ _ _ _ (pv 0) (@pa_cons _ _ _ _ _ pe_int pa_nil (by rfl)) (by rfl)) (by decide) (by rfl) (by rfl)) pe_int (@nomark _ _ (by decide) (by decide))) (@pss_one _ _ _ (@ps_set _ _ (4) _ _ _ _ sc_l_row.nd rfl (by walk_at "o") (@pe_ix _ _ _ _ _ _ _ ix_M (@pe_lst _ _ _ _ (@pa_cons _ _ _ _ _ (@pe_op _ _ _ _ _ _ _ _ op_add (@pe_op _ _ _ _ _ _ _ _ op_add (pv 1) pe_int) (@pe_cal _ _ _ _ _ _ _ _ _ _ C_l_pick hr rfl (@pa_cons _ _ _ _ _ (pv 0) (@pa_cons _ _ _ _ _ pe_int pa_nil (by rfl)) (by rfl)) (by decide) (by rfl) (by rfl))) (@pa_cons _ _ _ _ _ (@pe_op _ _ _ _ _ _ _ _ op_add (@pe_op _ _ _ _ _ _ _ _ op_powB pe_int pe_int) (@pe_cal _ _ _ _ _ _ _ _ _ _ C_l_pick hr rfl (@pa_cons _ _ _ _ _ (pv 0) (@pa_cons _ _ _ _ _ (@pe_op _ _ _ _ _ _ _ _ op_powB pe_int pe_int) pa_nil (by rfl)) (by rfl)) (by decide) (by rfl) (by rfl))) pa_nil (by rfl)) (by rfl))) (@pe_cal _ _ _ _ _ _ _ _ _ _ C_l_pick hr rfl (@pa_cons _ _ _ _ _ (pv 0) (@pa_cons _ _ _ _ _ pe_int pa_nil (by rfl)) (by rfl)) (by decide) (by rfl) (by rfl)) (fun _ _=>rfl)) (by rfl) (by walk_at "o"))) pss_nil) (@pss_one _ _ _ (@xp _ _ _ _ (@pe_bm _ _ _ _ _ _ _ _ _ _ _ _ yB yo yn xj (pv 2) (@pa_cons _ _ _ _ _ (@pe_op _ _ _ _ _ _ _ _ jA (@pe_op _ _ _ _ _ _ _ _ op_shlB (pv 4) (@pe_cal _ _ _ _ _ _ _ _ _ _ C_l_pick hr rfl (@pa_cons _ _ _ _ _ (pv 0) (@pa_cons _ _ _ _ _ pe_int pa_nil (by rfl)) (by rfl)) (by decide) (by rfl) (by rfl))) (@pe_op _ _ _ _ _ _ _ _ JH pe_int (@pe_op _ _ _ _ _ _ _ _ jA pe_int (@pe_cal _ _ _ _ _ _ _ _ _ _ C_l_pick hr rfl (@pa_cons _ _ _ _ _ (pv 0) (@pa_cons _ _ _ _ _ pe_int pa_nil (by rfl)) (by rfl)) (by decide) (by rfl) (by rfl))))) pa_nil (by rfl)) (by rfl) (by rfl) (by rfl) (by rfl) (by rfl)) (by rfl))))) (by intro _ ;rfl)) (@pss_one _ _ _ (@ps_ret _ _ _ _ (pv 2)))))),?_⟩
 walk_at "S"
 try walk_at "WP"
 intro r nr;have rp:r≠p:=hP.ne nr;refine zx nr fun H1 s1 h1=>?_;refine y6 (hP.same s1) (hS.same s1) h63 (by omega) (by decide) (by decide) fun n H2 n0 n1 P2 S2 C2=>?_
 try walk_at "WP"
 refine⟨by omega,by omega,?_⟩;refine forR (fun i σ H'=>∃(xs:List Int) (o3 o4:Option V),σ=[some (.ref p),some (.int top),some (.ref r),o3,o4]/\Chg p H H'/\PPen H' p a (c+1+10*i)/\Scr K H' a ns/\H' r=some (.lst (xs.map V.int))/\xs.length=i) ⟨[],_,_,rfl,s1.chg.trans C2,P2.mono (by omega),S2,C2 _ _ rp h1,rfl⟩ ?_ ?_
 ·rintro i σ H3 N hi ⟨xs,o3,o4,rfl,C3,P3,S3,h3,xl⟩ hN
  try walk_at "WP"
  refine⟨divB (by decide) (by decide),?_⟩;refine y6 P3 S3 h63 (by omega) (by omega) (by omega) fun y H4 y0 y1 P4 S4 C4=>?_
  try walk_at "WP"
  refine⟨mul_l (by decide) (by decide),divB (by decide) (by decide),?_⟩;refine y6 P4 S4 h63 (by omega) (by omega) (by omega) fun z H5 z0 z1 P5 S5 C5=>?_
  try walk_at "WP"
  refine⟨mul_l (by decide) (by decide),fun lq nlq=>?_⟩;refine zx nlq fun H6 s6 h6=>?_;have lqp:lq≠p:=P5.ne nlq;refine y6 (P5.same s6) (S5.same s6) h63 (by omega) (by decide) (by decide) fun w1 H7 w0 w2 P7 S7 C7=>?_;have h7:=C7 _ _ lqp h6;have pw:∀n:Int,-1000<=n->n<=1000->n.natAbs<2^240:=fun n a b=>qJ (m:=2^10) (by omega) (qN (by decide) (by decide));obtain⟨own,eo,oa⟩:∃own:Int,atI [V.int (1+2*y),V.int (1+2*z),V.int 0] w1=some (.int own)/\own.natAbs<2^240:=by
   rcases(show w1=0\/w1=1\/w1=2 by omega) with rfl|rfl|rfl
   ·exact⟨_,rfl,pw _ (by omega) (by omega)⟩
   ·exact⟨_,rfl,pw _ (by omega) (by omega)⟩
   ·exact⟨0,rfl,by decide⟩
  have C37:Chg p H3 H7:=(C4.trans C5).trans (s6.chg.trans C7)
  (iterate 5 ((try (walk_at "WP"));(try (simp only[h7,eo,qJs,qJt,qJl,qJd,exists_eq_left',exists_eq_left]))));(try (walk_at "WP"))
  refine jP (fun σ H'=>∃own:Int,σ=[some (.ref p),some (.int top),some (.ref r),some (.int (0+(i:Int))),some (.int own)]/\own.natAbs<2^240/\Chg p H3 H'/\PPen H' p a (c+1+10*i+7)/\Scr K H' a ns) (fun M hM=>?_) ?_
  ·try walk_at "WP"
   refine y6 P7 S7 h63 (by omega) (by decide) (by decide) fun u H8 u0 u1 P8 S8 C8=>?_
   try walk_at "WP"
   refine yw (fun zz=>?_) (fun zz=>hM _ _ ⟨own,rfl,oa,C37.trans C8,P8.mono (by omega),S8⟩);refine y6 P8 S8 h63 (by omega) (by decide) (by decide) fun e H9 e0 e1 P9 S9 C9=>?_
   try walk_at "WP"
   refine y6 P9 S9 h63 (by omega) (by decide) (by decide) fun g H10 g0 g1 P10 S10 C10=>?_
   try walk_at "WP"
   intro lz nlz;refine zx nlz fun H11 s11 h11=>?_;have lzp:lz≠p:=P10.ne nlz;refine y6 (P10.same s11) (S10.same s11) h63 (by omega) (by decide) (by decide) fun b H12 b0 b1 P12 S12 C12=>?_;have h12:=C12 _ _ lzp h11;obtain⟨own',eo',oa'⟩:∃own':Int,atI [V.int (top+1+e),V.int (10000000000000000000000000000000000000000000000000000000000+g)] b=some (.int own')/\own'.natAbs<2^240:=by
    rcases(show b=0\/b=1 by omega) with rfl|rfl
    ·exact⟨_,rfl,pw _ (by omega) (by omega)⟩
    ·refine⟨_,rfl,qJ (m:=2^200) ?_ (qN (by decide) (by decide))⟩;have:(2:Nat)^200=1606938044258990275541962092341162602522202993782792835301376:=by decide
     omega
   (iterate 5 ((try (walk_at "WP"));(try (simp only[h12,eo',qJs,qJt,qJl,qJd,exists_eq_left',exists_eq_left]))));(try (walk_at "WP"))
   exact hM _ _ ⟨own',rfl,oa',C37.trans (((C8.trans C9).trans C10).trans (s11.chg.trans C12)),P12.mono (by omega),S12⟩
  ·rintro σ H8 ⟨own,rfl,oa,C8,P8,S8⟩
   try walk_at "WP"
   have hr8:=C8 _ _ rp h3;refine⟨jB hr8,?_⟩;refine y6 P8 S8 h63 (by omega) (by decide) (by decide) fun u H9 u0 u1 P9 S9 C9=>?_
   try walk_at "WP"
   refine⟨shl_ok (k:=240) u0 (by omega) oa (by decide),?_⟩;refine y6 P9 S9 h63 (by omega) (by decide) (by decide) fun g H10 g0 g1 P10 S10 C10=>?_
   try walk_at "WP"
   refine⟨mul_l (by decide) (by decide),mul_r (by omega) (by omega),?_⟩;have C810:=C9.trans C10;have hr10:=C810 _ _ rp hr8;refine⟨_,hr10,jb (by rw[qC];omega),?_⟩;have C11:∀o,Chg r H10 (upd H10 r o):=fun o=>Chg.upd o;refine hN _ _ ⟨xs++[own*2^u.toNat*(1-2*g)],_,_,rfl,(C3.trans (C8.trans C810)).two nr (C11 _),(P10.chg rp.symm (C11 _)).mono (by omega),S10.chg hr10 (C11 _),by rw[upd_same,z9];rfl,by rw[qF,xl];rfl⟩
 ·rintro σ H3 ⟨xs,o3,o4,rfl,C3,P3,S3,h3,xl⟩
  try walk_at "WP"
  exact q r xs H3 nr C3 (P3.mono (by omega)) S3 h3 (by omega)
theorem ok_other34 (T:Txt K mg):Cal P w K mg base 2 "_law_other_set" ["_law_pen_here","_law_some","_law_top"] (spOther34 K):=by
 have B:=T.bl;have C_l_pick:=J2 (P:=P) (w:=w) (base:=base) T;refine yc (T.t 24 _ rfl) sc_l_other_set (fun vs H Q E h=>?_) (fun f cdv A outer s H vs Q E hr h=>?_)
 ·obtain⟨_,_,_,_,_,_,_,_,rfl,_⟩:=h;rfl
 obtain⟨N,p,a,t,ns,c,S,top,rfl,hP,hS,h63,hc,hN,hNp,ht,O,t1,t2,q⟩:=h;refine⟨_,((@pss_cons _ _ _ _ _ (@ps_set _ _ (3) _ _ _ _ sc_l_other_set.nd rfl (by walk_at "o") (@pe_op _ _ _ _ _ _ _ _ op_add pe_int (@pe_op _ _ _ _ _ _ _ _ jA pe_int (@pe_cal _ _ _ _ _ _ _ _ _ _ C_l_pick hr rfl (@pa_cons _ _ _ _ _ (pv 0) (@pa_cons _ _ _ _ _ (@pe_op _ _ _ _ _ _ _ _ jO (@pe_op _ _ _ _ _ _ _ _ op_add (pv 2) pe_int) pe_int) pa_nil (by rfl)) (by rfl)) (by decide) (by rfl) (by rfl)))) (by rfl) (by walk_at "o")) (@pss_cons _ _ _ _ _ (@ps_set _ _ (4) _ _ _ _ sc_l_other_set.nd rfl (by walk_at "o") (@pe_cal _ _ _ _ _ _ _ _ _ _ C_l_pick hr rfl (@pa_cons _ _ _ _ _ (pv 0) (@pa_cons _ _ _ _ _ (@pe_op _ _ _ _ _ _ _ _ op_add (@pe_callB _ _ _ _ _ _ _ _ _ call_lenU rfl B.len bo_len (@pa_cons _ _ _ _ _ (pv 1) pa_nil (by rfl)) (by decide) (by decide) (by rfl) (by rfl)) pe_int) pa_nil (by rfl)) (by rfl)) (by decide) (by rfl) (by rfl)) (by rfl) (by walk_at "o")) (@pss_cons _ _ _ _ _ (@ps_set _ _ (5) _ _ _ _ sc_l_other_set.nd rfl (by walk_at "o") (@pe_lst _ _ _ _ (@pa_cons _ _ _ _ _ (@pe_op _ _ _ _ _ _ _ _ op_catX (@pe_slice _ _ _ _ _ _ _ _ _ _ jD (pv 1) xS (@xE _ _ _ (pv 4))) (@pe_slice _ _ _ _ _ _ _ _ _ _ jD (pv 1) (@xE _ _ _ (@pe_op _ _ _ _ _ _ _ _ op_add (pv 4) pe_int)) xS)) (@pa_cons _ _ _ _ _ (@pe_callTy _ _ _ _ _ _ _ _ _ y7 rfl B.tuple xx (@pa_cons _ _ _ _ _ (@pe_callB _ _ _ _ _ _ _ _ _ (@call_sortW _ w rfl (by rfl)) rfl B.sorted bo_sorted (@pa_cons _ _ _ _ _ (@pe_callTy _ _ _ _ _ _ _ _ _ (@Jm _ w K rfl (by rfl) (by rfl)) rfl B.set bo_set (@pa_cons _ _ _ _ _ (@pe_op _ _ _ _ _ _ _ _ op_catX (pv 1) (@pe_tup _ _ _ _ _ (@pa_cons _ _ _ _ _ (pv 3) pa_nil (by rfl)))) pa_nil (by rfl)) (by decide) (by decide) (by rfl) (by rfl)) pa_nil (by rfl)) (by decide) (by decide) (by rfl) (by rfl)) pa_nil (by rfl)) (by decide) (by decide) (by rfl) (by rfl)) (@pa_cons _ _ _ _ _ (@pe_revT _ _ _ _ _ _ _ (pv 1) (@xE _ _ _ (@JG _ _ _ _ _ _ jN pe_int))) (@pa_cons _ _ _ _ _ (@pe_callTy _ _ _ _ _ _ _ _ _ call_list_of rfl B.list bo_list (@pa_cons _ _ _ _ _ (pv 1) pa_nil (by rfl)) (by decide) (by decide) (by rfl) (by rfl)) (@pa_cons _ _ _ _ _ (@pe_op _ _ _ _ _ _ _ _ op_catX (pv 1) (@pe_tup _ _ _ _ _ (@pa_cons _ _ _ _ _ (@pe_op _ _ _ _ _ _ _ _ op_add (pv 2) pe_int) pa_nil (by rfl)))) pa_nil (by rfl)) (by rfl)) (by rfl)) (by rfl)) (by rfl))) (by rfl) (by walk_at "o")) (@pss_cons _ _ _ _ _ (@ps_set _ _ (5) _ _ _ _ sc_l_other_set.nd rfl (by walk_at "o") (@pe_op _ _ _ _ _ _ _ _ op_cat (pv 5) (@pe_lst _ _ _ _ (@pa_cons _ _ _ _ _ (@pe_op _ _ _ _ _ _ _ _ op_catX (pv 1) (@pe_tup _ _ _ _ _ (@pa_cons _ _ _ _ _ (@pe_op _ _ _ _ _ _ _ _ op_add (pv 2) pe_int) pa_nil (by rfl)))) (@pa_cons _ _ _ _ _ (@pe_op _ _ _ _ _ _ _ _ op_catX (@pe_slice _ _ _ _ _ _ _ _ _ _ jD (pv 1) xS (@xE _ _ _ (pv 4))) (@pe_slice _ _ _ _ _ _ _ _ _ _ jD (pv 1) (@xE _ _ _ (@pe_op _ _ _ _ _ _ _ _ JH (pv 4) pe_int)) xS)) (@pa_cons _ _ _ _ _ (@pe_callTy _ _ _ _ _ _ _ _ _ y7 rfl B.tuple xx (@pa_cons _ _ _ _ _ (@pe_compC _ _ _ _ _ _ _ _ (["_law_one"]) (1) ([]) _ _ _ rfl (@pi_tup _ _ _ _ (pv 1)) (fun nd C s H fp=>⟨(@pg_name _ _ (0) _ nd rfl (by walk_at "o") (by walk_at "o")),xB,(@pe_callTy _ _ _ _ _ _ _ _ _ call_bool1 rfl B.bool bo_bool (@pa_cons _ _ _ _ _ (pv 0) pa_nil (by rfl)) (by decide) (by decide) (by rfl) (by rfl))⟩) (by decide +kernel) (by first|rfl|decide +kernel) (by first|rfl|decide +kernel) rfl (fun _=>rfl)) pa_nil (by rfl)) (by decide) (by decide) (by rfl) (by rfl)) (@pa_cons _ _ _ _ _ (@pe_tup _ _ _ _ _ pa_nil) (@pa_cons _ _ _ _ _ (@pe_op _ _ _ _ _ _ _ _ op_catX (pv 1) (@pe_tup _ _ _ _ _ (@pa_cons _ _ _ _ _ pe_int pa_nil (by rfl)))) pa_nil (by rfl)) (by rfl)) (by rfl)) (by rfl)) (by rfl)))) (by rfl) (by walk_at "o")) (@pss_cons _ _ _ _ _ (@ps_set _ _ (5) _ _ _ _ sc_l_other_set.nd rfl (by walk_at "o") (@pe_op _ _ _ _ _ _ _ _ op_cat (pv 5) (@pe_lst _ _ _ _ (@pa_cons _ _ _ _ _ (@pe_op _ _ _ _ _ _ _ _ op_catX (@pe_op _ _ _ _ _ _ _ _ op_catX (@pe_slice _ _ _ _ _ _ _ _ _ _ jD (pv 1) xS (@xE _ _ _ (pv 4))) (@pe_tup _ _ _ _ _ (@pa_cons _ _ _ _ _ (@pe_callTy _ _ _ _ _ _ _ _ _ call_str_int rfl B.str bo_str (@pa_cons _ _ _ _ _ (pv 3) pa_nil (by rfl)) (by decide) (by decide) (by rfl) (by rfl)) pa_nil (by rfl)))) (@pe_slice _ _ _ _ _ _ _ _ _ _ jD (pv 1) (@xE _ _ _ (pv 4)) xS)) (@pa_cons _ _ _ _ _ pe_non (@pa_cons _ _ _ _ _ (@pe_tup _ _ _ _ _ (@pa_cons _ _ _ _ _ (pv 3) pa_nil (by rfl))) (@pa_cons _ _ _ _ _ (@pe_op _ _ _ _ _ _ _ _ op_catX (@pe_op _ _ _ _ _ _ _ _ op_catX (@pe_slice _ _ _ _ _ _ _ _ _ _ jD (pv 1) xS (@xE _ _ _ (pv 4))) (@pe_tup _ _ _ _ _ (@pa_cons _ _ _ _ _ (pv 3) pa_nil (by rfl)))) (@pe_slice _ _ _ _ _ _ _ _ _ _ jD (pv 1) (@xE _ _ _ (pv 4)) xS)) (@pa_cons _ _ _ _ _ (@pe_op _ _ _ _ _ _ _ _ op_catX (@pe_tup _ _ _ _ _ (@pa_cons _ _ _ _ _ (@JG _ _ _ _ _ _ jN pe_int) pa_nil (by rfl))) (pv 1)) pa_nil (by rfl)) (by rfl)) (by rfl)) (by rfl)) (by rfl)))) (by rfl) (by walk_at "o")) (@pss_one _ _ _ (@ps_ret _ _ _ _ (@pe_ix _ _ _ _ _ _ _ ix_M (pv 5) (@pe_cal _ _ _ _ _ _ _ _ _ _ C_l_pick hr rfl (@pa_cons _ _ _ _ _ (pv 0) (@pa_cons _ _ _ _ _ (@pe_callB _ _ _ _ _ _ _ _ _ call_lenM rfl B.len bo_len (@pa_cons _ _ _ _ _ (pv 5) pa_nil (by rfl)) (by decide) (by decide) (by rfl) (by rfl)) pa_nil (by rfl)) (by rfl)) (by decide) (by rfl) (by rfl)) (fun _ _=>rfl)))))))))),?_⟩
 walk_at "S"
 refine zh fun R_ hR_=>?_
 try walk_at "WP"
 refine⟨divB (by decide) (by decide),?_⟩;refine y6 hP hS h63 (by omega) (by omega) (by omega) fun y H1 y0 y1 P1 S1 C1=>?_;obtain⟨_,hp⟩:=hP.lst;have ht1:=C1 _ _ (JE ht hp (by intro z;cases z)) ht;(try (walk_at "WP"));(try (refine zf hR_ ?_));(try (refine zh fun R_ hR_=>?_));(try (walk_at "WP"))
 refine⟨mul_l (by decide) (by decide),?_⟩;have o1:1<=1+2*y:=by omega
 have o2:1+2*y<=99:=by omega
 generalize 1+2*y=own at o1 o2 ⊢;have sl:=O.len t1 t2;(try (walk_at "WP"));(try (refine zf hR_ ?_));(try (refine zh fun R_ hR_=>?_));(try (walk_at "WP"))
 refine⟨_,ht1,?_⟩;rw[qC];refine y6 P1 S1 h63 (by omega) (by omega) (by omega) fun k H2 k0 k1 P2 S2 C2=>?_;obtain⟨_,hp1⟩:=P1.lst;have C02:=C1.trans C2;have M2:Mnu N t S H2 []:=⟨fun q h=>hN q (C02.new (P2.ne h) h),C2 _ _ (JE ht1 hp1 (by intro z;cases z)) ht1,fun u h=>by cases h⟩;have ms:=smV_set O t2;have tl:(S.map V.int).length=S.length:=qC _;clear C1 C2 hp hp1 ht ht1 P1 S1 y0 y1 hP hS hN;(try (walk_at "WP"));(try (refine zf hR_ ?_));(try (refine zh fun R_ hR_=>?_));(try (walk_at "WP"))
 refine jY M2.ht fun r1 ys1 H3 s3 h3 m3 l3=>?_;refine jY (M2.same s3).ht fun r2 ys2 H4 s4 h4 m4 l4=>?_;refine⟨r1,r2,_,_,rfl,rfl,s4 _ _ h3,h4,zZ (by omega),fun i1 H5 s5 h5=>?_⟩;have M5:=(((M2.same s3).same s4).same s5).add (yI h5 (xu (fun x h=>ms x (m3 x h)) (fun x h=>ms x (m4 x h))) (by rw[qF];omega));have C5:=C02.trans ((s3.trans s4).trans s5).chg;have P5:=P2.same ((s3.trans s4).trans s5);have S5:=S2.same ((s3.trans s4).trans s5);clear C02 P2 S2 M2 s3 s4 s5 h3 h4 h5 m3 m4 l3 l4;dsimp only;intro c1 nc1;refine zx nc1 fun H6 s6 h6=>?_;refine⟨t,c1,_,_,rfl,rfl,(M5.same s6).ht,h6,zZ (by rw[tl,zH];omega),fun r3 H7 s7 h7=>?_⟩;rw[show S.map V.int++[V.int own]=(S++[own]).map V.int by simp]at h7;have dl:=ded_len (S++[own]);rw[qF,zH]at dl;have sd:(sortI (ded (S++[own]))).length=(ded (S++[own])).length:=(yA _).length_eq;refine⟨r3,S++[own],rfl,SqT.of h7,by rw[qF,zH];omega,fun b nb=>?_⟩;refine zx nb fun H8 s8 h8=>?_;refine⟨b,ded (S++[own]),rfl,h8,by omega,fun l nl=>?_⟩;refine zx nl fun H9 s9 h9=>?_;refine⟨l,rfl,_,.inl ⟨SqL.of h9,fun i2 n2=>?_⟩⟩;refine zx n2 fun H10 s10 h10=>?_;have s510:=((s6.trans s7).trans (s8.trans s9)).trans s10;have M10:=(M5.same s510).add (yI h10 (smV_ints fun n hn=>by
  have hn:=(xW _ _).mp ((yA _).mem_iff.mp hn);rcases zK.mp hn with e|e
  ·have:=O.od.lo n e;have:=O.od.hi n e;omega
  ·rw[zE.mp e];omega) (by rw[qC];omega))
 have C10:=C5.trans s510.chg;have P10:=P5.same s510;have S10:=S5.same s510;clear M5 C5 P5 S5 s510 s6 s7 s8 s9 s10 h6 h7 h8 h9 h10 nc1 nb nl n2 dl sd;refine⟨_,SqT.of M10.ht,fun i3 n3=>?_⟩;refine zx n3 fun H11 s11 h11=>?_;have M11:=(M10.same s11).add (yI h11 (fun x h=>ms x (yl.mp h)) (by rw[zw];omega));refine⟨_,.inr (SqT.of M11.ht),fun i4 n4=>?_⟩;refine zx n4 fun H12 s12 h12=>?_;have M12:=(M11.same s12).add (goodS_lst (M11.hN _ n4) h12 ms (by omega));intro c5 nc5;refine zx nc5 fun H13 s13 h13=>?_;refine⟨t,c5,_,_,rfl,rfl,(M12.same s13).ht,h13,zZ (by rw[tl,zH];omega),fun i5 H14 s14 h14=>?_⟩;have M14:=((M12.same s13).same s14).add (yI h14 (xu ms (jE (xX (by omega) (by omega)))) (by rw[qF,zH];omega));intro l1 nl1;refine zx nl1 fun H15 s15 h15=>?_;have s1015:=((s11.trans s12).trans (s13.trans s14)).trans s15;have M15:=M14.same s15;have C15:=C10.trans s1015.chg;have P15:=P10.same s1015;have S15:=S10.same s1015;clear M10 M11 M12 M14 C10 P10 S10 s1015 s11 s12 s13 s14 s15 h11 h12 h13 h14 n3 n4 nc5 nl1;(try (walk_at "WP"));(try (refine zf hR_ ?_));(try (refine zh fun R_ hR_=>?_));(try (walk_at "WP"))
 intro c6 nc6;refine zx nc6 fun H16 s16 h16=>?_;refine⟨t,c6,_,_,rfl,rfl,(M15.same s16).ht,h16,zZ (by rw[tl,zH];omega),fun i6 H17 s17 h17=>?_⟩;have M17:=((M15.same s16).same s17).add (yI h17 (xu ms (jE (xX (by omega) (by omega)))) (by rw[qF,zH];omega));refine jY M17.ht fun r4 ys4 H18 s18 h18 m18 l18=>?_;refine jY (M17.same s18).ht fun r5 ys5 H19 s19 h19 m19 l19=>?_;refine⟨r4,r5,_,_,rfl,rfl,s19 _ _ h18,h19,zZ (by omega),fun i7 H20 s20 h20=>?_⟩;have M20:=(((M17.same s18).same s19).same s20).add (yI h20 (xu (fun x h=>ms x (m18 x h)) (fun x h=>ms x (m19 x h))) (by rw[qF];omega));have s1520:=((s16.trans s17).trans (s18.trans s19)).trans s20;have C20:=C15.trans s1520.chg;have P20:=P15.same s1520;have S20:=S15.same s1520;have h20l:=s1520 _ _ h15;clear M15 M17 C15 P15 S15 s1520 s16 s17 s18 s19 s20 h15 h16 h17 h18 h19 h20 m18 m19 l18 l19 nc6;refine⟨⟨_,SqT.of M20.ht⟩,?_⟩;refine comp_T (f:=boV) (SqT.of M20.ht) (by rw[tl];exact xI (by omega)) (fun x H' R hx s' hR=>?_) (fun acc hacc=>?_)
 ·obtain⟨n,hn,rfl⟩:=qP.mp hx;rw[show ∀o5,yF [] [some (V.ref p),some (V.ref t),some (V.int top),some (V.int own),some (V.int k),o5]=[] from fun _=>rfl]
  try walk_at "WP"
  exact hR
 rw[boV_map];refine zx hacc fun H21 s21 h21=>?_;refine⟨acc,rfl,_,.inl ⟨SqL.of h21,fun i8 n8=>?_⟩⟩;refine zx n8 fun H22 s22 h22=>?_;have M22:=((M20.same s21).same s22).add (yI h22 (fun x hx=>by
  obtain⟨n,_,rfl⟩:=qP.mp hx;exact smV_bl _) (by rw[qC];omega))
 intro i9 n9;refine zx n9 fun H23 s23 h23=>?_;have M23:=(M22.same s23).add (yI h23 (fun x hx=>by cases hx) (by decide));intro c10 nc10;refine zx nc10 fun H24 s24 h24=>?_;refine⟨t,c10,_,_,rfl,rfl,(M23.same s24).ht,h24,zZ (by rw[tl,zH];omega),fun i10 H25 s25 h25=>?_⟩;have M25:=((M23.same s24).same s25).add (yI h25 (xu ms (jE (xX (by omega) (by omega)))) (by rw[qF,zH];omega));intro l2 nl2;refine zx nl2 fun H26 s26 h26=>?_;have s2026:=(((s21.trans s22).trans (s23.trans s24)).trans s25).trans s26;refine⟨_,s2026 _ _ h20l,zZ (by simp),fun l3 nl3=>?_⟩;refine zx nl3 fun H27 s27 h27=>?_;have s2027:=s2026.trans s27;have M27:=(M25.same s26).same s27;have C27:=C20.trans s2027.chg;have P27:=P20.same s2027;have S27:=S20.same s2027;clear M20 M22 M23 M25 C20 P20 S20 s2026 s2027 s21 s22 s23 s24 s25 s26 s27 h20l h21 h22 h23 h24 h25 h26 hacc n8 n9 nc10 nl2 nl3;(try (walk_at "WP"));(try (refine zf hR_ ?_));(try (refine zh fun R_ hR_=>?_));(try (walk_at "WP"))
 refine jY M27.ht fun r6 ys6 H28 s28 h28 m28 l28=>?_;refine⟨log_lt (by omega) (by omega),fun c11 nc11=>?_⟩;refine zx nc11 fun H29 s29 h29=>?_;refine⟨r6,c11,_,_,rfl,rfl,s29 _ _ h28,h29,zZ (by rw[zH];omega),fun r7 H30 s30 h30=>?_⟩;refine jY (((M27.same s28).same s29).same s30).ht fun r8 ys8 H31 s31 h31 m31 l31=>?_;refine⟨r7,r8,_,_,rfl,rfl,s31 _ _ h30,h31,zZ (by rw[qF,zH];omega),fun i11 H32 s32 h32=>?_⟩;have s2732:=((s28.trans s29).trans (s30.trans s31)).trans s32;have M32:=((M27.same s2732).add (yI h32 (xu (xu (fun x h=>ms x (m28 x h)) (jE (smV_str o1 o2))) (fun x h=>ms x (m31 x h))) (by rw[qF,qF,zH];omega))).add goodS_non;intro i13 n13;refine zx n13 fun H33 s33 h33=>?_;have M33:=(M32.same s33).add (yI h33 (jE (xX (by omega) (by omega))) (by simp));refine jY M33.ht fun r9 ys9 H34 s34 h34 m34 l34=>?_;intro c14 nc14;refine zx nc14 fun H35 s35 h35=>?_;refine⟨r9,c14,_,_,rfl,rfl,s35 _ _ h34,h35,zZ (by rw[zH];omega),fun r10 H36 s36 h36=>?_⟩;refine jY (((M33.same s34).same s35).same s36).ht fun r11 ys11 H37 s37 h37 m37 l37=>?_;refine⟨r10,r11,_,_,rfl,rfl,s37 _ _ h36,h37,zZ (by rw[qF,zH];omega),fun i14 H38 s38 h38=>?_⟩;have s3338:=((s34.trans s35).trans (s36.trans s37)).trans s38;have M38:=(M33.same s3338).add (yI h38 (xu (xu (fun x h=>ms x (m34 x h)) (jE (xX (by omega) (by omega)))) (fun x h=>ms x (m37 x h))) (by rw[qF,qF,zH];omega));intro c15 nc15;refine zx nc15 fun H39 s39 h39=>?_;refine⟨c15,t,_,_,rfl,rfl,h39,(M38.same s39).ht,zZ (by rw[tl,zH];omega),fun i15 H40 s40 h40=>?_⟩;have M40:=((M38.same s39).same s40).add (yI h40 (xu (jE (xX (by omega) (by omega))) ms) (by rw[qF,zH];omega));intro l4 nl4;refine zx nl4 fun H41 s41 h41=>?_;have s2741:=(((s2732.trans s33).trans s3338).trans (s39.trans s40)).trans s41;refine⟨_,s2741 _ _ h27,zZ (by simp),fun l5 nl5=>?_⟩;refine zx nl5 fun H42 s42 h42=>?_;have s2742:=s2741.trans s42;have M42:=(M40.same s41).same s42;have P42:=P27.same s2742;have S42:=S27.same s2742;have C42:=C27.trans s2742.chg;have l5p:l5≠p:=(P27.same s2741).ne nl5;clear M27 M32 M33 M38 M40 C27 P27 S27 s2732 s3338 s2741 s2742 s28 s29 s30 s31 s32 s33 s34 s35 s36 s37 s38 s39 s40 s41 s42 h27 h28 h29 h30 h31 h32 h33 h34 h35 h36 h37 h38 h39 h40 h41 m28 m31 m34 m37;(try (walk_at "WP"));(try (refine zf hR_ ?_));(try (refine zh fun R_ hR_=>?_));(try (walk_at "WP"))
 refine⟨_,h42,?_⟩;refine y6 P42 S42 h63 (by omega) (by simp) (by simp) fun j H43 j0 j1 P43 S43 C43=>?_;obtain⟨_,hp⟩:=P42.lst;obtain⟨j,rfl⟩:=xR j0;have hj:=Int.ofNat_lt.mp j1;have ej:=qA hj;rw[Jc];refine⟨_,C43 _ _ l5p h42,_,yM ej,?_⟩;exact q _ H43 (C42.trans C43) (P43.mono (by omega)) S43 ((M42.A _ (qE ej)).chg hNp hp C43)
theorem ok_bent34 (T:Txt K mg):Cal P w K mg base 3 "_law_bent" ["_law_pen_here","_law_paper","_law_top"] (spBent34 K):=by
 have B:=T.bl;have C_l_pick:=(J2 (P:=P) (w:=w) (base:=base) T).mono (k:=2) (by decide);have C_l_other_set:=ok_other34 (P:=P) (w:=w) (base:=base) T;refine yc (T.t 25 _ rfl) sc_l_bent (fun vs H Q E h=>?_) (fun f cdv A outer s H vs Q E hr h=>?_)
 ·obtain⟨_,_,_,_,_,_,_,_,rfl,_⟩:=h;rfl
 obtain⟨N,p,a,la,ns,c,us,top,rfl,hP,hS,h63,hc,hN,hNp,nl,hl,l4,A,t1,t2,q⟩:=h;refine⟨_,((@pss_cons _ _ _ _ _ (@ps_set _ _ (3) _ _ _ _ sc_l_bent.nd rfl (by walk_at "o") (@pe_lst _ _ _ _ (@pa_cons _ _ _ _ _ pe_non (@pa_cons _ _ _ _ _ (@pe_tup _ _ _ _ _ pa_nil) (@pa_cons _ _ _ _ _ pe_dnewK (@pa_cons _ _ _ _ _ pe_str (@pa_cons _ _ _ _ _ pe_int (@pa_cons _ _ _ _ _ pe_bl (@pa_cons _ _ _ _ _ (@pe_lst _ _ _ _ (@pa_cons _ _ _ _ _ (@pe_lst _ _ _ _ pa_nil) pa_nil (by rfl))) (@pa_cons _ _ _ _ _ (@pe_lst _ _ _ _ (@pa_cons _ _ _ _ _ (@pe_lst _ _ _ _ (@pa_cons _ _ _ _ _ (@pe_tup _ _ _ _ _ (@pa_cons _ _ _ _ _ pe_int pa_nil (by rfl))) pa_nil (by rfl))) pa_nil (by rfl))) (@pa_cons _ _ _ _ _ (@pe_lst _ _ _ _ (@pa_cons _ _ _ _ _ (@pe_tup _ _ _ _ _ pa_nil) pa_nil (by rfl))) (@pa_cons _ _ _ _ _ (@pe_callTy _ _ _ _ _ _ _ _ _ y7 rfl B.tuple xx (@pa_cons _ _ _ _ _ (pv 1) pa_nil (by rfl)) (by decide) (by decide) (by rfl) (by rfl)) (@pa_cons _ _ _ _ _ (@pe_compC _ _ _ _ _ _ _ _ (["_law_level"]) (1) ([]) _ _ _ rfl (@pi_list _ _ _ _ (pv 1)) (fun nd C s H fp=>⟨(@pg_name _ _ (0) _ nd rfl (by walk_at "o") (by walk_at "o")),xB,(@pe_callTy _ _ _ _ _ _ _ _ _ (@call_tupleK _ K (by rfl)) rfl B.tuple xx (@pa_cons _ _ _ _ _ (pv 0) pa_nil (by rfl)) (by decide) (by decide) (by rfl) (by rfl))⟩) (by decide +kernel) (by first|rfl|decide +kernel) (by first|rfl|decide +kernel) rfl (fun _=>rfl)) pa_nil (by rfl)) (by rfl)) (by rfl)) (by rfl)) (by rfl)) (by rfl)) (by rfl)) (by rfl)) (by rfl)) (by rfl)) (by rfl))) (by rfl) (by walk_at "o")) (@pss_cons _ _ _ _ _ (@ps_set _ _ (4) _ _ _ _ sc_l_bent.nd rfl (by walk_at "o") (@pe_cal _ _ _ _ _ _ _ _ _ _ C_l_pick hr rfl (@pa_cons _ _ _ _ _ (pv 0) (@pa_cons _ _ _ _ _ pe_int pa_nil (by rfl)) (by rfl)) (by decide) (by rfl) (by rfl)) (by rfl) (by walk_at "o")) (@pss_cons _ _ _ _ _ (@ps_if _ _ _ _ _ _ _ _ (@PW.pt _ _ _ (@pw_or _ _ _ _ _ _ _ (@pt_cmpR _ _ _ _ _ _ _ _ (@op_eqE _ _ hr) (pv 1) (@pe_lst _ _ _ _ pa_nil) (@nomark _ _ (by decide) (by decide))) (@pw_or1 _ _ _ _ (@pt_cmpR _ _ _ _ _ _ _ _ op_eq (pv 4) pe_int (@nomark _ _ (by decide) (by decide)))))) (@pss_one _ _ _ (@ps_ret _ _ _ _ (@pe_ix _ _ _ _ _ _ _ ix_M (pv 3) (@pe_cal _ _ _ _ _ _ _ _ _ _ C_l_pick hr rfl (@pa_cons _ _ _ _ _ (pv 0) (@pa_cons _ _ _ _ _ (@pe_callB _ _ _ _ _ _ _ _ _ call_lenM rfl B.len bo_len (@pa_cons _ _ _ _ _ (pv 3) pa_nil (by rfl)) (by decide) (by decide) (by rfl) (by rfl)) pa_nil (by rfl)) (by rfl)) (by decide) (by rfl) (by rfl)) (fun _ _=>rfl)))) pss_nil) (@pss_cons _ _ _ _ _ (@ps_setCompC _ _ _ _ (5) _ _ _ _ _ _ _ (["_law_level"]) (1) ([]) _ _ _ rfl (@pi_list _ _ _ _ (pv 1)) (fun nd C s H fp=>⟨(@pg_name _ _ (0) _ nd rfl (by walk_at "o") (by walk_at "o")),xB,(@pe_callTy _ _ _ _ _ _ _ _ _ (@call_listK _ K (by rfl)) rfl B.list bo_list (@pa_cons _ _ _ _ _ (pv 0) pa_nil (by rfl)) (by decide) (by decide) (by rfl) (by rfl))⟩) (by decide +kernel) (by first|rfl|decide +kernel) (by first|rfl|decide +kernel) rfl (fun _=>rfl) sc_l_bent.nd rfl (by walk_at "o") (by walk_at "o") rfl) (@pss_cons _ _ _ _ _ (@ps_set _ _ (6) _ _ _ _ sc_l_bent.nd rfl (by walk_at "o") (@pe_cal _ _ _ _ _ _ _ _ _ _ C_l_pick hr rfl (@pa_cons _ _ _ _ _ (pv 0) (@pa_cons _ _ _ _ _ (@pe_callB _ _ _ _ _ _ _ _ _ call_lenM rfl B.len bo_len (@pa_cons _ _ _ _ _ (pv 5) pa_nil (by rfl)) (by decide) (by decide) (by rfl) (by rfl)) pa_nil (by rfl)) (by rfl)) (by decide) (by rfl) (by rfl)) (by rfl) (by walk_at "o")) (@pss_cons _ _ _ _ _ (@ps_set _ _ (7) _ _ _ _ sc_l_bent.nd rfl (by walk_at "o") (@pe_cal _ _ _ _ _ _ _ _ _ _ C_l_pick hr rfl (@pa_cons _ _ _ _ _ (pv 0) (@pa_cons _ _ _ _ _ (@pe_callB _ _ _ _ _ _ _ _ _ call_lenM rfl B.len bo_len (@pa_cons _ _ _ _ _ (@pe_ix _ _ _ _ _ _ _ ix_M (pv 5) (pv 6) (fun _ _=>rfl)) pa_nil (by rfl)) (by decide) (by decide) (by rfl) (by rfl)) pa_nil (by rfl)) (by rfl)) (by decide) (by rfl) (by rfl)) (by rfl) (by walk_at "o")) (@pss_mid _ _ _ _ _ (@ps_if _ _ _ _ _ _ _ _ (@pt_cmpR _ _ _ _ _ _ _ _ op_lt (pv 4) pe_int (@nomark _ _ (by decide) (by decide))) (@pss_one _ _ _ (@J3 _ _ _ _ _ _ (@pe_cal _ _ _ _ _ _ _ _ _ _ C_l_other_set hr rfl (@pa_cons _ _ _ _ _ (pv 0) (@pa_cons _ _ _ _ _ (@pe_ix _ _ _ _ _ _ _ ix_M (@pe_ix _ _ _ _ _ _ _ ix_M (pv 5) (pv 6) (fun _ _=>rfl)) (pv 7) (fun _ _=>rfl)) (@pa_cons _ _ _ _ _ (pv 2) pa_nil (by rfl)) (by rfl)) (by rfl)) (by decide) (by rfl) (by rfl)) (@pg_sub _ _ _ _ _ _ _ (@pe_ix _ _ _ _ _ _ _ ix_M (pv 5) (pv 6) (fun _ _=>rfl)) (pv 7) JI (by intro _ ;rfl)) (by rfl) (by rfl) (by rfl))) pss_nil) (@pss_mid _ _ _ _ _ (@ps_if _ _ _ _ _ _ _ _ (@pt_cmpR _ _ _ _ _ _ _ _ op_eq (pv 4) pe_int (@nomark _ _ (by decide) (by decide))) (@pss_one _ _ _ (@xp _ _ _ _ (@pe_bm _ _ _ _ _ _ _ _ _ _ _ _ yB PySem.F.slot_list_pop PySem.F.type_list_pop mt_popAt (@pe_ix _ _ _ _ _ _ _ ix_M (pv 5) (pv 6) (fun _ _=>rfl)) (@pa_cons _ _ _ _ _ (pv 7) pa_nil (by rfl)) (by rfl) (by rfl) (by rfl) (by rfl) (by rfl)) (by rfl))) pss_nil) (@pss_mid _ _ _ _ _ (@ps_if _ _ _ _ _ _ _ _ (@pt_cmpR _ _ _ _ _ _ _ _ op_eq (pv 4) pe_int (@nomark _ _ (by decide) (by decide))) (@pss_one _ _ _ (@xp _ _ _ _ (@pe_bm _ _ _ _ _ _ _ _ _ _ _ _ yB yo yn xj (@pe_ix _ _ _ _ _ _ _ ix_M (pv 5) (pv 6) (fun _ _=>rfl)) (@pa_cons _ _ _ _ _ (@pe_ix _ _ _ _ _ _ _ ix_M (@pe_lst _ _ _ _ (@pa_cons _ _ _ _ _ (@pe_ix _ _ _ _ _ _ _ ix_M (@pe_ix _ _ _ _ _ _ _ ix_M (pv 5) (pv 6) (fun _ _=>rfl)) (pv 7) (fun _ _=>rfl)) (@pa_cons _ _ _ _ _ (@pe_tup _ _ _ _ _ pa_nil) (@pa_cons _ _ _ _ _ (@pe_tup _ _ _ _ _ (@pa_cons _ _ _ _ _ pe_int pa_nil (by rfl))) pa_nil (by rfl)) (by rfl)) (by rfl))) (@pe_cal _ _ _ _ _ _ _ _ _ _ C_l_pick hr rfl (@pa_cons _ _ _ _ _ (pv 0) (@pa_cons _ _ _ _ _ pe_int pa_nil (by rfl)) (by rfl)) (by decide) (by rfl) (by rfl)) (fun _ _=>rfl)) pa_nil (by rfl)) (by rfl) (by rfl) (by rfl) (by rfl) (by rfl)) (by rfl))) pss_nil) (@pss_mid _ _ _ _ _ (@ps_if _ _ _ _ _ _ _ _ (@pt_cmpR _ _ _ _ _ _ _ _ op_eq (pv 4) pe_int (@nomark _ _ (by decide) (by decide))) (@pss_one _ _ _ (@xp _ _ _ _ (@pe_bm _ _ _ _ _ _ _ _ _ _ _ _ yB PySem.F.slot_list_pop PySem.F.type_list_pop mt_popAt (pv 5) (@pa_cons _ _ _ _ _ (pv 6) pa_nil (by rfl)) (by rfl) (by rfl) (by rfl) (by rfl) (by rfl)) (by rfl))) pss_nil) (@pss_mid _ _ _ _ _ (@ps_if _ _ _ _ _ _ _ _ (@pt_cmpR _ _ _ _ _ _ _ _ op_eq (pv 4) pe_int (@nomark _ _ (by decide) (by decide))) (@pss_one _ _ _ (@xp _ _ _ _ (@pe_bm _ _ _ _ _ _ _ _ _ _ _ _ yB PySem.F.slot_list_insert PySem.F.type_list_insert mt_insert (pv 5) (@pa_cons _ _ _ _ _ (pv 6) (@pa_cons _ _ _ _ _ (@pe_ix _ _ _ _ _ _ _ ix_M (@pe_lst _ _ _ _ (@pa_cons _ _ _ _ _ (@pe_ix _ _ _ _ _ _ _ ix_M (pv 5) (pv 6) (fun _ _=>rfl)) (@pa_cons _ _ _ _ _ (@pe_lst _ _ _ _ pa_nil) pa_nil (by rfl)) (by rfl))) (@pe_cal _ _ _ _ _ _ _ _ _ _ C_l_pick hr rfl (@pa_cons _ _ _ _ _ (pv 0) (@pa_cons _ _ _ _ _ pe_int pa_nil (by rfl)) (by rfl)) (by decide) (by rfl) (by rfl)) (fun _ _=>rfl)) pa_nil (by rfl)) (by rfl)) (by rfl) (by rfl) (by rfl) (by rfl) (by rfl)) (by rfl))) pss_nil) (@pss_one _ _ _ (@ps_ret _ _ _ _ (pv 5))))))))))))))),?_⟩
 walk_at "S"
 refine zh fun R_ hR_=>?_
 try walk_at "WP"
 have M0:MnP N top la us H []:=⟨hN,hl,A,fun u h=>by cases h⟩;clear hl A;have M0:=M0.add (goodP_v smV_non);intro p1 n1;refine zx n1 fun H1 s1 h1=>?_;have M1:=(M0.same s1).add (goodP_tup h1 (fun u h=>by cases h) (by simp));intro p2 n2;refine zx n2 fun H2 s2 h2=>?_;have M2:=((((M1.same s2).add (goodP_d h2)).add (goodP_v smV_e)).add (goodP_v (xX (n:=7) (by omega) (by omega)))).add (goodP_v (smV_bl true));intro p3 n3;refine zx n3 fun H3 s3 h3=>?_;intro p4 n4;refine zx n4 fun H4 s4 h4=>?_;have M4:=((M2.same s3).same s4).add (xO ((M2.same s3).hN _ n4) h4 (fun u h=>by rw[zE.mp h];exact(jH (M2.hN _ n3) h3 (fun u h=>by cases h) (by simp)).same s4) (by simp));intro p5 n5;refine zx n5 fun H5 s5 h5=>?_;intro p6 n6;refine zx n6 fun H6 s6 h6=>?_;intro p7 n7;refine zx n7 fun H7 s7 h7=>?_;have M7:=(((M4.same s5).same s6).same s7).add (xO (((M4.same s5).same s6).hN _ n7) h7 (fun u h=>by rw[zE.mp h];exact(jH ((M4.same s5).hN _ n6) h6 (fun u h=>by rw[zE.mp h];exact(yI h5 (jE (xX (by omega) (by omega))) (by simp)).same s6) (by simp)).same s7) (by simp));intro p8 n8;refine zx n8 fun H8 s8 h8=>?_;intro p9 n9;refine zx n9 fun H9 s9 h9=>?_;have M9:=((M7.same s8).same s9).add (xO ((M7.same s8).hN _ n9) h9 (fun u h=>by rw[zE.mp h];exact(goodL_tup h8 (fun u h=>by cases h) (by simp)).same s9) (by simp));have s09:=(((s1.trans s2).trans (s3.trans s4)).trans ((s5.trans s6).trans (s7.trans s8))).trans s9;clear M0 M1 M2 M4 M7 s1 s2 s3 s4 s5 s6 s7 s8 s9 h1 h2 h3 h4 h5 h6 h7 h8 h9 n1 n2 n3 n4 n5 n6 n7 n8 n9;refine⟨_,.inl ⟨SqL.of M9.hl,fun i10 n10=>?_⟩⟩;refine zx n10 fun H10 s10 h10=>?_;have M10:=(M9.same s10).add (goodP_tup h10 (fun u h=>((M9.same s10).A0 u h).good t1 t2) (by omega));refine⟨⟨_,SqL.of M10.hl⟩,?_⟩;refine zAL (fun _ H'=>Same H10 H') (fun _ H' u=>TupR top H' u) (zZ (by omega)) (fun i H' s=>s _ _ M10.hl) (Same.refl _) (fun acc i H' o na s=>yE na s) (fun acc H1 H2 u xs h ha c=>h.chg ha c) (fun i x H' R acc ys hx na ha s hR=>?_) (fun acc ws H11 na s11 h11 wl hw=>?_)
 ·obtain⟨r,ws,rfl,nr,hr1,ne,l,a⟩:=M10.A0 _ (qE hx);rw[show yF [] [some (V.ref p),some (V.ref la),some (V.int top),none,none,none,none,none]=[] from rfl]
  try walk_at "WP"
  refine⟨_,.inl ⟨SqL.of (s _ _ hr1),fun t nt=>?_⟩⟩;refine zx nt fun H12 s12 h12=>?_;exact hR _ H12 (s12 _ _ ha) (s.trans s12) (fun z h=>h.same s12) ⟨t,ws,rfl,h12,l,fun w hw=>(a w hw).same (s.trans s12)⟩
 have M11:=(M10.same s11).add (xO (M10.hN _ na) h11 (fun u h=>(hw u h).good t1 t2) (by omega));refine⟨zZ (by simp),fun lo nlo=>?_⟩;refine zx nlo fun H12 s12 h12=>?_;have s012:=((s09.trans s10).trans s11).trans s12;have M12:=M11.same s12;have P12:=hP.same s012;have S12:=hS.same s012;have C12:Chg p H H12:=s012.chg;have lop:lo≠p:=(hP.same ((s09.trans s10).trans s11)).ne nlo;clear s09 s10 s11 s12 s012 M9 M10 M11 hw wl h11 h10 na n10 nlo hP hS;(try (walk_at "WP"));(try (refine zf hR_ ?_));(try (refine zh fun R_ hR_=>?_));(try (walk_at "WP"))
 refine y6 P12 S12 h63 (by omega) (by decide) (by decide) fun y H13 y0 y1 P13 S13 C13=>?_;obtain⟨_,hp⟩:=P12.lst;have M13:=M12.chg nl hNp hp P13.lst C13;have h13:=C13 _ _ lop h12;have C13:=C12.trans C13;clear M12 P12 S12 C12 hp h12;(try (walk_at "WP"));(try (refine zf hR_ ?_));(try (refine zh fun R_ hR_=>?_));(try (walk_at "WP"))
 intro e ne;refine zx ne fun H14 s14 h14=>?_;have M14:=M13.same s14;have P14:=P13.same s14;have S14:=S13.same s14;have C14:=C13.trans s14.chg;have hlo:=s14 _ _ h13;clear M13 P13 S13 C13 h13 s14 ne;refine⟨_,SqL.of M14.hl,SqL.of h14,?_⟩;have other:∃x,H14 lo=some (HO.lst x)/\spPick K [V.ref p,V.int (x.length:Nat)] H14 (fun y H2=>rIxM (V.ref lo) y H2 Q) E0:=by
  refine⟨_,hlo,?_⟩;refine y6 P14 S14 h63 (by omega) (by simp) (by simp) fun j H15 j0 j1 P15 S15 C15=>?_;obtain⟨_,hp⟩:=P14.lst;obtain⟨j,rfl⟩:=xR j0;have hj:=Int.ofNat_lt.mp j1;have ej:=qA hj;rw[Jc];refine⟨_,C15 _ _ lop hlo,_,yM ej,?_⟩;exact q _ H15 (C14.trans C15) (P15.mono (by omega)) S15 ((M14.A _ (qE ej)).chg hNp hp C15)
 refine yw (fun _=>other) (fun ul=>yw (fun _=>other) (fun yz=>?_));clear other hlo lop h14;obtain⟨hN14,hl14,A14,_⟩:=M14;(try (walk_at "WP"));(try (refine zf hR_ ?_));(try (refine zh fun R_ hR_=>?_));(try (walk_at "WP"))
 refine⟨⟨_,SqL.of hl14⟩,?_⟩;refine zAL (fun _ H'=>Same H14 H') (fun acc H' u=>LevR (fun q=>(N q/\H q=none)/\q≠acc) top H' u) (zZ (by omega)) (fun i H' s=>s _ _ hl14) (Same.refl _) (fun acc i H' o na s=>yE na s) (fun acc H1 H2 u xs h ha c=>h.chg (fun q h=>h.2) ha c) (fun i x H' R acc ys hx na ha s hR=>?_) (fun f fs H15 nf s15 hf fl A15=>?_)
 ·obtain⟨r,ws,rfl,nr,hr1,ne,l,a⟩:=A14 _ (qE hx);rw[show ∀o5 o6 o7,yF [] [some (V.ref p),some (V.ref la),some (V.int top),some (V.ref lo),some (V.int y),o5,o6,o7]=[] from fun _ _ _=>rfl]
  try walk_at "WP"
  refine⟨_,.inl (SqL.of (s _ _ hr1)),fun t nt=>?_⟩;refine zx nt fun H12 s12 h12=>?_;exact hR _ H12 (s12 _ _ ha) (s.trans s12) (fun z h=>h.same s12) ⟨t,ws,rfl,⟨⟨hN14 _ (s.free nt),C14.new (P14.ne (s.free nt)) (s.free nt)⟩,(ne_of_none ha nt).symm⟩,h12,ne,l,fun w hw=>(a w hw).same (s.trans s12)⟩
 have Nf:N f/\H f=none:=⟨hN14 _ nf,C14.new (P14.ne nf) nf⟩;have fp:=P14.ne nf;have hN15:∀q,H15 q=none->N q:=fun q h=>hN14 q (s15.free h);have P15:=P14.same s15;have S15:=S14.same s15;have C15:=C14.trans s15.chg;clear P14 S14 C14 hl14 A14 s15 nf hN14;(try (walk_at "WP"));(try (refine zf hR_ ?_));(try (refine zh fun R_ hR_=>?_));(try (walk_at "WP"))
 refine⟨_,hf,?_⟩;refine y6 P15 S15 h63 (by omega) (by omega) (by omega) fun k H16 k0 k1 P16 S16 C16=>?_;obtain⟨_,hp⟩:=P15.lst;obtain⟨k,rfl⟩:=xR k0;have kl:=Int.ofNat_lt.mp k1;have ek:=qA kl;have A16:∀u∈fs,LevR (fun q=>(N q/\H q=none)/\q≠f) top H16 u:=fun u h=>(A15 u h).chg (fun q h=>hNp q h.1.1) hp C16;have hf16:=C16 _ _ fp hf;have hN16:∀q,H16 q=none->N q:=fun q h=>hN15 q (C16.new (P16.ne h) h);have C16:=C15.trans C16;clear A15 hf hN15 P15 S15 C15 hp;obtain⟨r,ws,er,nr,hr16,wne,wl,a16⟩:=A16 _ (qE ek);rw[er]at ek;have w0:0<ws.length:=yx.mpr wne;(try (walk_at "WP"));(try (refine zf hR_ ?_));(try (refine zh fun R_ hR_=>?_));(try (walk_at "WP"))
 refine⟨_,hf16,_,yM ek,r,rfl,_,hr16,?_⟩;refine y6 P16 S16 h63 (by omega) (by omega) (by omega) fun i H17 i0 i1 P17 S17 C17=>?_;obtain⟨_,hp⟩:=P16.lst;obtain⟨i,rfl⟩:=xR i0;have il:=Int.ofNat_lt.mp i1;have rp:=hNp r nr.1.1;have BS:Bs34 K (fun q=>N q/\H q=none) p a f r ns c top y fs ws H 1 H17:=.todo (by omega) (P17.mono (by omega)) S17 (C16.trans C17) (C17 _ _ fp hf16) (fun u h=>(A16 u h).chg (fun q h=>hNp q h.1.1) hp C17) (C17 _ _ rp hr16) (fun w h=>(a16 w h).chg hp C17);clear A16 a16 hf16 hr16 P16 S16 C16 P17 S17 C17 hp hN16;(try (walk_at "WP"));(try (refine zf hR_ ?_));(try (refine zh fun R_ hR_=>?_));(try (walk_at "WP"))
 have ki:=fun(H18 H19:Hp) (C18:Chg p H H18) (P18:PPen H18 p a (c+7)) (S18:Scr K H18 a ns) (b:Addr) (xs:List V) (hb:H18 b=some (.lst xs)) (bp:b≠p) (b0:H b=none) (C19:Chg b H18 H19)=>(⟨C18.two b0 C19,P18.chg bp.symm C19,S18.chg hb C19⟩:Chg p H H19/\PPen H19 p a (c+7)/\Scr K H19 a ns);have lev:∀(H18:Hp) ws',Chg p H H18->PPen H18 p a (c+7)->Scr K H18 a ns->H18 f=some (.lst fs)->(∀u∈fs,LevR (fun q=>(N q/\H q=none)/\q≠f) top H18 u)->H18 r=some (.lst ws)->(∀w∈ws',GoodS (fun q=>(N q/\H q=none)/\q≠r) H18 w)->ws'.length<=1100->y<8->∀j,y<j->Bs34 K (fun q=>N q/\H q=none) p a f r ns c top y fs ws H j (upd H18 r (.lst ws')):=fun H18 ws' C18 P18 S18 hf A hr hw l _ j hj=>by
  obtain⟨C19,P19,S19⟩:=ki H18 _ C18 P18 S18 r ws hr rp nr.1.2 (Chg.upd (.lst ws'));exact .done hj P19 S19 C19 (xO Nf (by rw[yL nr.2.symm];exact hf) (lev_upd (fun u h=>(A u h).imp fun q h=>h.1) ⟨_,hr⟩ nr.1 (fun w h=>((hw w h).chg (fun q h=>h.2) hr (Chg.upd _)).imp fun q h=>h.1) l t1 t2) (by omega))
 refine jP (fun σ H'=>σ=[some (.ref p),some (.ref la),some (.int top),some (.ref lo),some (.int y),some (.ref f),some (.int (k:Nat)),some (.int (i:Nat))]/\Bs34 K (fun q=>N q/\H q=none) p a f r ns c top y fs ws H 6 H') (fun M hM=>?_) ?_
 ·rcases BS with⟨yj,P17,S17,C17,hf17,A17,hr17,a17⟩|⟨yj,P17,S17,C17,g⟩
  rotate_left
  ·try walk_at "WP"
   rw[if_neg (by omega)];exact hM _ _ ⟨rfl,.done (by omega) P17 S17 C17 g⟩
  try walk_at "WP"
  refine yw (fun z=>?_) (fun z=>hM _ _ ⟨rfl,.todo (by omega) P17 S17 C17 hf17 A17 hr17 a17⟩);refine⟨_,hf17,_,yM ek,?_⟩;rw[Jc];refine⟨_,hr17,_,yM (qA il),?_⟩;obtain⟨t,S,et,ht,OS⟩:=a17 _ (List.getElem_mem il);rw[et];refine⟨fun q=>(N q/\H q=none)/\q≠r,p,a,t,ns,c+3,S,top,rfl,P17,S17,h63,by omega,fun q h=>⟨⟨hN q (C17.new (P17.ne h) h),C17.new (P17.ne h) h⟩,(ne_of_none hr17 h).symm⟩,fun q h=>hNp q h.1.1,ht,OS,t1,t2,fun v H18 C18 P18 S18 g=>?_⟩;obtain⟨_,hp⟩:=P17.lst;have hr18:=C18 _ _ rp hr17;refine⟨_,C18 _ _ fp hf17,_,yM ek,?_⟩;rw[w_setL];refine⟨_,hr18,i,ixN_nat il,?_⟩;refine hM _ _ ⟨rfl,lev H18 _ (C17.trans C18) (P18.mono (by omega)) S18 (C18 _ _ fp hf17) (fun u h=>(A17 u h).chg (fun q h=>hNp q h.1.1) hp C18) hr18 (fun w hw=>?_) (by rw[List.length_set];omega) (by omega) 6 (by omega)⟩;rcases List.mem_or_eq_of_mem_set hw with h|rfl
  ·exact((a17 w h).chg hp C18).good t1 t2
  ·exact g
 clear BS H17;rintro σ H17 ⟨rfl,BS⟩;refine jP (fun σ H'=>σ=[some (.ref p),some (.ref la),some (.int top),some (.ref lo),some (.int y),some (.ref f),some (.int (k:Nat)),some (.int (i:Nat))]/\Bs34 K (fun q=>N q/\H q=none) p a f r ns c top y fs ws H 7 H') (fun M hM=>?_) ?_
 ·rcases BS with⟨yj,P17,S17,C17,hf17,A17,hr17,a17⟩|⟨yj,P17,S17,C17,g⟩
  rotate_left
  ·try walk_at "WP"
   rw[if_neg (by omega)];exact hM _ _ ⟨rfl,.done (by omega) P17 S17 C17 g⟩
  try walk_at "WP"
  refine yw (fun z=>?_) (fun z=>hM _ _ ⟨rfl,.todo (by omega) P17 S17 C17 hf17 A17 hr17 a17⟩);refine⟨_,hf17,_,yM ek,?_⟩;refine⟨jB hr17,?_⟩;rw[w_popAt];refine⟨_,i,_,hr17,by omega,by omega,seqIx (i:=(i:Nat)) (by omega) (by omega),qA il,?_⟩;exact hM _ _ ⟨rfl,lev H17 _ C17 (P17.mono (by omega)) S17 hf17 A17 hr17 (fun w h=>(a17 w (List.mem_of_mem_eraseIdx h)).good t1 t2) (by rw[List.length_eraseIdx];split<;>omega) (by omega) 7 (by omega)⟩
 clear BS H17;rintro σ H17 ⟨rfl,BS⟩;refine jP (fun σ H'=>σ=[some (.ref p),some (.ref la),some (.int top),some (.ref lo),some (.int y),some (.ref f),some (.int (k:Nat)),some (.int (i:Nat))]/\Bs34 K (fun q=>N q/\H q=none) p a f r ns c top y fs ws H 8 H') (fun M hM=>?_) ?_
 ·rcases BS with⟨yj,P17,S17,C17,hf17,A17,hr17,a17⟩|⟨yj,P17,S17,C17,g⟩
  rotate_left
  ·try walk_at "WP"
   rw[if_neg (by omega)];exact hM _ _ ⟨rfl,.done (by omega) P17 S17 C17 g⟩
  try walk_at "WP"
  refine yw (fun z=>?_) (fun z=>hM _ _ ⟨rfl,.todo (by omega) P17 S17 C17 hf17 A17 hr17 a17⟩);refine⟨_,hf17,_,yM ek,?_⟩;refine⟨jB hr17,_,hf17,_,yM ek,?_⟩;rw[Jc];refine⟨_,hr17,_,yM (qA il),?_⟩;have g0:GoodS (fun q=>(N q/\H q=none)/\q≠r) H17 ws[i]:=(a17 _ (List.getElem_mem il)).good t1 t2;generalize ws[i]=wi at g0 ⊢;intro e1 ne1;refine zx ne1 fun H18 s18 h18=>?_;intro e2 ne2;refine zx ne2 fun H19 s19 h19=>?_;intro e3 ne3;refine zx ne3 fun H20 s20 h20=>?_;have s1720:=(s18.trans s19).trans s20;have P20:=P17.same s1720;have e3p:=((P17.same s18).same s19).ne ne3;refine y6 P20 (S17.same s1720) h63 (by omega) (by decide) (by decide) fun z H21 z0 z1 P21 S21 C21=>?_;obtain⟨_,hp⟩:=P20.lst;have np:∀q,(N q/\H q=none)/\q≠r->q≠p:=fun q h=>hNp q h.1.1;obtain⟨v,ev,gv⟩:∃v,atI [wi,V.ref e1,V.ref e2] z=some v/\GoodS (fun q=>(N q/\H q=none)/\q≠r) H21 v:=by
   rcases(show z=0\/z=1\/z=2 by omega) with rfl|rfl|rfl
   ·exact⟨_,rfl,(g0.same s1720).chg np hp C21⟩
   ·exact⟨_,rfl,((yI h18 (fun x h=>by cases h) (by simp)).same (s19.trans s20)).chg np hp C21⟩
   ·exact⟨_,rfl,((yI h19 (jE (xX (by omega) (by omega))) (by simp)).same s20).chg np hp C21⟩
  rw[Jc];refine⟨_,C21 _ _ e3p h20,v,ev,?_⟩;have hr21:=C21 _ _ rp (s1720 _ _ hr17);rw[Jr];refine⟨ws,hr21,jb (by omega),?_⟩;refine hM _ _ ⟨rfl,lev H21 _ (C17.trans (s1720.chg.trans C21)) (P21.mono (by omega)) S21 (C21 _ _ fp (s1720 _ _ hf17)) (fun u h=>((A17 u h).same s1720).chg (fun q h=>hNp q h.1.1) hp C21) hr21 (fun w hw=>?_) (by rw[qF,zH];omega) (by omega) 8 (by omega)⟩;rcases zK.mp hw with h|h
  ·exact(((a17 w h).same s1720).chg hp C21).good t1 t2
  ·rw[zE.mp h];exact gv
 clear BS H17;rintro σ H17 ⟨rfl,BS⟩;refine jP (fun σ H'=>σ=[some (.ref p),some (.ref la),some (.int top),some (.ref lo),some (.int y),some (.ref f),some (.int (k:Nat)),some (.int (i:Nat))]/\Bs34 K (fun q=>N q/\H q=none) p a f r ns c top y fs ws H 9 H') (fun M hM=>?_) ?_
 ·rcases BS with⟨yj,P17,S17,C17,hf17,A17,hr17,a17⟩|⟨yj,P17,S17,C17,g⟩
  rotate_left
  ·try walk_at "WP"
   rw[if_neg (by omega)];exact hM _ _ ⟨rfl,.done (by omega) P17 S17 C17 g⟩
  try walk_at "WP"
  refine yw (fun z=>?_) (fun z=>hM _ _ ⟨rfl,.todo (by omega) P17 S17 C17 hf17 A17 hr17 a17⟩);refine⟨jB hf17,?_⟩;rw[w_popAt];refine⟨_,k,_,hf17,by omega,by omega,seqIx (i:=(k:Nat)) (by omega) (by omega),ek,?_⟩;obtain⟨C18,P18,S18⟩:=ki H17 _ C17 (P17.mono (by omega)) S17 f fs hf17 fp Nf.2 (Chg.upd (.lst (fs.eraseIdx k)));exact hM _ _ ⟨rfl,.done (by omega) P18 S18 C18 (xO Nf upd_same (fun u h=>(((A17 u (List.mem_of_mem_eraseIdx h)).chg (fun q h=>h.2) hf17 (Chg.upd _)).imp fun q h=>h.1).good t1 t2) (by rw[List.length_eraseIdx];split<;>omega))⟩
 clear BS H17;rintro σ H17 ⟨rfl,BS⟩;refine jP (fun σ H'=>σ=[some (.ref p),some (.ref la),some (.int top),some (.ref lo),some (.int y),some (.ref f),some (.int (k:Nat)),some (.int (i:Nat))]/\Bs34 K (fun q=>N q/\H q=none) p a f r ns c top y fs ws H 10 H') (fun M hM=>?_) ?_
 ·rcases BS with⟨yj,P17,S17,C17,hf17,A17,hr17,a17⟩|⟨yj,P17,S17,C17,g⟩
  rotate_left
  ·try walk_at "WP"
   rw[if_neg (by omega)];exact hM _ _ ⟨rfl,.done (by omega) P17 S17 C17 g⟩
  try walk_at "WP"
  refine yw (fun z=>?_) (fun z=>hM _ _ ⟨rfl,.todo (by omega) P17 S17 C17 hf17 A17 hr17 a17⟩);refine⟨jB hf17,_,hf17,_,yM ek,?_⟩;intro e1 ne1;refine zx ne1 fun H18 s18 h18=>?_;intro e2 ne2;refine zx ne2 fun H19 s19 h19=>?_;have s1719:=s18.trans s19;have P19:=P17.same s1719;have e2p:=(P17.same s18).ne ne2;have e1p:=P17.ne ne1;refine y6 P19 (S17.same s1719) h63 (by omega) (by decide) (by decide) fun z H20 z0 z1 P20 S20 C20=>?_;obtain⟨_,hp⟩:=P19.lst;have np:∀q,(N q/\H q=none)/\q≠f->q≠p:=fun q h=>hNp q h.1.1;have A20:∀u∈fs,LevR (fun q=>(N q/\H q=none)/\q≠f) top H20 u:=fun u h=>((A17 u h).same s1719).chg np hp C20;obtain⟨v,ev,gv⟩:∃v,atI [V.ref r,V.ref e1] z=some v/\GoodL (fun q=>(N q/\H q=none)/\q≠f) H20 v:=by
   rcases(show z=0\/z=1 by omega) with rfl|rfl
   ·exact⟨_,rfl,(A20 _ (qE ek)).good t1 t2⟩
   ·have e10:=C17.new e1p ne1;exact⟨_,rfl,jH ⟨⟨hN _ e10,e10⟩,(ne_of_none hf17 ne1).symm⟩ (C20 _ _ e1p (s19 _ _ h18)) (fun u h=>by cases h) (by simp)⟩
  rw[Jc];refine⟨_,C20 _ _ e2p h19,v,ev,?_⟩;have hf20:=C20 _ _ fp (s1719 _ _ hf17);refine⟨f,fs,k,v,rfl,rfl,hf20,by omega,by omega,?_⟩;obtain⟨C21,P21,S21⟩:=ki H20 _ (C17.trans (s1719.chg.trans C20)) (P20.mono (by omega)) S20 f fs hf20 fp Nf.2 (Chg.upd (.lst (fs.take k++v::fs.drop k)));refine hM _ _ ⟨rfl,.done (by omega) P21 S21 C21 (xO Nf upd_same (fun u h=>?_) (by rw[qF,qO,zI,zd];omega))⟩;have one:∀w,GoodL (fun q=>(N q/\H q=none)/\q≠f) H20 w->GoodL (fun q=>N q/\H q=none) (upd H20 f (.lst (fs.take k++v::fs.drop k))) w:=fun w g=>(g.chg (fun q h=>h.2) hf20 (Chg.upd _)).imp fun q h=>h.1;rcases zK.mp h with h|h
  ·exact one u ((A20 u (yC h)).good t1 t2)
  ·rcases zD.mp h with rfl|h
   ·exact one _ gv
   ·exact one u ((A20 u (yU h)).good t1 t2)
 clear BS H17;rintro σ H17 ⟨rfl,BS⟩;(try (walk_at "WP"));(try (refine zf hR_ ?_));(try (refine zh fun R_ hR_=>?_));(try (walk_at "WP"))
 rcases BS with⟨yj,_⟩|⟨yj,P17,S17,C17,g⟩
 ·exact absurd yj (by omega)
 ·exact q _ H17 C17 P17 S17 (g.imp fun q h=>h.1)
theorem ok_law (T:Txt K mg) {f:Addr} {fd:FuncData} (F:Fun K "law" "law" s_law f fd):FnOk P w K mg base CX0 20 f fd ["_law_script"] (spLaw K):=by
 have B:=T.bl;obtain⟨cst_TooMany,mg_TooMany,xi_TooMany⟩:=T.cls;have X_r:=ok_refb (P:=P) (w:=w) (base:=base) T mg_TooMany xi_TooMany;have C_shows:=(ok_showsD (P:=P) (w:=w) (base:=base) T X_r).mono (k:=19) (by decide);have C_l_pen:=(ok_ppen (P:=P) (w:=w) (base:=base) T).mono (k:=19) (by decide);have C_l_pick:=(J2 (P:=P) (w:=w) (base:=base) T).mono (k:=19) (by decide);have C_l_levels:=(ok_levels34 (P:=P) (w:=w) (base:=base) T).mono (k:=19) (by decide);have C_l_joined:=(ok_joined34 (P:=P) (w:=w) (base:=base) T).mono (k:=19) (by decide);have C_l_ordered:=(ok_ordered34 (P:=P) (w:=w) (base:=base) T).mono (k:=19) (by decide);have C_l_bent:=(ok_bent34 (P:=P) (w:=w) (base:=base) T).mono (k:=19) (by decide);have C_l_row:=(ok_row34 (P:=P) (w:=w) (base:=base) T).mono (k:=19) (by decide);have C_l_due:=(ok_due34 (P:=P) (w:=w) (base:=base) T).mono (k:=19) (by decide);refine F.ok sc_law (fun vs H Q E h=>?_) (fun cdv A outer s H vs Q E hr h=>?_)
 ·obtain⟨a,ns,rfl,_⟩:=h;rfl
 obtain⟨a,ns,rfl,hS,h63,q⟩:=h;refine⟨_,((@pss_cons _ _ _ _ _ (@ps_set _ _ (1) _ _ _ _ sc_law.nd rfl (by walk_at "o") (@pe_cal _ _ _ _ _ _ _ _ _ _ C_l_pen hr rfl (@pa_cons _ _ _ _ _ (pv 0) pa_nil (by rfl)) (by decide) (by rfl) (by rfl)) (by rfl) (by walk_at "o")) (@pss_cons _ _ _ _ _ (@J3 _ _ _ _ _ _ (@pe_ix _ _ _ _ _ _ _ ix_M (@pe_lst _ _ _ _ (@pa_cons _ _ _ _ _ (@pe_tup _ _ _ _ _ (@pa_cons _ _ _ _ _ pe_int (@pa_cons _ _ _ _ _ pe_int pa_nil (by rfl)) (by rfl))) (@pa_cons _ _ _ _ _ (@pe_tup _ _ _ _ _ (@pa_cons _ _ _ _ _ pe_int (@pa_cons _ _ _ _ _ pe_int pa_nil (by rfl)) (by rfl))) (@pa_cons _ _ _ _ _ (@pe_tup _ _ _ _ _ (@pa_cons _ _ _ _ _ pe_int (@pa_cons _ _ _ _ _ pe_int pa_nil (by rfl)) (by rfl))) (@pa_cons _ _ _ _ _ (@pe_tup _ _ _ _ _ (@pa_cons _ _ _ _ _ pe_int (@pa_cons _ _ _ _ _ pe_int pa_nil (by rfl)) (by rfl))) (@pa_cons _ _ _ _ _ (@pe_tup _ _ _ _ _ (@pa_cons _ _ _ _ _ pe_int (@pa_cons _ _ _ _ _ pe_int pa_nil (by rfl)) (by rfl))) pa_nil (by rfl)) (by rfl)) (by rfl)) (by rfl)) (by rfl))) (@pe_cal _ _ _ _ _ _ _ _ _ _ C_l_pick hr rfl (@pa_cons _ _ _ _ _ (pv 1) (@pa_cons _ _ _ _ _ pe_int pa_nil (by rfl)) (by rfl)) (by decide) (by rfl) (by rfl)) (fun _ _=>rfl)) (@pg_tupM _ _ _ _ _ 2 rfl (@jh _ _ _ _ _ (@pg_name _ _ (2) _ sc_law.nd rfl (by walk_at "o") (by walk_at "o")) (@jh _ _ _ _ _ (@pg_name _ _ (3) _ sc_law.nd rfl (by walk_at "o") (by walk_at "o")) pgs_nil (by rfl)) (by rfl)) (by rfl) (by rfl)) (by rfl) (by rfl) (by rfl)) (@pss_cons _ _ _ _ _ (@ps_set _ _ (4) _ _ _ _ sc_law.nd rfl (by walk_at "o") (@pe_op _ _ _ _ _ _ _ _ op_add pe_int (@pe_cal _ _ _ _ _ _ _ _ _ _ C_l_pick hr rfl (@pa_cons _ _ _ _ _ (pv 1) (@pa_cons _ _ _ _ _ (pv 2) pa_nil (by rfl)) (by rfl)) (by decide) (by rfl) (by rfl))) (by rfl) (by walk_at "o")) (@pss_cons _ _ _ _ _ (@ps_set _ _ (5) _ _ _ _ sc_law.nd rfl (by walk_at "o") (@pe_cal _ _ _ _ _ _ _ _ _ _ C_l_pick hr rfl (@pa_cons _ _ _ _ _ (pv 1) (@pa_cons _ _ _ _ _ (pv 3) pa_nil (by rfl)) (by rfl)) (by decide) (by rfl) (by rfl)) (by rfl) (by walk_at "o")) (@pss_cons _ _ _ _ _ (@ps_set _ _ (6) _ _ _ _ sc_law.nd rfl (by walk_at "o") (@pe_cal _ _ _ _ _ _ _ _ _ _ C_l_levels hr rfl (@pa_cons _ _ _ _ _ (pv 4) (@pa_cons _ _ _ _ _ (pv 5) pa_nil (by rfl)) (by rfl)) (by decide) (by rfl) (by rfl)) (by rfl) (by walk_at "o")) (@pss_mid _ _ _ _ _ (@ps_if _ _ _ _ _ _ _ _ (@PW.pt _ _ _ (@pw_and _ _ _ _ _ _ _ (@pt_cmpR _ _ _ _ _ _ _ _ Jb (pv 5) pe_int (@nomark _ _ (by decide) (by decide))) (@Jo _ _ _ _ (@pt_cmpR _ _ _ _ _ _ _ _ op_eq (@pe_cal _ _ _ _ _ _ _ _ _ _ C_l_pick hr rfl (@pa_cons _ _ _ _ _ (pv 1) (@pa_cons _ _ _ _ _ pe_int pa_nil (by rfl)) (by rfl)) (by decide) (by rfl) (by rfl)) pe_int (@nomark _ _ (by decide) (by decide)))))) (@pss_one _ _ _ (@J3 _ _ _ _ _ _ (@pe_cal _ _ _ _ _ _ _ _ _ _ C_l_joined hr rfl (@pa_cons _ _ _ _ _ (@pe_ix _ _ _ _ _ _ _ ix_M (pv 6) (@JG _ _ _ _ _ _ jN pe_int) (fun _ _=>rfl)) pa_nil (by rfl)) (by decide) (by rfl) (by rfl)) (@pg_sub _ _ _ _ _ _ _ (pv 6) (@JG _ _ _ _ _ _ jN pe_int) JI (by intro _ ;rfl)) (by rfl) (by rfl) (by rfl))) pss_nil) (@pss_cons _ _ _ _ _ (@ps_setCompC _ _ _ _ (6) _ _ _ _ _ _ _ (["_law_level","_law_pen_here"]) (1) ([1]) _ _ _ rfl (@pi_list _ _ _ _ (pv 6)) (fun nd C s H fp=>⟨(@pg_name _ _ (0) _ nd rfl (by walk_at "o") (by walk_at "o")),xB,(@pe_cal _ _ _ _ _ _ _ _ _ _ C_l_ordered hr rfl (@pa_cons _ _ _ _ _ (pv 1) (@pa_cons _ _ _ _ _ (pv 0) pa_nil (by rfl)) (by rfl)) (by decide) (by rfl) (by rfl))⟩) (by decide +kernel) (by first|rfl|decide +kernel) (by first|rfl|decide +kernel) rfl (fun _=>rfl) sc_law.nd rfl (by walk_at "o") (by walk_at "o") rfl) (@pss_cons _ _ _ _ _ (@ps_for _ _ _ _ _ _ _ _ PassesOwn.never rfl (@JU _ _ _ _ _ _ rfl B.range (@pa_cons _ _ _ _ _ pe_int pa_nil (by rfl)) (by rfl)) (@pg_name _ _ (7) _ sc_law.nd rfl (by walk_at "o") (by walk_at "o")) (@pss_cons _ _ _ _ _ (@ps_set _ _ (8) _ _ _ _ sc_law.nd rfl (by walk_at "o") (pv 6) (by rfl) (by walk_at "o")) (@pss_mid _ _ _ _ _ (@ps_if _ _ _ _ _ _ _ _ (@pt_cmpR _ _ _ _ _ _ _ _ op_eq (@pe_cal _ _ _ _ _ _ _ _ _ _ C_l_pick hr rfl (@pa_cons _ _ _ _ _ (pv 1) (@pa_cons _ _ _ _ _ pe_int pa_nil (by rfl)) (by rfl)) (by decide) (by rfl) (by rfl)) pe_int (@nomark _ _ (by decide) (by decide))) (@pss_one _ _ _ (@ps_set _ _ (8) _ _ _ _ sc_law.nd rfl (by walk_at "o") (@pe_cal _ _ _ _ _ _ _ _ _ _ C_l_bent hr rfl (@pa_cons _ _ _ _ _ (pv 1) (@pa_cons _ _ _ _ _ (pv 6) (@pa_cons _ _ _ _ _ (pv 4) pa_nil (by rfl)) (by rfl)) (by rfl)) (by decide) (by rfl) (by rfl)) (by rfl) (by walk_at "o"))) pss_nil) (@pss_cons _ _ _ _ _ (@ps_set _ _ (9) _ _ _ _ sc_law.nd rfl (by walk_at "o") (@pe_cal _ _ _ _ _ _ _ _ _ _ C_l_row hr rfl (@pa_cons _ _ _ _ _ (pv 1) (@pa_cons _ _ _ _ _ (pv 4) pa_nil (by rfl)) (by rfl)) (by decide) (by rfl) (by rfl)) (by rfl) (by walk_at "o")) (@pss_cons _ _ _ _ _ (@ps_set _ _ (10) _ _ _ _ sc_law.nd rfl (by walk_at "o") (@pe_callB _ _ _ _ _ _ _ _ _ (@call_repr _ _ hr) rfl B.repr bo_repr (@pa_cons _ _ _ _ _ (pv 8) pa_nil (by rfl)) (by decide) (by decide) (by rfl) (by rfl)) (by rfl) (by walk_at "o")) (@pss_cons _ _ _ _ _ (@ps_set _ _ (11) _ _ _ _ sc_law.nd rfl (by walk_at "o") (@pe_callTy _ _ _ _ _ _ _ _ _ call_list_of rfl B.list bo_list (@pa_cons _ _ _ _ _ (pv 9) pa_nil (by rfl)) (by decide) (by decide) (by rfl) (by rfl)) (by rfl) (by walk_at "o")) (@pss_cons _ _ _ _ _ (@ps_set _ _ (12) _ _ _ _ sc_law.nd rfl (by walk_at "o") (@pe_cal _ _ _ _ _ _ _ _ _ _ C_shows hr rfl (@pa_cons _ _ _ _ _ (pv 8) (@pa_cons _ _ _ _ _ (pv 11) (@pa_cons _ _ _ _ _ (pv 4) (@pa_cons _ _ _ _ _ (pv 5) pa_nil (by rfl)) (by rfl)) (by rfl)) (by rfl)) (by decide) (by rfl) (by rfl)) (by rfl) (by walk_at "o")) (@pss_cons _ _ _ _ _ (@ps_if _ _ _ _ _ _ _ _ (@PW.pt _ _ _ (@pw_or _ _ _ _ _ _ _ (@pt_not _ _ _ _ (@pt_val _ _ _ (@pe_callB _ _ _ _ _ _ _ _ _ call_isI rfl B.isinstance bo_isinstance (@pa_cons _ _ _ _ _ (pv 12) (@pa_cons _ _ _ _ _ (@pe_bltn _ _ (.ty "bool") _ _ rfl B.bool bo_bool rfl (by decide) (by decide)) pa_nil (by rfl)) (by rfl)) (by decide) (by decide) (by rfl) (by rfl)) (by intro _ ;rfl))) (@pw_or1 _ _ _ _ (@pt_cmpR _ _ _ _ _ _ _ _ op_ne (pv 12) (@pe_cal _ _ _ _ _ _ _ _ _ _ C_l_due hr rfl (@pa_cons _ _ _ _ _ (pv 8) (@pa_cons _ _ _ _ _ (pv 9) (@pa_cons _ _ _ _ _ (pv 4) (@pa_cons _ _ _ _ _ (pv 5) pa_nil (by rfl)) (by rfl)) (by rfl)) (by rfl)) (by decide) (by rfl) (by rfl)) (@nomark _ _ (by decide) (by decide)))))) (@pss_one _ _ _ (@ps_ret _ _ _ _ pe_bl)) pss_nil) (@pss_one _ _ _ (@ps_if _ _ _ _ _ _ _ _ (@PW.pt _ _ _ (@pw_or _ _ _ _ _ _ _ (@pt_cmpR _ _ _ _ _ _ _ _ op_ne (@pe_callB _ _ _ _ _ _ _ _ _ (@call_repr _ _ hr) rfl B.repr bo_repr (@pa_cons _ _ _ _ _ (pv 8) pa_nil (by rfl)) (by decide) (by decide) (by rfl) (by rfl)) (pv 10) (@nomark _ _ (by decide) (by decide))) (@pw_or1 _ _ _ _ (@pt_cmpR _ _ _ _ _ _ _ _ (@op_neD _ _ hr) (pv 11) (pv 9) (@nomark _ _ (by decide) (by decide)))))) (@pss_one _ _ _ (@ps_ret _ _ _ _ pe_bl)) pss_nil))))))))) (by intro _ ;rfl)) (@pss_one _ _ _ (@ps_ret _ _ _ _ pe_bl))))))))))),?_⟩
 walk_at "S"
 refine zh fun R_ hR_=>?_
 try walk_at "WP"
 refine⟨a,rfl,fun p H1 np s1 P1=>?_⟩;(try (walk_at "WP"));(try (refine zf hR_ ?_));(try (refine zh fun R_ hR_=>?_));(try (walk_at "WP"))
 intro q1 n1;refine zx n1 fun H2 s2 h2=>?_;intro q2 n2;refine zx n2 fun H3 s3 h3=>?_;intro q3 n3;refine zx n3 fun H4 s4 h4=>?_;intro q4 n4;refine zx n4 fun H5 s5 h5=>?_;intro q5 n5;refine zx n5 fun H6 s6 h6=>?_;intro q6 n6;refine zx n6 fun H7 s7 h7=>?_;have s17:=((((s2.trans s3).trans s4).trans s5).trans s6).trans s7;have P7:=P1.same s17;have S7:=(hS.same s1).same s17;have p1:q1≠p:=P1.ne n1;have p2:q2≠p:=(P1.same s2).ne n2;have p3:q3≠p:=(P1.same (s2.trans s3)).ne n3;have p4:q4≠p:=(P1.same ((s2.trans s3).trans s4)).ne n4;have p5:q5≠p:=(P1.same (((s2.trans s3).trans s4).trans s5)).ne n5;have p6:q6≠p:=(P1.same ((((s2.trans s3).trans s4).trans s5).trans s6)).ne n6;refine y6 P7 S7 h63 (by decide) (by decide) (by decide) fun y H8 y0 y1 P8 S8 C8=>?_;have g1:=C8 _ _ p1 (s7 _ _ (s6 _ _ (s5 _ _ (s4 _ _ (s3 _ _ h2)))));have g2:=C8 _ _ p2 (s7 _ _ (s6 _ _ (s5 _ _ (s4 _ _ h3))));have g3:=C8 _ _ p3 (s7 _ _ (s6 _ _ (s5 _ _ h4)));have g4:=C8 _ _ p4 (s7 _ _ (s6 _ _ h5));have g5:=C8 _ _ p5 (s7 _ _ h6);have g6:=C8 _ _ p6 h7;have pk:∃(t:Addr) (far:Int) (dm M:Nat),atI [V.ref q1,V.ref q2,V.ref q3,V.ref q4,V.ref q5] y=some (.ref t)/\H8 t=some (.tup [.int far,.int (dm+1:Nat)])/\1<=far/\far<=99/\dm<=4/\(31<far->dm<=3)/\far+1<=2*(M:Int)/\1<=M/\M<=99/\M^(dm-1)<=1000/\M^dm<=5000:=by
  rcases(show y=0\/y=1\/y=2\/y=3\/y=4 by omega) with rfl|rfl|rfl|rfl|rfl
  ·exact⟨q1,15,4,8,rfl,g1,by decide,by decide,by decide,by decide,by decide,by decide,by decide,by decide,by decide⟩
  ·exact⟨q2,15,3,8,rfl,g2,by decide,by decide,by decide,by decide,by decide,by decide,by decide,by decide,by decide⟩
  ·exact⟨q3,9,3,5,rfl,g3,by decide,by decide,by decide,by decide,by decide,by decide,by decide,by decide,by decide⟩
  ·exact⟨q4,31,3,16,rfl,g4,by decide,by decide,by decide,by decide,by decide,by decide,by decide,by decide,by decide⟩
  ·exact⟨q5,99,2,50,rfl,g5,by decide,by decide,by decide,by decide,by decide,by decide,by decide,by decide,by decide⟩
 obtain⟨tq,far,dm,M,eq,ht,f1,f2,d3,fd,fM,M1,M99,fB,fB2⟩:=pk;rw[Jc];refine⟨_,g6,_,eq,?_⟩;clear g1 g2 g3 g4 g5 g6 p1 p2 p3 p4 p5 p6 n1 n2 n3 n4 n5 n6 h2 h3 h4 h5 h6 h7 s2 s3 s4 s5 s6 s7 P7 S7 s17 C8 eq
 (iterate 5 ((try (walk_at "WP"));(try (simp only[ht,qJs,qJt,qJl,qJd,exists_eq_left',exists_eq_left]))));(try (walk_at "WP"))
 (try (walk_at "WP"));(try (refine zf hR_ ?_));(try (refine zh fun R_ hR_=>?_));(try (walk_at "WP"))
 refine y6 P8 S8 h63 (by decide) (by omega) (by omega) fun top0 H9 u0 u1 P9 S9 C9=>?_;clear ht C9;have t1:1<=1+top0:=by omega
 have t9:1+top0<=far:=by omega
 (try (walk_at "WP"));(try (refine zf hR_ ?_));(try (refine zh fun R_ hR_=>?_));(try (walk_at "WP"))
 generalize 1+top0=top at t1 t9 ⊢;refine y6 P9 S9 h63 (by decide) (by omega) (by omega) fun mo H10 m0 m1 P10 S10 C10=>?_;obtain⟨most,rfl⟩:=xR m0;have ml:most<=dm:=by omega
 have t2:top<=99:=by omega
 have nf:¬ farB top (most:Nat):=by unfold farB;omega
 (try (walk_at "WP"));(try (refine zf hR_ ?_));(try (refine zh fun R_ hR_=>?_));(try (walk_at "WP"))
 refine⟨fun q=>q≠p,top,most,M,rfl,t1,t2,by omega,M1,M99,zL (qN M1 (by omega)) fB,zL (qN M1 ml) fB2,by omega,fun q h=>P10.ne h,fun la Ls H11 nla s11 hx lL LO=>?_⟩;obtain⟨us,hla,AD⟩:=hx;have A11:=ladder_of AD LO;have ul:us.length=most:=by rw[AD.1,qC,lL]
 have lap:=P10.ne nla;have P11:=P10.same s11;have S11:=S10.same s11;clear AD LO lL Ls nla s11 P1 P8 S8 P9 S9 P10 S10 C10 fM fB fB2 M1 M99;(try (walk_at "WP"));(try (refine zf hR_ ?_));(try (refine zh fun R_ hR_=>?_));(try (walk_at "WP"))
 refine jP (fun σ H'=>σ=[some (.ref a),some (.ref p),some (.int far),some (.int (dm+1:Nat)),some (.int top),some (.int (most:Nat)),some (.ref la),none,none,none,none,none,none]/\∃us,PPen H' p a 100/\Scr K H' a ns/\H' la=some (.lst us)/\us.length=most/\∀u∈us,LevB34 (fun q=>q≠p/\q≠la) top H' u) (fun N hN=>?_) ?_
 ·try walk_at "WP"
  refine yw (fun z=>?_) (fun z=>hN _ _ ⟨rfl,us,P11.mono (by decide),S11,hla,ul,A11⟩);refine y6 P11 S11 h63 (by decide) (by decide) (by decide) fun w0 H12 _ _ P12 S12 C12=>?_;obtain⟨_,hp⟩:=P11.lst;have hla12:=C12 _ _ lap hla;have A12:∀u∈us,LevB34 (fun q=>q≠p/\q≠la) top H12 u:=fun u h=>(A11 u h).chg (fun q h=>h.1) hp C12
  try walk_at "WP"
  refine yw (fun z2=>?_) (fun _=>hN _ _ ⟨rfl,us,P12.mono (by decide),S12,hla12,ul,A12⟩);have eg:=qA (l:=us) (i:=us.length-1) (by omega);obtain⟨r,ws,L,er,nr,LH,Ll⟩:=A12 _ (qE eg);rw[er]at eg;refine⟨_,hla12,.ref r,atI_gl (by rw[xC];exact eg),?_⟩;refine⟨r,ws,L,top,rfl,LH,Ll,t1,t2,fun r' ws' L' H13 nr' s13 LH' Ll'=>?_⟩;have hla13:=s13 _ _ hla12;obtain⟨m,hm⟩:∃m,us.length=m+1:=⟨us.length-1,by omega⟩;have C14:Chg la H13 (upd H13 la (.lst (us.set m (.ref r')))):=Chg.upd _;refine⟨_,hla13,m,by rw[hm];exact ixN_m1,?_⟩;refine hN _ _ ⟨rfl,us.set m (.ref r'),((P12.same s13).chg lap.symm C14).mono (by decide),(S12.same s13).chg hla13 C14,upd_same,by rw[List.length_set];exact ul,fun u hu=>?_⟩;rcases List.mem_or_eq_of_mem_set hu with h|rfl
  ·exact((A12 u h).same s13).chg (fun q h=>h.2) hla13 C14
  ·have rla:r'≠la:=(ne_of_none hla12 nr').symm;exact⟨r',ws',L',rfl,⟨P12.ne nr',rla⟩,LH'.chgL hla13 rla C14,Ll'⟩
 clear hla A11 ul P11 S11 us H11;rintro σ H11 ⟨rfl,us,P11,S11,hla,ul,A11⟩;refine zh fun R_ hR_=>?_
 try walk_at "WP"
 refine⟨⟨_,SqL.of hla⟩,?_⟩;refine zAL (fun i H'=>Chg p H11 H'/\PPen H' p a (100+i)) (fun acc H' u=>LevR (fun q=>q≠p/\q≠acc) top H' u) (zZ (by omega)) (fun i H' s=>s.1 _ _ lap hla) ⟨Chg.refl,P11.mono (by omega)⟩ (fun acc i H' o na s=>⟨s.1.updN na,s.2.chg (P11.ne na).symm (Chg.upd _)⟩) (fun acc H1 H2 u xs h ha c=>h.chg (fun q h=>h.2) ha c) (fun i x H' R acc ys hx na ha s hR=>?_) (fun f fs H12 nf s12 hf fl A12=>?_)
 ·obtain⟨C,P'⟩:=s;have il:=(qB.mp hx).1;obtain⟨r,ws,L,rfl,nr,LH,Ll⟩:=A11 _ (qE hx);rw[show yF [1] [some (.ref a),some (.ref p),some (.int far),some (.int (dm+1:Nat)),some (.int top),some (.int (most:Nat)),some (.ref la),none,none,none,none,none,none]=[some (.ref p)] from rfl]
  try walk_at "WP"
  obtain⟨_,hp⟩:=P11.lst;obtain⟨_,hp'⟩:=P'.lst;refine⟨p,a,r,ns,100+i,ws,L,top,rfl,P',S11.ppen P11 C,h63,by omega,nr.1,LH.chgL hp nr.1 C,Ll,fun r' ws' L' H5 nr' C5 P5 S5 LH' Ll'=>?_⟩;exact hR _ H5 (C5 _ _ (P11.ne na) ha) ⟨C.trans C5,P5.mono (by omega)⟩ (fun z h=>h.chg (fun q h=>h.1) hp' C5) (levR_of ⟨P'.ne nr',(ne_of_none ha nr').symm⟩ LH' Ll')
 have fp:=P11.ne nf;have W12:W34 K a p f ns top fs (200+200*(0:Nat)) H12:=⟨s12.2.mono (by omega),S11.ppen P11 s12.1,hf,A12⟩;clear A11 P11 S11 hla s12 hf A12 nf lap;(try (walk_at "WP"));(try (refine zf hR_ ?_));(try (refine zh fun R_ hR_=>?_));(try (walk_at "WP"))
 refine forR (fun i σ H'=>∃o7 o8 o9 o10 o11 o12:Option V,σ=[some (.ref a),some (.ref p),some (.int far),some (.int (dm+1:Nat)),some (.int top),some (.int (most:Nat)),some (.ref f),o7,o8,o9,o10,o11,o12]/\W34 K a p f ns top fs (200+200*i) H') ⟨_,_,_,_,_,_,rfl,W12⟩ ?_ ?_
 ·rintro i σ H13 N hi ⟨o7,o8,o9,o10,o11,o12,rfl,W13⟩ hN
  try walk_at "WP"
  refine jP (fun σ H'=>∃v,σ=[some (.ref a),some (.ref p),some (.int far),some (.int (dm+1:Nat)),some (.int top),some (.int (most:Nat)),some (.ref f),some (.int (0+(i:Int))),some v,o9,o10,o11,o12]/\GoodP (fun q=>q≠p) H' v/\W34 K a p f ns top fs (200+200*i+10) H') (fun M hM=>?_) ?_
  ·obtain⟨P13,S13,hf13,A13⟩:=W13
   try walk_at "WP"
   refine y6 P13 S13 h63 (by omega) (by decide) (by decide) fun w0 H14 _ _ P14 S14 C14=>?_;obtain⟨_,hp⟩:=P13.lst;have hf14:=C14 _ _ fp hf13;have A14:∀u∈fs,LevR (fun q=>q≠p/\q≠f) top H14 u:=fun u h=>(A13 u h).chg (fun q h=>h.1) hp C14
   try walk_at "WP"
   refine yw (fun z=>?_) (fun z=>hM _ _ ⟨_,rfl,xO fp hf14 (fun u h=>((A14 u h).imp fun q h=>h.1).good t1 t2) (by omega),P14.mono (by omega),S14,hf14,A14⟩);refine⟨fun q=>q≠p,p,a,f,ns,_,fs,top,rfl,P14,S14,h63,by omega,fun q h=>P14.ne h,fun q h=>h,fp,hf14,by omega,fun u h=>(A14 u h).imp fun q h=>h.1,t1,t2,fun v H15 C15 P15 S15 g=>?_⟩;obtain⟨_,hp⟩:=P14.lst;exact hM _ _ ⟨v,rfl,g,P15.mono (by omega),S15,C15 _ _ fp hf14,fun u h=>(A14 u h).chg (fun q h=>h.1) hp C15⟩
  clear W13 H13;rintro σ H13 ⟨v,rfl,⟨d,hd,sm⟩,⟨P13,S13,hf13,A13⟩⟩;refine zh fun R_ hR_=>?_
  try walk_at "WP"
  refine⟨p,a,ns,_,top,rfl,P13,S13,h63,by omega,t1,t2,fun r xs H15 nr C15 P15 S15 hr xl=>?_⟩;obtain⟨_,hp⟩:=P13.lst;have hd15:=hd.chg (fun q h=>h) hp C15;have W15:W34 K a p f ns top fs (200+200*(i+1:Nat)) H15:=⟨P15.mono (by omega),S15,C15 _ _ fp hf13,fun u h=>(A13 u h).chg (fun q h=>h.1) hp C15⟩;clear hd hf13 A13 P13 S13 P15 S15 hp C15 nr;(try (walk_at "WP"));(try (refine zf hR_ ?_));(try (refine zh fun R_ hR_=>?_));(try (walk_at "WP"))
  refine⟨fun q=>q≠p,v,d,rfl,hd15,sm,?_⟩;(try (walk_at "WP"));(try (refine zf hR_ ?_));(try (refine zh fun R_ hR_=>?_));(try (walk_at "WP"))
  refine⟨_,.inl (SqL.of hr),fun l nl=>?_⟩;refine zx nl fun H16 s16 h16=>?_;(try (walk_at "WP"));(try (refine zf hR_ ?_));(try (refine zh fun R_ hR_=>?_));(try (walk_at "WP"))
  refine⟨fun q=>q≠p,v,l,d,xs,top,most,rfl,hd15.same s16,by omega,nf,t1,t2,h16,by omega,fun b H17 s17 hb=>?_⟩;(try (walk_at "WP"));(try (refine zf hR_ ?_));(try (refine zh fun R_ hR_=>?_));(try (walk_at "WP"))
  have s1517:=s16.trans s17;refine⟨fun q=>q≠p,v,r,d,xs,top,most,rfl,hd15.same s1517,by omega,t1,t2,s1517 _ _ hr,by omega,fun b' H18 s18 hb'=>?_⟩;have e:b=b':=jd.mpr (hb.trans hb'.symm);subst e;refine⟨rfl,false,by rw[decide_eq_true rfl];rfl,?_⟩;rw[if_neg (by decide)];have s1518:=s1517.trans s18;(try (walk_at "WP"));(try (refine zf hR_ ?_));(try (refine zh fun R_ hR_=>?_));(try (walk_at "WP"))
  refine⟨fun q=>q≠p,v,d,rfl,hd15.same s1518,sm,?_⟩;refine ne_ss ⟨false,rfl,?_⟩;rw[if_neg (by decide)];refine neLI (ns:=xs) (ms:=xs) (SqL.of ((s17.trans s18) _ _ h16)) (SqL.of (s1518 _ _ hr)) ?_;rw[decide_eq_true rfl];refine⟨false,rfl,?_⟩;rw[if_neg (by decide)];obtain⟨P15,S15,hf15,A15⟩:=W15;exact hN _ _ ⟨_,_,_,_,_,_,rfl,P15.same s1518,S15.same s1518,s1518 _ _ hf15,fun u h=>(A15 u h).same s1518⟩
 ·rintro σ H13 ⟨o7,o8,o9,o10,o11,o12,rfl,_⟩;(try (walk_at "WP"));(try (refine zf hR_ ?_));(try (refine zh fun R_ hR_=>?_));(try (walk_at "WP"))
  exact q _
end
theorem ln1 {B:Type}{us:List B}(h:us.length=1):∃z,us=[z]:=match us,h with|[z],_=>⟨z,rfl⟩
theorem ln2 {G:Type}{us:List G}(h:us.length=2):∃B z,us=[B,z]:=match us,h with|[B,z],_=>⟨B,z,rfl⟩
theorem ln3 {H:Type}{us:List H}(h:us.length=3):∃z B G,us=[z,B,G]:=match us,h with|[z,B,G],_=>⟨z,B,G,rfl⟩
theorem ln4 {J:Type}{us:List J}(h:us.length=4):∃z G H B,us=[z,G,H,B]:=match us,h with|[z,G,H,B],_=>⟨z,G,H,B,rfl⟩
theorem all_mk {l:PySem.W.OpenLaw} {w:World} {K:zA} {h:Heap} {J:Str->Option Value} {fa:Addr} (X:K.In h) (G:h.Ns mainGlobals J) (hfa:J "law" = some (.ref fa))
  {Y:Tok} {O:Tok} {M:Tok} {z:Addr}
  (D:DL K tb) (Z:NL K ["abs","all","any","bool","int","isinstance","len","list","range","repr","set","sorted","str","sum","tuple","zip"])
  (ai1:jI K mainGlobals "TOP_AT_MOST" = some (some (.int 99 Y)))
  (ai2:jI K mainGlobals "DEEDS_AT_MOST" = some (some (.int 4 O)))
  (ai3:jI K mainGlobals "TOP_WITH_ALL_DEEDS" = some (some (.int 31 M)))
  (ak1:jI K mainGlobals "TooMany" = some (some (.ref z)))
  (fk1:PySem.W.excIn K z [.type "ValueError",.type "Exception",.type "BaseException",.type "object"] "ValueError.__new__" = true)
  : ∃fd:FuncData,(∀(s:Shared) (v:Value),BindsTo s fd ⟨[v],[]⟩ [("_law_script",v)])/\∀base:Heap,K.In base->base.Ns mainGlobals J->FnOk l.prog w K J base CX0 20 fa fd ["_law_script"] (spLaw K):=by
 have hb:BL tb:=by
  repeat (refine⟨fun _ _ _ _ _ _ B hl=>?_,?_⟩;skip;· first|(obtain⟨H,rfl⟩:=ln1 (us:=B) hl;rfl)|(obtain⟨H,U,rfl⟩:=ln2 (us:=B) hl;rfl)|(obtain⟨H,U,a2_,rfl⟩:=ln3 (us:=B) hl;rfl)|(obtain⟨H,U,a2_,a3_,rfl⟩:=ln4 (us:=B) hl;rfl))
  exact trivial
 have T:Txt K J:=⟨(by constructor<;>exact nl_at X G Z (by decide)),fun i x e=>tx_of X G D hb e,⟨Y,PySem.W.mg_of X G ai1⟩,⟨O,PySem.W.mg_of X G ai2⟩,⟨M,PySem.W.mg_of X G ai3⟩,⟨z,PySem.W.mg_of X G ak1,fk1⟩⟩;obtain⟨fd,F,b⟩:=law_tx (T.t 30 _ rfl) (bx_at (i:=30) hb rfl) hfa;exact⟨fd,b,fun base _ _=>ok_law T F⟩
theorem walk {l:PySem.W.OpenLaw}{q:Program}{loose:List Str}{XP:(Str->Option Value)->Heap->Prop}{H:World->Heap->Prop}{d:DefRec}{K:Params->zA}(hn:l.most=some 63)(G:d.params.defaults=[])
  (hY:∀(w:World) (h:Heap),H w h->(K w.params).In h)
  (F:∀(w:World) (B:Str->Option Value) (J:Addr) (h:Heap),(K w.params).In h->h.Ns mainGlobals B->B d.name=some (.ref J) ->
   ∃M:FuncData,(∀(s:Shared) (u:Value),BindsTo s M ⟨[u],[]⟩ [("_law_script",u)])/\∀base:Heap,(K w.params).In base->base.Ns mainGlobals B->FnOk l.prog w (K w.params) B base CX0 20 J M ["_law_script"] (spLaw (K w.params))) :
  PySem.W.WalkO q loose XP H l.row.toRowW d [] (fun f O=>PySem.call f O) :=
 L2.walk_of (n:=63) (k:=20) (x:="_law_script") (CX:=fun _=>CX0) (sp:=fun w=>spLaw (K w.params)) hn (by decide) G ⟨rfl,by decide,by decide,rfl⟩ hY F (fun _ _ a ns U hO Y=>⟨a,ns,rfl,scr_of hO Y,U,fun _=>rfl⟩) fun _ _ _ _ _ z=>z
end Law
def PySem.W.Fast.tw10167418898601789116:Unit:=()
def PySem.W.Fast.tw10233081223301486426:Unit:=()
def PySem.W.Fast.tw1023699505790879908:Unit:=()
def PySem.W.Fast.tw10240476023906745035:Unit:=()
def PySem.W.Fast.tw10342689461445342020:Unit:=()
def PySem.W.Fast.tw1048612450470487291:Unit:=()
def PySem.W.Fast.tw10556442702590073194:Unit:=()
def PySem.W.Fast.tw10625250135627849893:Unit:=()
def PySem.W.Fast.tw10704183950825787432:Unit:=()
def PySem.W.Fast.tw10825848766689397484:Unit:=()
def PySem.W.Fast.tw10887066102685898466:Unit:=()
def PySem.W.Fast.tw11006715059154255186:Unit:=()
def PySem.W.Fast.tw11009617682344679297:Unit:=()
def PySem.W.Fast.tw11026846343663755321:Unit:=()
def PySem.W.Fast.tw11113710820592926402:Unit:=()
def PySem.W.Fast.tw11125253540931656782:Unit:=()
def PySem.W.Fast.tw11127880505264880253:Unit:=()
def PySem.W.Fast.tw11152911720196405151:Unit:=()
def PySem.W.Fast.tw11370797867369243266:Unit:=()
def PySem.W.Fast.tw11392624164303705591:Unit:=()
def PySem.W.Fast.tw11406867642959719544:Unit:=()
def PySem.W.Fast.tw11529925784485420038:Unit:=()
def PySem.W.Fast.tw1171345403673507572:Unit:=()
def PySem.W.Fast.tw11778126019422796260:Unit:=()
def PySem.W.Fast.tw11821805148697617452:Unit:=()
def PySem.W.Fast.tw121022246047886956:Unit:=()
def PySem.W.Fast.tw12162351039973527949:Unit:=()
def PySem.W.Fast.tw12234636636168094324:Unit:=()
def PySem.W.Fast.tw12258580840002220901:Unit:=()
def PySem.W.Fast.tw12259040102128912826:Unit:=()
def PySem.W.Fast.tw12359167626972288646:Unit:=()
def PySem.W.Fast.tw12367040180122683170:Unit:=()
def PySem.W.Fast.tw12386985625493573841:Unit:=()
def PySem.W.Fast.tw12431275062576617721:Unit:=()
def PySem.W.Fast.tw12435526609505656649:Unit:=()
def PySem.W.Fast.tw12564041097183422179:Unit:=()
def PySem.W.Fast.tw12600827679107941504:Unit:=()
def PySem.W.Fast.tw1304951471048262325:Unit:=()
def PySem.W.Fast.tw13286712572348504443:Unit:=()
def PySem.W.Fast.tw13299848264398955113:Unit:=()
def PySem.W.Fast.tw13346018922314920795:Unit:=()
def PySem.W.Fast.tw1340532062816352107:Unit:=()
def PySem.W.Fast.tw13409738616185044347:Unit:=()
def PySem.W.Fast.tw13419490674698838394:Unit:=()
def PySem.W.Fast.tw13478735817839477020:Unit:=()
def PySem.W.Fast.tw13606272360455879416:Unit:=()
def PySem.W.Fast.tw13610640445671494494:Unit:=()
def PySem.W.Fast.tw13699284985112072493:Unit:=()
def PySem.W.Fast.tw13704640231963719898:Unit:=()
def PySem.W.Fast.tw13736611357004820178:Unit:=()
def PySem.W.Fast.tw13813218930551770192:Unit:=()
def PySem.W.Fast.tw13942406938780378566:Unit:=()
def PySem.W.Fast.tw14108524553067154367:Unit:=()
def PySem.W.Fast.tw14134087072739149192:Unit:=()
def PySem.W.Fast.tw14196980137483282112:Unit:=()
def PySem.W.Fast.tw14238335489177092274:Unit:=()
def PySem.W.Fast.tw14259059765217050216:Unit:=()
def PySem.W.Fast.tw14369269502010917199:Unit:=()
def PySem.W.Fast.tw14429217225297604418:Unit:=()
def PySem.W.Fast.tw14514952489782157733:Unit:=()
def PySem.W.Fast.tw1473626627659240504:Unit:=()
def PySem.W.Fast.tw1473772612913678556:Unit:=()
def PySem.W.Fast.tw1479807125215735649:Unit:=()
def PySem.W.Fast.tw14870610694776506651:Unit:=()
def PySem.W.Fast.tw14882111213249738305:Unit:=()
def PySem.W.Fast.tw14921919531403268683:Unit:=()
def PySem.W.Fast.tw14950271880957193572:Unit:=()
def PySem.W.Fast.tw14995270368396394395:Unit:=()
def PySem.W.Fast.tw15159594849586064814:Unit:=()
def PySem.W.Fast.tw15217454689324947338:Unit:=()
def PySem.W.Fast.tw15322766813761605918:Unit:=()
def PySem.W.Fast.tw15377110121200920875:Unit:=()
def PySem.W.Fast.tw15491510121340276103:Unit:=()
def PySem.W.Fast.tw15584601623529287769:Unit:=()
def PySem.W.Fast.tw15596989528540068947:Unit:=()
def PySem.W.Fast.tw15743937582958238349:Unit:=()
def PySem.W.Fast.tw15762406951901844948:Unit:=()
def PySem.W.Fast.tw15862836964837357317:Unit:=()
def PySem.W.Fast.tw15874095978081566034:Unit:=()
def PySem.W.Fast.tw15924505978998162682:Unit:=()
def PySem.W.Fast.tw15995347720702241343:Unit:=()
def PySem.W.Fast.tw16018175744361043578:Unit:=()
def PySem.W.Fast.tw16065016896728521655:Unit:=()
def PySem.W.Fast.tw16146895859001862011:Unit:=()
def PySem.W.Fast.tw16364543218355065431:Unit:=()
def PySem.W.Fast.tw16385811269639548919:Unit:=()
def PySem.W.Fast.tw16495974725163103138:Unit:=()
def PySem.W.Fast.tw16761918907019887564:Unit:=()
def PySem.W.Fast.tw16777084129718136815:Unit:=()
def PySem.W.Fast.tw16847646349980230772:Unit:=()
def PySem.W.Fast.tw16888283063596739564:Unit:=()
def PySem.W.Fast.tw16952911425792276708:Unit:=()
def PySem.W.Fast.tw17038980367026951905:Unit:=()
def PySem.W.Fast.tw17039913319851014364:Unit:=()
def PySem.W.Fast.tw17077409200470074901:Unit:=()
def PySem.W.Fast.tw17191847101475910746:Unit:=()
def PySem.W.Fast.tw17214160815540376096:Unit:=()
def PySem.W.Fast.tw17251152830542381063:Unit:=()
def PySem.W.Fast.tw17315666020452544564:Unit:=()
def PySem.W.Fast.tw1734754800687016034:Unit:=()
def PySem.W.Fast.tw17371368459508236399:Unit:=()
def PySem.W.Fast.tw17473452030035546102:Unit:=()
def PySem.W.Fast.tw17484600562605233421:Unit:=()
def PySem.W.Fast.tw17486945007064797581:Unit:=()
def PySem.W.Fast.tw17613896458289354030:Unit:=()
def PySem.W.Fast.tw17778647902168460847:Unit:=()
def PySem.W.Fast.tw17825183685556740697:Unit:=()
def PySem.W.Fast.tw18109671360496424157:Unit:=()
def PySem.W.Fast.tw18141280180009473663:Unit:=()
def PySem.W.Fast.tw18300716714575694525:Unit:=()
def PySem.W.Fast.tw18362575313070568810:Unit:=()
def PySem.W.Fast.tw1881470016402234495:Unit:=()
def PySem.W.Fast.tw1899402542628816835:Unit:=()
def PySem.W.Fast.tw1918707403472824050:Unit:=()
def PySem.W.Fast.tw2000888327671640226:Unit:=()
def PySem.W.Fast.tw2028942339615913172:Unit:=()
def PySem.W.Fast.tw234048765124012659:Unit:=()
def PySem.W.Fast.tw2391530997183974990:Unit:=()
def PySem.W.Fast.tw2413995419675425394:Unit:=()
def PySem.W.Fast.tw2431389804139007944:Unit:=()
def PySem.W.Fast.tw2479094698040344386:Unit:=()
def PySem.W.Fast.tw2527470294548073070:Unit:=()
def PySem.W.Fast.tw2640650311690197326:Unit:=()
def PySem.W.Fast.tw2721373632489070707:Unit:=()
def PySem.W.Fast.tw2765272735591553136:Unit:=()
def PySem.W.Fast.tw2859890644542542319:Unit:=()
def PySem.W.Fast.tw2866869449261259353:Unit:=()
def PySem.W.Fast.tw2920181967340309145:Unit:=()
def PySem.W.Fast.tw2965668264680309090:Unit:=()
def PySem.W.Fast.tw3119351228924497911:Unit:=()
def PySem.W.Fast.tw3423516732427786112:Unit:=()
def PySem.W.Fast.tw3497201581027310333:Unit:=()
def PySem.W.Fast.tw3523786529018617098:Unit:=()
def PySem.W.Fast.tw3607100868331290456:Unit:=()
def PySem.W.Fast.tw3708622990959979875:Unit:=()
def PySem.W.Fast.tw3761168184962019498:Unit:=()
def PySem.W.Fast.tw4005831566317224015:Unit:=()
def PySem.W.Fast.tw4030248647858855325:Unit:=()
def PySem.W.Fast.tw4034226532699909288:Unit:=()
def PySem.W.Fast.tw4115863153024652153:Unit:=()
def PySem.W.Fast.tw4339347868777452545:Unit:=()
def PySem.W.Fast.tw442151228748138244:Unit:=()
def PySem.W.Fast.tw4452856307718059197:Unit:=()
def PySem.W.Fast.tw4465992206314663740:Unit:=()
def PySem.W.Fast.tw4497390604528193204:Unit:=()
def PySem.W.Fast.tw461656314503532548:Unit:=()
def PySem.W.Fast.tw484480544910569665:Unit:=()
def PySem.W.Fast.tw4911811499759977433:Unit:=()
def PySem.W.Fast.tw5341144270602069539:Unit:=()
def PySem.W.Fast.tw5513700393690927062:Unit:=()
def PySem.W.Fast.tw556157093830675806:Unit:=()
def PySem.W.Fast.tw5770621722441592291:Unit:=()
def PySem.W.Fast.tw5861433466805190005:Unit:=()
def PySem.W.Fast.tw5881429274450540393:Unit:=()
def PySem.W.Fast.tw589957108047741113:Unit:=()
def PySem.W.Fast.tw5939105953856049884:Unit:=()
def PySem.W.Fast.tw6080126556877205207:Unit:=()
def PySem.W.Fast.tw6309448608590579956:Unit:=()
def PySem.W.Fast.tw6335156934909326191:Unit:=()
def PySem.W.Fast.tw6336526192458588766:Unit:=()
def PySem.W.Fast.tw6390861663662281140:Unit:=()
def PySem.W.Fast.tw6400677189899950147:Unit:=()
def PySem.W.Fast.tw6539732316436775941:Unit:=()
def PySem.W.Fast.tw6605719707807612690:Unit:=()
def PySem.W.Fast.tw6740379312035271295:Unit:=()
def PySem.W.Fast.tw68276845598566842:Unit:=()
def PySem.W.Fast.tw6881713489922802389:Unit:=()
def PySem.W.Fast.tw6907089518717930033:Unit:=()
def PySem.W.Fast.tw6963270872909150777:Unit:=()
def PySem.W.Fast.tw697724770335200606:Unit:=()
def PySem.W.Fast.tw7174132705651158647:Unit:=()
def PySem.W.Fast.tw7205141261571532922:Unit:=()
def PySem.W.Fast.tw7211848362052795876:Unit:=()
def PySem.W.Fast.tw7273013487598530265:Unit:=()
def PySem.W.Fast.tw7819667283955121693:Unit:=()
def PySem.W.Fast.tw7976406771133442081:Unit:=()
def PySem.W.Fast.tw8068033565059716666:Unit:=()
def PySem.W.Fast.tw8185127657745697023:Unit:=()
def PySem.W.Fast.tw823245706720802347:Unit:=()
def PySem.W.Fast.tw8324160578496756762:Unit:=()
def PySem.W.Fast.tw8531144136731890477:Unit:=()
def PySem.W.Fast.tw8572545354227051619:Unit:=()
def PySem.W.Fast.tw8580609233662494944:Unit:=()
def PySem.W.Fast.tw8644683768461106301:Unit:=()
def PySem.W.Fast.tw8659950384760569454:Unit:=()
def PySem.W.Fast.tw8775211756106009412:Unit:=()
def PySem.W.Fast.tw8802017382214469259:Unit:=()
def PySem.W.Fast.tw893994472939827193:Unit:=()
def PySem.W.Fast.tw9156634386242662056:Unit:=()
def PySem.W.Fast.tw9201719975950160153:Unit:=()
def PySem.W.Fast.tw9214026360423535113:Unit:=()
def PySem.W.Fast.tw9432615371831514546:Unit:=()
def PySem.W.Fast.tw9462611490730740494:Unit:=()
def PySem.W.Fast.tw9526803063059051508:Unit:=()
def PySem.W.Fast.tw9566029646943720287:Unit:=()
def PySem.W.Fast.tw9631724511513444221:Unit:=()
def PySem.W.Fast.tw9764025475020155496:Unit:=()
def PySem.W.Fast.tw9821358609035050371:Unit:=()
def PySem.W.Fast.tw9823584621400262570:Unit:=()
def PySem.W.Fast.tw9823882963601491090:Unit:=()
def PySem.W.Fast.tw9854190457775680072:Unit:=()
def PySem.W.Fast.tw9896747317747717825:Unit:=()
open PySem PySem.W PyProof.Rows
local macro_rules | `(tactic| walk_at "D")=>`(tactic| (repeat (refine' L2.dl_cons ?a ?l ?c ?k ?_; (case a=>k_is); (case l=>k_is); (case c=>k_is); (case k=>k_is))); exact trivial)
local macro_rules | `(tactic| walk_at "Z")=>`(tactic| (repeat (refine' L2.nl_cons ?a ?_; (case a=>k_is))); exact trivial)
set_option maxRecDepth 100000 in
set_option maxHeartbeats 0 in
theorem PySem.Challenge.cw_shiftsums_k34_what_a_paper_shows_holds : PySem.Challenge.rw_shiftsums_k34_what_a_paper_shows.Holds := by
 w_on;o_law;k_head;(case hw=>w_witness2)
 k_fill
 refine Law.walk (l:=PySem.Challenge.rw_shiftsums_k34_what_a_paper_shows) rfl rfl (fun w h Y=>PySem.W.kIn_of Y) ?F
 case F =>
  intro w mg fa h KX G hmg;refine' Law.all_mk KX G hmg ?D ?Z ?ai1 ?ai2 ?ai3 ?ak1 ?fk1
  (case D=>walk_at "D");(case Z=>walk_at "Z");(case ai1=>k_is);(case ai2=>k_is)
  (case ai3=>k_is);(case ak1=>k_is);(case fk1=>first|kernel_rfl|k_exc)
end
