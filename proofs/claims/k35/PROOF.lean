import PyProof.Rows.All
import Wide.All
import OpenK.AllK
import Wide.FinOn
import Lean
import PyProof.EqAt
import PyProof.EqKinds
import PyProof.TupleCall
import PyProof.NeKinds
import KE.KMinBuiltin
import PyProof.Rows.CallKwBuiltin
import KE.KDictList
import PyProof.ZipIter
import PyProof.EnumFor
import PyProof.EnumMake
import PyProof.EnumStmt
import PyProof.Rows.Range3
import KE.KItemsList
import PyProof.ListRange
import KE.KIsAll
import PyProof.TupleIter
import PyProof.StationsW
import OpenK.KOwn
import PyProof.RulesDel
import PyProof.ExcArgsOwn
import PyProof.ExcAttrAll.ValueError
import KE.IntBitsLaws
import PyProof.IsRules
import PyProof.SetKind
import PyProof.Rows.SetFrom
import PyProof.CollectWalk
import PyProof.ListNew
import PyProof.Seq
import KE.KSortedM
import PyProof.InstStoreFacts
import PyProof.ExcInit
import KE.KSortTup
import PyProof.AttrMissSeq
import KE.KEqDict
import PyProof.Rows.FStr
import PyProof.Rows.StrJoin2
import OpenK.KTop
import PyProof.StrLaws
import PyProof.TupleKey
import PyProof.SetRoads
import PyProof.StrBlockH
import PyProof.StrWalks
import PyProof.Rows.StrNews2
import PyProof.Rows.StrFirst
import PyProof.StrLawsTight
import PyProof.StrLawsIn
import PyProof.StrLawsIdx
import KE.KIntText
import PyProof.CallStr
import PyProof.RangeIter
import PySem.Challenge.RW_shiftsums_k35_whole_papers_are_so
set_option Elab.async false
set_option linter.all false
set_option maxRecDepth 100000
set_option maxHeartbeats 4000000
open PySem.W renaming Frag → zA
open List renaming mem_singleton → zB
open Nat renaming le_refl → zC
open Array renaming length_toList → zD
open List renaming mem_append → zE
open List renaming mem_cons → zF
open Nat renaming ne_of_lt → zG
open List renaming length_cons → zH
open Bool renaming false_ne_true → zI
open List renaming mem_cons_self → zJ
open Int renaming toNat_natCast → zK
open List renaming not_mem_nil → zL
open List renaming mem_cons_of_mem → zM
open List renaming append_assoc → zN
open List renaming map_cons → zO
open Array renaming getElem?_toList → zQ
open Nat renaming le_trans → zR
open Nat renaming zero_le → zT
open List renaming eq_nil_of_length_eq_zero → zU
open List renaming mem_append_left → zV
open Bool renaming and_eq_true → zW
open List renaming getElem?_eq_none → zX
open Array renaming toList_append → zZ
open Array renaming getElem?_eq_getElem → zd
open List renaming take_length → zf
open List renaming take_append_drop → zj
open List renaming mem_iff_getElem? → zk
open Nat renaming lt_succ_of_lt → zn
open List renaming map_append → zo
open List renaming range → zp
open Bool renaming false_eq_true → zq
open List renaming getElem?_cons_zero → zr
open List renaming filterMap_cons → zt
open List renaming length_drop → zu
open List renaming append_nil → zv
open List renaming mem_flatMap → zw
open List renaming getLast?_eq_getElem? → zx
open Option renaming map_eq_some_iff → zy
open Int renaming mul_assoc → z9
open Int renaming mul_one → yA
open Array renaming toList_push → yB
open List renaming take_of_length_le → yE
open List renaming map_map → yF
open List renaming length_pos_iff → yH
open List renaming take_add_one → yI
open List renaming length_singleton → yJ
open PySem.W renaming kitOne → yL
open List renaming getElem?_take_of_lt → yM
open PySem.W renaming kia_one → yN
open List renaming mem_filter → yO
open List renaming getElem?_drop → yQ
open List renaming pairwise_append → yR
open List renaming mem_of_mem_take → yS
open List renaming all_eq_true → yT
open List renaming length_range → yV
open List renaming drop_eq_getElem_cons → yZ
open Classical renaming byContradiction → ya
open List renaming length_filter_le → yb
open PySem.F renaming called_set → yf
open Option renaming toList_some → yg
open Nat renaming max_eq_right → yh
open Nat renaming lt_of_le_of_lt → yi
open Int renaming le_trans → yk
open List renaming ext_getElem? → yn
open Bool renaming not_eq_true' → yo
open List renaming range_succ_eq_map → yp
open Nat renaming lt_irrefl → yr
open Int renaming le_refl → yt
open List renaming Perm → yu
open List renaming extract_eq_take_drop → yx
open List renaming length_nil → y6
open List renaming nodup_append → y7
open Int renaming pow_zero → y8
open Int renaming one_mul → y9
open PySem.F renaming type_list_append → xC
open PySem.F renaming slot_list_append → xD
open List renaming Pairwise → xE
open PySem.F renaming plainAttrs_list → xJ
open Nat renaming lt_succ_self → xK
open List renaming take_succ → xL
open List renaming getElem?_cons_succ → xM
open List renaming any_eq_true → xN
open PySem.W renaming nsIn → xS
open PySem.W renaming fnOf → xT
open Nat renaming sub_self → xU
open Nat renaming ne_of_gt → xV
open List renaming length_eq_one_iff → xW
open Int renaming mul_comm → xX
open List renaming find?_cons → xc
open List renaming any_cons → xi
open List renaming perm_append_comm → xr
open PySem.W renaming keepIn → x4
open List renaming mem_of_mem_drop → x5
open Array renaming toList_extract → x6
open Array renaming perm_iff_toList_perm → x8
open Nat renaming zero_add → jE
open Nat renaming le_of_eq → jF
open List renaming mem_reverse → jG
open Int renaming le_of_lt → jH
open List renaming exists_mem_of_ne_nil → jL
open List renaming nodup_cons → jT
open PySem.F renaming plain_list_iadd → jb
open List renaming getElem?_eq_getElem → qA
open List renaming getElem?_eq_some_iff → qB
open List renaming length_map → qC
open List renaming getD_eq_getElem?_getD → qD
open List renaming mem_of_getElem? → qE
open List renaming length_append → qF
open List renaming getElem?_append_right → qG
open List renaming getElem?_append_left → qH
open List renaming getElem?_map → qI
open Nat renaming lt_of_lt_of_le → qJ
open List renaming mem_append_right → qK
open List renaming length_replicate → qL
open List renaming size_toArray → qM
open Nat renaming pow_le_pow_right → qN
open List renaming length_take → qO
open List renaming mem_map → qP
open List renaming replicate → qQ
section
namespace L2
open PySem PySem.Spec PyProof.Rows
abbrev Key:=Sum Int Str
def keyIs:Key->Value->Bool
 |.inl k,v=>Value.isInt k v
 |.inr x,v=>Value.isStrOf x v
def keyH (w:World):Key->Int
 |.inl k=>hashInt k
 |.inr x=>hashStr w x
theorem keyIs_shape:∀{k:Key} {v:Value},keyIs k v=true->(∃i t,k=Sum.inl i/\v=Value.int i t)\/(∃x t,k=Sum.inr x/\v=Value.str x t)
 |.inl i,v,h=>by
  obtain⟨t,e⟩:=Value.isInt_shape (k:=i) (v:=v) h
  exact .inl ⟨i,t,rfl,e⟩
 |.inr x,v,h=>by
  obtain⟨t,e⟩:=Value.isStrOf_shape (x:=x) (v:=v) h
  exact .inr ⟨x,t,rfl,e⟩
theorem keyIs_int (i:Int)(t:Tok):keyIs (.inl i) (.int i t)=true:=by simp[keyIs,Value.isInt]
theorem keyIs_str (x:Str)(t:Tok):keyIs (.inr x) (.str x t)=true:=by simp[keyIs,Value.isStrOf]
theorem key_ll (a b:Int):decide ((Sum.inl a:Key)=Sum.inl b)=(a==b):=by
 by_cases e:a=b
 ·subst e;simp
 ·have h:¬ (Sum.inl a:Key)=Sum.inl b:=fun q=>e (Sum.inl.inj q);rw[decide_eq_false h];exact(beq_eq_false_iff_ne.mpr e).symm
theorem key_rr (a b:Str):decide ((Sum.inr a:Key)=Sum.inr b)=decide (a=b):=by
 by_cases e:a=b
 ·subst e;simp
 ·have h:¬ (Sum.inr a:Key)=Sum.inr b:=fun q=>e (Sum.inr.inj q);rw[decide_eq_false h,decide_eq_false e]
theorem key_lr (a:Int)(b:Str):decide ((Sum.inl a:Key)=Sum.inr b)=false:=decide_eq_false (fun q=>nomatch q)
theorem key_rl (a:Str)(b:Int):decide ((Sum.inr a:Key)=Sum.inl b)=false:=decide_eq_false (fun q=>nomatch q)
def yl (prog:Program)(w:World):PySem.KeyKind prog w Key where
 is:=keyIs
 hash:=keyH w
 inj:=fun v a b G B=>by
  rcases keyIs_shape G with⟨i,t,rfl,rfl⟩|⟨x,t,rfl,rfl⟩
  ·rcases keyIs_shape B with⟨j,u,rfl,e⟩|⟨y,u,rfl,e⟩
   ·injection e with e1 _;rw[e1]
   ·exact nomatch e
  ·rcases keyIs_shape B with⟨j,u,rfl,e⟩|⟨y,u,rfl,e⟩
   ·exact nomatch e
   ·injection e with e1 _;rw[e1]
 byValue:=fun k v h=>by
  rcases keyIs_shape h with⟨i,t,rfl,rfl⟩|⟨x,t,rfl,rfl⟩<;>rfl
 pyHash:=fun z h=>by
  rcases keyIs_shape z with⟨i,t,rfl,rfl⟩|⟨x,t,rfl,rfl⟩
  ·exact wpAny_pyHash_int h
  ·exact wpAny_pyHash_str h
 eqBool:=fun H z h=>by
  rcases keyIs_shape H with⟨i,t,rfl,rfl⟩|⟨x,t,rfl,rfl⟩
  ·rcases keyIs_shape z with⟨j,u,rfl,rfl⟩|⟨y,u,rfl,rfl⟩
   ·rw[key_ll]at h;exact wpAny_eqBool_int h
   ·rw[key_lr]at h;exact SeqAt.EqAt.int_str i t y u _ _ _ _ h
  ·rcases keyIs_shape z with⟨j,u,rfl,rfl⟩|⟨y,u,rfl,rfl⟩
   ·rw[key_rl]at h;exact SeqAt.EqAt.str_int x t j u _ _ _ _ h
   ·rw[key_rr]at h;exact wpAny_eqBool_str h
 «strs»:=fun k x t v h=>by
  rcases keyIs_shape h with⟨i,u,rfl,e⟩|⟨y,u,rfl,e⟩
  ·exact nomatch e
  ·injection e with e1 _
   subst e1
   cases v<;>rfl
theorem mixKind_int (prog:Program)(w:World)(i:Int)(t:Tok):(yl prog w).is (.inl i) (.int i t)=true:=keyIs_int i t
theorem mixKind_str (prog:Program)(w:World)(x:Str)(t:Tok):(yl prog w).is (.inr x) (.str x t)=true:=keyIs_str x t
inductive V where
 |non|bl (b:Bool)|int (i:Int)|str (x:Str)|byt (b:Array UInt8)|flt (b:UInt64)|ref (a:Addr)|ty (n:String)
 deriving DecidableEq
def RelV:V->Value->Prop
 |.non,u=>u=Value.none
 |.bl b,u=>u=Value.bool b
 |.int i,u=>∃t,u=Value.int i t
 |.str x,u=>∃t,u=Value.str x t
 |.byt b,u=>∃t,u=Value.bytes b t
 |.flt b,u=>∃t,u=Value.float b t
 |.ref a,u=>u=Value.ref a
 |.ty n,u=>u=Value.type n
abbrev Vals:List V->List Value->Prop:=Paired RelV
theorem Vals.length {xs:List V}{us:List Value}(r:Vals xs us):xs.length=us.length:=Paired.length r
theorem Vals.get:∀{xs:List V} {us:List Value} {i:Nat} {x:V},Vals xs us->xs[i]? = some x->∃u,us[i]? = some u/\RelV x u
 |_,_,_,_,.nil,e=>by simp at e
 |_,_,0,_,.cons r _,e=>by simp at e;subst e;exact⟨_,rfl,r⟩
 |_,_,i+1,x,.cons _ t,e=>by
  obtain⟨u,B,z⟩:=Vals.get (i:=i) (x:=x) t (by simpa using e)
  exact⟨u,by simpa using B,z⟩
theorem Vals.set {x:V}{u:Value}(r:RelV x u):∀{xs:List V} {us:List Value} (i:Nat),Vals xs us->Vals (xs.set i x) (us.set i u)
 |_,_,_,.nil=>.nil
 |_,_,0,.cons _ t=>.cons r t
 |_,_,i+1,.cons q t=>.cons q (Vals.set r i t)
theorem Vals.append:∀{xs z:List V} {us B:List Value},Vals xs us->Vals z B->Vals (xs++z) (us++B)
 |_,_,_,_,.nil,s=>s
 |_,_,_,_,.cons r t,s=>.cons r (Vals.append t s)
theorem Vals.take:∀{xs:List V} {us:List Value} (n:Nat),Vals xs us->Vals (xs.take n) (us.take n)
 |_,_,0,_=>.nil
 |_,_,_+1,.nil=>.nil
 |_,_,n+1,.cons r t=>.cons r (Vals.take n t)
theorem Vals.drop:∀{xs:List V} {us:List Value} (n:Nat),Vals xs us->Vals (xs.drop n) (us.drop n)
 |_,_,0,r=>r
 |_,_,_+1,.nil=>.nil
 |_,_,n+1,.cons _ t=>Vals.drop n t
def RelO:Option V->Option Value->Prop
 |some v,some u=>RelV v u
 |none,none=>True
 |_,_=>False
def KV {z:Type}:List (z×V)->List (z×Value)->Prop:=Paired fun(p:z×V) (q:z×Value)=>p.1=q.1/\RelV p.2 q.2
def kV:Key->V
 |.inl i=>.int i
 |.inr x=>.str x
inductive HO where
 |lst (xs:List V)
 |tup (xs:List V)
 |dK (kvs:List (Key×V))|dT (kvs:List (List Key×V))
 |set (S:Int->Bool) (n:Nat)
 |ins (C dx:Addr) (fs:List (Str×V))
 |own (x:Addr)
 |xd (fs:List (Str×V))
 |met (f x:Addr)
 |rng (lo hi:Int)
 |frz (o:Obj) (u:HO)
 |tbl (ps:Array Value)
 |ext (φ:Heap->Prop)
abbrev Hp:=Addr->Option HO
def upd (H:Hp)(a:Addr)(o:HO):Hp:=fun b=>if b=a then some o else H b
theorem upd_same {H:Hp}{a:Addr}{o:HO}:upd H a o a=some o:=by unfold upd;rw[if_pos rfl]
theorem zg {H:Hp}{a b:Addr}{o:HO}(h:b≠a):upd H a o b=H b:=by unfold upd;rw[if_neg h]
theorem upd_upd {H:Hp}{a:Addr}{o u:HO}:upd (upd H a o) a u=upd H a u:=by
 funext b;unfold upd;split<;>rfl
theorem xt {H:Hp}{a b:Addr}{o u:HO}(h:H a=some o)(h':H b=some u)(d:o≠u):a≠b:=by
 intro e;subst e;rw[h]at h';exact d (Option.some.inj h')
theorem zc {H:Hp}{a b:Addr}{o:HO}(h:H a=some o)(h':H b=none):a≠b:=by
 intro e;subst e;rw[h]at h';cases h'
section
variable (P:Program)(w:World)
def ObjOk (H:Hp)(h:Heap)(a:Addr):HO->Prop
 |.lst G=>G.length<=sizeLine/\∃(B:List Value) (n:Nat),Vals G B/\h.get? a=some { cls:=.type "list",data:=.seq B.toArray n }
 |.tup G=>G.length<=sizeLine/\∃B:List Value,Vals G B/\IsTup h a B.toArray
 |.dK z=>z.length<=sizeLine/\(a==sysModules)=false/\∃vs,KV z vs/\h.DictOf (yl P w) a vs
 |.dT z=>z.length<=sizeLine/\(a==sysModules)=false/\∃G:List (List Key×Addr×Value),
   Paired (fun(p:List Key×V) (q:List Key×Addr×Value)=>p.1=q.1/\H q.2.1=some (.tup (p.1.map kV))/\RelV p.2 q.2.2) z G /\
   ∃o Y ep,h.get? a=some o/\o.ExactDict/\o.data=.dict Y ep/\Y.toList=G.map (entryOfKey (tupleKind (yl P w)))/\(G.map (·.1)).Nodup
 |.set S n=>h.SetOf (intKind P w) a S n
 |.ins C M fs=>H M=some (.own a)/\fs.length<=1000/\M≠a/\h.get? a=some (PySem.W.instObj C M) /\
   ∃J,h.Ns1 M J/\(∀f,RelO (fs.lookup f) (J f))/\PySem.Within J (fs.map (·.1))
 |.own _=>∃o,h.get? a=some o
 |.xd fs=>∃J,h.Ns1 a J/\∀f,RelO (fs.lookup f) (J f)
 |.rng lo hi=>∃t u v,h.get? a=some { cls:=.type "range",data:=.fields #[.int lo t,.int hi u,.int 1 v] }
 |.frz o u=>h.get? a=some o/\ObjOk H h a u
 |.tbl ps=>h.get? a=some { cls:=.none,data:=.fields ps }
 |.met f x=>h.get? a=some (PySem.W.methodObj (.ref f) (.ref x))
 |.ext O=>O h/\(∃o,h.get? a=some o)/\∀h1 U:Heap,O h1->(∀o,h1.get? a=some o->U.get? a=some o)->O U
def HOk (H:Hp)(h:Heap):Prop:=∀a o,H a=some o->ObjOk P w H h a o
end
section
variable {P:Program}{w:World}{H H':Hp}{h h':Heap}{a:Addr}{o:HO}
theorem ObjOk.lt (x:ObjOk P w H h a o):a<h.objs.size:=by
 cases o with
 |lst B=>obtain⟨_,_,_,_,e⟩:=x;exact Heap.lt_size e
 |tup B=>obtain⟨_,_,_,p⟩:=x;exact p.lt
 |dK z=>obtain⟨_,_,_,_,o,_,_,e,_⟩:=x;exact Heap.lt_size e
 |dT z=>obtain⟨_,_,_,_,o,_,_,e,_⟩:=x;exact Heap.lt_size e
 |set S n=>obtain⟨o,_,_,_,e,_⟩:=x;exact Heap.lt_size e
 |ins C O fs=>obtain⟨_,_,_,e,_⟩:=x;exact Heap.lt_size e
 |own y=>obtain⟨_,e⟩:=x;exact Heap.lt_size e
 |xd fs=>obtain⟨_,⟨_,_,_,e,_⟩,_⟩:=x;exact Heap.lt_size e
 |rng U J=>obtain⟨_,_,_,e⟩:=x;exact Heap.lt_size e
 |frz G u=>obtain⟨e,_⟩:=x;exact Heap.lt_size e
 |tbl M=>exact Heap.lt_size (show h.get? a=some _ from x)
 |met f y=>exact Heap.lt_size (show h.get? a=some _ from x)
 |ext Y=>obtain⟨_,⟨_,e⟩,_⟩:=x;exact Heap.lt_size e
theorem Paired.mapP {z β:Type}{F G:z->β->Prop}:∀{l₁:List z} {l₂:List β},Paired F l₁ l₂->(∀a b,F a b->G a b)->Paired G l₁ l₂
 |_,_,.nil,_=>.nil
 |_,_,.cons r t,f=>.cons (f _ _ r) (Paired.mapP t f)
theorem ObjOk.stay (x:ObjOk P w H h a o)(k:∀b u,(b=a\/H b=some (.own a))->h.get? b=some u->h'.get? b=some u)
  (ho:∀b,H b=some (.own a)->H' b=some (.own a)) (ht:∀b O,H b=some (.tup O)->H' b=some (.tup O)):ObjOk P w H' h' a o:=by
 induction o with
 |lst O=>obtain⟨z,M,n,r,e⟩:=x;exact⟨z,M,n,r,k _ _ (.inl rfl) e⟩
 |tup O=>obtain⟨z,M,r,B,e,c⟩:=x;exact⟨z,M,r,B,k _ _ (.inl rfl) e,c⟩
 |dK U=>obtain⟨z,y,vs,r,B,G,J,e,c⟩:=x;exact⟨z,y,vs,r,B,G,J,k _ _ (.inl rfl) e,c⟩
 |dT U =>
  obtain⟨z,y,O,r,B,G,J,e,c⟩:=x;exact⟨z,y,O,Paired.mapP r fun p q z=>⟨z.1,ht _ _ z.2.1,z.2.2⟩,B,G,J,k _ _ (.inl rfl) e,c⟩
 |set S n=>obtain⟨B,G,J,t,e,c⟩:=x;exact⟨B,G,J,t,k _ _ (.inl rfl) e,c⟩
 |ins C dx fs =>
  obtain⟨d,z,ne,e,mA,⟨Y,G,J,e2,c⟩,r⟩:=x;exact⟨ho _ d,z,ne,k _ _ (.inl rfl) e,mA,⟨Y,G,J,k _ _ (.inr d) e2,c⟩,r⟩
 |own y=>obtain⟨B,e⟩:=x;exact⟨B,k _ _ (.inl rfl) e⟩
 |xd fs=>obtain⟨mA,⟨Y,G,J,e,c⟩,r⟩:=x;exact⟨mA,⟨Y,G,J,k _ _ (.inl rfl) e,c⟩,r⟩
 |rng lo hi=>obtain⟨t,u,v,e⟩:=x;exact⟨t,u,v,k _ _ (.inl rfl) e⟩
 |frz B u ih=>obtain⟨e,q⟩:=x;exact⟨k _ _ (.inl rfl) e,ih q⟩
 |tbl ps =>
  have e:h.get? a=some { cls:=.none,data:=.fields ps }:=x;show h'.get? a=some { cls:=.none,data:=.fields ps }
  exact k a _ (.inl rfl) e
 |met f y =>
  have e:h.get? a=some (PySem.W.methodObj (.ref f) (.ref y)):=x;show h'.get? a=some (PySem.W.methodObj (.ref f) (.ref y))
  exact k a _ (.inl rfl) e
 |ext φ=>obtain⟨p,⟨o,e⟩,st⟩:=x;exact⟨st _ _ p fun o q=>k _ _ (.inl rfl) q,⟨o,k _ _ (.inl rfl) e⟩,st⟩
theorem HOk.lt (x:HOk P w H h)(e:H a=some o):a<h.objs.size:=(x a o e).lt
theorem HOk.fresh (x:HOk P w H h)(e:h.objs.size<=a):H a=none:=by
 cases q:H a with
 |none=>rfl
 |some u=>exact absurd (qJ (x.lt q) e) (yr _)
theorem HOk.kept (x:HOk P w H h)(k:∀b u,h.get? b=some u->h'.get? b=some u):HOk P w H h':=fun a o e =>
 (x a o e).stay (fun b u _ q=>k b u q) (fun _ q=>q) fun _ _ q=>q
theorem HOk.laid (x:HOk P w H h)(k:∀b u,h.get? b=some u->h'.get? b=some u)(G:h.objs.size<=a)(new:ObjOk P w (upd H a o) h' a o):HOk P w (upd H a o) h':=fun b u e=>by
 have B:=x.fresh G
 by_cases z:b=a
 ·subst z;rw[upd_same]at e;cases e;exact new
 ·rw[zg z]at e
  exact(x b u e).stay (fun c v _ q=>k c v q) (fun c q=>by rw[zg (zc q B)];exact q) fun c J q=>by rw[zg (zc q B)];exact q
end
def Rd (H:Hp)(a:Addr)(u:HO):Prop:=H a=some u\/∃o,H a=some (.frz o u)
theorem Rd.ok {P:Program}{w:World}{H:Hp}{h:Heap}{a:Addr}{u:HO}(r:Rd H a u)(x:HOk P w H h):ObjOk P w H h a u:=by
 rcases r with r|⟨o,r⟩
 ·exact x a u r
 ·obtain⟨_,q⟩:=x a _ r;exact q
def Mut:Option HO->Prop
 |some (.lst _)=>True
 |some (.dK _)=>True
 |some (.dT _)=>True
 |some (.set _ _)=>True
 |some (.ins _ _ _)=>True
 |some (.ext _)=>True
 |_=>False
section
variable {P:Program}{w:World}{H:Hp}{h h':Heap}{x e:Addr}{o':HO}
theorem HOk.write (ok:HOk P w H h)(M:Mut (H x))(he:e=x\/H e=some (.own x))(k:∀b u,b≠e->h.get? b=some u->h'.get? b=some u)(aa:∃u,h'.get? e=some u)
  (new:ObjOk P w (upd H x o') h' x o'):HOk P w (upd H x o') h':=fun b u q=>by
 have G:∀c y,H c=some (.own y)->c≠x:=fun c y r z=>by subst z;rw[r]at M;exact M
 have J:∀c Y,H c=some (.tup Y)->c≠x:=fun c Y r z=>by subst z;rw[r]at M;exact M
 by_cases O:b=x
 ·subst O;rw[upd_same]at q;cases q;exact new
 ·rw[zg O]at q
  by_cases B:b=e
  ·have q':H b=some (.own x):=by
    rcases he with z|z
    ·exact absurd (B.trans z) O
    ·rw[B];exact z
   rw[q]at q';cases q'
   obtain⟨v,hv⟩:=aa;exact⟨v,by rw[B];exact hv⟩
  ·refine(ok b u q).stay (fun c v U r=>k c v ?_ r) (fun c r=>by rw[zg (G c b r)];exact r) fun c Y r=>by rw[zg (J c Y r)];exact r
   rcases U with rfl|U
   ·exact B
   ·rintro rfl;rcases he with z|z
    ·exact G c b U z
    ·rw[U]at z;cases z;exact O rfl
end
structure Un (fs ex:List Addr) (H H':Hp) (h h':Heap):Prop where
 keep:∀b o,h.get? b=some o->H b=none->b∉fs->b∉ex->h'.get? b=some o
 slot:∀b o,h.get? b=some o->H b=none->b∈fs->b∉ex->∃sl,h'.get? b=some { o with slots:=sl }
 free:∀b o,h.get? b=some o->H b=none->b∉ex->H' b=none
 there:∀b o,h.get? b=some o->b∉ex->∃o',h'.get? b=some o'
 tups:∀b xs,H b=some (.tup xs)->H' b=some (.tup xs)
 frzs:∀b o u,H b=some (.frz o u)->H' b=some (.frz o u)
 tbls:∀b ps,H b=some (.tbl ps)->∃more,H' b=some (.tbl (ps++more))
section
variable {fs fs' ex ex':List Addr}{H H1 H2:Hp}{h h1 h2 h':Heap}{a x e:Addr}{o:HO}
theorem Un.any (u:Un fs ex H H1 h h1){b:Addr}{z:Obj}(q:h.get? b=some z)(n:H b=none)(G:b∉ex):∃sl,h1.get? b=some { z with slots:=sl }:=by
 by_cases B:b∈fs
 ·exact u.slot b z q n B G
 ·exact⟨z.slots,u.keep b z q n B G⟩
theorem Un.kept (k:∀b u,h.get? b=some u->h'.get? b=some u):Un fs ex H H h h' :=
 ⟨fun b z q _ _ _=>k b z q,fun b z q _ _ _=>⟨z.slots,k b z q⟩,fun _ _ _ n _=>n,fun b z q _=>⟨z,k b z q⟩,fun _ _ q=>q,fun _ _ _ q=>q,fun _ B q=>⟨#[],by rw[q];simp⟩⟩
theorem Un.refl:Un fs ex H H h h:=Un.kept fun _ _ q=>q
theorem Un.laid (k:∀b u,h.get? b=some u->h'.get? b=some u)(G:h.objs.size<=a)(z:H a=none):Un fs ex H (upd H a o) h h' where
 keep:=fun b u q _ _ _=>k b u q
 slot:=fun b u q _ _ _=>⟨u.slots,k b u q⟩
 free:=fun b u q n _=>by rw[zg (zG (qJ (Heap.lt_size q) G))];exact n
 there:=fun b u q _=>⟨u,k b u q⟩
 tups:=fun b B q=>by rw[zg (zc q z)];exact q
 frzs:=fun b u B q=>by rw[zg (zc q z)];exact q
 tbls:=fun b J q=>⟨#[],by rw[zg (zc q z),q];simp⟩
theorem Un.write (G:Mut (H x))(Y:e=x\/H e=some (.own x))(k:∀b u,b≠e->h.get? b=some u->h'.get? b=some u)(J:∃u,h'.get? e=some u):Un fs ex H (upd H x o) h h':=by
 have U:∀b,H b=none->b≠x:=fun b n z=>by subst z;rw[n]at G;exact G
 have O:∀b,H b=none->b≠e:=fun b n z=>by
  subst z;rcases Y with r|r
  ·exact U b n r
  ·rw[n]at r;cases r
 have M:∀b u,H b=some u -> ¬ Mut (some u)->b≠x:=fun b u q nm z=>by subst z;rw[q]at G;exact nm G
 refine⟨fun b u q n _ _=>k b u (O b n) q,fun b u q n _ _=>⟨u.slots,k b u (O b n) q⟩,fun b u q n _=>by rw[zg (U b n)];exact n,fun b u q _=>?_,
  fun b xs q=>by rw[zg (M b _ q fun z=>z)];exact q,fun b u xs q=>by rw[zg (M b _ q fun z=>z)];exact q,fun b ps q=>⟨#[],by rw[zg (M b _ q fun z=>z),q];simp⟩⟩
 by_cases B:b=e
 ·subst B;exact J
 ·exact⟨u,k b u B q⟩
end
def trk (h:Heap)(H:Hp):List Addr:=(zp h.objs.size).filter fun a=>(H a).isSome
def hidT (h:Heap)(H:Hp):Heap:=PySem.W.hideAll h (trk h H)
theorem hidT_size (h:Heap)(H:Hp):(hidT h H).objs.size=h.objs.size:=PySem.W.hideAll_size _ _
theorem hidT_get {h:Heap}{H:Hp}{b:Addr}{o:Obj}(e:h.get? b=some o)(n:H b=none):(hidT h H).get? b=some o :=
 PySem.W.hideAll_get _ e fun z=>by
  have q:(H b).isSome=true:=(yO.mp z).2
  rw[n]at q;simp at q
theorem of_hidT {h:Heap}{H:Hp}{b:Addr}{o:Obj}(e:(hidT h H).get? b=some o):h.get? b=some o/\H b=none:=by
 have B:h.get? b=some o:=PySem.W.of_hideAll (trk h H) e;refine⟨B,?_⟩;cases q:H b with
 |none=>rfl
 |some x =>
  have G:b∈trk h H:=yO.mpr ⟨List.mem_range.mpr (Heap.lt_size B),by simp[q]⟩;have z:(hidT h H).get? b=none:=PySem.W.hideAll_none (trk h H) G;rw[z]at e;cases e
def allNews (g h:Heap)(L:Addr):List (Addr×Obj):=(zp h.objs.size).filterMap fun a=>if a=L\/(g.get? a).isSome=true then none else (h.get? a).map fun o=>(a,o)
def rest (g h:Heap)(L d:Addr):List (Addr×Obj):=(allNews g h L).filter fun p=>decide (p.1≠d)
structure Mod (K:zA) (mg:Str->Option Value) (base:Heap):Prop where
 kin:K.In base
 glob:base.Ns mainGlobals mg
 blt:∃mb,base.Ns builtinsNs mb/\∀x:Str,x ≠ "__name__" -> mb x=bootBuiltins x
 nolimit:base.NoLimit
structure Cx where
 prog:Program
 w:World
 K:zA
 mg:Str->Option Value
 base:Heap
 A:Around
 N:List Str
 s₀:Shared
 H₀:Hp
 env:Env
 outer:List Env
 stack:List Env
 ex:List Addr
 fn:Str->Bool
 calm:Bool
 pn:List (Addr×Obj)
 xe:Value->Shared->Prop
def frs (l:List Env):List Addr:=l.filterMap (·.frame)
abbrev Cx.fs (X:Cx):List Addr:=frs X.outer
def Vis (z:Scope)(x:Str):Prop:=z.names.lookup x=some .local\/z.names.lookup x=some .cell\/z.names.lookup x=some .free
def Loc (z:Scope)(x:Str):Prop:=z.names.lookup x=some .local\/z.names.lookup x=some .cell
def Look (env:Env)(h:Heap)(m:Str->Option Value)(x:Str)(u:Value):Prop :=
 (env.kindOf x=some .local/\m x=some u)\/((env.kindOf x=some .cell\/env.kindOf x=some .free)/\∃c,env.cells.lookup x=some c/\h.IsCell c (some u))
structure Cx.Ok (X:Cx):Prop where
 mod:Mod X.K X.mg X.base
 kind:X.env.scope.kind=.function
 glob:X.env.globals=mainGlobals
 blt:X.env.builtins=builtinsNs
 above:X.s₀.heap.objs.size<=X.env.locals
 inj:∀x y c,X.env.cells.lookup x=some c->X.env.cells.lookup y=some c->x=y
 has:∀x,(X.env.kindOf x=some .cell\/X.env.kindOf x=some .free)->∃c,X.env.cells.lookup x=some c
 cab:∀x c,X.fn x=true->X.env.cells.lookup x=some c->X.s₀.heap.objs.size<=c
 hd:X.calm=true->X.A.handled=none
 frames:X.A.frames=some X.stack
 stk:X.stack=X.outer\/(X.stack=X.env::X.outer/\X.env.frame=some X.env.locals)
 exf:∀b∈X.ex,b≠X.env.locals/\∀x c,X.env.cells.lookup x=some c->c≠b
 bs:∀b o,X.base.get? b=some o->X.s₀.heap.get? b=some o/\X.H₀ b=none
 bsz:X.base.objs.size<=X.s₀.heap.objs.size
 noex:∀b o,X.base.get? b=some o->b∉X.ex
 exfs:∀b∈X.ex,b∉X.fs
 funs:X.s₀.heap.FunFrames X.base X.outer
 frf:∀b∈X.fs,X.H₀ b=none
structure Inv (X:Cx) (pins:List (Addr×Obj)) (σ:List (Option V)) (H:Hp) (s:Shared):Prop where
 ok:X.Ok
 os:s.os=X.s₀.os
 bare:AllBare s.gens
 base:Un X.fs X.ex X.H₀ H X.s₀.heap s.heap
 loc:∃m,s.heap.Ns X.env.locals m/\∀(i:Nat) (x:Str) (v:V),X.N[i]? = some x->σ[i]? = some (some v)->Vis X.env.scope x->∃u,RelV v u/\Look X.env s.heap m x u
 cell:∀x c,X.env.cells.lookup x=some c->∃v,s.heap.IsCell c v
 free:H X.env.locals=none
 freeC:∀x c,X.env.cells.lookup x=some c->H c=none
 pin:∀p∈X.pn++pins,s.heap.get? p.1=some p.2/\H p.1=none/\p.1≠X.env.locals/\p.1∉X.fs/\∀v,p.2.data≠.cell v
 hok:HOk X.prog X.w H s.heap
 len:σ.length=X.N.length
section
variable {X:Cx}{pins:List (Addr×Obj)}{σ:List (Option V)}{H H':Hp}{s:Shared}{h':Heap}
theorem Cx.Ok.nofr (ok:X.Ok){b:Addr}{o:Obj}(e:X.base.get? b=some o):b∉X.fs:=fun z=>by
 have:=(ok.funs.mem z).1
 rw[e]at this;cases this
theorem Inv.bs (I:Inv X pins σ H s):∀b o,X.base.get? b=some o->s.heap.get? b=some o/\H b=none:=fun b o e =>
 ⟨I.base.keep b o (I.ok.bs b o e).1 (I.ok.bs b o e).2 (I.ok.nofr e) (I.ok.noex b o e),I.base.free b o (I.ok.bs b o e).1 (I.ok.bs b o e).2 (I.ok.noex b o e)⟩
theorem Inv.bk (I:Inv X pins σ H s):∀b o,X.base.get? b=some o->s.heap.get? b=some o:=fun b o e=>(I.bs b o e).1
theorem Inv.mod (I:Inv X pins σ H s):Mod X.K X.mg X.base:=I.ok.mod
theorem Inv.kIn (I:Inv X pins σ H s):X.K.In s.heap:=I.ok.mod.kin.keeps I.bk
theorem Inv.lt (I:Inv X pins σ H s):X.env.locals<s.heap.objs.size:=let ⟨_,z,_⟩:=I.loc;z.lt
theorem Inv.sz (I:Inv X pins σ H s):X.s₀.heap.objs.size<=s.heap.objs.size:=zR I.ok.above (Nat.le_of_lt I.lt)
theorem Inv.nofs (I:Inv X pins σ H s){a:Addr}(h:s.heap.objs.size<=a):a∉X.fs:=fun z=>by
 obtain⟨_,o,B,_⟩:=I.ok.funs.mem z
 exact absurd (qJ (Heap.lt_size B) (zR I.sz h)) (yr _)
theorem Inv.cne (I:Inv X pins σ H s):∀x c,X.env.cells.lookup x=some c->c≠X.env.locals:=fun x c e z=>by
 obtain⟨v,o,J,M⟩:=I.cell x c e
 obtain⟨m,⟨Y,U,O,B,G,_⟩,_⟩:=I.loc
 rw[z,B]at J;cases J;rw[G]at M;cases M
theorem Inv.funs (I:Inv X pins σ H s):s.heap.FunFrames X.base X.outer:=by
 have all:∀(l:List Env),(∀b∈frs l,b∈X.fs)->X.s₀.heap.FunFrames X.base l->s.heap.FunFrames X.base l:=by
  intro l;induction l with
  |nil=>intro _ _;trivial
  |cons env r ih =>
   intro M hl;obtain⟨hk,⟨L,o,J,hn,O,U⟩,Y⟩:=hl;have G:L∈X.fs:=M L (by unfold frs;rw[zt,J];exact zJ);obtain⟨sl,e⟩:=I.base.slot L o O (I.ok.frf L G) G fun z=>I.ok.exfs L z G;exact⟨hk,⟨L,_,J,hn,e,U⟩,ih (fun b B=>M b (by unfold frs;rw[zt,J];exact zM _ B)) Y⟩
 exact all X.outer (fun _ B=>B) I.ok.funs
theorem Inv.stack (I:Inv X pins σ H s):s.heap.FunFrames X.base X.stack:=by
 rcases I.ok.stk with e|⟨e,B⟩
 ·rw[e];exact I.funs
 ·rw[e];obtain⟨m,z,_⟩:=I.loc;refine .cons (by rw[I.ok.kind];decide) B z ?_ I.funs;exact Heap.get?_none_of_le (zR I.ok.bsz I.ok.above)
theorem Inv.stkSub (I:Inv X pins σ H s):∀b∈frs X.stack,b∈X.env.locals::X.fs:=fun b z=>by
 rcases I.ok.stk with e|⟨e,B⟩
 ·rw[e]at z;exact zM _ z
 ·rw[e]at z
  unfold frs at z
  rw[zt,B]at z
  exact z
theorem Inv.stkFree (I:Inv X pins σ H s):∀b∈frs X.stack,H b=none:=fun b B=>by
 rcases zF.mp (I.stkSub b B) with e|B
 ·rw[e];exact I.free
 ·obtain⟨_,o,G,_⟩:=I.ok.funs.mem B
  exact I.base.free b o G (I.ok.frf b B) fun z=>I.ok.exfs b z B
theorem Inv.step {g':Array GenState}{t':Nat}{d':Drawn}{ch:List Addr}(I:Inv X pins σ H s)
  (J:∀b∈ch,(b∈X.ex\/X.s₀.heap.objs.size<=b)/\b≠X.env.locals/\(∀x c,X.env.cells.lookup x=some c->c≠b)/\∀p∈X.pn++pins,p.1≠b)
  (keep:∀b o,b≠X.env.locals->b∉X.fs->b∉ch->s.heap.get? b=some o->H b=none->h'.get? b=some o)
  (slot:∀b o,b≠X.env.locals->b∈X.fs->b∉ch->s.heap.get? b=some o->H b=none->∃sl,h'.get? b=some { o with slots:=sl }) (free:∀b o,b∉ch->s.heap.get? b=some o->H b=none->H' b=none)
  (there:∀b o,b∉ch->s.heap.get? b=some o->∃o',h'.get? b=some o')
  (tups:∀b U,H b=some (.tup U)->H' b=some (.tup U)) (frzs:∀b o u,H b=some (.frz o u)->H' b=some (.frz o u)) (tbls:∀b ps,H b=some (.tbl ps)->∃more,H' b=some (.tbl (ps++more)))
  (ns:∀m,s.heap.Ns X.env.locals m->h'.Ns X.env.locals m) (hok:HOk X.prog X.w H' h') (hg:AllBare g') :
  Inv X pins σ H' { s with heap:=h',gens:=g',drawn:=d',toks:=t' }:=by
 have neL:∀b o,X.s₀.heap.get? b=some o->b≠X.env.locals:=fun b o e=>zG (qJ (Heap.lt_size e) I.ok.above);have O:∀b o,X.s₀.heap.get? b=some o->b∉X.ex->b∉ch:=fun b o e B Y=>by
  rcases(J b Y).1 with z|z
  ·exact B z
  ·exact absurd (qJ (Heap.lt_size e) z) (yr _)
 have cellK:∀x c,X.env.cells.lookup x=some c->∀v,s.heap.IsCell c v->h'.IsCell c v:=fun x c e v ⟨o,ho,hd⟩=>by
  have G:c∉ch:=fun z=>(J c z).2.2.1 x c e rfl;by_cases hc:c∈X.fs
  ·obtain⟨sl,q⟩:=slot c o (I.cne x c e) hc G ho (I.freeC x c e);exact⟨_,q,hd⟩
  ·exact⟨o,keep c o (I.cne x c e) hc G ho (I.freeC x c e),hd⟩
 refine⟨I.ok,I.os,hg,⟨fun b o e n Y B=>?_,fun b o e n Y B=>?_,fun b o e n B=>?_,fun b o e B=>?_,fun b U e=>tups b U (I.base.tups b U e),fun b o U e=>frzs b o U (I.base.frzs b o U e),fun b ps e=>?_⟩,?_,fun x c e=>?_,?_,fun x c e=>?_,fun p hp=>?_,hok,I.len⟩
 ·exact keep b o (neL b o e) Y (O b o e B) (I.base.keep b o e n Y B) (I.base.free b o e n B)
 ·obtain⟨sl,M⟩:=I.base.slot b o e n Y B;obtain⟨sl',e2⟩:=slot b _ (neL b o e) Y (O b o e B) M (I.base.free b o e n B);exact⟨sl',e2⟩
 ·obtain⟨o',M⟩:=I.base.there b o e B;exact free b o' (O b o e B) M (I.base.free b o e n B)
 ·obtain⟨o',M⟩:=I.base.there b o e B;exact there b o' (O b o e B) M
 ·obtain⟨m1,M⟩:=I.base.tbls b ps e;obtain⟨m2,e2⟩:=tbls b _ M;exact⟨m1++m2,by rw[e2,Array.append_assoc]⟩
 ·obtain⟨m,hn,hl⟩:=I.loc;refine⟨m,ns m hn,fun i x v M e2 e3=>?_⟩;obtain⟨u,r,l⟩:=hl i x v M e2 e3;refine⟨u,r,?_⟩;rcases l with l|⟨k,c,e,z⟩
  ·exact .inl l
  ·exact .inr ⟨k,c,e,cellK x c e _ z⟩
 ·obtain⟨v,z⟩:=I.cell x c e;exact⟨v,cellK x c e v z⟩
 ·obtain⟨m,⟨o,_,_,ho,_⟩,_⟩:=I.loc;exact free _ o (fun z=>(J _ z).2.1 rfl) ho I.free
 ·obtain⟨v,o,ho,hd⟩:=I.cell x c e;exact free c o (fun z=>(J c z).2.2.1 x c e rfl) ho (I.freeC x c e)
 ·obtain⟨e,n,ne,nf,d⟩:=I.pin p hp;have G:p.1∉ch:=fun z=>(J p.1 z).2.2.2 p hp rfl;exact⟨keep p.1 p.2 ne nf G e n,free p.1 p.2 G e n,ne,nf,d⟩
theorem Inv.un {t':Nat}(I:Inv X pins σ H s)(u:Un X.fs [] H H' s.heap h')(hok:HOk X.prog X.w H' h'):Inv X pins σ H' { s with heap:=h',toks:=t' }:=by
 obtain⟨m,⟨o,es,ep,O,r⟩,_⟩:=id I.loc;obtain⟨sl,U⟩:=u.any O I.free (by simp);exact I.step (g':=s.gens) (d':=s.drawn) (ch:=[]) (fun _ z=>nomatch z) (fun b o _ G _ e n=>u.keep b o e n G (by simp)) (fun b o _ G _ e n=>u.slot b o e n G (by simp)) (fun b o _ e n=>u.free b o e n (by simp)) (fun b o _ e=>u.there b o e (by simp)) u.tups u.frzs u.tbls (fun m' hm=>by
  obtain⟨o',J,M,B,Y⟩:=hm;rw[O]at B;cases B
  exact⟨_,J,M,U,Y⟩) hok I.bare
theorem Inv.call {g':Array GenState}{t':Nat}{d':Drawn}{ch:List Addr}(I:Inv X pins σ H s)(u:Un (frs X.stack) ch H H' s.heap h')(hok:HOk X.prog X.w H' h')(hg:AllBare g')
  (J:∀b∈ch,(b∈X.ex\/X.s₀.heap.objs.size<=b)/\b≠X.env.locals/\(∀x c,X.env.cells.lookup x=some c->c≠b)/\∀p∈X.pn++pins,p.1≠b) :
  Inv X pins σ H' { s with heap:=h',gens:=g',drawn:=d',toks:=t' }:=by
 obtain⟨m,⟨o,es,ep,Y,r⟩,_⟩:=id I.loc;obtain⟨sl,U⟩:=u.any Y I.free fun z=>(J _ z).2.1 rfl;exact I.step (ch:=ch) J (fun b o U hb B e n=>u.keep b o e n (fun z=>(zF.mp (I.stkSub b z)).elim U hb) B) (fun b o _ _ B e n=>u.any e n B) (fun b o B e n=>u.free b o e n B) (fun b o B e=>u.there b o e B) u.tups u.frzs u.tbls (fun m' hm=>by
  obtain⟨o',M,O,G,r'⟩:=hm;rw[Y]at G;cases G
  exact⟨_,M,O,U,r'⟩) hok hg
theorem Inv.turned {t':Nat}{it:Addr}(I:Inv X pins σ H s)(k:∀b o,b≠it->s.heap.get? b=some o->h'.get? b=some o)(Y:H it=none)(J:it≠X.env.locals)
  (h1:it∈X.ex\/X.s₀.heap.objs.size<=it) (U:∀x c,X.env.cells.lookup x=some c->c≠it) (h3:∀p∈X.pn++pins,p.1≠it):Inv X pins σ H { s with heap:=h',toks:=t' }:=by
 have G:∀b u,H b=some u->b≠it:=fun b u e z=>by rw[z,Y]at e;cases e
 refine I.step (g':=s.gens) (d':=s.drawn) (ch:=[it]) (fun b O=>?_) (fun b o _ _ B e _=>k b o (fun z=>B (by simp[z])) e) (fun b o _ _ B e _=>⟨o.slots,k b o (fun z=>B (by simp[z])) e⟩) (fun _ _ _ _ n=>n)
  (fun b o B e=>⟨o,k b o (fun z=>B (by simp[z])) e⟩) (fun _ _ e=>e) (fun _ _ _ e=>e) (fun b ps e=>⟨#[],by rw[e];simp⟩) (fun m hm=>?_) (fun b u e=>?_) I.bare
 ·have e:b=it:=by simpa using O
  subst e;exact⟨h1,J,U,h3⟩
 ·obtain⟨o,es,ep,M,r⟩:=hm;exact⟨o,es,ep,k _ o (Ne.symm J) M,r⟩
 ·refine(I.hok b u e).stay (fun c v B q=>k c v ?_ q) (fun _ q=>q) fun _ _ q=>q;rcases B with z|z
  ·rw[z];exact G b u e
  ·exact G c _ z
theorem Inv.tok (I:Inv X pins σ H s)(t:Nat):Inv X pins σ H { s with toks:=t }:=I.un (h':=s.heap) (t':=t) Un.refl I.hok
theorem Inv.kept {t':Nat}(I:Inv X pins σ H s)(k:∀b u,s.heap.get? b=some u->h'.get? b=some u):Inv X pins σ H { s with heap:=h',toks:=t' }:=I.un (Un.kept k) (I.hok.kept k)
theorem Inv.laid {a:Addr}{o:HO}{t':Nat}(I:Inv X pins σ H s)(k:∀b u,s.heap.get? b=some u->h'.get? b=some u)(z:s.heap.objs.size<=a)(new:ObjOk X.prog X.w (upd H a o) h' a o) :
  Inv X pins σ (upd H a o) { s with heap:=h',toks:=t' }:=I.un (Un.laid k z (I.hok.fresh z)) (I.hok.laid k z new)
theorem Inv.write {x e:Addr}{o:HO}{t':Nat}(I:Inv X pins σ H s)(B:Mut (H x))(G:e=x\/H e=some (.own x))(k:∀b u,b≠e->s.heap.get? b=some u->h'.get? b=some u)(z:∃u,h'.get? e=some u)
  (new:ObjOk X.prog X.w (upd H x o) h' x o):Inv X pins σ (upd H x o) { s with heap:=h',toks:=t' }:=I.un (Un.write B G k z) (I.hok.write B G k z new)
theorem Inv.pins_of {B:List (Addr×Obj)}(I:Inv X pins σ H s)(h:∀p∈B,s.heap.get? p.1=some p.2/\H p.1=none/\p.1≠X.env.locals/\p.1∉X.fs/\∀v,p.2.data≠.cell v):Inv X B σ H s :=
 ⟨I.ok,I.os,I.bare,I.base,I.loc,I.cell,I.free,I.freeC,fun p G=>(zE.mp G).elim (fun z=>I.pin p (zV _ z)) (h p),I.hok,I.len⟩
theorem nodup_ix {N:List Str}(z:N.Nodup){i j:Nat}{x:Str}(a:N[i]? = some x)(b:N[j]? = some x):i=j:=by
 obtain⟨M,B⟩:=qB.mp a;obtain⟨J,G⟩:=qB.mp b;exact(List.getElem_inj z).mp (B.trans G.symm)
theorem store_ok2 {M:Model}{A:Around}{E:Value->Shared->Prop}{i:Nat}{x:Str}{v:V}{u:Value}{Q:Unit->Shared->Prop}(I:Inv X pins σ H s)(hN:X.N.Nodup)(hi:X.N[i]? = some x)(O:Loc X.env.scope x)(r:RelV v u)
  (h:∀s',Inv X pins (σ.set i (some v)) H s'->(∃a,Heap.SameBut a s.heap s'.heap/\(a=X.env.locals\/X.env.cells.lookup x=some a))->Q () s') (hf:X.fn x=true\/X.env.scope.names.lookup x=some .local:=by first|exact .inl rfl|exact .inr rfl|assumption):wpAny M A (storeName X.env x u) Q E s:=by
 obtain⟨m,hn,hl⟩:=id I.loc;have hcls:(X.env.scope.kind==.class || (X.env.scope.kind==.module&&X.env.locals != X.env.globals))=false:=by rw[I.ok.kind];rfl
 have hiσ:i<σ.length:=by rw[I.len];exact(qB.mp hi).1
 have cne:=I.cne;have tracked:∀{a:Addr} {h':Heap},(∃o,s.heap.get? a=some o/\H a=none)->Heap.SameBut a s.heap h'->HOk X.prog X.w H h':=fun {a h'} ha B b ob e=>by
  obtain⟨_,_,U⟩:=ha;refine(I.hok b ob e).stay (fun c w' J q=>(B.2 c ?_).trans q) (fun _ q=>q) fun _ _ q=>q;rintro rfl;rcases J with rfl|J
  ·rw[U]at e;cases e
  ·rw[U]at J;cases J
 rcases O with hk|hk
 ·refine wpAny_storeName_local hk hn (fun h' hn' B=>?_) hcls;obtain⟨oL,_,_,hoL,_⟩:=id hn;refine h _ ⟨I.ok,I.os,I.bare,⟨fun b o e n hb O=>?_,fun b o e n hb O=>?_,I.base.free,fun b o e O=>?_,I.base.tups,I.base.frzs,I.base.tbls⟩,⟨_,hn',fun j y v' G Y e3=>?_⟩,fun y c e=>?_,I.free,I.freeC,fun p hp=>?_,tracked ⟨oL,hoL,I.free⟩ B,by simpa using I.len⟩ ⟨_,B,.inl rfl⟩
  ·exact(B.2 b (zG (qJ (Heap.lt_size e) I.ok.above))).trans (I.base.keep b o e n hb O)
  ·obtain⟨sl,G⟩:=I.base.slot b o e n hb O;exact⟨sl,(B.2 b (zG (qJ (Heap.lt_size e) I.ok.above))).trans G⟩
  ·obtain⟨o',G⟩:=I.base.there b o e O;exact⟨o',(B.2 b (zG (qJ (Heap.lt_size e) I.ok.above))).trans G⟩
  ·by_cases hj:j=i
   ·subst hj;rw[hi]at G;cases G
    rw[List.getElem?_set_self hiσ]at Y;cases Y
    exact⟨u,r,.inl ⟨hk,by simp⟩⟩
   ·rw[List.getElem?_set_ne (Ne.symm hj)]at Y;obtain⟨u',r',q⟩:=hl j y v' G Y e3;refine⟨u',r',?_⟩;rcases q with⟨k,e⟩|⟨k,c,e,z⟩
    ·refine .inl ⟨k,?_⟩;have:y≠x:=fun e=>hj (nodup_ix hN G (e ▸ hi));simp[this,e]
    ·exact .inr ⟨k,c,e,z.sameBut B (cne y c e)⟩
  ·obtain⟨w',z⟩:=I.cell y c e;exact⟨w',z.sameBut B (cne y c e)⟩
  ·obtain⟨e,n,ne,nf,d⟩:=I.pin p hp;exact⟨(B.2 p.1 ne).trans e,n,ne,nf,d⟩
 ·have hfn:X.fn x=true:=by
   rcases hf with z|z
   ·exact z
   ·rw[z]at hk;cases hk
  obtain⟨c,J⟩:=I.ok.has x (.inl hk);obtain⟨w',z⟩:=I.cell x c J;refine wpAny_storeName_cell I.ok.kind hk J z (fun h' hc' B=>?_);obtain⟨oc,hoc,hocd⟩:=id z;refine h { s with heap:=h' } ⟨I.ok,I.os,I.bare,⟨fun b o e n hb O=>?_,fun b o e n hb O=>?_,I.base.free,fun b o e O=>?_,I.base.tups,I.base.frzs,I.base.tbls⟩,⟨m,hn.sameBut B (Ne.symm (cne x c J)),fun j y v' G Y e3=>?_⟩,fun y c' e=>?_,I.free,I.freeC,fun p hp=>?_,tracked ⟨oc,hoc,I.freeC x c J⟩ B,by simpa using I.len⟩ ⟨c,B,.inr J⟩
  ·exact(B.2 b (zG (qJ (Heap.lt_size e) (I.ok.cab x c hfn J)))).trans (I.base.keep b o e n hb O)
  ·obtain⟨sl,G⟩:=I.base.slot b o e n hb O;exact⟨sl,(B.2 b (zG (qJ (Heap.lt_size e) (I.ok.cab x c hfn J)))).trans G⟩
  ·obtain⟨o',G⟩:=I.base.there b o e O;exact⟨o',(B.2 b (zG (qJ (Heap.lt_size e) (I.ok.cab x c hfn J)))).trans G⟩
  ·by_cases hj:j=i
   ·subst hj;rw[hi]at G;cases G
    rw[List.getElem?_set_self hiσ]at Y;cases Y
    exact⟨u,r,.inr ⟨.inl hk,c,J,hc'⟩⟩
   ·rw[List.getElem?_set_ne (Ne.symm hj)]at Y;obtain⟨u',r',q⟩:=hl j y v' G Y e3;refine⟨u',r',?_⟩;rcases q with q|⟨k,c',e,z'⟩
    ·exact .inl q
    ·refine .inr ⟨k,c',e,z'.sameBut B ?_⟩;rintro rfl;exact hj (nodup_ix hN G (I.ok.inj _ _ _ e J ▸ hi))
  ·by_cases hcc:c'=c
   ·subst hcc;exact⟨_,hc'⟩
   ·obtain⟨w2,z2⟩:=I.cell y c' e;exact⟨w2,z2.sameBut B hcc⟩
  ·obtain⟨e,n,ne,nf,d⟩:=I.pin p hp;refine⟨(B.2 p.1 ?_).trans e,n,ne,nf,d⟩;intro q;rw[q,hoc]at e;have q':oc=p.2:=Option.some.inj e;exact d w' (by rw[<-q'];exact hocd)
theorem store_ok {M:Model}{A:Around}{E:Value->Shared->Prop}{i:Nat}{x:Str}{v:V}{u:Value}{Q:Unit->Shared->Prop}(I:Inv X pins σ H s)(G:X.N.Nodup)(U:X.N[i]? = some x)(B:Loc X.env.scope x)(r:RelV v u)
  (h:∀z,Inv X pins (σ.set i (some v)) H z->Q () z) (O:X.fn x=true\/X.env.scope.names.lookup x=some .local:=by first|exact .inl rfl|exact .inr rfl|assumption):wpAny M A (storeName X.env x u) Q E s :=
 store_ok2 I G U B r (fun z J _=>h z J) O
theorem Inv.call' {s':Shared}{ch:List Addr}(I:Inv X pins σ H s)(M:s'.os=s.os)(u:Un (frs X.stack) ch H H' s.heap s'.heap)(hok:HOk X.prog X.w H' s'.heap)(O:AllBare s'.gens)
  (z:∀b∈ch,(b∈X.ex\/X.s₀.heap.objs.size<=b)/\b≠X.env.locals/\(∀x c,X.env.cells.lookup x=some c->c≠b)/\∀p∈X.pn++pins,p.1≠b):Inv X pins σ H' s':=by
 obtain⟨h',G,J,B,U⟩:=s';have e:U=s.os:=M;subst e;exact I.call (g':=G) (t':=B) (d':=J) u hok O z
end
abbrev XK:=Value->Option Addr->Hp->Prop
abbrev St:=List (Option V)
abbrev VK:=V->Hp->Prop
abbrev TE:=St->Hp->VK->Prop
abbrev TT:=St->Hp->(Bool->Hp->Prop)->Prop
abbrev TA:=St->Hp->(List V->Hp->Prop)->Prop
structure Ends where
 nx:St->Hp->Prop
 rt:VK
 bk:St->Hp->Prop:=fun _ _=>False
 ct:St->Hp->Prop:=fun _ _=>False
abbrev TS:=Ends->St->Hp->Prop
def EP (X:Cx)(pins:List (Addr×Obj))(B:St)(Q:VK)(u:Value)(s':Shared):Prop:=∃v z,Inv X pins B z s'/\RelV v u/\Q v z
def TP (X:Cx)(pins:List (Addr×Obj))(B:St)(Q:Bool->Hp->Prop)(b:Bool)(s':Shared):Prop:=∃z,Inv X pins B z s'/\Q b z
def AP (X:Cx)(pins:List (Addr×Obj))(G:St)(Q:List V->Hp->Prop)(us:List Value)(s':Shared):Prop:=∃B z,Inv X pins G z s'/\Vals B us/\Q B z
def SP (X:Cx)(pins:List (Addr×Obj))(D:Ends)(f:Flow)(s':Shared):Prop :=
 match f with
 |.next=>∃z B,Inv X pins z B s'/\D.nx z B
 |.brk=>∃z B,Inv X pins z B s'/\D.bk z B
 |.cont=>∃z B,Inv X pins z B s'/\D.ct z B
 |.ret u=>∃v z B,Inv X pins z B s'/\RelV v u/\D.rt v B
def PE (X:Cx)(e:Expr)(t:TE):Prop :=
 ∀(pins:List (Addr×Obj)) (s:Shared) (z:St) (H:Hp) (Q:VK),Inv X pins z H s->t z H Q->wpAny (model X.prog X.w) X.A (eval e X.env) (EP X pins z Q) X.xe s
def PT (X:Cx)(e:Expr)(t:TT):Prop :=
 ∀(pins:List (Addr×Obj)) (s:Shared) (z:St) (H:Hp) (Q:Bool->Hp->Prop),Inv X pins z H s->t z H Q->wpAny (model X.prog X.w) X.A (isTrue e X.env (eval e X.env)) (TP X pins z Q) X.xe s
def PW (X:Cx)(e:Expr)(t:TT):Prop :=
 ∀(whole:Sem Value) (pins:List (Addr×Obj)) (s:Shared) (z:St) (H:Hp) (Q:Bool->Hp->Prop),Inv X pins z H s->t z H Q->wpAny (model X.prog X.w) X.A (isTrue e X.env whole) (TP X pins z Q) X.xe s
theorem PW.pt {X:Cx}{e:Expr}{t:TT}(h:PW X e t):PT X e t:=h _
def PA (X:Cx)(es:List Expr)(t:TA):Prop :=
 ∀(pos:Pos) (pins:List (Addr×Obj)) (s:Shared) (z:St) (H:Hp) (Q:List V->Hp->Prop),Inv X pins z H s->t z H Q->wpAny (model X.prog X.w) X.A (spliced (backTo pos (starEach es X.env))) (AP X pins z Q) X.xe s
def PS (X:Cx)(st:Stmt)(t:TS):Prop :=
 ∀(pins:List (Addr×Obj)) (s:Shared) (z:St) (H:Hp) (D:Ends),Inv X pins z H s->t D z H->wpAny (model X.prog X.w) X.A (exec st X.env) (SP X pins D) X.xe s
def PSs (X:Cx)(st:List Stmt)(t:TS):Prop :=
 ∀(pins:List (Addr×Obj)) (s:Shared) (z:St) (H:Hp) (D:Ends),Inv X pins z H s->t D z H->wpAny (model X.prog X.w) X.A (execs st X.env) (SP X pins D) X.xe s
theorem thn {B:Type}{t:Sem B}{Q z:B->Shared->Prop}{M:Model}{A:Around}{E:Value->Shared->Prop}{s:Shared}(h:wpAny M A t Q E s)(G:∀a s,Q a s->z a s):wpAny M A t z E s:=wpAny_mono h G fun _ _ x=>x
section
variable {X:Cx}
def tVar (i:Nat):TE:=fun z H Q=>∃v,z[i]? = some (some v)/\Q v H
def tC (v:V):TE:=fun _ H Q=>Q v H
theorem pe_var {i:Nat} {x:Str} {pos:Pos} (Y:X.N[i]? = some x) (hv:Vis X.env.scope x) (G:(x==("__debug__" : Str))=false:=by decide) (J:(x==("__classdict__" : Str))=false:=by decide):PE X (.Name x pos) (tVar i):=by
 intro pins s U H Q I h;obtain⟨v,e,h⟩:=h;obtain⟨m,O,hl⟩:=I.loc;obtain⟨u,r,l⟩:=hl i x v Y e hv;have fin:EP X pins U Q u s:=⟨v,H,I,r,h⟩;rcases l with⟨B,hm⟩|⟨B,c,M,z⟩
 ·exact wpAny_Name (wpAny_loadName_local I.ok.kind B O hm fin) G
 ·rcases B with B|B
  ·exact wpAny_Name (wpAny_loadName_cell I.ok.kind B M z fin) G
  ·exact wpAny_Name (wpAny_loadName_free I.ok.kind B M z fin J) G
theorem pe_int {i j pos}:PE X (.Constant (.int i) j pos) (tC (.int i)):=fun _ _ _ H _ I h=>wpAny_Constant_int ⟨.int i,H,I.tok _,⟨_,rfl⟩,h⟩
theorem pe_bl {b j pos}:PE X (.Constant (.bool b) j pos) (tC (.bl b)):=fun _ _ _ H _ I h=>Constant_bool ⟨.bl b,H,I,rfl,h⟩
theorem pe_non {j pos}:PE X (.Constant .none j pos) (tC .non):=fun _ _ _ H _ I h=>Constant_none ⟨.non,H,I,rfl,h⟩
theorem xf {x j pos}:PE X (.Constant (.str x) j pos) (tC (.str x)):=fun _ _ _ H _ I h=>Calls.Constant_str ⟨.str x,H,I.tok _,⟨_,rfl⟩,h⟩
def Gl (X:Cx)(x:Str):Prop:=X.env.kindOf x=some .globalImplicit
theorem ld_glob {E:Value->Shared->Prop}{pins:List (Addr×Obj)}{s:Shared}{z:St}{H:Hp}{x:Str}{u:Value}{pos:Pos}{Q:Value->Shared->Prop}(I:Inv X pins z H s)(G:Gl X x)(J:X.mg x=some u)(h:Q u s)
  (B:(x==("__debug__" : Str))=false:=by decide):wpAny (model X.prog X.w) X.A (eval (.Name x pos) X.env) Q E s :=
 Calls.Name_function_global I.ok.kind G (Calls.loadGlobal_global (by rw[I.ok.glob];exact I.mod.glob.keeps I.bk) J h) B
theorem JO {E:Value->Shared->Prop}{pins:List (Addr×Obj)}{s:Shared}{M:St}{H:Hp}{x:Str}{u:Value}{pos:Pos}{Q:Value->Shared->Prop}(I:Inv X pins M H s)(G:Gl X x)(U:X.mg x=none)(O:bootBuiltins x=some u)(h:Q u s)
  (J:x ≠ "__name__":=by decide) (z:(x==("__debug__" : Str))=false:=by decide):wpAny (model X.prog X.w) X.A (eval (.Name x pos) X.env) Q E s:=by
 obtain⟨mb,Y,B⟩:=I.mod.blt;exact Calls.Name_function_global I.ok.kind G (Calls.loadGlobal_builtin (by rw[I.ok.glob];exact I.mod.glob.keeps I.bk) U (by rw[I.ok.blt];exact Y.keeps I.bk) ((B x J).trans O) h) z
theorem JD {x:Str} {v:V} {u:Value} {pos:Pos} (B:Gl X x) (G:X.mg x=some u) (r:RelV v u) (z:(x==("__debug__" : Str))=false:=by decide):PE X (.Name x pos) (tC v) :=
 fun _ _ _ H _ I h=>ld_glob I B G ⟨v,H,I,r,h⟩ z
theorem JZ {x:Str} {v:V} {u:Value} {pos:Pos} (B:Gl X x) (J:X.mg x=none) (G:bootBuiltins x=some u) (r:RelV v u) (M:x ≠ "__name__":=by decide) (z:(x==("__debug__" : Str))=false:=by decide):PE X (.Name x pos) (tC v) :=
 fun _ _ _ H _ I h=>JO I B J G ⟨v,H,I,r,h⟩ M z
variable {a b:Expr}{ta tb:TE}{pos:Pos}
def PC (X:Cx)(J:CmpOp)(a b:Expr)(t:TE):Prop :=
 ∀(pins:List (Addr×Obj)) (s:Shared) (G:St) (H:Hp) (Q:VK),Inv X pins G H s->t G H Q ->
  wpAny (model X.prog X.w) X.A (eval a X.env) (fun v z=>wpAny (model X.prog X.w) X.A (eval b X.env) (fun u B=>wpAny (model X.prog X.w) X.A (compareOp J v u) (EP X pins G Q) X.xe B) X.xe z) X.xe s
theorem jt (b:Expr){z:CmpOp}(h:z≠.In)(H:z≠.NotIn):behindInMarks z b=false:=by
 have B:(z==CmpOp.In)=false:=by cases z<;>first|rfl|exact absurd rfl h
 have G:(z==CmpOp.NotIn)=false:=by cases z<;>first|rfl|exact absurd rfl H
 cases b<;>simp[behindInMarks,B,G]
def tIsN (ta:TE):TE:=fun z H Q=>ta z H fun x B=>Q (.bl (decide (x=.non))) B
def tNotN (ta:TE):TE:=fun z H Q=>ta z H fun x B=>Q (.bl (!decide (x=.non))) B
theorem RelV.none_iff {x:V}{v:Value}(r:RelV x v):(v==Value.none)=decide (x=.non):=by
 cases x with
 |non=>cases r;rfl
 |bl _=>cases r;rfl
 |int _=>obtain⟨t,rfl⟩:=r;rfl
 |str _=>obtain⟨t,rfl⟩:=r;rfl
 |byt _=>obtain⟨t,rfl⟩:=r;rfl
 |flt _=>obtain⟨t,rfl⟩:=r;rfl
 |ref _=>cases r;rfl
 |ty _=>cases r;rfl
theorem pc_isN {j pos'}(O:PE X a ta):PC X .Is a (.Constant .none j pos') (tIsN ta):=by
 intro pins s z H Q I h;refine thn (O pins s z H _ I h) fun v U ⟨x,G,B,M,J⟩=>?_;exact Constant_none (is_none_gen ⟨.bl _,G,B,by rw[M.none_iff];rfl,J⟩)
theorem pc_notN {j pos'}(O:PE X a ta):PC X .IsNot a (.Constant .none j pos') (tNotN ta):=by
 intro pins s z H Q I h;refine thn (O pins s z H _ I h) fun v U ⟨x,G,B,M,J⟩=>?_;exact Constant_none (isnot_none_gen ⟨.bl _,G,B,by rw[M.none_iff];rfl,J⟩)
def tB (t:TE):TT:=fun z H Q=>t z H fun x B=>∃c,x=.bl c/\Q c B
theorem pe_cmp {z:CmpOp}{t:TE}(h:PC X z a b t)(J:behindInMarks z b=false:=by first|exact jt _ (by decide) (by decide)|rfl):PE X (.Compare a [z] [b] pos) t:=fun pins s B H Q I G=>wpAny_Compare1 (h pins s B H Q I G) J
theorem pt_cmp {z:CmpOp}{t:TE}(h:PC X z a b t)(B:behindInMarks z b=false:=by first|exact jt _ (by decide) (by decide)|rfl):PT X (.Compare a [z] [b] pos) (tB t):=by
 intro pins s O H Q I J;refine wpAny_isTrue_Compare1 (thn (h pins s O H _ I J) fun v s1 B=>thn B fun u s2 G=>thn G fun c s3 ⟨x,M,U,r1,Y⟩=>?_) B;obtain⟨d,rfl,q⟩:=Y;cases r1
 exact wpAny_truthy_bool ⟨M,U,q⟩
theorem pt_val {e:Expr}{t:TE}(h:PE X e t)(z:∀whole,isTrue e X.env whole=(do let v ← whole;standAt e.pos;holding [v] (truthy v)):=by intro _;rfl):PT X e (tB t):=by
 intro pins s J H Q I B;refine isTrue_plain (thn (h pins s J H _ I B) fun v Y ⟨x,G,M,U,O⟩=>?_) (z _);obtain⟨d,rfl,q⟩:=O;cases U
 exact wpAny_truthy_bool ⟨G,M,q⟩
variable {tA tB':TT}{rest:List Expr}
def tAnd (t u:TT):TT:=fun z H Q=>t z H fun c B=>if c=true then u z B Q else Q false B
def tOr (t u:TT):TT:=fun z H Q=>t z H fun c B=>if c=true then Q true B else u z B Q
def tNot (t:TT):TT:=fun z H Q=>t z H fun c B=>Q (!c) B
theorem Ja (B:PT X a tA):PW X (.BoolOp .And [a] pos) tA:=by
 intro J pins s z H Q I h;refine isTrue_and (thn (B pins s z H Q I h) fun c G e=>?_);cases c with
 |true=>exact isTrue_and_nil e
 |false=>exact e
theorem pw_or1 (B:PT X a tA):PW X (.BoolOp .Or [a] pos) tA:=by
 intro J pins s z H Q I h;refine isTrue_or (thn (B pins s z H Q I h) fun c G e=>?_);cases c with
 |false=>exact isTrue_or_nil e
 |true=>exact e
theorem pw_and (Y:PT X a tA)(M:PW X (.BoolOp .And (b::rest) pos) tB'):PW X (.BoolOp .And (a::b::rest) pos) (tAnd tA tB'):=by
 intro U pins s B H Q I h;refine isTrue_and (thn (Y pins s B H _ I h) fun c O ⟨z,G,J⟩=>?_);cases c with
 |true=>exact M U pins O B z Q G J
 |false=>exact⟨z,G,J⟩
theorem pw_or (Y:PT X a tA)(M:PW X (.BoolOp .Or (b::rest) pos) tB'):PW X (.BoolOp .Or (a::b::rest) pos) (tOr tA tB'):=by
 intro U pins s B H Q I h;refine isTrue_or (thn (Y pins s B H _ I h) fun c O ⟨z,G,J⟩=>?_);cases c with
 |true=>exact⟨z,G,J⟩
 |false=>exact M U pins O B z Q G J
theorem pt_not (G:PT X a tA):PT X (.UnaryOp .Not a pos) (tNot tA):=by
 intro pins s z H Q I h;exact isTrue_not (G pins s z H (fun c B=>Q (!c) B) I h)
def tAndV (ta tb:TE):TE:=fun z H Q=>ta z H fun x B=>∃c,x=.bl c/\if c=true then tb z B Q else Q (.bl false) B
def tOrV (ta tb:TE):TE:=fun z H Q=>ta z H fun x B=>∃c,x=.bl c/\if c=true then Q (.bl true) B else tb z B Q
def tNotV (ta:TE):TE:=fun z H Q=>ta z H fun x B=>∃c,x=.bl c/\Q (.bl (!c)) B
theorem jc {op}{t:TE}(h:PE X a t):PE X (.BoolOp op [a] pos) t:=fun pins s z H Q I B=>BoolOp_one (h pins s z H Q I B)
theorem JP (U:PE X a ta)(M:PE X (.BoolOp .And (b::rest) pos) tb):PE X (.BoolOp .And (a::b::rest) pos) (tAndV ta tb):=by
 intro pins s G H Q I h;refine BoolOp_and (thn (U pins s G H _ I h) fun v O ⟨x,B,J,Y,z⟩=>?_);obtain⟨c,rfl,z⟩:=z;cases Y
 refine wpAny_truthy_bool ?_;cases c with
 |true=>exact M pins O G B Q J z
 |false=>exact⟨.bl false,B,J,rfl,z⟩
theorem pe_or (U:PE X a ta)(M:PE X (.BoolOp .Or (b::rest) pos) tb):PE X (.BoolOp .Or (a::b::rest) pos) (tOrV ta tb):=by
 intro pins s G H Q I h;refine BoolOp_or (thn (U pins s G H _ I h) fun v O ⟨x,B,J,Y,z⟩=>?_);obtain⟨c,rfl,z⟩:=z;cases Y
 refine wpAny_truthy_bool ?_;cases c with
 |false=>exact M pins O G B Q J z
 |true=>exact⟨.bl true,B,J,rfl,z⟩
theorem pe_not (O:PE X a ta):PE X (.UnaryOp .Not a pos) (tNotV ta):=by
 intro pins s B H Q I h;refine UnaryOp_ (thn (O pins s B H _ I h) fun v U ⟨x,J,G,M,z⟩=>?_);obtain⟨c,rfl,z⟩:=z;cases M
 exact not_of (wpAny_truthy_bool ⟨.bl (!c),J,G,rfl,z⟩)
def tIf (t:TT)(ta tb:TE):TE:=fun z H Q=>t z H fun c B=>if c=true then ta z B Q else tb z B Q
theorem Jb {c:Expr}(U:PT X c tA)(Y:PE X a ta)(O:PE X b tb):PE X (.IfExp c a b pos) (tIf tA ta tb):=by
 intro pins s z H Q I h;refine wpAny_IfExp (thn (U pins s z H _ I h) fun d B ⟨J,G,M⟩=>?_);cases d with
 |true=>exact Y pins B z J Q G M
 |false=>exact O pins B z J Q G M
end
def SqL (K:zA)(H:Hp)(a:Addr)(xs:List V):Prop :=
 Rd H a (.lst xs) \/
  ∃(o:Obj) (z:Array Value) (n:Nat),K.lookup a=some o/\o.cls=.type "list" /\ o.dict=none/\o.data=.seq z n/\z.size<=sizeLine/\Vals xs z.toList
def SqT (K:zA)(H:Hp)(a:Addr)(xs:List V):Prop :=
 Rd H a (.tup xs) \/
  ∃(o:Obj) (z:Array Value) (n:Nat),K.lookup a=some o/\o.cls=.type "tuple" /\ o.data=.seq z n/\z.size<=sizeLine/\Vals xs z.toList
def absV:Value->Option V
 |.none=>some .non
 |.bool b=>some (.bl b)
 |.int i _=>some (.int i)
 |.str x _=>some (.str x)
 |.bytes b _=>some (.byt b)
 |.float b _=>some (.flt b)
 |.ref a=>some (.ref a)
 |.type n=>some (.ty n)
 |_=>none
theorem RelV.abs {x:V}{u:Value}(r:RelV x u):absV u=some x:=by
 cases x with
 |non=>cases r;rfl
 |bl _=>cases r;rfl
 |int _=>obtain⟨t,rfl⟩:=r;rfl
 |str _=>obtain⟨t,rfl⟩:=r;rfl
 |byt _=>obtain⟨t,rfl⟩:=r;rfl
 |flt _=>obtain⟨t,rfl⟩:=r;rfl
 |ref _=>cases r;rfl
 |ty _=>cases r;rfl
theorem RelV.inj {x y:V}{u:Value}(r:RelV x u)(q:RelV y u):x=y:=Option.some.inj (r.abs.symm.trans q.abs)
theorem Vals.inj:∀{xs z:List V} {us:List Value},Vals xs us->Vals z us->xs=z
 |_,_,_,.nil,.nil=>rfl
 |_,_,_,.cons r t,.cons G B=>by rw[r.inj G,Vals.inj t B]
section
variable {X:Cx}{pins:List (Addr×Obj)}{σ:St}{H:Hp}{s:Shared}{a:Addr}{xs ys:List V}
theorem SqL.of {K:zA}(h:H a=some (.lst xs)):SqL K H a xs:=.inl (.inl h)
theorem SqT.of {K:zA}(h:H a=some (.tup xs)):SqT K H a xs:=.inl (.inl h)
theorem Inv.list (I:Inv X pins σ H s)(h:SqL X.K H a xs):∃B:List Value,Vals xs B/\PlainL s.heap a B.toArray/\xs.length<=sizeLine:=by
 rcases h with h|⟨o,B,n,M,J,G,O,U,r⟩
 ·obtain⟨z,B,n,r,e⟩:=h.ok I.hok;exact⟨B,r,⟨_,n,e,rfl,rfl,rfl⟩,z⟩
 ·refine⟨B.toList,r,⟨o,n,I.kIn a o M,J,G,by simpa using O⟩,?_⟩;have e:=r.length;simp only[zD]at e;omega
theorem Inv.tuple (I:Inv X pins σ H s)(h:SqT X.K H a xs):∃B:List Value,Vals xs B/\IsTup s.heap a B.toArray/\xs.length<=sizeLine:=by
 rcases h with h|⟨o,B,n,M,J,G,O,r⟩
 ·obtain⟨z,B,r,p⟩:=h.ok I.hok;exact⟨B,r,p,z⟩
 ·refine⟨B.toList,r,⟨o,I.kIn a o M,J,n,by simpa using G⟩,?_⟩;have e:=r.length;simp only[zD]at e;omega
theorem Inv.list_inj (I:Inv X pins σ H s)(h:SqL X.K H a xs)(h':SqL X.K H a ys):xs=ys:=by
 obtain⟨B,r,⟨o,n,e,_,_,d⟩,_⟩:=I.list h;obtain⟨z,M,⟨U,O,G,_,_,J⟩,_⟩:=I.list h';rw[e]at G;cases G
 rw[d]at J;injection J with d1 _
 have:B=z:=by simpa using congrArg Array.toList d1
 subst this;exact r.inj M
theorem Inv.tuple_inj (I:Inv X pins σ H s)(h:SqT X.K H a xs)(h':SqT X.K H a ys):xs=ys:=by
 obtain⟨B,r,⟨o,e,_,n,d⟩,_⟩:=I.tuple h;obtain⟨z,M,⟨U,G,_,O,J⟩,_⟩:=I.tuple h';rw[e]at G;cases G
 rw[d]at J;injection J with d1 _
 have:B=z:=by simpa using congrArg Array.toList d1
 subst this;exact r.inj M
end
abbrev Cx.wish (X:Cx) (E:Value->Shared->Prop):Cx:={ X with xe:=E }
abbrev Cx.nox (X:Cx):Cx:=X.wish fun _ _=>False
theorem Cx.Ok.wish {X:Cx}(ok:X.Ok)(E:Value->Shared->Prop):(X.wish E).Ok :=
 ⟨ok.mod,ok.kind,ok.glob,ok.blt,ok.above,ok.inj,ok.has,ok.cab,ok.hd,ok.frames,ok.stk,ok.exf,ok.bs,ok.bsz,ok.noex,ok.exfs,ok.funs,ok.frf⟩
theorem Cx.Ok.unwish {X:Cx}{E:Value->Shared->Prop}(ok:(X.wish E).Ok):X.Ok :=
 ⟨ok.mod,ok.kind,ok.glob,ok.blt,ok.above,ok.inj,ok.has,ok.cab,ok.hd,ok.frames,ok.stk,ok.exf,ok.bs,ok.bsz,ok.noex,ok.exfs,ok.funs,ok.frf⟩
section
variable {X:Cx}{pins:List (Addr×Obj)}{σ:St}{H:Hp}{s:Shared}{E:Value->Shared->Prop}
theorem Inv.wish (I:Inv X pins σ H s)(E:Value->Shared->Prop):Inv (X.wish E) pins σ H s:=⟨I.ok.wish E,I.os,I.bare,I.base,I.loc,I.cell,I.free,I.freeC,I.pin,I.hok,I.len⟩
theorem Inv.unwish (I:Inv (X.wish E) pins σ H s):Inv X pins σ H s:=⟨I.ok.unwish,I.os,I.bare,I.base,I.loc,I.cell,I.free,I.freeC,I.pin,I.hok,I.len⟩
theorem SP.unwish {D:Ends}{f:Flow}{s':Shared}(h:SP (X.wish E) pins D f s'):SP X pins D f s':=by
 cases f with
 |next=>obtain⟨z,B,I,q⟩:=h;exact⟨z,B,I.unwish,q⟩
 |brk=>obtain⟨z,B,I,q⟩:=h;exact⟨z,B,I.unwish,q⟩
 |cont=>obtain⟨z,B,I,q⟩:=h;exact⟨z,B,I.unwish,q⟩
 |ret u=>obtain⟨v,z,B,I,r,q⟩:=h;exact⟨v,z,B,I.unwish,r,q⟩
theorem PSs.nox {st:List Stmt}{t:TS}(h:PSs X.nox st t):PSs X st t:=fun pins s σ H D I B =>
 wpAny_mono (h pins s σ H D (I.wish _) B) (fun _ _ q=>q.unwish) fun _ _ z=>False.elim z
end
section
variable {X:Cx}{st:Stmt}{rest:List Stmt}{t u:TS}{e:Expr}{te:TE}{pos:Pos}
def tNext:TS:=fun D z H=>D.nx z H
def tSeq (t u:TS):TS:=fun D z H=>t { D with nx:=u D } z H
theorem pss_nil:PSs X [] tNext:=fun _ _ z H _ I h=>wpAny_execs_nil ⟨z,H,I,h⟩
theorem pss_cons (U:PS X st t)(B:PSs X rest u):PSs X (st::rest) (tSeq t u):=by
 intro pins s J H D I h;refine wpAny_execs_cons (thn (U pins s J H { D with nx:=u D } I h) fun f G q=>?_);cases f with
 |next =>
  obtain⟨z,M,O,q⟩:=q;exact B pins G z M D O q
 |ret v=>exact q
 |brk=>exact q
 |cont=>exact q
theorem pss_one (B:PS X st t):PSs X [st] t:=by
 intro pins s z H D I h;refine wpAny_execs_cons (thn (B pins s z H D I h) fun f G q=>?_);cases f with
 |next=>exact wpAny_execs_nil q
 |ret v=>exact q
 |brk=>exact q
 |cont=>exact q
def tBreak:TS:=fun D z H=>D.bk z H
def tCont:TS:=fun D z H=>D.ct z H
theorem Inv.quiet {pins:List (Addr×Obj)}{z:St}{H:Hp}{s:Shared}(I:Inv X pins z H s):interactive X.env=false:=by simp[interactive,I.ok.kind]
def tDrop (te:TE):TS:=fun D z H=>te z H fun _ B=>D.nx z B
theorem ps_expr (B:PE X e te)(G:swapsWith e none pos.line X.env=pure false:=by rfl):PS X (.Expr e pos) (tDrop te):=by
 intro pins s z H D I h;exact wpAny_Expr_any (thn (B pins s z H _ I h) fun v U ⟨x,M,J,Y,O⟩=>⟨z,M,J,O⟩) I.quiet G
def tRet (te:TE):TS:=fun D z H=>te z H D.rt
theorem ps_ret (B:PE X e te):PS X (.Return (some e) pos) (tRet te):=by
 intro pins s z H D I h;exact wpAny_Return_some (thn (B pins s z H _ I h) fun v U ⟨x,J,G,O,M⟩=>⟨x,z,J,G,O,M⟩)
def tRetN:TS:=fun D _ H=>D.rt .non H
def tIfS (c:TT)(t u:TS):TS:=fun D z H=>c z H fun b B=>if b=true then t D z B else u D z B
theorem ps_if {c:Expr}{a b:List Stmt}{J:TT}(Y:PT X c J)(ha:PSs X a t)(U:PSs X b u):PS X (.If c a b pos) (tIfS J t u):=by
 intro pins s z H D I h;refine wpAny_If (thn (Y pins s z H _ I h) fun d B ⟨G,M,O⟩=>?_);cases d with
 |true=>exact ha pins B z G D M O
 |false=>exact U pins B z G D M O
end
abbrev TG:=V->St->Hp->(St->Hp->Prop)->Prop
abbrev TGs:=List V->St->Hp->(St->Hp->Prop)->Prop
def PG (X:Cx)(target:Expr)(t:TG):Prop :=
 ∀(pins:List (Addr×Obj)) (s:Shared) (B:St) (H:Hp) (v:V) (u:Value) (Q:St->Hp->Prop),Inv X pins B H s->RelV v u->t v B H Q ->
  wpAny (model X.prog X.w) X.A (assign target X.env u) (fun _ J=>∃z G,Inv X pins z G J/\Q z G) X.xe s
def PGs (X:Cx)(U:List Expr)(t:TGs):Prop :=
 ∀(pins:List (Addr×Obj)) (s:Shared) (G:St) (H:Hp) (M:List V) (B:List Value) (Q:St->Hp->Prop),Inv X pins G H s->Vals M B->t M G H Q ->
  wpAny (model X.prog X.w) X.A (assignInOrder ((assignEach U X.env).map (·.2)) B) (fun _ O=>∃z J,Inv X pins z J O/\Q z J) X.xe s
abbrev TSet:=V->V->V->Hp->(Hp->Prop)->Prop
def PSet (X:Cx)(t:TSet):Prop :=
 ∀(pins:List (Addr×Obj)) (s:Shared) (z:St) (H:Hp) (o i v:V) (J G u:Value) (Q:Hp->Prop),Inv X pins z H s->RelV o J->RelV i G->RelV v u->t o i v H Q ->
  wpAny (model X.prog X.w) X.A (setItem J G u) (fun _ M=>∃B,Inv X pins z B M/\Q B) X.xe s
abbrev TIp:=V->V->Hp->VK->Prop
section
variable {X:Cx}{pos:Pos}
def xF (i:Nat):TG:=fun v z H Q=>Q (z.set i (some v)) H
theorem zY {i:Nat}{x:Str}(B:X.N.Nodup)(M:X.N[i]? = some x)(z:Loc X.env.scope x)(J:X.fn x=true\/X.env.scope.names.lookup x=some .local:=by first|exact .inl rfl|exact .inr rfl|assumption):PG X (.Name x pos) (xF i):=by
 intro pins s U H v u Q I r h;exact wpAny_assign_Name (store_ok I B M z r (fun O G=>⟨_,H,G,h⟩) J)
def gNil:TGs:=fun B z H Q=>B=[]/\Q z H
def gCons (t:TG)(u:TGs):TGs:=fun J B H Q=>∃v r,J=v::r/\t v B H fun z G=>u r z G Q
theorem pgs_nil:PGs X [] gNil:=by
 intro pins s z H G B Q I r h;obtain⟨e,h⟩:=h;subst e;cases r
 exact assignInOrder_nil ⟨z,H,I,h⟩
theorem xu {e:Expr}{es:List Expr}{t:TG}{u:TGs}(h1:PG X e t)(G:PGs X es u)
  (Y:(assignEach (e::es) X.env).map (·.2)=assign e X.env::(assignEach es X.env).map (·.2):=by rfl):PGs X (e::es) (gCons t u):=by
 intro pins s U H vs us Q I r h;obtain⟨v,vr,M,h⟩:=h;subst M;cases r with
 |cons r B =>
  rw[Y];refine assignInOrder_cons (thn (h1 pins s U H _ _ _ I r h) fun _ J ⟨z,O,I1,q1⟩=>?_);exact G pins J z O _ _ Q I1 B q1
def gTup (K:zA)(n:Nat)(t:TGs):TG:=fun v B H Q=>∃a z,v=.ref a/\SqT K H a z/\z.length=n/\t z B H Q
theorem pg_tup {es:List Expr}{k:Nat}{t:TGs}{n:Nat}(U:X.calm=true)(h:PGs X es t)
  (Y:(assignEach es X.env).length=n:=by rfl) (z:(assignEach es X.env).findIdx? (·.1)=none:=by rfl):PG X (.Tuple es k pos) (gTup X.K n t):=by
 intro pins s J H v u Q I r B;obtain⟨a,xs,e1,M,hl,B⟩:=B;subst e1;cases r
 obtain⟨its,G,ht,hz⟩:=I.tuple M;refine assign_Tuple_tuple (I.ok.hd U) ht (by simp[Y,<-hl,G.length]) z fun O hx=>?_;have I1:Inv X pins J H { s with heap:=O }:=I.kept (t':=s.toks) fun b o e=>hx b o (zG (Heap.lt_size e)) e;exact h pins _ J H xs _ Q I1 (by simpa using G) B
def gSub (G M:TE)(t:TSet):TG:=fun v z H Q=>G z H fun o J=>M z J fun i O=>t o i v O fun B=>Q z B
theorem pg_sub {o i:Expr}{J M:TE}{t:TSet}(ho:PE X o J)(hi:PE X i M)(hs:PSet X t)
  (ha:∀v,assign (.Subscript o i pos) X.env v=(do
   let z ← holding [v] (eval o X.env)
   let B ← holding [v,z] (eval i X.env)
   standAt pos
   holding [v,z,B] (setItem z B v)
   release [v,z,B] []):=by intro _;rfl):PG X (.Subscript o i pos) (gSub J M t):=by
 intro pins s G H v u Q I r h;rw[ha];refine wpAny_bind (wpAny_holding (thn (ho pins s G H _ I h) fun z s1 ⟨x,H1,I1,r1,q1⟩=>?_));refine wpAny_bind (wpAny_holding (thn (hi pins s1 G H1 _ I1 q1) fun B s2 ⟨y,H2,I2,r2,O⟩=>?_));refine wpAny_bind (wpAny_standAt (wpAny_bind (wpAny_holding (thn (hs pins s2 G H2 x y v z B u _ I2 r1 r2 r O) fun _ s3 ⟨H3,Y,U⟩=>?_))));exact wpAny_release ⟨G,H3,Y,U⟩
def tAsg (B:TE)(g:TG):TS:=fun D z H=>B z H fun x G=>g x z G D.nx
theorem ps_asg {z e:Expr}{B:TE}{g:TG}(M:PE X e B)(J:PG X z g)(hs:swapsWithSole [z] e pos.line X.env=pure false:=by rfl)(U:swappedStores [z] e X.env=pure none:=by rfl)
  (h1:(assignEach [z] X.env).map (·.2)=[assign z X.env]:=by rfl):PS X (.Assign [z] e pos) (tAsg B g):=by
 intro pins s G H D I h;refine wpAny_Assign_stores (thn (M pins s G H _ I h) fun v O ⟨x,Y,I1,r1,q1⟩=>?_) hs U;rw[h1];exact thn (J pins O G Y x v _ I1 r1 q1) fun _ s2 q=>q
theorem ps_set {i:Nat}{x:Str}{e:Expr}{z:TE}{pos':Pos}(U:X.N.Nodup)(hi:X.N[i]? = some x)(M:Loc X.env.scope x)(B:PE X e z)(hs:swapsWith e (some (.Name x pos')) pos.line X.env=pure false:=by rfl)(hf:X.fn x=true\/X.env.scope.names.lookup x=some .local:=by first|exact .inl rfl|exact .inr rfl|assumption) :
  PS X (.Assign [.Name x pos'] e pos) (tAsg z (xF i)):=by
 intro pins s O H D I h;refine wpAny_Assign_Name (thn (B pins s O H _ I h) fun v s1 ⟨y,G,I1,r1,J⟩=>?_) hs;exact store_ok I1 U hi M r1 (fun s2 Y=>⟨_,G,Y,J⟩) hf
def tAug (i:Nat)(G:TE)(M:TIp):TS:=fun D B H=>∃x,B[i]? = some (some x)/\G B H fun y J=>M x y J fun z O=>D.nx (B.set i (some z)) O
def ipI (f:Int->Int->Int):TIp:=fun x y H Q=>∃i j,x=.int i/\y=.int j/\Q (.int (f i j)) H
end
structure It where
 go:Nat->Hp->Prop
 yld:Nat->Hp->V->Hp->Prop
 stop:Nat->Hp->Prop
def FpOk (X:Cx)(pins:List (Addr×Obj))(H:Hp)(b:Addr):Prop :=
 H b=none/\b≠X.env.locals/\b∉X.fs/\(b∈X.ex\/X.s₀.heap.objs.size<=b)/\(∀x c,X.env.cells.lookup x=some c->c≠b)/\∀p∈X.pn++pins,p.1≠b
theorem Inv.fpOk {X:Cx}{pins:List (Addr×Obj)}{G:St}{H H':Hp}{s:Shared}{b:Addr}(I:Inv X pins G H s)(B:s.heap.objs.size<=b)(J:H' b=none):FpOk X pins H' b:=by
 refine⟨J,xV (qJ I.lt B),I.nofs B,.inr (zR I.sz B),fun x c e z=>?_,fun p M z=>?_⟩
 ·obtain⟨v,q⟩:=I.cell x c e;exact absurd (qJ q.lt (by rw[z];exact B)) (yr _)
 ·exact absurd (qJ (Heap.lt_size (I.pin p M).1) (by rw[z];exact B)) (yr _)
structure Turn (P:Program) (w:World) (K:zA) (tg:Expr) (J:It) (fp:List Addr) (it:Addr) (tn:Nat->Heap->Prop):Prop where
 mem:it∈fp
 obj:∀i h,tn i h->∀b∈fp,∃o,h.get? b=some o/\∀v,o.data≠.cell v
 keep:∀i h h',tn i h->(∀b∈fp,∀o,h.get? b=some o->h'.get? b=some o)->tn i h'
 item:∀(X:Cx),X.prog=P->X.w=w->X.K=K->X.calm=true->∀(i:Nat) (pins:List (Addr×Obj)) (s:Shared) (σ:St) (H:Hp) (E:Value->Shared->Prop),Inv X pins σ H s->(∀b∈fp,FpOk X pins H b)->tn i s.heap->J.go i H ->
  wpAny (model P w) X.A (pyNext (.ref it)) (fun r s1=>∃u,r=some u /\
   wpAny (model P w) X.A (letOwnedTupleGo tg (.ref it) u) (fun _ s2=>∃x H',Inv X pins σ H' s2/\RelV x u/\J.yld i H x H'/\tn (i+1) s2.heap/\∀b∈fp,H' b=none) E s1) E s
 done:∀(X:Cx),X.prog=P->X.w=w->X.K=K->X.calm=true->∀(i:Nat) (pins:List (Addr×Obj)) (s:Shared) (σ:St) (H:Hp) (E:Value->Shared->Prop),Inv X pins σ H s->(∀b∈fp,FpOk X pins H b)->tn i s.heap->J.stop i H ->
  wpAny (model P w) X.A (pyNext (.ref it)) (fun r s1=>r=none/\Inv X pins σ H s1) E s
 self:∀(A:Around) (i:Nat) (s:Shared) (Q:Value->Shared->Prop) (E:Value->Shared->Prop),tn i s.heap->Q (.ref it) s->wpAny (model P w) A (pyIter (.ref it)) Q E s
abbrev TI:=St->Hp->(It->Hp->Prop)->Prop
def PIE (X:Cx)(pins:List (Addr×Obj))(U:St)(Y:Expr)(R:It->Hp->Prop)(z:Value)(O:Shared):Prop :=
 ∃(G:Addr) (H:List Addr) (M:Nat->Heap->Prop) (J:It) (B:Hp),z=.ref G/\Inv X pins U B O/\Turn X.prog X.w X.K Y J H G M/\M 0 O.heap/\(∀b∈H,FpOk X pins B b)/\R J B
def PI (X:Cx)(J iter:Expr)(G:TI):Prop :=
 ∀(pins:List (Addr×Obj)) (s:Shared) (z:St) (H:Hp) (R:It->Hp->Prop),Inv X pins z H s->G z H R ->
  wpAny (model X.prog X.w) X.A (eval iter X.env) (fun v B=>wpAny (model X.prog X.w) X.A (pyIter v) (PIE X pins z J R) X.xe B) X.xe s
theorem go_of {M : Model}{A : Around}{E : Value → Shared → Prop}{s : Shared}{B : Expr}{it : Addr}{u : Value}{o : Obj}{n : String}{vs : Array Value}{Q : Unit → Shared → Prop}(G : s.heap.get? it = some o)(J : o.cls = .type n)(H : o.data = .fields vs)
    (O : ["enumerate", "zip", "dict_itemiterator", "dict_reverseitemiterator", "odict_iterator", "itertools.zip_longest", "itertools.pairwise"].contains n = false) (z : Q () s) : wpAny M A (letOwnedTupleGo B (.ref it) u) Q E s := by
  unfold letOwnedTupleGo
  cases B <;> first
    | exact wpAny_pure z
    | (cases u <;> first
        | exact wpAny_pure z
        | (refine wpAny_bind (wpAny_load G ?_)
           rw [J, H]
           show wpAny M A (if (["enumerate", "zip", "dict_itemiterator", "dict_reverseitemiterator", "odict_iterator", "itertools.zip_longest", "itertools.pairwise"].contains n && vs[0]? == some (rawInt _)) = true then _ else _) Q E s
           rw [if_neg (by intro h; rw [O, Bool.false_and] at h; cases h)]
           exact wpAny_pure z))
def Itl (K:zA)(a:Addr):It :=
 ⟨fun i H=>∃z x,SqL K H a z/\z[i]? = some x,fun i H x B=>B=H/\∀z,SqL K H a z->z[i]? = some x,fun i H=>∃z,SqL K H a z/\z.length<=i⟩
def Itt (K:zA)(a:Addr):It :=
 ⟨fun i H=>∃z x,SqT K H a z/\z[i]? = some x,fun i H x B=>B=H/\∀z,SqT K H a z->z[i]? = some x,fun i H=>∃z,SqT K H a z/\z.length<=i⟩
def Itr (lo:Int)(n:Nat):It:=⟨fun i _=>i<n,fun i H x z=>z=H/\x=.int (lo+i),fun i _=>n<=i⟩
theorem turn_list {P:Program}{w:World}{K:zA}{tg:Expr}(a it:Addr):Turn P w K tg (Itl K a) [it] it (fun i h=>h.IsListIter it a i) where
 mem:=by simp
 obj:=fun i h B b G=>by
  have e:b=it:=by simpa using G
  subst e
  obtain⟨o,e,c,d⟩:=B
  exact⟨o,e,fun v z=>by rw[d]at z;cases z⟩
 keep:=fun i h O B k=>B.at fun o e=>k it (by simp) o e
 item:=by
  intro X hP hw hK hc i pins s σ H E I U B hg;subst hP hw hK;obtain⟨xs,x,M,hx⟩:=hg;obtain⟨its,rv,p,hz⟩:=I.list M;obtain⟨u,hu,ru⟩:=rv.get hx;obtain⟨f0,f1,f2,Y,f4,f5⟩:=U it (by simp);refine wpAny_pyNext_list_item B p.isList (x:=u) (by simpa using hu) fun O J sb=>?_;have I1:Inv X pins σ H { s with heap:=O }:=I.turned (t':=s.toks) (fun b o G e=>(sb.2 b G).trans e) f0 f1 Y f4 f5;obtain⟨o,e,c,d⟩:=id J;exact⟨u,rfl,go_of (s:={ s with heap:=O }) e c d (by decide) ⟨x,H,I1,ru,⟨rfl,fun ys hy=>by rw[I.list_inj hy M];exact hx⟩,J,fun b G=>(U b G).1⟩⟩
 done:=by
  intro X hP hw hK hc i pins s σ H E I U B hg;subst hP hw hK;obtain⟨xs,M,hx⟩:=hg;obtain⟨its,rv,p,hz⟩:=I.list M;obtain⟨f0,f1,f2,Y,f4,f5⟩:=U it (by simp);have hl:=rv.length;exact wpAny_pyNext_list_end (I.ok.hd hc) B p.isList (by simp;omega) fun O eb=>⟨rfl,I.turned (t':=s.toks) (fun b o G e=>eb b o G e) f0 f1 Y f4 f5⟩
 self:=fun _ _ _ _ _ B h=>wpAny_pyIter_listiter B h
theorem turn_tuple {P:Program}{w:World}{K:zA}{tg:Expr}(a it:Addr):Turn P w K tg (Itt K a) [it] it (fun i h=>h.IsTupleIter it a i) where
 mem:=by simp
 obj:=fun i h B b G=>by
  have e:b=it:=by simpa using G
  subst e
  obtain⟨o,e,c,d⟩:=B
  exact⟨o,e,fun v z=>by rw[d]at z;cases z⟩
 keep:=fun i h U B k=>B.at fun o e=>k it (by simp) o e
 item:=by
  intro X hP hw hK hc i pins s σ H E I Y B hg;subst hP hw hK;obtain⟨xs,x,O,hx⟩:=hg;obtain⟨J,rv,p,hz⟩:=I.tuple O;obtain⟨u,hu,ru⟩:=rv.get hx;obtain⟨f0,f1,f2,f3,f4,f5⟩:=Y it (by simp);refine wpAny_pyNext_tuple_item B (show s.heap.IsTuple a J.toArray from p) (x:=u) (by simpa using hu) fun U M sb=>?_;have I1:Inv X pins σ H { s with heap:=U }:=I.turned (t':=s.toks) (fun b o G e=>(sb.2 b G).trans e) f0 f1 f3 f4 f5;obtain⟨o,e,c,d⟩:=id M;exact⟨u,rfl,go_of (s:={ s with heap:=U }) e c d (by decide) ⟨x,H,I1,ru,⟨rfl,fun ys hy=>by rw[I.tuple_inj hy O];exact hx⟩,M,fun b G=>(Y b G).1⟩⟩
 done:=by
  intro X hP hw hK hc i pins s σ H E I Y B hg;subst hP hw hK;obtain⟨xs,O,hx⟩:=hg;obtain⟨J,rv,p,hz⟩:=I.tuple O;obtain⟨f0,f1,f2,f3,f4,f5⟩:=Y it (by simp);have hl:=rv.length;exact wpAny_pyNext_tuple_end (I.ok.hd hc) B (show s.heap.IsTuple a J.toArray from p) (by simp;omega) fun U eb=>⟨rfl,I.turned (t':=s.toks) (fun b o G e=>eb b o G e) f0 f1 f3 f4 f5⟩
 self:=fun _ _ _ _ _ B h=>wpAny_pyIter_tupleiter B h
theorem turn_range {P:Program}{w:World}{K:zA}{tg:Expr}(it:Addr)(lo:Int)(n:Nat):Turn P w K tg (Itr lo n) [it] it (fun i h=>IsRangeIter h it (lo+(i:Nat)*1) ((n:Int)-(i:Nat)) 1) where
 mem:=by simp
 obj:=fun i h B b G=>by
  have e:b=it:=by simpa using G
  subst e
  exact⟨_,B,fun v z=>by
   have z':Data.fields _=Data.cell v:=z
   cases z'⟩
 keep:=fun i h M B k=>k it (by simp) _ B
 item:=by
  intro X hP hw hK hc i pins s σ H E I O B Y;subst hP hw hK;obtain⟨f0,f1,f2,U,f4,f5⟩:=O it (by simp);have W:=Walks.range (prog:=X.prog) (w:=X.w) (I.ok.hd hc) it lo 1 n;refine W.item i s _ _ Y B fun v M tk hv J kk=>?_;obtain⟨t,rfl⟩:=hv;have I1:Inv X pins σ H { s with heap:=M,toks:=tk }:=I.turned (fun b o G e=>kk b o (by simpa using G) e) f0 f1 U f4 f5;refine⟨_,rfl,go_of (s:={ s with heap:=M,toks:=tk }) (n:="range_iterator") J rfl rfl (by decide) ⟨.int (lo+i),H,I1,⟨t,?_⟩,⟨rfl,rfl⟩,J,fun b G=>(O b G).1⟩⟩;rw[yA]
 done:=by
  intro X hP hw hK hc i pins s σ H E I O B Y;subst hP hw hK;obtain⟨f0,f1,f2,U,f4,f5⟩:=O it (by simp);exact wpAny_pyNext_range_end (I.ok.hd hc) B (by have:n<=i:=Y;omega) fun M eb=>⟨rfl,I.turned (t':=s.toks) (fun b o G e=>eb b o G e) f0 f1 U f4 f5⟩
 self:=fun _ _ _ _ _ B h=>wpAny_pyIter_rangeiter B h
section
variable {X:Cx}{tg:Expr}
def iList (K:zA)(tl:TE):TI:=fun B H R=>tl B H fun x z=>∃a,x=.ref a/\(∃G,SqL K z a G)/\R (Itl K a) z
def iTup (K:zA)(tl:TE):TI:=fun B H R=>tl B H fun x z=>∃a,x=.ref a/\(∃G,SqT K z a G)/\R (Itt K a) z
theorem pi_list {l:Expr}{tl:TE}(Y:PE X l tl):PI X tg l (iList X.K tl):=by
 intro pins s O H R I h;refine thn (Y pins s O H _ I h) fun v z ⟨x,M,B,r1,q1⟩=>?_;obtain⟨a,e,⟨xs,J⟩,q⟩:=q1;subst e;cases r1
 obtain⟨U,rv,p,hz⟩:=B.list J;refine wpAny_pyIter_list p.isList ?_;refine⟨z.heap.objs.size,[z.heap.objs.size],_,_,M,rfl,B.kept (t':=z.toks) fun b o e=>Heap.get?_push_of_some _ e,turn_list a _,⟨_,Heap.get?_push_size _ rfl,rfl,rfl⟩,fun b G=>?_,q⟩;have e:b=z.heap.objs.size:=by simpa using G
 subst e;exact B.fpOk (zC _) (B.hok.fresh (zC _))
theorem pi_tup {l:Expr}{tl:TE}(Y:PE X l tl):PI X tg l (iTup X.K tl):=by
 intro pins s U H R I h;refine thn (Y pins s U H _ I h) fun v z ⟨x,O,B,r1,q1⟩=>?_;obtain⟨a,e,⟨xs,M⟩,q⟩:=q1;subst e;cases r1
 obtain⟨G,rv,p,hz⟩:=B.tuple M;refine wpAny_pyIter_tuple (show z.heap.IsTuple a G.toArray from p) ?_;refine⟨z.heap.objs.size,[z.heap.objs.size],_,_,O,rfl,B.kept (t':=z.toks) fun b o e=>Heap.get?_push_of_some _ e,turn_tuple a _,⟨_,Heap.get?_push_size _ rfl,rfl,rfl⟩,fun b J=>?_,q⟩;have e:b=z.heap.objs.size:=by simpa using J
 subst e;exact B.fpOk (zC _) (B.hok.fresh (zC _))
theorem range_it {pins:List (Addr×Obj)}{B:St}{H:Hp}{s:Shared}{R:It->Hp->Prop}{E:Value->Shared->Prop}{lo z:Int}{t u v:Tok}{tk:Nat}(I:Inv X pins B H s)(h1:-(2^62)<=lo)(M:lo<2^62)(Y:-(2^62)<=z)(O:z<2^62)
  (q:R (Itr lo (z-lo).toNat) H):wpAny (model X.prog X.w) X.A (pyIter (.ref s.heap.objs.size)) (PIE X pins B tg R) E { s with heap:=s.heap.push { cls:=.type "range",data:=.fields #[.int lo t,.int z u,.int 1 v] },toks:=tk }:=by
 refine wpAny_pyIter_range (IsRange.new ..) (small_one h1 M Y O) ?_;have G:Inv X pins B H { s with heap:=s.heap.push { cls:=.type "range",data:=.fields #[.int lo t,.int z u,.int 1 v] },toks:=tk }:=I.kept fun b o e=>Heap.get?_push_of_some _ e;refine⟨(s.heap.push { cls:=.type "range",data:=.fields #[.int lo t,.int z u,.int 1 v] }).objs.size,[(s.heap.push { cls:=.type "range",data:=.fields #[.int lo t,.int z u,.int 1 v] }).objs.size],_,_,H,rfl,
  G.kept (t':=tk) fun b o e=>Heap.get?_push_of_some _ e,turn_range _ lo (z-lo).toNat,?_,fun b J=>?_,q⟩
 ·have U:lo+((0:Nat):Int)*1=lo:=by simp
  have e2:(((z-lo).toNat:Nat):Int)-((0:Nat):Int)=Builtin.Range.rangeSize lo z 1:=by rw[rangeSize_one];split<;>omega
  show IsRangeIter _ _ (lo+((0:Nat):Int)*1) ((((z-lo).toNat:Nat):Int)-((0:Nat):Int)) 1
  rw[U,e2];exact Heap.get?_push_size _ rfl
 ·have e:b=(s.heap.push { cls:=.type "range",data:=.fields #[.int lo t,.int z u,.int 1 v] }).objs.size:=by simpa using J
  subst e;exact G.fpOk (zC _) (G.hok.fresh (zC _))
def iRng1 (G:TA):TI:=fun z H R=>G z H fun J B=>∃j:Int,J=[.int j] /\ -(2^62)<=j/\j<2^62/\R (Itr 0 j.toNat) B
def iRng2 (B:TA):TI:=fun z H R=>B z H fun J G=>∃i j:Int,J=[.int i,.int j]/\(-(2^62)<=i/\i<2^62 /\ -(2^62)<=j/\j<2^62)/\R (Itr i (j-i).toNat) G
theorem JE {a:Expr} {B:TA} {p pos:Pos} (J:Gl X "range") (hm:X.mg "range" = none) (O:PA X [a] B) (Y:starEach [a] X.env=[(false,eval a X.env)]:=by rfl):PI X tg (.Call (.Name "range" p) [a] [] pos) (iRng1 B):=by
 intro pins s U H R I h;refine Call_ (JO I J hm boot_range (PyProof.Rows.callWith_type1 (thn (O pos pins s U H _ I h) fun us s1 ⟨vs,H1,I1,r1,z⟩=>?_) Y rfl));obtain⟨j,e,z,M,q⟩:=z;subst e;cases r1 with
 |cons r G =>
  cases G
  obtain⟨t,rfl⟩:=r;exact call_range_1 (range_it I1 (by omega) (by omega) z M (by simpa using q))
def tFor (U:TI)(g:TG)(tb:TS):TS:=fun D z H=>U z H fun J Y=>∃W:Nat->Nat->St->Hp->Prop,(∃m,W 0 m z Y)/\∀i m z H,W i m z H ->
 (J.stop i H/\D.nx z H)\/(J.go i H/\∃N:St->Hp->Prop,(∀B G,N B G->∃O,O<m/\W (i+1) O B G)/\∀x G,J.yld i H x G->g x z G fun M H2=>tb { D with nx:=N,ct:=N,bk:=D.nx } M H2)
def Jm (z:List Addr)(h:Heap):List (Addr×Obj):=z.filterMap fun b=>(h.get? b).map fun o=>(b,o)
theorem xg {z:List Addr}{h:Heap}{b:Addr}{o:Obj}(B:b∈z)(e:h.get? b=some o):(b,o)∈Jm z h:=List.mem_filterMap.mpr ⟨b,B,by rw[e];rfl⟩
theorem of_pinsAt {z:List Addr}{h:Heap}{p:Addr×Obj}(H:p∈Jm z h):p.1∈z/\h.get? p.1=some p.2:=by
 obtain⟨b,B,e⟩:=List.mem_filterMap.mp H;cases q:h.get? b with
 |none=>rw[q]at e;cases e
 |some o =>
  rw[q]at e;have G:(b,o)=p:=Option.some.inj e;subst G;exact⟨B,q⟩
theorem Inv.pinned {pins:List (Addr×Obj)}{M:St}{H:Hp}{s:Shared}{B:List Addr}(I:Inv X pins M H s)(hf:∀b∈B,FpOk X pins H b)(O:∀b∈B,∃o,s.heap.get? b=some o/\∀v,o.data≠.cell v):Inv X (pins++Jm B s.heap) M H s :=
 I.pins_of fun p Y=>(zE.mp Y).elim (fun z=>I.pin p (qK _ z)) fun z=>by
  obtain⟨G,e⟩:=of_pinsAt z
  obtain⟨U,f1,f2,_⟩:=hf p.1 G
  obtain⟨o,J,d⟩:=O p.1 G
  rw[e]at J;cases J
  exact⟨e,U,f1,f2,d⟩
theorem Inv.unpinned {pins B:List (Addr×Obj)}{z:St}{H:Hp}{s:Shared}(I:Inv X (pins++B) z H s):Inv X pins z H s:=I.pins_of fun p G=>I.pin p (qK _ (zV _ G))
theorem yv {iter:Expr}{body:List Stmt}{wi:TI}{g:TG}{tb:TS}{pos:Pos}(hp:PassesOwn (model X.prog X.w) X.A X.env X.xe)(hc:X.calm=true)(hi:PI X tg iter wi)(hg:PG X tg g)(B:PSs X body tb)
  (hs:∀x,foldedSetIterable iter X.env x=pure x:=by intro _;rfl):PS X (.For tg iter body [] pos) (tFor wi g tb):=by
 intro pins s σ H D I h;refine wpAny_For (thn (hi pins s σ H _ I h) fun v s1 h1=>thn h1 fun itv s2 h2=>?_) hs;obtain⟨it,fp,tn,J,H2,e,I2,T,st2,f2,W,⟨m0,w0⟩,turn⟩:=h2;subst e
 -- what stays true of the iterator's objects through the loop
 have M:∀{H':Hp},(∀b∈fp,H' b=none)->∀b∈fp,FpOk X pins H' b:=fun hn b B=>⟨hn b B,(f2 b B).2⟩;refine codeAny_forLoop_any (fun n s'=>∃i G H',Inv X pins G H' s'/\tn i s'.heap/\(∀b∈fp,H' b=none)/\W i n G H') ?_ m0 ⟨0,σ,H2,I2,st2,fun b B=>(f2 b B).1,w0⟩;rintro n s3 ⟨i,Y,H3,I3,st3,fr3,w3⟩;rcases turn i n Y H3 w3 with⟨stop,qn⟩|⟨go,N,hN,step⟩
 ·refine wpAny_passesOwn hp (thn (T.done X rfl rfl rfl hc i pins s3 Y H3 X.xe I3 (M fr3) st3 stop) fun r s4 ⟨hr,I4⟩=>?_);subst hr;exact wpAny_execs_nil ⟨Y,H3,I4,qn⟩
 ·refine wpAny_passesOwn hp (thn (T.item X rfl rfl rfl hc i pins s3 Y H3 X.xe I3 (M fr3) st3 go) fun r s4 ⟨u,hr,h4⟩=>?_);subst hr;refine wpAny_passesOwn hp (thn h4 fun _ s5 ⟨x,H5,I5,r5,y5,st5,fr5⟩=>?_);have I5':=I5.pinned (M fr5) (T.obj _ _ st5);refine wpAny_passesOwn hp (thn (hg _ s5 Y H5 x u _ I5' r5 (step x H5 y5)) fun _ s6 ⟨σ6,H6,I6,q6⟩=>?_);refine wpAny_passesOwn hp (thn (B _ s6 σ6 H6 _ I6 q6) fun f s7 q7=>?_);have again:∀{z:St} {O:Hp},Inv X (pins++Jm fp s5.heap) z O s7->N z O->∃m,m<n/\∃i G H',Inv X pins G H' s7/\tn i s7.heap/\(∀b∈fp,H' b=none)/\W i m G H':=fun {z O} U n7=>by
   obtain⟨m',hm,w7⟩:=hN z O n7;refine⟨m',hm,i+1,z,O,U.unpinned,T.keep _ _ _ st5 fun b B o e=>(U.pin (b,o) (qK _ (qK _ (xg B e)))).1,fun b B=>?_,w7⟩;obtain⟨o,e,d⟩:=T.obj _ _ st5 b B;exact(U.pin (b,o) (qK _ (qK _ (xg B e)))).2.1
  cases f with
  |next=>obtain⟨z,O,U,n7⟩:=q7;exact again U n7
  |cont=>obtain⟨z,O,U,n7⟩:=q7;exact again U n7
  |brk=>obtain⟨z,O,U,q7⟩:=q7;exact⟨z,O,U.unpinned,q7⟩
  |ret v=>obtain⟨x7,z,O,U,r7,q7⟩:=q7;exact⟨x7,z,O,U.unpinned,r7,q7⟩
end
theorem for_list {K:zA}{a:Addr}{xs:List V}{g:TG}{tb:TS}{D:Ends}{z:St}{H:Hp}(B:Nat->St->Hp->Prop)(h0:B 0 z H)(hl:∀i z H,i<=xs.length->B i z H->SqL K H a xs)
  (hs:∀i x z H,xs[i]? = some x->B i z H->g x z H fun M U=>tb { D with nx:=B (i+1),ct:=B (i+1),bk:=D.nx } M U) (hd:∀z H,B xs.length z H->D.nx z H) :
  ∃W:Nat->Nat->St->Hp->Prop,(∃m,W 0 m z H)/\∀i m z H,W i m z H ->
   ((Itl K a).stop i H/\D.nx z H)\/((Itl K a).go i H/\∃N:St->Hp->Prop,(∀G J,N G J->∃Y,Y<m/\W (i+1) Y G J)/\∀x J,(Itl K a).yld i H x J->g x z J fun M U=>tb { D with nx:=N,ct:=N,bk:=D.nx } M U):=by
 refine⟨fun i m z H=>m=xs.length-i/\i<=xs.length/\B i z H,⟨xs.length,by simp,zT _,h0⟩,?_⟩;rintro i m z H ⟨rfl,hi,p⟩;have q:=hl i z H hi p;by_cases O:i<xs.length
 ·refine .inr ⟨⟨xs,xs[i],q,by simp[O]⟩,B (i+1),fun G J p'=>⟨xs.length-(i+1),by omega,rfl,O,p'⟩,fun x J y=>?_⟩;obtain⟨e,y⟩:=y;subst e;exact hs i x z _ (y xs q) p
 ·have e:i=xs.length:=by omega
  subst e;exact .inl ⟨⟨xs,q,zC _⟩,hd z H p⟩
theorem for_tup {K:zA}{a:Addr}{xs:List V}{g:TG}{tb:TS}{D:Ends}{z:St}{H:Hp}(B:Nat->St->Hp->Prop)(h0:B 0 z H)(hl:∀i z H,i<=xs.length->B i z H->SqT K H a xs)
  (hs:∀i x z H,xs[i]? = some x->B i z H->g x z H fun M U=>tb { D with nx:=B (i+1),ct:=B (i+1),bk:=D.nx } M U) (hd:∀z H,B xs.length z H->D.nx z H) :
  ∃W:Nat->Nat->St->Hp->Prop,(∃m,W 0 m z H)/\∀i m z H,W i m z H ->
   ((Itt K a).stop i H/\D.nx z H)\/((Itt K a).go i H/\∃N:St->Hp->Prop,(∀G J,N G J->∃Y,Y<m/\W (i+1) Y G J)/\∀x J,(Itt K a).yld i H x J->g x z J fun M U=>tb { D with nx:=N,ct:=N,bk:=D.nx } M U):=by
 refine⟨fun i m z H=>m=xs.length-i/\i<=xs.length/\B i z H,⟨xs.length,by simp,zT _,h0⟩,?_⟩;rintro i m z H ⟨rfl,hi,p⟩;have q:=hl i z H hi p;by_cases O:i<xs.length
 ·refine .inr ⟨⟨xs,xs[i],q,by simp[O]⟩,B (i+1),fun G J p'=>⟨xs.length-(i+1),by omega,rfl,O,p'⟩,fun x J y=>?_⟩;obtain⟨e,y⟩:=y;subst e;exact hs i x z _ (y xs q) p
 ·have e:i=xs.length:=by omega
  subst e;exact .inl ⟨⟨xs,q,zC _⟩,hd z H p⟩
theorem for_range {lo:Int}{n:Nat}{g:TG}{tb:TS}{D:Ends}{z:St}{H:Hp}(B:Nat->St->Hp->Prop)(h0:B 0 z H)
  (hs:∀i z H,i<n->B i z H->g (.int (lo+i)) z H fun M U=>tb { D with nx:=B (i+1),ct:=B (i+1),bk:=D.nx } M U) (hd:∀z H,B n z H->D.nx z H) :
  ∃W:Nat->Nat->St->Hp->Prop,(∃m,W 0 m z H)/\∀i m z H,W i m z H ->
   ((Itr lo n).stop i H/\D.nx z H)\/((Itr lo n).go i H/\∃N:St->Hp->Prop,(∀G J,N G J->∃Y,Y<m/\W (i+1) Y G J)/\∀x J,(Itr lo n).yld i H x J->g x z J fun M U=>tb { D with nx:=N,ct:=N,bk:=D.nx } M U):=by
 refine⟨fun i m z H=>m=n-i/\i<=n/\B i z H,⟨n,by simp,zT _,h0⟩,?_⟩;rintro i m z H ⟨rfl,hi,p⟩;by_cases O:i<n
 ·refine .inr ⟨O,B (i+1),fun G J p'=>⟨n-(i+1),by omega,rfl,O,p'⟩,fun x J y=>?_⟩;obtain⟨e,y⟩:=y;subst e y;exact hs i z _ O p
 ·have e:i=n:=by omega
  subst e;exact .inl ⟨zC _,hd z H p⟩
abbrev R2:=V->V->Hp->VK->Prop
def OpR (X:Cx)(f:Value->Value->Sem Value)(r:R2):Prop :=
 ∀(pins:List (Addr×Obj)) (s:Shared) (z:St) (H:Hp) (x y:V) (v u:Value) (Q:VK),Inv X pins z H s->RelV x v->RelV y u->r x y H Q ->
  wpAny (model X.prog X.w) X.A (f v u) (EP X pins z Q) X.xe s
def UnR (X:Cx)(f:Value->Sem Value)(r:V->Hp->VK->Prop):Prop :=
 ∀(pins:List (Addr×Obj)) (s:Shared) (z:St) (H:Hp) (x:V) (v:Value) (Q:VK),Inv X pins z H s->RelV x v->r x H Q ->
  wpAny (model X.prog X.w) X.A (f v) (EP X pins z Q) X.xe s
def CallR (X:Cx)(f:Value)(r:List V->Hp->VK->Prop):Prop :=
 ∀(pins:List (Addr×Obj)) (s:Shared) (G:St) (H:Hp) (B:List V) (z:List Value) (Q:VK),Inv X pins G H s->Vals B z->r B H Q ->
  wpAny (model X.prog X.w) X.A (call f z) (EP X pins G Q) X.xe s
def tOp (r:R2)(B tb:TE):TE:=fun z H Q=>B z H fun x G=>tb z G fun y J=>r x y J Q
def tUn (r:V->Hp->VK->Prop)(G:TE):TE:=fun z H Q=>G z H fun x B=>r x B Q
def rI (C:Int->Int->Prop)(g:Int->Int->V):R2:=fun x y H Q=>∃i j,x=.int i/\y=.int j/\C i j/\Q (g i j) H
def rI0 (g:Int->Int->V):R2:=fun x y H Q=>∃i j,x=.int i/\y=.int j/\Q (g i j) H
def rU (g:Int->V):V->Hp->VK->Prop:=fun x H Q=>∃i,x=.int i/\Q (g i) H
section
variable {X:Cx}{a b c:Expr}{ta tb tc:TE}{pos:Pos}
theorem binT (ha:PE X a ta)(U:PE X b tb){pins:List (Addr×Obj)}{s:Shared}{z:St}{H:Hp}{R:V->V->Hp->Prop}(I:Inv X pins z H s)
  (h:ta z H fun x O=>tb z O fun y B=>R x y B) {Q:Value->Shared->Prop} {f:Value->Value->Sem Value}
  (hf:∀v u M x y B,Inv X pins z B M->RelV x v->RelV y u->R x y B->wpAny (model X.prog X.w) X.A (f v u) Q X.xe M) :
  wpAny (model X.prog X.w) X.A (eval a X.env) (fun v G=>wpAny (model X.prog X.w) X.A (eval b X.env) (fun u J=>wpAny (model X.prog X.w) X.A (f v u) Q X.xe J) X.xe G) X.xe s:=by
 refine thn (ha pins s z H _ I h) fun v s1 ⟨x,O,I1,r1,q1⟩=>?_;refine thn (U pins s1 z O _ I1 q1) fun u M ⟨y,B,I2,r2,Y⟩=>?_;exact hf v u M x y B I2 r1 r2 Y
theorem pe_op {z:Operator}{r:R2}(B:OpR X (binaryOp z) r)(M:PE X a ta)(G:PE X b tb):PE X (.BinOp a z b pos) (tOp r ta tb):=by
 intro pins s O H Q I h;exact wpAny_BinOp (binT M G I h fun v u s2 x y H2 U Y J q=>B pins s2 O H2 x y v u Q U Y J q)
theorem pe_un {B:UnaryOp}{r:V->Hp->VK->Prop}(G:UnR X (unaryOp B) r)(ha:PE X a ta):PE X (.UnaryOp B a pos) (tUn r ta):=by
 intro pins s z H Q I h;exact UnaryOp_ (thn (ha pins s z H _ I h) fun v J ⟨x,O,M,Y,U⟩=>G pins J z O x v Q M Y U)
theorem opI {f:Value->Value->Sem Value}{C:Int->Int->Prop}{g:Int->Int->Int}
  (rule:∀(i j:Int) (t u:Tok) (s:Shared) (Q:Value->Shared->Prop) (E:Value->Shared->Prop),C i j->Q (.int (g i j) s.toks) { s with toks:=s.toks+1 }->wpAny (model X.prog X.w) X.A (f (.int i t) (.int j u)) Q E s) :
  OpR X f (rI C fun i j=>.int (g i j)):=by
 intro pins s M H x y v u Q I J z h;obtain⟨i,j,rfl,rfl,B,q⟩:=h;obtain⟨t,rfl⟩:=J;obtain⟨G,rfl⟩:=z;exact rule i j t G s _ _ B ⟨.int (g i j),H,I.tok _,⟨_,rfl⟩,q⟩
theorem opI0 {f:Value->Value->Sem Value}{g:Int->Int->Int}
  (rule:∀(i j:Int) (t u:Tok) (s:Shared) (Q:Value->Shared->Prop) (E:Value->Shared->Prop),Q (.int (g i j) s.toks) { s with toks:=s.toks+1 }->wpAny (model X.prog X.w) X.A (f (.int i t) (.int j u)) Q E s) :
  OpR X f (rI0 fun i j=>.int (g i j)):=by
 intro pins s J H x y v u Q I G z h;obtain⟨i,j,rfl,rfl,q⟩:=h;obtain⟨t,rfl⟩:=G;obtain⟨B,rfl⟩:=z;exact rule i j t B s _ _ ⟨.int (g i j),H,I.tok _,⟨_,rfl⟩,q⟩
theorem opB0 {f:Value->Value->Sem Value}{g:Int->Int->Bool}
  (rule:∀(i j:Int) (t u:Tok) (s:Shared) (Q:Value->Shared->Prop) (E:Value->Shared->Prop),Q (.bool (g i j)) s->wpAny (model X.prog X.w) X.A (f (.int i t) (.int j u)) Q E s) :
  OpR X f (rI0 fun i j=>.bl (g i j)):=by
 intro pins s J H x y v u Q I G z h;obtain⟨i,j,rfl,rfl,q⟩:=h;obtain⟨t,rfl⟩:=G;obtain⟨B,rfl⟩:=z;exact rule i j t B s _ _ ⟨.bl (g i j),H,I,rfl,q⟩
theorem two_pow_nn (k:Nat):(0:Int)<=2^k:=by
 rw[two_pow_cast];exact Int.natCast_nonneg _
theorem yc:OpR X (binaryOp .Add) (rI0 fun i j=>.int (i+j)):=opI0 fun _ _ _ _ _ _ _ q=>add_int q
theorem jd:OpR X (binaryOp .Sub) (rI0 fun i j=>.int (i-j)):=opI0 fun _ _ _ _ _ _ _ q=>sub_int q
theorem op_mod:OpR X (binaryOp .Mod) (rI (fun _ j=>0<j) fun i j=>.int (i%j)):=opI fun i j _ _ _ _ _ z q=>by
 have B:(0:Int)<j:=z
 exact mod_int' (by omega) (by rw[Int.fmod_eq_emod_of_nonneg i (by omega)];exact q)
theorem op_shr:OpR X (binaryOp .RShift) (rI (fun _ j=>0<=j) fun i j=>.int (i/2^j.toNat)):=opI fun i j _ _ _ _ _ z q =>
 rshift_int z (by rw[Int.fdiv_eq_ediv_of_nonneg i (two_pow_nn _)];exact q)
theorem op_and:OpR X (binaryOp .BitAnd) (rI0 fun i j=>.int (Builtin.bitAnd i j)):=opI0 fun _ _ _ _ _ _ _ q=>and_int q
theorem op_or:OpR X (binaryOp .BitOr) (rI0 fun i j=>.int (Builtin.bitOr i j)):=opI0 fun _ _ _ _ _ _ _ q=>or_int q
theorem unI {f:Value->Sem Value}{g:Int->Int}
  (rule:∀(i:Int) (t:Tok) (s:Shared) (Q:Value->Shared->Prop) (E:Value->Shared->Prop),Q (.int (g i) s.toks) { s with toks:=s.toks+1 }->wpAny (model X.prog X.w) X.A (f (.int i t)) Q E s) :
  UnR X f (rU fun i=>.int (g i)):=by
 intro pins s B H x v Q I z h;obtain⟨i,rfl,q⟩:=h;obtain⟨t,rfl⟩:=z;exact rule i t s _ _ ⟨.int (g i),H,I.tok _,⟨_,rfl⟩,q⟩
theorem ju:UnR X (unaryOp .USub) (rU fun i=>.int (-i)):=unI fun _ _ _ _ _ q=>neg_int q
end
def scal:V->V->Bool
 |.non,.non=>true|.non,.int _=>true|.int _,.non=>true|.non,.bl _=>true|.bl _,.non=>true|.non,.str _=>true|.str _,.non=>true
 |.int _,.int _=>true|.bl _,.bl _=>true|.str _,.str _=>true|.byt _,.byt _=>true
 |.int _,.str _=>true|.str _,.int _=>true|.bl _,.str _=>true|.str _,.bl _=>true
 |_,_=>false
def rEq:R2:=fun x y H Q=>scal x y=true/\Q (.bl (decide (x=y))) H
def rNe:R2:=fun x y H Q=>scal x y=true/\Q (.bl (!decide (x=y))) H
theorem dec_int {i j:Int}:decide (V.int i=V.int j)=(i==j):=by
 rw[Bool.eq_iff_iff];simp
theorem dec_bl {i j:Bool}:decide (V.bl i=V.bl j)=(i==j):=by
 rw[Bool.eq_iff_iff];simp
theorem dec_str {i j:Str}:decide (V.str i=V.str j)=(i==j):=by
 rw[Bool.eq_iff_iff];simp
theorem dec_byt {i j:Array UInt8}:decide (V.byt i=V.byt j)=(i.toList==j.toList):=by
 rw[Bool.eq_iff_iff];cases i
 cases j
 simp
section
variable {X:Cx}{a b c:Expr}{ta tb tc:TE}{pos:Pos}
theorem fin_bl {pins:List (Addr×Obj)}{z:St}{H:Hp}{s:Shared}{Q:VK}{k B:Bool}(I:Inv X pins z H s)(q:Q (.bl k) H)(e:k=B):EP X pins z Q (.bool B) s:=by
 subst e;exact⟨.bl k,H,I,rfl,q⟩
theorem op_eq:OpR X (compareOp .Eq) rEq:=by
 intro pins s M H x y v u Q I J z h;obtain⟨G,q⟩:=h;cases x with
 |non =>
  cases J
  cases y with
  |non=>cases z;exact PySem.EqNone.eq_none_none (fin_bl I q (by simp))
  |bl j=>cases z;exact PySem.EqNone.eq_none_bool (fin_bl I q (by simp))
  |int j=>obtain⟨B,rfl⟩:=z;exact PySem.EqNone.eq_none_int (fin_bl I q (by simp))
  |str j=>obtain⟨B,rfl⟩:=z;exact PySem.EqNone.eq_none_str (fin_bl I q (by simp))
  |_=>exact absurd (show false=true from G) zI
 |bl i =>
  cases J
  cases y with
  |non=>cases z;exact PySem.EqNone.eq_bool_none (fin_bl I q (by simp))
  |bl j=>cases z;exact eq_bool (fin_bl I q dec_bl)
  |str j=>obtain⟨B,rfl⟩:=z;exact PySem.EqMixed.eq_bool_str (fin_bl I q (by simp))
  |_=>exact absurd (show false=true from G) zI
 |int i =>
  obtain⟨t,rfl⟩:=J;cases y with
  |non=>cases z;exact PySem.EqNone.eq_int_none (fin_bl I q (by simp))
  |int j=>obtain⟨B,rfl⟩:=z;exact eq_int (fin_bl I q dec_int)
  |str j=>obtain⟨B,rfl⟩:=z;exact PySem.EqMixed.eq_int_str (fin_bl I q (by simp))
  |_=>exact absurd (show false=true from G) zI
 |str i =>
  obtain⟨t,rfl⟩:=J;cases y with
  |non=>cases z;exact PySem.EqNone.eq_str_none (fin_bl I q (by simp))
  |bl j=>cases z;exact PySem.EqMixed.eq_str_bool (fin_bl I q (by simp))
  |int j=>obtain⟨B,rfl⟩:=z;exact PySem.EqMixed.eq_str_int (fin_bl I q (by simp))
  |str j=>obtain⟨B,rfl⟩:=z;exact eq_str (fin_bl I q dec_str)
  |_=>exact absurd (show false=true from G) zI
 |byt i =>
  obtain⟨t,rfl⟩:=J;cases y with
  |byt j=>obtain⟨B,rfl⟩:=z;exact PySem.W.eq_bytes (fin_bl I q dec_byt)
  |_=>exact absurd (show false=true from G) zI
 |_=>cases y<;>exact absurd (show false=true from G) zI
theorem op_ne:OpR X (compareOp .NotEq) rNe:=by
 intro pins s M H x y v u Q I J z h;obtain⟨G,q⟩:=h;cases x with
 |non =>
  cases J
  cases y with
  |non=>cases z;exact PySem.EqNone.ne_none_none (fin_bl I q (by simp))
  |bl j=>cases z;exact PySem.EqNone.ne_none_bool (fin_bl I q (by simp))
  |int j=>obtain⟨B,rfl⟩:=z;exact PySem.EqNone.ne_none_int (fin_bl I q (by simp))
  |str j=>obtain⟨B,rfl⟩:=z;exact PySem.EqNone.ne_none_str (fin_bl I q (by simp))
  |_=>exact absurd (show false=true from G) zI
 |bl i =>
  cases J
  cases y with
  |non=>cases z;exact PySem.EqNone.ne_bool_none (fin_bl I q (by simp))
  |bl j=>cases z;exact ne_bool (fin_bl I q (congrArg not dec_bl))
  |str j=>obtain⟨B,rfl⟩:=z;exact PySem.EqMixed.ne_bool_str (fin_bl I q (by simp))
  |_=>exact absurd (show false=true from G) zI
 |int i =>
  obtain⟨t,rfl⟩:=J;cases y with
  |non=>cases z;exact PySem.EqNone.ne_int_none (fin_bl I q (by simp))
  |int j=>obtain⟨B,rfl⟩:=z;exact ne_int (fin_bl I q (congrArg not dec_int))
  |str j=>obtain⟨B,rfl⟩:=z;exact PySem.EqMixed.ne_int_str (fin_bl I q (by simp))
  |_=>exact absurd (show false=true from G) zI
 |str i =>
  obtain⟨t,rfl⟩:=J;cases y with
  |non=>cases z;exact PySem.EqNone.ne_str_none (fin_bl I q (by simp))
  |bl j=>cases z;exact PySem.EqMixed.ne_str_bool (fin_bl I q (by simp))
  |int j=>obtain⟨B,rfl⟩:=z;exact PySem.EqMixed.ne_str_int (fin_bl I q (by simp))
  |str j=>obtain⟨B,rfl⟩:=z;exact ne_str (fin_bl I q (congrArg not dec_str))
  |_=>exact absurd (show false=true from G) zI
 |byt i =>
  obtain⟨t,rfl⟩:=J;cases y with
  |byt j=>obtain⟨B,rfl⟩:=z;exact PySem.W.ne_bytes (fin_bl I q (congrArg not dec_byt))
  |_=>exact absurd (show false=true from G) zI
 |_=>cases y<;>exact absurd (show false=true from G) zI
theorem op_lt:OpR X (compareOp .Lt) (rI0 fun i j=>.bl (decide (i<j))):=opB0 fun _ _ _ _ _ _ _ q=>lt_int q
theorem op_le:OpR X (compareOp .LtE) (rI0 fun i j=>.bl (decide (i<=j))):=opB0 fun _ _ _ _ _ _ _ q=>le_int q
theorem op_gt:OpR X (compareOp .Gt) (rI0 fun i j=>.bl (decide (j<i))):=opB0 fun _ _ _ _ _ _ _ q=>gt_int q
theorem op_ge:OpR X (compareOp .GtE) (rI0 fun i j=>.bl (decide (j<=i))):=opB0 fun _ _ _ _ _ _ _ q=>ge_int q
theorem zh (b:Expr){z:CmpOp}(h:z≠.In:=by decide)(H:z≠.NotIn:=by decide):behindInMarks z b=false:=by
 have B:(z==CmpOp.In)=false:=by cases z<;>first|rfl|exact absurd rfl h
 have G:(z==CmpOp.NotIn)=false:=by cases z<;>first|rfl|exact absurd rfl H
 cases b<;>simp[behindInMarks,B,G]
theorem pe_cmpR {z:CmpOp}{r:R2}(B:OpR X (compareOp z) r)(M:PE X a ta)(G:PE X b tb)(hm:behindInMarks z b=false):PE X (.Compare a [z] [b] pos) (tOp r ta tb):=by
 intro pins s O H Q I h;exact wpAny_Compare1 (binT M G I h fun v u s2 x y H2 U Y J q=>B pins s2 O H2 x y v u Q U Y J q) hm
def tTest (t:TE):TT:=fun z H Q=>t z H fun x B=>∃k,x=.bl k/\Q k B
theorem pt_cmpR {G:CmpOp}{r:R2}(J:OpR X (compareOp G) r)(ha:PE X a ta)(M:PE X b tb)(hm:behindInMarks G b=false):PT X (.Compare a [G] [b] pos) (tTest (tOp r ta tb)):=by
 intro pins s B H Q I h;refine wpAny_isTrue_Compare1 (thn (ha pins s B H _ I h) fun v s1 ⟨x,H1,I1,r1,q1⟩=>thn (M pins s1 B H1 _ I1 q1) fun u s2 ⟨y,H2,I2,r2,U⟩ =>
  thn (J pins s2 B H2 x y v u _ I2 r1 r2 U) fun c s3 ⟨z,H3,I3,O,k,e,Y⟩=>?_) hm
 subst e;cases O
 exact wpAny_truthy_bool ⟨H3,I3,Y⟩
def tChain (r M:R2)(ta tb tc:TE):TE:=fun B H Q=>ta B H fun x U=>tb B U fun y Y=>r x y Y fun z G=>∃k,z=.bl k /\
 (if k=true then tc B G fun J O=>M y J O Q else Q (.bl false) G)
theorem pe_chain {M B:CmpOp}{r Y:R2}(ho:OpR X (compareOp M) r)(J:OpR X (compareOp B) Y)(ha:PE X a ta)(hb:PE X b tb)(hc:PE X c tc)
  (hm:lastMarks [M,B] [b,c]=false:=by with_unfolding_all rfl):PE X (.Compare a [M,B] [b,c] pos) (tChain r Y ta tb tc):=by
 intro pins s G H Q I h;refine Compare_chain (thn (ha pins s G H _ I h) fun v s1 ⟨x,H1,I1,r1,q1⟩=>chain_link (thn (hb pins s1 G H1 _ I1 q1) fun u s2 ⟨y,H2,I2,r2,q2⟩ =>
  thn (ho pins s2 G H2 x y v u _ I2 r1 r2 q2) fun d s3 ⟨z,H3,U,r3,k,e,O⟩=>?_)) hm
 subst e;cases r3
 refine wpAny_truthy_bool ?_;cases k with
 |false=>exact ite_ff ⟨.bl false,H3,U,rfl,O⟩
 |true=>exact ite_tt (chain_last (thn (hc pins s3 G H3 _ U O) fun w' s4 ⟨z',H4,I4,r4,q4⟩=>J pins s4 G H4 y z' u w' Q I4 r2 r4 q4))
theorem pt_chain {M B:CmpOp}{r Y:R2}(ho:OpR X (compareOp M) r)(J:OpR X (compareOp B) Y)(ha:PE X a ta)(hb:PE X b tb)(hc:PE X c tc)
  (hm:lastMarks [M,B] [b,c]=false:=by with_unfolding_all rfl):PT X (.Compare a [M,B] [b,c] pos) (tTest (tChain r Y ta tb tc)):=by
 intro pins s G H Q I h;refine isTrue_chain (thn (ha pins s G H _ I h) fun v s1 ⟨x,H1,I1,r1,q1⟩=>test_link (thn (hb pins s1 G H1 _ I1 q1) fun u s2 ⟨y,H2,I2,r2,q2⟩ =>
  thn (ho pins s2 G H2 x y v u _ I2 r1 r2 q2) fun d s3 ⟨z,H3,U,r3,k,e,O⟩=>?_)) hm
 subst e;cases r3
 refine wpAny_truthy_bool ?_;cases k with
 |false =>
  obtain⟨k',e',q'⟩:=O;cases e'
  exact ite_ff ⟨H3,U,q'⟩
 |true =>
  refine ite_tt (test_last (thn (hc pins s3 G H3 _ U O) fun w' s4 ⟨z',H4,I4,r4,q4⟩=>thn (J pins s4 G H4 y z' u w' _ I4 r2 r4 q4) fun d' s5 ⟨z2,H5,I5,r5,k2,e2,q5⟩=>?_));subst e2;cases r5
  exact wpAny_truthy_bool ⟨H5,I5,q5⟩
theorem line63:(sizeLine:Nat)<2^63:=by rw[sizeLine_eq];decide
theorem jn {x:V}{us:List Value}(r:Vals [x] us):∃u,us=[u]/\RelV x u:=by
 cases r with
 |cons z B=>cases B;exact⟨_,rfl,z⟩
theorem vals2 {x y:V}{us:List Value}(r:Vals [x,y] us):∃u z,us=[u,z]/\RelV x u/\RelV y z:=by
 cases r with
 |cons H G =>
  cases G with
  |cons B r4=>cases r4;exact⟨_,_,rfl,H,B⟩
theorem call_abs:CallR X (.builtin "abs") (fun z H Q=>∃i,z=[.int i]/\Q (.int (if i<0 then -i else i)) H):=by
 intro pins s G H z B Q I r h;obtain⟨i,rfl,q⟩:=h;obtain⟨u,rfl,t,rfl⟩:=jn r;exact call_abs_int fun u tk=>⟨.int (if i<0 then -i else i),H,I.tok _,⟨_,rfl⟩,q⟩
end
structure ObjM (h:Heap) (x dx C:Addr) (mA:Str->Option Value):Prop where
 obj:h.get? x=some (PySem.W.instObj C dx)
 ns:h.Ns1 dx mA
 ne:dx≠x
theorem lookIn_ns {h:Heap}{M:Addr}{J:Str->Option Value}(n:h.Ns1 M J):∃G,h.get? M=some G/\∀name,PySem.W.lookIn name G=some (J name):=by
 obtain⟨o,H,ep,O,U,hk,_,hm⟩:=n;refine⟨o,O,fun name=>?_⟩;have e:=hm name;unfold nsFind findBy at e;rw[<-Array.find?_toList]at e;unfold PySem.W.lookIn;rw[U];dsimp only;split
 ·rename_i y q
  rw[q]at e;exact congrArg some e
 ·rename_i q
  rw[q]at e;have a:H.toList.any (·.refKey)=false:=by
   rw[List.any_eq_false];intro y hy;obtain⟨z,t,B⟩:=hk y (Array.mem_toList_iff.mp hy);simp[DictEntry.refKey,B]
  have Y:¬ H.toList.any (·.refKey)=true:=by rw[a];exact zI
  rw[if_neg Y];exact congrArg some e
theorem ObjM.look {h:Heap}{x B C:Addr}{G:Str->Option Value}(I:ObjM h x B C G):∃z,PySem.W.InstAt h x (PySem.W.instObj C B) C (some z)/\∀name,PySem.W.lookIn name z=some (G name) :=
 let ⟨z,H,J⟩:=lookIn_ns I.ns
 ⟨z,⟨I.obj,rfl,rfl,H⟩,J⟩
section
variable {prog:Program}{w:World}{A:Around}{E:Value->Shared->Prop}{s:Shared}{K:zA}{x dx C f:Addr}{mA:Str->Option Value}{name:Str}{v:Value}
end
theorem RelO.some_of {v:V}{o:Option Value}(r:RelO (some v) o):∃u,o=some u/\RelV v u:=by
 cases o with
 |none=>exact(show False from r).elim
 |some u=>exact⟨u,rfl,r⟩
section
variable {P:Program}{w:World}{H H':Hp}{h h':Heap}{a C dx:Addr}{fs fs':List (Str×V)}
theorem ins_get (hok:HOk P w H h)(e:H a=some (.ins C dx fs)):∃B,ObjM h a dx C B/\(∀f,RelO (fs.lookup f) (B f))/\PySem.Within B (fs.map (·.1))/\fs.length<=1000/\H dx=some (.own a):=by
 obtain⟨d,z,ne,G,B,n,r,q⟩:=(show ObjOk P w H h a (.ins C dx fs) from hok a _ e);exact⟨B,⟨G,n,ne⟩,r,q,z,d⟩
end
structure Cls (K:zA) (C:Addr):Prop where
 pg:PySem.W.plainGet K C Str.empty=true
 hd:PySem.W.hasDictIn K C=true
 po:PySem.W.plainOver K C=true
 sa:PySem.W.findIn K (.ref C) "__setattr__" = some (some (.builtin "object.__setattr__"))
theorem Cls.get {K:zA}{C:Addr}(c:Cls K C)(f:Str):PySem.W.plainGet K C f=true:=c.pg
section
variable {X:Cx}{pins:List (Addr×Obj)}{σ:St}{H:Hp}{s:Shared}{a C dx:Addr}{fs:List (Str×V)}{f:Str}{v:V}{A:Around}{E:Value->Shared->Prop}
end
section
variable {X:Cx}{o e value:Expr}{f:Str}{pos pos' tpos:Pos}{ta tv:TE}
end
section
variable {X:Cx}{pins:List (Addr×Obj)}{σ:St}{H:Hp}{s:Shared}{A:Around}{E:Value->Shared->Prop}{Q:Value->Shared->Prop}{c:Value}{b:Bool}
inductive TyOf (K:zA) (H:Hp):V->Value->Prop where
 |non:TyOf K H .non (.type "NoneType")
 |bl (x:Bool):TyOf K H (.bl x) (.type "bool")
 |int (i:Int):TyOf K H (.int i) (.type "int")
 |str (x:Str):TyOf K H (.str x) (.type "str")
 |flt (x:UInt64):TyOf K H (.flt x) (.type "float")
 |lst {a:Addr} {xs:List V} (e:H a=some (.lst xs)):TyOf K H (.ref a) (.type "list")
 |frz {a:Addr} {o:Obj} {xs:List V} (e:H a=some (.frz o (.lst xs))):TyOf K H (.ref a) (.type "list")
 |tup {a:Addr} {xs:List V} (e:H a=some (.tup xs)):TyOf K H (.ref a) (.type "tuple")
 |dK {a:Addr} {kvs:List (Key×V)} (e:H a=some (.dK kvs)):TyOf K H (.ref a) (.type "dict")
 |dT {a:Addr} {kvs:List (List Key×V)} (e:H a=some (.dT kvs)):TyOf K H (.ref a) (.type "dict")
 |ins {a C dx:Addr} {fs:List (Str×V)} (e:H a=some (.ins C dx fs)) (cl:Cls K C) (ha:PySem.W.findIn K (.ref C) "__class__" = some (some (.builtin "object.__class__")))
   (hn:PySem.W.specialIn K (.builtin "object.__class__") "__get__" = some (some (.builtin "getset_descriptor.__get__"))) (htk:PySem.W.takesIn K (.builtin "object.__class__")=some true)
   (hm:PySem.W.mroIn K C (.type "object")=some true):TyOf K H (.ref a) (.ref C)
theorem isinst_ok {x:V}{u t:Value}(I:Inv X pins σ H s)(B:RelV x u)(ty:TyOf X.K H x t)(e:yL X.K t c=some b)(h:∀tk,Q (.bool b) { s with toks:=tk }) :
  wpAny (model X.prog X.w) A (call (.builtin "isinstance") [u,c]) Q E s:=by
 cases ty with
 |non=>cases (show u=Value.none from B);exact yN PySem.W.kitx_none I.kIn True.intro e (fun z=>nomatch z) h
 |bl y=>cases (show u=Value.bool y from B);exact yN PySem.W.kitx_bool I.kIn True.intro e (fun z=>nomatch z) h
 |int i=>obtain⟨t,q⟩:=(show ∃t,u=Value.int i t from B);cases q;exact yN PySem.W.kitx_int I.kIn True.intro e (fun z=>nomatch z) h
 |str y=>obtain⟨t,q⟩:=(show ∃t,u=Value.str y t from B);cases q;exact yN PySem.W.kitx_str I.kIn True.intro e (fun z=>nomatch z) h
 |flt y=>obtain⟨t,q⟩:=(show ∃t,u=Value.float y t from B);cases q;exact yN PySem.W.kitx_float I.kIn True.intro e (fun z=>nomatch z) h
 |@lst a Y G =>
  cases (show u=Value.ref a from B)
  obtain⟨_,_,n,_,M⟩:=(show ObjOk X.prog X.w H s.heap a (.lst Y) from I.hok a _ G);exact yN PySem.W.kitx_list I.kIn ⟨_,M,rfl⟩ e (fun z=>nomatch z) h
 |@frz a ob Y G =>
  cases (show u=Value.ref a from B)
  obtain⟨_,_,_,n,_,M⟩:=(show ObjOk X.prog X.w H s.heap a (.frz ob (.lst Y)) from I.hok a _ G);exact yN PySem.W.kitx_list I.kIn ⟨_,M,rfl⟩ e (fun z=>nomatch z) h
 |@tup a Y G =>
  cases (show u=Value.ref a from B)
  obtain⟨_,_,_,p⟩:=(show ObjOk X.prog X.w H s.heap a (.tup Y) from I.hok a _ G);obtain⟨o,M,h2,_⟩:=p;exact yN PySem.W.kitx_tuple I.kIn ⟨o,M,h2⟩ e (fun z=>nomatch z) h
 |@dK a U G =>
  cases (show u=Value.ref a from B)
  obtain⟨_,_,vs,_,p⟩:=(show ObjOk X.prog X.w H s.heap a (.dK U) from I.hok a _ G);obtain⟨o,es,ep,M,h2,_⟩:=p;exact yN PySem.W.kitx_dict I.kIn ⟨o,M,h2.1⟩ e (fun z=>nomatch z) h
 |@dT a U G =>
  cases (show u=Value.ref a from B)
  obtain⟨_,_,Y,_,o,es,ep,M,h2,_⟩:=(show ObjOk X.prog X.w H s.heap a (.dT U) from I.hok a _ G);exact yN PySem.W.kitx_dict I.kIn ⟨o,M,h2.1⟩ e (fun z=>nomatch z) h
 |@ins a C dx fs G cl ha hn htk hm =>
  cases (show u=Value.ref a from B)
  obtain⟨mA,O,_⟩:=ins_get I.hok G;obtain⟨od,J,_⟩:=O.look;exact yN (PySem.W.kitx_own (cl.get _) cl.hd ha hn htk hm) I.kIn J e (fun z=>nomatch z) h
end
structure Room (k:Nat) (A:Around):Prop where
 hd:A.handled=none
 dp:A.depth+3*k+5<recursionLimit
 un:A.units+16*k+200<cLine
theorem Room.mono {j k:Nat}{A:Around}(r:Room k A)(h:j<=k):Room j A:=⟨r.hd,by have:=r.dp;omega,by have:=r.un;omega⟩
theorem Room.deeper {k:Nat}{A:Around}(r:Room (k+1) A)(env:Env):Room k (A.deeper env) :=
 ⟨r.hd,by have:=r.dp;show A.depth+1+3*k+5<_;omega,by have:=r.un;show A.units+3+16*k+200<_;omega⟩
theorem Room.depth {k:Nat}{A:Around}(r:Room k A):A.depth<recursionLimit:=by have:=r.dp;omega
theorem Room.units {k:Nat}{A:Around}(r:Room k A):A.units+64<cLine:=by have:=r.un;omega
def tNil:TA:=fun _ H Q=>Q [] H
def tCons (B:TE)(G:TA):TA:=fun z H Q=>B z H fun x J=>G z J fun O M=>Q (x::O) M
section
variable {X:Cx}{e:Expr}{es:List Expr}{te:TE}{t:TA}{pos:Pos}
theorem pa_nil:PA X [] tNil:=fun _ _ _ _ H Q I h=>Calls.spliced_nil ⟨[],H,I,.nil,h⟩
theorem pa_cons (U:PE X e te)(B:PA X es t)(hs:starEach (e::es) X.env=(false,eval e X.env)::starEach es X.env:=by rfl):PA X (e::es) (tCons te t):=by
 intro pos pins s z H Q I h;rw[hs];show wpAny _ _ (spliced ((false,eval e X.env)::backTo pos (starEach es X.env))) _ _ s
 refine Calls.spliced_cons (thn (U pins s z H _ I h) fun u J ⟨x,M,I1,r1,q1⟩=>?_);exact thn (B pos pins J z M _ I1 q1) fun us s2 ⟨O,H2,Y,r2,G⟩=>⟨x::O,H2,Y,.cons r1 r2,G⟩
def tTup (t:TA):TE:=fun G H Q=>t G H fun B z=>B.length<=sizeLine/\∀p,z p=none->Q (.ref p) (upd z p (.tup B))
def tLst (t:TA):TE:=fun G H Q=>t G H fun B z=>B.length<=sizeLine/\∀p,z p=none->Q (.ref p) (upd z p (.lst B))
theorem pe_tup {x1}(h:PA X es t):PE X (.Tuple es x1 pos) (tTup t):=by
 intro pins s σ H Q I M;refine wpAny_Tuple_spliced (thn (h pos pins s σ H _ I M) fun U B ⟨Y,G,J,r,z,q⟩=>⟨by rw[<-r.length];exact z,?_⟩);have O:G B.heap.objs.size=none:=J.hok.fresh (zC _);refine⟨.ref B.heap.objs.size,upd G B.heap.objs.size (.tup Y),J.laid (t':=B.toks) (fun b u e=>Heap.get?_push_of_some _ e) (zC _) ?_,rfl,q _ O⟩;exact⟨z,U,r,⟨_,Heap.get?_push_size _ rfl,rfl,_,rfl⟩⟩
theorem pe_lst (h:PA X es t):PE X (.List es pos) (tLst t):=by
 intro pins s σ H Q I M;refine wpAny_List_spliced (thn (h pos pins s σ H _ I M) fun U B ⟨Y,G,J,r,z,q⟩=>⟨by rw[<-r.length];exact z,?_⟩);have O:G B.heap.objs.size=none:=J.hok.fresh (zC _);refine⟨.ref B.heap.objs.size,upd G B.heap.objs.size (.lst Y),J.laid (t':=B.toks) (fun b u e=>Heap.get?_push_of_some _ e) (zC _) ?_,rfl,q _ O⟩;exact⟨z,U,0,r,Heap.get?_push_size _ rfl⟩
end
abbrev Sp:=List V->Hp->VK->XK->Prop
abbrev CXT:=List Env->Hp->Shared->XK->Value->Shared->Prop
structure Env0 (P:Program) (w:World) (K:zA) (mg:Str->Option Value) (base:Heap) (A:Around) (outer:List Env) (s:Shared) (H:Hp):Prop where
 frames:A.frames=some outer
 mod:Mod K mg base
 bs:∀b o,base.get? b=some o->s.heap.get? b=some o/\H b=none
 bsz:base.objs.size<=s.heap.objs.size
 funs:s.heap.FunFrames base outer
 frf:∀b∈frs outer,H b=none
 hok:HOk P w H s.heap
 bare:AllBare s.gens
def CE (outer:List Env)(P:Program)(w:World)(H:Hp)(s:Shared)(Q:VK)(u:Value)(s':Shared):Prop :=
 ∃v z,s'.os=s.os/\AllBare s'.gens/\Un (frs outer) [] H z s.heap s'.heap/\HOk P w z s'.heap/\RelV v u/\Q v z
def CR (CX:CXT)(outer:List Env)(P:Program)(w:World)(H:Hp)(s:Shared)(Q:VK)(E:XK)(r:Result)(s':Shared):Prop :=
 match r with
 |.ok (.ret u)=>CE outer P w H s Q u s'
 |.ok _=>False
 |.error e=>CX outer H s E e s'
structure FnOk (P:Program) (w:World) (K:zA) (mg:Str->Option Value) (base:Heap) (CX:CXT) (k:Nat) (f:Addr) (fd:FuncData) (ps:List Str) (sp:Sp):Prop where
 len:∀vs H Q E,sp vs H Q E->vs.length=ps.length
 run:∀(A:Around) (outer:List Env) (s:Shared) (H:Hp) (args:Args) (us:List Value) (vs:List V) (Q:VK) (E:XK),Room k A->Env0 P w K mg base A outer s H->BindsTo s fd args (ps.zip us)->Vals vs us->sp vs H Q E ->
  codeAny (model P w) A (.call (.ref f) args) (CR CX outer P w H s Q E) s
theorem FnOk.mono {P:Program}{w:World}{K:zA}{z:Str->Option Value}{base:Heap}{CX:CXT}{j k:Nat}{f:Addr}{B:FuncData}{G:List Str}{sp:Sp}(F:FnOk P w K z base CX j f B G sp)(h:j<=k) :
  FnOk P w K z base CX k f B G sp:=⟨F.len,fun A outer s H args O J Q E M=>F.run A outer s H args O J Q E (M.mono h)⟩
section
variable {X:Cx}{pins:List (Addr×Obj)}{σ:St}{H:Hp}{s s':Shared}
theorem Inv.env0 (I:Inv X pins σ H s):Env0 X.prog X.w X.K X.mg X.base X.A X.stack s H :=
 ⟨I.ok.frames,I.ok.mod,I.bs,zR I.ok.bsz I.sz,I.stack,I.stkFree,I.hok,I.bare⟩
theorem Inv.after {Q:VK}{u:Value}(I:Inv X pins σ H s)(h:CE X.stack X.prog X.w H s Q u s'):EP X pins σ Q u s':=by
 obtain⟨v,M,G,bare,un,hok,r,q⟩:=h;obtain⟨J,g,d,t,B⟩:=s';obtain rfl:B=s.os:=G;exact⟨v,M,I.call (h':=J) (g':=g) (d':=d) (t':=t) (ch:=[]) un hok bare (fun b z=>absurd z (by simp)),r,q⟩
end
def tCall (sp:Sp)(z:List V)(E:XK)(t:TA):TE:=fun B H Q=>t B H fun J G=>sp (J++z) G Q E
def Binds (K:zA)(G:FuncData)(B:List Str)(ds:List Value):Prop :=
 ∀(s:Shared) (z:List Value),K.In s.heap->(z++ds).length=B.length->BindsTo s G ⟨z,[]⟩ (B.zip (z++ds))
theorem Binds.all {K:zA}{H:FuncData}{B:List Str}(h:∀z:List Value,z.length=B.length->bindArgs H ⟨z,[]⟩=pure (B.zip z)):Binds K H B []:=fun s z _ G=>by
 rw[zv]at G ⊢
 exact .of_eq (h z G)
def Passes (CX:CXT)(X:Cx)(E:XK):Prop:=∀(pins:List (Addr×Obj)) (B:St) (H:Hp) (s:Shared) (e:Value) (z:Shared),Inv X pins B H s->CX X.stack H s E e z->X.xe e z
section
variable {X:Cx}{CX:CXT}{k:Nat}{f C:Addr}{fd:FuncData}{ps:List Str}{sp:Sp}{dvs:List V}{ds:List Value}{E:XK}{x m:Str}{p pos apos:Pos}{e o:Expr}{es:List Expr}{ta:TE}{t:TA}
theorem run_fn {pins:List (Addr×Obj)}{B:St}{H:Hp}{s:Shared}{Q:VK}{us:List Value}{vs:List V}(F:FnOk X.prog X.w X.K X.mg X.base CX k f fd ps sp)(O:Room k X.A)(J:Binds X.K fd ps ds)(M:Vals dvs ds)(hx:Passes CX X E)
  (I:Inv X pins B H s) (r:Vals vs us) (h:sp (vs++dvs) H Q E):wpAny (model X.prog X.w) X.A (call (.ref f) us) (EP X pins B Q) X.xe s:=by
 have G:Vals (vs++dvs) (us++ds):=r.append M;have hl:(us++ds).length=ps.length:=by rw[<-G.length];exact F.len _ _ _ _ h
 refine wpAny_call (codeAny_mono (F.run X.A X.stack s H ⟨us,[]⟩ (us++ds) (vs++dvs) Q E O I.env0 (J s us I.kIn hl) G h) fun r U z=>?_);cases r with
 |error e=>exact hx pins B H s e U I z
 |ok Y =>
  cases Y with
  |ret u=>exact I.after z
  |next=>exact False.elim z
  |brk=>exact False.elim z
  |cont=>exact False.elim z
theorem pe_call (F:FnOk X.prog X.w X.K X.mg X.base CX k f fd ps sp)(O:Room k X.A)(U:Gl X x)(hm:X.mg x=some (.ref f))(hk:x4 X.K (.ref f)=true)(J:Binds X.K fd ps ds)(M:Vals dvs ds)(hx:Passes CX X E)
  (ha:PA X (e::es) t) (B:(x==("__debug__" : Str))=false:=by decide) (Y:starEach (e::es) X.env=(false,eval e X.env)::starEach es X.env:=by rfl) (z:(backTo pos (starEach es X.env)).any (·.1)=false:=by rfl) :
  PE X (.Call (.Name x p) (e::es) [] pos) (tCall sp dvs E t):=by
 intro pins s σ H Q I h;refine wpAny_Call_Name_kw (ld_glob I U hm ?_ B);refine PySem.W.callWith_K (h₀:=X.base) I.ok.mod.kin hk (thn (ha pos pins s σ H _ I h) fun us s1 ⟨vs,H1,G,r,q⟩=>⟨G.kIn,?_⟩) Y z;exact run_fn F O J M hx G r q
end
section
variable {X:Cx}{CX:CXT}{k:Nat}{f C:Addr}{fd:FuncData}{ps ks:List Str}{sp:Sp}{E:XK}{x m:Str}{p pos apos kpos:Pos}{e o:Expr}{es:List Expr}{kws:List Keyword}{te ta:TE}{t tk:TA}{nm:Option Str}
variable {g:List Value->List Value->List Value}{gV:List V->List V->List V}
end
structure FnScope (N P:List Str) (sc:Scope):Prop where
 kind:sc.kind=.function
 co:sc.isCoroutine=false
 gen:sc.isGenerator=false
 nd:N.Nodup
 pre:N.take P.length=P
 par:∀x∈P,sc.names.lookup x=some .local\/sc.names.lookup x=some .cell
 nofree:∀y∈sc.names,y.2≠.free
theorem bindL_out {kindOf:Str->Option NameKind}{x:Str}:∀{binds:List (Str×Value)} {m:Str->Option Value},(∀v,(x,v)∉binds)->bindL kindOf binds m x=m x
 |[],_,_=>rfl
 |(n,v)::r,m,h=>by
  unfold bindL
  rw[bindL_out fun w z=>h w (zM _ z)]
  split
  ·have:x≠n:=by rintro rfl;exact h v zJ
   simp[this]
  ·rfl
theorem bindC_out {kindOf:Str->Option NameKind}{x:Str}:∀{binds:List (Str×Value)} {m:Str->Option Value},(∀v,(x,v)∉binds)->bindC kindOf binds m x=m x
 |[],_,_=>rfl
 |(n,v)::r,m,h=>by
  unfold bindC
  rw[bindC_out fun w z=>h w (zM _ z)]
  split
  ·rfl
  ·have:x≠n:=by rintro rfl;exact h v zJ
   simp[this]
theorem bindL_get {kindOf:Str->Option NameKind}{x:Str}{v:Value}:∀{P:List Str} {vs:List Value} {i:Nat} {m:Str->Option Value},P.Nodup->P[i]? = some x->vs[i]? = some v->kindOf x=some .local ->
  bindL kindOf (P.zip vs) m x=some v
 |[],_,_,_,_,h,_,_=>by simp at h
 |_::_,[],_,_,_,_,h,_=>by simp at h
 |p::P,w::vs,0,m,H,B,z,G=>by
  simp at B z;subst B;subst z
  show bindL kindOf ((p,w)::P.zip vs) m p=_
  unfold bindL
  rw[bindL_out fun v J=>(jT.mp H).1 (List.of_mem_zip J).1,if_pos G]
  simp
 |p::P,w::vs,i+1,m,H,B,z,G=>by
  show bindL kindOf ((p,w)::P.zip vs) m x=_
  unfold bindL
  exact bindL_get (i:=i) (jT.mp H).2 (by simpa using B) (by simpa using z) G
theorem bindC_get {kindOf:Str->Option NameKind}{x:Str}{v:Value}:∀{P:List Str} {vs:List Value} {i:Nat} {m:Str->Option Value},P.Nodup->P[i]? = some x->vs[i]? = some v->kindOf x≠some .local ->
  bindC kindOf (P.zip vs) m x=some v
 |[],_,_,_,_,h,_,_=>by simp at h
 |_::_,[],_,_,_,_,h,_=>by simp at h
 |p::P,w::vs,0,m,H,B,z,G=>by
  simp at B z;subst B;subst z
  show bindC kindOf ((p,w)::P.zip vs) m p=_
  unfold bindC
  rw[bindC_out fun v J=>(jT.mp H).1 (List.of_mem_zip J).1,if_neg G]
  simp
 |p::P,w::vs,i+1,m,H,B,z,G=>by
  show bindC kindOf ((p,w)::P.zip vs) m x=_
  unfold bindC
  exact bindC_get (i:=i) (jT.mp H).2 (by simpa using B) (by simpa using z) G
def jU (N:List Str)(vs:List V):St:=vs.map some++qQ (N.length-vs.length) none
def cxOf (CX:CXT)(P:Program)(w:World)(K:zA)(G:Str->Option Value)(base:Heap)(N:List Str)(qual:Str)(scope:Scope)(f:Addr)(B:Value)(A:Around)(outer:List Env)(s:Shared)(H:Hp)(E:XK):Cx where
 prog:=P
 w:=w
 K:=K
 mg:=G
 base:=base
 A:=A.deeper (envOfC qual scope s.heap.objs.size f B)
 N:=N
 s₀:=s
 H₀:=H
 env:=envOfC qual scope s.heap.objs.size f B
 outer:=outer
 stack:=envOfC qual scope s.heap.objs.size f B::outer
 ex:=[]
 calm:=true
 fn:=fun _=>true
 pn:=[]
 xe:=fun e M=>wpAny (model P w) (A.deeper (envOfC qual scope s.heap.objs.size f B)) (leaving (envOfC qual scope s.heap.objs.size f B) e) (fun _ z=>CX outer H s E e z) (fun J z=>CX outer H s E J z) M
theorem cell_has {z:Scope}{n:Nat}{x:Str}(h:z.names.lookup x=some .cell):∃c,(cellsFrom n z.names []).lookup x=some c:=by
 have q:=PySem.W.cellsFrom_some z.names n [] (.inl h);exact Option.isSome_iff_exists.mp q
theorem inv_start {CX:CXT}{P:Program}{w:World}{K:zA}{mg:Str->Option Value}{base:Heap}{N J:List Str}{qual:Str}{scope:Scope}{f:Addr}{cd:Value}{A:Around}{outer:List Env}{s s1:Shared}{H:Hp}{E:XK}{us:List Value}{vs:List V}
  (S:FnScope N J scope) (hd:A.handled=none) (G:Env0 P w K mg base A outer s H) (hl:vs.length=J.length) (r:Vals vs us)
  (x:InCallC s s.heap.objs.size (bindL (envOfC qual scope s.heap.objs.size f cd).kindOf (J.zip us) fun _=>none) (cellsFrom (s.heap.objs.size+1) scope.names []) (bindC (envOfC qual scope s.heap.objs.size f cd).kindOf (J.zip us) fun _=>none) s1) :
  Inv (cxOf CX P w K mg base N qual scope f cd A outer s H E) [] (jU N vs) H s1:=by
 have hpl:J.length<=N.length:=by have:=congrArg List.length S.pre;rw[qO]at this;omega
 obtain⟨h1,tk,rfl,hk⟩:=x.done;have M:∀b:Addr,b∉(cxOf CX P w K mg base N qual scope f cd A outer s H E).ex:=fun b z=>absurd (show b∈([]:List Addr) from z) (by simp);refine⟨⟨G.mod,S.kind,rfl,rfl,zC _,fun y z c h1 B=>?_,fun y O=>?_,fun y c _ h=>?_,fun _=>hd,Around.frames_deeper G.frames,.inr ⟨rfl,rfl⟩,fun b z=>absurd z (M b),G.bs,G.bsz,fun b _ _=>M b,fun b z=>absurd z (M b),G.funs,G.frf⟩,
  rfl,G.bare,Un.kept hk,⟨_,x.toInCall.ns,fun i y v h1 B h3=>?_⟩,fun y c h=>⟨_,x.cell y c h⟩,G.hok.fresh (zC _),fun y c h=>?_,fun p U=>absurd (show p∈([]:List (Addr×Obj)) from U) (by simp),G.hok.kept hk,?_⟩
 ·exact name_of_addr x.apart (PySem.mem_of_lookup h1) (PySem.mem_of_lookup B)
 ·have O:scope.names.lookup y=some .cell\/scope.names.lookup y=some .free:=O;rcases O with O|O
  ·exact cell_has O
  ·exact absurd rfl (S.nofree _ (PySem.mem_of_lookup O))
 ·exact Nat.le_of_lt (x.above y c (PySem.mem_of_lookup h))
 ·have hi:i<vs.length:=by
   unfold jU at B;by_cases hi:i<vs.length
   ·exact hi
   ·rw[qG (by simpa using hi)]at B;rw[List.getElem?_replicate]at B;split at B<;>cases B
  have ha:vs[i]? = some v:=by
   unfold jU at B;rw[qH (by simpa using hi),qI]at B;cases e:vs[i]? with
   |none=>rw[e]at B;cases B
   |some a=>rw[e]at B;cases B;rfl
  obtain⟨u,hu,rv⟩:=r.get ha;have U:J[i]? = some y:=by
   rw[<-S.pre,yM (by omega)];exact h1
  have Y:J.Nodup:=by rw[<-S.pre];exact S.nd.sublist (List.take_sublist _ _)
  refine⟨u,rv,?_⟩;rcases S.par y (qE U) with k|k
  ·exact .inl ⟨k,bindL_get Y U hu k⟩
  ·obtain⟨c,e⟩:=cell_has (n:=s.heap.objs.size+1) k;refine .inr ⟨.inl k,c,e,?_⟩;have q:=x.cell y c e;rw[bindC_get Y U hu (by show scope.names.lookup y≠_;rw[k];decide)]at q;exact q
 ·exact G.hok.fresh (Nat.le_of_lt (x.above y c (PySem.mem_of_lookup h)))
 ·unfold jU;show _=N.length
  rw[qF,qC,qL];omega
theorem fn_of {CX:CXT}{P:Program}{w:World}{K:zA}{mg:Str->Option Value}{base:Heap}{k:Nat}{f:Addr}{name qual:Str}{params:Arguments}{body:List Stmt}{scope:Scope}{dV kV doc pm z ct oc:Value}{an od:Option Addr}
  {osl:Array (Option Value)} {N ps:List Str} {sp:Sp} (lk:K.lookup f=some ⟨oc,od,.func (xT name qual params body scope dV kV doc pm an z ct),osl⟩) (hcd:PySem.W.codeIn K z qual=true) (S:FnScope N ps scope)
  (len:∀vs H Q E,sp vs H Q E->vs.length=ps.length)
  (M:∀(A:Around) (outer:List Env) (s:Shared) (H:Hp) (vs:List V) (Q:VK) (E:XK),Room k (A.deeper (envOfC qual scope s.heap.objs.size f z))->sp vs H Q E ->
   ∃t,PSs (cxOf CX P w K mg base N qual scope f z A outer s H E) body t/\t { nx:=fun _ G=>Q .non G,rt:=Q } (jU N vs) H) :
  FnOk P w K mg base CX (k+1) f (xT name qual params body scope dV kV doc pm an z ct) ps sp:=by
 refine⟨len,fun A outer s H args us vs Q E hr Y hb r aa=>?_⟩;have hl:=len _ _ _ _ aa;have KX:K.In s.heap:=Y.mod.kin.keeps fun b o e=>(Y.bs b o e).1;have lim:s.heap.NoLimit:=Y.mod.nolimit.keeps fun b o e=>(Y.bs b o e).1;have O:∀y∈ps.zip us,scope.names.lookup y.1=some .local\/(scope.names.lookup y.1=some .cell/\((cellsFrom (s.heap.objs.size+1) scope.names []).lookup y.1).isSome=true):=fun⟨n,v⟩ hy=>by
  rcases S.par n (List.of_mem_zip hy).1 with q|q
  ·exact .inl q
  ·exact .inr ⟨q,PySem.W.cellsFrom_some _ _ _ (.inl q)⟩
 refine codeAny_call_function hr.depth (KX _ _ lk) rfl S.co S.gen rfl (PySem.W.codeRec_of KX hcd) (hb _ _ _ _ ?_);refine wpAny_newFunctionEnv_cells S.kind O fun env he s1 x=>?_;subst he;refine⟨lim.keeps x.toInCall.keep,codeAny_func ?_⟩;obtain⟨t,ht,hq⟩:=M A outer s H vs Q E (hr.deeper _) aa;have I:Inv (cxOf CX P w K mg base N qual scope f z A outer s H E) [] (jU N vs) H s1:=inv_start S hr.hd Y hl r x;refine wpAny_mono (ht [] s1 (jU N vs) H _ I hq) (fun fl s' U=>?_) fun e s' U=>U;have fin:∀{B:St} {G:Hp} {v:V} {u:Value},Inv (cxOf CX P w K mg base N qual scope f z A outer s H E) [] B G s'->RelV v u->Q v G->CE outer P w H s Q u s' :=
  fun {B G v u} J rv q=>⟨v,G,J.os,J.bare,J.base,J.hok,rv,q⟩
 cases fl with
 |ret u =>
  obtain⟨v,B,G,J,rv,q⟩:=U;exact fin J rv q
 |next =>
  obtain⟨B,G,J,q⟩:=U;exact fin (v:=V.non) (u:=Value.none) J rfl q
 |brk =>
  obtain⟨_,_,_,q⟩:=U;exact False.elim q
 |cont =>
  obtain⟨_,_,_,q⟩:=U;exact False.elim q
section
variable {X:Cx}{x:Str}{p pos:Pos}{e:Expr}{es:List Expr}{t:TA}{id T:String}{r:List V->Hp->VK->Prop}
def tCB (r:List V->Hp->VK->Prop)(t:TA):TE:=fun z H Q=>t z H fun G B=>r G B Q
theorem pe_callB (U:CallR X (.builtin id) r) (J:Gl X x) (hm:X.mg x=none) (hv:bootBuiltins x=some (.builtin id)) (ha:PA X (e::es) t) (hn:x ≠ "__name__":=by decide) (B:(x==("__debug__" : Str))=false:=by decide)
  (M:starEach (e::es) X.env=(false,eval e X.env)::starEach es X.env:=by rfl) (z:(backTo pos (starEach es X.env)).any (·.1)=false:=by rfl):PE X (.Call (.Name x p) (e::es) [] pos) (tCB r t):=by
 intro pins s G H Q I h;refine wpAny_Call_Name_kw (JO I J hm hv ?_ hn B);exact PyProof.Rows.callWith_builtin1 (thn (ha pos pins s G H _ I h) fun O Y ⟨vs,H1,I1,r1,q1⟩=>U pins Y G H1 vs O Q I1 r1 q1) M z
theorem pe_callTy (U:CallR X (.type T) r) (J:Gl X x) (hm:X.mg x=none) (hv:bootBuiltins x=some (.type T)) (ha:PA X (e::es) t) (hn:x ≠ "__name__":=by decide) (B:(x==("__debug__" : Str))=false:=by decide)
  (M:starEach (e::es) X.env=(false,eval e X.env)::starEach es X.env:=by rfl) (z:(backTo pos (starEach es X.env)).any (·.1)=false:=by rfl):PE X (.Call (.Name x p) (e::es) [] pos) (tCB r t):=by
 intro pins s G H Q I h;refine wpAny_Call_Name_kw (JO I J hm hv ?_ hn B);exact PyProof.Rows.callWith_type1 (thn (ha pos pins s G H _ I h) fun O Y ⟨vs,H1,I1,r1,q1⟩=>U pins Y G H1 vs O Q I1 r1 q1) M z
end
end L2
namespace HT
open PySem PyProof.Rows
section
open PySem.SeqAt
open PySem.AutoSeq1 (wpAny_loadPart')
open PySem.MeetsSeq PySem.MeetsSeq2 PySem.MeetsSeq3
end
section
variable {prog:Program}{w:World}{A:Around}{E:Value->Shared->Prop}{s:Shared}
theorem cat_tup {t b:Addr}{vs z:List Value}{Q:Value->Shared->Prop}(ht:IsTup s.heap t vs.toArray)(hb:IsTup s.heap b z.toArray)(hv:vs≠[])
  (h1:z=[]->Q (.ref t) s) (h2:z≠[]->Q (.ref s.heap.objs.size) { s with heap:=s.heap.push { cls:=.type "tuple",data:=.seq (vs++z).toArray } })
  (hsz:vs.length+z.length<=sizeLine):wpAny (model prog w) A (binaryOp .Add (.ref t) (.ref b)) Q E s:=by
 obtain⟨⟨cls,dd,data,sl⟩,M,hc,n,U⟩:=id ht;obtain⟨⟨cls2,J,data2,G⟩,B,H,Y,hd2⟩:=id hb;simp only at hc U H hd2;subst hc U H hd2;have e:vs.toArray++z.toArray=(vs++z).toArray:=by simp
 by_cases O:z=[]
 ·exact concat_meets ⟨_,M,rfl⟩ ⟨_,B,rfl⟩ noFill_tuple_add seq_tuple_add PySem.F.slot_tuple_add PySem.F.entry_tuple_add (PySem.F.args_tuple_add_2 _ _)
   (tuple_addW1 t b vs.toArray z.toArray n Y dd J sl G (by simpa using hv) (by simp[O])) ⟨M,B,h1 O⟩
 ·refine concat_meets ⟨_,M,rfl⟩ ⟨_,B,rfl⟩ noFill_tuple_add seq_tuple_add PySem.F.slot_tuple_add PySem.F.entry_tuple_add (PySem.F.args_tuple_add_2 _ _)
   (tuple_addW2 t b vs.toArray z.toArray n Y dd J sl G (by simpa using hv) (by simpa using O) (by rw[qM,qM];exact hsz)) ⟨M,B,?_⟩
  rw[e];exact h2 O
def sIx (n d:Nat):Option Int->Nat
 |none=>d
 |some v=>if v<0 then (v+(n:Int)).toNat else min v.toNat n
theorem sIx_none (n d:Nat):sIx n d none=d:=rfl
theorem sIx_nat (n d k:Nat):sIx n d (some (k:Int))=min k n:=by
 show(if (k:Int)<0 then ((k:Int)+(n:Int)).toNat else min (k:Int).toNat n)=min k n
 rw[if_neg (by omega),zK]
theorem sIx_le (n d:Nat)(B:d<=n)(o:Option Int):sIx n d o<=n:=by
 cases o with
 |none=>exact B
 |some v =>
  show(if v<0 then (v+(n:Int)).toNat else min v.toNat n)<=n
  by_cases z:v<0
  ·rw[if_pos z];omega
  ·rw[if_neg z];exact Nat.min_le_right _ _
theorem clip_eq (v:Int)(n d:Nat):(if v<0 then max (v+(n:Int)) 0 else min v (n:Int))=((sIx n d (some v):Nat):Int):=by
 show(if v<0 then max (v+(n:Int)) 0 else min v (n:Int))=(((if v<0 then (v+(n:Int)).toNat else min v.toNat n):Nat):Int)
 by_cases z:v<0
 ·simp only[if_pos z];omega
 ·simp only[if_neg z];omega
theorem adjust_gen (lo z:Option Int)(n:Nat):Builtin.Slice.sliceAdjust lo z 1 (n:Int)=(((sIx n 0 lo:Nat):Int),((sIx n n z:Nat):Int)):=by
 have B:¬ ((1:Int)<0):=by omega
 unfold Builtin.Slice.sliceAdjust;simp only[B,if_false];refine Prod.ext ?_ ?_
 ·cases lo with
  |none=>rfl
  |some v=>exact clip_eq v n 0
 ·cases z with
  |none=>rfl
  |some v=>exact clip_eq v n n
theorem places_gen (i j:Nat):Builtin.Slice.slicePlaces (i:Int) (j:Int) 1=j-i:=by
 unfold Builtin.Slice.slicePlaces;have z:(1:Int)>0:=by omega
 simp only[z,if_true,Int.ediv_one];split<;>omega
theorem J8 {v:Value}{o:Option Int}{Q:Option Int->Shared->Prop}(p:IsPart v o)(h:Q o s):wpAny (model prog w) A (Builtin.Slice.slicePartIndex v) Q E s:=by
 cases p with
 |none=>exact slicePart_none h
 |int i t=>exact slicePart_int h
theorem jV {sl:Addr}{H G:Value}{lo B:Option Int}{n:Nat}{Q:Int×Int×Nat->Shared->Prop}(M:s.heap.IsSliceOf sl H G .none)(U:IsPart H lo)(O:IsPart G B)
  (h:Q (((sIx n 0 lo:Nat):Int),1,sIx n n B-sIx n 0 lo) s):wpAny (model prog w) A (Builtin.Slice.sliceApplied (.ref sl) (pure (n:Int))) Q E s:=by
 obtain⟨Y,z,J,hds⟩:=id M;unfold Builtin.Slice.sliceApplied Builtin.Slice.sliceFields;refine wpAny_bind (wpAny_bind (wpAny_field z hds (x:=H) rfl (wpAny_bind (wpAny_field z hds (x:=G) rfl (wpAny_bind (wpAny_field z hds (x:=.none) rfl (wpAny_pure ?_)))))));refine wpAny_bind (slicePart_none ?_);show wpAny _ _ (if ((1:Int)==0)=true then _ else _) _ _ s
 rw[if_neg (by decide)];refine wpAny_bind (J8 U (wpAny_bind (J8 O (wpAny_bind (wpAny_pure ?_)))));show wpAny _ _ (match Builtin.Slice.sliceAdjust lo B 1 (n:Int) with|(lo,B)=>pure (lo,(1:Int),Builtin.Slice.slicePlaces lo B 1)) _ _ s
 rw[adjust_gen lo B n];show wpAny _ _ (pure (((sIx n 0 lo:Nat):Int),(1:Int),Builtin.Slice.slicePlaces ((sIx n 0 lo:Nat):Int) ((sIx n n B:Nat):Int) 1)) _ _ s
 rw[places_gen];exact wpAny_pure h
theorem pick_gen (xs:Array Value)(i k:Nat):((zp k).filterMap fun(m:Nat)=>xs[((i:Int)+(m:Int)*1).toNat]?).toArray=((xs.toList.drop i).take k).toArray:=by
 have e:(fun(m:Nat)=>xs[((i:Int)+(m:Int)*1).toNat]?)=fun m=>xs[i+m]?:=by
  funext m
  have:((i:Int)+(m:Int)*1).toNat=i+m:=by omega
  rw[this]
 rw[e];have:=pick_run xs i k;rw[List.filterMap_map]at this;have z:((fun x=>xs[x]?) ∘ fun x=>i+x)=fun m=>xs[i+m]?:=rfl;rw[z]at this;rw[this]
theorem getItem_tuple_cut {t sl:Addr}{items:Array Value}{U Y:Value}{lo B:Option Int}{Q:Value->Shared->Prop}(G:IsTup s.heap t items)(hs:s.heap.IsSliceOf sl U Y .none)(pl:IsPart U lo)(pu:IsPart Y B)
  (hw:¬ (sIx items.size 0 lo=0/\sIx items.size items.size B=items.size))
  (h:Q (.ref s.heap.objs.size) { s with heap:=s.heap.push { cls:=.type "tuple",data:=.seq ((items.toList.drop (sIx items.size 0 lo)).take (sIx items.size items.size B-sIx items.size 0 lo)).toArray } })
  (hsz:items.size<=sizeLine):wpAny (model prog w) A (getItem (.ref t) (.ref sl)) Q E s:=by
 have z:sizeOk (.seq ((items.toList.drop (sIx items.size 0 lo)).take (sIx items.size items.size B-sIx items.size 0 lo)).toArray):=by
  show((items.toList.drop (sIx items.size 0 lo)).take (sIx items.size items.size B-sIx items.size 0 lo)).toArray.size<=sizeLine
  rw[qM,qO,zu,zD];omega
 have hj:sIx items.size items.size B<=items.size:=sIx_le _ _ (zC _) B;obtain⟨os,O,H,hds⟩:=id hs;have M:s.TypeIs (.ref sl) "slice":=⟨os,O,H⟩;unfold getItem
 try with_reducible refine wpAny_holding ?_
 first|refine wpAny_bind (wpAny_pure ?_)|skip
 refine wpAny_bind (wpAny_sequenceKey G.typeIs (by decide) ?_);refine wpAny_bind (wpAny_callSpecial?_slot (name:=Str.ofString "__getitem__") G.typeIs PyProof.Rows.slot_tuple_getitem
  (wpAny_call_entry PyProof.Rows.slot_tuple_getitem G.typeIs entry_tuple_getitem ?_ (args_tuple_getitem _ _)))
 show wpAny _ _ (Builtin.Tuple.tupleItemsOf (.ref t) >>= _) _ _ s
 refine wpAny_bind (tupleItemsOf_ G ?_);refine wpAny_bind (wpAny_typeOf M ?_);rw[if_pos (by decide)];refine wpAny_bind (jV hs pl pu ?_);have J:¬ ((((sIx items.size 0 lo:Nat):Int)==0&&(1:Int)==1&&(sIx items.size items.size B-sIx items.size 0 lo)==items.size)=true):=by
  intro q;rw[zW,zW]at q;have q1:((sIx items.size 0 lo:Nat):Int)=0:=eq_of_beq q.1.1;have q2:sIx items.size items.size B-sIx items.size 0 lo=items.size:=eq_of_beq q.2;exact hw ⟨by omega,by omega⟩
 show wpAny _ _ (if (((sIx items.size 0 lo:Nat):Int)==0&&(1:Int)==1&&(sIx items.size items.size B-sIx items.size 0 lo)==items.size)=true then _ else _) _ _ s
 rw[if_neg J,pick_gen]
 first
  |exact wpAny_bind (m:=Builtin.Tuple.tupleExact _) (wpAny_newObj_type (wpAny_pure ⟨_,rfl,wpAny_pure h⟩) z)
  |exact wpAny_bind (m:=Builtin.Tuple.tupleExact _) (wpAny_newObj_type (wpAny_bind (wpAny_pure (wpAny_pure ⟨_,rfl,wpAny_pure h⟩))) z)
  |exact wpAny_bind (wpAny_bind (m:=Builtin.Tuple.tupleExact _) (wpAny_newObj_type (wpAny_pure (wpAny_pure ⟨_,rfl,wpAny_pure h⟩)) z))
  |exact wpAny_bind (wpAny_bind (m:=Builtin.Tuple.tupleExact _) (wpAny_newObj_type (wpAny_pure ⟨_,rfl,wpAny_pure h⟩) z))
end
end HT
namespace L2
open PySem PySem.Spec PyProof.Rows
abbrev TO:=St->Hp->(Option Int->Hp->Prop)->Prop
def PO (X:Cx)(e:Option Expr)(t:TO):Prop :=
 ∀(pins:List (Addr×Obj)) (s:Shared) (z:St) (H:Hp) (Q:Option Int->Hp->Prop),Inv X pins z H s->t z H Q ->
  wpAny (model X.prog X.w) X.A (evalPart e X.env) (fun u G=>∃o B,Inv X pins z B G/\IsPart u o/\Q o B) X.xe s
def tNoPart:TO:=fun _ H Q=>Q none H
def tPart (t:TE):TO:=fun z H Q=>t z H fun x B=>∃i,x=.int i/\Q (some i) B
section
variable {X:Cx}{e:Expr}{te:TE}{lo hi:Option Expr}{tl th:TO}{pos p2:Pos}
theorem po_none:PO X none tNoPart:=by
 intro pins s z H Q I h;rw[evalPart_none];exact wpAny_pure ⟨none,H,I,.none,h⟩
theorem po_some (h:PE X e te):PO X (some e) (tPart te):=by
 intro pins s G H Q I z;rw[evalPart_some];refine thn (h pins s G H _ I z) fun u U ⟨x,B,J,O,M⟩=>?_;obtain⟨i,rfl,q⟩:=M;obtain⟨t,rfl⟩:=O;exact⟨some i,B,J,.int i t,q⟩
def SlR (X:Cx)(r:V->Option Int->Option Int->Hp->VK->Prop):Prop :=
 ∀(pins:List (Addr×Obj)) (s:Shared) (z:St) (H:Hp) (x:V) (v B G:Value) (lo hi:Option Int) (sl:Addr) (Q:VK),Inv X pins z H s->RelV x v->s.heap.IsSliceOf sl B G .none->IsPart B lo->IsPart G hi->r x lo hi H Q ->
  ∃T id,typeLookup (.type T) "__getitem__" = pure (some (.builtin id))/\s.TypeIs v T/\wpAny (model X.prog X.w) X.A (getItem v (.ref sl)) (EP X pins z Q) X.xe s
def tSl (r:V->Option Int->Option Int->Hp->VK->Prop)(te:TE)(tl th:TO):TE:=fun z H Q=>te z H fun x G=>tl z G fun l J=>th z J fun u B=>r x l u B Q
theorem pe_slice {r:V->Option Int->Option Int->Hp->VK->Prop}(U:SlR X r)(O:PE X e te)(hl:PO X lo tl)(hu:PO X hi th):PE X (.Subscript e (.Slice lo hi none p2) pos) (tSl r te tl th):=by
 intro pins s B H Q I h;refine Subscript_ (thn (O pins s B H _ I h) fun v s1 ⟨x,H1,I1,r1,q1⟩=>?_);refine wpAny_Slice (thn (hl pins s1 B H1 _ I1 q1) fun G s2 ⟨l,H2,I2,pl,Y⟩=>thn (hu pins s2 B H2 _ I2 Y) fun J z ⟨u,M,I3,pu,q3⟩=>?_);rw[evalPart_none];refine wpAny_pure ?_;have I4:Inv X pins B M { z with heap:=z.heap.push { cls:=.type "slice",data:=.fields #[G,J,.none] } }:=I3.kept (t':=z.toks) fun b ob q=>Heap.get?_push_of_some _ q;obtain⟨T,id,hT,ht,hg⟩:=U pins { z with heap:=z.heap.push { cls:=.type "slice",data:=.fields #[G,J,.none] } } B M x v G J l u z.heap.objs.size Q I4 r1 (Heap.IsSliceOf.new ..) pl pu q3;show wpAny (model X.prog X.w) X.A (subscriptTail e (.Slice lo hi none p2) v (.ref z.heap.objs.size)) (EP X pins B Q) X.xe { z with heap:=z.heap.push { cls:=.type "slice",data:=.fields #[G,J,.none] } }
 exact tail_any (ops:=[.ref z.heap.objs.size,v]) ht hT hg (by with_unfolding_all rfl)
def cutV (xs:List V)(lo hi:Option Int):List V:=(xs.drop (HT.sIx xs.length 0 lo)).take (HT.sIx xs.length xs.length hi-HT.sIx xs.length 0 lo)
theorem J2 (xs:List V)(lo hi:Option Int):(cutV xs lo hi).length<=xs.length:=by
 unfold cutV;rw[qO,zu];omega
def rSlT (K:zA):V->Option Int->Option Int->Hp->VK->Prop:=fun x lo hi H Q=>∃a z,x=.ref a/\SqT K H a z /\
 ¬ (HT.sIx z.length 0 lo=0/\HT.sIx z.length z.length hi=z.length)/\∀p,H p=none->Q (.ref p) (upd H p (.tup (cutV z lo hi)))
theorem sl_tup:SlR X (rSlT X.K):=by
 intro pins s σ H x v vl vu lo hi sl Q I Y hs O pu h;obtain⟨a,z,rfl,U,M,q⟩:=h;cases Y
 obtain⟨B,r,J,G⟩:=I.tuple U;have hlen:B.toArray.size=z.length:=by rw[qM];exact r.length.symm
 refine⟨"tuple",_,PyProof.Rows.slot_tuple_getitem.lookup,J.typeIs,?_⟩;refine HT.getItem_tuple_cut J hs O pu (by rw[hlen];exact M) ?_ (by rw[hlen];exact G);rw[hlen];refine⟨.ref s.heap.objs.size,_,I.laid (t':=s.toks) (o:=.tup (cutV z lo hi)) (fun b ob q=>Heap.get?_push_of_some _ q) (zC _) ?_,rfl,q _ (I.hok.fresh (zC _))⟩;exact⟨zR (J2 z lo hi) G,_,(r.drop (HT.sIx z.length 0 lo)).take (HT.sIx z.length z.length hi-HT.sIx z.length 0 lo),IsTup.new _ _⟩
def rCatT (K:zA):R2:=fun x y H Q=>∃a b B z,x=.ref a/\y=.ref b/\SqT K H a B/\SqT K H b z/\B≠[]/\B.length+z.length<=sizeLine /\
 (z=[]->Q (.ref a) H)/\(z≠[]->∀p,H p=none->Q (.ref p) (upd H p (.tup (B++z))))
theorem Vals.nil_iff {xs:List V}{us:List Value}(r:Vals xs us):us=[]↔xs=[]:=by
 cases r with
 |nil=>simp
 |cons _ _=>simp
theorem op_catT:OpR X (binaryOp .Add) (rCatT X.K):=by
 intro pins s σ H x y v u Q I rx Y h;obtain⟨a,b,xs,ys,rfl,rfl,ha,O,hx,J,q1,U⟩:=h;cases rx
 cases Y
 obtain⟨its,G,p1,_⟩:=I.tuple ha;obtain⟨M,B,p2,_⟩:=I.tuple O;refine HT.cat_tup p1 p2 (fun z=>hx (G.nil_iff.mp z)) (fun z=>⟨.ref a,H,I,rfl,q1 (B.nil_iff.mp z)⟩) (fun z=>?_) (by rw[<-G.length,<-B.length];exact J);refine⟨.ref s.heap.objs.size,_,I.laid (t':=s.toks) (o:=.tup (xs++ys)) (fun b ob q=>Heap.get?_push_of_some _ q) (zC _) ?_,rfl,U (fun w=>z (B.nil_iff.mpr w)) _ (I.hok.fresh (zC _))⟩;exact⟨by rw[qF];exact J,_,G.append B,IsTup.new _ _⟩
end
def ixN (n:Nat)(i:Int):Option Nat:=if 0<=i then (if i<n then some i.toNat else none) else if -(n:Int)<=i then some (i+n).toNat else none
def atI {z:Type}(xs:List z)(i:Int):Option z:=(ixN xs.length i).bind fun j=>xs[j]?
theorem ixN_seq {n:Nat}{i:Int}{j:Nat}(h:ixN n i=some j):seqIndex? i n=some j/\j<n /\ -(n:Int)<=i/\i<n:=by
 unfold ixN at h;by_cases B:0<=i
 ·rw[if_pos B]at h;by_cases z:i<n
  ·rw[if_pos z]at h;have e:i.toNat=j:=Option.some.inj h;exact⟨by rw[seqIndex_of B z,e],by omega,by omega,z⟩
  ·rw[if_neg z]at h;cases h
 ·rw[if_neg B]at h;by_cases z:-(n:Int)<=i
  ·rw[if_pos z]at h;have e:(i+n).toNat=j:=Option.some.inj h;exact⟨by rw[seqIndex_neg (by omega) z,e],by omega,z,by omega⟩
  ·rw[if_neg z]at h;cases h
theorem atI_get {z:Type}{xs:List z}{i:Int}{v:z}(h:atI xs i=some v):∃j,seqIndex? i xs.length=some j/\xs[j]? = some v/\j<xs.length /\ -(xs.length:Int)<=i/\i<xs.length:=by
 unfold atI at h;cases e:ixN xs.length i with
 |none=>rw[e]at h;cases h
 |some j =>
  rw[e]at h;obtain⟨J,B,H,G⟩:=ixN_seq e;exact⟨j,J,h,B,H,G⟩
theorem x9 {z:Type}{xs:List z}{j:Nat}{v:z}(h:xs[j]? = some v):atI xs (j:Int)=some v:=by
 have B:j<xs.length:=(qB.mp h).1;have e:ixN xs.length (j:Int)=some j:=by
  unfold ixN;rw[if_pos (by omega),if_pos (by omega)];simp
 unfold atI;rw[e];exact h
theorem atI_last {z:Type}(xs:List z)(v:z):atI (xs++[v]) (-1)=some v:=by
 have B:(xs++[v]).length=xs.length+1:=by simp
 have e:ixN (xs++[v]).length (-1)=some xs.length:=by
  unfold ixN;rw[B,if_neg (by decide),if_pos (by omega)]
  congr 1
  omega
 unfold atI;rw[e];show(xs++[v])[xs.length]? = some v
 simp
def PlainIx (b:Expr):Prop:=∀o i,subscripted b false o i=operate [o,i] (getItem o i)
def IxR (X:Cx)(r:R2):Prop :=
 ∀(value slice:Expr) (pins:List (Addr×Obj)) (s:Shared) (z:St) (H:Hp) (x y:V) (v u:Value) (Q:VK),Inv X pins z H s->RelV x v->RelV y u->r x y H Q ->
  subscripted slice false v u=operate [v,u] (getItem v u)->wpAny (model X.prog X.w) X.A (subscriptTail value slice v u) (EP X pins z Q) X.xe s
def MtR (X:Cx)(id:String)(r:V->List V->Hp->VK->Prop):Prop :=
 ∀(pins:List (Addr×Obj)) (s:Shared) (G:St) (H:Hp) (x:V) (B:List V) (v:Value) (z:List Value) (Q:VK),Inv X pins G H s->RelV x v->Vals B z->r x B H Q ->
  wpAny (model X.prog X.w) X.A (call (.builtin id) (v::z)) (EP X pins G Q) X.xe s
section
variable {X:Cx}{a b:Expr}{ta tb:TE}{pos:Pos}
theorem pe_ix {r:R2}(B:IxR X r)(J:PE X a ta)(z:PE X b tb)(Y:PlainIx b):PE X (.Subscript a b pos) (tOp r ta tb):=by
 intro pins s M H Q I h;exact Subscript_ (binT J z I h fun v u s2 x y H2 O U G q=>B a b pins s2 M H2 x y v u Q O U G q (Y _ _))
def rIxL (K:zA):R2:=fun x y H Q=>∃p z i v,x=.ref p/\y=.int i/\SqL K H p z/\atI z i=some v/\Q v H
def rIxT (K:zA):R2:=fun x y H Q=>∃p z i v,x=.ref p/\y=.int i/\SqT K H p z/\atI z i=some v/\Q v H
theorem ix_list:IxR X (rIxL X.K):=by
 intro value slice pins s U H x y v u Q I rx ry h Y;obtain⟨p,xs,i,z,rfl,rfl,hq,he,q⟩:=h;cases rx
 obtain⟨t,rfl⟩:=ry;obtain⟨O,r,M,hz⟩:=I.list hq;obtain⟨j,B,h2,h3,h4,h5⟩:=atI_get he;obtain⟨w,ew,G⟩:=r.get h2;have hl:=r.length;have hn:=line63;have fin:EP X pins U Q w s:=⟨z,H,I,G,q⟩;by_cases h0:0<=i
 ·have J:i.toNat=j:=by
   rw[seqIndex_of h0 h5]at B;exact Option.some.inj B
  exact item_listR M.isList h0 (by omega) (by rw[J];simpa using ew) fin Y
 ·have J:(i+(O.toArray.size:Int)).toNat=j:=by
   rw[seqIndex_neg (by omega) h4]at B;rw[qM,<-hl];exact Option.some.inj B
  exact subscriptTail_builtinR (x:=w) M.isList.typeIs slot_list_getitem.lookup
   (wpAny_getItem_list_neg (Q:=fun r s'=>r=w/\EP X pins U Q r s') M.isList (by omega) (by rw[qM]<;>omega) (by omega) (by rw[J];simpa using ew) ⟨rfl,fin⟩) Y
theorem ix_tup:IxR X (rIxT X.K):=by
 intro value slice pins s J H x y v u Q I rx ry h hs;obtain⟨p,xs,i,z,rfl,rfl,hq,U,q⟩:=h;cases rx
 obtain⟨t,rfl⟩:=ry;obtain⟨its,r,G,hz⟩:=I.tuple hq;obtain⟨j,M,O,h3,h4,h5⟩:=atI_get U;obtain⟨w,ew,B⟩:=r.get O;have hl:=r.length;have hn:=line63;have fin:EP X pins J Q w s:=⟨z,H,I,B,q⟩;exact subscriptTail_builtinR (x:=w) G.typeIs slot_tuple_getitem.lookup
  (getItem_tuple (j:=j) (Q:=fun r Y=>r=w/\EP X pins J Q r Y) G (by omega) (by omega) (by rw[qM,<-hl];exact M) (by simpa using ew) ⟨rfl,fin⟩) hs
theorem mapSeq_set (z:List Value)(n j:Nat)(u:Value):Obj.mapSeq (·.setIfInBounds j u) { cls:=.type "list",data:=.seq z.toArray n } = { cls:=.type "list",data:=.seq (z.set j u).toArray n }:=by
 simp[Obj.mapSeq]
theorem Inv.lst {pins:List (Addr×Obj)}{G:St}{H:Hp}{s:Shared}{p:Addr}{xs:List V}(I:Inv X pins G H s)(h:H p=some (.lst xs)) :
  ∃(B:List Value) (n:Nat),Vals xs B/\s.heap.get? p=some { cls:=.type "list",data:=.seq B.toArray n }/\xs.length<=sizeLine:=by
 obtain⟨z,B,n,r,e⟩:=I.hok p _ h;exact⟨B,n,r,e,z⟩
theorem Inv.lstUpd {pins:List (Addr×Obj)}{J:St}{H:Hp}{s:Shared}{p:Addr}{xs G:List V}{z its':List Value}{n B:Nat}{f:Obj->Obj}(I:Inv X pins J H s)(h:H p=some (.lst xs))
  (O:s.heap.get? p=some { cls:=.type "list",data:=.seq z.toArray n }) (M:f { cls:=.type "list",data:=.seq z.toArray n } = { cls:=.type "list",data:=.seq its'.toArray B }) (r:Vals G its') (hz:G.length<=sizeLine) (t:Nat) :
  Inv X pins J (upd H p (.lst G)) { s with heap:=s.heap.update p f,toks:=t }:=by
 have e:(s.heap.update p f).get? p=some { cls:=.type "list",data:=.seq its'.toArray B }:=by
  rw[Heap.get?_update_self f O (by rw[M]<;>rfl),M]
 refine I.write (x:=p) (e:=p) (by rw[h];trivial) (.inl rfl) (fun b u U q=>(Heap.get?_update_other _ _ (Ne.symm U)).trans q) ⟨_,e⟩ ?_;exact⟨hz,its',B,r,e⟩
def rSetL:V->V->V->Hp->(Hp->Prop)->Prop:=fun o i v H Q=>∃p z k j,o=.ref p/\i=.int k/\H p=some (.lst z)/\ixN z.length k=some j/\Q (upd H p (.lst (z.set j v)))
theorem set_list:PSet X rSetL:=by
 intro pins s σ H o i v ov iv u Q I ro ri rv h;obtain⟨p,xs,k,j,rfl,rfl,hp,hj,q⟩:=h;cases ro
 obtain⟨t,rfl⟩:=ri;obtain⟨z,n,r,J,hz⟩:=I.lst hp;obtain⟨B,h2,Y,O⟩:=ixN_seq hj;have G:=r.length;have hn:=line63;have U:Inv X pins σ (upd H p (.lst (xs.set j v))) { s with heap:=s.heap.update p (Obj.mapSeq (·.setIfInBounds j u)) } :=
  I.lstUpd hp J (mapSeq_set z n j u) (r.set rv j) (by rw[List.length_set];exact hz) s.toks
 by_cases h0:0<=k
 ·have M:k.toNat=j:=by
   rw[seqIndex_of h0 O]at B;exact Option.some.inj B
  exact PySem.W.ki_setAt J h0 (by omega) (by rw[qM,<-G];exact O) (by rw[M];exact⟨_,U,q⟩)
 ·have M:(k+(z.toArray.size:Int)).toNat=j:=by
   rw[seqIndex_neg (by omega) Y]at B;rw[qM,<-G];exact Option.some.inj B
  exact PySem.W.ki_setBack J (by omega) (by rw[qM,<-G];exact Y) (by omega) (by rw[M];exact⟨_,U,q⟩)
theorem slice_bounds (lo z:Option Int)(n:Nat):(sliceBounds lo z none n).1=((HT.sIx n 0 lo:Nat):Int)/\(sliceBounds lo z none n).2.1=((HT.sIx n n z:Nat):Int)/\(sliceBounds lo z none n).2.2=1:=by
 refine⟨?_,?_,rfl⟩
 ·cases lo with
  |none=>simp[sliceBounds,HT.sIx]
  |some i =>
   simp only[sliceBounds,HT.sIx,Option.getD_none,show(1:Int)>0 by decide,if_true];by_cases h:i<0
   ·simp only[h,if_true]<;>omega
   ·simp only[h,if_false]<;>omega
 ·cases z with
  |none=>simp[sliceBounds,HT.sIx]
  |some i =>
   simp only[sliceBounds,HT.sIx,Option.getD_none,show(1:Int)>0 by decide,if_true];by_cases h:i<0
   ·simp only[h,if_true]<;>omega
   ·simp only[h,if_false]<;>omega
theorem slicePick_cut (z:List Value)(lo B:Option Int):slicePick z.toArray lo B none=((z.drop (HT.sIx z.length 0 lo)).take (HT.sIx z.length z.length B-HT.sIx z.length 0 lo)).toArray:=by
 obtain⟨G,J,H⟩:=slice_bounds lo B z.toArray.size;unfold slicePick;rw[G,J,H];simp only[sliceRange_one,pick_run,qM]<;>rfl
def rSlL (K:zA):V->Option Int->Option Int->Hp->VK->Prop:=fun x B G H Q=>∃a z,x=.ref a/\SqL K H a z/\∀p,H p=none->Q (.ref p) (upd H p (.lst (cutV z B G)))
theorem sl_list:SlR X (rSlL X.K):=by
 intro pins s σ H x v vl vu B G sl Q I rx hs M pu h;obtain⟨a,z,rfl,O,q⟩:=h;cases rx
 obtain⟨Y,r,J,U⟩:=I.list O;have hlen:=r.length;refine⟨"list",_,slot_list_getitem.lookup,J.isList.typeIs,?_⟩;refine wpAny_getItem_list_slice J.isList hs M pu .none (by simp) ?_ (by rw[qM]<;>omega);rw[slicePick_cut,<-hlen];refine⟨.ref s.heap.objs.size,_,I.laid (t':=s.toks) (o:=.lst (cutV z B G)) (fun b ob q=>Heap.get?_push_of_some _ q) (zC _) ?_,rfl,q _ (I.hok.fresh (zC _))⟩;exact⟨zR (J2 z B G) U,_,0,(r.drop (HT.sIx z.length 0 B)).take (HT.sIx z.length z.length G-HT.sIx z.length 0 B),Heap.get?_push_size _ rfl⟩
def jI:V->Bool
 |.non=>true
 |.bl _=>true
 |.int _=>true
 |.str _=>true
 |_=>false
def eqV:V->V->Bool
 |.non,.non=>true
 |.bl a,.bl b=>a==b
 |.bl a,.int b=>(if a then 1 else 0)==b
 |.int a,.bl b=>a==(if b then 1 else 0)
 |.int a,.int b=>a==b
 |.str a,.str b=>a==b
 |_,_=>false
theorem eqAt_V {A:Around}{s:Shared}{y x:V}{u v:Value}(G:RelV y u)(z:RelV x v)(J:jI y=true)(H:jI x=true):SeqAt.EqAt A s u v (eqV y x):=by
 cases y with
 |non =>
  cases G
  cases x with
  |non=>cases z;exact SeqAt.EqAt.same _
  |bl b=>cases z;exact SeqAt.EqAt.none_bool b
  |int b=>obtain⟨t,rfl⟩:=z;exact SeqAt.EqAt.none_int b t
  |str b=>obtain⟨t,rfl⟩:=z;exact SeqAt.EqAt.none_str b t
  |_=>exact absurd (show false=true from H) zI
 |bl a =>
  cases G
  cases x with
  |non=>cases z;exact SeqAt.EqAt.bool_none a
  |bl b=>cases z;exact SeqAt.EqAt.bool_bool a b
  |int b=>obtain⟨t,rfl⟩:=z;exact SeqAt.EqAt.bool_int a b t
  |str b=>obtain⟨t,rfl⟩:=z;exact SeqAt.EqAt.bool_str a b t
  |_=>exact absurd (show false=true from H) zI
 |int a =>
  obtain⟨B,rfl⟩:=G;cases x with
  |non=>cases z;exact SeqAt.EqAt.int_none a B
  |bl b=>cases z;exact SeqAt.EqAt.int_bool a B b
  |int b=>obtain⟨t,rfl⟩:=z;exact SeqAt.EqAt.int_int a B b t
  |str b=>obtain⟨t,rfl⟩:=z;exact SeqAt.EqAt.int_str a B b t
  |_=>exact absurd (show false=true from H) zI
 |str a =>
  obtain⟨B,rfl⟩:=G;cases x with
  |non=>cases z;exact SeqAt.EqAt.str_none a B
  |bl b=>cases z;exact SeqAt.EqAt.str_bool a B b
  |int b=>obtain⟨t,rfl⟩:=z;exact SeqAt.EqAt.str_int a B b t
  |str b=>obtain⟨t,rfl⟩:=z;exact SeqAt.EqAt.str_str a B b t
  |_=>exact absurd (show false=true from H) zI
 |_=>exact absurd (show false=true from J) zI
def eqU (x:V)(u:Value):Bool:=match u with
 |.none=>eqV .non x
 |.bool b=>eqV (.bl b) x
 |.int i _=>eqV (.int i) x
 |.str z _=>eqV (.str z) x
 |_=>false
theorem eqU_of {x y:V}{u:Value}(r:RelV y u)(f:jI y=true):eqU x u=eqV y x:=by
 cases y with
 |non=>cases r;rfl
 |bl b=>cases r;rfl
 |int i=>obtain⟨t,rfl⟩:=r;rfl
 |str z=>obtain⟨t,rfl⟩:=r;rfl
 |_=>exact absurd (show false=true from f) zI
theorem Jc {x:V}:∀{xs:List V} {us:List Value},Vals xs us->xs.all jI=true->us.any (eqU x)=xs.any fun y=>eqV y x
 |_,_,.nil,_=>rfl
 |y::xs,u::us,.cons r t,f=>by
  rw[List.all_cons,zW]at f
  rw[xi,xi,eqU_of r f.1,Jc t f.2]
theorem jv {A:Around}{s:Shared}{x:V}{v:Value}(B:RelV x v)(G:jI x=true):∀{xs:List V} {us:List Value},Vals xs us->xs.all jI=true->∀u∈us,SeqAt.EqAt A s u v (eqU x u)
 |_,_,.nil,_=>fun u z=>by cases z
 |y::xs,u::us,.cons r t,f=>fun H z=>by
  rw[List.all_cons,zW]at f
  rcases zF.mp z with rfl|z
  ·rw[eqU_of r f.1];exact eqAt_V r B f.1 G
  ·exact jv B G t f.2 H z
def inV (x:V)(xs:List V):Bool:=xs.any fun y=>eqV y x
def rIn (K:zA)(neg:Bool):R2:=fun x y H Q=>∃p z,y=.ref p/\(SqL K H p z\/SqT K H p z)/\jI x=true/\z.all jI=true/\Q (.bl (if neg then !inV x z else inV x z)) H
theorem op_in_seq:OpR X (compareOp .In) (rIn X.K false):=by
 intro pins s σ H x y v u Q I M U h;obtain⟨p,xs,rfl,B,O,fs,q⟩:=h;cases U
 rcases B with B|B
 ·obtain⟨z,r,J,Y⟩:=I.list B;refine SeqAt.in_listAt (eqU x) J.isList (fun w G=>jv M O r fs w (by simpa using G)) ⟨.bl _,H,I,rfl,?_⟩;rw[show z.toArray.any (eqU x)=z.any (eqU x) by simp,Jc r fs];exact q
 ·obtain⟨z,r,J,Y⟩:=I.tuple B;refine SeqAt.in_tupleAt (eqU x) J (fun w G=>jv M O r fs w (by simpa using G)) ⟨.bl _,H,I,rfl,?_⟩;rw[show z.toArray.any (eqU x)=z.any (eqU x) by simp,Jc r fs];exact q
theorem op_notIn_seq:OpR X (compareOp .NotIn) (rIn X.K true):=by
 intro pins s σ H x y v u Q I M U h;obtain⟨p,xs,rfl,B,O,fs,q⟩:=h;cases U
 rcases B with B|B
 ·obtain⟨z,r,J,Y⟩:=I.list B;refine SeqAt.notIn_listAt (eqU x) J.isList (fun w G=>jv M O r fs w (by simpa using G)) ⟨.bl _,H,I,rfl,?_⟩;rw[show z.toArray.any (eqU x)=z.any (eqU x) by simp,Jc r fs];exact q
 ·obtain⟨z,r,J,Y⟩:=I.tuple B;refine SeqAt.notIn_tupleAt (eqU x) J (fun w G=>jv M O r fs w (by simpa using G)) ⟨.bl _,H,I,rfl,?_⟩;rw[show z.toArray.any (eqU x)=z.any (eqU x) by simp,Jc r fs];exact q
theorem call_len_seq:CallR X (.builtin "len") (fun O H Q=>∃p z,O=[.ref p]/\(SqL X.K H p z\/SqT X.K H p z)/\Q (.int z.length) H):=by
 intro pins s σ H O us Q I r h;obtain⟨p,z,rfl,B,q⟩:=h;obtain⟨u,rfl,Y⟩:=jn r;cases Y
 have hn:=line63;rcases B with B|B
 ·obtain⟨J,M,G,U⟩:=I.list B;have hlen:=M.length;exact Calls.call_len_list G.isList (by simp only[qM]<;>omega) ⟨.int z.length,H,I.tok _,⟨s.toks+1,by rw[qM,hlen]⟩,q⟩
 ·obtain⟨J,M,G,U⟩:=I.tuple B;have hlen:=M.length;exact len_tuple G (by simp only[qM]<;>omega) ⟨.int z.length,H,I.tok _,⟨s.toks+1,by rw[qM,hlen]⟩,q⟩
theorem yj:CallR X (.type "list") (fun xs H Q=>∃p M,xs=[.ref p]/\(SqL X.K H p M\/SqT X.K H p M)/\∀l,H l=none->Q (.ref l) (upd H l (.lst M))):=by
 intro pins s σ H xs us Q I r h;obtain⟨p,M,rfl,U,q⟩:=h;obtain⟨u,rfl,rx⟩:=jn r;cases rx
 have fin:∀(z:List Value),Vals M z->M.length<=sizeLine->∀(B:Heap) (G:Nat),(∀b o',s.heap.get? b=some o'->B.get? b=some o') ->
   B.get? s.heap.objs.size=some { cls:=.type "list",dict:=none,data:=.seq z.toArray G,slots:=#[] }->EP X pins σ Q (.ref s.heap.objs.size) { s with heap:=B }:=fun z J O B G kp e =>
  ⟨.ref s.heap.objs.size,_,I.laid (t':=s.toks) kp (zC _) (show ObjOk X.prog X.w _ B _ (.lst M) from⟨O,z,G,J,e⟩),rfl,q _ (I.hok.fresh (zC _))⟩
 rcases U with U|U
 ·obtain⟨z,J,pl,O⟩:=I.list U;have hlen:=J.length;obtain⟨o,ho,hc,n,Y⟩:=pl.isList;exact call_list_seq p (.inl rfl) ho hc Y (fun B G kp e=>fin z J O B G kp e) (by simp only[qM]<;>omega)
 ·obtain⟨z,J,pl,O⟩:=I.tuple U;have hlen:=J.length;obtain⟨o,ho,hc,n,Y⟩:=pl;exact call_list_seq p (.inr rfl) ho hc Y (fun B G kp e=>fin z J O B G kp e) (by simp only[qM]<;>omega)
theorem xj:CallR X (.type "tuple") (fun U H Q=>∃p B,U=[.ref p]/\((SqL X.K H p B/\∀l,H l=none->Q (.ref l) (upd H l (.tup B)))\/(SqT X.K H p B/\Q (.ref p) H))):=by
 intro pins s σ H U us Q I r h;obtain⟨p,B,rfl,h⟩:=h;obtain⟨u,rfl,rx⟩:=jn r;cases rx
 rcases h with⟨J,q⟩|⟨J,q⟩
 ·obtain⟨z,O,M,Y⟩:=I.list J;have hlen:=O.length;refine call_tuple_list M.isList (fun G kp=>?_) (by simp only[qM]<;>omega);have I1:Inv X pins σ H { s with heap:=G }:=I.kept (t':=s.toks) kp;have I2:Inv X pins σ (upd H G.objs.size (.tup B)) { s with heap:=G.push { cls:=.type "tuple",data:=.seq z.toArray } } :=
   I1.laid (t':=s.toks) (fun b o e=>Heap.get?_push_of_some _ e) (zC _) (show ObjOk X.prog X.w _ _ _ (.tup B) from⟨Y,z,O,IsTup.new _ _⟩)
  exact⟨.ref G.objs.size,_,I2,rfl,q _ (I1.hok.fresh (zC _))⟩
 ·obtain⟨z,O,M,Y⟩:=I.tuple J;exact call_tuple_same M ⟨.ref p,H,I,rfl,q⟩
def tyV (K:zA)(T:String)(x:V)(H:Hp):Prop:=match x with
 |.str _=>T = "str"
 |.int _=>T = "int"
 |.ref p=>(T = "list" /\ ∃B,SqL K H p B)\/(T = "tuple" /\ ∃o,K.lookup p=some o/\o.cls=.type "tuple" /\ o.dict=none) \/
   (T = "dict" /\ ((∃z,H p=some (.dK z))\/∃z,H p=some (.dT z)))\/(T = "set" /\ ∃S n,H p=some (.set S n))
 |_=>False
theorem tyV_is {pins:List (Addr×Obj)}{σ:St}{H:Hp}{s:Shared}{T:String}{x:V}{v:Value}(I:Inv X pins σ H s)(r:RelV x v)(ty:tyV X.K T x H) :
  s.TypeIs v T/\∀a,v=.ref a->∃O,s.heap.get? a=some O/\O.dict=none:=by
 cases x with
 |str z =>
  obtain⟨t,rfl⟩:=r;cases (show T = "str" from ty)
  exact⟨typeIs_str s z t,fun _ e=>nomatch e⟩
 |int i =>
  obtain⟨t,rfl⟩:=r;cases (show T = "int" from ty)
  exact⟨typeIs_int s i t,fun _ e=>nomatch e⟩
 |ref p =>
  cases r
  rcases ty with⟨rfl,xs,Y⟩|⟨rfl,o,B,hc,G⟩|⟨rfl,B⟩|⟨rfl,S,n,B⟩
  ·obtain⟨its,_,U,_⟩:=I.list Y;refine⟨U.isList.typeIs,fun a e=>?_⟩;cases e
   obtain⟨o,n,e,c,G,_⟩:=U;exact⟨o,e,G⟩
  ·refine⟨⟨o,I.kIn p o B,hc⟩,fun a e=>?_⟩;cases e
   exact⟨o,I.kIn _ o B,G⟩
  ·have z:∃o,s.heap.get? p=some o/\o.ExactDict:=by
    rcases B with⟨J,B⟩|⟨J,B⟩
    ·obtain⟨_,_,_,_,o,_,_,e,ex,_⟩:=I.hok p _ B;exact⟨o,e,ex⟩
    ·obtain⟨_,_,_,_,o,_,_,e,ex,_⟩:=I.hok p _ B;exact⟨o,e,ex⟩
   obtain⟨o,e,ex⟩:=z;refine⟨⟨o,e,ex.1⟩,fun a M=>?_⟩;cases M
   exact⟨o,e,ex.2.1⟩
  ·obtain⟨o,_,_,_,e,ex,_⟩:=I.hok p _ B;refine⟨⟨o,e,ex.1⟩,fun a M=>?_⟩;cases M
   exact⟨o,e,ex.2.1⟩
 |_=>exact False.elim ty
def tBM0 (K:zA)(T:String)(r:V->List V->Hp->VK->Prop)(G:TE):TE:=fun B H Q=>G B H fun x z=>tyV K T x z/\r x [] z Q
def tBM (K:zA)(T:String)(r:V->List V->Hp->VK->Prop)(G:TE)(t:TA):TE:=fun z H Q=>G z H fun x B=>tyV K T x B/\t z B fun J M=>r x J M Q
variable {o e:Expr}{es:List Expr}{to:TE}{t:TA}{name:Str}{apos cpos:Pos}{T id:String}{r:V->List V->Hp->VK->Prop}
theorem pe_bm0 (pa:PlainAttrs T) (slot:Slot T name id) (G:typeOf (.builtin id)=pure (.type "method_descriptor")) (hm:MtR X id r) (U:PE X o to)
  (z:attributeBase o name X.env (eval o X.env)=eval o X.env:=by rfl) (B:(apos.endLine==cpos.line)=true:=by rfl):PE X (.Call (.Attribute o name apos) [] [] cpos) (tBM0 X.K T r to):=by
 intro pins s J H Q I h;refine wpAny_Call_method0_late z B (thn (U pins s J H _ I h) fun v s1 ⟨x,H1,M,O,ty,q1⟩=>?_);obtain⟨h1,Y⟩:=tyV_is M O ty;exact⟨T,id,pa,slot,G,h1,Y,Calls.callWith_builtin rfl (PySem.evalArgs_none (hm pins s1 J H1 x [] v [] Q M O .nil q1))⟩
theorem pe_bm (pa:PlainAttrs T) (slot:Slot T name id) (O:typeOf (.builtin id)=pure (.type "method_descriptor")) (hm:MtR X id r) (ho:PE X o to) (ha:PA X (e::es) t)
  (G:attributeBase o name X.env (eval o X.env)=eval o X.env:=by rfl)
  (J:((backTo cpos (starEach (e::es) X.env)).all (fun x=>!x.1)&&(backToKw cpos (keywordEach [] X.env)).all (fun x=>x.1.isSome)
   && decide ((e::es).length+([]:List Keyword).length+(if ([]:List Keyword).isEmpty then 0 else 1)<30))=true:=by rfl)
  (B:(apos.endLine==cpos.line)=true:=by rfl) (hs:starEach (e::es) X.env=(false,eval e X.env)::starEach es X.env:=by rfl) (z:(backTo cpos (starEach es X.env)).any (·.1)=false:=by rfl) :
  PE X (.Call (.Attribute o name apos) (e::es) [] cpos) (tBM X.K T r to t):=by
 intro pins s M H Q I h;refine wpAny_Call_method_late G J B rfl (thn (ho pins s M H _ I h) fun v s1 ⟨x,H1,Y,r1,ty,q1⟩=>?_);obtain⟨h1,h2⟩:=tyV_is Y r1 ty;refine⟨T,id,pa,slot,O,h1,h2,?_⟩;have U:=ha cpos pins s1 M H1 _ Y q1;rw[hs]at U ⊢;refine Calls.callWith_builtin (by show(false || (backTo cpos (starEach es X.env)).any (·.1))=false;rw[z]<;>rfl) (Calls.evalArgs_plain ?_);exact thn U fun us s2 ⟨vs,H2,I2,r2,q2⟩=>hm pins s2 M H2 x vs v us Q I2 r1 r2 q2
end
def MtM (X:Cx)(id:String)(r:V->List V->Hp->VK->Prop):Prop :=
 ∀(pins:List (Addr×Obj)) (s:Shared) (G:St) (H:Hp) (x:V) (B:List V) (v:Value) (z:List Value) (Q:VK),Inv X pins G H s->RelV x v->Vals B z->r x B H Q ->
  wpAny (model X.prog X.w) X.A (call (.builtin id) (v::z)) (EP X pins G Q) X.xe s
theorem Vals.one:∀{x:V} {us:List Value},Vals [x] us->∃u,us=[u]/\RelV x u
 |_,_,.cons r .nil=>⟨_,rfl,r⟩
theorem Vals.two:∀{x y:V} {us:List Value},Vals [x,y] us->∃u v,us=[u,v]/\RelV x u/\RelV y v:=by
 intro x y us h;cases h with
 |cons r t =>
  cases t with
  |cons q n =>
   cases n
   exact⟨_,_,rfl,r,q⟩
section
variable {X:Cx}{pins:List (Addr×Obj)}{σ:St}{H:Hp}{s:Shared}{l b:Addr}{xs ys zs:List V}
theorem Inv.lset {z its':List Value}{n:Nat}{f:Array Value->Array Value}{t':Nat}(I:Inv X pins σ H s)(G:H l=some (.lst xs))
  (e:s.heap.get? l=some { cls:=.type "list",data:=.seq z.toArray n }) (O:f z.toArray=its'.toArray) (M:Vals ys its') (hz:ys.length<=sizeLine) :
  Inv X pins σ (upd H l (.lst ys)) { s with heap:=s.heap.update l (Obj.mapSeq f),toks:=t' }:=by
 have q:=PySem.IsL.update e f;rw[O]at q;refine I.write (x:=l) (e:=l) (by rw[G];exact trivial) (.inl rfl) (fun U u B J=>(Heap.get?_update_other s.heap (Obj.mapSeq f) (Ne.symm B)).trans J) ⟨_,q⟩ ?_;exact⟨hz,its',_,M,q⟩
theorem Inv.lnew {z:List Value}{t':Nat}(I:Inv X pins σ H s)(B:Vals ys z)(hz:ys.length<=sizeLine) :
  Inv X pins σ (upd H s.heap.objs.size (.lst ys)) { s with heap:=s.heap.push { cls:=.type "list",data:=.seq z.toArray },toks:=t' } :=
 I.laid (fun _ _ q=>Heap.get?_push_of_some _ q) (zC _) ⟨hz,z,0,B,Heap.get?_push_size _ rfl⟩
theorem Inv.fresh (I:Inv X pins σ H s):H s.heap.objs.size=none:=I.hok.fresh (zC _)
theorem Inv.lstM (I:Inv X pins σ H s)(G:H l=some (.lst xs)):xs.length<=sizeLine/\∃(B:List Value) (n:Nat),Vals xs B/\xs.length=B.length/\s.heap.get? l=some { cls:=.type "list",data:=.seq B.toArray n }:=by
 obtain⟨z,B,n,r,e⟩:=I.hok l _ G;exact⟨z,B,n,r,r.length,e⟩
end
section
variable {X:Cx}
def rAppend:V->List V->Hp->VK->Prop:=fun x B H Q=>∃l z y,x=.ref l/\B=[y]/\H l=some (.lst z)/\z.length<sizeLine/\Q .non (upd H l (.lst (z++[y])))
theorem mt_append:MtM X "list.append" rAppend:=by
 intro pins s σ H x vs v U Q I O M h;obtain⟨l,Y,y,rfl,rfl,G,hz,q⟩:=h;cases O
 obtain⟨u,rfl,J⟩:=M.one;obtain⟨z,B,n,r,hl,e⟩:=I.lstM G;refine call_meets F.slot_list_append ⟨_,e,rfl⟩ F.entry_list_append (F.args_list_append_2 _ _) (PySem.list_append l B.toArray n u (by rw[qM];omega)) ⟨e,?_⟩;refine⟨.non,_,I.lset (its':=B++[u]) G e (by simp) (r.append (.cons J .nil)) ?_,rfl,q⟩;rw[qF,yJ];omega
def rExtend:V->List V->Hp->VK->Prop:=fun x G H Q=>∃l b B z,x=.ref l/\G=[.ref b]/\H l=some (.lst B)/\H b=some (.lst z)/\B.length+z.length<=sizeLine/\Q .non (upd H l (.lst (B++z)))
def rPop:V->List V->Hp->VK->Prop:=fun x B H Q=>∃l z y,x=.ref l/\B=[]/\H l=some (.lst z)/\z[z.length-1]? = some y/\Q y (upd H l (.lst z.dropLast))
def rReverse:V->List V->Hp->VK->Prop:=fun x B H Q=>∃l z,x=.ref l/\B=[]/\H l=some (.lst z)/\Q .non (upd H l (.lst z.reverse))
def rClear:V->List V->Hp->VK->Prop:=fun x B H Q=>∃l z,x=.ref l/\B=[]/\H l=some (.lst z)/\Q .non (upd H l (.lst []))
def rCat:R2:=fun x y H Q=>∃l b B z,x=.ref l/\y=.ref b/\H l=some (.lst B)/\H b=some (.lst z)/\B.length+z.length<=sizeLine/\∀p,H p=none->Q (.ref p) (upd H p (.lst (B++z)))
theorem op_cat:OpR X (binaryOp .Add) rCat:=by
 intro pins s σ H x y v u Q I rx M h;obtain⟨l,b,xs,zs,rfl,rfl,J,Y,hz,q⟩:=h;cases rx
 cases M
 obtain⟨z,G,n,r,hl,e⟩:=I.lstM J;obtain⟨z2,B,n2,r2,U,e2⟩:=I.lstM Y;refine PySem.P.add_list e e2 ?_ (by rw[qM,qM];omega);have O:G.toArray++B.toArray=(G++B).toArray:=by simp
 rw[O];exact⟨.ref _,_,I.lnew (t':=s.toks) (r.append r2) (by rw[qF];omega),rfl,q _ I.fresh⟩
end
section
variable {prog:Program}{w:World}{A:Around}{E:Value->Shared->Prop}{s:Shared}
end
section
variable {X:Cx}
end
section
variable {κ:Type}[DecidableEq κ]
def yw (z:List (κ×V))(k:κ):Option V:=(z.find? fun B=>decide (B.1=k)).map (·.2)
def xA (z:List (κ×V))(k:κ)(v:V):List (κ×V) :=
 if (z.any fun B=>decide (B.1=k))=true then z.map (fun B=>if B.1=k then (B.1,v) else B) else z++[(k,v)]
theorem valV_nil {k:κ}:yw ([]:List (κ×V)) k=none:=rfl
theorem xw {p:κ×V}{r:List (κ×V)}{k:κ}(e:p.1=k):yw (p::r) k=some p.2:=by simp[yw,xc,e]
theorem xx {p:κ×V}{r:List (κ×V)}{k:κ}(e:¬ p.1=k):yw (p::r) k=yw r k:=by simp[yw,xc,e]
theorem xG (k:κ):∀z:List (κ×V),(z.any fun B=>decide (B.1=k))=(yw z k).isSome
 |[]=>rfl
 |p::r=>by
  rw[xi]
  by_cases e:p.1=k
  ·simp only[xw e,decide_eq_true e,Bool.true_or,Option.isSome_some]
  ·rw[xx e,decide_eq_false e,Bool.false_or];exact xG k r
theorem jw (z:List (κ×V))(k:κ)(v:V):(xA z k v).length<=z.length+1:=by
 unfold xA;split
 ·rw[qC];omega
 ·rw[qF,zH,y6];omega
theorem putK_new {z:List (κ×V)}{k:κ}(v:V)(h:yw z k=none):xA z k v=z++[(k,v)]:=by
 unfold xA;rw[xG,h];exact if_neg (by decide)
theorem RelO.isSome_eq {o:Option V}{u:Option Value}(r:RelO o u):o.isSome=u.isSome:=by
 cases o with
 |none=>cases u with
  |none=>rfl
  |some _=>exact(show False from r).elim
 |some _=>cases u with
  |none=>exact(show False from r).elim
  |some _=>rfl
theorem KV.val {B:List (κ×V)}{vs:List (κ×Value)}(r:KV B vs)(k:κ):RelO (yw B k) (valueAt vs k):=by
 unfold KV at r;induction r with
 |nil=>exact True.intro
 |@cons p q O H h t ih =>
  obtain⟨J,M⟩:=h;by_cases e:p.1=k
  ·have G:q.1=k:=J.symm.trans e;have b:valueAt (q::H) k=some q.2:=by simp[valueAt,xc,G]
   rw[xw e,b];exact M
  ·have G:¬ q.1=k:=fun z=>e (J.trans z);have b:valueAt (q::H) k=valueAt H k:=by simp[valueAt,xc,G]
   rw[xx e,b];exact ih
theorem KV.any {z:List (κ×V)}{vs:List (κ×Value)}(r:KV z vs)(k:κ):(z.any fun B=>decide (B.1=k))=vs.any fun B=>decide (B.1=k):=by
 unfold KV at r;induction r with
 |nil=>rfl
 |cons h t ih=>rw[xi,xi,ih,h.1]
theorem KV.repl {G:List (κ×V)}{vs:List (κ×Value)}(r:KV G vs)(k:κ){y:V}{u:Value}(M:RelV y u) :
  KV (G.map fun B=>if B.1=k then (B.1,y) else B) (vs.map fun B=>if B.1=k then (B.1,u) else B):=by
 unfold KV at r ⊢;induction r with
 |nil=>exact .nil
 |@cons p q U O h t ih =>
  rw[zO,zO];refine .cons ?_ ih;obtain⟨H,J⟩:=h;by_cases e:p.1=k
  ·rw[if_pos e,if_pos (H.symm.trans e)];exact⟨H,M⟩
  ·rw[if_neg e,if_neg (fun z=>e (H.trans z))];exact⟨H,J⟩
theorem KV.put {z:List (κ×V)}{vs:List (κ×Value)}(r:KV z vs)(k:κ){y:V}{u:Value}(B:RelV y u):KV (xA z k y) (stored vs k u):=by
 unfold xA stored;rw[r.any k];by_cases e:(vs.any fun G=>decide (G.1=k))=true
 ·rw[if_pos e,if_pos e];exact r.repl k B
 ·rw[if_neg e,if_neg e];exact Paired.snoc r ⟨rfl,B⟩
theorem KV.length {z:List (κ×V)}{vs:List (κ×Value)}(r:KV z vs):z.length=vs.length:=Paired.length r
end
theorem kV_is {P:Program}{w:World}{k:Key}{u:Value}(r:RelV (kV k) u):(yl P w).is k u=true:=by
 cases k with
 |inl i=>obtain⟨t,e⟩:=(show ∃t,u=Value.int i t from r);subst e;exact mixKind_int P w i t
 |inr x=>obtain⟨t,e⟩:=(show ∃t,u=Value.str x t from r);subst e;exact mixKind_str P w x t
theorem items_are {P:Program}{w:World}:∀{ks:List Key} {us:List Value},Vals (ks.map kV) us->ItemsAre (yl P w) ks us
 |[],_,r=>by rw[List.map_nil]at r;cases r;exact .nil
 |k::ks,_,r=>by
  rw[zO]at r
  cases r with
  |cons h t=>exact .cons (kV_is h) (items_are t)
abbrev KT (H:Hp):List (List Key×V)->List (List Key×Addr×Value)->Prop:=Paired fun p q=>p.1=q.1/\H q.2.1=some (.tup (p.1.map kV))/\RelV p.2 q.2.2
theorem KT.val {H:Hp}{B:List (List Key×V)}{xs:List (List Key×Addr×Value)}(r:KT H B xs)(k:List Key):RelO (yw B k) ((atKey xs k).map (·.2)):=by
 induction r with
 |nil=>exact True.intro
 |@cons p q U J h t ih =>
  obtain⟨M,_,O⟩:=h;by_cases e:p.1=k
  ·have G:q.1=k:=M.symm.trans e;have b:atKey (q::J) k=some q.2:=by simp[atKey,xc,G]
   rw[xw e,b];exact O
  ·have G:¬ q.1=k:=fun z=>e (M.trans z);have b:atKey (q::J) k=atKey J k:=by simp[atKey,xc,G]
   rw[xx e,b];exact ih
theorem KT.repl {H:Hp}{B:List (List Key×V)}{xs:List (List Key×Addr×Value)}(r:KT H B xs)(k:List Key){y:V}{u:Value}(O:RelV y u) :
  KT H (B.map fun J=>if J.1=k then (J.1,y) else J) (xs.map (putAt k u)):=by
 induction r with
 |nil=>exact .nil
 |@cons p q ps Y h t ih =>
  rw[zO,zO];refine .cons ?_ ih;obtain⟨G,M,U⟩:=h;unfold putAt;by_cases e:p.1=k
  ·rw[if_pos e,if_pos (G.symm.trans e)];exact⟨G,M,O⟩
  ·rw[if_neg e,if_neg (fun z=>e (G.trans z))];exact⟨G,M,U⟩
theorem KT.put {H:Hp}{z:List (List Key×V)}{xs:List (List Key×Addr×Value)}(r:KT H z xs)(k:List Key){b:Addr}{y:V}{u:Value}(G:H b=some (.tup (k.map kV)))(B:RelV y u) :
  KT H (xA z k y) (storedH xs k b u):=by
 have e:(z.any fun J=>decide (J.1=k))=(atKey xs k).isSome:=by
  rw[xG,(r.val k).isSome_eq,Option.isSome_map]
 unfold xA storedH;rw[e];by_cases q:(atKey xs k).isSome=true
 ·rw[if_pos q,if_pos q];exact r.repl k B
 ·rw[if_neg q,if_neg q];exact Paired.snoc r ⟨rfl,G,B⟩
theorem KT.keeps {H H':Hp}{B:List (List Key×V)}{xs:List (List Key×Addr×Value)}(r:KT H B xs)(J:∀b G,H b=some (.tup G)->H' b=some (.tup G)):KT H' B xs :=
 Paired.mapP r fun _ _ z=>⟨z.1,J _ _ z.2.1,z.2.2⟩
section
variable {P:Program}{w:World}{H:Hp}{h:Heap}{a:Addr}
theorem rd_of {u:HO}(ok:HOk P w H h)(e:Rd H a u):ObjOk P w H h a u:=e.ok ok
theorem dk_rd {z:List (Key×V)}(ok:HOk P w H h)(e:Rd H a (.dK z)):z.length<=sizeLine/\(a==sysModules)=false/\∃B,KV z B/\h.DictOf (yl P w) a B :=
 show ObjOk P w H h a (.dK z) from rd_of ok e
theorem dk_of {z:List (Key×V)}(ok:HOk P w H h)(e:H a=some (.dK z)):z.length<=sizeLine/\(a==sysModules)=false/\∃B,KV z B/\h.DictOf (yl P w) a B:=dk_rd ok (.inl e)
theorem key_of {ks:List Key}(ok:HOk P w H h)(e:H a=some (.tup (ks.map kV))):(tupleKind (yl P w)).is h ks a:=by
 obtain⟨_,z,r,o,J,B,n,G⟩:=(show ObjOk P w H h a (.tup (ks.map kV)) from ok a _ e);exact⟨o,z.toArray,n,J,B,G,by simpa using items_are r⟩
theorem dt_rd {B:List (List Key×V)}(ok:HOk P w H h)(e:Rd H a (.dT B)):B.length<=sizeLine/\(a==sysModules)=false /\
  ∃J,KT H B J/\h.DictOfH (tupleKind (yl P w)) a J:=by
 obtain⟨z,y,J,r,o,Y,ep,h1,O,h3,U,h5⟩:=(show ObjOk P w H h a (.dT B) from rd_of ok e);refine⟨z,y,J,r,o,Y,ep,h1,O,h3,U,fun x G=>?_,h5⟩;have all:∀{l:List (List Key×V)} {m:List (List Key×Addr×Value)},KT H l m->∀x∈m,(tupleKind (yl P w)).is h x.1 x.2.1:=by
  intro l m q;induction q with
  |nil=>intro x G;exact nomatch G
  |@cons p q ps qs M t ih =>
   intro x G;rcases zF.mp G with e|G
   ·subst e;exact key_of ok (by rw[<-M.1];exact M.2.1)
   ·exact ih x G
 exact all r x G
theorem dt_of {z:List (List Key×V)}(ok:HOk P w H h)(e:H a=some (.dT z)):z.length<=sizeLine/\(a==sysModules)=false /\
  ∃B,KT H z B/\h.DictOfH (tupleKind (yl P w)) a B:=dt_rd ok (.inl e)
end
def DGet (H:Hp)(a:Addr)(y:V)(r:Option V):Prop :=
 (∃z k,Rd H a (.dK z)/\y=kV k/\r=yw z k)\/∃z k b,Rd H a (.dT z)/\y=.ref b/\H b=some (.tup (k.map kV))/\r=yw z k
def DPut (H:Hp)(a:Addr)(y v:V)(H':Hp):Prop :=
 (∃z k,H a=some (.dK z)/\y=kV k/\z.length<sizeLine/\H'=upd H a (.dK (xA z k v))) \/
 ∃z k b,H a=some (.dT z)/\y=.ref b/\H b=some (.tup (k.map kV))/\z.length<sizeLine/\H'=upd H a (.dT (xA z k v))
theorem DGet.k {H:Hp}{a:Addr}{z:List (Key×V)}{k:Key}(e:H a=some (.dK z)):DGet H a (kV k) (yw z k):=.inl ⟨z,k,.inl e,rfl,rfl⟩
theorem DPut.k {H:Hp}{a:Addr}{z:List (Key×V)}{k:Key}{v:V}(e:H a=some (.dK z))(B:z.length<sizeLine):DPut H a (kV k) v (upd H a (.dK (xA z k v))):=.inl ⟨z,k,e,rfl,B,rfl⟩
theorem DPut.t {H:Hp}{a b:Addr}{z:List (List Key×V)}{k:List Key}{v:V}(e:H a=some (.dT z))(B:H b=some (.tup (k.map kV)))(G:z.length<sizeLine) :
  DPut H a (.ref b) v (upd H a (.dT (xA z k v))):=.inr ⟨z,k,b,e,rfl,B,G,rfl⟩
section
variable {X:Cx}{pins:List (Addr×Obj)}{σ:St}{H:Hp}{s:Shared}{a:Addr}{y v:V}{u r:Value}{o:Option V}{A:Around}{E:Value->Shared->Prop}
theorem Inv.big (I:Inv X pins σ H s):sysModules<s.heap.objs.size:=by
 have h:mainGlobals<s.heap.objs.size:=(I.mod.glob.keeps I.bk).lt;exact Nat.lt_trans (by decide) h
theorem d_getItem {Q:Value->Shared->Prop}(hu:A.units+1<cLine)(I:Inv X pins σ H s)(g:DGet H a y (some v))(ry:RelV y u)(h:∀G s',Inv X pins σ H s'->RelV v G->Q G s') :
  wpAny (model X.prog X.w) A (getItem (.ref a) u) Q E s:=by
 rcases g with⟨O,k,e,U,l⟩|⟨O,k,b,e,U,eb,l⟩
 ·subst U;obtain⟨z,hd,vs,rel,Y⟩:=dk_rd I.hok e;obtain⟨G,M,B⟩:=RelO.some_of (v:=v) (o:=valueAt vs k) (by rw[l];exact rel.val k);exact wpAny_getItem_of (kV_is ry) Y.mapOf M (h G _ (I.tok _) B)
 ·subst U;cases (show u=Value.ref b from ry)
  obtain⟨z,hd,xs,rel,Y⟩:=dt_rd I.hok e;obtain⟨G,M,B⟩:=RelO.some_of (v:=v) (o:=(atKey xs k).map (·.2)) (by rw[l];exact rel.val k);obtain⟨p,hp,J⟩:=zy.mp M;refine wpAny_getItem_heap (tupleKind_room_in1 hu) (key_of I.hok eb) Y hp ?_;rw[J];exact h G _ (I.tok _) B
theorem d_in {Q:Value->Shared->Prop}(hu:A.units+1<cLine)(I:Inv X pins σ H s)(g:DGet H a y o)(O:RelV y u)(h:∀U,Inv X pins σ H U->Q (.bool o.isSome) U) :
  wpAny (model X.prog X.w) A (compareOp .In u (.ref a)) Q E s:=by
 rcases g with⟨G,k,e,J,l⟩|⟨G,k,b,e,J,Y,l⟩
 ·subst J;obtain⟨z,B,vs,rel,M⟩:=dk_rd I.hok e;refine wpAny_in_of (kV_is O) B M.mapOf ?_;rw[<-(rel.val k).isSome_eq,<-l];exact h _ (I.tok _)
 ·subst J;cases (show u=Value.ref b from O)
  obtain⟨z,B,xs,rel,M⟩:=dt_rd I.hok e;refine wpAny_in_heap (tupleKind_room_in1 hu) (key_of I.hok Y) B M ?_;have q:=(rel.val k).isSome_eq;rw[Option.isSome_map]at q;rw[<-q,<-l];exact h _ (I.tok _)
theorem d_write {h':Heap}{t':Nat}{B:HO}(I:Inv X pins σ H s)(G:Mut (H a))(O:Heap.SameBut a s.heap h')(M:∃q,h'.get? a=some q)(new:ObjOk X.prog X.w (upd H a B) h' a B) :
  Inv X pins σ (upd H a B) { s with heap:=h',toks:=t' } :=
 I.write (x:=a) (e:=a) G (.inl rfl) (fun b q J z=>(O.2 b J).trans z) M new
theorem dk_new {P:Program}{w:World}{H':Hp}{h':Heap}{B:List (Key×V)}{vs:List (Key×Value)}(z:B.length<=sizeLine)(G:(a==sysModules)=false)(rel:KV B vs)(dd:h'.DictOf (yl P w) a vs) :
  ObjOk P w H' h' a (.dK B):=⟨z,G,vs,rel,dd⟩
theorem d_setItem {H':Hp}{Q:Unit->Shared->Prop}(hu:A.units+1<cLine)(I:Inv X pins σ H s)(g:DPut H a y v H')(ry:RelV y u)(rv:RelV v r)(h:∀s',Inv X pins σ H' s'->Q () s') :
  wpAny (model X.prog X.w) A (setItem (.ref a) u r) Q E s:=by
 rcases g with⟨B,k,e,ey,l,eH⟩|⟨B,k,b,e,ey,eb,l,eH⟩
 ·subst ey eH;obtain⟨z,M,vs,rel,Y⟩:=dk_of I.hok e;have O:vs.length<=sizeLine:=by rw[<-rel.length];exact z
  have hl:(xA B k v).length<=sizeLine:=by have:=jw B k v;omega
  refine wpAny_setItem_pairs (hsz:=O) (kV_is ry) Y fun h' G U=>h _ ?_;have he:∃q,h'.get? a=some q:=let ⟨q,_,_,J,_⟩:=G;⟨q,J⟩
  exact d_write I (by rw[e];exact True.intro) U he (dk_new hl M (rel.put k rv) G)
 ·subst ey eH;cases (show u=Value.ref b from ry)
  obtain⟨z,M,xs,rel,Y⟩:=dt_of I.hok e;have O:xs.length<=sizeLine:=by rw[<-Paired.length rel];exact z
  have hl:(xA B k v).length<=sizeLine:=by have:=jw B k v;omega
  refine wpAny_setItem_heap (hsz:=O) (tupleKind_room_in1 hu) (key_of I.hok eb) Y fun h' G U=>h _ ?_;obtain⟨q,es,ep,J,h2,h3,h4,_,h5⟩:=G;refine d_write I (by rw[e];exact True.intro) U ⟨q,J⟩ ⟨hl,M,_,(rel.put k eb rv).keeps fun c ys ec=>?_,q,es,ep,J,h2,h3,h4,h5⟩;rw[zg (xt ec e (fun z=>nomatch z))];exact ec
end
section
variable {X:Cx}{pins:List (Addr×Obj)}{σ:St}{H:Hp}{s:Shared}{a:Addr}{kvs:List (Key×V)}{k:Key}{u:Value}{A:Around}{E:Value->Shared->Prop}
theorem d_len {Q:Value->Shared->Prop}(I:Inv X pins σ H s)(e:Rd H a (.dK kvs))(h:∀t B,Inv X pins σ H B->Q (.int kvs.length t) B):wpAny (model X.prog X.w) A (call (.builtin "len") [.ref a]) Q E s:=by
 obtain⟨z,G,M,rel,J⟩:=dk_rd I.hok e;refine call_len_dict G J (by rw[<-rel.length];rw[sizeLine_eq]at z;omega) ?_;rw[<-rel.length];exact h _ _ (I.tok _)
end
def NoSl (i:Expr):Prop:=∀z B,subscripted i false z B=operate [z,B] (getItem z B)
theorem subD_of {prog:Program}{w:World}{A:Around}{E:Value->Shared->Prop}{s:Shared}{env:Env}{value slice:Expr}{pos:Pos}{T id:String}{Q:Value->Shared->Prop}
  (Y:typeLookup (.type T) "__getitem__" = pure (some (.builtin id))) (U:NoSl slice)
  (h:wpAny (model prog w) A (eval value env) (fun o G=>wpAny (model prog w) A (eval slice env) (fun i z=>z.TypeIs o T/\wpAny (model prog w) A (getItem o i) Q E z) E G) E s) :
  wpAny (model prog w) A (eval (.Subscript value slice pos) env) Q E s:=by
 refine Subscript_ (wpAny_mono h (fun o G M=>wpAny_mono M (fun i z B=>?_) fun _ _ x=>x) fun _ _ x=>x);obtain⟨O,B⟩:=B;unfold subscriptTail;refine wpAny_bind ?_;rw[getitemInPython_of_ne O.not_modules];refine wpAny_bind (wpAny_specialOf O Y ?_);have fin:wpAny (model prog w) A (subscripted slice false o i) (fun r H=>wpAny (model prog w) A (letTemporaryGo value o r >>= fun _=>pure r) Q E H) E z:=by
  rw[U o i];exact wpAny_operating (wpAny_mono B (fun r H J=>wpAny_bind (wpAny_letTemporaryGo (wpAny_pure J))) fun _ _ x=>x)
 first
  |exact wpAny_pure (wpAny_bind fin)
  |exact wpAny_bind (wpAny_pure (wpAny_bind fin))
  |exact wpAny_bind fin
theorem dict_typeIs {X:Cx}{pins:List (Addr×Obj)}{G:St}{H:Hp}{s:Shared}{a:Addr}{y:V}{o:Option V}(I:Inv X pins G H s)(g:DGet H a y o):s.TypeIs (.ref a) "dict":=by
 rcases g with⟨z,k,e,_,_⟩|⟨z,k,b,e,_,_,_⟩
 ·obtain⟨_,_,M,_,B⟩:=dk_rd I.hok e;exact B.typeIs
 ·obtain⟨_,_,J,_,B⟩:=dt_rd I.hok e;exact B.typeIs
section
variable {X:Cx}{o i e value:Expr}{pos pos' tpos:Pos}{td ty tv:TE}
end
theorem dk_empty {P:Program}{w:World}{H:Hp}(h:Heap)(z:sysModules<h.objs.size):ObjOk P w H (h.push { cls:=.type "dict",data:=.dict #[] }) h.objs.size (.dK []) :=
 ⟨zT _,beq_eq_false_iff_ne.mpr (Ne.symm (zG z)),[],.nil,Heap.DictOf.new h⟩
theorem dt_empty {P:Program}{w:World}{H:Hp}(h:Heap)(z:sysModules<h.objs.size):ObjOk P w H (h.push { cls:=.type "dict",data:=.dict #[] }) h.objs.size (.dT []) :=
 ⟨zT _,beq_eq_false_iff_ne.mpr (Ne.symm (zG z)),[],.nil,_,#[],0,Heap.get?_push_size _ rfl,⟨rfl,rfl,rfl⟩,rfl,rfl,List.nodup_nil⟩
def tDNewK:TE:=fun _ H Q=>∀p,H p=none->Q (.ref p) (upd H p (.dK []))
def tDNewT:TE:=fun _ H Q=>∀p,H p=none->Q (.ref p) (upd H p (.dT []))
section
variable {X:Cx}{pos:Pos}
theorem pe_dnewK:PE X (.Dict [] [] pos) tDNewK:=fun pins s z H Q I h =>
 wpAny_Dict_empty ⟨.ref s.heap.objs.size,_,I.laid (a:=s.heap.objs.size) (o:=.dK []) (t':=s.toks) (fun _ _ q=>Heap.get?_push_of_some _ q) (zC _) (dk_empty s.heap I.big),rfl,h _ (I.hok.fresh (zC _))⟩
theorem pe_dnewT:PE X (.Dict [] [] pos) tDNewT:=fun pins s z H Q I h =>
 wpAny_Dict_empty ⟨.ref s.heap.objs.size,_,I.laid (a:=s.heap.objs.size) (o:=.dT []) (t':=s.toks) (fun _ _ q=>Heap.get?_push_of_some _ q) (zC _) (dt_empty s.heap I.big),rfl,h _ (I.hok.fresh (zC _))⟩
end
def JQ:List (TE×TE)->St->Hp->(List (V×V)->Hp->Prop)->Prop
 |[],_,H,Q=>Q [] H
 |(tk,G)::r,z,H,Q=>tk z H fun x J=>G z J fun y M=>JQ r z M fun O B=>Q ((x,y)::O) B
abbrev VV:List (V×V)->List (Value×Value)->Prop:=Paired fun p q=>RelV p.1 q.1/\RelV p.2 q.2
def PPs (X:Cx)(pos:Pos)(keys:List (Option Expr))(values:List Expr)(B:List (TE×TE)):Prop :=
 ∀(pins:List (Addr×Obj)) (s:Shared) (z:St) (H:Hp) (Q:List (V×V)->Hp->Prop),Inv X pins z H s->JQ B z H Q ->
  wpAny (model X.prog X.w) X.A (evalPairs (pairTrees keys values X.env pos)) (fun O M=>∃G J,Inv X pins z J M/\VV G O/\Q G J) X.xe s
theorem pps_nil {X:Cx}{pos:Pos}:PPs X pos [] [] []:=fun pins s z H Q I h=>pairTrees_nil_walk ⟨[],H,I,.nil,h⟩
theorem pps_cons {X:Cx}{pos:Pos}{k v:Expr}{ks:List (Option Expr)}{vs:List Expr}{tk G:TE}{z:List (TE×TE)}(hk:PE X k tk)(hv:PE X v G)(J:PPs X pos ks vs z) :
  PPs X pos (some k::ks) (v::vs) ((tk,G)::z):=fun pins s B H Q I h =>
 pairTrees_cons_walk (thn (hk pins s B H _ I h) fun u Y ⟨x,H1,I1,rx,q1⟩=>thn (hv pins Y B H1 _ I1 q1) fun w2 s2 ⟨y,H2,I2,ry,M⟩ =>
  thn (J pins s2 B H2 _ I2 M) fun ws s3 ⟨ps,H3,U,rel,O⟩=>⟨(x,y)::ps,H3,U,.cons ⟨rx,ry⟩ rel,O⟩)
def mergeK (z more:List (Key×V)):List (Key×V):=more.foldl (fun acc B=>xA acc B.1 B.2) z
theorem KV.merge:∀{more:List (Key×V)} {B:List (Key×Value)} {z:List (Key×V)} {vs:List (Key×Value)},KV more B->KV z vs->KV (mergeK z more) (merged vs B):=by
 intro more B z vs r;unfold KV at r;induction r generalizing z vs with
 |nil=>intro q;exact q
 |@cons p q J H h t ih =>
  intro G;have e:KV (xA z p.1 p.2) (stored vs q.1 q.2):=by
   have:=G.put p.1 h.2;rw[<-h.1];exact this
  exact ih e
theorem JI:∀(more z:List (Key×V)),(mergeK z more).length<=z.length+more.length
 |[],z=>by show z.length<=z.length+0;omega
 |p::r,z=>by
  have G:=JI r (xA z p.1 p.2)
  have B:=jw z p.1 p.2
  show(mergeK (xA z p.1 p.2) r).length<=_
  rw[zH];omega
theorem J9 {P:Program}{w:World}:∀{z:List (Key×V)} {G:List (Value×Value)},VV (z.map fun H=>(kV H.1,H.2)) G->∃B,Carries (yl P w) G B/\KV z B
 |[],_,r=>by rw[List.map_nil]at r;cases r;exact⟨[],True.intro,.nil⟩
 |p::z,_,r=>by
  rw[zO]at r
  cases r with
  |@cons a b O bs h t =>
   obtain⟨B,c,q⟩:=J9 (P:=P) (w:=w) t
   obtain⟨M,J⟩:=b
   exact⟨(p.1,J)::B,⟨kV_is h.1,rfl,c⟩,.cons ⟨rfl,h.2⟩ q⟩
def tDisp (B:List (TE×TE)):TE:=fun M H Q=>∀p,H p=none->JQ B M (upd H p (.dK [])) fun O J=>J p=some (.dK [])/\∃z:List (Key×V),O=z.map (fun G=>(kV G.1,G.2))/\z.length<=15/\Q (.ref p) (upd J p (.dK (mergeK [] z)))
theorem pe_disp {X:Cx}{pos:Pos}{keys:List (Option Expr)}{values:List Expr}{M:List (TE×TE)}(h:PPs X pos keys values M)(G:keys.all (·.isSome)=true)(hl:keys.length=values.length)(h0:keys≠[])
  (O:keys.length<=15):PE X (.Dict keys values pos) (tDisp M):=by
 intro pins s σ H Q I q;have hn:=I.hok.fresh (zC s.heap.objs.size);have I1:=I.laid (a:=s.heap.objs.size) (o:=.dK []) (h':=s.heap.push { cls:=.type "dict",data:=.dict #[] }) (t':=s.toks) (fun _ _ q=>Heap.get?_push_of_some _ q) (zC _) (dk_empty s.heap I.big);refine wpAny_Dict_walk (knd:=yl X.prog X.w) G hl h0 O (thn (h pins _ σ _ _ I1 (q _ hn)) fun ws s2 ⟨ps,H2,Y,rel,e,B,ep,lk,q2⟩=>?_);subst ep;obtain⟨rs,c,rk⟩:=J9 (P:=X.prog) (w:=X.w) rel;obtain⟨z,hd,vs0,r0,dd⟩:=dk_of Y.hok e;cases r0
 refine⟨rs,c,dd,fun U J hs=>⟨.ref s.heap.objs.size,_,?_,rfl,q2⟩⟩;have hz:(mergeK [] B).length<=sizeLine:=by
  have h1:=JI B [];rw[y6]at h1;rw[sizeLine_eq];omega
 have he:∃q,U.get? s.heap.objs.size=some q:=let ⟨q,_,_,hq,_⟩:=J;⟨q,hq⟩
 exact d_write Y (by rw[e];exact True.intro) hs he (dk_new hz hd (rk.merge .nil) J)
structure M1 (X:Cx) (o:Expr) (m:Str) (apos:Pos) (e:Expr) (cpos:Pos):Prop where
 base:attributeBase o m X.env (eval o X.env)=eval o X.env
 few:((backTo cpos (starEach [e] X.env)).all (fun x=>!x.1)&&(backToKw cpos (keywordEach [] X.env)).all (fun x=>x.1.isSome)
  && decide (([e]:List Expr).length+([]:List Keyword).length+(if ([]:List Keyword).isEmpty then 0 else 1)<30))=true
 line:(apos.endLine==cpos.line)=true
 trees:backTo cpos (starEach [e] X.env)=[(false,eval e X.env)]
def IsD (H:Hp)(a:Addr):Prop:=(∃z,Rd H a (.dK z))\/∃z,Rd H a (.dT z)
section
variable {X:Cx}{pins:List (Addr×Obj)}{σ:St}{H:Hp}{s:Shared}{a:Addr}{y d:V}{u r:Value}{o:Option V}{A:Around}{E:Value->Shared->Prop}
end
def tDGet1 (J ty:TE):TE:=fun z H Q=>J z H fun x B=>∃a,x=.ref a/\IsD B a/\ty z B fun y G=>∃o,DGet G a y o/\Q (o.getD .non) G
def tDGet2 (U ty M:TE):TE:=fun B H Q=>U B H fun x J=>∃a,x=.ref a/\IsD J a/\ty B J fun y O=>M B O fun z G=>∃o,DGet G a y o/\Q (o.getD z) G
section
variable {X:Cx}{o e f:Expr}{apos cpos:Pos}{td ty tx:TE}
end
section
variable {X:Cx}{pins:List (Addr×Obj)}{σ:St}{H:Hp}{s:Shared}{a:Addr}{kvs:List (Key×V)}{A:Around}{E:Value->Shared->Prop}
end
section
variable {X:Cx}{pins:List (Addr×Obj)}{σ:St}{H:Hp}{s:Shared}{a:Addr}{y:V}{u:Value}{A:Around}{E:Value->Shared->Prop}
end
end L2
namespace Att
open PySem PySem.W PySem.Calls PyProof.Rows
theorem J7 {P:Params}{h:Heap}:∀(ns:List Int) (vs:List Value),WellAll P h vs (ns.map WData.int)->IntsAre vs ns:=by
 intro ns;induction ns with
 |nil =>
  intro vs w;rw[List.map_nil]at w;cases w
  exact .nil
 |cons n ns ih =>
  intro vs w;rw[zO]at w;cases w with
  |cons a b =>
   cases a
   exact .cons _ _ (ih _ b)
theorem script_of {l:OpenLaw}{n:Nat}(hn:l.most=some n){P:Params}{h:Heap}{args:List WData}{vals:List Value}
  (B:l.row.toRowW.claim.pre args=true) (O:WellAll P h vals args) :
  ∃a Y z,vals=[Value.ref a]/\args=[WData.list (z.map WData.int)]/\h.get? a=some { cls:=.type "list",data:=.seq Y.toArray }/\IntsAre Y z/\z.length<=n:=by
 have M:WShape.hasAll [] args [.list .int]=true:=(pre_splitW B).1;have U:l.pre.holds [] { args:=args }=true:=(pre_splitW B).2;obtain⟨d,r,rfl,h1,h2⟩:=hasAllW_cons M;obtain rfl:=hasAllW_nil h2;obtain⟨xs,rfl,h3⟩:=hasW_list h1;obtain⟨z,rfl⟩:=items_int h3;have hlen:z.length<=n:=by
  unfold OpenLaw.pre at U;have H:(WTm.not (.lt (.lit (.int (n:Int))) (.len (.arg 0)))).holds [] { args:=[.list (z.map .int)] }=true:=by
   have H:=(holds_andW U).1;rw[hn]at H;exact H
  have J:=condW_of H (w_not (w_lt w_lit (w_len_list (w_arg rfl))));rw[qC]at J;refine Nat.le_of_not_lt fun q=>?_;have q':(n:Int)<((z.length:Nat):Int):=by omega
  first
   |(rw[decide_eq_true q']at J;exact absurd J (by decide))
   |(simp at J;omega)
 cases O with
 |cons w1 w2 =>
  cases w2
  cases w1 with
  |list ho G=>exact⟨_,_,z,rfl,rfl,ho,J7 z _ G,hlen⟩
theorem post_true (l:OpenLaw)(args:List WData):l.row.toRowW.claim.post args (.bool true) args=true :=
 postW_of (r:=l.row.toRowW) (X:=(true==true))
  (show WShape.has [] (.bool true) .bool=true by first|rfl|decide|simp[WShape.has,WShape.arms,WShape.armsAll])
  (show(WTm.eq .res (.lit (.bool true))).value [] { args:=args,res:=some (.bool true),after:=args }=some (.bool (true==true)) from w_eq_bool (w_res rfl) w_lit) rfl
theorem attach_call {l:OpenLaw}{n:Nat}{q:Program}{loose:List Str}{XP:(Str->Option Value)->Heap->Prop}{YP:World->Heap->Prop}{d:DefRec}
  (hn:l.most=some n) (aa:d.params.defaults=[])
  (call:∀(w:World) (s₀ z:Shared) (O mb:Str->Option Value) (J:Addr) (o:Obj) (pm U doc:Value) (a:Addr) (vs:List Value) (ns:List Int),
   Ground q loose [] XP w s₀ O mb z.heap->YP w z.heap ->
   z.heap.get? J=some o->o.data=.func (docDef d.name d.params d.body d.scope pm U doc)->z.heap.CodeRec U d.name->O d.name=some (.ref J) ->
   z.heap.get? a=some { cls:=.type "list",data:=.seq vs.toArray }->IntsAre vs ns->ns.length<=n->z.gens = #[] ->
   codeAny (model l.prog w) callerA (.call (.ref J) ⟨[.ref a],[]⟩) (fun r M=>r=.ok (.ret (.bool true))/\OldK z.heap M.heap/\M.os=z.os/\AllBare M.gens) z) :
  WalkO q loose XP YP l.row.toRowW d [] (fun f vs=>PySem.call f vs):=by
 intro w s₀ z O mb G Y J o pm U doc dV kV ho hd hcd hD hmg hg args vals as H hlay hrd hwl hlo;obtain rfl:dV=.none:=Dflts.none hD aa;obtain rfl:kV=.none:=Dflts.noKw hD;obtain⟨a,vs,ns,rfl,rfl,B,hints,hlen⟩:=script_of hn H hwl;refine enter_call (codeAny_mono (call w s₀ z O mb J o pm U doc a vs ns G Y ho (fd_plain hd) hcd hmg B hints hlen hg) fun r M hq=>?_);obtain⟨rfl,h2,h3,h4⟩:=hq;exact⟨.inl ⟨.bool true,.bool true,[],rfl,fun _=>rfl,.bool true,post_true l _,fun _=>⟨xE.nil,fun _ hm=>(nomatch hm)⟩⟩,h2,h3,h4⟩
section
variable {prog:Program}{w:World}{A:Around}{E:Value->Shared->Prop}{s:Shared}{K:Frag}
end
end Att
namespace L2
open PySem PySem.Spec PyProof.Rows
theorem vals_ints:∀{vs:List Value} {ns:List Int},IntsAre vs ns->Vals (ns.map V.int) vs
 |_,_,.nil=>.nil
 |_,_,.cons n t h=>.cons ⟨t,rfl⟩ (vals_ints h)
def Only (H:Hp):Prop:=∀b,H b=none\/∃o z,H b=some (.frz o (.lst z))
theorem law_call {P:Program}{w:World}{K:zA}{mg mb:Str->Option Value}{CX:CXT}{k:Nat}{fa a:Addr}{fd:FuncData}{x:Str}{sp:Sp}{B:Shared}{vs:List Value}{ns:List Int}
  (KX:K.In B.heap) (hns:B.heap.Ns mainGlobals mg) (J:B.heap.Ns builtinsNs mb) (hbb:∀x:Str,x ≠ "__name__" -> mb x=bootBuiltins x) (hlim:B.heap.NoLimit) (hg:B.gens = #[])
  (ha:B.heap.get? a=some { cls:=.type "list",data:=.seq vs.toArray }) (hi:IntsAre vs ns) (hl:ns.length<=sizeLine) (hr:Room k callerA)
  (F:∀base:Heap,K.In base->base.Ns mainGlobals mg->FnOk P w K mg base CX k fa fd [x] sp) (U:∀(s:Shared) (u:Value),BindsTo s fd ⟨[u],[]⟩ [(x,u)])
  (hsp:∀H:Hp,Only H->SqL K H a (ns.map V.int)->sp [.ref a] H (fun v _=>v=.bl true) fun _ _ _=>False)
  (hCX:∀H e M,CX [] H B (fun _ _ _=>False) e M->False) :
  codeAny (model P w) callerA (.call (.ref fa) ⟨[.ref a],[]⟩) (fun r M=>r=.ok (.ret (.bool true))/\OldK B.heap M.heap/\M.os=B.os/\AllBare M.gens) B:=by
 have rv:=vals_ints hi;have Y:=hi.length
 -- from an abstract heap in which nothing but the script may be tracked
 have core:∀H:Hp,Only H->SqL K H a (ns.map V.int)->HOk P w H B.heap->(∀b,H b≠none->b=a)->(H a≠none->K.lookup a=none) ->
   codeAny (model P w) callerA (.call (.ref fa) ⟨[.ref a],[]⟩) (fun r M=>r=.ok (.ret (.bool true))/\OldK B.heap M.heap/\M.os=B.os/\AllBare M.gens) B:=by
  intro H hO hS hok hA hK;have G:∀{b:Addr} {o:Obj},B.heap.get? b=some o->H b=none->(hidT B.heap H).get? b=some o:=fun e n=>hidT_get e n;have noA:∀{b:Addr} {o:Obj} {es:Array DictEntry} {ep:Nat},B.heap.get? b=some o->o.data=.dict es ep->H b=none:=fun {b o es ep} e d=>by
   cases q:H b with
   |none=>rfl
   |some u =>
    have e':b=a:=hA b (by rw[q];simp);subst e';rw[ha]at e;cases e
    have d':Data.seq vs.toArray _=Data.dict es ep:=d;cases d'
  have O:∀{b:Addr} {m:Str->Option Value},B.heap.Ns b m->(hidT B.heap H).Ns b m:=fun {b m} ⟨o,es,ep,e,d,r⟩=>⟨o,es,ep,G e (noA e d),d,r⟩;have hKb:K.In (hidT B.heap H):=fun b o e=>G (KX b o e) (by
   cases q:H b with
   |none=>rfl
   |some u =>
    have e':b=a:=hA b (by rw[q];simp);subst e';rw[hK (by rw[q];simp)]at e;cases e)
  have hM:Mod K mg (hidT B.heap H):=⟨hKb,O hns,⟨mb,O J,hbb⟩,let ⟨mc,h1,h2⟩:=hlim;⟨mc,O h1,h2⟩⟩;have e0:Env0 P w K mg (hidT B.heap H) callerA [] B H:=⟨rfl,hM,fun b o e=>of_hidT e,jF (hidT_size _ _),trivial,fun b J=>absurd (show b∈([]:List Addr) from J) (by simp),hok,.of_eq hg⟩;refine codeAny_mono ((F _ hKb (O hns)).run callerA [] B H ⟨[.ref a],[]⟩ [.ref a] [.ref a] _ _ hr e0 (U B (.ref a)) (.cons rfl .nil) (hsp H hO hS)) fun r M h=>?_;cases r with
  |error e=>exact(hCX H e M h).elim
  |ok fl =>
   cases fl with
   |next=>exact False.elim h
   |brk=>exact False.elim h
   |cont=>exact False.elim h
   |ret u =>
    obtain⟨v,H',os,bare,un,hok',r',q⟩:=h;have q':v=.bl true:=q;subst q';obtain rfl:u=Value.bool true:=r';refine⟨rfl,OldK.of_keep fun b o e=>?_,os,bare⟩;cases q:H b with
    |none=>exact un.keep b o e q (by intro z;exact absurd (show b∈([]:List Addr) from z) (by simp)) (by simp)
    |some u =>
     rcases hO b with z|⟨ob,xs,z⟩
     ·rw[q]at z;cases z
     ·have z2:=un.frzs b ob _ z;obtain⟨e1,_⟩:=hok b _ z;obtain⟨e2,_⟩:=hok' b _ z2;rw[e]at e1;cases e1
      exact e2
 cases hk:K.lookup a with
 |some o =>
  -- the script is one of the module's own objects
  have e:=KX a o hk;rw[ha]at e;cases e
  refine core (fun _=>none) (fun _=>.inl rfl) (.inr ⟨_,vs.toArray,_,hk,rfl,rfl,rfl,by rw[qM,Y];exact hl,by simpa using rv⟩) (fun b u z=>by have z':(none:Option HO)=some u:=z;cases z') (fun b z=>absurd rfl z) fun z=>absurd rfl z
 |none =>
  refine core (fun b=>if b=a then some (.frz { cls:=.type "list",data:=.seq vs.toArray } (.lst (ns.map V.int))) else none) (fun b=>?_) (.inl (.inr ⟨{ cls:=.type "list",data:=.seq vs.toArray },if_pos rfl⟩)) (fun b u z=>?_) (fun b z=>?_) fun _=>hk
  ·by_cases J:b=a
   ·exact .inr ⟨_,_,if_pos J⟩
   ·exact .inl (if_neg J)
  ·by_cases J:b=a
   ·have z':=(if_pos J).symm.trans z;cases z'
    subst J;exact⟨ha,by rw[qC];exact hl,vs,_,rv,ha⟩
   ·have z':=(if_neg J).symm.trans z;cases z'
  ·by_cases J:b=a
   ·exact J
   ·exact absurd (if_neg J) z
theorem walk_of {l:PySem.W.OpenLaw}{n k:Nat}{q:Program}{loose:List Str}{XP:(Str->Option Value)->Heap->Prop}{YP:World->Heap->Prop}{d:DefRec}{K:Params->zA}{CX:World->CXT}{sp:World->Sp}{x:Str}
  (hn:l.most=some n) (O:n<=sizeLine) (U:d.params.defaults=[]) (hr:Room k callerA)
  (hY:∀(w:World) (h:Heap),YP w h->(K w.params).In h)
  (F:∀(w:World) (z:Str->Option Value) (M:Addr) (h:Heap),(K w.params).In h->h.Ns mainGlobals z->z d.name=some (.ref M) ->
   ∃fd:FuncData,(∀(s:Shared) (u:Value),BindsTo s fd ⟨[u],[]⟩ [(x,u)]) /\
    ∀base:Heap,(K w.params).In base->base.Ns mainGlobals z->FnOk l.prog w (K w.params) z base (CX w) k M fd [x] (sp w))
  (ac:∀(w:World) (H:Hp) (a:Addr) (ns:List Int),ns.length<=n->Only H->SqL (K w.params) H a (ns.map V.int)->sp w [.ref a] H (fun v _=>v=.bl true) fun _ _ _=>False)
  (aa:∀(w:World) (H:Hp) (s:Shared) (e:Value) (s':Shared),CX w [] H s (fun _ _ _=>False) e s'->False) :
  PySem.W.WalkO q loose XP YP l.row.toRowW d [] (fun f vs=>PySem.call f vs):=by
 refine Att.attach_call hn U fun w s₀ J z mb M o pm cd doc a vs ns G Y ho hd hcd hmg B hints hlen hg=>?_;have KX:=hY w _ Y;obtain⟨fd,hb,hF⟩:=F w z M _ KX G.T.g hmg;exact law_call KX G.T.g G.T.b G.T.builtins G.T.nolimit hg B hints (zR hlen O) hr hF hb (fun H hO hS=>ac w H a ns hlen hO hS) fun H e s'=>aa w H J e s'
def je (s:Stmt):Arguments:=match s with
 |.FunctionDef _ a _ _ _ _ _ _ _ _=>a
 |_=>{ posonlyargs:=[],args:=[],vararg:=none,kwonlyargs:=[],kw_defaults:=[],kwarg:=none,defaults:=[] }
def xn (s:Stmt):List Stmt:=match s with
 |.FunctionDef _ _ b _ _ _ _ _ _ _=>b
 |_=>[]
def zS (s:Stmt):Scope:=match s with
 |.FunctionDef _ _ _ _ _ _ z _ _ _=>z
 |_=>{ kind:=.function,names:=[],isGenerator:=false,isCoroutine:=false }
abbrev CX0:CXT:=fun _ _ _ _ _ _=>False
abbrev E0:XK:=fun _ _ _=>False
theorem pass0 {X:Cx}:Passes CX0 X E0:=fun _ _ _ _ _ _ _ h=>h.elim
structure Fun (K:zA) (x qual:Str) (st:Stmt) (f:Addr) (fd:FuncData):Prop where
 ex:∃(oc:Value) (od:Option Addr) (kV doc pm:Value) (an:Option Addr) (cdv ct:Value) (osl:Array (Option Value)),
  fd=xT x qual (je st) (xn st) (zS st) .none kV doc pm an cdv ct/\K.lookup f=some ⟨oc,od,.func fd,osl⟩/\PySem.W.codeIn K cdv qual=true
 kp:x4 K (.ref f)=true
section
variable {P:Program}{w:World}{K:zA}{mg:Str->Option Value}{base:Heap}
theorem Fun.ok {x qual:Str}{st:Stmt}{f:Addr}{O:FuncData}{N J:List Str}{k:Nat}{sp:Sp}(F:Fun K x qual st f O)(S:FnScope N J (zS st))(len:∀vs H Q E,sp vs H Q E->vs.length=J.length)
  (B:∀(z:Value) (A:Around) (outer:List Env) (s:Shared) (H:Hp) (vs:List V) (Q:VK) (E:XK),Room k (A.deeper (envOfC qual (zS st) s.heap.objs.size f z))->sp vs H Q E ->
   ∃t,PSs (cxOf CX0 P w K mg base N qual (zS st) f z A outer s H E).nox (xn st) t/\t { nx:=fun _ Y=>Q .non Y,rt:=Q } (jU N vs) H):FnOk P w K mg base CX0 (k+1) f O J sp:=by
 obtain⟨oc,od,kV,doc,pm,an,z,ct,aa,rfl,lk,M⟩:=F.ex;refine fn_of lk M S len fun A outer s H vs Q E U G=>?_;obtain⟨t,h,q⟩:=B z A outer s H vs Q E U G;exact⟨t,h.nox,q⟩
theorem Fun.binds {x qual:Str}{st:Stmt}{f:Addr}{H:FuncData}{B:List Str}(F:Fun K x qual st f H)
  (h:∀(kV doc pm:Value) (G:Option Addr) (z ct:Value) (us:List Value),us.length=B.length->bindArgs (xT x qual (je st) (xn st) (zS st) .none kV doc pm G z ct) ⟨us,[]⟩=pure (B.zip us)):Binds K H B []:=by
 obtain⟨O,U,kV,doc,pm,G,z,ct,J,rfl,lk,M⟩:=F.ex;exact .all (h kV doc pm G z ct)
theorem fun_mk {x qual:Str}{st:Stmt}{f:Addr}{J:Value}{H G:Option Addr}{B:Array (Option Value)}{kV doc pm z ct:Value}(l:K.lookup f=some ⟨J,H,.func (xT x qual (je st) (xn st) (zS st) .none kV doc pm G z ct),B⟩)
  (c:PySem.W.codeIn K z qual=true) (k:x4 K (.ref f)=true):Fun K x qual st f (xT x qual (je st) (xn st) (zS st) .none kV doc pm G z ct):=⟨⟨J,H,kV,doc,pm,G,z,ct,B,rfl,l,c⟩,k⟩
end
theorem jx {A:Around}{k:Nat}(z:Room k A):A.units+1<cLine:=yi (Nat.add_le_add_left (by decide:1<=64) _) z.units
theorem small1000 {n:Nat}(h:n<=1000):n<sizeLine:=yi h (by decide)
section
variable {X:Cx}
theorem pv (i:Nat) {x:Str} {pos:Pos} (H:X.N[i]? = some x:=by rfl) (G:Vis X.env.scope x:=by first|exact Or.inl rfl|exact Or.inr (Or.inl rfl)|exact Or.inr (Or.inr rfl)) (B:(x==("__debug__" : Str))=false:=by decide)
  (z:(x==("__classdict__" : Str))=false:=by decide):PE X (.Name x pos) (tVar i):=pe_var H G B z
end
theorem yq {c A B:Prop}[Decidable c](z:c->A)(G:¬ c->B):if c then A else B:=by
 by_cases h:c
 ·rw[if_pos h];exact z h
 ·rw[if_neg h];exact G h
def Same (H H':Hp):Prop:=∀b o,H b=some o->H' b=some o
theorem Same.refl (H:Hp):Same H H:=fun _ _ h=>h
theorem Same.trans {H z B:Hp}(a:Same H z)(b:Same z B):Same H B:=fun c o h=>b c o (a c o h)
theorem Same.free {H H':Hp}(e:Same H H'){l:Addr}(h:H' l=Option.none):H l=Option.none:=by
 cases q:H l with
 |none=>rfl
 |some o =>
  rw[e l o q]at h;cases h
theorem Same.seq {K:zA}{H H':Hp}{a:Addr}{xs:List V}(e:Same H H')(h:SqL K H a xs):SqL K H' a xs:=by
 rcases h with(h|⟨o,h⟩)|h
 ·exact .inl (.inl (e _ _ h))
 ·exact .inl (.inr ⟨o,e _ _ h⟩)
 ·exact .inr h
section
variable {X:Cx}
theorem call_lenD:CallR X (.builtin "len") (fun B H Q=>∃a z,B=[V.ref a]/\H a=some (.dK z)/\Q (.int z.length) H):=by
 intro pins s Y H B O Q I r h;obtain⟨a,z,rfl,J,q⟩:=h;obtain⟨u,rfl,G⟩:=jn r;cases G
 exact d_len I (.inl J) fun t U M=>⟨.int z.length,H,M,⟨t,rfl⟩,q⟩
end
section
variable {κ:Type}[DecidableEq κ]
end
section
variable {σ:St}{H:Hp}{Q:VK}{D:Ends}
theorem w_var {i:Nat}:tVar i σ H Q=∃v,σ[i]? = some (some v)/\Q v H:=rfl
theorem w_C {v:V}:tC v σ H Q=Q v H:=rfl
theorem w_op {r:R2}{z tb:TE}:tOp r z tb σ H Q=z σ H fun x B=>tb σ B fun y G=>r x y G Q:=rfl
theorem w_un {r:V->Hp->VK->Prop}{z:TE}:tUn r z σ H Q=z σ H fun x B=>r x B Q:=rfl
theorem w_rI {C:Int->Int->Prop}{g:Int->Int->V}{i j:Int}:rI C g (.int i) (.int j) H Q=(C i j/\Q (g i j) H) :=
 propext ⟨fun⟨a,b,z,B,c,q⟩=>by cases z;cases B;exact⟨c,q⟩,fun⟨c,q⟩=>⟨i,j,rfl,rfl,c,q⟩⟩
theorem w_rI0 {g:Int->Int->V}{i j:Int}:rI0 g (.int i) (.int j) H Q=Q (g i j) H :=
 propext ⟨fun⟨a,b,z,B,q⟩=>by cases z;cases B;exact q,fun q=>⟨i,j,rfl,rfl,q⟩⟩
theorem w_rU {g:Int->V}{i:Int}:rU g (.int i) H Q=Q (g i) H :=
 propext ⟨fun⟨a,z,q⟩=>by cases z;exact q,fun q=>⟨i,rfl,q⟩⟩
theorem w_eqI {i j:Int}:rEq (.int i) (.int j) H Q=Q (.bl (decide (i=j))) H :=
 propext (by
  have e:decide (V.int i=V.int j)=decide (i=j):=by by_cases h:i=j<;>simp[h]
  unfold rEq;rw[e];exact⟨fun h=>h.2,fun h=>⟨rfl,h⟩⟩)
theorem w_neI {i j:Int}:rNe (.int i) (.int j) H Q=Q (.bl (!decide (i=j))) H :=
 propext (by
  have e:decide (V.int i=V.int j)=decide (i=j):=by by_cases h:i=j<;>simp[h]
  unfold rNe;rw[e];exact⟨fun h=>h.2,fun h=>⟨rfl,h⟩⟩)
theorem w_seq {t u:TS}:tSeq t u D σ H=t { D with nx:=u D } σ H:=rfl
theorem w_next:tNext D σ H=D.nx σ H:=rfl
theorem w_break:tBreak D σ H=D.bk σ H:=rfl
theorem w_cont:tCont D σ H=D.ct σ H:=rfl
theorem w_ifS {c:TT}{t u:TS}:tIfS c t u D σ H=c σ H fun b z=>if b=true then t D σ z else u D σ z:=rfl
theorem w_ret {z:TE}:tRet z D σ H=z σ H D.rt:=rfl
theorem w_retN:tRetN D σ H=D.rt .non H:=rfl
theorem w_drop {z:TE}:tDrop z D σ H=z σ H fun _ B=>D.nx σ B:=rfl
theorem w_asg {z:TE}{g:TG}:tAsg z g D σ H=z σ H fun x B=>g x σ B D.nx:=rfl
theorem yy {i:Nat}{v:V}{R:St->Hp->Prop}:xF i v σ H R=R (σ.set i (some v)) H:=rfl
theorem w_gSub {z B:TE}{t:TSet}{v:V}{R:St->Hp->Prop}:gSub z B t v σ H R=z σ H fun o J=>B σ J fun i M=>t o i v M fun G=>R σ G:=rfl
theorem w_test {t:TE}{R:Bool->Hp->Prop}:tTest t σ H R=t σ H fun x z=>∃k,x=.bl k/\R k z:=rfl
theorem w_B {t:TE}{R:Bool->Hp->Prop}:tB t σ H R=t σ H fun x z=>∃k,x=.bl k/\R k z:=rfl
theorem w_and {t u:TT}{R:Bool->Hp->Prop}:tAnd t u σ H R=t σ H fun c z=>if c=true then u σ z R else R false z:=rfl
theorem w_or {t u:TT}{R:Bool->Hp->Prop}:tOr t u σ H R=t σ H fun c z=>if c=true then R true z else u σ z R:=rfl
theorem w_not {t:TT}{R:Bool->Hp->Prop}:tNot t σ H R=t σ H fun c z=>R (!c) z:=rfl
theorem w_andV {B tb:TE}:tAndV B tb σ H Q=B σ H fun x z=>∃c,x=.bl c/\if c=true then tb σ z Q else Q (.bl false) z:=rfl
theorem w_orV {B tb:TE}:tOrV B tb σ H Q=B σ H fun x z=>∃c,x=.bl c/\if c=true then Q (.bl true) z else tb σ z Q:=rfl
theorem w_notV {z:TE}:tNotV z σ H Q=z σ H fun x B=>∃c,x=.bl c/\Q (.bl (!c)) B:=rfl
theorem w_if {t:TT}{B tb:TE}:tIf t B tb σ H Q=t σ H fun c z=>if c=true then B σ z Q else tb σ z Q:=rfl
theorem w_call {sp:Sp}{z:List V}{E:XK}{t:TA}:tCall sp z E t σ H Q=t σ H fun G B=>sp (G++z) B Q E:=rfl
theorem w_nil {R:List V->Hp->Prop}:tNil σ H R=R [] H:=rfl
theorem w_cons {z:TE}{B:TA}{R:List V->Hp->Prop}:tCons z B σ H R=z σ H fun x G=>B σ G fun M J=>R (x::M) J:=rfl
theorem w_CB {r:List V->Hp->VK->Prop}{t:TA}:tCB r t σ H Q=t σ H fun B z=>r B z Q:=rfl
theorem w_lst {t:TA}:tLst t σ H Q=t σ H fun B z=>B.length<=sizeLine/\∀p,z p=none->Q (.ref p) (upd z p (.lst B)):=rfl
theorem w_tup {t:TA}:tTup t σ H Q=t σ H fun B z=>B.length<=sizeLine/\∀p,z p=none->Q (.ref p) (upd z p (.tup B)):=rfl
theorem w_isN {z:TE}:tIsN z σ H Q=z σ H fun x B=>Q (.bl (decide (x=.non))) B:=rfl
theorem w_notN {z:TE}:tNotN z σ H Q=z σ H fun x B=>Q (.bl (!decide (x=.non))) B:=rfl
theorem w_chain {r M:R2}{G tb J:TE}:tChain r M G tb J σ H Q=(G σ H fun x U=>tb σ U fun y Y=>r x y Y fun z B=>∃k,z=.bl k /\
 if k=true then J σ B fun w O=>M y w O Q else Q (.bl false) B):=by first|rfl|(unfold tChain;rfl)
end
section
variable {X:Cx}{st:Stmt}{rest:List Stmt}{t u:TS}
def tMid (t u:TS):TS:=fun D G H=>∃mid:St->Hp->Prop,t { D with nx:=mid } G H/\∀z B,mid z B->u D z B
theorem pss_mid (U:PS X st t)(B:PSs X rest u):PSs X (st::rest) (tMid t u):=by
 intro pins s J H D I h;obtain⟨mid,q,k⟩:=h;refine wpAny_execs_cons (thn (U pins s J H { D with nx:=mid } I q) fun f G q=>?_);cases f with
 |next =>
  obtain⟨z,M,O,q⟩:=q;exact B pins G z M D O (k _ _ q)
 |ret v=>exact q
 |brk=>exact q
 |cont=>exact q
end
structure Cal (P:Program) (w:World) (K:zA) (mg:Str->Option Value) (base:Heap) (k:Nat) (x:Str) (ps:List Str) (sp:Sp):Prop where
 ex:∃(f:Addr) (fd:FuncData),FnOk P w K mg base CX0 k f fd ps sp/\mg x=some (.ref f)/\x4 K (.ref f)=true/\Binds K fd ps []
theorem Cal.mono {P:Program}{w:World}{K:zA}{z:Str->Option Value}{base:Heap}{j k:Nat}{x:Str}{B:List Str}{sp:Sp}(C:Cal P w K z base j x B sp)(h:j<=k):Cal P w K z base k x B sp:=by
 obtain⟨f,G,a,b,c,d⟩:=C.ex;exact⟨f,G,a.mono h,b,c,d⟩
section
variable {X:Cx}{k:Nat}{x:Str}{ps:List Str}{sp:Sp}{e:Expr}{es:List Expr}{t:TA}{p pos:Pos}
theorem pe_cal (C:Cal X.prog X.w X.K X.mg X.base k x ps sp) (J:Room k X.A) (H:Gl X x) (M:PA X (e::es) t) (B:(x==("__debug__" : Str))=false:=by decide)
  (G:starEach (e::es) X.env=(false,eval e X.env)::starEach es X.env:=by rfl) (z:(backTo pos (starEach es X.env)).any (·.1)=false:=by rfl):PE X (.Call (.Name x p) (e::es) [] pos) (tCall sp [] E0 t):=by
 obtain⟨f,O,a,b,c,d⟩:=C.ex;exact pe_call a J H b c d .nil pass0 M B G z
end
theorem bits_le {i:Int}{n:Nat}(h:i.natAbs<2^n):Builtin.Int.intBits i<=n:=by
 unfold Builtin.Int.intBits;split
 ·exact zT _
 ·rename_i B
  have G:i.natAbs≠0:=by
   intro z;exact B (by simpa using z)
  have:i.natAbs.log2<n:=(Nat.log2_lt G).mpr h;omega
def CShl (i j:Int):Prop:=0<=j/\j<=1000000/\Builtin.Int.intBits i<=1000000
def CDivB (i j:Int):Prop:=0<j/\j.natAbs.log2<9000
section
variable {X:Cx}
theorem op_shlB:OpR X (binaryOp .LShift) (rI CShl fun i j=>.int (i*2^j.toNat)):=opI fun i j _ _ _ _ _ z q=>lshift_int z.1 (by have B:=z.2.1;have G:=z.2.2;omega) q
theorem xO:OpR X (binaryOp .Mult) (rI IntMulOk fun i j=>.int (i*j)):=opI fun _ _ _ _ _ _ _ z q=>mul_int q z
theorem jy:OpR X (binaryOp .FloorDiv) (rI CDivB fun i j=>.int (i/j)):=opI fun i j _ _ _ _ _ z q=>by
 have e:i/j=i.fdiv j:=(Int.fdiv_eq_ediv_of_nonneg i (jH z.1)).symm
 rw[e]at q
 exact floordiv_int (by have:=z.1;omega) q (.inl (PyProof.noPylong_of_log2 z.2))
def rIsI (K:zA):List V->Hp->VK->Prop:=fun z H Q=>∃x T t b,z=[x,.ty T]/\TyOf K H x t/\yL K t (.type T)=some b/\Q (.bl b) H
theorem jz:CallR X (.builtin "isinstance") (rIsI X.K):=by
 intro pins s U H O J Q I r h;obtain⟨x,T,t,b,rfl,ty,e,q⟩:=h;obtain⟨G,M,rfl,B,z⟩:=Vals.two r;cases z
 exact isinst_ok I B ty e fun tk=>⟨.bl b,H,I.tok _,rfl,q⟩
end
theorem JJ {i j:Int}(z:-(2^64)<i)(B:i<2^64):IntMulOk i j:=.of_left (intBits_le_64 z B)
theorem mul_r {i j:Int}(z:-(2^64)<j)(B:j<2^64):IntMulOk i j:=.of_right (intBits_le_64 z B)
theorem kit_same {K:zA}(T:String):yL K (.type T) (.type T)=some true:=by unfold yL;rw[if_pos (by simp)]
theorem kit_int_bool {K:zA}:yL K (.type "int") (.type "bool")=some false:=by first|rfl|decide +kernel|(unfold yL PySem.W.kitCls;decide +kernel)
theorem kit_bool_int {K:zA}:yL K (.type "bool") (.type "int")=some true:=by first|rfl|decide +kernel
theorem kit_non_int {K:zA}:yL K (.type "NoneType") (.type "int")=some false:=by first|rfl|decide +kernel
theorem kit_str_int {K:zA}:yL K (.type "str") (.type "int")=some false:=by first|rfl|decide +kernel
theorem xP:bootBuiltins "len" = some (.builtin "len"):=by decide +kernel
theorem bo_abs:bootBuiltins "abs" = some (.builtin "abs"):=by decide +kernel
theorem bo_sum:bootBuiltins "sum" = some (.builtin "sum"):=by decide +kernel
theorem bo_all:bootBuiltins "all" = some (.builtin "all"):=by decide +kernel
theorem bo_any:bootBuiltins "any" = some (.builtin "any"):=by decide +kernel
theorem bo_sorted:bootBuiltins "sorted" = some (.builtin "sorted"):=by decide +kernel
theorem xH:bootBuiltins "isinstance" = some (.builtin "isinstance"):=by decide +kernel
theorem bo_int:bootBuiltins "int" = some (.type "int"):=by decide +kernel
theorem bo_bool:bootBuiltins "bool" = some (.type "bool"):=by decide +kernel
theorem bo_list:bootBuiltins "list" = some (.type "list"):=by decide +kernel
theorem j0:bootBuiltins "tuple" = some (.type "tuple"):=by decide +kernel
theorem bo_set:bootBuiltins "set" = some (.type "set"):=by decide +kernel
theorem bo_zip:bootBuiltins "zip" = some (.type "zip"):=by decide +kernel
def CPowB (i j:Int):Prop:=0<=j/\j<=1000000 /\ -(2^64)<i/\i<2^64
section
variable {X:Cx}
theorem op_powB:OpR X (binaryOp .Pow) (rI CPowB fun i j=>.int (i^j.toNat)):=opI fun i j _ _ _ _ _ z q=>pow_int_small z.1 z.2.1 (by have B:=z.2.2.1;have G:=z.2.2.2;omega) q
end
theorem w_shl1 {j:Int}:CShl 1 j=(0<=j/\j<=1000000):=propext ⟨fun h=>⟨h.1,h.2.1⟩,fun h=>⟨h.1,h.2,zR (bits_le (n:=1) (by decide)) (by decide)⟩⟩
theorem divB {i j:Int}(h:0<j)(B:j<2^64):CDivB i j:=⟨h,by
 have e:j.natAbs<2^64:=by omega
 have z:j.natAbs≠0:=by omega
 have:=(Nat.log2_lt z).mpr e
 omega⟩
section
variable {P:Program}{w:World}{K:zA}{mg:Str->Option Value}{base:Heap}
theorem yK {x qual:Str}{st:Stmt}{N J:List Str}{k:Nat}{sp:Sp}(T:∃(f:Addr) (G:FuncData),Fun K x qual st f G/\mg x=some (.ref f)/\Binds K G J [])(S:FnScope N J (zS st))(len:∀vs H Q E,sp vs H Q E->vs.length=J.length)
  (B:∀(f:Addr) (z:Value) (A:Around) (outer:List Env) (s:Shared) (H:Hp) (vs:List V) (Q:VK) (E:XK),Room k (A.deeper (envOfC qual (zS st) s.heap.objs.size f z))->sp vs H Q E ->
   ∃t,PSs (cxOf CX0 P w K mg base N qual (zS st) f z A outer s H E).nox (xn st) t/\t { nx:=fun _ O=>Q .non O,rt:=Q } (jU N vs) H):Cal P w K mg base (k+1) x J sp:=by
 obtain⟨f,G,F,m,b⟩:=T;exact⟨f,G,F.ok S len fun z A outer s H vs Q E M h=>B f z A outer s H vs Q E M h,m,F.kp,b⟩
end
def Chg (p:Addr)(H H':Hp):Prop:=∀b o,b≠p->H b=some o->H' b=some o
theorem Chg.refl {p:Addr}{H:Hp}:Chg p H H:=fun _ _ _ h=>h
theorem Chg.trans {p:Addr}{H z B:Hp}(a:Chg p H z)(b:Chg p z B):Chg p H B:=fun c o n h=>b c o n (a c o n h)
theorem Same.chg {p:Addr}{H H':Hp}(h:Same H H'):Chg p H H':=fun b o _ q=>h b o q
theorem Chg.upd {p:Addr}{H:Hp}(o:HO):Chg p H (upd H p o):=fun b u n q=>by rw[zg n];exact q
theorem zP {H:Hp}{p:Addr}(h:H p=none)(o:HO):Same H (upd H p o):=fun b u q=>by rw[zg (zc q h)];exact q
def Scr (K:zA)(H:Hp)(a:Addr)(ns:List Int):Prop :=
 (∃o,H a=some (.frz o (.lst (ns.map V.int))))\/(∃(o:Obj) (z:Array Value) (n:Nat),K.lookup a=some o/\o.cls=.type "list" /\ o.dict=none/\o.data=.seq z n/\z.size<=sizeLine/\Vals (ns.map V.int) z.toList)
section
variable {K:zA}{H H':Hp}{a p:Addr}{ns:List Int}
theorem Scr.sq (h:Scr K H a ns):SqL K H a (ns.map V.int):=by
 rcases h with h|h
 ·exact .inl (.inr h)
 ·exact .inr h
theorem scr_of (G:Only H)(B:SqL K H a (ns.map V.int)):Scr K H a ns:=by
 rcases B with(h|h)|h
 ·rcases G a with z|⟨o,J,z⟩
  ·rw[z]at h;cases h
  ·rw[z]at h;cases h
 ·exact .inl h
 ·exact .inr h
theorem Scr.same (h:Scr K H a ns)(s:Same H H'):Scr K H' a ns:=by
 rcases h with⟨o,h⟩|h
 ·exact .inl ⟨o,s _ _ h⟩
 ·exact .inr h
theorem Scr.chg {xs:List V}(h:Scr K H a ns)(B:H p=some (.lst xs))(s:Chg p H H'):Scr K H' a ns:=by
 rcases h with⟨o,h⟩|h
 ·exact .inl ⟨o,s _ _ (xt h B (by intro z;cases z)) h⟩
 ·exact .inr h
end
def spLaw (K:zA):Sp:=fun G H Q _=>∃(a:Addr) (z:List Int),G=[.ref a]/\Scr K H a z/\z.length<=63/\∀B,Q (.bl true) B
theorem atI_int {ns:List Int}{i:Int}(B:0<=i)(G:i<(ns.length:Int)):∃v:Int,atI (ns.map V.int) i=some (.int v)/\ns[i.toNat]? = some v:=by
 have z:i.toNat<ns.length:=by omega
 have e:i=((i.toNat:Nat):Int):=by omega
 have q:atI (ns.map V.int) ((i.toNat:Nat):Int)=some (.int ns[i.toNat]):=x9 (by rw[qI,qA z]<;>rfl);rw[<-e]at q;exact⟨ns[i.toNat],q,qA z⟩
def lim:Nat->Int
 |0=>11
 |n+1=>1000000*(lim n-1)
def rIxM:R2:=fun x y H Q=>∃p z i v,x=.ref p/\y=.int i/\H p=some (.lst z)/\atI z i=some v/\Q v H
def rIxU:R2:=fun x y H Q=>∃p z i v,x=.ref p/\y=.int i/\H p=some (.tup z)/\atI z i=some v/\Q v H
section
variable {X:Cx}
theorem IxR.mono {r z:R2}(h:IxR X r)(m:∀x y H Q,z x y H Q->r x y H Q):IxR X z:=fun B sl pins s J H x y v u Q I M G q O=>h B sl pins s J H x y v u Q I M G (m _ _ _ _ q) O
theorem ix_M:IxR X rIxM:=ix_list.mono fun x y H Q ⟨p,G,i,v,z,B,h,a,q⟩=>⟨p,G,i,v,z,B,SqL.of h,a,q⟩
theorem ix_U:IxR X rIxU:=ix_tup.mono fun x y H Q ⟨p,G,i,v,z,B,h,a,q⟩=>⟨p,G,i,v,z,B,SqT.of h,a,q⟩
theorem CallR.mono {f:Value}{r B:List V->Hp->VK->Prop}(h:CallR X f r)(m:∀z H Q,B z H Q->r z H Q):CallR X f B:=fun pins s G H z M Q I J q=>h pins s G H z M Q I J (m _ _ _ q)
theorem yz:CallR X (.builtin "len") (fun B H Q=>∃p z,B=[.ref p]/\H p=some (.lst z)/\Q (.int z.length) H):=call_len_seq.mono fun B H Q ⟨p,z,e,h,q⟩=>⟨p,z,e,.inl (SqL.of h),q⟩
theorem call_lenU:CallR X (.builtin "len") (fun B H Q=>∃p z,B=[.ref p]/\H p=some (.tup z)/\Q (.int z.length) H):=call_len_seq.mono fun B H Q ⟨p,z,e,h,q⟩=>⟨p,z,e,.inr (SqT.of h),q⟩
theorem Jn:CallR X (.builtin "len") (fun B H Q=>∃p z,B=[.ref p]/\SqL X.K H p z/\Q (.int z.length) H):=call_len_seq.mono fun B H Q ⟨p,z,e,h,q⟩=>⟨p,z,e,.inl h,q⟩
end
section
variable {H:Hp}{Q:VK}
theorem w_ixM {p:Addr}{i:Int}:rIxM (.ref p) (.int i) H Q=∃z,H p=some (.lst z)/\∃v,atI z i=some v/\Q v H :=
 propext ⟨fun⟨M,z,J,v,B,G,h,a,q⟩=>by cases B;cases G;exact⟨z,h,v,a,q⟩,fun⟨z,h,v,a,q⟩=>⟨p,z,i,v,rfl,rfl,h,a,q⟩⟩
theorem w_ixU {p:Addr}{i:Int}:rIxU (.ref p) (.int i) H Q=∃z,H p=some (.tup z)/\∃v,atI z i=some v/\Q v H :=
 propext ⟨fun⟨M,z,J,v,B,G,h,a,q⟩=>by cases B;cases G;exact⟨z,h,v,a,q⟩,fun⟨z,h,v,a,q⟩=>⟨p,z,i,v,rfl,rfl,h,a,q⟩⟩
theorem w_ixL {K:zA}{p:Addr}{i:Int}:rIxL K (.ref p) (.int i) H Q=∃z,SqL K H p z/\∃v,atI z i=some v/\Q v H :=
 propext ⟨fun⟨M,z,J,v,B,G,h,a,q⟩=>by cases B;cases G;exact⟨z,h,v,a,q⟩,fun⟨z,h,v,a,q⟩=>⟨p,z,i,v,rfl,rfl,h,a,q⟩⟩
theorem w_setL {p:Addr}{k:Int}{v:V}{R:Hp->Prop}:rSetL (.ref p) (.int k) v H R=∃z,H p=some (.lst z)/\∃j,ixN z.length k=some j/\R (upd H p (.lst (z.set j v))) :=
 propext ⟨fun⟨M,z,J,j,B,G,h,a,q⟩=>by cases B;cases G;exact⟨z,h,j,a,q⟩,fun⟨z,h,j,a,q⟩=>⟨p,z,k,j,rfl,rfl,h,a,q⟩⟩
end
theorem at_0 {z:Type}{a:z}{l:List z}:atI (a::l) 0=some a:=x9 (j:=0) rfl
theorem at_1 {z:Type}{a b:z}{l:List z}:atI (a::b::l) 1=some b:=x9 (j:=1) rfl
theorem at_2 {z:Type}{a b c:z}{l:List z}:atI (a::b::c::l) 2=some c:=x9 (j:=2) rfl
theorem at_3 {z:Type}{a b c d:z}{l:List z}:atI (a::b::c::d::l) 3=some d:=x9 (j:=3) rfl
theorem ixN_0 {n:Nat}:ixN (n+1) 0=some 0:=by unfold ixN;rw[if_pos (yt 0),if_pos (by omega)];rfl
theorem ixN_1 {n:Nat}:ixN (n+1+1) 1=some 1:=by unfold ixN;rw[if_pos (by decide),if_pos (by omega)];rfl
theorem ixN_2 {n:Nat}:ixN (n+1+1+1) 2=some 2:=by unfold ixN;rw[if_pos (by decide),if_pos (by omega)];rfl
section
variable {CX:CXT}{P:Program}{w:World}{K:zA}{mg:Str->Option Value}{base:Heap}{N:List Str}{qual:Str}{scope:Scope}{f:Addr}{cd:Value}{A:Around}{outer:List Env}{s:Shared}{H:Hp}{E:XK}
theorem w_cxK:(cxOf CX P w K mg base N qual scope f cd A outer s H E).K=K:=rfl
end
theorem zm {n:Nat}(h:n<=1000):n<=sizeLine:=Nat.le_of_lt (small1000 h)
theorem sl_1:(0+1<=sizeLine)=True:=eq_true (zm (by decide))
theorem sl_2:(0+1+1<=sizeLine)=True:=eq_true (zm (by decide))
theorem sl_3:(0+1+1+1<=sizeLine)=True:=eq_true (zm (by decide))
theorem sl_4:(0+1+1+1+1<=sizeLine)=True:=eq_true (zm (by decide))
theorem sl_5:(0+1+1+1+1+1<=sizeLine)=True:=eq_true (zm (by decide))
theorem sl_6:(0+1+1+1+1+1+1<=sizeLine)=True:=eq_true (zm (by decide))
theorem sl_7:(0+1+1+1+1+1+1+1<=sizeLine)=True:=eq_true (zm (by decide))
theorem sl_8:(0+1+1+1+1+1+1+1+1<=sizeLine)=True:=eq_true (zm (by decide))
theorem sl_0:(0<=sizeLine)=True:=eq_true (zm (by decide))
theorem divq {g m:Int}(z:0<=g)(B:0<m):0<=g/m:=Int.ediv_nonneg z (jH B)
theorem modq {g m:Int}(z:0<m):0<=g%m/\g%m<m:=⟨Int.emod_nonneg _ (by omega),Int.emod_lt_of_pos _ z⟩
def ForR (lo:Int)(n:Nat)(g:TG)(tb:TS)(D:Ends)(B:St)(H:Hp):Prop:=∃W:Nat->Nat->St->Hp->Prop,(∃m,W 0 m B H)/\∀i m B H,W i m B H ->
 ((Itr lo n).stop i H/\D.nx B H)\/((Itr lo n).go i H/\∃N:St->Hp->Prop,(∀z G,N z G->∃M,M<m/\W (i+1) M z G)/\∀x G,(Itr lo n).yld i H x G->g x B G fun J O=>tb { D with nx:=N,ct:=N,bk:=D.nx } J O)
def ForL (K:zA)(a:Addr)(g:TG)(tb:TS)(D:Ends)(B:St)(H:Hp):Prop:=∃W:Nat->Nat->St->Hp->Prop,(∃m,W 0 m B H)/\∀i m B H,W i m B H ->
 ((Itl K a).stop i H/\D.nx B H)\/((Itl K a).go i H/\∃N:St->Hp->Prop,(∀z G,N z G->∃M,M<m/\W (i+1) M z G)/\∀x G,(Itl K a).yld i H x G->g x B G fun J O=>tb { D with nx:=N,ct:=N,bk:=D.nx } J O)
def ForT (K:zA)(a:Addr)(g:TG)(tb:TS)(D:Ends)(B:St)(H:Hp):Prop:=∃W:Nat->Nat->St->Hp->Prop,(∃m,W 0 m B H)/\∀i m B H,W i m B H ->
 ((Itt K a).stop i H/\D.nx B H)\/((Itt K a).go i H/\∃N:St->Hp->Prop,(∀z G,N z G->∃M,M<m/\W (i+1) M z G)/\∀x G,(Itt K a).yld i H x G->g x B G fun J O=>tb { D with nx:=N,ct:=N,bk:=D.nx } J O)
section
variable {σ:St}{H:Hp}{D:Ends}{g:TG}{tb:TS}{K:zA}{a:Addr}
theorem w_for1 {z:TA}:tFor (iRng1 z) g tb D σ H=(z σ H fun G B=>∃j:Int,G=[.int j] /\ -(2^62)<=j/\j<2^62/\ForR 0 j.toNat g tb D σ B):=rfl
theorem w_forL {tl:TE}:tFor (iList K tl) g tb D σ H=(tl σ H fun x z=>∃a,x=.ref a/\(∃B,SqL K z a B)/\ForL K a g tb D σ z):=rfl
theorem w_forT {tl:TE}:tFor (iTup K tl) g tb D σ H=(tl σ H fun x z=>∃a,x=.ref a/\(∃B,SqT K z a B)/\ForT K a g tb D σ z):=rfl
theorem forR {lo:Int}{n:Nat}(z:Nat->St->Hp->Prop)(U:z 0 σ H)
  (O:∀i σ H (N:St->Hp->Prop),i<n->z i σ H->(∀B J,z (i+1) B J->N B J)->g (.int (lo+i)) σ H fun G Y=>tb { D with nx:=N,ct:=N,bk:=D.nx } G Y) (M:∀σ H,z n σ H->D.nx σ H):ForR lo n g tb D σ H :=
 for_range z U (fun i σ H h p=>O i σ H _ h p fun _ _ q=>q) M
theorem forL {xs:List V}(z:Nat->St->Hp->Prop)(Y:z 0 σ H)(U:∀i σ H,i<=xs.length->z i σ H->SqL K H a xs)
  (O:∀i x σ H (N:St->Hp->Prop),xs[i]? = some x->z i σ H->(∀B J,z (i+1) B J->N B J)->g x σ H fun G H2=>tb { D with nx:=N,ct:=N,bk:=D.nx } G H2) (M:∀σ H,z xs.length σ H->D.nx σ H):ForL K a g tb D σ H:=for_list z Y U (fun i x σ H h p=>O i x σ H _ h p fun _ _ q=>q) M
theorem forT {xs:List V}(z:Nat->St->Hp->Prop)(Y:z 0 σ H)(U:∀i σ H,i<=xs.length->z i σ H->SqT K H a xs)
  (O:∀i x σ H (N:St->Hp->Prop),xs[i]? = some x->z i σ H->(∀B J,z (i+1) B J->N B J)->g x σ H fun G H2=>tb { D with nx:=N,ct:=N,bk:=D.nx } G H2) (M:∀σ H,z xs.length σ H->D.nx σ H):ForT K a g tb D σ H:=for_tup z Y U (fun i x σ H h p=>O i x σ H _ h p fun _ _ q=>q) M
end
theorem r4 {r:Int}(z:0<=r)(B:r<4):r=0\/r=1\/r=2\/r=3:=by omega
theorem shl_ok {n s:Int}{k:Nat}(z:0<=s)(B:s<=1000000)(h:n.natAbs<2^k)(G:k<=1000000):CShl n s:=⟨z,B,zR (bits_le h) G⟩
theorem mid_of {t u:TS}{D:Ends}{z:St}{H:Hp}(M:St->Hp->Prop)(G:∀N:St->Hp->Prop,(∀z H,M z H->N z H)->t { D with nx:=N } z H)(B:∀z H,M z H->u D z H):tMid t u D z H:=⟨M,G M fun _ _ q=>q,B⟩
section
variable {K:zA}{H:Hp}{Q:VK}
theorem jR {x:V}{T:String}{t:Value}{b:Bool}(ty:TyOf K H x t)(u:∀z,TyOf K H x z->z=t)(k:yL K t (.type T)=some b):rIsI K [x,.ty T] H Q=Q (.bl b) H :=
 propext ⟨fun⟨M,J,z,O,e,B,G,q⟩=>by
  cases e
  rw[u _ B,k]at G
  cases G
  exact q,fun q=>⟨x,T,t,b,rfl,ty,k,q⟩⟩
theorem kit_non_bool:yL K (.type "NoneType") (.type "bool")=some false:=by first|rfl|decide +kernel
theorem kit_str_bool:yL K (.type "str") (.type "bool")=some false:=by first|rfl|decide +kernel
theorem w_isI_ii {i:Int}:rIsI K [.int i,.ty "int"] H Q=Q (.bl true) H:=jR (.int i) (fun _ h=>by cases h;rfl) (kit_same _)
theorem w_isI_ib {i:Int}:rIsI K [.int i,.ty "bool"] H Q=Q (.bl false) H:=jR (.int i) (fun _ h=>by cases h;rfl) kit_int_bool
theorem w_isI_bi {i:Bool}:rIsI K [.bl i,.ty "int"] H Q=Q (.bl true) H:=jR (.bl i) (fun _ h=>by cases h;rfl) kit_bool_int
theorem w_isI_bb {i:Bool}:rIsI K [.bl i,.ty "bool"] H Q=Q (.bl true) H:=jR (.bl i) (fun _ h=>by cases h;rfl) (kit_same _)
theorem w_isI_ni:rIsI K [.non,.ty "int"] H Q=Q (.bl false) H:=jR .non (fun _ h=>by cases h;rfl) kit_non_int
theorem w_isI_nb:rIsI K [.non,.ty "bool"] H Q=Q (.bl false) H:=jR .non (fun _ h=>by cases h;rfl) kit_non_bool
theorem w_isI_si {x:Str}:rIsI K [.str x,.ty "int"] H Q=Q (.bl false) H:=jR (.str x) (fun _ h=>by cases h;rfl) kit_str_int
theorem w_isI_sb {x:Str}:rIsI K [.str x,.ty "bool"] H Q=Q (.bl false) H:=jR (.str x) (fun _ h=>by cases h;rfl) kit_str_bool
end
theorem xI (k:Nat):(0:Int)<2^k:=Int.pow_pos (by decide)
def xh (scope:Scope)(env:Env):List (Str×Addr):=(scope.names.filterMap fun x=>if x.2==.free then (env.cells.lookup x.1).map fun c=>(x.1,c) else none).reverse
theorem JK {scope:Scope}{env:Env}(h:∀x∈scope.names,x.2=.free->∃c,env.cells.lookup x.1=some c):closureFor scope env=pure (xh scope env):=by
 unfold closureFor xh;have all:∀(l:List (Str×NameKind)) (acc:List (Str×Addr)),(∀x∈l,x.2=.free->∃c,env.cells.lookup x.1=some c) ->
   (forIn l acc fun x r=>(match x with|(name,kind)=>if (kind==.free)=true then do let a ← cellOf env name;pure (ForInStep.yield ((name,a)::r)) else pure (ForInStep.yield r):Sem (ForInStep (List (Str×Addr))))) =
    pure ((l.filterMap fun x=>if x.2==.free then (env.cells.lookup x.1).map fun c=>(x.1,c) else none).reverse++acc):=by
  intro l;induction l with
  |nil=>intro acc _;simp
  |cons x r ih =>
   intro acc H;obtain⟨n,k⟩:=x;have z:∀y∈r,y.2=.free->∃c,env.cells.lookup y.1=some c:=fun y O=>H y (zM _ O);by_cases G:k=.free
   ·subst G;obtain⟨c,B⟩:=H (n,.free) zJ rfl;have M:cellOf env n=pure c:=by unfold cellOf;rw[show env.cells.lookup n=some c from B]
    simp only[List.forIn_cons,beq_self_eq_true,if_true,M,pure_bind,zt];rw[ih _ z];simp[show env.cells.lookup n=some c from B]
   ·have J:(k==NameKind.free)=false:=by simpa using G
    simp only[List.forIn_cons,J,zq,if_false,pure_bind,zt];rw[ih _ z]
 have:=all scope.names [] h;rw[zv]at this;simp only[bind_pure]
 first|exact this|(rw[this])|(simpa using this)
theorem Jd {scope:Scope}{env:Env}{x:Str}{c:Addr}(h:(xh scope env).lookup x=some c):env.cells.lookup x=some c:=by
 have m:=PySem.mem_of_lookup h;unfold xh at m;rw[jG,List.mem_filterMap]at m;obtain⟨y,z,e⟩:=m;split at e
 ·cases q:env.cells.lookup y.1 with
  |none=>rw[q]at e;cases e
  |some d =>
   rw[q]at e;simp only[Option.map_some,Option.some.injEq,Prod.mk.injEq]at e;rw[<-e.1,q,e.2]
 ·cases e
theorem JR {z:Type}:∀{l:List (Str×z)} {x:Str} {c:z},(x,c)∈l->∃d,l.lookup x=some d
 |(k,v)::r,x,c,h=>by
  rw[List.lookup_cons]
  cases B:x==k with
  |true=>exact⟨v,rfl⟩
  |false =>
   rcases zF.mp h with e|e
   ·injection e with e1 e2
    subst e1
    simp at B
   ·exact JR e
theorem clos_has {scope:Scope}{env:Env}{x:Str}{c:Addr}(h:(x,NameKind.free)∈scope.names)(B:env.cells.lookup x=some c):(xh scope env).lookup x=some c:=by
 have m:(x,c)∈xh scope env:=by
  unfold xh;rw[jG,List.mem_filterMap];exact⟨(x,.free),h,by simp[B]⟩
 obtain⟨d,z⟩:=JR m;have:=Jd z;rw[B]at this;rw[z,<-this]
theorem xQ {env:Env}:∀{names:List (Str×NameKind)} {x:Str} {k:NameKind},
  (names.map fun(n,k)=>if (k==NameKind.free&&env.scope.kind==.function&&env.kindOf n==some .cell) then (n,NameKind.cell) else (n,k)).lookup x=some k ->
  ∃G,names.lookup x=some G/\(G=k\/(G=.free/\k=.cell))
 |[],_,_,h=>by simp at h
 |(n,k)::r,x,H,h=>by
  simp only[zO]at h
  by_cases B:(k==NameKind.free&&env.scope.kind==.function&&env.kindOf n==some .cell)=true
  ·rw[if_pos B,List.lookup_cons]at h
   rw[List.lookup_cons]
   cases z:x==n with
   |true =>
    rw[z]at h
    simp only[Option.some.injEq]at h
    refine⟨k,rfl,.inr ⟨?_,h.symm⟩⟩
    simp only[zW,beq_iff_eq]at B
    exact B.1.1
   |false =>
    rw[z]at h
    exact xQ h
  ·rw[if_neg B,List.lookup_cons]at h
   rw[List.lookup_cons]
   cases z:x==n with
   |true =>
    rw[z]at h
    simp only[Option.some.injEq]at h
    exact⟨k,rfl,.inl h⟩
   |false =>
    rw[z]at h
    exact xQ h
theorem xy {prog:Program}{w:World}{A:Around}{R:Result->Shared->Prop}{s:Shared}{elt target iter:Expr}{ifs:List Expr}{scope:Scope}{pos:Pos}{it acc:Value}{env:Env}(I:Nat->Shared->Prop)
  (turn:∀n s,I n s->wpAny (model prog w) A (pyNext it) (fun r H=>match r with
   |none=>R (.ok .next) H
   |some v=>wpAny (model prog w) A (letOwnedTupleGo target it v) (fun _ z=>wpAny (model prog w) A (assign target env v) (fun _ Y =>
     wpAny (model prog w) A (forIn ifs true fun c r=>if r=true then do let ok ← isTrue c env (eval c env);pure (ForInStep.yield ok) else pure (ForInStep.yield r)) (fun ok B =>
      if ok=true then wpAny (model prog w) A (eval elt env) (fun x M =>
       wpAny (model prog w) A (call (.builtin "list.append") [acc,x]) (fun _ O=>∃m,m<n/\I m O) (fun _ _=>False) M) (fun _ _=>False) B
      else ∃m,m<n/\I m B) (fun _ _=>False) Y) (fun _ _=>False) z) (fun _ _=>False) H) (fun _ _=>False) s)
  (n:Nat) (h:I n s) :
  codeAny (model prog w) A (.compLoop (.ListComp elt [⟨target,iter,ifs,0⟩] scope pos) 0 it acc env) R s:=by
 refine codeAny_loop rfl I (fun n s hI=>?_) n h;show wpAny _ A ((compTurn (.ListComp elt [⟨target,iter,ifs,0⟩] scope pos) 0 it acc env).onRaise (fun x=>do noteFrame x env;theTreesLotGoes x)) _ _ s
 refine wpAny_noted ?_;rw[compTurn_list];refine wpAny_bind (wpAny_standAt (wpAny_bind (wpAny_mono (turn n s hI) (fun r H U=>?_) fun _ _ G=>G.elim)));cases r with
 |none=>exact wpAny_pure U
 |some v =>
  refine wpAny_bind (wpAny_mono U (fun _ z aa=>?_) fun _ _ G=>G.elim);refine wpAny_bind (wpAny_mono aa (fun _ Y ae=>wpAny_bind (wpAny_mono ae (fun ok B J=>?_) fun _ _ G=>G.elim)) fun _ _ G=>G.elim);cases ok with
  |false=>exact wpAny_pure ⟨rfl,J⟩
  |true =>
   exact wpAny_bind (wpAny_bind (wpAny_mono J (fun x M ad=>wpAny_bind (wpAny_mono ad (fun _ O ac=>wpAny_pure (wpAny_pure ⟨rfl,ac⟩)) fun _ _ G=>G.elim)) fun _ _ G=>G.elim))
def PN (X:Cx)(ifs:List Expr)(t:TT):Prop :=
 ∀(pins:List (Addr×Obj)) (s:Shared) (z:St) (H:Hp) (Q:Bool->Hp->Prop),Inv X pins z H s->t z H Q ->
  wpAny (model X.prog X.w) X.A (forIn ifs true fun c r=>if r=true then do let ok ← isTrue c X.env (eval c X.env);pure (ForInStep.yield ok) else pure (ForInStep.yield r)) (TP X pins z Q) X.xe s
def tYes:TT:=fun _ H Q=>Q true H
section
variable {X:Cx}
theorem xB:PN X [] tYes:=fun _ _ z H Q I h=>wpAny_pure ⟨H,I,h⟩
theorem JS {c:Expr}{t:TT}(h:PT X c t):PN X [c] t:=by
 intro pins s z H Q I q;refine PySem.wpAny_tests_one (h pins s z H Q I q)
end
def jf (X:Cx)(N:List Str)(scope:Scope)(C:Addr)(s:Shared)(H:Hp)(z:List Addr):Cx :=
 { X with N:=N,s₀:=s,H₀:=H,env:=compEnvC scope (xh scope X.env) C X.env,outer:=X.stack,stack:=X.stack,ex:=z,fn:=fun _=>false,pn:=[],xe:=fun _ _=>False }
structure CompBody (X:Cx) (tg:Expr) (ifs:List Expr) (elt:Expr) (g:TG) (tt:TT) (te:TE):Prop where
 tg:PG X tg g
 tt:PN X ifs tt
 te:PE X elt te
def scB (B z:Scope):Bool:=(B.kind==.function)&&B.names.all fun x=>(x.2 != .cell)&&(x.2 != .local || B.names.lookup x.1==some .local)&&(x.2 != .free || (z.names.lookup x.1==some .cell) || (z.names.lookup x.1==some .free))
def capB (cs:List Nat)(ns G:List Str)(B z:Scope):Bool:=(cs.zip ns).all fun p=>(G[p.1]? == some p.2)&&(B.names.lookup p.2==some .free)&&(z.names.lookup p.2 != some .local)
def capSt (B:Nat)(cs:List Nat)(z:St):St:=qQ B none++cs.map fun c=>(z[c]?).join
def JL (wi:TI)(nt:Nat)(cs:List Nat)(g:TG)(tt:TT)(te:TE):TE:=fun σ H Q=>wi σ H fun J Y=>∀acc,Y acc=none ->
 ∃W:Nat->Nat->List V->St->Hp->Prop,(∃m,W 0 m [] (capSt nt cs σ) (upd Y acc (.lst [])))/\∀i m B M G,W i m B M G->G acc=some (.lst B) /\
  ((J.stop i G/\Q (.ref acc) G)\/(J.go i G/\B.length<sizeLine/\∃N:List V->St->Hp->Prop,(∀zs O U,N zs O U->∃m',m'<m/\W (i+1) m' zs O U) /\
   ∀x U,J.yld i G x U->g x M U fun z H3=>tt z H3 fun b H4=>if b=true then te z H4 fun y H5=>H5 acc=some (.lst B)/\N (B++[y]) z (upd H5 acc (.lst (B++[y]))) else N B z H4))
section
variable {X:Cx}
theorem zAA {pins:List (Addr×Obj)}{σ:St}{H:Hp}{s:Shared}{N:List Str}{scope:Scope}{G:Nat}{cs:List Nat}{fp:List Addr}{h1:Heap}{tk:Nat}(I:Inv X pins σ H s)
  (hsc:scB scope X.env.scope=true) (U:capB cs (N.drop G) X.N scope X.env.scope=true) (hlen:N.length=G+cs.length)
  (hf:∀b∈fp,FpOk X pins H b) (hfl:∀b∈fp,b<s.heap.objs.size) (hn:h1.Ns s.heap.objs.size fun _=>none) (hk:∀b o,s.heap.get? b=some o->h1.get? b=some o) :
  Inv (jf X N scope s.heap.objs.size s H fp) [] (capSt G cs σ) H { s with heap:=h1,toks:=tk }:=by
 unfold scB at hsc;rw[zW]at hsc;obtain⟨hkd,M⟩:=hsc;have hkd:scope.kind=.function:=by simpa using hkd
 rw[yT]at M;have Y:∀x∈scope.names,x.2≠.cell:=fun x hx e=>by have:=M x hx;rw[e]at this;simp at this
 have O:∀x,(x,NameKind.free)∈scope.names->X.env.kindOf x=some .cell\/X.env.kindOf x=some .free:=fun x hx=>by
  have:=M _ hx;simp only[bne_self_eq_false,Bool.false_or,zW,Bool.or_eq_true,beq_iff_eq]at this;exact this.2
 have kinds:∀x,((jf X N scope s.heap.objs.size s H fp).env.kindOf x=some .cell\/(jf X N scope s.heap.objs.size s H fp).env.kindOf x=some .free)->(x,NameKind.free)∈scope.names:=fun x hx=>by
  have q:∃k,(relabel scope X.env).names.lookup x=some k/\(k=.cell\/k=.free):=by
   rcases hx with e|e
   ·exact⟨_,e,.inl rfl⟩
   ·exact⟨_,e,.inr rfl⟩
  obtain⟨k,e,hk'⟩:=q;obtain⟨k0,e0,r⟩:=xQ e;have m:=PySem.mem_of_lookup e0;rcases r with r|⟨r,_⟩
  ·subst r;rcases hk' with z|z
   ·exact absurd z (Y _ m)
   ·rw[z]at m;exact m
  ·rw[r]at m;exact m
 have cellOf:∀x c,(xh scope X.env).lookup x=some c->X.env.cells.lookup x=some c:=fun x c e=>Jd e;have clt:∀x c,X.env.cells.lookup x=some c->c<s.heap.objs.size:=fun x c e=>by
  obtain⟨v,q⟩:=I.cell x c e;exact q.lt
 refine⟨⟨I.ok.mod,?_,I.ok.glob,I.ok.blt,zC _,?_,?_,?_,I.ok.hd,I.ok.frames,.inl rfl,?_,?_,?_,?_,?_,?_,?_⟩,rfl,I.bare,Un.kept hk,⟨_,hn,?_⟩,?_,?_,?_,?_,I.hok.kept hk,?_⟩
 ·show(relabel scope X.env).kind=_
  exact hkd
 ·intro x y c e1 B;exact I.ok.inj x y c (cellOf x c e1) (cellOf y c B)
 ·intro x hx;have m:=kinds x hx;obtain⟨c,hc⟩:=I.ok.has x (O x m);exact⟨c,clos_has m hc⟩
 ·intro x c z;cases z
 ·intro b hb;obtain⟨f0,f1,f2,f3,f4,f5⟩:=hf b hb;exact⟨zG (hfl b hb),fun x c e=>f4 x c (cellOf x c e)⟩
 ·intro b o e;exact I.bs b o e
 ·exact zR I.ok.bsz I.sz
 ·intro b o e hb;obtain⟨f0,f1,f2,f3,f4,f5⟩:=hf b hb;rcases f3 with z|z
  ·exact I.ok.noex b o e z
  ·exact absurd (qJ (Heap.lt_size (I.ok.bs b o e).1) z) (yr _)
 ·intro b hb hs;obtain⟨f0,f1,f2,f3,f4,f5⟩:=hf b hb;rcases zF.mp (I.stkSub b hs) with z|z
  ·exact f1 z
  ·exact f2 z
 ·exact I.stack
 ·exact I.stkFree
 ·intro i x v e1 B _;have hi:G<=i:=by
   refine Nat.le_of_not_lt fun z=>?_;unfold capSt at B;rw[qH (by simpa using z),List.getElem?_replicate,if_pos z]at B;cases B
  unfold capSt at B;rw[qG (by simpa using hi),qL,qI]at B;cases q:cs[i-G]? with
  |none=>rw[q]at B;cases B
  |some c =>
   rw[q]at B;simp only[Option.map_some,Option.some.injEq]at B;have e3:σ[c]? = some (some v):=by
    cases z:σ[c]? with
    |none=>rw[z]at B;cases B
    |some o=>rw[z]at B;exact congrArg some B
   unfold capB at U;rw[yT]at U;have e4:(N.drop G)[i-G]? = some x:=by
    rw[yQ,show G+(i-G)=i by omega];exact e1
   have m:(c,x)∈cs.zip (N.drop G):=by
    have:(cs.zip (N.drop G))[i-G]? = some (c,x):=by rw[List.getElem?_zip_eq_some];exact⟨q,e4⟩
    exact qE this
   have hm:=U _ m;simp only[zW,beq_iff_eq,bne_iff_ne,ne_eq]at hm;obtain⟨⟨h1',J⟩,h3'⟩:=hm;have hlk:scope.names.lookup x=some .free:=J;have J:(x,NameKind.free)∈scope.names:=PySem.mem_of_lookup hlk;obtain⟨mm,hmm,hl⟩:=I.loc;have vis:Vis X.env.scope x:=.inr (O x J);obtain⟨u,r,l⟩:=hl c x v h1' e3 vis;rcases l with⟨z,_⟩|⟨z,d,hd,hcell⟩
   ·exact absurd z h3'
   ·refine⟨u,r,.inr ⟨?_,d,clos_has J hd,?_⟩⟩
    ·-- its kind in the block
     have isf:∃k,(relabel scope X.env).names.lookup x=some k:=by
      have:∃k',(x,k')∈(relabel scope X.env).names:=by
       unfold relabel;by_cases cc:(X.env.scope.kind==.function&&X.env.kindOf x==some .cell)=true
       ·refine⟨.cell,qP.mpr ⟨(x,.free),J,?_⟩⟩;simp only[zW]at cc;simp[cc.1,cc.2]
       ·refine⟨.free,qP.mpr ⟨(x,.free),J,?_⟩⟩;simp only[zW]at cc;have cc':¬ ((NameKind.free==NameKind.free&&X.env.scope.kind==.function&&X.env.kindOf x==some .cell)=true):=by
         simp only[beq_self_eq_true,Bool.true_and,zW];exact cc
        show(if (NameKind.free==NameKind.free&&X.env.scope.kind==.function&&X.env.kindOf x==some .cell)=true then (x,NameKind.cell) else (x,NameKind.free))=(x,NameKind.free)
        rw[if_neg cc']
      obtain⟨k',hk'⟩:=this;exact JR hk'
     obtain⟨k,ek⟩:=isf;obtain⟨k0,e0,rr⟩:=xQ ek;rcases rr with rr|⟨_,rr⟩
     ·subst rr;rw[hlk]at e0;cases e0
      exact .inr ek
     ·subst rr;exact .inl ek
    ·obtain⟨o,ho,hd'⟩:=hcell;exact⟨o,hk _ _ ho,hd'⟩
 ·intro x c e;obtain⟨v,o,ho,hd⟩:=I.cell x c (cellOf x c e);exact⟨v,o,hk _ _ ho,hd⟩
 ·exact I.hok.fresh (zC _)
 ·intro x c e;exact I.freeC x c (cellOf x c e)
 ·intro p hp;cases hp
 ·show(capSt G cs σ).length=N.length
  unfold capSt;rw[qF,qL,qC,hlen]
theorem un_same {fs ex:List Addr}{H H':Hp}{h M h':Heap}{C:Addr}(u:Un fs ex H H' h M)(J:Heap.SameBut C M h')(G:h.objs.size<=C):Un fs ex H H' h h' where
 keep:=fun b o e n B z=>(J.2 b (zG (qJ (Heap.lt_size e) G))).trans (u.keep b o e n B z)
 slot:=fun b o e n B z=>by
  obtain⟨sl,q⟩:=u.slot b o e n B z
  exact⟨sl,(J.2 b (zG (qJ (Heap.lt_size e) G))).trans q⟩
 free:=u.free
 there:=fun b o e z=>by
  obtain⟨O,q⟩:=u.there b o e z
  exact⟨O,(J.2 b (zG (qJ (Heap.lt_size e) G))).trans q⟩
 tups:=u.tups
 frzs:=u.frzs
 tbls:=u.tbls
theorem hok_same {P:Program}{w:World}{H:Hp}{h h':Heap}{C:Addr}(x:HOk P w H h)(J:Heap.SameBut C h h')(B:H C=none):HOk P w H h':=fun b u e =>
 (x b u e).stay (fun c v G q=>(J.2 c (fun z=>by
  subst z
  rcases G with z|z
  ·subst z;rw[B]at e;cases e
  ·rw[B]at z;cases z)).trans q) (fun _ q=>q) fun _ _ q=>q
theorem pe_comp0 {tg iter elt:Expr}{ifs:List Expr}{scope:Scope}{pos:Pos}{wi:TI}{N:List Str}{nt:Nat}{cs:List Nat}{g:TG}{tt:TT}{te:TE}(hc:X.calm=true)(hi:PI X tg iter wi)
  (G:N.Nodup->∀(C:Addr) (s:Shared) (H:Hp) (fp:List Addr),CompBody (jf X N scope C s H fp) tg ifs elt g tt te)
  (hnd:N.Nodup) (hsc:scB scope X.env.scope=true) (hcap:capB cs (N.drop nt) X.N scope X.env.scope=true) (hlen:N.length=nt+cs.length)
  (hs:∀x,foldedSetIterable iter X.env x=pure x):PE X (.ListComp elt [⟨tg,iter,ifs,0⟩] scope pos) (JL wi nt cs g tt te):=by
 intro pins s σ H Q I h;have af:=hsc;unfold scB at af;rw[zW]at af;obtain⟨hkd,Y⟩:=af;have hkd:scope.kind=.function:=by simpa using hkd
 rw[yT]at Y;have nocell:∀x∈scope.names,x.2≠.cell:=fun x hx e=>by have:=Y x hx;rw[e]at this;simp at this
 have hnames:∀x∈scope.names,x.2=.local->scope.names.lookup x.1=some .local:=fun x hx e=>by
  have:=Y x hx;rw[e]at this;simp only[bne_self_eq_false,Bool.false_or,zW,beq_iff_eq]at this;exact this.1.2
 have hclos:closureFor scope X.env=pure (xh scope X.env):=JK fun x hx e=>by
  have:=Y x hx;rw[e]at this;simp only[bne_self_eq_false,Bool.false_or,zW,Bool.or_eq_true,beq_iff_eq]at this;exact I.ok.has x.1 this.2
 rw[eval_ListComp];refine wpAny_comprehension_free (use:=none) rfl hs hclos hkd hnames (thn (hi pins s σ H _ I h) fun v s1 h1=>thn h1 fun itv s2 h2=>?_);obtain⟨it,fp,tn,J,H2,e,I2,T,st2,f2,hR⟩:=h2;subst e;refine wpAny_newObj_type (wpAny_newFunctionEnv nocell (by intro y hy;simp at hy) (fun h3 hn3 hs3=>?_) hkd);have fr:=I2.fresh;have I3:Inv X pins σ (upd H2 s2.heap.objs.size (.lst [])) { s2 with heap:=s2.heap.push { cls:=.type "list",data:=.seq ([]:List Value).toArray },toks:=s2.toks }:=I2.lnew .nil (zm (by decide));obtain⟨W,⟨m0,w0⟩,turn⟩:=hR _ fr;generalize hacc:s2.heap.objs.size=acc at *;generalize hsx:({ s2 with heap:=s2.heap.push { cls:=.type "list",data:=.seq ([]:List Value).toArray },toks:=s2.toks }:Shared)=sx at *;have hC:sx.heap.objs.size=acc+1:=by rw[<-hsx,<-hacc];exact Heap.size_push _ _
 have fpl:∀b∈fp,b<acc:=fun b G=>by
  obtain⟨o,ho,_⟩:=T.obj _ _ st2 b G;rw[<-hacc];exact Heap.lt_size ho
 have f3:∀b∈fp,FpOk X pins (upd H2 acc (.lst [])) b:=fun b G=>by
  obtain⟨f0,f1⟩:=f2 b G;exact⟨by rw[zg (zG (fpl b G))];exact f0,f1⟩
 have keep3:∀b o,sx.heap.get? b=some o->h3.get? b=some o:=fun b o e=>by
  have hne:b≠sx.heap.objs.size:=zG (Heap.lt_size e);exact(hs3.2 b hne).trans (Heap.get?_push_of_some _ e)
 have IC:Inv (jf X N scope sx.heap.objs.size sx (upd H2 acc (.lst [])) fp) [] (capSt nt cs σ) (upd H2 acc (.lst [])) { sx with heap:=h3,toks:=sx.toks+([]:List (Str×Value)).length } :=
  zAA I3 hsc hcap hlen f3 (fun b G=>by rw[hC];exact zn (fpl b G)) (by simpa using hn3) keep3
 have hn3':H2 acc=none:=fr;generalize B:jf X N scope sx.heap.objs.size sx (upd H2 acc (.lst [])) fp=O at IC;have aa:O.prog=X.prog:=by rw[<-B];rfl
 have ad:O.w=X.w:=by rw[<-B];rfl
 have ctxK:O.K=X.K:=by rw[<-B];rfl
 have ctxA:O.A=X.A:=by rw[<-B];rfl
 have ctxC:O.calm=true:=by rw[<-B];exact hc
 have ac:O.xe=fun _ _=>False:=by rw[<-B];rfl
 have ae:O.env=compEnvC scope (xh scope X.env) sx.heap.objs.size X.env:=by rw[<-B];rfl
 have body:CompBody O tg ifs elt g tt te:=by rw[<-B];exact G hnd _ _ _ _
 have st3:tn 0 h3:=T.keep _ _ _ st2 fun b G o e=>keep3 b o (by rw[<-hsx];exact Heap.get?_push_of_some _ e);have stat:∀{U:Hp},(∀b∈fp,U b=none)->∀b∈fp,FpOk O [] U b:=fun hn b G=>by
  obtain⟨f0,f1,f2',f3',f4,f5⟩:=f3 b G;refine⟨hn b G,?_,?_,.inl (by rw[<-B];exact G),fun x c e=>?_,fun p hp=>?_⟩
  ·rw[ae];exact zG (by rw[hC];exact zn (fpl b G))
  ·rw[<-B];intro z;rcases zF.mp (I3.stkSub b z) with z|z
   ·exact f1 z
   ·exact f2' z
  ·rw[ae]at e;exact f4 x c (Jd e)
  ·rw[<-B]at hp;cases hp
 have fin:∀{M:St} {U:Hp} {s':Shared},Inv O [] M U s'->Q (.ref acc) U->compPost (model X.prog X.w) X.A X.xe none (EP X pins σ Q) (.ref acc) sx.heap.objs.size (.ok .next) s':=by
  intro M U s' J' q;obtain⟨m,hm,_⟩:=J'.loc;have hfree:=J'.free;rw[ae]at hm hfree;refine⟨m,hm,fun h' hs'=>⟨.ref acc,U,?_,rfl,q⟩⟩;have u:=J'.base;rw[<-B]at u;have ok:=J'.hok;rw[aa,ad]at ok;have os:=J'.os;rw[<-B]at os;refine I3.call' (s':={ s' with heap:=h' }) os (un_same u hs' (zC _)) (hok_same ok hs' hfree) J'.bare fun b G=>?_;obtain⟨f0,f1,f2',f3',f4,f5⟩:=f3 b G;exact⟨f3',f1,f4,f5⟩
 have loop:codeAny (model X.prog X.w) X.A (.compLoop (.ListComp elt [⟨tg,iter,ifs,0⟩] scope pos) 0 (.ref it) (.ref acc) O.env) (compPost (model X.prog X.w) X.A X.xe none (EP X pins σ Q) (.ref acc) sx.heap.objs.size)
   { sx with heap:=h3,toks:=sx.toks+([]:List (Str×Value)).length }:=by
  rw[<-aa,<-ad,<-ctxA];refine xy (fun n s'=>∃i ys M U,Inv O [] M U s'/\tn i s'.heap/\(∀b∈fp,U b=none)/\W i n ys M U) ?_ m0 ⟨0,[],_,_,IC,st3,fun b G=>(f3 b G).1,w0⟩;rintro n s3 ⟨i,ys,σ3,H3,I3',st3',fr3,w3⟩;have T':=T;rw[<-aa,<-ad,<-ctxK]at T';obtain⟨hacc3,alt⟩:=turn i n ys σ3 H3 w3;rcases alt with⟨stop,qn⟩|⟨go,hsz,NN,hNN,step⟩
  ·refine thn (T'.done O rfl rfl rfl ctxC i [] s3 σ3 H3 _ I3' (stat fr3) st3' stop) fun r s4 ⟨hr,I4⟩=>?_;subst hr;rw[aa,ad,ctxA];exact fin I4 qn
  ·refine thn (T'.item O rfl rfl rfl ctxC i [] s3 σ3 H3 _ I3' (stat fr3) st3' go) fun r s4 ⟨u,hr,h4⟩=>?_;subst hr;refine thn h4 fun _ s5 ⟨x,H5,I5,r5,y5,st5,fr5⟩=>?_;have I5':=I5.pinned (stat fr5) (T'.obj _ _ st5);have a1:=body.tg _ s5 σ3 H5 x u _ I5' r5 (step x H5 y5);rw[ac]at a1;refine thn a1 fun _ s6 ⟨σ6,H6,I6,q6⟩=>?_;have a2:=body.tt _ s6 σ6 H6 _ I6 q6;rw[ac]at a2;refine thn a2 fun b s7 ⟨H7,I7,q7⟩=>?_;have again:∀{s8:Shared} {σ7:St} {H7:Hp} {zs:List V},Inv O ([]++Jm fp s5.heap) σ7 H7 s8->NN zs σ7 H7->∃m,m<n/\∃i ys M U,Inv O [] M U s8/\tn i s8.heap/\(∀b∈fp,U b=none)/\W i m ys M U:=fun {s8 σ7 H7 zs} I7 n7=>by
    obtain⟨m',hm,w7⟩:=hNN zs σ7 H7 n7;refine⟨m',hm,i+1,zs,σ7,H7,I7.unpinned,T'.keep _ _ _ st5 fun b G o e=>(I7.pin (b,o) (qK _ (qK _ (xg G e)))).1,fun b G=>?_,w7⟩;obtain⟨o,e,d⟩:=T'.obj _ _ st5 b G;exact(I7.pin (b,o) (qK _ (qK _ (xg G e)))).2.1
   cases b with
   |false =>
    rw[if_neg zI]at q7 ⊢;exact again I7 q7
   |true =>
    rw[if_pos rfl]at q7 ⊢;have a3:=body.te _ s7 σ6 H7 _ I7 q7;rw[ac]at a3;refine thn a3 fun xv s8 ⟨y,H8,I8,r8,q8⟩=>?_;obtain⟨hl8,n8⟩:=q8;have a4:=mt_append (X:=O) _ s8 σ6 H8 (.ref acc) [y] (.ref acc) [xv] (fun _ H9=>NN (ys++[y]) σ6 H9) I8 rfl (.cons r8 .nil) ⟨acc,ys,y,rfl,rfl,hl8,hsz,n8⟩;rw[ac]at a4;refine thn a4 fun _ s9 ⟨_,H9,I9,_,q9⟩=>?_;exact again I9 q9
 rw[ae]at loop;exact codeAny_compStart_list loop (T.self X.A 0 _ _ _ st3 loop)
theorem jN {y:Str}{py spos:Pos}{ix:Nat}{tg iter elt:Expr}{ifs:List Expr}{scope:Scope}{pos:Pos}{wi:TI}{N:List Str}{nt:Nat}{cs:List Nat}{g:TG}{tt:TT}{te:TE}(hc:X.calm=true)(hi:PI X tg iter wi)
  (G:N.Nodup->∀(C:Addr) (s:Shared) (H:Hp) (fp:List Addr),CompBody (jf X N scope C s H fp) tg ifs elt g tt te)
  (hnd:N.Nodup) (hsc:scB scope X.env.scope=true) (hcap:capB cs (N.drop nt) X.N scope X.env.scope=true) (hlen:N.length=nt+cs.length)
  (hs:∀x,foldedSetIterable iter X.env x=pure x) (hN:X.N.Nodup) (hix:X.N[ix]? = some y) (hy:Loc X.env.scope y) (hf:X.fn y=true\/X.env.scope.names.lookup y=some .local)
  (hsw:swapsWith (.ListComp elt [⟨tg,iter,ifs,0⟩] scope pos) (some (.Name y py)) spos.line X.env=pure true):PS X (.Assign [.Name y py] (.ListComp elt [⟨tg,iter,ifs,0⟩] scope pos) spos) (tAsg (JL wi nt cs g tt te) (xF ix)):=by
 intro pins s σ H D I h;have ag:=hsc;unfold scB at ag;rw[zW]at ag;obtain⟨hkd,aa⟩:=ag;have hkd:scope.kind=.function:=by simpa using hkd
 rw[yT]at aa;have nocell:∀x∈scope.names,x.2≠.cell:=fun x hx e=>by have:=aa x hx;rw[e]at this;simp at this
 have hnames:∀x∈scope.names,x.2=.local->scope.names.lookup x.1=some .local:=fun x hx e=>by
  have:=aa x hx;rw[e]at this;simp only[bne_self_eq_false,Bool.false_or,zW,beq_iff_eq]at this;exact this.1.2
 have hclos:closureFor scope X.env=pure (xh scope X.env):=JK fun x hx e=>by
  have:=aa x hx;rw[e]at this;simp only[bne_self_eq_false,Bool.false_or,zW,Bool.or_eq_true,beq_iff_eq]at this;exact I.ok.has x.1 this.2
 rw[exec_Assign_Name_used _ _ _ _ hsw];refine wpAny_bind (wpAny_standAt (wpAny_bind ?_));show wpAny _ X.A (do let _ ← comprehension (.ListComp elt [⟨tg,iter,ifs,0⟩] scope pos) scope X.env _ (newList []) false (eval iter X.env) (some (assign (.Name y py) X.env))) _ _ s
 refine wpAny_bind (wpAny_mono (wpAny_comprehension_free (use:=some (assign (.Name y py) X.env)) (Q:=fun _ Y=>SP X pins D .next Y) rfl hs hclos hkd hnames
  (thn (hi pins s σ H _ I h) fun v s1 h1=>thn h1 fun itv s2 h2=>?_)) (fun _ Y hq=>wpAny_pure (wpAny_pure hq)) fun _ _ e=>e)
 obtain⟨it,fp,tn,J,H2,e,I2,T,st2,f2,hR⟩:=h2;subst e;refine wpAny_newObj_type (wpAny_newFunctionEnv nocell (by intro y hy;simp at hy) (fun h3 hn3 hs3=>?_) hkd);have fr:=I2.fresh;have I3:Inv X pins σ (upd H2 s2.heap.objs.size (.lst [])) { s2 with heap:=s2.heap.push { cls:=.type "list",data:=.seq ([]:List Value).toArray },toks:=s2.toks }:=I2.lnew .nil (zm (by decide));obtain⟨W,⟨m0,w0⟩,turn⟩:=hR _ fr;generalize hacc:s2.heap.objs.size=acc at *;generalize hsx:({ s2 with heap:=s2.heap.push { cls:=.type "list",data:=.seq ([]:List Value).toArray },toks:=s2.toks }:Shared)=sx at *;have hC:sx.heap.objs.size=acc+1:=by rw[<-hsx,<-hacc];exact Heap.size_push _ _
 have fpl:∀b∈fp,b<acc:=fun b G=>by
  obtain⟨o,ho,_⟩:=T.obj _ _ st2 b G;rw[<-hacc];exact Heap.lt_size ho
 have f3:∀b∈fp,FpOk X pins (upd H2 acc (.lst [])) b:=fun b G=>by
  obtain⟨f0,f1⟩:=f2 b G;exact⟨by rw[zg (zG (fpl b G))];exact f0,f1⟩
 have keep3:∀b o,sx.heap.get? b=some o->h3.get? b=some o:=fun b o e=>by
  have hne:b≠sx.heap.objs.size:=zG (Heap.lt_size e);exact(hs3.2 b hne).trans (Heap.get?_push_of_some _ e)
 have IC:Inv (jf X N scope sx.heap.objs.size sx (upd H2 acc (.lst [])) fp) [] (capSt nt cs σ) (upd H2 acc (.lst [])) { sx with heap:=h3,toks:=sx.toks+([]:List (Str×Value)).length } :=
  zAA I3 hsc hcap hlen f3 (fun b G=>by rw[hC];exact zn (fpl b G)) (by simpa using hn3) keep3
 have hn3':H2 acc=none:=fr;generalize B:jf X N scope sx.heap.objs.size sx (upd H2 acc (.lst [])) fp=O at IC;have ac:O.prog=X.prog:=by rw[<-B];rfl
 have ae:O.w=X.w:=by rw[<-B];rfl
 have ctxK:O.K=X.K:=by rw[<-B];rfl
 have ctxA:O.A=X.A:=by rw[<-B];rfl
 have ctxC:O.calm=true:=by rw[<-B];exact hc
 have ad:O.xe=fun _ _=>False:=by rw[<-B];rfl
 have af:O.env=compEnvC scope (xh scope X.env) sx.heap.objs.size X.env:=by rw[<-B];rfl
 have body:CompBody O tg ifs elt g tt te:=by rw[<-B];exact G hnd _ _ _ _
 have st3:tn 0 h3:=T.keep _ _ _ st2 fun b G o e=>keep3 b o (by rw[<-hsx];exact Heap.get?_push_of_some _ e);have stat:∀{U:Hp},(∀b∈fp,U b=none)->∀b∈fp,FpOk O [] U b:=fun hn b G=>by
  obtain⟨f0,f1,f2',f3',f4,f5⟩:=f3 b G;refine⟨hn b G,?_,?_,.inl (by rw[<-B];exact G),fun x c e=>?_,fun p hp=>?_⟩
  ·rw[af];exact zG (by rw[hC];exact zn (fpl b G))
  ·rw[<-B];intro z;rcases zF.mp (I3.stkSub b z) with z|z
   ·exact f1 z
   ·exact f2' z
  ·rw[af]at e;exact f4 x c (Jd e)
  ·rw[<-B]at hp;cases hp
 have fin:∀{M:St} {U:Hp} {Y:Shared},Inv O [] M U Y->D.nx (σ.set ix (some (.ref acc))) U->compPost (model X.prog X.w) X.A X.xe (some (assign (.Name y py) X.env)) (fun _ Y=>SP X pins D .next Y) (.ref acc) sx.heap.objs.size (.ok .next) Y:=by
  intro M U Y J' q;obtain⟨m,hm,_⟩:=J'.loc;have hfree:=J'.free;rw[af]at hm hfree;have u:=J'.base;rw[<-B]at u;have ok:=J'.hok;rw[ac,ae]at ok;have os:=J'.os;rw[<-B]at os;have IX:Inv X pins σ U Y:=I3.call' os u ok J'.bare fun b G=>by
   obtain⟨f0,f1,f2',f3',f4,f5⟩:=f3 b G;exact⟨f3',f1,f4,f5⟩
  have hCL:sx.heap.objs.size≠X.env.locals:=xV I3.lt;have hCc:∀x c,X.env.cells.lookup x=some c->c≠sx.heap.objs.size:=fun x c e=>by
   obtain⟨v,z⟩:=I3.cell x c e;exact zG z.lt
  have hCp:∀p∈X.pn++pins,p.1≠sx.heap.objs.size:=fun p hp=>zG (Heap.lt_size (I3.pin p hp).1);show wpAny _ X.A (assign (.Name y py) X.env (.ref acc)) _ _ Y
  refine wpAny_assign_Name (store_ok2 IX hN hix hy (v:=.ref acc) rfl (fun s'' I'' ⟨a,hsb,ha⟩=>?_) hf);have hCa:sx.heap.objs.size≠a:=fun z=>by
   rcases ha with e|e
   ·exact hCL (z.trans e)
   ·exact hCc _ _ e z.symm
  refine⟨m,hm.sameBut hsb hCa,fun h' hs'=>⟨_,U,?_,q⟩⟩;exact I''.turned (t':=s''.toks) (fun b o G e=>(hs'.2 b G).trans e) hfree hCL (.inr I3.sz) hCc hCp
 have loop:codeAny (model X.prog X.w) X.A (.compLoop (.ListComp elt [⟨tg,iter,ifs,0⟩] scope pos) 0 (.ref it) (.ref acc) O.env) (compPost (model X.prog X.w) X.A X.xe (some (assign (.Name y py) X.env)) (fun _ Y=>SP X pins D .next Y) (.ref acc) sx.heap.objs.size)
   { sx with heap:=h3,toks:=sx.toks+([]:List (Str×Value)).length }:=by
  rw[<-ac,<-ae,<-ctxA];refine xy (fun n Y=>∃i ys M U,Inv O [] M U Y/\tn i Y.heap/\(∀b∈fp,U b=none)/\W i n ys M U) ?_ m0 ⟨0,[],_,_,IC,st3,fun b G=>(f3 b G).1,w0⟩;rintro n s3 ⟨i,ys,σ3,H3,I3',st3',fr3,w3⟩;have T':=T;rw[<-ac,<-ae,<-ctxK]at T';obtain⟨hacc3,alt⟩:=turn i n ys σ3 H3 w3;rcases alt with⟨stop,qn⟩|⟨go,hsz,NN,hNN,step⟩
  ·refine thn (T'.done O rfl rfl rfl ctxC i [] s3 σ3 H3 _ I3' (stat fr3) st3' stop) fun r s4 ⟨hr,I4⟩=>?_;subst hr;rw[ac,ae,ctxA];exact fin I4 qn
  ·refine thn (T'.item O rfl rfl rfl ctxC i [] s3 σ3 H3 _ I3' (stat fr3) st3' go) fun r s4 ⟨u,hr,h4⟩=>?_;subst hr;refine thn h4 fun _ s5 ⟨x,H5,I5,r5,y5,st5,fr5⟩=>?_;have I5':=I5.pinned (stat fr5) (T'.obj _ _ st5);have a1:=body.tg _ s5 σ3 H5 x u _ I5' r5 (step x H5 y5);rw[ad]at a1;refine thn a1 fun _ s6 ⟨σ6,H6,I6,q6⟩=>?_;have a2:=body.tt _ s6 σ6 H6 _ I6 q6;rw[ad]at a2;refine thn a2 fun b s7 ⟨H7,I7,q7⟩=>?_;have again:∀{s8:Shared} {σ7:St} {H7:Hp} {zs:List V},Inv O ([]++Jm fp s5.heap) σ7 H7 s8->NN zs σ7 H7->∃m,m<n/\∃i ys M U,Inv O [] M U s8/\tn i s8.heap/\(∀b∈fp,U b=none)/\W i m ys M U:=fun {s8 σ7 H7 zs} I7 n7=>by
    obtain⟨m',hm,w7⟩:=hNN zs σ7 H7 n7;refine⟨m',hm,i+1,zs,σ7,H7,I7.unpinned,T'.keep _ _ _ st5 fun b G o e=>(I7.pin (b,o) (qK _ (qK _ (xg G e)))).1,fun b G=>?_,w7⟩;obtain⟨o,e,d⟩:=T'.obj _ _ st5 b G;exact(I7.pin (b,o) (qK _ (qK _ (xg G e)))).2.1
   cases b with
   |false =>
    rw[if_neg zI]at q7 ⊢;exact again I7 q7
   |true =>
    rw[if_pos rfl]at q7 ⊢;have a3:=body.te _ s7 σ6 H7 _ I7 q7;rw[ad]at a3;refine thn a3 fun xv s8 ⟨y,H8,I8,r8,q8⟩=>?_;obtain⟨hl8,n8⟩:=q8;have a4:=mt_append (X:=O) _ s8 σ6 H8 (.ref acc) [y] (.ref acc) [xv] (fun _ H9=>NN (ys++[y]) σ6 H9) I8 rfl (.cons r8 .nil) ⟨acc,ys,y,rfl,rfl,hl8,hsz,n8⟩;rw[ad]at a4;refine thn a4 fun _ s9 ⟨_,H9,I9,_,q9⟩=>?_;exact again I9 q9
 rw[af]at loop;exact codeAny_compStart_list loop (T.self X.A 0 _ _ _ st3 loop)
end
inductive Dt where
 |f (x:V)
 |l (xs:List Dt)
 |t (xs:List Dt)
mutual
def Is (K:zA)(H:Hp)(x:V):Dt->Prop
 |.f y=>x=y/\jI y=true
 |.l B=>∃p z,x=.ref p/\SqL K H p z/\IsL K H z B
 |.t B=>∃p z,x=.ref p/\SqT K H p z/\IsL K H z B
def IsL (K:zA)(H:Hp)(xs:List V):List Dt->Prop
 |[]=>xs=[]
 |d::z=>∃x r,xs=x::r/\Is K H x d/\IsL K H r z
def deq:Dt->Dt->Bool
 |.f x,.f y=>eqV x y
 |.l B,.l z=>deqL B z
 |.t B,.t z=>deqL B z
 |_,_=>false
def deqL:List Dt->List Dt->Bool
 |[],[]=>true
 |x::B,y::z=>deq x y&&deqL B z
 |_,_=>false
def dep:Dt->Nat
 |.f _=>0
 |.l z=>depL z+1
 |.t z=>depL z+1
def depL:List Dt->Nat
 |[]=>0
 |d::z=>max (dep d) (depL z)
end
theorem IsL.len {K:zA}{H:Hp}:∀{ds:List Dt} {xs:List V},IsL K H xs ds->xs.length=ds.length
 |[],xs,h=>by rw[IsL]at h;subst h;rfl
 |d::ds,xs,h=>by
  rw[IsL]at h
  obtain⟨x,r,rfl,_,h⟩:=h
  rw[zH,zH,IsL.len h]
theorem IsL.get {K:zA}{H:Hp}:∀{ds:List Dt} {xs:List V} {j:Nat} {x:V},IsL K H xs ds->xs[j]? = some x->∃d,ds[j]? = some d/\Is K H x d
 |[],xs,j,x,h,e=>by rw[IsL]at h;subst h;simp at e
 |d::ds,xs,j,x,h,e=>by
  rw[IsL]at h
  obtain⟨y,r,rfl,z,h⟩:=h
  cases j with
  |zero=>simp at e;subst e;exact⟨d,rfl,z⟩
  |succ j=>exact IsL.get (j:=j) h (by simpa using e)
theorem depL_mem {ds:List Dt}:∀{d:Dt} {j:Nat},ds[j]? = some d->dep d<=depL ds:=by
 induction ds with
 |nil=>intro d j e;simp at e
 |cons a r ih =>
  intro d j e;rw[depL];cases j with
  |zero=>simp at e;subst e;omega
  |succ j=>have:=ih (d:=d) (j:=j) (by simpa using e);omega
mutual
theorem deq_refl:∀(d:Dt) {K:zA} {H:Hp} {x:V},Is K H x d->deq d d=true
 |.f y,K,H,x,h=>by
  rw[Is]at h
  rw[deq]
  have B:=h.2
  cases y<;>first|(simp[eqV];done)|(exact absurd B (by decide))|(cases B)
 |.l z,K,H,x,h=>by
  rw[Is]at h
  obtain⟨p,G,_,_,h⟩:=h
  rw[deq]
  exact Jo z h
 |.t z,K,H,x,h=>by
  rw[Is]at h
  obtain⟨p,G,_,_,h⟩:=h
  rw[deq]
  exact Jo z h
theorem Jo:∀(ds:List Dt) {K:zA} {H:Hp} {xs:List V},IsL K H xs ds->deqL ds ds=true
 |[],_,_,_,_=>by rw[deqL]
 |d::ds,K,H,xs,h=>by
  rw[IsL]at h
  obtain⟨y,r,_,z,h⟩:=h
  rw[deqL,deq_refl d z,Jo ds h]
  rfl
end
theorem deqL_get:∀{ds es:List Dt},deqL ds es=(decide (ds.length=es.length)&&(zp ds.length).all fun j=>match ds[j]?,es[j]? with|some d,some e=>deq d e|_,_=>false)
 |[],[]=>by simp[deqL]
 |[],e::es=>by simp[deqL]
 |d::ds,[]=>by simp[deqL]
 |d::ds,e::es=>by
  rw[deqL,deqL_get]
  have r:zp (d::ds).length=0::(zp ds.length).map (· + 1):=by rw[zH,yp]
  rw[r,List.all_cons,List.all_map]
  simp only[zr,zH,Nat.add_right_cancel_iff]
  have c:((fun j=>match (d::ds)[j]?,(e::es)[j]? with|some d,some e=>deq d e|_,_=>false) ∘ fun x=>x+1)=(fun j=>match ds[j]?,es[j]? with|some d,some e=>deq d e|_,_=>false):=by
   funext j
   simp
  rw[c];cases deq d e<;>cases decide (ds.length=es.length)<;>rfl
section
variable {X:Cx}{pins:List (Addr×Obj)}{σ:St}{H:Hp}{s:Shared}
mutual
theorem Is.inj:∀(d:Dt) {e:Dt} {x:V},Inv X pins σ H s->Is X.K H x d->Is X.K H x e->(∀p M Y,SqL X.K H p M -> ¬ SqT X.K H p Y)->d=e
 |.f y,e,x,I,h,B,J=>by
  rw[Is]at h
  obtain⟨rfl,hy⟩:=h
  cases e with
  |f z=>rw[Is]at B;rw[B.1]
  |l U=>rw[Is]at B;obtain⟨p,M,e,_⟩:=B;subst e;cases hy
  |t U=>rw[Is]at B;obtain⟨p,M,e,_⟩:=B;subst e;cases hy
 |.l U,e,x,I,h,B,J=>by
  rw[Is]at h
  obtain⟨p,M,rfl,O,h⟩:=h
  cases e with
  |f z=>rw[Is]at B;obtain⟨e,hz⟩:=B;subst e;cases hz
  |l es =>
   rw[Is]at B
   obtain⟨q,Y,e,G,B⟩:=B
   cases e
   rw[I.list_inj G O]at B
   rw[IsL.inj U I h B J]
  |t es =>
   rw[Is]at B
   obtain⟨q,Y,e,G,B⟩:=B
   cases e
   exact absurd G (J _ _ _ O)
 |.t U,e,x,I,h,B,J=>by
  rw[Is]at h
  obtain⟨p,M,rfl,O,h⟩:=h
  cases e with
  |f z=>rw[Is]at B;obtain⟨e,hz⟩:=B;subst e;cases hz
  |l es =>
   rw[Is]at B
   obtain⟨q,Y,e,G,B⟩:=B
   cases e
   exact absurd O (J _ _ _ G)
  |t es =>
   rw[Is]at B
   obtain⟨q,Y,e,G,B⟩:=B
   cases e
   rw[I.tuple_inj G O]at B
   rw[IsL.inj U I h B J]
theorem IsL.inj:∀(ds:List Dt) {es:List Dt} {xs:List V},Inv X pins σ H s->IsL X.K H xs ds->IsL X.K H xs es->(∀p xs O,SqL X.K H p xs -> ¬ SqT X.K H p O)->ds=es
 |[],es,xs,I,h,z,B=>by
  rw[IsL]at h
  subst h
  cases es with
  |nil=>rfl
  |cons e es=>rw[IsL]at z;obtain⟨_,_,e,_⟩:=z;cases e
 |d::ds,es,xs,I,h,z,B=>by
  rw[IsL]at h
  obtain⟨y,r,rfl,M,h⟩:=h
  cases es with
  |nil=>rw[IsL]at z;cases z
  |cons e es =>
   rw[IsL]at z
   obtain⟨U,Y,J,G,z⟩:=z
   cases J
   rw[Is.inj d I M G B,IsL.inj ds I h z B]
end
theorem Inv.apart (I:Inv X pins σ H s):∀p M J,SqL X.K H p M -> ¬ SqT X.K H p J:=fun p M J h U=>by
 obtain⟨O,_,⟨o,n,e,c,_⟩,_⟩:=I.list h
 obtain⟨z,_,⟨Y,B,G,_⟩,_⟩:=I.tuple U
 rw[e]at B
 cases B
 rw[c]at G
 exact absurd G (by decide)
theorem eqAt_F {x:V}(e:Dt){A:Around}{y:V}{u v:Value}(J:A.units<cLine)(I:Inv X pins σ H s)(fx:jI x=true)(M:Is X.K H y e)(B:RelV x u)(U:RelV y v):SeqAt.EqAt A s u v (deq (.f x) e):=by
 cases e with
 |f y' =>
  rw[Is]at M;obtain⟨rfl,fy⟩:=M;rw[deq];exact eqAt_V B U fx fy
 |l ds =>
  rw[Is]at M;obtain⟨p,ys,rfl,hs,_⟩:=M;cases U
  obtain⟨O,_,Y,_⟩:=I.list hs;have G:=Y.isList;rw[show deq (.f x) (.l ds)=false by rw[deq];all_goals (intros;simp_all)];cases x with
  |non=>cases B;exact SeqAt.EqAt.none_list G J
  |bl b=>cases B;exact SeqAt.EqAt.bool_list b G J
  |int i=>obtain⟨t,rfl⟩:=B;exact SeqAt.EqAt.int_list i t G J
  |str z=>obtain⟨t,rfl⟩:=B;exact SeqAt.EqAt.str_list z t G J
  |_=>cases fx
 |t ds =>
  rw[Is]at M;obtain⟨p,ys,rfl,hs,_⟩:=M;cases U
  obtain⟨O,_,Y,_⟩:=I.tuple hs;have G:s.heap.IsTuple p O.toArray:=Y;rw[show deq (.f x) (.t ds)=false by rw[deq];all_goals (intros;simp_all)];cases x with
  |non=>cases B;exact SeqAt.EqAt.none_tuple G J
  |bl b=>cases B;exact SeqAt.EqAt.bool_tuple b G J
  |int i=>obtain⟨t,rfl⟩:=B;exact SeqAt.EqAt.int_tuple i t G J
  |str z=>obtain⟨t,rfl⟩:=B;exact SeqAt.EqAt.str_tuple z t G J
  |_=>cases fx
def deqAt (ds es:List Dt)(j:Nat):Bool:=match ds[j]?,es[j]? with|some d,some e=>deq d e|_,_=>false
theorem elems {n:Nat}{A:Around}(ih:∀(d e:Dt) {A:Around} {x y:V} {u v:Value},dep d<=n->A.units+n<cLine->Inv X pins σ H s->Is X.K H x d->Is X.K H y e->RelV x u->RelV y v->SeqAt.EqAt A s u v (deq d e))(hu:A.units+(n+1)<cLine)(I:Inv X pins σ H s)
  {ds es:List Dt} {xs B:List V} {z its':List Value} (hd:depL ds<=n) (hx:IsL X.K H xs ds) (hy:IsL X.K H B es) (Y:Vals xs z) (ry:Vals B its') :
  ∀j (M:j<z.toArray.size) (O:j<its'.toArray.size),SeqAt.EqAt A.in1 s z.toArray[j] its'.toArray[j] (deqAt ds es j):=by
 intro j M O;have l1:=Y.length;have l2:=ry.length;have k1:j<xs.length:=by simpa[l1] using M
 have k2:j<B.length:=by simpa[l2] using O
 obtain⟨d,U,q1⟩:=hx.get (qA k1);obtain⟨e,e2,q2⟩:=hy.get (qA k2);obtain⟨u,G,ru⟩:=Y.get (qA k1);obtain⟨v,J,rv⟩:=ry.get (qA k2);have f1:z.toArray[j]=u:=by
  have:z[j]? = some z.toArray[j]:=by simp
  rw[G]at this;exact(Option.some.inj this).symm
 have f2:its'.toArray[j]=v:=by
  have:its'[j]? = some its'.toArray[j]:=by simp
  rw[J]at this;exact(Option.some.inj this).symm
 rw[f1,f2];unfold deqAt;rw[U,e2];exact ih d e (zR (depL_mem U) hd) (by rw[Around.in1_units];omega) I q1 q2 ru rv
theorem JF {ds es:List Dt}(h:ds.length=es.length):(zp ds.length).all (deqAt ds es)=deqL ds es:=by
 rw[deqL_get,decide_eq_true h,Bool.true_and];rfl
theorem deqL_ne {ds es:List Dt}(h:ds.length≠es.length):deqL ds es=false:=by
 rw[deqL_get,decide_eq_false h,Bool.false_and]
theorem rcAt_D:∀(n:Nat) (d e:Dt) {A:Around} {x y:V} {u v:Value},dep d<=n->A.units+n<cLine->Inv X pins σ H s->Is X.K H x d->Is X.K H y e->RelV x u->RelV y v->SeqAt.EqAt A s u v (deq d e)/\(∀p,x=.ref p->SeqAt.RcAt A s u v (deq d e))
 |n,.f x',e,A,x,y,u,v,hn,hu,I,hx,O,rx,U=>by
  rw[Is]at hx
  obtain⟨rfl,fx⟩:=hx
  exact⟨eqAt_F e (by omega) I fx O rx U,fun p e=>by subst e;cases fx⟩
 |0,.l ds,e,A,x,y,u,v,hn,hu,I,hx,O,rx,U=>by rw[dep]at hn;omega
 |0,.t ds,e,A,x,y,u,v,hn,hu,I,hx,O,rx,U=>by rw[dep]at hn;omega
 |n+1,.l ds,e,A,x,y,u,v,hn,hu,I,hx,O,rx,U=>by
  rw[dep]at hn
  have hx0:=hx
  rw[Is]at hx
  obtain⟨p,xs,rfl,hs,hxs⟩:=hx
  cases rx
  obtain⟨its,rv,pl,_⟩:=I.list hs
  have G:=pl.isList
  have B:A.units<cLine:=by omega
  have ih:=fun(d e:Dt) {A:Around} {x y:V} {u v:Value} (a:dep d<=n) (b:A.units+n<cLine) (c:Inv X pins σ H s) (f:Is X.K H x d) (g:Is X.K H y e) (h:RelV x u) (i:RelV y v)=>(rcAt_D n d e a b c f g h i).1
  cases e with
  |f y' =>
   rw[Is]at O
   obtain⟨rfl,fy⟩:=O
   rw[show deq (.l ds) (.f y)=false by rw[deq];all_goals (intros;simp_all)]
   cases y with
   |non=>cases U;exact⟨SeqAt.EqAt.list_none G B,fun _ _=>SeqAt.RcAt.list_none G B⟩
   |bl b=>cases U;exact⟨SeqAt.EqAt.list_bool b G B,fun _ _=>SeqAt.RcAt.list_bool b G B⟩
   |int i=>obtain⟨t,rfl⟩:=U;exact⟨SeqAt.EqAt.list_int i t G B,fun _ _=>SeqAt.RcAt.list_int i t G B⟩
   |str z=>obtain⟨t,rfl⟩:=U;exact⟨SeqAt.EqAt.list_str z t G B,fun _ _=>SeqAt.RcAt.list_str z t G B⟩
   |_=>cases fy
  |l es =>
   have hy0:=O
   rw[Is]at O
   obtain⟨q,ys,rfl,ac,Y⟩:=O
   cases U
   obtain⟨J,ad,aa,_⟩:=I.list ac
   have M:=aa.isList
   have e1:its.toArray.size=ds.length:=by rw[qM,<-rv.length,hxs.len]
   have e2:J.toArray.size=es.length:=by rw[qM,<-ad.length,Y.len]
   have rc:SeqAt.RcAt A s (.ref p) (.ref q) (deq (.l ds) (.l es)):=by
    rw[deq];by_cases hz:ds.length=es.length
    ·have:=SeqAt.RcAt.lists G M (by omega) B (elems ih hu I (by omega) hxs Y rv ad);rw[e1,JF hz]at this;exact this
    ·rw[deqL_ne hz];exact SeqAt.RcAt.lists_lengths G M (by rw[bne_iff_ne];omega) B
   refine⟨?_,fun _ _=>rc⟩;by_cases hpq:p=q
   ·subst hpq;have:=Is.inj _ I hx0 hy0 I.apart;rw[<-this,deq_refl _ hx0];exact SeqAt.EqAt.same _
   ·exact SeqAt.EqAt.of_refs hpq rc
  |t es =>
   rw[Is]at O;obtain⟨q,ys,rfl,ac,Y⟩:=O;cases U
   obtain⟨J,ad,aa,_⟩:=I.tuple ac;have M:s.heap.IsTuple q J.toArray:=aa;rw[show deq (.l ds) (.t es)=false by rw[deq];all_goals (intros;simp_all)];exact⟨SeqAt.EqAt.list_tuple G M B,fun _ _=>SeqAt.RcAt.list_tuple G M B⟩
 |n+1,.t ds,e,A,x,y,u,v,hn,hu,I,hx,O,rx,U=>by
  rw[dep]at hn;have hx0:=hx;rw[Is]at hx;obtain⟨p,xs,rfl,hs,hxs⟩:=hx;cases rx
  obtain⟨its,rv,pl,_⟩:=I.tuple hs;have G:s.heap.IsTuple p its.toArray:=pl;have B:A.units<cLine:=by omega
  have ih:=fun(d e:Dt) {A:Around} {x y:V} {u v:Value} (a:dep d<=n) (b:A.units+n<cLine) (c:Inv X pins σ H s) (f:Is X.K H x d) (g:Is X.K H y e) (h:RelV x u) (i:RelV y v)=>(rcAt_D n d e a b c f g h i).1;cases e with
  |f y' =>
   rw[Is]at O;obtain⟨rfl,fy⟩:=O;rw[show deq (.t ds) (.f y)=false by rw[deq];all_goals (intros;simp_all)];cases y with
   |non=>cases U;exact⟨SeqAt.EqAt.tuple_none G B,fun _ _=>SeqAt.RcAt.tuple_none G B⟩
   |bl b=>cases U;exact⟨SeqAt.EqAt.tuple_bool b G B,fun _ _=>SeqAt.RcAt.tuple_bool b G B⟩
   |int i=>obtain⟨t,rfl⟩:=U;exact⟨SeqAt.EqAt.tuple_int i t G B,fun _ _=>SeqAt.RcAt.tuple_int i t G B⟩
   |str z=>obtain⟨t,rfl⟩:=U;exact⟨SeqAt.EqAt.tuple_str z t G B,fun _ _=>SeqAt.RcAt.tuple_str z t G B⟩
   |_=>cases fy
  |l es =>
   rw[Is]at O;obtain⟨q,ys,rfl,ac,Y⟩:=O;cases U
   obtain⟨J,ad,aa,_⟩:=I.list ac;have M:=aa.isList;rw[show deq (.t ds) (.l es)=false by rw[deq];all_goals (intros;simp_all)];exact⟨SeqAt.EqAt.tuple_list G M B,fun _ _=>SeqAt.RcAt.tuple_list G M B⟩
  |t es =>
   have hy0:=O;rw[Is]at O;obtain⟨q,ys,rfl,ac,Y⟩:=O;cases U
   obtain⟨J,ad,aa,_⟩:=I.tuple ac;have M:s.heap.IsTuple q J.toArray:=aa;have e1:its.toArray.size=ds.length:=by rw[qM,<-rv.length,hxs.len]
   have e2:J.toArray.size=es.length:=by rw[qM,<-ad.length,Y.len]
   have rc:SeqAt.RcAt A s (.ref p) (.ref q) (deq (.t ds) (.t es)):=by
    rw[deq];have:=SeqAt.RcAt.tuples G M B (elems ih hu I (by omega) hxs Y rv ad);rw[e1,e2]at this;by_cases hz:ds.length=es.length
    ·rw[<-hz,Nat.min_self,JF hz,beq_self_eq_true,Bool.and_true]at this;exact this
    ·rw[deqL_ne hz];have:(ds.length==es.length)=false:=by simpa using hz
     simp_all
   refine⟨?_,fun _ _=>rc⟩;by_cases hpq:p=q
   ·subst hpq;have:=Is.inj _ I hx0 hy0 I.apart;rw[<-this,deq_refl _ hx0];exact SeqAt.EqAt.same _
   ·exact SeqAt.EqAt.of_refs hpq rc
end
def rEqD (K:zA):R2:=fun x y H Q=>∃p d e,x=.ref p/\Is K H x d/\Is K H y e/\dep d<=50/\Q (.bl (deq d e)) H
def rNeD (K:zA):R2:=fun x y H Q=>∃p d e,x=.ref p/\Is K H x d/\Is K H y e/\dep d<=50/\Q (.bl (!deq d e)) H
section
variable {X:Cx}
theorem op_eqD {k:Nat}(B:Room k X.A):OpR X (compareOp .Eq) (rEqD X.K):=by
 intro pins s U H x y v u Q I J G h;obtain⟨p,d,e,rfl,O,M,z,q⟩:=h;have:=(rcAt_D 50 d e (A:=X.A) z (by have:=B.units;omega) I O M J G).2 p rfl;exact this X.prog X.w X.xe _ ⟨.bl _,H,I,rfl,q⟩
end
section
variable {X:Cx}{pins:List (Addr×Obj)}{σ:St}{H:Hp}{s:Shared}
theorem ih50 (n:Nat)(d e:Dt){A:Around}{x y:V}{u v:Value}(a:dep d<=n)(b:A.units+n<cLine)(c:Inv X pins σ H s)(f:Is X.K H x d)(g:Is X.K H y e)(h:RelV x u)(i:RelV y v):SeqAt.EqAt A s u v (deq d e):=(rcAt_D n d e a b c f g h i).1
theorem neAt_D (n:Nat)(d e:Dt){A:Around}{p:Addr}{y:V}{v:Value}(hn:dep d<=n+1)(hu:A.units+(n+1)<cLine)(I:Inv X pins σ H s)(hx:Is X.K H (.ref p) d)(hy:Is X.K H y e)(ry:RelV y v):SeqAt.RcNeAt A s (.ref p) v (!deq d e):=by
 have B:A.units<cLine:=by omega
 cases d with
 |f x=>rw[Is]at hx;obtain⟨e,hz⟩:=hx;subst e;cases hz
 |l ds =>
  rw[dep]at hn;rw[Is]at hx;obtain⟨p',xs,e0,hs,hxs⟩:=hx;cases e0
  obtain⟨its,rv,pl,_⟩:=I.list hs;have hl:=pl.isList;cases e with
  |f y' =>
   rw[Is]at hy;obtain⟨rfl,fy⟩:=hy;rw[show deq (.l ds) (.f y)=false by rw[deq];all_goals (intros;simp_all)];cases y with
   |non=>cases ry;exact SeqAt.RcNeAt.list_none hl B
   |bl b=>cases ry;exact SeqAt.RcNeAt.list_bool b hl B
   |int i=>obtain⟨t,rfl⟩:=ry;exact SeqAt.RcNeAt.list_int i t hl B
   |str z=>obtain⟨t,rfl⟩:=ry;exact SeqAt.RcNeAt.list_str z t hl B
   |_=>cases fy
  |l es =>
   rw[Is]at hy;obtain⟨q,ys,rfl,U,O⟩:=hy;cases ry
   obtain⟨G,Y,M,_⟩:=I.list U;have J:=M.isList;have e1:its.toArray.size=ds.length:=by rw[qM,<-rv.length,hxs.len]
   have e2:G.toArray.size=es.length:=by rw[qM,<-Y.length,O.len]
   rw[deq];by_cases hz:ds.length=es.length
   ·have:=SeqAt.RcNeAt.lists hl J (by omega) B (elems (ih50 n) hu I (by omega) hxs O rv Y);rw[e1,JF hz]at this;exact this
   ·rw[deqL_ne hz];exact SeqAt.RcNeAt.lists_lengths hl J (by rw[bne_iff_ne];omega) B
  |t es =>
   rw[Is]at hy;obtain⟨q,ys,rfl,U,O⟩:=hy;cases ry
   obtain⟨G,Y,M,_⟩:=I.tuple U;have J:s.heap.IsTuple q G.toArray:=M;rw[show deq (.l ds) (.t es)=false by rw[deq];all_goals (intros;simp_all)];exact SeqAt.RcNeAt.list_tuple hl J B
 |t ds =>
  rw[dep]at hn;rw[Is]at hx;obtain⟨p',xs,e0,hs,hxs⟩:=hx;cases e0
  obtain⟨its,rv,pl,_⟩:=I.tuple hs;have hl:s.heap.IsTuple p its.toArray:=pl;cases e with
  |f y' =>
   rw[Is]at hy;obtain⟨rfl,fy⟩:=hy;rw[show deq (.t ds) (.f y)=false by rw[deq];all_goals (intros;simp_all)];cases y with
   |non=>cases ry;exact SeqAt.RcNeAt.tuple_none hl B
   |bl b=>cases ry;exact SeqAt.RcNeAt.tuple_bool b hl B
   |int i=>obtain⟨t,rfl⟩:=ry;exact SeqAt.RcNeAt.tuple_int i t hl B
   |str z=>obtain⟨t,rfl⟩:=ry;exact SeqAt.RcNeAt.tuple_str z t hl B
   |_=>cases fy
  |l es =>
   rw[Is]at hy;obtain⟨q,ys,rfl,U,O⟩:=hy;cases ry
   obtain⟨G,Y,M,_⟩:=I.list U;have J:=M.isList;rw[show deq (.t ds) (.l es)=false by rw[deq];all_goals (intros;simp_all)];exact SeqAt.RcNeAt.tuple_list hl J B
  |t es =>
   rw[Is]at hy;obtain⟨q,ys,rfl,U,O⟩:=hy;cases ry
   obtain⟨G,Y,M,_⟩:=I.tuple U;have J:s.heap.IsTuple q G.toArray:=M;have e1:its.toArray.size=ds.length:=by rw[qM,<-rv.length,hxs.len]
   have e2:G.toArray.size=es.length:=by rw[qM,<-Y.length,O.len]
   rw[deq];have:=SeqAt.RcNeAt.tuples hl J B (elems (ih50 n) hu I (by omega) hxs O rv Y);rw[e1,e2]at this;by_cases hz:ds.length=es.length
   ·rw[<-hz,Nat.min_self,JF hz,beq_self_eq_true,Bool.and_true]at this;exact this
   ·rw[deqL_ne hz];have:(ds.length==es.length)=false:=by simpa using hz
    simp_all
end
section
variable {X:Cx}
theorem op_neD {k:Nat}(z:Room k X.A):OpR X (compareOp .NotEq) (rNeD X.K):=by
 intro pins s U H x y v u Q I G B h;obtain⟨p,d,e,rfl,M,J,O,q⟩:=h;cases G
 have:=neAt_D 50 d e (A:=X.A) (by omega) (by have:=z.units;omega) I M J B;exact this X.prog X.w X.xe _ ⟨.bl _,H,I,rfl,q⟩
end
theorem isL_flat {K:zA}{H:Hp}:∀{xs:List V},xs.all jI=true->IsL K H xs (xs.map Dt.f)
 |[],_=>by rw[List.map_nil,IsL]
 |x::r,h=>by
  rw[List.all_cons,zW]at h
  rw[zO,IsL]
  exact⟨x,r,rfl,by rw[Is];exact⟨rfl,h.1⟩,isL_flat h.2⟩
theorem j4 {K:zA}{H:Hp}{p:Addr}{xs:List V}(h:SqL K H p xs)(f:xs.all jI=true):Is K H (.ref p) (.l (xs.map Dt.f)):=by rw[Is];exact⟨p,xs,rfl,h,isL_flat f⟩
theorem depL_flat:∀{xs:List V},depL (xs.map Dt.f)=0
 |[]=>by rw[List.map_nil,depL]
 |x::r=>by rw[zO,depL,depL_flat,dep];rfl
theorem dep_l {xs:List V}:dep (.l (xs.map Dt.f))=1:=by rw[dep,depL_flat]
theorem y3 (ns:List Int):(ns.map V.int).all jI=true:=by rw[List.all_map];simp[jI]
theorem deqL_ints:∀(ns ms:List Int),deqL ((ns.map V.int).map Dt.f) ((ms.map V.int).map Dt.f)=decide (ns=ms)
 |[],[]=>by simp[deqL]
 |[],m::ms=>by simp[deqL]
 |n::ns,[]=>by simp[deqL]
 |n::ns,m::ms=>by
  rw[zO,zO,zO,zO,deqL,deqL_ints ns ms,deq]
  by_cases B:n=m<;>by_cases z:ns=ms<;>simp[eqV,B,z]
theorem deq_lints (ns ms:List Int):deq (.l ((ns.map V.int).map Dt.f)) (.l ((ms.map V.int).map Dt.f))=decide (ns=ms):=by rw[deq,deqL_ints]
theorem eqLI {K:zA}{H:Hp}{p q:Addr}{ns ms:List Int}{Q:VK}(B:SqL K H p (ns.map V.int))(z:SqL K H q (ms.map V.int))(h:Q (.bl (decide (ns=ms))) H):rEqD K (.ref p) (.ref q) H Q :=
 ⟨p,_,_,rfl,j4 B (y3 _),j4 z (y3 _),by rw[dep_l];decide,by rw[deq_lints];exact h⟩
theorem neLI {K:zA}{H:Hp}{p q:Addr}{ns ms:List Int}{Q:VK}(B:SqL K H p (ns.map V.int))(z:SqL K H q (ms.map V.int))(h:Q (.bl (!decide (ns=ms))) H):rNeD K (.ref p) (.ref q) H Q :=
 ⟨p,_,_,rfl,j4 B (y3 _),j4 z (y3 _),by rw[dep_l];decide,by rw[deq_lints];exact h⟩
def yU (J:It)(nt:Nat)(cs:List Nat)(g:TG)(tt:TT)(te:TE)(σ:St)(U:Hp)(Q:VK):Prop:=∀acc,U acc=none ->
 ∃W:Nat->Nat->List V->St->Hp->Prop,(∃m,W 0 m [] (capSt nt cs σ) (upd U acc (.lst [])))/\∀i m B H G,W i m B H G->G acc=some (.lst B) /\
  ((J.stop i G/\Q (.ref acc) G)\/(J.go i G/\B.length<sizeLine/\∃N:List V->St->Hp->Prop,(∀zs O M,N zs O M->∃m',m'<m/\W (i+1) m' zs O M) /\
   ∀x M,J.yld i G x M->g x H M fun z H3=>tt z H3 fun b H4=>if b=true then te z H4 fun y Y=>Y acc=some (.lst B)/\N (B++[y]) z (upd Y acc (.lst (B++[y]))) else N B z H4))
section
variable {K:zA}{σ:St}{H:Hp}{Q:VK}{nt:Nat}{cs:List Nat}{g:TG}{tt:TT}{te:TE}{a:Addr}
theorem w_compL {tl:TE}:JL (iList K tl) nt cs g tt te σ H Q=(tl σ H fun x z=>∃a,x=.ref a/\(∃B,SqL K z a B)/\yU (Itl K a) nt cs g tt te σ z Q):=rfl
theorem w_compT {tl:TE}:JL (iTup K tl) nt cs g tt te σ H Q=(tl σ H fun x z=>∃a,x=.ref a/\(∃B,SqT K z a B)/\yU (Itt K a) nt cs g tt te σ z Q):=rfl
theorem w_comp1 {z:TA}:JL (iRng1 z) nt cs g tt te σ H Q=(z σ H fun G B=>∃j:Int,G=[.int j] /\ -(2^62)<=j/\j<2^62/\yU (Itr 0 j.toNat) nt cs g tt te σ B Q):=rfl
theorem JM {R:Bool->Hp->Prop}:tYes σ H R=R true H:=rfl
def yG (cs:List Nat)(σ:St):St:=cs.map fun c=>(σ[c]?).join
theorem comp_pure {J:It}{xs:List V}(f:V->Option V)(hz:xs.length<=sizeLine)
  (hJ:∀B,Same H B->(∀i,i<xs.length->J.go i B)/\(∀i x M,J.yld i B x M->M=B/\(i<xs.length->xs[i]? = some x))/\J.stop xs.length B)
  (hb:∀x B (R:Option V->Hp->Prop),x∈xs->Same H B->R (f x) B->tt (some x::yG cs σ) B fun b H4=>if b=true then te (some x::yG cs σ) H4 fun y Y=>R (some y) Y else R none H4)
  (hd:∀acc,H acc=none->Q (.ref acc) (upd H acc (.lst (xs.filterMap f)))):yU J 1 cs (xF 0) tt te σ H Q:=by
 intro acc hn;have sm:∀z,Same H (upd H acc (.lst z)):=fun z=>zP hn _;refine⟨fun i m z U B=>m=xs.length-i/\i<=xs.length/\(∃o,U=o::yG cs σ)/\z=(xs.take i).filterMap f/\B=upd H acc (.lst z),⟨_,rfl,zT _,⟨none,rfl⟩,by simp,rfl⟩,?_⟩;rintro i m z U B ⟨rfl,hi,⟨o,rfl⟩,G,rfl⟩;refine⟨upd_same,?_⟩;have hl:z.length<=i:=by
  rw[G];exact zR (List.length_filterMap_le _ _) (by rw[qO];omega)
 by_cases O:i<xs.length
 ·refine .inr ⟨(hJ _ (sm z)).1 i O,by omega,fun zs aa M=>(∃o,aa=o::yG cs σ)/\zs=(xs.take (i+1)).filterMap f/\M=upd H acc (.lst zs),fun zs aa M ⟨q1,q2,q3⟩=>⟨xs.length-(i+1),by omega,rfl,O,q1,q2,q3⟩,fun x M y=>?_⟩;obtain⟨e,hx⟩:=(hJ _ (sm z)).2.1 i x M y;have hx:=hx O;subst e;show tt (some x::yG cs σ) _ _
  have tk:xs.take (i+1)=xs.take i++[x]:=by rw[yI,hx];rfl
  refine hb x _ (fun o Y=>match o with|some y=>Y acc=some (.lst z)/\(∃o,some x::yG cs σ=o::yG cs σ)/\z++[y]=(xs.take (i+1)).filterMap f/\upd Y acc (.lst (z++[y]))=upd H acc (.lst (z++[y]))|none=>(∃o,some x::yG cs σ=o::yG cs σ)/\z=(xs.take (i+1)).filterMap f/\Y=upd H acc (.lst z)) (qE hx) (sm z) ?_;cases hf:f x with
  |none =>
   refine⟨⟨_,rfl⟩,?_,rfl⟩;rw[tk,List.filterMap_append,<-G];simp[hf]
  |some y =>
   refine⟨upd_same,⟨_,rfl⟩,?_,upd_upd⟩;rw[tk,List.filterMap_append,<-G];simp[hf]
 ·have e:i=xs.length:=by omega
  subst e;rw[zf]at G;subst G;exact .inl ⟨(hJ _ (sm _)).2.2,hd acc hn⟩
theorem JT {xs:List V}(h:SqL K H a xs)(hz:xs.length<=sizeLine)(f:V->Option V)
  (J:∀x z (R:Option V->Hp->Prop),x∈xs->Same H z->R (f x) z->tt (some x::yG cs σ) z fun b G=>if b=true then te (some x::yG cs σ) G fun y O=>R (some y) O else R none G)
  (M:∀acc,H acc=none->Q (.ref acc) (upd H acc (.lst (xs.filterMap f)))):yU (Itl K a) 1 cs (xF 0) tt te σ H Q :=
 comp_pure f hz (fun z s=>by
  have B:=s.seq h
  exact⟨fun i U=>⟨xs,xs[i],B,by simp[U]⟩,fun i x Y y=>⟨y.1,fun _=>y.2 xs B⟩,⟨xs,B,zC _⟩⟩) J M
theorem Same.seqT {K:zA}{H H':Hp}{a:Addr}{xs:List V}(e:Same H H')(h:SqT K H a xs):SqT K H' a xs:=by
 rcases h with(h|⟨o,h⟩)|h
 ·exact .inl (.inl (e _ _ h))
 ·exact .inl (.inr ⟨o,e _ _ h⟩)
 ·exact .inr h
theorem comp_T {xs:List V}(h:SqT K H a xs)(hz:xs.length<=sizeLine)(f:V->Option V)
  (J:∀x z (R:Option V->Hp->Prop),x∈xs->Same H z->R (f x) z->tt (some x::yG cs σ) z fun b G=>if b=true then te (some x::yG cs σ) G fun y O=>R (some y) O else R none G)
  (M:∀acc,H acc=none->Q (.ref acc) (upd H acc (.lst (xs.filterMap f)))):yU (Itt K a) 1 cs (xF 0) tt te σ H Q :=
 comp_pure f hz (fun z s=>by
  have B:=s.seqT h
  exact⟨fun i U=>⟨xs,xs[i],B,by simp[U]⟩,fun i x Y y=>⟨y.1,fun _=>y.2 xs B⟩,⟨xs,B,zC _⟩⟩) J M
def rngV (lo:Int)(n:Nat):List V:=(zp n).map fun(i:Nat)=>V.int (lo+(i:Int))
end
section
variable {X:Cx}
theorem JU:∀{bs:List Bool} {us:List Value},Vals (bs.map V.bl) us->us=bs.map Value.bool
 |[],_,h=>by cases h;rfl
 |b::r,_,h=>by
  cases h with
  |cons q t =>
   cases q
   rw[JU t]
   rfl
theorem J3 {prog:Program}{w:World}{A:Around}{bs:List Bool}:TruthOf prog w A (fun i v=>(bs.map Value.bool).toArray[i]? = some v) (fun i=>bs.getD i true):=by
 intro i v s Q E h z;rw[List.getElem?_toArray,qI]at h;cases e:bs[i]? with
 |none=>rw[e]at h;cases h
 |some b =>
  rw[e]at h;cases h
  have:bs.getD i true=b:=by simp[List.getD,e]
  exact wpAny_truthy_bool (by rw[<-this];exact z)
theorem all_getD:∀(bs:List Bool),(zp bs.length).all (fun i=>bs.getD i true)=bs.all id
 |[]=>rfl
 |b::r=>by
  rw[zH,yp,List.all_cons,List.all_map,List.all_cons]
  have:((fun i=>(b::r).getD i true) ∘ Nat.succ)=fun i=>r.getD i true:=by funext i;simp[List.getD]
  rw[this,all_getD r]
  rfl
theorem any_getD:∀(bs:List Bool),(zp bs.length).any (fun i=>bs.getD i true)=bs.any id
 |[]=>rfl
 |b::r=>by
  rw[zH,yp,xi,List.any_map,xi]
  have:((fun i=>(b::r).getD i true) ∘ Nat.succ)=fun i=>r.getD i true:=by funext i;simp[List.getD]
  rw[this,any_getD r]
  rfl
def rAll:List V->Hp->VK->Prop:=fun z H Q=>∃(p:Addr) (bs:List Bool),z=[.ref p]/\H p=some (.lst (bs.map V.bl))/\Q (.bl (bs.all id)) H
def rAny:List V->Hp->VK->Prop:=fun z H Q=>∃(p:Addr) (bs:List Bool),z=[.ref p]/\H p=some (.lst (bs.map V.bl))/\Q (.bl (bs.any id)) H
theorem walk_list {pins:List (Addr×Obj)}{U:St}{H:Hp}{s:Shared}{p:Addr}{xs:List V}(hc:X.calm=true)(I:Inv X pins U H s)(M:H p=some (.lst xs)){Q:Value->Shared->Prop}{E:Value->Shared->Prop}
  (h:∀(z:List Value),Vals xs z->∀G:Shared,G.heap.IsListIter s.heap.objs.size p 0/\G.heap.IsList p z.toArray->(∀b∈[s.heap.objs.size,p],b<G.heap.objs.size)->p≠s.heap.objs.size->Walks X.prog X.w X.A.in1 s.heap.objs.size [s.heap.objs.size,p] [s.heap.objs.size] z.toArray.size (fun i v=>z.toArray[i]? = some v) (fun i h=>h.IsListIter s.heap.objs.size p i/\h.IsList p z.toArray) ->
   (∀J tk,(∀b o,b∉[s.heap.objs.size]->G.heap.get? b=some o->J.get? b=some o)->Inv X pins U H { G with heap:=J,toks:=tk })->Q (.ref s.heap.objs.size) G):wpAny (model X.prog X.w) X.A.in1 (pyIter (.ref p)) Q E s:=by
 obtain⟨z,rv,O,_⟩:=I.list (SqL.of M);have B:p<s.heap.objs.size:=I.hok.lt M;refine wpAny_pyIter_list O.isList (h z rv _ ⟨⟨_,Heap.get?_push_size _ rfl,rfl,rfl⟩,O.isList.push _⟩ (fun b Y=>?_) (zG B) (Walks.list (A:=X.A.in1) (I.ok.hd hc) _ p (zG B) z.toArray) fun J tk hk=>?_)
 ·show b<(s.heap.push _).objs.size
  rw[Heap.size_push];rcases zF.mp Y with e|e
  ·rw[e];exact xK _
  ·have:b=p:=by simpa using e
   rw[this];exact zn B
 ·exact I.kept (h':=J) (t':=tk) fun b o e=>hk b o (by simpa using zG (Heap.lt_size e)) (Heap.get?_push_of_some _ e)
theorem call_all (J:X.calm=true):CallR X (.builtin "all") rAll:=by
 intro pins s σ H xs us Q I r h;obtain⟨p,bs,rfl,O,q⟩:=h;obtain⟨u,rfl,B⟩:=Vals.one r;cases B
 refine call_all_walk (walk_list J I O fun aa M s2 st Y ac W z=>?_);have e:=JU M;subst e;refine⟨_,_,_,_,_,_,_,rfl,W,st,J3,fun G tk U=>⟨.bl (bs.all id),H,z G tk U,?_,q⟩⟩;have:(bs.map Value.bool).toArray.size=bs.length:=by simp
 rw[this,all_getD];rfl
theorem call_any (J:X.calm=true):CallR X (.builtin "any") rAny:=by
 intro pins s σ H xs us Q I r h;obtain⟨p,bs,rfl,O,q⟩:=h;obtain⟨u,rfl,B⟩:=Vals.one r;cases B
 refine call_any_walk (walk_list J I O fun aa M s2 st Y ac W z=>?_);have e:=JU M;subst e;refine⟨_,_,_,_,_,_,_,rfl,W,st,J3,fun G tk U=>⟨.bl (bs.any id),H,z G tk U,?_,q⟩⟩;have:(bs.map Value.bool).toArray.size=bs.length:=by simp
 rw[this,any_getD];rfl
theorem JN:∀{ns:List Int} {us:List Value},Vals (ns.map V.int) us->∃z:List (Int×Tok),us=z.map (fun p=>Value.int p.1 p.2)/\z.map (·.1)=ns
 |[],_,h=>by cases h;exact⟨[],rfl,rfl⟩
 |n::r,_,h=>by
  cases h with
  |cons q t =>
   obtain⟨tk,rfl⟩:=q
   obtain⟨z,rfl,e⟩:=JN t
   exact⟨(n,tk)::z,rfl,by simp[e]⟩
def rSum:List V->Hp->VK->Prop:=fun B H Q=>∃(p:Addr) (z:List Int),B=[.ref p]/\H p=some (.lst (z.map V.int))/\Q (.int z.sum) H
theorem call_sum (G:X.calm=true):CallR X (.builtin "sum") rSum:=by
 intro pins s σ H z us Q I r h;obtain⟨p,ns,rfl,O,q⟩:=h;obtain⟨u,rfl,B⟩:=Vals.one r;cases B
 obtain⟨its,J,M,_⟩:=I.list (SqL.of O);obtain⟨z,rfl,e⟩:=JN J;have hl:s.heap.IsList p (intItems z.toArray):=by
  have:=M.isList;rw[show(List.map (fun p=>Value.int p.1 p.2) z).toArray=intItems z.toArray by unfold intItems;simp]at this;exact this
 refine sum_intListG (I.ok.hd G) hl fun h' tk Y U=>⟨.int ns.sum,H,I.kept U,⟨Y,?_⟩,q⟩;rw[preSum_eq,yE (by simp),<-e]
def rBits:V->List V->Hp->VK->Prop:=fun x z H Q=>∃i,x=.int i/\z=[]/\Q (.int (Builtin.Int.intBits i:Nat)) H
theorem mt_bits:MtR X "int.bit_length" rBits:=by
 intro pins s G H x M v J Q I B z h;obtain⟨i,rfl,rfl,q⟩:=h;obtain⟨t,rfl⟩:=B;cases z
 exact call_gives slot_int_bit_length (typeIs_int s i t) entry_int_bit_length (args_int_bit_length _) (AutoIntG2.int_bit_length_int_0 i t) ⟨.int _,H,I.tok _,⟨_,rfl⟩,q⟩
theorem w_rBits {i:Int}{H:Hp}{Q:VK}:rBits (.int i) [] H Q=Q (.int (Builtin.Int.intBits i:Nat)) H:=propext ⟨fun⟨j,e,_,q⟩=>by cases e;exact q,fun q=>⟨i,rfl,rfl,q⟩⟩
theorem w_tyInt {K:zA}{i:Int}{H:Hp}:tyV K "int" (.int i) H=True:=eq_true (by first|exact rfl|(unfold tyV;rfl)|(unfold tyV;simp))
end
section
variable {K:zA}{σ:St}{H:Hp}{Q:VK}
theorem w_bm {T:String}{r:V->List V->Hp->VK->Prop}{B:TE}{t:TA}:tBM K T r B t σ H Q=(B σ H fun x z=>tyV K T x z/\t σ z fun G J=>r x G J Q):=rfl
theorem w_bm0 {T:String}{r:V->List V->Hp->VK->Prop}{B:TE}:tBM0 K T r B σ H Q=(B σ H fun x z=>tyV K T x z/\r x [] z Q):=rfl
theorem w_append {l:Addr}{y:V}:rAppend (.ref l) [y] H Q=∃B,H l=some (.lst B)/\B.length<sizeLine/\Q .non (upd H l (.lst (B++[y]))) :=
 propext ⟨fun⟨O,B,M,G,J,h,z,q⟩=>by cases G;cases J;exact⟨B,h,z,q⟩,fun⟨B,h,z,q⟩=>⟨l,B,y,rfl,rfl,h,z,q⟩⟩
theorem Je {l:Addr}{xs:List V}(h:H l=some (.lst xs)):tyV K "list" (.ref l) H:=by
 first|exact .inl ⟨rfl,_,SqL.of h⟩|(unfold tyV;exact .inl ⟨rfl,_,SqL.of h⟩)
end
open PySem PySem.Spec PyProof.Rows PySem.W
theorem bits_pow (k:Nat):Builtin.Int.intBits ((2:Int)^k)=k+1:=by
 unfold Builtin.Int.intBits;have p:=xI k;rw[if_neg (by simp;omega),Int.natAbs_pow];show Nat.log2 (2^k)+1=k+1
 rw[Nat.log2_two_pow]
theorem odd_part:∀(n:Nat),0<n->∃m k,n=(2*m+1)*2^k:=by
 intro n;induction n using Nat.strongRecOn with
 |ind n ih =>
  intro h;by_cases e:n%2=1
  ·exact⟨n/2,0,by simp;omega⟩
  ·obtain⟨m,k,z⟩:=ih (n/2) (by omega) (by omega);exact⟨m,k+1,by rw[Nat.pow_succ,<-Nat.mul_assoc,<-z];omega⟩
def absI (n:Int):Int:=if n<0 then -n else n
def lowK (n:Int):Int:=(Builtin.Int.intBits (Builtin.bitAnd (absI n) (-absI n)):Int)-1
def jo (n:Int):List Int:=if n=0 then [0,0,0] else [absI n/2^(lowK n).toNat,lowK n,if 0<n then 1 else -1]
theorem Jp {n:Int}(h:n≠0):∃(m k:Nat),absI n=(2*m+1)*2^k/\jo n=[2*(m:Int)+1,(k:Int),if 0<n then 1 else -1]:=by
 obtain⟨m,k,e⟩:=odd_part n.natAbs (by omega);have H:absI n=((n.natAbs:Nat):Int):=by unfold absI;split<;>omega
 have z:absI n=(2*m+1)*2^k:=by rw[H,e,Int.natCast_mul,Int.natCast_pow];rfl
 refine⟨m,k,z,?_⟩;have G:absI n=2^k*(2*(m:Int)+1):=by rw[z,xX]
 have B:lowK n=k:=by
  unfold lowK;rw[G,kbt_low,bits_pow];omega
 unfold jo;rw[if_neg h,B,zK,z,Int.mul_ediv_cancel _ (Int.ne_of_gt (xI k))]
def gTupM (n:Nat)(t:TGs):TG:=fun v B H Q=>∃a z,v=.ref a/\H a=some (.tup z)/\z.length=n/\t z B H Q
theorem pg_tupM {X:Cx}{es:List Expr}{k:Nat}{t:TGs}{pos:Pos}(n:Nat)(J:X.calm=true)(h:PGs X es t)(M:(assignEach es X.env).length=n:=by rfl)(z:(assignEach es X.env).findIdx? (·.1)=none:=by rfl):PG X (.Tuple es k pos) (gTupM n t):=by
 intro pins s Y H v u Q I r B;obtain⟨a,U,O,G,hl,B⟩:=B;exact pg_tup (X:=X) (n:=n) J h M z pins s Y H v u Q I r ⟨a,U,O,SqT.of G,hl,B⟩
section
variable {K:zA}{σ:St}{H:Hp}{Q:VK}{R:St->Hp->Prop}
theorem Jf {n:Nat}{t:TGs}{a:Addr}:gTupM n t (.ref a) σ H R=∃z,H a=some (.tup z)/\z.length=n/\t z σ H R :=
 propext ⟨fun⟨B,z,e,h,l,q⟩=>by cases e;exact⟨z,h,l,q⟩,fun⟨z,h,l,q⟩=>⟨a,z,rfl,h,l,q⟩⟩
theorem jg {t:TG}{u:TGs}{v:V}{r:List V}:gCons t u (v::r) σ H R=t v σ H fun z B=>u r z B R :=
 propext ⟨fun⟨J,G,e,q⟩=>by cases e;exact q,fun q=>⟨v,r,rfl,q⟩⟩
theorem w_gNil:gNil [] σ H R=R σ H:=propext ⟨fun⟨_,q⟩=>q,fun q=>⟨rfl,q⟩⟩
theorem isI_tt {t:Addr}{xs:List V}(h:H t=some (.tup xs)):rIsI K [.ref t,.ty "tuple"] H Q=Q (.bl true) H:=jR (.tup h) (fun _ z=>by cases z<;>first|rfl|(rename_i e;rw[h]at e;cases e)|(rename_i e _ _ _ _ _;rw[h]at e;cases e)) (kit_same _)
theorem isI_ll {t:Addr}{xs:List V}(h:H t=some (.lst xs)):rIsI K [.ref t,.ty "list"] H Q=Q (.bl true) H:=jR (.lst h) (fun _ z=>by cases z<;>first|rfl|(rename_i e;rw[h]at e;cases e)|(rename_i e _ _ _ _ _;rw[h]at e;cases e)) (kit_same _)
end
def rDG:R2:=fun x y H Q=>∃a k,x=.ref a/\y=kV k/\∃z,H a=some (.dK z)/\∃v,yw z k=some v/\Q v H
def rDP:V->V->V->Hp->(Hp->Prop)->Prop:=fun x y v H R=>∃a k,x=.ref a/\y=kV k/\∃z,H a=some (.dK z)/\z.length<sizeLine/\R (upd H a (.dK (xA z k v)))
def sDP (U ty J:TE):TS:=fun D z H=>J z H fun v M=>U z M fun x O=>ty z O fun y B=>rDP x y v B fun G=>D.nx z G
def rDI (neg:Bool):R2:=fun y x H Q=>∃a k,x=.ref a/\y=kV k/\∃z,H a=some (.dK z)/\Q (.bl (if neg then !(yw z k).isSome else (yw z k).isSome)) H
section
variable {X:Cx}{o i e value:Expr}{pos pos' tpos:Pos}{td ty tv:TE}
theorem pe_dgM (hu:X.A.units+1<cLine)(ho:PE X o td)(hi:PE X i ty)(hs:NoSl i):PE X (.Subscript o i pos) (tOp rDG td ty):=by
 intro pins s B H Q I h;refine subD_of PySem.F.slot_dict_getitem.lookup hs (thn (ho pins s B H _ I h) fun u U ⟨x,H1,I1,rx,q1⟩=>thn (hi pins U B H1 _ I1 q1) fun iv s2 ⟨y,G,J,ry,M⟩=>?_);obtain⟨a,k,rfl,rfl,Y,hk,v,hv,q⟩:=M;obtain rfl:u=Value.ref a:=rx;have g:DGet G a (kV k) (some v):=by rw[<-hv];exact DGet.k hk
 exact⟨dict_typeIs J g,d_getItem hu J g ry fun w' s3 O z=>⟨v,G,O,z,q⟩⟩
theorem ps_dpM (hu:X.A.units+1<cLine)(ho:PE X o td)(hi:PE X i ty)(hv:PE X value tv)(hs:swapsWith value (some (.Subscript o i pos')) pos.line X.env=pure false):PS X (.Assign [.Subscript o i pos'] value pos) (sDP td ty tv):=by
 intro pins s z H D I h;refine wpAny_Assign_Subscript (thn (hv pins s z H _ I h) fun r M ⟨v,U,I1,rv,q1⟩=>thn (ho pins M z U _ I1 q1) fun u s2 ⟨x,H2,I2,rx,B⟩=>thn (hi pins s2 z H2 _ I2 B) fun iv s3 ⟨y,H3,J,ry,G⟩=>?_) hs;obtain⟨a,k,rfl,rfl,O,hk,Y,q⟩:=G;obtain rfl:u=Value.ref a:=rx;exact d_setItem hu J (DPut.k (v:=v) hk Y) ry rv fun s4 I4=>⟨z,_,I4,q⟩
theorem op_dI (J:X.A.units+1<cLine):OpR X (compareOp .In) (rDI false):=by
 intro pins s Y H x y v u Q I M z h;obtain⟨a,k,rfl,rfl,B,G,q⟩:=h;obtain rfl:u=Value.ref a:=z;exact d_in J I (DGet.k G) M fun U O=>⟨.bl _,H,O,rfl,q⟩
end
section
variable {σ:St}{H:Hp}{Q:VK}{D:Ends}{a:Addr}{v:V}{R:Hp->Prop}
theorem kV_s {k:Key}{x:Str}:(V.str x=kV k)=(k=.inr x):=propext ⟨fun e=>by cases k<;>cases e;rfl,fun e=>by subst e;rfl⟩
theorem kV_i {k:Key}{x:Int}:(V.int x=kV k)=(k=.inl x):=propext ⟨fun e=>by cases k<;>cases e;rfl,fun e=>by subst e;rfl⟩
theorem w_dgS {x:Str}:rDG (.ref a) (.str x) H Q=∃z,H a=some (.dK z)/\∃v,yw z (.inr x)=some v/\Q v H :=
 propext ⟨fun⟨J,k,G,B,q⟩=>by cases G;rw[kV_s]at B;subst B;exact q,fun q=>⟨a,.inr x,rfl,rfl,q⟩⟩
theorem w_dgI {x:Int}:rDG (.ref a) (.int x) H Q=∃z,H a=some (.dK z)/\∃v,yw z (.inl x)=some v/\Q v H :=
 propext ⟨fun⟨J,k,G,B,q⟩=>by cases G;rw[kV_i]at B;subst B;exact q,fun q=>⟨a,.inl x,rfl,rfl,q⟩⟩
theorem w_sDP {B ty z:TE}:sDP B ty z D σ H=(z σ H fun v M=>B σ M fun x O=>ty σ O fun y G=>rDP x y v G fun J=>D.nx σ J):=rfl
theorem w_dpS {x:Str}:rDP (.ref a) (.str x) v H R=∃z,H a=some (.dK z)/\z.length<sizeLine/\R (upd H a (.dK (xA z (.inr x) v))) :=
 propext ⟨fun⟨J,k,G,B,q⟩=>by cases G;rw[kV_s]at B;subst B;exact q,fun q=>⟨a,.inr x,rfl,rfl,q⟩⟩
theorem w_dpI {x:Int}:rDP (.ref a) (.int x) v H R=∃z,H a=some (.dK z)/\z.length<sizeLine/\R (upd H a (.dK (xA z (.inl x) v))) :=
 propext ⟨fun⟨J,k,G,B,q⟩=>by cases G;rw[kV_i]at B;subst B;exact q,fun q=>⟨a,.inl x,rfl,rfl,q⟩⟩
theorem w_dII {neg:Bool}{x:Int}:rDI neg (.int x) (.ref a) H Q=∃z,H a=some (.dK z)/\Q (.bl (if neg then !(yw z (.inl x)).isSome else (yw z (.inl x)).isSome)) H :=
 propext ⟨fun⟨J,k,G,B,q⟩=>by cases G;rw[kV_i]at B;subst B;exact q,fun q=>⟨a,.inl x,rfl,rfl,q⟩⟩
theorem w_disp {B:List (TE×TE)}:tDisp B σ H Q=∀p,H p=none->JQ B σ (upd H p (.dK [])) fun M J=>J p=some (.dK [])/\∃z:List (Key×V),M=z.map (fun G=>(kV G.1,G.2))/\z.length<=15/\Q (.ref p) (upd J p (.dK (mergeK [] z))):=rfl
end
def j5 (a:Addr)(at_ l:Int):List (Key×V):=[(.inr "script",.ref a),(.inr "at",.int at_),(.inr "left",.int l)]
theorem pen_s {a:Addr}{t l:Int}:yw (j5 a t l) (.inr "script")=some (.ref a):=by unfold j5;rw[xw rfl]
theorem key_sa:¬ (Sum.inr "script" : Key)=(Sum.inr "at" : Key):=by decide
theorem key_sl:¬ (Sum.inr "script" : Key)=(Sum.inr "left" : Key):=by decide
theorem key_al:¬ (Sum.inr "at" : Key)=(Sum.inr "left" : Key):=by decide
theorem pen_a {a:Addr}{t l:Int}:yw (j5 a t l) (.inr "at")=some (.int t):=by unfold j5;rw[xx key_sa,xw rfl]
theorem pen_l {a:Addr}{t l:Int}:yw (j5 a t l) (.inr "left")=some (.int l):=by unfold j5;rw[xx key_sl,xx key_al,xw rfl]
theorem pen_len {a:Addr}{t l:Int}:((j5 a t l).length<sizeLine)=True:=eq_true (qJ (by decide:3<1000) (zm (by decide)))
theorem pen_pa {a:Addr}{t l x:Int}:xA (j5 a t l) (.inr "at") (.int x)=j5 a x l:=by
 unfold xA;rw[xG,pen_a];rfl
theorem pen_pl {a:Addr}{t l x:Int}:xA (j5 a t l) (.inr "left") (.int x)=j5 a t x:=by
 unfold xA;rw[xG,pen_l];rfl
def Itv (K:zA)(a:Addr)(n:Nat):It :=
 ⟨fun i H=>i<n/\∃z,SqL K H a z/\z.length=n,fun i H x B=>B=H/\∀z,SqL K H a z->z.length=n->z[n-1-i]? = some x,fun i H=>i=n⟩
def iRev (K:zA)(J:TA):TI:=fun G H R=>J G H fun M B=>∃a z,M=[.ref a]/\SqL K B a z/\R (Itv K a z.length) B
def ForV (K:zA)(a:Addr)(n:Nat)(g:TG)(tb:TS)(D:Ends)(B:St)(H:Hp):Prop:=∃W:Nat->Nat->St->Hp->Prop,(∃m,W 0 m B H)/\∀i m B H,W i m B H ->
 ((Itv K a n).stop i H/\D.nx B H)\/((Itv K a n).go i H/\∃N:St->Hp->Prop,(∀z G,N z G->∃M,M<m/\W (i+1) M z G)/\∀x G,(Itv K a n).yld i H x G->g x B G fun J O=>tb { D with nx:=N,ct:=N,bk:=D.nx } J O)
section
variable {σ:St}{H:Hp}{D:Ends}{g:TG}{tb:TS}{K:zA}{a:Addr}
theorem w_forV {G:TA}:tFor (iRev K G) g tb D σ H=(G σ H fun J z=>∃a B,J=[.ref a]/\SqL K z a B/\ForV K a B.length g tb D σ z):=rfl
end
open PySem
def fs (n:Int):Int:=if n%2=0 then 0 else 2-n%4
def nafF:Nat->Int->List Int
 |0,_=>[]
 |k+1,n=>if n=0 then [] else fs n::nafF k ((n-fs n)/2)
def naf (n:Int):List Int:=nafF n.natAbs n
theorem fs_cases (n:Int):(fs n=0/\n%2=0)\/(fs n=1/\n%4=1)\/(fs n = -1/\n%4=3):=by
 unfold fs;split<;>omega
theorem fs_lt {n:Int}(h:n≠0):((n-fs n)/2).natAbs<n.natAbs:=by
 rcases fs_cases n with⟨e,_⟩|⟨e,_⟩|⟨e,_⟩<;>rw[e]<;>omega
theorem nafF_fuel:∀(k:Nat) (n:Int),n.natAbs<=k->nafF k n=nafF n.natAbs n:=by
 intro k;induction k using Nat.strongRecOn with
 |ind k ih =>
  intro n h;by_cases z:n=0
  ·subst z;cases k<;>simp[nafF]
  ·obtain⟨B,rfl⟩:∃B,k=B+1:=⟨k-1,by omega⟩;obtain⟨j,hj⟩:∃j,n.natAbs=j+1:=⟨n.natAbs-1,by omega⟩;have lt:=fs_lt z;rw[hj,nafF,nafF,if_neg z,if_neg z,ih B (by omega) _ (by omega)];by_cases e:B=j
   ·subst e;rw[ih B (by omega) _ (by omega)]
   ·rw[ih j (by omega) _ (by omega)]
theorem naf_step {n:Int}(h:n≠0):naf n=fs n::naf ((n-fs n)/2):=by
 have lt:=fs_lt h;obtain⟨j,hj⟩:∃j,n.natAbs=j+1:=⟨n.natAbs-1,by omega⟩;unfold naf;rw[hj,nafF,if_neg h,nafF_fuel j _ (by omega)]
theorem naf_ind {p : Int → Prop}(B : p 0)(G : ∀ n, n ≠ 0 → p ((n - fs n) / 2) → p n) : ∀ n, p n := by
  have all : ∀ k (n : Int), n.natAbs ≤ k → p n := by
    intro k
    induction k with
    | zero => intro n h; have : n = 0 := by omega
              subst this; exact B
    | succ k ih =>
      intro n h
      by_cases z : n = 0
      · subst z; exact B
      · exact G n z (ih _ (by have := fs_lt z; omega))
  exact fun n => all n.natAbs n (zC _)
def val:List Int->Int
 |[]=>0
 |d::r=>d+2*val r
theorem fs_neg (n:Int):fs (-n) = -fs n:=by
 rcases fs_cases n with⟨e,_⟩|⟨e,_⟩|⟨e,_⟩<;>rcases fs_cases (-n) with⟨z,_⟩|⟨z,_⟩|⟨z,_⟩<;>rw[e,z]<;>omega
theorem naf_neg:∀n,naf (-n)=(naf n).map fun d=>0-d:=naf_ind rfl fun n h ih=>by
 rw[naf_step h,naf_step (n:=-n) (by omega),zO,<-ih,fs_neg]
 have e:(-n - -fs n)/2 = -((n-fs n)/2):=by
  rcases fs_cases n with⟨e,_⟩|⟨e,_⟩|⟨e,_⟩<;>rw[e]<;>omega
 rw[e,Int.zero_sub]
theorem and1 (x:Int):Builtin.bitAnd x 1=x%2:=by
 have:=PySem.W.kbt_mask x 1
 simpa using this
def wt (ds:List Int):Nat:=(ds.filter fun d=>decide (d≠0)).length
def spWhole:Sp:=fun z H Q _=>∃i:Int,z=[.int i]/\Q (.bl true) H
def tWhl (c:TT)(tb:TS):TS:=fun D z H=>∃W:Nat->St->Hp->Prop,(∃m,W m z H)/\∀m z H,W m z H->∀N:St->Hp->Prop,(∀M B G,M<m->W M B G->N B G) ->
 c z H fun b J=>if b=true then tb { D with nx:=N,ct:=N,bk:=D.nx } z J else D.nx z J
theorem ps_whl {X:Cx}{pos:Pos}{c:Expr}{body:List Stmt}{tc:TT}{tb:TS}(hp:PassesOwn (model X.prog X.w) X.A X.env X.xe)(hc:PT X c tc)(hb:PSs X body tb):PS X (.While c body [] pos) (tWhl tc tb):=by
 intro pins s σ H D I h;obtain⟨W,⟨m0,w0⟩,turn⟩:=h;refine wpAny_While (codeAny_whileLoop (fun n s'=>∃B Y,Inv X pins B Y s'/\W n B Y) ?_ m0 ⟨σ,H,I,w0⟩);rintro n s1 ⟨G,H1,I1,w1⟩;refine wpAny_passesOwn hp (thn (hc pins s1 G H1 _ I1 (turn n G H1 w1 (fun B Y=>∃J,J<n/\W J B Y) fun J _ _ l z=>⟨J,l,z⟩)) fun b s2 ⟨H2,I2,O⟩=>?_);cases b with
 |true =>
  rw[if_pos rfl]at O ⊢;refine wpAny_passesOwn hp (thn (hb pins s2 G H2 _ I2 O) fun f s3 U=>?_);cases f with
  |next =>
   obtain⟨M,H3,I3,J,hm,w3⟩:=U;exact⟨J,hm,M,H3,I3,w3⟩
  |cont =>
   obtain⟨M,H3,I3,J,hm,w3⟩:=U;exact⟨J,hm,M,H3,I3,w3⟩
  |brk=>exact U
  |ret v=>exact U
 |false =>
  rw[if_neg zI]at O ⊢;exact wpAny_execs_nil ⟨G,H2,I2,O⟩
theorem whl {c:TT}{tb:TS}{D:Ends}{z:St}{H:Hp}(G:Nat->St->Hp->Prop)(m:Nat)(h0:G m z H)
  (Y:∀m z H (N:St->Hp->Prop),G m z H->(∀O B M,O<m->G O B M->N B M)->c z H fun b J=>if b=true then tb { D with nx:=N,ct:=N,bk:=D.nx } z J else D.nx z J):tWhl c tb D z H :=
 ⟨G,⟨m,h0⟩,fun m z H p N U=>Y m z H N p U⟩
theorem atI_m1 {ds:List Int}(h:ds≠[]):∃d∈ds,atI (ds.map V.int) (-1)=some (.int d)/\ds.getLast? = some d:=by
 obtain⟨z,d,rfl⟩:∃z d,ds=z++[d]:=⟨ds.dropLast,ds.getLast h,(List.dropLast_concat_getLast h).symm⟩;refine⟨d,by simp,?_,by simp⟩;rw[zo];exact atI_last _ _
theorem zAB {z β:Type}(f:z->β)(xs:List z):xs.filterMap (fun x=>some (f x))=xs.map f:=by
 induction xs with
 |nil=>rfl
 |cons x r ih=>rw[zt,ih];rfl
theorem p2le {e k:Nat}(h:e<=k):0<(2:Int)^e/\(2:Int)^e<=2^k:=by
 refine⟨xI e,?_⟩;obtain⟨j,rfl⟩:∃j,k=e+j:=⟨k-e,by omega⟩;rw[Int.pow_add];have z:=xI e;have B:=xI j;have:(2:Int)^e*1<=2^e*2^j:=Int.mul_le_mul_of_nonneg_left (by omega) (by omega);omega
theorem xR {n:Nat}(h:n<=100000):n<=sizeLine:=zR h (by decide)
theorem jS {n:Nat}(h:n<100000):n<sizeLine:=qJ h (by decide)
theorem yP {H H':Hp}{r:Addr}{o:HO}(h:H r=none)(s:Same H H'):Same H (upd H' r o):=fun b u q=>by rw[zg (zc q h)];exact s b u q
def On2 (vs:List V)(P:Int->Int->Prop):Prop:=∃i j,vs=[.int i,.int j]/\P i j
theorem w_On2 {i j:Int}{P:Int->Int->Prop}:On2 [.int i,.int j] P=P i j:=propext ⟨fun⟨B,z,e,q⟩=>by cases e;exact q,fun q=>⟨i,j,rfl,q⟩⟩
section
variable {σ:St}{H:Hp}{D:Ends}{g:TG}{tb:TS}{K:zA}{Q:VK}{nt:Nat}{cs:List Nat}{tt:TT}{te:TE}
theorem w_for2b {z:TA}:tFor (iRng2 z) g tb D σ H=(z σ H fun G B=>On2 G fun i j=>(-(2^62)<=i/\i<2^62 /\ -(2^62)<=j/\j<2^62)/\ForR i (j-i).toNat g tb D σ B):=rfl
theorem w_comp2b {z:TA}:JL (iRng2 z) nt cs g tt te σ H Q=(z σ H fun G B=>On2 G fun i j=>(-(2^62)<=i/\i<2^62 /\ -(2^62)<=j/\j<2^62)/\yU (Itr i (j-i).toNat) nt cs g tt te σ B Q):=rfl
end
abbrev wn (n:Int):Nat:=wt (naf n)
theorem wt_cons (d:Int)(r:List Int):wt (d::r)=(if d=0 then 0 else 1)+wt r:=by
 unfold wt;rw[List.filter_cons];by_cases h:d=0
 ·simp[h]
 ·simp[h];omega
theorem wn_step (n:Int):wn n=(if fs n=0 then 0 else 1)+wn ((n-fs n)/2):=by
 by_cases h:n=0
 ·subst h;rfl
 ·show wt (naf n)=_
  rw[naf_step h,wt_cons]
theorem wt_neg:∀z:List Int,wt (z.map fun d=>0-d)=wt z
 |[]=>rfl
 |d::r=>by
  rw[zO,wt_cons,wt_cons,wt_neg r]
  have:(0-d=0)↔(d=0):=by omega
  simp only[this]
theorem wn_neg (n:Int):wn (-n)=wn n:=by show wt (naf (-n))=_;rw[naf_neg,wt_neg]
theorem wn_dbl (n:Int):wn (2*n)=wn n:=by
 rw[wn_step (2*n)];have e:fs (2*n)=0:=by unfold fs;rw[if_pos (by omega)]
 rw[e,if_pos rfl,jE]
 congr 2
 omega
theorem w_neB {a b:Bool}{H:Hp}{Q:VK}:rNe (.bl a) (.bl b) H Q=Q (.bl (!decide (a=b))) H :=
 propext (by
  have e:decide (V.bl a=V.bl b)=decide (a=b):=by by_cases h:a=b<;>simp[h]
  unfold rNe;rw[e];exact⟨fun h=>h.2,fun h=>⟨rfl,h⟩⟩)
theorem w_eqB {a b:Bool}{H:Hp}{Q:VK}:rEq (.bl a) (.bl b) H Q=Q (.bl (decide (a=b))) H :=
 propext (by
  have e:decide (V.bl a=V.bl b)=decide (a=b):=by by_cases h:a=b<;>simp[h]
  unfold rEq;rw[e];exact⟨fun h=>h.2,fun h=>⟨rfl,h⟩⟩)
abbrev SS:=List (Int×Int)×List Int
def stp (m:Int)(s:SS)(o:Int):SS:=if (s.1.lookup o).isSome=false/\(if o<0 then -o else o)<200 then (s.1++[(o,m)],s.2++[o]) else s
def kin (m n:Int)(s:SS)(k:Nat):SS:=stp m (stp m s (n+1*2^k)) (n-1*2^k)
def nin (m:Int)(s:SS)(n:Int):SS:=(zp 8).foldl (kin m n) s
def lev (s:SS)(m:Int):SS:=s.2.foldl (nin m) (s.1,[])
def levs:Nat->SS
 |0=>([(0,0)],[0])
 |i+1=>lev (levs i) (1+(i:Int))
section
variable {prog:Program}{w:World}{A:Around}{R:Result->Shared->Prop}{I S:Addr}{fp wr:List Addr}{n:Nat}{P:Nat->Value->Prop}{St:Nat->Heap->Prop}{bt:Nat->Nat->Bool}{d:Value}
end
section
variable {prog:Program}{w:World}{A:Around}{E:Value->Shared->Prop}{s:Shared}{d x:Value}
end
def mz:List Int->Int
 |[]=>0
 |x::r=>if mz r<x then x else mz r
section
variable {X:Cx}{e:Expr}{es:List Expr}{kws:List Keyword}{t tk:TA}{p pos:Pos}
def tMaxD (t tk:TA):TE:=fun B H Q=>t B H fun O J=>tk B J fun M G=>∃(p:Addr) (z:List Int),O=[.ref p]/\M=[.int 0]/\G p=some (.lst (z.map V.int))/\(∀n∈z,0<=n)/\Q (.int (mz z)) G
end
section
variable {K:zA}{σ:St}{H:Hp}{Q:VK}
theorem w_maxD {t tk:TA}:tMaxD t tk σ H Q=t σ H fun J B=>tk σ B fun G z=>∃(p:Addr) (ns:List Int),J=[.ref p]/\G=[.int 0]/\z p=some (.lst (ns.map V.int))/\(∀n∈ns,0<=n)/\Q (.int (mz ns)) z:=rfl
theorem w_sl {r:V->Option Int->Option Int->Hp->VK->Prop}{z:TE}{tl B:TO}:tSl r z tl B σ H Q=z σ H fun x J=>tl σ J fun l M=>B σ M fun u G=>r x l u G Q:=rfl
theorem w_noPart {R:Option Int->Hp->Prop}:tNoPart σ H R=R none H:=rfl
theorem w_part {t:TE}{R:Option Int->Hp->Prop}:tPart t σ H R=t σ H fun x z=>∃i,x=.int i/\R (some i) z:=rfl
theorem w_slL {a:Addr}{lo B:Option Int}:rSlL K (.ref a) lo B H Q=∃z,SqL K H a z/\∀p,H p=none->Q (.ref p) (upd H p (.lst (cutV z lo B))) :=
 propext ⟨fun⟨G,z,e,h,q⟩=>by cases e;exact⟨z,h,q⟩,fun⟨z,h,q⟩=>⟨a,z,rfl,h,q⟩⟩
theorem comp_new {J:It}{xs:List V}{cs:List Nat}{tt:TT}{te:TE}(f:V->Option V)(hz:xs.length<=sizeLine)
  (hJ:∀z,Same H z->(∀i,i<xs.length->J.go i z)/\(∀i x O,J.yld i z x O->O=z/\(i<xs.length->xs[i]? = some x))/\J.stop xs.length z)
  (hb:∀x z (R:Option V->Hp->Prop),x∈xs->Same H z->(∀B,Same z B->R (f x) B)->tt (some x::yG cs σ) z fun b H4=>if b=true then te (some x::yG cs σ) H4 fun y B=>R (some y) B else R none H4)
  (hd:∀acc z,H acc=none->Same H z->z acc=some (.lst (xs.filterMap f))->Q (.ref acc) z):yU J 1 cs (xF 0) tt te σ H Q:=by
 intro acc hn;refine⟨fun i m M aa z=>m=xs.length-i/\i<=xs.length/\(∃o,aa=o::yG cs σ)/\M=(xs.take i).filterMap f/\z acc=some (.lst M)/\Same H z,⟨_,rfl,zT _,⟨none,rfl⟩,by simp,upd_same,zP hn _⟩,?_⟩;rintro i m M aa z ⟨rfl,hi,⟨o,rfl⟩,G,ha,U⟩;refine⟨ha,?_⟩;have hl:M.length<=i:=by
  rw[G];exact zR (List.length_filterMap_le _ _) (by rw[qO];omega)
 by_cases Y:i<xs.length
 ·refine .inr ⟨(hJ _ U).1 i Y,by omega,fun zs ac O=>(∃o,ac=o::yG cs σ)/\zs=(xs.take (i+1)).filterMap f/\O acc=some (.lst zs)/\Same H O,fun zs ac O ⟨q1,q2,q3,q4⟩=>⟨xs.length-(i+1),by omega,rfl,Y,q1,q2,q3,q4⟩,fun x O y=>?_⟩;obtain⟨e,hx⟩:=(hJ _ U).2.1 i x O y;have hx:=hx Y;subst e;have tk:xs.take (i+1)=xs.take i++[x]:=by rw[yI,hx];rfl
  show tt (some x::yG cs σ) _ _
  refine hb x _ (fun o B=>match o with|some y=>B acc=some (.lst M)/\(∃o,some x::yG cs σ=o::yG cs σ)/\M++[y]=(xs.take (i+1)).filterMap f/\upd B acc (.lst (M++[y])) acc=some (.lst (M++[y]))/\Same H (upd B acc (.lst (M++[y])))|none=>(∃o,some x::yG cs σ=o::yG cs σ)/\M=(xs.take (i+1)).filterMap f/\B acc=some (.lst M)/\Same H B) (qE hx) U fun B s5=>?_;cases hf:f x with
  |none =>
   refine⟨⟨_,rfl⟩,?_,s5 _ _ ha,U.trans s5⟩;rw[tk,List.filterMap_append,<-G];simp[hf]
  |some y =>
   refine⟨s5 _ _ ha,⟨_,rfl⟩,?_,upd_same,yP hn (U.trans s5)⟩;rw[tk,List.filterMap_append,<-G];simp[hf]
 ·have e:i=xs.length:=by omega
  subst e;rw[zf]at G;subst G;exact .inl ⟨(hJ _ U).2.2,hd acc z hn U ha⟩
theorem comp_newL {a:Addr}{xs:List V}{cs:List Nat}{M:TT}{J:TE}(h:SqL K H a xs)(hz:xs.length<=sizeLine)(f:V->Option V)
  (U:∀x z (R:Option V->Hp->Prop),x∈xs->Same H z->(∀B,Same z B->R (f x) B)->M (some x::yG cs σ) z fun b O=>if b=true then J (some x::yG cs σ) O fun y B=>R (some y) B else R none O)
  (Y:∀acc z,H acc=none->Same H z->z acc=some (.lst (xs.filterMap f))->Q (.ref acc) z):yU (Itl K a) 1 cs (xF 0) M J σ H Q :=
 comp_new f hz (fun z s=>by
  have G:=s.seq h
  exact⟨fun i hi=>⟨xs,xs[i],G,by simp[hi]⟩,fun i x H2 y=>⟨y.1,fun _=>y.2 xs G⟩,⟨xs,G,zC _⟩⟩) U Y
end
theorem key_rel {k:Key}{v:Value}(h:keyIs k v=true):RelV (kV k) v:=by
 rcases keyIs_shape h with⟨i,t,rfl,rfl⟩|⟨x,t,rfl,rfl⟩
 ·exact⟨t,rfl⟩
 ·exact⟨t,rfl⟩
section
variable {σ:St}{H:Hp}{Q:VK}{D:Ends}
theorem w_aug {i:Nat}{B:TE}{G:TIp}:tAug i B G D σ H=∃x,σ[i]? = some (some x)/\B σ H fun y J=>G x y J fun z M=>D.nx (σ.set i (some z)) M:=rfl
theorem w_ipI {f:Int->Int->Int}{i j:Int}:ipI f (.int i) (.int j) H Q=Q (.int (f i j)) H:=propext ⟨fun⟨_,_,z,B,q⟩=>by cases z;cases B;exact q,fun q=>⟨i,j,rfl,rfl,q⟩⟩
theorem w_dnK:tDNewK σ H Q=∀p,H p=none->Q (.ref p) (upd H p (.dK [])):=rfl
end
structure Dd where
 g:Int
 a:Nat
 s:Nat
 b:Nat
 t:Nat
def dnum (ns:List Int)(d:Dd):Int:=ns.getD d.a 0*2^d.s+d.g*(ns.getD d.b 0*2^d.t)
def ev (ds:List Dd):List Int:=ds.foldl (fun z d=>z++[dnum z d]) [1]
theorem j6 {z:Type}{p:List z->Prop}(G:p [])(B:∀xs x,p xs->p (xs++[x]))(xs:List z):p xs:=by
 have:p xs.reverse.reverse:=by
  generalize xs.reverse=H;induction H with
  |nil=>exact G
  |cons y r ih=>rw[List.reverse_cons];exact B _ _ ih
 rwa [List.reverse_reverse]at this
def coreN (n:Int):Int:=(jo n).headD 0
def shN (n:Int):Int:=(jo n).getD 1 0
def sgN (n:Int):Int:=(jo n).getD 2 0
theorem core_three (n:Int):jo n=[coreN n,shN n,sgN n]:=by
 by_cases h:n=0
 ·subst h;rfl
 ·obtain⟨m,k,B,z⟩:=Jp h;unfold coreN shN sgN;rw[z];rfl
theorem yW {n:Int}(h:n≠0):0<coreN n/\coreN n%2=1/\∃k:Nat,shN n=k/\coreN n*2^k*sgN n=n/\(sgN n=1\/sgN n = -1)/\(coreN n).natAbs<=n.natAbs/\2^k<=n.natAbs/\wn (coreN n)=wn n:=by
 obtain⟨m,k,J,G⟩:=Jp h;have O:coreN n=2*(m:Int)+1:=by unfold coreN;rw[G];rfl
 have Y:shN n=k:=by unfold shN;rw[G];rfl
 have B:sgN n=if 0<n then 1 else -1:=by unfold sgN;rw[G];rfl
 have z:coreN n*2^k*sgN n=n:=by
  rw[O,B,<-J];unfold absI;split<;>split<;>omega
 have p:=xI k;have ea:absI n=((n.natAbs:Nat):Int):=by unfold absI;split<;>omega
 have U:((n.natAbs:Nat):Int)=(2*(m:Int)+1)*2^k:=by rw[<-ea,J]
 have H:n.natAbs=(2*m+1)*2^k:=by
  have:((n.natAbs:Nat):Int)=(((2*m+1)*2^k:Nat):Int):=by rw[U,Int.natCast_mul,Int.natCast_pow];rfl
  exact Int.ofNat.inj this
 refine⟨by omega,by omega,k,Y,z,by rw[B];split<;>simp,?_,?_,?_⟩
 ·rw[O,H];have:(2*(m:Int)+1).natAbs=2*m+1:=by omega
  rw[this];exact Nat.le_mul_of_pos_right _ (Nat.two_pow_pos k)
 ·rw[H];exact Nat.le_mul_of_pos_left _ (by omega)
 ·have M:∀(k:Nat) (c:Int),wn (c*2^k)=wn c:=by
   intro k;induction k with
   |zero=>intro c;rw[y8,yA]
   |succ k ih=>intro c;rw[Int.pow_succ,<-z9,xX _ 2,wn_dbl,ih]
  rcases(show sgN n=1\/sgN n = -1 by rw[B];split<;>simp) with e|e
  ·rw[e,yA]at z;rw[<-M k,z]
  ·rw[e,Int.mul_neg,yA]at z;rw[<-M k,<-wn_neg,z]
def ukv (us:List Int):List (Key×V):=us.map fun c=>(Sum.inl c,V.bl true)
theorem ukv_val:∀(us:List Int) (c:Int),yw (ukv us) (.inl c)=if c∈us then some (.bl true) else none
 |[],c=>by simp[ukv,valV_nil]
 |u::r,c=>by
  show yw ((Sum.inl u,V.bl true)::ukv r) (.inl c)=_
  by_cases h:u=c
  ·subst h
   rw[xw rfl,if_pos zJ]
  ·rw[xx (fun z=>h (Sum.inl.inj z)),ukv_val r c]
   by_cases B:c∈r
   ·rw[if_pos B,if_pos (zM _ B)]
   ·rw[if_neg B,if_neg (by intro z;rcases zF.mp z with e|e;exact h e.symm;exact B e)]
theorem ukv_put (us:List Int)(c:Int):xA (ukv us) (.inl c) (.bl true)=ukv (if c∈us then us else us++[c]):=by
 by_cases h:c∈us
 ·rw[if_pos h];unfold xA;rw[xG,ukv_val,if_pos h,if_pos (show(some (V.bl true)).isSome=true from rfl)];unfold ukv;rw[yF];refine List.map_congr_left fun x _=>?_;show(if (Sum.inl x:Key)=Sum.inl c then ((Sum.inl x:Key),V.bl true) else (Sum.inl x,V.bl true))=_
  split<;>rfl
 ·rw[if_neg h,putK_new _ (by rw[ukv_val,if_neg h])];unfold ukv;rw[zo];rfl
theorem ukv_keys (us:List Int):(ukv us).map (fun q=>kV q.1)=us.map V.int:=by
 unfold ukv;rw[yF];rfl
def spCoreT:Sp:=fun z H Q _=>∃n:Int,z=[.int n]/\∀p,H p=none->Q (.ref p) (upd H p (.tup [.int (coreN n),.int (shN n),.int (sgN n)]))
def CT0 (K:zA)(t:Addr):Prop:=∃(o:Obj) (z:Array Value) (n:Nat),K.lookup t=some o/\o.cls=.type "tuple" /\ o.data=.seq z n/\z.size<=sizeLine/\Vals [.int 0,.int 0,.int 0] z.toList
theorem CT0.sq {K:zA}{t:Addr}(h:CT0 K t)(H:Hp):SqT K H t [.int 0,.int 0,.int 0]:=.inr h
section
variable {X:Cx}
end
section
variable {K:zA}{H:Hp}{Q:VK}
theorem w_ixT {p:Addr}{i:Int}:rIxT K (.ref p) (.int i) H Q=∃z,SqT K H p z/\∃v,atI z i=some v/\Q v H :=
 propext ⟨fun⟨M,z,J,v,B,G,h,a,q⟩=>by cases B;cases G;exact⟨z,h,v,a,q⟩,fun⟨z,h,v,a,q⟩=>⟨p,z,i,v,rfl,rfl,h,a,q⟩⟩
theorem w_eqS {x y:Str}:rEq (.str x) (.str y) H Q=Q (.bl (decide (x=y))) H :=
 propext (by
  have e:decide (V.str x=V.str y)=decide (x=y):=by by_cases h:x=y<;>simp[h]
  unfold rEq
  rw[e]
  exact⟨fun h=>h.2,fun h=>⟨rfl,h⟩⟩)
end
theorem Inv.turnedL {X:Cx}{pins:List (Addr×Obj)}{M:St}{H:Hp}{s:Shared}{h':Heap}{t':Nat}(ch:List Addr)(I:Inv X pins M H s)(k:∀b o,b∉ch->s.heap.get? b=some o->h'.get? b=some o)(J:∀b∈ch,FpOk X pins H b):Inv X pins M H { s with heap:=h',toks:=t' }:=by
 have G:∀b u,H b=some u->b∉ch:=fun b u e z=>by rw[(J b z).1]at e;cases e
 refine I.step (g':=s.gens) (d':=s.drawn) (ch:=ch) (fun b O=>?_) (fun b o _ _ B e _=>k b o B e) (fun b o _ _ B e _=>⟨o.slots,k b o B e⟩) (fun _ _ _ _ n=>n)
  (fun b o B e=>⟨o,k b o B e⟩) (fun _ _ e=>e) (fun _ _ _ e=>e) (fun b ps e=>⟨#[],by rw[e];simp⟩) (fun m hm=>?_) (fun b u e=>?_) I.bare
 ·obtain⟨f0,f1,f2,U,Y,f5⟩:=J b O;exact⟨U,f1,Y,f5⟩
 ·obtain⟨o,es,ep,ho,r⟩:=hm;exact⟨o,es,ep,k _ o (fun z=>(J _ z).2.1 rfl) ho,r⟩
 ·refine(I.hok b u e).stay (fun c v B q=>k c v ?_ q) (fun _ q=>q) fun _ _ q=>q;rcases B with z|z
  ·rw[z];exact G b u e
  ·exact G c _ z
theorem j7 {h:Heap}{b:Addr}{o z:Obj}(n:b≠h.objs.size)(e:(h.push z).get? b=some o):h.get? b=some o:=by
 rw[Heap.get?_push_ne h b z n]at e;exact e
def Itz (K : zA)(a b : Addr) : It :=
  ⟨fun i H => ∃B z, SqL K H a B∧SqL K H b z∧i<B.length∧i<z.length,
   fun i H x G => ∃T u v, x=.ref T∧H T=none∧G=upd H T (.tup [u, v])∧(∀B, SqL K H a B → B[i]? = some u)∧(∀z, SqL K H b z → z[i]? = some v),
   fun i H => ∃B z, SqL K H a B∧SqL K H b z∧(B.length ≤ i∨z.length ≤ i)⟩
def tnZ (z TI TO G B a b:Addr)(i:Nat)(h:Heap):Prop:=IsZip h z TI TO .none/\IsPair h TI (.ref G) (.ref B)/\(∃x y,IsPair h TO x y)/\h.IsListIter G a i/\h.IsListIter B b i
theorem turn_zip {P:Program}{w:World}{K:zA}{elts:List Expr}{x1:Nat}{pos:Pos}{z TI TO G J a b:Addr}(D:ZipApart z TI TO G J a b):Turn P w K (.Tuple elts x1 pos) (Itz K a b) [z,TI,TO,G,J] z (tnZ z TI TO G J a b) where
 mem:=by simp
 obj:=fun i h O c B=>by
  obtain⟨Y,M,⟨x0,y0,t3⟩,⟨o4,e4,c4,d4⟩,⟨o5,e5,c5,d5⟩⟩:=O
  simp only[zF,zL,or_false]at B
  rcases B with e|e|e|e|e<;>subst e
  ·exact⟨_,Y,fun v q=>by cases q⟩
  ·exact⟨_,M,fun v q=>by cases q⟩
  ·exact⟨_,t3,fun v q=>by cases q⟩
  ·exact⟨o4,e4,fun v q=>by rw[d4]at q;cases q⟩
  ·exact⟨o5,e5,fun v q=>by rw[d5]at q;cases q⟩
 keep:=fun i h h' O k=>by
  obtain⟨Y,M,⟨x0,y0,t3⟩,t4,t5⟩:=O
  exact⟨k z (by simp) _ Y,k TI (by simp) _ M,⟨x0,y0,k TO (by simp) _ t3⟩,t4.at fun o e=>k G (by simp) o e,t5.at fun o e=>k J (by simp) o e⟩
 item:=by
  intro X hP hw hK B i pins s σ H E I hf O hg;subst hP hw hK;obtain⟨xs,ys,hq,U,hi,hi2⟩:=hg;obtain⟨its,rv,p,hz⟩:=I.list hq;obtain⟨its2,rv2,p2,hz2⟩:=I.list U;obtain⟨u,hu,ru⟩:=rv.get (qA hi);obtain⟨v,hv,rv'⟩:=rv2.get (qA hi2);obtain⟨Y,M,⟨x0,y0,t3⟩,t4,t5⟩:=O;have hl1:z<s.heap.objs.size:=Heap.lt_size Y;have hl3:TO<s.heap.objs.size:=Heap.lt_size t3;have hl2:TI<s.heap.objs.size:=Heap.lt_size M;have hl4:G<s.heap.objs.size:=by obtain⟨o,e,_⟩:=t4;exact Heap.lt_size e
  have hl5:J<s.heap.objs.size:=by obtain⟨o,e,_⟩:=t5;exact Heap.lt_size e
  refine wpAny_pyNext_zip_item D Y M t3 t4 t5 p.isList p2.isList (x:=u) (y:=v) (by simpa using hu) (by simpa using hv) fun h' a1 a2 a3 a4 a5 a6 a7=>⟨_,rfl,?_⟩;refine wpAny_letOwnedTupleGo_zip a1 fun h2 b1 b2=>?_;have hT0:H s.heap.objs.size=none:=I.hok.fresh (zC _);have I1:Inv X pins σ (upd H s.heap.objs.size (.tup [xs[i],ys[i]])) { s with heap:=s.heap.push { cls:=.type "tuple",data:=.seq [u,v].toArray } } :=
   I.laid (t':=s.toks) (fun b o e=>Heap.get?_push_of_some _ e) (zC _) (show ObjOk X.prog X.w _ _ _ (.tup [xs[i],ys[i]]) from⟨zm (by show 2<=1000;decide),[u,v],.cons ru (.cons rv' .nil),IsTup.new _ _⟩)
  have fpk:∀c∈[z,TI,TO,G,J],c≠s.heap.objs.size:=fun c B=>by
   simp only[zF,zL,or_false]at B;rcases B with e|e|e|e|e<;>subst e<;>exact zG (by assumption)
  have fp2:∀c∈[z,TI,TO,G,J],FpOk X pins (upd H s.heap.objs.size (.tup [xs[i],ys[i]])) c:=fun c B=>by
   obtain⟨f0,f⟩:=hf c B;exact⟨by rw[zg (fpk c B)];exact f0,f⟩
  have I2:Inv X pins σ (upd H s.heap.objs.size (.tup [xs[i],ys[i]])) { s with heap:=h2 }:=by
   refine Inv.turnedL (s:={ s with heap:=s.heap.push { cls:=.type "tuple",data:=.seq [u,v].toArray } }) (t':=s.toks) (h':=h2) [z,TO,G,J] I1 (fun b o hb e=>?_) (fun c B=>fp2 c (by simp only[zF,zL,or_false]at B ⊢;rcases B with e|e|e|e<;>simp[e]));simp only[zF,zL,or_false,not_or]at hb;obtain⟨n1,n2,n3,n4⟩:=hb;refine(b2.2 b n1).trans ?_;by_cases hT:b=s.heap.objs.size
   ·subst hT;rw[Heap.get?_push_size _ rfl]at e;rw[<-e];exact a5
   ·exact a7 b o n1 n2 n3 n4 (j7 hT e)
  have t4':h2.IsListIter G a (i+1):=a3.at fun o e=>(b2.2 _ D.i1z).trans e;have t5':h2.IsListIter J b (i+1):=a4.at fun o e=>(b2.2 _ D.i2z).trans e;refine⟨.ref s.heap.objs.size,_,I2,rfl,⟨_,xs[i],ys[i],rfl,hT0,rfl,fun zs h=>?_,fun zs h=>?_⟩,⟨b1,(b2.2 _ D.TIz).trans (a7 TI _ D.TIz D.TITO D.TIi1 D.TIi2 M),⟨_,_,(b2.2 _ D.TOz).trans a2⟩,t4',t5'⟩,fun c B=>(fp2 c B).1⟩
  ·rw[I.list_inj h hq];exact qA hi
  ·rw[I.list_inj h U];exact qA hi2
 done:=by
  intro X hP hw hK B i pins s σ H E I hf O hg;subst hP hw hK;obtain⟨xs,ys,hq,U,hend⟩:=hg;obtain⟨its,rv,p,hz⟩:=I.list hq;obtain⟨its2,rv2,p2,hz2⟩:=I.list U;obtain⟨Y,M,⟨x0,y0,t3⟩,t4,t5⟩:=O;refine wpAny_pyNext_zip_end (I.ok.hd B) D Y M t3 t4 t5 p.isList p2.isList ?_ fun h' a7=>⟨rfl,?_⟩
  ·rcases hend with e|e
   ·left;simp[<-rv.length,e]
   ·right;simp[<-rv2.length,e]
  ·refine Inv.turnedL (t':=s.toks) (h':=h') [z,TO,G,J] I (fun b o hb e=>?_) (fun c B=>hf c (by simp only[zF,zL,or_false]at B ⊢;rcases B with e|e|e|e<;>simp[e]));simp only[zF,zL,or_false,not_or]at hb;obtain⟨n1,n2,n3,n4⟩:=hb;exact a7 b o n1 n2 n3 n4 e
 self:=fun _ _ _ _ _ O h=>wpAny_pyIter_zip O.1 h
def iZip (K:zA)(J:TA):TI:=fun B H R=>J B H fun O z=>∃a b G M,O=[.ref a,.ref b]/\SqL K z a G/\SqL K z b M/\R (Itz K a b) z
theorem pi_zip {X:Cx} {elts:List Expr} {x1:Nat} {J:Pos} {a b:Expr} {ta:TA} {p pos:Pos} (hg:Gl X "zip") (hm:X.mg "zip" = none) (ha:PA X [a,b] ta) (hs:starEach [a,b] X.env=(false,eval a X.env)::starEach [b] X.env:=by rfl) (ac:(backTo pos (starEach [b] X.env)).any (·.1)=false:=by rfl) :
  PI X (.Tuple elts x1 J) (.Call (.Name "zip" p) [a,b] [] pos) (iZip X.K ta):=by
 intro pins s σ H R I h;refine Call_ (JO I hg hm bo_zip (PyProof.Rows.callWith_type1 (thn (ha pos pins s σ H _ I h) fun us z ⟨vs,H1,G,r1,q1⟩=>?_) hs ac));obtain⟨O,M,xs,ys,e,hq,aa,q⟩:=q1;subst e;obtain⟨u1,u2,rfl,Y,ad⟩:=vals2 r1;cases (show u1=Value.ref O from Y)
 cases (show u2=Value.ref M from ad)
 obtain⟨its,rv,pl,hz⟩:=G.list hq;obtain⟨its2,rv2,B,hz2⟩:=G.list aa;have U:O<z.heap.objs.size:=by obtain⟨o,e,_⟩:=pl.isList;exact Heap.lt_size e
 have ae:M<z.heap.objs.size:=by obtain⟨o,e,_⟩:=B.isList;exact Heap.lt_size e
 refine call_zip_2 pl.isList B.isList fun h' z1 z2 z3 z4 z5 z6 z7=>?_;have I2:Inv X pins σ H1 { z with heap:=h' }:=G.kept (t':=z.toks) z7;refine wpAny_pyIter_zip z1 ?_;have D:ZipApart (z.heap.objs.size+4) (z.heap.objs.size+2) (z.heap.objs.size+3) z.heap.objs.size (z.heap.objs.size+1) O M:=by
  have q1:@LT.lt Nat _ O z.heap.objs.size:=U;have q2:@LT.lt Nat _ M z.heap.objs.size:=ae;constructor<;>(show ¬ @Eq Nat _ _;omega)
 refine⟨z.heap.objs.size+4,_,_,_,H1,rfl,I2,turn_zip D,⟨z1,z2,⟨_,_,z3⟩,z4,z5⟩,fun c hc=>?_,q⟩;have hle:z.heap.objs.size<=c:=by
  simp only[zF,zL,or_false]at hc;show(z.heap.objs.size:Nat)<=c
  rcases hc with e|e|e|e|e<;>subst e<;>(show @LE.le Nat _ _ _;omega)
 exact G.fpOk hle (G.hok.fresh hle)
theorem bo_enumerate:bootBuiltins "enumerate" = some (.type "enumerate"):=by decide +kernel
def Ite (K : zA)(a : Addr) : It :=
  ⟨fun i H => ∃z, SqL K H a z∧i<z.length,
   fun i H x B => ∃T u, x=.ref T∧H T=none∧B=upd H T (.tup [.int (i : Int), u])∧(∀z, SqL K H a z → z[i]? = some u),
   fun i H => ∃z, SqL K H a z∧z.length ≤ i⟩
theorem turn_enum {P:Program}{w:World}{K:zA}{elts:List Expr}{x1:Nat}{pos:Pos}{e it a:Addr}(ac:e≠it):Turn P w K (.Tuple elts x1 pos) (Ite K a) [e,it] e (fun i h=>(∃old,IsEnum h e it (i:Int) old)/\h.IsListIter it a i) where
 mem:=by simp
 obj:=fun i h J c B=>by
  obtain⟨⟨old,G⟩,⟨o2,e2,c2,d2⟩⟩:=J
  simp only[zF,zL,or_false]at B
  rcases B with z|z<;>subst z
  ·exact⟨_,G,fun v q=>by cases q⟩
  ·exact⟨o2,e2,fun v q=>by rw[d2]at q;cases q⟩
 keep:=fun i h O J k=>by
  obtain⟨⟨old,G⟩,M⟩:=J
  exact⟨⟨old,k e (by simp) _ G⟩,M.at fun o z=>k it (by simp) o z⟩
 item:=by
  intro X hP hw hK B i pins s σ H E I hf J hg;subst hP hw hK;obtain⟨U,hq,hi⟩:=hg;obtain⟨its,rv,p,hz⟩:=I.list hq;obtain⟨u,hu,ru⟩:=rv.get (qA hi);obtain⟨⟨old,G⟩,M⟩:=J;have hl1:e<s.heap.objs.size:=Heap.lt_size G;have hl2:it<s.heap.objs.size:=by obtain⟨o,z,_⟩:=M;exact Heap.lt_size z
  refine wpAny_pyNext_enum_item G M p.isList (x:=u) (by simpa using hu) ac fun O a1 a2 a3 a4 a5=>⟨_,rfl,?_⟩;refine wpAny_letOwnedTupleGo_enum (s:={ s with heap:=O,toks:=s.toks+1 }) a1 fun h2 b1 b2=>?_;have hT0:H s.heap.objs.size=none:=I.hok.fresh (zC _);have I1:Inv X pins σ (upd H s.heap.objs.size (.tup [.int (i:Int),U[i]])) { s with heap:=s.heap.push { cls:=.type "tuple",data:=.seq [Value.int (i:Int) s.toks,u].toArray } } :=
   I.laid (t':=s.toks) (fun b o z=>Heap.get?_push_of_some _ z) (zC _) (show ObjOk X.prog X.w _ _ _ (.tup [.int (i:Int),U[i]]) from⟨zm (by show 2<=1000;decide),[Value.int (i:Int) s.toks,u],.cons ⟨_,rfl⟩ (.cons ru .nil),IsTup.new _ _⟩)
  have fpk:∀c∈[e,it],c≠s.heap.objs.size:=fun c B=>by
   simp only[zF,zL,or_false]at B;rcases B with z|z<;>subst z<;>exact zG (by assumption)
  have Y:∀c∈[e,it],FpOk X pins (upd H s.heap.objs.size (.tup [.int (i:Int),U[i]])) c:=fun c B=>by
   obtain⟨f0,f⟩:=hf c B;exact⟨by rw[zg (fpk c B)];exact f0,f⟩
  have I2:Inv X pins σ (upd H s.heap.objs.size (.tup [.int (i:Int),U[i]])) { s with heap:=h2,toks:=s.toks+1 }:=by
   refine Inv.turnedL (s:={ s with heap:=s.heap.push { cls:=.type "tuple",data:=.seq [Value.int (i:Int) s.toks,u].toArray } }) (t':=s.toks+1) (h':=h2) [e,it] I1 (fun b o hb z=>?_) Y;simp only[zF,zL,or_false,not_or]at hb;obtain⟨n1,n2⟩:=hb;refine(b2.2 b n1).trans ?_;by_cases hT:b=s.heap.objs.size
   ·subst hT;rw[Heap.get?_push_size _ rfl]at z;rw[<-z];exact a3
   ·exact a5 b o n1 n2 (j7 hT z)
  have e1:((i:Int)+1)=((i+1:Nat):Int):=by omega
  rw[e1]at b1;refine⟨.ref s.heap.objs.size,_,I2,rfl,⟨_,U[i],rfl,hT0,rfl,fun zs h=>?_⟩,⟨⟨_,b1⟩,a2.at fun o z=>(b2.2 _ ac.symm).trans z⟩,fun c B=>(Y c B).1⟩;rw[I.list_inj h hq];exact qA hi
 done:=by
  intro X hP hw hK B i pins s σ H E I hf J hg;subst hP hw hK;obtain⟨U,hq,aa⟩:=hg;obtain⟨its,rv,p,hz⟩:=I.list hq;obtain⟨⟨old,G⟩,M⟩:=J;refine wpAny_pyNext_enum_end (I.ok.hd B) G M p.isList (by simp[<-rv.length,aa]) fun O a7=>⟨rfl,?_⟩;refine Inv.turnedL (t':=s.toks) (h':=O) [it] I (fun b o hb z=>a7 b o (by simpa using hb) z) (fun c B=>hf c (by simp only[zF,zL,or_false]at B ⊢;exact .inr B))
 self:=fun _ i s _ _ J h=>by
  obtain⟨⟨old,G⟩,M⟩:=J;exact wpAny_pyIter_enum G h
def iEnum (K:zA)(J:TA):TI:=fun B H R=>J B H fun M z=>∃a G,M=[.ref a]/\SqL K z a G/\R (Ite K a) z
theorem pi_enum {X:Cx} {elts:List Expr} {x1:Nat} {B:Pos} {a:Expr} {ta:TA} {p pos:Pos} (hg:Gl X "enumerate") (hm:X.mg "enumerate" = none) (ha:PA X [a] ta) (hs:starEach [a] X.env=[(false,eval a X.env)]:=by rfl) :
  PI X (.Tuple elts x1 B) (.Call (.Name "enumerate" p) [a] [] pos) (iEnum X.K ta):=by
 intro pins s Y H R I h;refine Call_ (JO I hg hm bo_enumerate (PyProof.Rows.callWith_type1 (thn (ha pos pins s Y H _ I h) fun us G ⟨vs,O,J,r1,q1⟩=>?_) hs rfl));obtain⟨l1,xs,e,hq,q⟩:=q1;subst e;obtain⟨u1,rfl,M⟩:=jn r1;cases (show u1=Value.ref l1 from M)
 obtain⟨its,rv,pl,hz⟩:=J.list hq;refine call_enumerate_list pl.isList fun h' U z2 z3 z4=>?_;have I2:Inv X pins Y O { G with heap:=h' }:=J.kept (t':=G.toks) z4;refine wpAny_pyIter_enum U ?_;refine⟨G.heap.objs.size+1,_,_,_,O,rfl,I2,turn_enum (by show ¬ @Eq Nat _ _;omega),⟨⟨_,U⟩,z2⟩,fun c hc=>?_,q⟩;have hle:G.heap.objs.size<=c:=by
  simp only[zF,zL,or_false]at hc;rcases hc with z|z<;>subst z<;>(show @LE.le Nat _ _ _;omega)
 exact J.fpOk hle (J.hok.fresh hle)
section
variable {K:zA}{σ:St}{H:Hp}{Q:VK}
theorem xz {J:It}{nt:Nat}{cs:List Nat}{g:TG}{tt:TT}{te:TE}(n:Nat)(M:Addr->Nat->List V->Hp->Prop)(hz:n<=sizeLine)
  (hgo:∀acc i z B,i<n->M acc i z B->J.go i B) (hst:∀acc z B,M acc n z B->J.stop n B)
  (h0:∀acc,H acc=none->M acc 0 [] (upd H acc (.lst []))) (hacc:∀acc i z B,M acc i z B->B acc=some (.lst z)/\z.length<=i)
  (hs:∀acc i z B (G:St) x U (N:List V->St->Hp->Prop),H acc=none->i<n->M acc i z B->J.yld i B x U->G.length=nt->(∀zs (aa:St) H3,aa.length=nt->M acc (i+1) zs H3->N zs (aa++yG cs σ) H3) ->
   g x (G++yG cs σ) U fun Y H3=>tt Y H3 fun b H4=>if b=true then te Y H4 fun y H5=>H5 acc=some (.lst z)/\N (z++[y]) Y (upd H5 acc (.lst (z++[y]))) else N z Y H4)
  (hd:∀acc z B,H acc=none->M acc n z B->Q (.ref acc) B):yU J nt cs g tt te σ H Q:=by
 intro acc hn;refine⟨fun i m z σ' B=>m=n-i/\i<=n/\(∃G:St,G.length=nt/\σ'=G++yG cs σ)/\M acc i z B,⟨_,rfl,zT _,⟨qQ nt none,qL,rfl⟩,h0 acc hn⟩,?_⟩;rintro i m z σ' B ⟨rfl,hi,⟨G,hts,rfl⟩,p⟩;obtain⟨ha,hl⟩:=hacc acc i z B p;refine⟨ha,?_⟩;by_cases hlt:i<n
 ·refine .inr ⟨hgo acc i z B hlt p,by omega,fun zs O U=>(∃G:St,G.length=nt/\O=G++yG cs σ)/\M acc (i+1) zs U,fun zs O U ⟨q1,q2⟩=>⟨n-(i+1),by omega,rfl,hlt,q1,q2⟩,fun x U y=>?_⟩;exact hs acc i z B G x U (fun zs O U=>(∃G:St,G.length=nt/\O=G++yG cs σ)/\M acc (i+1) zs U) hn hlt p y hts fun zs aa H3 h1 h2=>⟨⟨aa,h1,rfl⟩,h2⟩
 ·have e:i=n:=by omega
  subst e;exact .inl ⟨hst acc z B p,hd acc z B hn p⟩
theorem w_compE {J:TA}{G:Nat}{cs:List Nat}{g:TG}{z:TT}{B:TE}:JL (iEnum K J) G cs g z B σ H Q=(J σ H fun U M=>∃a O,U=[.ref a]/\SqL K M a O/\yU (Ite K a) G cs g z B σ M Q):=rfl
theorem w_compZ {M:TA}{J:Nat}{cs:List Nat}{g:TG}{B:TT}{G:TE}:JL (iZip K M) J cs g B G σ H Q=(M σ H fun Y z=>∃a b U O,Y=[.ref a,.ref b]/\SqL K z a U/\SqL K z b O/\yU (Itz K a b) J cs g B G σ z Q):=rfl
end
def Itr3 (lo c:Int)(n:Nat):It:=⟨fun i _=>i<n,fun i H x z=>z=H/\x=.int (lo+i*c),fun i _=>n<=i⟩
def stepN (lo z c:Int):Nat:=(Builtin.Range.rangeSize lo z c).toNat
def iRng3 (B:TA):TI:=fun z H R=>B z H fun J G=>∃i j c:Int,J=[.int i,.int j,.int c]/\(0<=i/\i<2^31 /\ -1<=j/\j<2^31/\c=2)/\R (Itr3 i c (stepN i j c)) G
def ForR3 (lo c:Int)(n:Nat)(g:TG)(tb:TS)(D:Ends)(B:St)(H:Hp):Prop:=∃W:Nat->Nat->St->Hp->Prop,(∃m,W 0 m B H)/\∀i m B H,W i m B H ->
 ((Itr3 lo c n).stop i H/\D.nx B H)\/((Itr3 lo c n).go i H/\∃N:St->Hp->Prop,(∀z G,N z G->∃M,M<m/\W (i+1) M z G)/\∀x G,(Itr3 lo c n).yld i H x G->g x B G fun J O=>tb { D with nx:=N,ct:=N,bk:=D.nx } J O)
section
variable {σ:St}{H:Hp}{D:Ends}{g:TG}{tb:TS}{lo c:Int}{n:Nat}
theorem w_for3 {z:TA}:tFor (iRng3 z) g tb D σ H=(z σ H fun G B=>∃i j c:Int,G=[.int i,.int j,.int c]/\(0<=i/\i<2^31 /\ -1<=j/\j<2^31/\c=2)/\ForR3 i c (stepN i j c) g tb D σ B):=rfl
end
open PySem PySem.Spec
theorem get_snoc {B:Type}{xs:List B}{x y:B}{i:Nat}(h:(xs++[x])[i]? = some y):(i<xs.length/\xs[i]? = some y)\/(i=xs.length/\y=x):=by
 by_cases z:i<xs.length
 ·rw[qH z]at h;exact .inl ⟨z,h⟩
 ·rw[qG (by omega)]at h;have G:i-xs.length=0:=by
   cases H:i-xs.length with
   |zero=>rfl
   |succ m=>rw[H]at h;simp at h
  rw[G]at h;cases h
  exact .inr ⟨by omega,rfl⟩
def gTupK (K:zA)(n:Nat)(t:TGs):TG:=gTup K n t
section
variable {K:zA}{σ:St}{H:Hp}{R:St->Hp->Prop}
theorem w_gTupK {n:Nat}{t:TGs}{a:Addr}:gTupK K n t (.ref a) σ H R=∃z,SqT K H a z/\z.length=n/\t z σ H R :=
 propext ⟨fun⟨B,z,e,h,l,q⟩=>by cases e;exact⟨z,h,l,q⟩,fun⟨z,h,l,q⟩=>⟨a,z,rfl,h,l,q⟩⟩
end
section
variable {X:Cx}{pins:List (Addr×Obj)}{σ:St}{H:Hp}{s:Shared}{p:Addr}{xs:List V}
def gLst (n:Nat)(t:TGs):TG:=fun v σ H Q=>∃a xs,v=.ref a/\H a=some (.lst xs)/\xs.length=n/\t xs σ H Q
end
section
variable {σ:St}{H:Hp}{R:St->Hp->Prop}
theorem w_gLst {n:Nat}{t:TGs}{a:Addr}:gLst n t (.ref a) σ H R=∃z,H a=some (.lst z)/\z.length=n/\t z σ H R :=
 propext ⟨fun⟨B,z,e,h,l,q⟩=>by cases e;exact⟨z,h,l,q⟩,fun⟨z,h,l,q⟩=>⟨a,z,rfl,h,l,q⟩⟩
end
def ForE (K:zA)(a:Addr)(g:TG)(tb:TS)(D:Ends)(B:St)(H:Hp):Prop:=∃W:Nat->Nat->St->Hp->Prop,(∃m,W 0 m B H)/\∀i m B H,W i m B H ->
 ((Ite K a).stop i H/\D.nx B H)\/((Ite K a).go i H/\∃N:St->Hp->Prop,(∀z G,N z G->∃M,M<m/\W (i+1) M z G)/\∀x G,(Ite K a).yld i H x G->g x B G fun J O=>tb { D with nx:=N,ct:=N,bk:=D.nx } J O)
section
variable {K:zA}{σ:St}{H:Hp}{D:Ends}{g:TG}{tb:TS}{a:Addr}
theorem w_forE {B:TA}:tFor (iEnum K B) g tb D σ H=(B σ H fun J z=>∃a G,J=[.ref a]/\SqL K z a G/\ForE K a g tb D σ z):=rfl
theorem forE {xs:List V}(B:Nat->St->Hp->Prop)(h0:B 0 σ H)(hl:∀i σ H,i<=xs.length->B i σ H->SqL K H a xs)
  (hs:∀i x T σ H (N:St->Hp->Prop),xs[i]? = some x->H T=none->B i σ H->(∀G M,B (i+1) G M->N G M)->g (.ref T) σ (upd H T (.tup [.int (i:Int),x])) fun O H2=>tb { D with nx:=N,ct:=N,bk:=D.nx } O H2)
  (U:∀σ H,B xs.length σ H->D.nx σ H):ForE K a g tb D σ H:=by
 refine⟨fun i m σ H=>m=xs.length-i/\i<=xs.length/\B i σ H,⟨_,rfl,zT _,h0⟩,?_⟩;rintro i m σ H ⟨rfl,hi,p⟩;have q:=hl i σ H hi p;by_cases J:i<xs.length
 ·refine .inr ⟨⟨xs,q,J⟩,B (i+1),fun G M p'=>⟨xs.length-(i+1),by omega,rfl,J,p'⟩,fun x M y=>?_⟩;obtain⟨T,u,rfl,Y,rfl,hu⟩:=y;exact hs i u T σ H (B (i+1)) (hu xs q) Y p fun _ _ z=>z
 ·have e:i=xs.length:=by omega
  subst e;exact .inl ⟨⟨xs,q,zC _⟩,U σ H p⟩
end
def mvI (s n:Int):Int:=n*2^(if 0>s then (0:Int) else s).toNat/2^(if 0>0-s then (0:Int) else 0-s).toNat
structure Wd where
 w:Str
 a:Nat
 s:Int
 b:Nat
 t:Int
structure Go where
 th:Nat
 sh:Int
 sg:Int
def wTup (d:Wd):List V:=[.str d.w,.int d.a,.int d.s,.int d.b,.int d.t]
def gTp (g:Go):List V:=[.int g.th,.int g.sh,.int g.sg]
structure HTs {α:Type} (f:α->List V) (H:Hp) (vs:List V) (xs:List α):Prop where
 len:vs.length=xs.length
 at_:∀(k:Nat) (x:α),xs[k]? = some x->∃p:Addr,vs[k]? = some (.ref p)/\H p=some (.tup (f x))
section
variable {α:Type}{f:α->List V}{H H':Hp}{vs us:List V}{xs:List α}{l:Addr}
theorem HTs.same (h:HTs f H vs xs)(s:Same H H'):HTs f H' vs xs:=⟨h.len,fun k d e=>by
 obtain⟨x,z,B⟩:=h.at_ k d e
 exact⟨x,z,s _ _ B⟩⟩
theorem HTs.chgL (h:HTs f H vs xs)(G:H l=some (.lst us))(c:Chg l H H'):HTs f H' vs xs:=⟨h.len,fun k d e=>by
 obtain⟨x,J,B⟩:=h.at_ k d e
 exact⟨x,J,c _ _ (xt B G (by intro z;cases z)) B⟩⟩
theorem HTs.snoc {x:α}{p:Addr}(h:HTs f H vs xs)(O:H p=some (.tup (f x))):HTs f H (vs++[.ref p]) (xs++[x]):=by
 refine⟨by simp[h.len],fun k e G=>?_⟩;rcases get_snoc G with⟨B,z⟩|⟨B,rfl⟩
 ·obtain⟨y,J,M⟩:=h.at_ k e z;exact⟨y,by rw[qH (by rw[h.len];exact B)];exact J,M⟩
 ·refine⟨p,?_,O⟩;rw[qG (by rw[h.len];omega),h.len,B,xU];rfl
theorem hts_nil:HTs f H [] []:=⟨rfl,fun k d h=>by simp at h⟩
end
structure HRs (H:Hp) (ex:List Addr) (vs:List V) (rs:List (List Int)):Prop where
 len:vs.length=rs.length
 at_:∀(k:Nat) (r:List Int),rs[k]? = some r->∃p:Addr,vs[k]? = some (.ref p)/\H p=some (.lst (r.map V.int))/\∀e∈ex,p≠e
section
variable {H H':Hp}{ex:List Addr}{vs:List V}{rs:List (List Int)}{l:Addr}
end
section
variable {X:Cx}
end
theorem Chg.updN {p q:Addr}{H H':Hp}{o:HO}(c:Chg p H H')(h:H q=none):Chg p H (L2.upd H' q o):=fun b u n e=>by rw[zg (zc e h)];exact c b u n e
theorem Chg.new {p q:Addr}{H H':Hp}(c:Chg p H H')(n:q≠p)(h:H' q=none):H q=none:=by
 cases e:H q with
 |none=>rfl
 |some o=>rw[c q o n e]at h;cases h
section
variable {K:zA}{σ:St}{H:Hp}{Q:VK}{cs:List Nat}{te:TE}
end
def unitRow (n i:Nat):List Int:=(zp n).map fun k=>if k=i then 1 else 0
theorem jJ {ns:List Int}{i:Nat}{x:V}(h:(ns.map V.int)[i]? = some x):∃n,ns[i]? = some n/\x=V.int n:=by
 rw[qI]at h;cases e:ns[i]? with
 |none=>rw[e]at h;cases h
 |some n=>rw[e]at h;exact⟨n,rfl,(Option.some.inj h).symm⟩
def sgW (w:Str):Int:=if w = "less" then -1 else 1
structure Ar where
 st:Nat
 go:Nat
 sh:Int
 sg:Int
inductive Rch (ins:Nat) (ds:List Wd) (gs:List Go):Nat->Prop
 |root {g:Go}:g∈gs->g.sg≠0->Rch ins ds gs g.th
 |fst {k:Nat} {d:Wd}:ds[k]? = some d->Rch ins ds gs (ins+k)->Rch ins ds gs d.a
 |snd {k:Nat} {d:Wd}:ds[k]? = some d->Rch ins ds gs (ins+k)->Rch ins ds gs d.b
section
variable {H:Hp}{Q:VK}
theorem w_pop {l:Addr}:rPop (.ref l) [] H Q=∃z y,H l=some (.lst z)/\z[z.length-1]? = some y/\Q y (upd H l (.lst z.dropLast)) :=
 propext ⟨fun⟨B,z,y,e,_,h,g,q⟩=>by cases e;exact⟨z,y,h,g,q⟩,fun⟨z,y,h,g,q⟩=>⟨l,z,y,rfl,rfl,h,g,q⟩⟩
theorem w_extend {l b:Addr}:rExtend (.ref l) [.ref b] H Q=∃B z,H l=some (.lst B)/\H b=some (.lst z)/\B.length+z.length<=sizeLine/\Q .non (upd H l (.lst (B++z))) :=
 propext ⟨fun⟨M,J,B,z,e,G,h⟩=>by cases e;cases G;exact⟨B,z,h⟩,fun⟨B,z,h⟩=>⟨l,b,B,z,rfl,rfl,h⟩⟩
theorem Jq {l:Addr}:rReverse (.ref l) [] H Q=∃z,H l=some (.lst z)/\Q .non (upd H l (.lst z.reverse)) :=
 propext ⟨fun⟨B,z,e,_,h⟩=>by cases e;exact⟨z,h⟩,fun⟨z,h⟩=>⟨l,z,rfl,rfl,h⟩⟩
theorem w_clear {l:Addr}:rClear (.ref l) [] H Q=∃z,H l=some (.lst z)/\Q .non (upd H l (.lst [])) :=
 propext ⟨fun⟨B,z,e,_,h⟩=>by cases e;exact⟨z,h⟩,fun⟨z,h⟩=>⟨l,z,rfl,rfl,h⟩⟩
theorem w_cat {l b:Addr}:rCat (.ref l) (.ref b) H Q=∃B z,H l=some (.lst B)/\H b=some (.lst z)/\B.length+z.length<=sizeLine/\∀p,H p=none->Q (.ref p) (upd H p (.lst (B++z))) :=
 propext ⟨fun⟨M,J,B,z,e,G,h⟩=>by cases e;cases G;exact⟨B,z,h⟩,fun⟨B,z,h⟩=>⟨l,b,B,z,rfl,rfl,h⟩⟩
end
section
variable {X:Cx}
theorem op_inK (K:zA)(h:X.K=K:=by rfl):OpR X (compareOp .In) (rIn K false):=by subst h;exact op_in_seq
theorem Jr (K:zA)(h:X.K=K:=by rfl):OpR X (compareOp .NotIn) (rIn K true):=by subst h;exact op_notIn_seq
theorem call_tupleK (K:zA)(h:X.K=K:=by rfl):CallR X (.type "tuple") (fun B H Q=>∃p z,B=[.ref p]/\((SqL K H p z/\∀l,H l=none->Q (.ref l) (upd H l (.tup z)))\/(SqT K H p z/\Q (.ref p) H))):=by subst h;exact xj
end
section
variable {K:zA}{σ:St}{H:Hp}{Q:VK}{cs:List Nat}{tt:TT}{te:TE}
end
def fr (ms:List Nat):Nat->Nat
 |0=>0
 |n+1=>(if n∈ms then 0 else 1)+fr ms n
theorem ukv_len (us:List Int):(ukv us).length=us.length:=by unfold ukv;rw[qC]
section
variable {prog:Program}{w:World}{A:Around}{E:Value->Shared->Prop}{s:Shared}
end
section
variable {prog:Program}{w:World}{A:Around}{s:Shared}{R:Result->Shared->Prop}{xs ys:Array Value}{z TI TO i1 i2 l1 l2 S lo:Addr}
end
section
variable {prog:Program}{w:World}{A:Around}{E:Value->Shared->Prop}{s:Shared}{xs ys:Array Value}{z TI TO i1 i2 l1 l2:Addr}
end
def tLZ (K:zA)(U:TA):TE:=fun O H Q=>U O H fun Y B=>∃a b z J,Y=[.ref a,.ref b]/\SqL K B a z/\SqL K B b J/\J.length=z.length/\z.length<=1000 /\
 ∀l M G,B l=none->Same B G->G l=some (.lst M)->M.length=z.length->(∀(k:Nat) (x y:V),z[k]? = some x->J[k]? = some y->∃t:Addr,M[k]? = some (.ref t)/\G t=some (.tup [x,y]))->Q (.ref l) G
theorem w_LZ {K:zA}{U:TA}{O:St}{H:Hp}{Q:VK}:tLZ K U O H Q=(U O H fun Y B=>∃a b z J,Y=[.ref a,.ref b]/\SqL K B a z/\SqL K B b J/\J.length=z.length/\z.length<=1000 /\
 ∀l M G,B l=none->Same B G->G l=some (.lst M)->M.length=z.length->(∀(k:Nat) (x y:V),z[k]? = some x->J[k]? = some y->∃t:Addr,M[k]? = some (.ref t)/\G t=some (.tup [x,y]))->Q (.ref l) G):=rfl
theorem Js:∀(z:List Addr),Vals (z.map V.ref) (z.map Value.ref)
 |[]=>.nil
 |a::r=>.cons rfl (Js r)
def rowD (z:List (List Int))(d:Wd):List Int:=List.zipWith (fun x y=>mvI d.s x+sgW d.w*mvI d.t y) (z.getD d.a []) (z.getD d.b [])
def rowsW (ins:Nat)(ds:List Wd):List (List Int):=ds.foldl (fun z d=>z++[rowD z d]) ((zp ins).map (unitRow ins))
theorem getD_of {z:Type}{xs:List z}{k:Nat}{x d:z}(h:xs[k]? = some x):xs.getD k d=x:=by rw[qD,h];rfl
section
variable {K:zA}{σ:St}{H:Hp}{Q:VK}{cs:List Nat}{te:TE}
end
theorem mvI_up {s n:Int}(h:0<=s):mvI s n=n*2^s.toNat:=by
 unfold mvI;rw[if_neg (by omega)];by_cases z:0>0-s
 ·rw[if_pos z];simp
 ·rw[if_neg z,show s=0 by omega];simp
theorem mvI_down {s n:Int}(h:s<0):mvI s n=n/2^(-s).toNat:=by
 unfold mvI;rw[if_pos (by omega),if_neg (by omega),show(0-s) = -s by omega];simp
def iT (r:List Int):List V:=r.map V.int
section
variable {K:zA}{σ:St}{H:Hp}{Q:VK}{cs:List Nat}{te:TE}
end
section
variable {α:Type}{f:α->List V}{K:zA}{H:Hp}{l l':Addr}{ys ys':List V}{xs:List α}{Q:VK}
end
theorem cut_drop {xs:List V}{n:Nat}(h:n<=xs.length):cutV xs (some (n:Int)) none=xs.drop n:=by
 unfold cutV;rw[HT.sIx_none,HT.sIx_nat,Nat.min_eq_left h,yE (by rw[zu];omega)]
def tLR (J:TA):TE:=fun G H Q=>J G H fun M B=>∃j:Nat,M=[.int (j:Int)]/\j<=1000/\∀l z,B l=none->Same B z->z l=some (.lst (rngV 0 j))->Q (.ref l) z
theorem w_LR {G:TA}{B:St}{H:Hp}{Q:VK}:tLR G B H Q=(G B H fun M J=>∃j:Nat,M=[.int (j:Int)]/\j<=1000/\∀l z,J l=none->Same J z->z l=some (.lst (rngV 0 j))->Q (.ref l) z):=rfl
def iRngD (G:TA):TI:=fun z H R=>G z H fun J B=>∃i:Int,J=[.int i,.int (-1),.int (-1)]/\(-1<=i/\i<2^31)/\R (Itr3 i (-1) (i+1).toNat) B
theorem w_forD {z:St}{H:Hp}{D:Ends}{g:TG}{tb:TS}{B:TA}:tFor (iRngD B) g tb D z H=(B z H fun J G=>∃i:Int,J=[.int i,.int (-1),.int (-1)]/\(-1<=i/\i<2^31)/\ForR3 i (-1) (i+1).toNat g tb D z G):=rfl
section
variable {K:zA}{σ:St}{H:Hp}{Q:VK}{cs:List Nat}{te:TE}
end
section
variable {prog:Program}{w:World}{A:Around}{E:Value->Shared->Prop}{s:Shared}
def TI2 (h:Heap)(it t:Addr)(items:Array Value)(i:Nat):Prop:=h.IsTupleIter it t i/\h.IsTuple t items
theorem TI2.at {h h':Heap}{it t:Addr}{items:Array Value}{i:Nat}(x:TI2 h it t items i)(k1:∀o,h.get? it=some o->h'.get? it=some o)(k2:∀o,h.get? t=some o->h'.get? t=some o):TI2 h' it t items i:=by
 obtain⟨⟨o,e,r⟩,⟨z,G,B⟩⟩:=x;exact⟨⟨o,k1 o e,r⟩,⟨z,k2 z G,B⟩⟩
theorem TI2.but {h h':Heap}{it t c:Addr}{items:Array Value}{i:Nat}(x:TI2 h it t items i)(b:Heap.ExtBut c h h')(z:it≠c)(B:t≠c):TI2 h' it t items i :=
 x.at (fun o e=>b _ o z e) (fun o e=>b _ o B e)
theorem JV {it t:Addr}{i:Nat}{items:Array Value}{x:Value}{Q:Value->Shared->Prop}(hi:TI2 s.heap it t items i)(ne:t≠it)(U:items[i]? = some x)
  (Y:∀G,TI2 G it t items (i+1)->Heap.SameBut it s.heap G->Q x { s with heap:=G }):wpAny (model prog w) A (Builtin.SmallTypes.nextOf (.ref it)) Q E s:=by
 obtain⟨hit,M⟩:=hi;obtain⟨o,B,O,z⟩:=id hit;obtain⟨ol,H,_,nl,J⟩:=id M;unfold Builtin.SmallTypes.nextOf;refine wpAny_bind (wpAny_callSpecial?_slot (name:=Str.ofString "__next__") hit.typeIs F.slot_tuple_iterator_next (wpAny_call_entry F.slot_tuple_iterator_next hit.typeIs F.entry_tuple_iterator_next ?_ (F.args_tuple_iterator_next_1 _)));show wpAny _ _ (field (.ref it) 0 >>= _) _ _ s
 refine wpAny_bind (wpAny_field B z (x:=.ref t) rfl ?_);show wpAny _ _ (if (Value.ref t==Value.none)=true then _ else _) _ _ s
 rw[if_neg (show ¬ ((Value.ref t==Value.none)=true) from zI)];show wpAny _ _ (field (.ref it) 1 >>= _) _ _ s
 refine wpAny_bind (wpAny_field B z (x:=.int i 0) rfl ?_);show wpAny _ _ (seqItems? (.ref t) >>= _) _ _ s
 refine wpAny_bind (wpAny_seqItems H J ?_);simp only[zK,U];refine wpAny_bind (wpAny_setField B z (by simp) (wpAny_pure ⟨x,rfl,wpAny_pure (Y _ ⟨?_,M.extBut (Heap.SameBut.update ..).extBut ne⟩ (Heap.SameBut.update ..))⟩));exact⟨_,Heap.get?_update_self _ B (Obj.isFreed_of_fields (Obj.data_mapFields z _)),(Obj.cls_mapFields ..).trans O,by rw[Obj.data_mapFields z];simp[rawInt]⟩
theorem nextT_end {it t:Addr}{i:Nat}{items:Array Value}{Q:Value->Shared->Prop}(M:A.handled=none)(hi:TI2 s.heap it t items i)(U:items[i]? = none)
  (Y:∀G e,Heap.ExtBut it s.heap G->(∃o,G.get? e=some o/\o.cls=.type "StopIteration")->E (.ref e) { s with heap:=G }):wpAny (model prog w) A (Builtin.SmallTypes.nextOf (.ref it)) Q E s:=by
 obtain⟨hit,O⟩:=hi;obtain⟨o,z,hc,B⟩:=id hit;obtain⟨ol,H,_,nl,J⟩:=id O;unfold Builtin.SmallTypes.nextOf;refine wpAny_bind (wpAny_callSpecial?_slot (name:=Str.ofString "__next__") hit.typeIs F.slot_tuple_iterator_next (wpAny_call_entry F.slot_tuple_iterator_next hit.typeIs F.entry_tuple_iterator_next ?_ (F.args_tuple_iterator_next_1 _)));show wpAny _ _ (field (.ref it) 0 >>= _) _ _ s
 refine wpAny_bind (wpAny_field z B (x:=.ref t) rfl ?_);show wpAny _ _ (if (Value.ref t==Value.none)=true then _ else _) _ _ s
 rw[if_neg (show ¬ ((Value.ref t==Value.none)=true) from zI)];show wpAny _ _ (field (.ref it) 1 >>= _) _ _ s
 refine wpAny_bind (wpAny_field z B (x:=.int i 0) rfl ?_);show wpAny _ _ (seqItems? (.ref t) >>= _) _ _ s
 refine wpAny_bind (wpAny_seqItems H J ?_);simp only[zK,U];refine wpAny_bind (wpAny_rule (wpAny_bind (wpAny_setField z B (by simp) ?_)));show wpAny _ _ (newExc (.type "StopIteration") [] >>= _) _ _ _
 refine wpAny_bind ?_;simp only[newExc,newTuple];refine wpAny_bind (wpAny_newObj_type ?_ (by size_fits));refine wpAny_bind (m:=firstArgMember _ _) (wpAny_of_eq (a:=Value.none) (by first|rfl|(simp only[firstArgMember];rfl)) ?_);refine wpAny_newObj_type ?_ (by size_fits);simp only[raiseNew];refine wpAny_bind (wpAny_handled ?_)
 first|rw[show A.in1.handled=none from M]|rw[M]
 refine wpAny_bind (wpAny_pure (wpAny_throw ?_));exact Y _ _ (((Heap.SameBut.update ..).extBut.push _).push _) ⟨_,Heap.get?_push_size _ rfl,rfl⟩
theorem zipT_item {z TI TO H M l1 l2:Addr}{k1 k2:Nat}{xs ys:Array Value}{x y a b:Value}{Q:Option Value->Shared->Prop}(D:ZipApart z TI TO H M l1 l2)
  (hz:IsZip s.heap z TI TO .none) (hTI:IsPair s.heap TI (.ref H) (.ref M)) (hTO:IsPair s.heap TO a b) (h1:TI2 s.heap H l1 xs k1) (h2:TI2 s.heap M l2 ys k2) (hx:xs[k1]? = some x) (hy:ys[k2]? = some y)
  (hQ:∀J,IsZip J z TI TO (rawInt s.heap.objs.size)->IsPair J TO x y->TI2 J H l1 xs (k1+1)->TI2 J M l2 ys (k2+1)->IsPair J s.heap.objs.size x y->J.objs.size=s.heap.objs.size+1 ->
   (∀c o,c≠z->c≠TO->c≠H->c≠M->s.heap.get? c=some o->J.get? c=some o)->Q (some (.ref s.heap.objs.size)) { s with heap:=J }) :
  wpAny (model prog w) A (pyNext (.ref z)) Q E s:=by
 have hT:s.TypeIs (.ref z) "zip":=⟨_,hz,rfl⟩;unfold pyNext;refine wpAny_bind (wpAny_attempt (wpAny_callSpecial?_slot (name:=Str.ofString "__next__") hT F.slot_zip_next (wpAny_call_entry F.slot_zip_next hT F.entry_zip_next ?_ (F.args_zip_next_1 _))));show wpAny _ _ (field (.ref z) 2 >>= _) _ _ _
 refine wpAny_bind (wpAny_field hz rfl (x:=.bool false) rfl ?_);show wpAny _ _ (field (.ref z) 3 >>= _) _ _ _
 refine wpAny_bind (wpAny_field hz rfl (x:=.ref TI) rfl ?_);refine wpAny_bind (wpAny_seqItems hTI rfl ?_);show wpAny _ _ (Builtin.SmallTypes.ownedTupleIsFree (.ref z) >>= _) _ _ _
 refine wpAny_bind ?_;unfold Builtin.SmallTypes.ownedTupleIsFree;refine wpAny_bind (wpAny_field hz rfl (x:=.none) rfl (wpAny_pure ?_));simp only[if_true];refine wpAny_bind (wpAny_rule ?_);refine wpAny_bind (wpAny_field hz rfl (x:=.ref TO) rfl ?_);refine wpAny_bind (wpAny_setField_rec hz (by simp) fun g1 z1 Y=>?_);replace z1:IsZip g1 z TI TO .ellipsis:=z1;refine wpAny_bind ?_;simp only[List.zipIdx_cons,List.zipIdx_nil,List.forIn_cons,List.forIn_nil];refine wpAny_bind (wpAny_bind (wpAny_onRaise ?_));show wpAny _ _ (Builtin.SmallTypes.nextOf (.ref H) >>= _) _ _ _
 refine wpAny_bind (JV (h1.but Y.extBut D.i1z D.l1z) D.l1i1 hx fun g2 f2 s2=>wpAny_pure ?_);have o2:IsPair g2 TO a b:=s2.extBut _ _ D.TOi1 (Y.extBut _ _ D.TOz hTO);refine wpAny_bind (wpAny_seqItems o2 rfl ?_);refine wpAny_bind (wpAny_updateSeq_pair o2 fun g3 o3 s3=>?_);replace o3:IsPair g3 TO x b:=o3;refine wpAny_bind (wpAny_letGo (wpAny_pure ?_));refine wpAny_bind (wpAny_bind (wpAny_onRaise ?_));show wpAny _ _ (Builtin.SmallTypes.nextOf (.ref M) >>= _) _ _ _
 refine wpAny_bind (JV (((h2.but Y.extBut D.i2z D.l2z).but s2.extBut D.i12.symm D.l2i1).but s3.extBut D.TOi2.symm D.l2TO) D.l2i2 hy fun g4 f4 s4=>wpAny_pure ?_);have o4:IsPair g4 TO x b:=s4.extBut _ _ D.TOi2 o3;refine wpAny_bind (wpAny_seqItems o4 rfl ?_);refine wpAny_bind (wpAny_updateSeq_pair o4 fun B o5 s5=>?_);replace o5:IsPair B TO x y:=o5;refine wpAny_bind (wpAny_letGo (wpAny_pure (wpAny_pure ?_)));refine wpAny_bind (wpAny_seqItems o5 rfl ?_);refine wpAny_bind (wpAny_newTuple ?_);have hsz:B.objs.size=s.heap.objs.size:=by rw[s5.1,s4.1,s3.1,s2.1,Y.1]
 have z5:IsZip B z TI TO .ellipsis:=s5.extBut _ _ D.TOz.symm (s4.extBut _ _ D.i2z.symm (s3.extBut _ _ D.TOz.symm (s2.extBut _ _ D.i1z.symm z1)));have k5:∀c o,c≠z->c≠TO->c≠H->c≠M->s.heap.get? c=some o->B.get? c=some o:=fun c o O c2 c3 c4 e =>
  s5.extBut _ _ c2 (s4.extBut _ _ c4 (s3.extBut _ _ c2 (s2.extBut _ _ c3 (Y.extBut _ _ O e))))
 have a5:TI2 B H l1 xs (k1+1):=((f2.but s3.extBut D.TOi1.symm D.l1TO).but s4.extBut D.i12 D.l1i2).but s5.extBut D.TOi1.symm D.l1TO;have b5:TI2 B M l2 ys (k2+1):=f4.but s5.extBut D.TOi2.symm D.l2TO;have G:z<B.objs.size:=Heap.lt_size z5;show wpAny _ _ (Builtin.SmallTypes.ownedTupleHandOut (.ref z) (.ref B.objs.size) >>= _) _ _ _
 refine wpAny_bind ?_;unfold Builtin.SmallTypes.ownedTupleHandOut;have z6:IsZip (B.push { cls:=.type "tuple",data:=.seq #[x,y] }) z TI TO .ellipsis:=Heap.get?_push_of_some _ z5;refine wpAny_bind (wpAny_setField_rec z6 (by simp) fun g7 z7 s7=>?_);replace z7:IsZip g7 z TI TO (rawInt B.objs.size):=z7;refine wpAny_setField_rec z7 (by simp) fun g8 z8 s8=>?_;replace z8:IsZip g8 z TI TO (rawInt B.objs.size):=z8;have U:∀c o,c≠z->B.get? c=some o->g8.get? c=some o:=fun c o O e=>s8.extBut _ _ O (s7.extBut _ _ O (Heap.get?_push_of_some _ e));have t8:IsPair g8 B.objs.size x y:=s8.extBut _ _ (xV G) (s7.extBut _ _ (xV G) (Heap.get?_push_size _ rfl));have n8:g8.objs.size=B.objs.size+1:=by rw[s8.1,s7.1,Heap.size_push]
 rw[hsz]at z8 t8 n8;refine wpAny_pure ⟨_,rfl,wpAny_pure ?_⟩;show Q (some (.ref B.objs.size)) _
 rw[hsz];exact hQ g8 z8 (U _ _ D.TOz o5) (a5.at (fun o e=>U _ o D.i1z e) (fun o e=>U _ o D.l1z e)) (b5.at (fun o e=>U _ o D.i2z e) (fun o e=>U _ o D.l2z e)) t8 n8 fun c o O c2 c3 c4 e=>U c o O (k5 c o O c2 c3 c4 e)
theorem zipT_end {z TI TO Y i2 l1 l2:Addr}{k1 k2:Nat}{xs ys:Array Value}{a b:Value}{Q:Option Value->Shared->Prop}(hh:A.handled=none)(D:ZipApart z TI TO Y i2 l1 l2)
  (hz:IsZip s.heap z TI TO .none) (hTI:IsPair s.heap TI (.ref Y) (.ref i2)) (hTO:IsPair s.heap TO a b) (h1:TI2 s.heap Y l1 xs k1) (h2:TI2 s.heap i2 l2 ys k2) (aa:xs[k1]? = none\/ys[k2]? = none)
  (hQ:∀h',(∀c o,c≠z->c≠TO->c≠Y->c≠i2->s.heap.get? c=some o->h'.get? c=some o)->Q none { s with heap:=h' }):wpAny (model prog w) A (pyNext (.ref z)) Q E s:=by
 have hT:s.TypeIs (.ref z) "zip":=⟨_,hz,rfl⟩;unfold pyNext;refine wpAny_bind (wpAny_attempt (wpAny_callSpecial?_slot (name:=Str.ofString "__next__") hT F.slot_zip_next (wpAny_call_entry F.slot_zip_next hT F.entry_zip_next ?_ (F.args_zip_next_1 _))));show wpAny _ _ (field (.ref z) 2 >>= _) _ _ _
 refine wpAny_bind (wpAny_field hz rfl (x:=.bool false) rfl ?_);show wpAny _ _ (field (.ref z) 3 >>= _) _ _ _
 refine wpAny_bind (wpAny_field hz rfl (x:=.ref TI) rfl ?_);refine wpAny_bind (wpAny_seqItems hTI rfl ?_);show wpAny _ _ (Builtin.SmallTypes.ownedTupleIsFree (.ref z) >>= _) _ _ _
 refine wpAny_bind ?_;unfold Builtin.SmallTypes.ownedTupleIsFree;refine wpAny_bind (wpAny_field hz rfl (x:=.none) rfl (wpAny_pure ?_));simp only[if_true];refine wpAny_bind (wpAny_rule ?_);refine wpAny_bind (wpAny_field hz rfl (x:=.ref TO) rfl ?_);refine wpAny_bind (wpAny_setField_rec hz (by simp) fun g1 z1 M=>?_);replace z1:IsZip g1 z TI TO .ellipsis:=z1;refine wpAny_bind ?_;simp only[List.zipIdx_cons,List.zipIdx_nil,List.forIn_cons,List.forIn_nil];refine wpAny_bind (wpAny_bind (wpAny_onRaise ?_));show wpAny _ _ (Builtin.SmallTypes.nextOf (.ref Y) >>= _) _ _ _
 cases hx:xs[k1]? with
 |none =>
  refine wpAny_bind (nextT_end hh (h1.but M.extBut D.i1z D.l1z) hx fun g2 e J he=>?_);obtain⟨oe,B,G⟩:=he;have z2:IsZip g2 z TI TO .ellipsis:=J _ _ D.i1z.symm z1;have H:e≠z:=fun q=>by subst q;rw[z2]at B;cases B;simp at G
  refine wpAny_setField_rec z2 (by simp) fun g3 _ O=>?_;exact wpAny_bind (wpAny_isInstance (T:="StopIteration") (b:=true) ⟨oe,O.extBut _ _ H B,G⟩ isSubtype_stop (wpAny_pure (hQ _ fun c o U _ c3 _ q=>O.extBut _ _ U (J _ _ c3 (M.extBut _ _ U q)))))
 |some x =>
  have hy:ys[k2]? = none:=by rcases aa with h|h;rw[hx]at h;cases h;exact h
  refine wpAny_bind (JV (h1.but M.extBut D.i1z D.l1z) D.l1i1 hx fun g2 f2 J=>wpAny_pure ?_);have o2:IsPair g2 TO a b:=J.extBut _ _ D.TOi1 (M.extBut _ _ D.TOz hTO);refine wpAny_bind (wpAny_seqItems o2 rfl ?_);refine wpAny_bind (wpAny_updateSeq_pair o2 fun g3 o3 O=>?_);refine wpAny_bind (wpAny_letGo (wpAny_pure ?_));refine wpAny_bind (wpAny_bind (wpAny_onRaise ?_));show wpAny _ _ (Builtin.SmallTypes.nextOf (.ref i2) >>= _) _ _ _
  refine wpAny_bind (nextT_end hh (((h2.but M.extBut D.i2z D.l2z).but J.extBut D.i12.symm D.l2i1).but O.extBut D.TOi2.symm D.l2TO) hy fun g4 e s4 he=>?_);obtain⟨oe,B,G⟩:=he;have z4:IsZip g4 z TI TO .ellipsis:=s4 _ _ D.i2z.symm (O.extBut _ _ D.TOz.symm (J.extBut _ _ D.i1z.symm z1));have H:e≠z:=fun q=>by subst q;rw[z4]at B;cases B;simp at G
  refine wpAny_setField_rec z4 (by simp) fun g5 _ s5=>?_;exact wpAny_bind (wpAny_isInstance (T:="StopIteration") (b:=true) ⟨oe,s5.extBut _ _ H B,G⟩ isSubtype_stop (wpAny_pure (hQ _ fun c o U c2 c3 c4 q=>s5.extBut _ _ U (s4 _ _ c4 (O.extBut _ _ c2 (J.extBut _ _ c3 (M.extBut _ _ U q)))))))
end
def zT5 (h:Heap)(l1 z:Addr):Heap:=((((h.push { cls:=.type "tuple_iterator",data:=.fields #[.ref l1,.int 0 0] }).push { cls:=.type "tuple_iterator",data:=.fields #[.ref z,.int 0 0] }).push { cls:=.type "tuple",data:=.seq #[.ref h.objs.size,.ref (h.objs.size+1)] }).push { cls:=.type "tuple",data:=.seq #[.none,.none] }).push { cls:=.type "zip",data:=.fields #[.none,.bool false,.bool false,.ref (h.objs.size+2),.ref (h.objs.size+3)] }
theorem meets_zipT (l1 z:Addr)(xs Y:Array Value) :
  Meets (Builtin.«zip.__new__» ⟨[.type "zip",.ref l1,.ref z],[]⟩) (fun _ R s=>s.heap.IsTuple l1 xs/\s.heap.IsTuple z Y/\R (.ok (.ret (.ref (s.heap.objs.size+4)))) { s with heap:=zT5 s.heap l1 z }) :=
 .of_wp fun prog w A R s h=>by
  obtain⟨O,g,d,tk,M⟩:=s;obtain⟨J,B,h⟩:=h
  have U:=sub_zip
  have G:Heap.IsTuple (Shared.heap ⟨O,g,d,tk,M⟩) l1 xs:=J
  have H:Heap.IsTuple (Shared.heap ⟨O.push { cls:=.type "tuple_iterator",data:=.fields #[.ref l1,.int 0 0] },g,d,tk,M⟩) z Y:=Heap.IsTuple.push B _
  wp_walk using wpAny_pyIter_tuple G,wpAny_pyIter_tuple H
  refine⟨_,rfl,?_⟩
  simp only[zT5]at h
  simp only[Heap.size_push,Nat.add_assoc]at h ⊢
  exact h
section
variable {prog:Program}{w:World}{A:Around}{E:Value->Shared->Prop}{s:Shared}
theorem gps {h:Heap}{o:Obj}{n:Nat}(e:h.objs.size=n)(z:(h.push o).get? h.objs.size=some o):(h.push o).get? n=some o:=e ▸ z
theorem call_zipT {l1 z:Addr}{xs M:Array Value}{Q:Value->Shared->Prop}(H:s.heap.IsTuple l1 xs)(G:s.heap.IsTuple z M)
  (h:∀B,IsZip B (s.heap.objs.size+4) (s.heap.objs.size+2) (s.heap.objs.size+3) .none->IsPair B (s.heap.objs.size+2) (.ref s.heap.objs.size) (.ref (s.heap.objs.size+1)) ->
   IsPair B (s.heap.objs.size+3) .none .none->B.IsTupleIter s.heap.objs.size l1 0->B.IsTupleIter (s.heap.objs.size+1) z 0 ->
   (∀c o,s.heap.get? c=some o->B.get? c=some o)->Q (.ref (s.heap.objs.size+4)) { s with heap:=B }) :
  wpAny (model prog w) A (call (.type "zip") [.ref l1,.ref z]) Q E s:=by
 refine callType_new F.called_zip (by decide) (F.typeCall_zip_2 _ _) (F.newCall_zip_2 _ _) (fun obj=>F.args_object_init_3 obj _ _) F.entry_zip_new (meets_zipT l1 z xs M) ⟨H,G,?_⟩;have J:(zT5 s.heap l1 z).get? (s.heap.objs.size+4)=some _:=gps (by simp only[Heap.size_push]) (Heap.get?_push_size _ rfl);have U:(zT5 s.heap l1 z).get? (s.heap.objs.size+3)=some _:=Heap.get?_push_of_some _ (gps (by simp only[Heap.size_push]) (Heap.get?_push_size _ rfl));have Y:(zT5 s.heap l1 z).get? (s.heap.objs.size+2)=some _:=Heap.get?_push_of_some _ (Heap.get?_push_of_some _ (gps (by simp only[Heap.size_push]) (Heap.get?_push_size _ rfl)));have O:(zT5 s.heap l1 z).get? (s.heap.objs.size+1)=some _:=Heap.get?_push_of_some _ (Heap.get?_push_of_some _ (Heap.get?_push_of_some _ (gps (by simp only[Heap.size_push]) (Heap.get?_push_size _ rfl))));have g1:(zT5 s.heap l1 z).get? s.heap.objs.size=some _:=Heap.get?_push_of_some _ (Heap.get?_push_of_some _ (Heap.get?_push_of_some _ (Heap.get?_push_of_some _ (Heap.get?_push_size _ rfl))));exact⟨⟨_,J,rfl⟩,h _ J Y U ⟨_,g1,rfl,rfl⟩ ⟨_,O,rfl,rfl⟩ fun c o x =>
  Heap.get?_push_of_some _ (Heap.get?_push_of_some _ (Heap.get?_push_of_some _ (Heap.get?_push_of_some _ (Heap.get?_push_of_some _ x))))⟩
end
def Itzt (K : zA)(a b : Addr) : It :=
  ⟨fun i H => ∃B z, SqT K H a B∧SqT K H b z∧i<B.length∧i<z.length,
   fun i H x G => ∃T u v, x=.ref T∧H T=none∧G=upd H T (.tup [u, v])∧(∀B, SqT K H a B → B[i]? = some u)∧(∀z, SqT K H b z → z[i]? = some v),
   fun i H => ∃B z, SqT K H a B∧SqT K H b z∧(B.length ≤ i∨z.length ≤ i)⟩
def tnZT (z TI TO G B a b:Addr)(i:Nat)(h:Heap):Prop:=IsZip h z TI TO .none/\IsPair h TI (.ref G) (.ref B)/\(∃x y,IsPair h TO x y)/\h.IsTupleIter G a i/\h.IsTupleIter B b i
theorem ti_at {h h':Heap}{a t:Addr}{i:Nat}(x:h.IsTupleIter a t i)(k:∀o,h.get? a=some o->h'.get? a=some o):h'.IsTupleIter a t i :=
 let ⟨o,z,r⟩:=x;⟨o,k o z,r⟩
theorem turn_zipT {P:Program}{w:World}{K:zA}{elts:List Expr}{x1:Nat}{pos:Pos}{z TI TO G J a b:Addr}(D:ZipApart z TI TO G J a b):Turn P w K (.Tuple elts x1 pos) (Itzt K a b) [z,TI,TO,G,J] z (tnZT z TI TO G J a b) where
 mem:=by simp
 obj:=fun i h O c B=>by
  obtain⟨Y,M,⟨x0,y0,t3⟩,⟨o4,e4,c4,d4⟩,⟨o5,e5,c5,d5⟩⟩:=O
  simp only[zF,zL,or_false]at B
  rcases B with e|e|e|e|e<;>subst e
  ·exact⟨_,Y,fun v q=>by cases q⟩
  ·exact⟨_,M,fun v q=>by cases q⟩
  ·exact⟨_,t3,fun v q=>by cases q⟩
  ·exact⟨o4,e4,fun v q=>by rw[d4]at q;cases q⟩
  ·exact⟨o5,e5,fun v q=>by rw[d5]at q;cases q⟩
 keep:=fun i h h' O k=>by
  obtain⟨Y,M,⟨x0,y0,t3⟩,t4,t5⟩:=O
  exact⟨k z (by simp) _ Y,k TI (by simp) _ M,⟨x0,y0,k TO (by simp) _ t3⟩,ti_at t4 fun o e=>k G (by simp) o e,ti_at t5 fun o e=>k J (by simp) o e⟩
 item:=by
  intro X hP hw hK B i pins s σ H E I hf O hg;subst hP hw hK;obtain⟨xs,ys,hq,U,hi,hi2⟩:=hg;obtain⟨its,rv,p,hz⟩:=I.tuple hq;obtain⟨its2,rv2,p2,hz2⟩:=I.tuple U;obtain⟨u,hu,ru⟩:=rv.get (qA hi);obtain⟨v,hv,rv'⟩:=rv2.get (qA hi2);obtain⟨Y,M,⟨x0,y0,t3⟩,t4,t5⟩:=O;have hl1:z<s.heap.objs.size:=Heap.lt_size Y;have hl3:TO<s.heap.objs.size:=Heap.lt_size t3;have hl2:TI<s.heap.objs.size:=Heap.lt_size M;have hl4:G<s.heap.objs.size:=by obtain⟨o,e,_⟩:=t4;exact Heap.lt_size e
  have hl5:J<s.heap.objs.size:=by obtain⟨o,e,_⟩:=t5;exact Heap.lt_size e
  refine zipT_item D Y M t3 ⟨t4,p⟩ ⟨t5,p2⟩ (x:=u) (y:=v) (by simpa using hu) (by simpa using hv) fun h' a1 a2 a3 a4 a5 a6 a7=>⟨_,rfl,?_⟩;refine wpAny_letOwnedTupleGo_zip a1 fun h2 b1 b2=>?_;have hT0:H s.heap.objs.size=none:=I.hok.fresh (zC _);have I1:Inv X pins σ (upd H s.heap.objs.size (.tup [xs[i],ys[i]])) { s with heap:=s.heap.push { cls:=.type "tuple",data:=.seq [u,v].toArray } } :=
   I.laid (t':=s.toks) (fun b o e=>Heap.get?_push_of_some _ e) (zC _) (show ObjOk X.prog X.w _ _ _ (.tup [xs[i],ys[i]]) from⟨zm (by show 2<=1000;decide),[u,v],.cons ru (.cons rv' .nil),IsTup.new _ _⟩)
  have fpk:∀c∈[z,TI,TO,G,J],c≠s.heap.objs.size:=fun c B=>by
   simp only[zF,zL,or_false]at B;rcases B with e|e|e|e|e<;>subst e<;>exact zG (by assumption)
  have fp2:∀c∈[z,TI,TO,G,J],FpOk X pins (upd H s.heap.objs.size (.tup [xs[i],ys[i]])) c:=fun c B=>by
   obtain⟨f0,f⟩:=hf c B;exact⟨by rw[zg (fpk c B)];exact f0,f⟩
  have I2:Inv X pins σ (upd H s.heap.objs.size (.tup [xs[i],ys[i]])) { s with heap:=h2 }:=by
   refine Inv.turnedL (s:={ s with heap:=s.heap.push { cls:=.type "tuple",data:=.seq [u,v].toArray } }) (t':=s.toks) (h':=h2) [z,TO,G,J] I1 (fun b o hb e=>?_) (fun c B=>fp2 c (by simp only[zF,zL,or_false]at B ⊢;rcases B with e|e|e|e<;>simp[e]));simp only[zF,zL,or_false,not_or]at hb;obtain⟨n1,n2,n3,n4⟩:=hb;refine(b2.2 b n1).trans ?_;by_cases hT:b=s.heap.objs.size
   ·subst hT;rw[Heap.get?_push_size _ rfl]at e;rw[<-e];exact a5
   ·exact a7 b o n1 n2 n3 n4 (j7 hT e)
  have t4':h2.IsTupleIter G a (i+1):=ti_at a3.1 fun o e=>(b2.2 _ D.i1z).trans e;have t5':h2.IsTupleIter J b (i+1):=ti_at a4.1 fun o e=>(b2.2 _ D.i2z).trans e;refine⟨.ref s.heap.objs.size,_,I2,rfl,⟨_,xs[i],ys[i],rfl,hT0,rfl,fun zs h=>?_,fun zs h=>?_⟩,⟨b1,(b2.2 _ D.TIz).trans (a7 TI _ D.TIz D.TITO D.TIi1 D.TIi2 M),⟨_,_,(b2.2 _ D.TOz).trans a2⟩,t4',t5'⟩,fun c B=>(fp2 c B).1⟩
  ·rw[I.tuple_inj h hq];exact qA hi
  ·rw[I.tuple_inj h U];exact qA hi2
 done:=by
  intro X hP hw hK B i pins s σ H E I hf O hg;subst hP hw hK;obtain⟨xs,ys,hq,U,hend⟩:=hg;obtain⟨its,rv,p,hz⟩:=I.tuple hq;obtain⟨its2,rv2,p2,hz2⟩:=I.tuple U;obtain⟨Y,M,⟨x0,y0,t3⟩,t4,t5⟩:=O;refine zipT_end (I.ok.hd B) D Y M t3 ⟨t4,p⟩ ⟨t5,p2⟩ ?_ fun h' a7=>⟨rfl,?_⟩
  ·rcases hend with e|e
   ·left;simp[<-rv.length,e]
   ·right;simp[<-rv2.length,e]
  ·refine Inv.turnedL (t':=s.toks) (h':=h') [z,TO,G,J] I (fun b o hb e=>?_) (fun c B=>hf c (by simp only[zF,zL,or_false]at B ⊢;rcases B with e|e|e|e<;>simp[e]));simp only[zF,zL,or_false,not_or]at hb;obtain⟨n1,n2,n3,n4⟩:=hb;exact a7 b o n1 n2 n3 n4 e
 self:=fun _ _ _ _ _ O h=>wpAny_pyIter_zip O.1 h
def iZip2 (K:zA)(M:TA):TI:=fun J H R=>M J H fun O z=>∃a b B G,O=[.ref a,.ref b]/\((SqL K z a B/\SqL K z b G/\R (Itz K a b) z)\/(SqT K z a B/\SqT K z b G/\R (Itzt K a b) z))
theorem pi_zip2 {X:Cx} {elts:List Expr} {x1:Nat} {ac:Pos} {a b:Expr} {ta:TA} {p pos:Pos} (hg:Gl X "zip") (hm:X.mg "zip" = none) (ha:PA X [a,b] ta) (hs:starEach [a,b] X.env=(false,eval a X.env)::starEach [b] X.env:=by rfl) (hpl:(backTo pos (starEach [b] X.env)).any (·.1)=false:=by rfl) :
  PI X (.Tuple elts x1 ac) (.Call (.Name "zip" p) [a,b] [] pos) (iZip2 X.K ta):=by
 intro pins s σ H R I h;refine Call_ (JO I hg hm bo_zip (PyProof.Rows.callWith_type1 (thn (ha pos pins s σ H _ I h) fun us z ⟨vs,H1,G,r1,q1⟩=>?_) hs hpl));obtain⟨l1,l2,xs,ys,e,alt⟩:=q1;subst e;obtain⟨u1,u2,rfl,ru1,ru2⟩:=vals2 r1;cases (show u1=Value.ref l1 from ru1)
 cases (show u2=Value.ref l2 from ru2)
 have mk:∀(M:l1<z.heap.objs.size) (aa:l2<z.heap.objs.size),ZipApart (z.heap.objs.size+4) (z.heap.objs.size+2) (z.heap.objs.size+3) z.heap.objs.size (z.heap.objs.size+1) l1 l2:=fun M aa=>by
  have q1:@LT.lt Nat _ l1 z.heap.objs.size:=M;have q2:@LT.lt Nat _ l2 z.heap.objs.size:=aa;constructor<;>(show ¬ @Eq Nat _ _;omega)
 have fp:∀c∈[z.heap.objs.size+4,z.heap.objs.size+2,z.heap.objs.size+3,z.heap.objs.size,z.heap.objs.size+1],FpOk X pins H1 c:=fun c hc=>by
  have hle:z.heap.objs.size<=c:=by
   simp only[zF,zL,or_false]at hc;show(z.heap.objs.size:Nat)<=c
   rcases hc with e|e|e|e|e<;>subst e<;>(show @LE.le Nat _ _ _;omega)
  exact G.fpOk hle (G.hok.fresh hle)
 rcases alt with⟨hq,J,q⟩|⟨hq,J,q⟩
 ·obtain⟨its,rv,U,hz⟩:=G.list hq;obtain⟨Y,rv2,B,hz2⟩:=G.list J;refine call_zip_2 U.isList B.isList fun h' O z2 z3 z4 z5 z6 z7=>?_;refine wpAny_pyIter_zip O ?_;exact⟨z.heap.objs.size+4,_,_,_,H1,rfl,G.kept (t':=z.toks) z7,turn_zip (mk (by obtain⟨o,e,_⟩:=U.isList;exact Heap.lt_size e) (by obtain⟨o,e,_⟩:=B.isList;exact Heap.lt_size e)),⟨O,z2,⟨_,_,z3⟩,z4,z5⟩,fp,q⟩
 ·obtain⟨its,rv,U,hz⟩:=G.tuple hq;obtain⟨Y,rv2,B,hz2⟩:=G.tuple J;refine call_zipT U B fun h' O z2 z3 z4 z5 z7=>?_;refine wpAny_pyIter_zip O ?_;exact⟨z.heap.objs.size+4,_,_,_,H1,rfl,G.kept (t':=z.toks) z7,turn_zipT (mk (by obtain⟨o,e,_⟩:=U;exact Heap.lt_size e) (by obtain⟨o,e,_⟩:=B;exact Heap.lt_size e)),⟨O,z2,⟨_,_,z3⟩,z4,z5⟩,fp,q⟩
theorem w_compZ2 {K:zA}{B:St}{H:Hp}{Q:VK}{O:TA}{J:Nat}{cs:List Nat}{g:TG}{G:TT}{M:TE}:JL (iZip2 K O) J cs g G M B H Q=(O B H fun vs z=>∃a b Y U,vs=[.ref a,.ref b]/\((SqL K z a Y/\SqL K z b U/\yU (Itz K a b) J cs g G M B z Q)\/(SqT K z a Y/\SqT K z b U/\yU (Itzt K a b) J cs g G M B z Q))):=rfl
structure Gt (ins:Nat) (ds:List Wd) (gs:List Go) (i:Nat) (ms:List Nat):Prop where
 sd:∀x∈ms,Rch ins ds gs x
 rt:∀g∈gs,g.sg≠0->g.th∈ms
 cl:∀k d,ds[k]? = some d->ds.length<=k+i->ins+k∈ms->d.a∈ms/\d.b∈ms
 ln:ms.length<=gs.length+2*i
def kp (bs:List Bool)(ins j:Nat):Prop:=j<ins\/bs[j]? = some true
instance (bs:List Bool) (ins j:Nat):Decidable (kp bs ins j):=by unfold kp;infer_instance
section
variable {ins:Nat}{ds:List Wd}{gs:List Go}{bs:List Bool}
end
section
variable {K:zA}{σ:St}{H:Hp}{Q:VK}{cs:List Nat}{te:TE}
end
def TrX (h:Heap)(e:Addr)(C:Value)(d:Option Addr)(T:Addr):Prop :=
 ∃z H G B,h.get? e=some z/\z.cls=C/\z.dict=d/\z.data=.fields H/\H[1]? = some (.ref T)/\T≠e/\h.get? T=some G/\G.data=.fields B/\B[3]? = some .none
def NwX (h:Heap)(e:Addr)(C:Value)(d:Option Addr):Prop:=∃z B,h.get? e=some z/\z.cls=C/\z.dict=d/\z.data=.fields B/\B[1]? = some .none
structure Lv (fr:List Addr) (e:Addr) (C:Value) (d:Option Addr) (T:Option Addr) (h h':Heap):Prop where
 keep:∀b o,b∉fr->b≠e->some b≠T->h.get? b=some o->h'.get? b=some o
 slot:∀b o,b∈fr->h.get? b=some o->∃sl,h'.get? b=some { o with slots:=sl }
 exc:TrX h' e C d h.objs.size
section
variable {M:Model}{A:Around}{E:Value->Shared->Prop}{s:Shared}{base:Heap}{env:Env}{outer:List Env}{L e:Addr}{oe:Obj}{vs:Array Value}{Q:Unit->Shared->Prop}
theorem lv_entry {head:Value}{H:Bool}(hfr:A.frames=some (env::outer))(hl:s.heap.FunFrames base (env::outer))(hf:env.frame=some L)
  (he:s.heap.get? e=some oe) (hd:oe.data=.fields vs) (hsz:1<vs.size)
  (h:∀h',Lv ((env::outer).filterMap (·.frame)) e oe.cls oe.dict none s.heap h'->Q () { s with heap:=h' }) :
  wpAny M A (do let a ← frameOf env;let pl ← entryPlaceOf L H;let b ← EntryCells.newEntry head a .none (rawInt L) .none pl;setField (.ref e) 1 b) (fun _ s'=>wpAny M A (setFlight (.ref e) none) Q E s') E s:=by
 have J:e∉(env::outer).filterMap (·.frame):=fun hm=>by
  obtain⟨_,o,ho,hnf⟩:=hl.mem hm;rw[he]at ho;injection ho with ho;subst ho;exact hnf vs hd
 refine wpAny_bind (wpAny_frameOf_fun hfr hl hf fun B s1=>?_);refine wpAny_bind (wpAny_entryPlaceOf fun pl hpl=>?_);unfold EntryCells.newEntry newFields;refine wpAny_bind (wpAny_newObj_type ?_ (hpl.sizeOk5 _ _ _ _ _));have e1:B.get? e=some oe:=(s1.2.1 e J).trans he;generalize hob:({ cls:=.type "traceback",dict:=none,data:=.fields ([head,.ref L,.none,rawInt L,.none]++(if pl.isEmpty then qQ 6 Value.none else pl)).toArray }:Obj)=ob;have e2:=Heap.get?_push_of_some (h:=B) ob e1;refine wpAny_setField e2 hd hsz ?_;have U:B.objs.size≠e:=xV (Heap.lt_size e1);have d3:=Obj.data_mapFields hd (·.setIfInBounds 1 (Value.ref B.objs.size));have e3:=Heap.get?_update_self (Obj.mapFields (·.setIfInBounds 1 (Value.ref B.objs.size))) e2 (Obj.isFreed_of_fields d3);have G:ob.data=.fields ([head,.ref L,.none,rawInt L,.none]++(if pl.isEmpty then qQ 6 Value.none else pl)).toArray:=by rw[<-hob]
 have T3:=(Heap.get?_update_other (B.push ob) (Obj.mapFields (·.setIfInBounds 1 (Value.ref B.objs.size))) (Ne.symm U)).trans (Heap.get?_push_size B (by rw[<-hob];rfl));unfold setFlight;refine wpAny_bind (wpAny_field e3 d3 (x:=.ref B.objs.size) (by simp[hsz]) ?_);rw[if_pos (show(Value.ref B.objs.size != Value.none)=true from by simp)];refine wpAny_setField T3 G (by simp only[qM,qF,zH,y6]<;>omega) (h _ ?_);have keep:∀b o,b≠e->B.get? b=some o->(((B.push ob).update e (Obj.mapFields (·.setIfInBounds 1 (Value.ref B.objs.size)))).update B.objs.size (Obj.mapFields (·.setIfInBounds 3 ((none:Option Addr).elim Value.none fun f=>rawInt f)))).get? b=some o:=fun b o O Y=>by
  have hbT:B.objs.size≠b:=xV (Heap.lt_size Y);rw[Heap.get?_update_other _ _ hbT,Heap.get?_update_other _ _ (Ne.symm O)];exact Heap.get?_push_of_some _ Y
 refine⟨fun b o Y O _ hg=>keep b o O ((s1.2.1 b Y).trans hg),fun b o Y hg=>?_,?_⟩
 ·obtain⟨sl,hs⟩:=s1.2.2 b o hg;exact⟨sl,keep b _ (fun z=>J (z ▸ Y)) hs⟩
 ·rw[<-s1.1];refine⟨_,_,_,_,?_,Obj.cls_mapFields _ _,?_,d3,by simp[hsz],U,Heap.get?_update_self _ T3 (Obj.isFreed_of_fields (Obj.data_mapFields G _)),Obj.data_mapFields G _,by first|(simp;done)|(rcases hpl with rfl|⟨_,_,_,_,_,_,_,rfl⟩<;>simp)⟩
  ·rw[Heap.get?_update_other _ _ U];exact e3
  ·obtain⟨oc,od,dt,sl⟩:=oe;cases hd
   rfl
theorem lv_first {C:Value}{d:Option Addr}(B:A.frames=some (env::outer))(U:s.heap.FunFrames base (env::outer))(J:env.frame=some L)(z:NwX s.heap e C d)
  (h:∀H,Lv ((env::outer).filterMap (·.frame)) e C d none s.heap H->Q () { s with heap:=H }):wpAny M A (leaving env (.ref e)) Q E s:=by
 obtain⟨oe,vs,z,rfl,rfl,G,O⟩:=z;unfold leaving noteFrame;simp only[J];refine wpAny_bind (wpAny_bind (wpAny_field z G O ?_));rw[if_neg (by decide)];exact lv_entry B U J z G (Array.getElem?_eq_some_iff.mp O).1 h
end
def CXe (P:Program)(w:World)(base:Heap):CXT:=fun outer H s E e z=>∃(x T:Addr) (C:Value) (d:Option Addr) (B:Hp),e=.ref x/\z.os=s.os/\AllBare z.gens/\Un (frs outer) [] H B s.heap z.heap/\HOk P w B z.heap /\
 TrX z.heap x C d T/\s.heap.get? x=none/\s.heap.get? T=none/\B x=none/\B T=none/\E C d B
def Raises (X:Cx)(E:XK):Prop:=∀(pins:List (Addr×Obj)) (z:St) (H:Hp) (s:Shared) (e:Addr) (C:Value) (d:Option Addr),Inv X pins z H s->NwX s.heap e C d->H e=none->X.s₀.heap.get? e=none->E C d H->X.xe (.ref e) s
section
variable {P:Program}{w:World}{K:zA}{mg:Str->Option Value}{base:Heap}{N:List Str}{qual:Str}{scope:Scope}{f:Addr}{cd:Value}{A:Around}{outer:List Env}{s:Shared}{H:Hp}{E:XK}
theorem leave_ok {pins:List (Addr×Obj)}{σ:St}{H':Hp}{s':Shared}{h':Heap}{x:Addr}{C:Value}{d:Option Addr}{Y:Option Addr}
  (I:Inv (cxOf (CXe P w base) P w K mg base N qual scope f cd A outer s H E) pins σ H' s') (l:Lv ((envOfC qual scope s.heap.objs.size f cd::outer).filterMap (·.frame)) x C d Y s'.heap h')
  (hx:s.heap.get? x=none) (hn:H' x=none) (hT:∀T,Y=some T->s.heap.get? T=none/\H' T=none) (he:E C d H'):CXe P w base outer H s E (.ref x) { s' with heap:=h' }:=by
 have st:(cxOf (CXe P w base) P w K mg base N qual scope f cd A outer s H E).stack=envOfC qual scope s.heap.objs.size f cd::outer:=rfl;have inS:∀b,b∈(envOfC qual scope s.heap.objs.size f cd::outer).filterMap (·.frame)->b=s.heap.objs.size\/b∈frs outer:=fun b B=>by
  have:=I.stkSub b B;exact zF.mp this
 have O:∀b o,s.heap.get? b=some o->b∉frs outer->b∉(envOfC qual scope s.heap.objs.size f cd::outer).filterMap (·.frame):=fun b o e B z=>by
  rcases inS b z with q|q
  ·exact absurd (Heap.lt_size e) (by rw[q];exact yr _)
  ·exact B q
 have J:∀b o,s.heap.get? b=some o->b≠x:=fun b o e z=>by rw[z,hx]at e;cases e
 have M:∀b o,s.heap.get? b=some o->some b≠Y:=fun b o e z=>by rw[(hT b z.symm).1]at e;cases e
 have sub:∀b,b∈frs outer->b∈(envOfC qual scope s.heap.objs.size f cd::outer).filterMap (·.frame):=fun b B=>by
  rw[zt];split
  ·exact B
  ·exact zM _ B
 refine⟨x,s'.heap.objs.size,C,d,H',rfl,I.os,I.bare,⟨fun b o e n B G=>?_,fun b o e n B G=>?_,fun b o e n G=>I.base.free b o e n G,fun b o e G=>?_,I.base.tups,I.base.frzs,I.base.tbls⟩,fun b u q=>?_,l.exc,hx,Heap.get?_none_of_le I.sz,hn,I.hok.fresh (zC _),he⟩
 ·exact l.keep b o (O b o e B) (J b o e) (M b o e) (I.base.keep b o e n B G)
 ·obtain⟨sl,U⟩:=I.base.slot b o e n B G;obtain⟨aa,e2⟩:=l.slot b _ (sub b B) U;exact⟨aa,e2⟩
 ·obtain⟨o',U⟩:=I.base.there b o e G;by_cases B:b∈(envOfC qual scope s.heap.objs.size f cd::outer).filterMap (·.frame)
  ·obtain⟨sl,e2⟩:=l.slot b o' B U;exact⟨_,e2⟩
  ·exact⟨o',l.keep b o' B (J b o e) (M b o e) U⟩
 ·have trk:∀c v,H' c=some v->c∉(envOfC qual scope s.heap.objs.size f cd::outer).filterMap (·.frame)/\c≠x/\some c≠Y:=fun c v e=>by
   refine⟨fun z=>?_,fun z=>?_,fun z=>?_⟩
   ·have:=I.stkFree c z;rw[e]at this;cases this
   ·rw[z,hn]at e;cases e
   ·rw[(hT c z.symm).2]at e;cases e
  refine(I.hok b u q).stay (fun c v hc e=>?_) (fun _ z=>z) fun _ _ z=>z;have tc:∃v,H' c=some v:=by
   rcases hc with z|z
   ·rw[z];exact⟨_,q⟩
   ·exact⟨_,z⟩
  obtain⟨v',hv⟩:=tc;obtain⟨n1,n2,n3⟩:=trk c v' hv;exact l.keep c v n1 n2 n3 e
theorem raises_of:Raises (cxOf (CXe P w base) P w K mg base N qual scope f cd A outer s H E) E:=by
 intro pins Y H' U e C d I G J M B;exact lv_first (base:=base) (L:=s.heap.objs.size) I.ok.frames I.stack rfl G fun O l=>leave_ok I l M J (fun T z=>by cases z) B
end
structure CalX (P:Program) (w:World) (K:zA) (mg:Str->Option Value) (base:Heap) (k:Nat) (x:Str) (ps:List Str) (sp:Sp):Prop where
 ex:∃(f:Addr) (fd:FuncData),FnOk P w K mg base (CXe P w base) k f fd ps sp/\mg x=some (.ref f)/\x4 K (.ref f)=true/\Binds K fd ps []
section
variable {X:Cx}{k:Nat}{x:Str}{ps:List Str}{sp:Sp}{e:Expr}{es:List Expr}{t:TA}{p pos:Pos}{E:XK}
end
section
variable {P:Program}{w:World}{K:zA}{mg:Str->Option Value}{base:Heap}
theorem mkCalX {x qual:Str}{st:Stmt}{N G:List Str}{k:Nat}{sp:Sp}(T:∃(f:Addr) (M:FuncData),Fun K x qual st f M/\mg x=some (.ref f)/\Binds K M G [])(S:FnScope N G (zS st))(len:∀vs H Q E,sp vs H Q E->vs.length=G.length)
  (B:∀(f:Addr) (z:Value) (A:Around) (outer:List Env) (s:Shared) (H:Hp) (vs:List V) (Q:VK) (E:XK),Room k (A.deeper (envOfC qual (zS st) s.heap.objs.size f z))->sp vs H Q E ->
   ∃t,PSs (cxOf (CXe P w base) P w K mg base N qual (zS st) f z A outer s H E) (xn st) t/\t { nx:=fun _ Y=>Q .non Y,rt:=Q } (jU N vs) H):CalX P w K mg base (k+1) x G sp:=by
 obtain⟨f,M,F,m,b⟩:=T;obtain⟨oc,od,kV,doc,pm,an,z,ct,aa,rfl,lk,O⟩:=F.ex;exact⟨f,_,fn_of lk O S len fun A outer s H vs Q E U J=>B f z A outer s H vs Q E U J,m,F.kp,b⟩
end
theorem exc_obj {K:zA}{h:Heap}{C:Addr}{H:List Value}{newId:String}(X:K.In h)(q:PySem.W.excIn K C H newId=true) :
  ∃bm N nm q bs B sn sub ab col dd J U Y M O mN,h.get? C=some (excClassObj nm q C N bs bm B sn sub ab col dd J U Y M O newId)/\h.Ns N mN/\mN "__init__" = none/\OwnTail h H bm:=by
 unfold PySem.W.excIn at q;split at q
 ·rename_i dd cd sl ho
  split at q
  ·rename_i C' bm J U Y M n O hm hs
   simp only[zW,beq_iff_eq,yo]at q;obtain⟨⟨⟨⟨⟨rfl,rfl⟩,z⟩,ht⟩,hok⟩,G⟩:=q;obtain⟨nm,bs,mro,ns,qn,hd,sn,sub,ab,col,del⟩:=cd;dsimp only at hm z hok G;subst hm z;have hsl:sl = #[J,U,Y,M,some (.builtin n),O]:=by
    obtain⟨l⟩:=sl;simp only at hs;rw[hs]
   subst hsl;exact⟨bm,ns,nm,qn,bs,hd,sn,sub,ab,col,dd,J,U,Y,M,O,_,X _ _ ho,.of_isNs (PySem.W.isNs_of_in X hok),PySem.W.nsMap_none_of_in X hok G,PySem.W.tail_of_in X ht⟩
  ·cases q
 ·cases q
theorem ObjOk.there {P:Program}{w:World}{H:Hp}{h:Heap}{a:Addr}{o:HO}(x:ObjOk P w H h a o):∃u,h.get? a=some u:=by
 cases o with
 |lst B=>obtain⟨_,_,_,_,e⟩:=x;exact⟨_,e⟩
 |tup B=>obtain⟨_,_,_,o,e,_⟩:=x;exact⟨_,e⟩
 |dK z=>obtain⟨_,_,_,_,o,_,_,e,_⟩:=x;exact⟨_,e⟩
 |dT z=>obtain⟨_,_,_,_,o,_,_,e,_⟩:=x;exact⟨_,e⟩
 |set S n=>obtain⟨o,_,_,_,e,_⟩:=x;exact⟨_,e⟩
 |ins C O fs=>obtain⟨_,_,_,e,_⟩:=x;exact⟨_,e⟩
 |own y=>obtain⟨_,e⟩:=x;exact⟨_,e⟩
 |xd fs=>obtain⟨_,⟨_,_,_,e,_⟩,_⟩:=x;exact⟨_,e⟩
 |rng U J=>obtain⟨_,_,_,e⟩:=x;exact⟨_,e⟩
 |frz G u=>obtain⟨e,_⟩:=x;exact⟨_,e⟩
 |tbl M=>exact⟨_,show h.get? a=some _ from x⟩
 |met f y=>exact⟨_,show h.get? a=some _ from x⟩
 |ext Y=>obtain⟨_,⟨_,e⟩,_⟩:=x;exact⟨_,e⟩
theorem hok_none {P:Program}{w:World}{H:Hp}{h:Heap}{a:Addr}(k:HOk P w H h)(n:h.get? a=none):H a=none:=by
 cases q:H a with
 |none=>rfl
 |some o =>
  obtain⟨u,e⟩:=ObjOk.there (k a o q);rw[n]at e;cases e
def tRaise (E:XK)(C:Addr)(G:TA):TS:=fun _ z H=>G z H fun J B=>J.length<=sizeLine/\E (.ref C) none B
theorem w_raise {E:XK}{C:Addr}{B:TA}{D:Ends}{z:St}{H:Hp}:tRaise E C B D z H=(B z H fun J G=>J.length<=sizeLine/\E (.ref C) none G):=rfl
theorem ps_raise {X:Cx}{E:XK}{x:Str}{C:Addr}{aa:List Value}{newId G B:String}{np z pos:Pos}{e:Expr}{es:List Expr}{ta:TA}(hE:Raises X E)(hq:PySem.W.excIn X.K C aa newId=true)(FB:ExcBaseFacts B newId G aa)
  (hc:X.calm=true) (hex:∀b,b∉X.ex) (hg:Gl X x) (hm:X.mg x=some (.ref C)) (ha:PA X (e::es) ta) (hd:(x==("__debug__" : Str))=false:=by decide)
  (he:starEach (e::es) X.env=(false,eval e X.env)::starEach es X.env:=by rfl) (hpl:(backTo z (starEach es X.env)).any (·.1)=false:=by rfl) :
  PS X (.Raise (some (.Call (.Name x np) (e::es) [] z)) none pos) (tRaise E C ta):=by
 intro pins s σ H D I h;obtain⟨bm,N,nm,q,bs,hdct,sn,sub,ab,col,dd,k0,k1,k2,k3,k5,mN,hC,hN,hni,T⟩:=exc_obj I.kIn hq;obtain⟨bm0,N0,nm0,q0,bs0,M,sn0,ac,ab0,U,dd0,k00,k10,k20,k30,k50,mN0,Y,hN0,hni0,T0⟩:=exc_obj I.ok.mod.kin hq;have hb0:=Y;refine wpAny_Raise_call_subT (C:=C) (nm:=nm0) (q:=q0) (N:=N0) (bs:=bs0) (bm:=bm0) (hdct:=M) (sn:=sn0) (sub:=ac) (ab:=ab0) (col:=U) (dd:=dd0) (k0:=k00) (k1:=k10) (k2:=k20) (k3:=k30) (k5:=k50)
  FB (mN:=mN0) (T0.hasType FB.hasBase) (I.ok.hd hc) (by rw[he];show(false || (backTo z (starEach es X.env)).any (·.1))=false;rw[hpl];rfl) hni0 (ld_glob I hg hm ⟨rfl,?_⟩ hd)
 have h2:=ha z pins s σ H _ I h;rw[he]at h2 ⊢;refine Calls.evalArgs_plain (wpAny_mono h2 (fun us s1 h1=>?_) fun _ _ y=>y);obtain⟨vs,H1,O,rv,hz,hE1⟩:=h1;refine⟨rfl,by rw[<-rv.length];exact hz,O.bk _ _ Y,hN0.keeps O.bk,T0.keeps O.bk,fun h' x' J=>?_⟩;obtain⟨t,ht,_,_⟩:=J.there;have n0:X.s₀.heap.get? x'=none:=by
  cases q:X.s₀.heap.get? x' with
  |none=>rfl
  |some o =>
   obtain⟨o',e'⟩:=O.base.there x' o q (hex x');rw[J.new]at e';cases e'
 exact hE pins σ H1 _ x' (.ref C) none (O.kept (t':=s1.toks) J.keeps) ⟨_,_,ht,rfl,rfl,rfl,rfl⟩ (hok_none O.hok J.new) n0 hE1
section
variable {M:Model}{A:Around}{E:Value->Shared->Prop}
end
def XP (X:Cx)(pins:List (Addr×Obj))(B:St)(E:XK)(e:Value)(s':Shared):Prop:=∃(x T:Addr) (C:Value) (d:Option Addr) (z:Hp),e=.ref x/\Inv X pins B z s'/\TrX s'.heap x C d T /\
 (X.s₀.heap.get? x=none/\X.s₀.heap.get? T=none)/\(∀p∈X.pn++pins,p.1≠x/\p.1≠T)/\z x=none/\z T=none/\E C d z
section
variable {prog:Program}{w:World}{A:Around}{E:Value->Shared->Prop}{s:Shared}{K:zA}{x D:Addr}{o:Obj}
end
theorem CalX.cal {P:Program}{w:World}{K:zA}{G:Str->Option Value}{base:Heap}{k:Nat}{x:Str}{J:List Str}{sp:Sp}(C:CalX P w K G base k x J sp):Cal P w K G base k x J (fun B H Q _=>sp B H Q E0):=by
 obtain⟨f,fd,F,b,c,d⟩:=C.ex;refine⟨f,fd,⟨fun B H Q E h=>F.len B H Q E0 h,fun A outer s H args us B Q E U O M r h=>codeAny_mono (F.run A outer s H args us B Q E0 U O M r h) fun r s' q=>?_⟩,b,c,d⟩;cases r with
 |error e =>
  obtain⟨_,_,_,_,_,_,_,_,_,_,_,_,_,_,_,z⟩:=q;exact z.elim
 |ok Y =>
  cases Y with
  |ret u=>exact q
  |next=>exact q
  |brk=>exact q
  |cont=>exact q
def PPen (H:Hp)(p a:Addr)(c:Int):Prop:=∃t l:Int,H p=some (.lst [.int l,.int t,.ref a])/\0<=t/\t<=c/\0<=l
theorem PPen.mono {H:Hp}{p a:Addr}{c d:Int}(h:PPen H p a c)(l:c<=d):PPen H p a d:=by
 obtain⟨t,x,e,B,G,z⟩:=h;exact⟨t,x,e,B,by omega,z⟩
theorem PPen.same {H H':Hp}{p a:Addr}{c:Int}(h:PPen H p a c)(s:Same H H'):PPen H' p a c:=by
 obtain⟨t,x,e,r⟩:=h;exact⟨t,x,s _ _ e,r⟩
theorem PPen.lst {H:Hp}{p a:Addr}{c:Int}(h:PPen H p a c):∃z,H p=some (.lst z):=by
 obtain⟨t,x,e,r⟩:=h;exact⟨_,e⟩
theorem PPen.ne {H:Hp}{p a q:Addr}{c:Int}(h:PPen H p a c)(z:H q=none):q≠p:=by
 obtain⟨B,h⟩:=h.lst;exact(zc h z).symm
theorem PPen.chg {H H':Hp}{p a q:Addr}{c:Int}(h:PPen H p a c)(n:p≠q)(s:Chg q H H'):PPen H' p a c:=by
 obtain⟨t,x,e,r⟩:=h;exact⟨t,x,s _ _ n e,r⟩
theorem ppen_of {H:Hp}{p a:Addr}{t l c:Int}(B:0<=t)(G:t<=c)(z:0<=l):PPen (upd H p (.lst [.int l,.int t,.ref a])) p a c:=⟨t,l,upd_same,B,G,z⟩
theorem Scr.ppen {K:zA}{H H':Hp}{p a:Addr}{c:Int}{ns:List Int}(h:Scr K H a ns)(z:PPen H p a c)(s:Chg p H H'):Scr K H' a ns:=by
 obtain⟨B,e⟩:=z.lst;exact h.chg e s
def spPPen (K:zA):Sp:=fun B H Q _=>∃(a:Addr),B=[.ref a]/\∀p z,H p=none->Same H z->PPen z p a 0->Q (.ref p) z
def spPick (K:zA):Sp:=fun G H Q _=>∃(p a:Addr) (B:List Int) (m c:Int),G=[.ref p,.int m]/\PPen H p a c/\Scr K H a B/\B.length<=63/\c<=1000000000/\1<=m/\m<2^64 /\
 ∀(r:Int) z,0<=r->r<m->PPen z p a (c+1)->Scr K z a B->Chg p H z->Q (.int r) z
theorem jW {K:zA}{H:Hp}{p a:Addr}{ns:List Int}{m c:Int}{Q:VK}{E:XK}(M:PPen H p a c)(O:Scr K H a ns)(B:ns.length<=63)(J:c<=1000000000)(U:1<=m)(G:m<2^64)
  (q:∀(r:Int) z,0<=r->r<m->PPen z p a (c+1)->Scr K z a ns->Chg p H z->Q (.int r) z):spPick K [.ref p,.int m] H Q E:=⟨p,a,ns,m,c,rfl,M,O,B,J,U,G,q⟩
def valD (vs:List Int)(d:Wd):Int:=mvI d.s (vs.getD d.a 0)+sgW d.w*mvI d.t (vs.getD d.b 0)
def valsW (xs:List Int)(ds:List Wd):List Int:=ds.foldl (fun z d=>z++[valD z d]) xs
theorem jh (xs:List Int)(ds:List Wd)(d:Wd):valsW xs (ds++[d])=valsW xs ds++[valD (valsW xs ds) d]:=by unfold valsW;rw[List.foldl_append];rfl
theorem valsW_len (xs:List Int)(ds:List Wd):(valsW xs ds).length=xs.length+ds.length:=by
 refine j6 (p:=fun ds=>(valsW xs ds).length=xs.length+ds.length) rfl (fun z y ih=>?_) ds;rw[jh,qF,ih];simp;omega
theorem valsW_pre (xs:List Int)(ds new:List Wd){k:Nat}{r:Int}(h:(valsW xs ds)[k]? = some r):(valsW xs (ds++new))[k]? = some r:=by
 refine j6 (p:=fun new=>(valsW xs (ds++new))[k]? = some r) (by rw[zv];exact h) (fun z y ih=>?_) new;rw[<-zN,jh,qH (qB.mp ih).1];exact ih
theorem valsW_at {xs:List Int}{ds:List Wd}{j:Nat}(h:j<xs.length+ds.length):∃x,(valsW xs ds)[j]? = some x/\(valsW xs ds).getD j 0=x/\x∈valsW xs ds:=by
 have e:=qA (l:=valsW xs ds) (i:=j) (by rw[valsW_len];exact h);exact⟨_,e,getD_of e,qE e⟩
theorem zAC {xs:List Int}{ds:List Wd}{d:Wd}{j:Nat}(h:j<xs.length+ds.length):(valsW xs (ds++[d])).getD j 0=(valsW xs ds).getD j 0:=by
 obtain⟨x,e,z,_⟩:=valsW_at h;rw[z,getD_of (valsW_pre xs ds [d] e)]
def coV:V->Option V:=fun x=>match x with
 |.int n=>some (.int (coreN n))
 |_=>none
theorem coV_map (xs:List Int):(xs.map V.int).filterMap coV=(xs.map coreN).map V.int:=by
 rw[List.filterMap_map,yF];exact zAB (fun n=>V.int (coreN n)) xs
def spCores:Sp:=fun G H Q _=>∃(a:Addr) (B:List Int),G=[.ref a]/\H a=some (.lst (B.map V.int))/\B.length<=1000/\∀l z,H l=none->Same H z->z l=some (.lst ((B.map coreN).map V.int))->Q (.ref l) z
def outV (vs:List Int)(g:Go):Int:=g.sg*mvI g.sh (vs.getD g.th 0)
open PySem PySem.Spec PyProof PyProof.Rows
section
variable {P:Program}{w:World}{A:Around}{E:Value->Shared->Prop}{s:Shared}
end
section
variable {X:Cx}
end
section
variable {K:zA}{σ:St}{H:Hp}{D:Ends}{g:TG}{tb:TS}{a b:Addr}
end
section
variable {K:zA}{σ:St}{H:Hp}{Q:VK}{cs:List Nat}{te:TE}
end
theorem cut_drop1 {xs:List V}:cutV xs (some 1) none=xs.drop 1:=by
 unfold cutV;rw[HT.sIx_none,show HT.sIx xs.length 0 (some 1)=min 1 xs.length from HT.sIx_nat xs.length 0 1];by_cases h:1<=xs.length
 ·rw[Nat.min_eq_left h];exact yE (by rw[zu];omega)
 ·have:xs=[]:=zU (by omega);subst this;rfl
section
variable {g:Int->Int->Int->Int->Int}{z:Int}
end
section
variable {K:zA}{σ:St}{H:Hp}{Q:VK}{cs:List Nat}{te:TE}
theorem comp_penI {p a:Addr}{ns:List Int}{n:Nat}{lo c d:Int}(hz:n<=1000)(hP:PPen H p a c)(hS:Scr K H a ns)(φ:Int->Prop)
  (hb:∀(i:Nat) B (R:VK),i<n->PPen B p a (c+d*i)->Scr K B a ns->Chg p H B->(∀x M,φ x->PPen M p a (c+d*i+d)->Scr K M a ns->Chg p B M->R (.int x) M)->te (some (.int (lo+i))::yG cs σ) B R)
  (hd:∀acc (xs:List Int) B,H acc=none->xs.length=n->(∀x∈xs,φ x)->B acc=some (.lst (xs.map V.int))->PPen B p a (c+d*n)->Scr K B a ns->Chg p H B->Q (.ref acc) B):yU (Itr lo n) 1 cs (xF 0) tYes te σ H Q:=by
 refine xz n (fun acc i J B=>∃xs:List Int,J=xs.map V.int/\xs.length=i/\(∀x∈xs,φ x)/\B acc=some (.lst J)/\PPen B p a (c+d*i)/\Scr K B a ns/\Chg p H B) (zm hz) ?_ ?_ ?_ ?_ ?_ ?_
 ·rintro acc i J B hi _;exact hi
 ·rintro acc J B _;exact zC _
 ·intro acc G;have s:=zP G (.lst []);exact⟨[],rfl,rfl,(fun x h=>by cases h),upd_same,(hP.same s).mono (by simp),hS.same s,s.chg⟩
 ·rintro acc i J B ⟨xs,rfl,U,_,G,_⟩;exact⟨G,by rw[qC];omega⟩
 ·rintro acc i J B ts x H2 N Y hi ⟨xs,rfl,U,hx,G,P1,S1,C1⟩ ⟨rfl,rfl⟩ hts hN;obtain⟨t0,rfl⟩:∃t0,ts=[t0]:=by
   match ts,hts with
   |[a],_=>exact⟨a,rfl⟩
  rw[yy,JM,if_pos rfl];have ap:acc≠p:=hP.ne Y;refine hb i _ _ hi P1 S1 C1 fun x M hφ P5 S5 C5=>?_;have O:=C5 _ _ ap G;refine⟨O,hN _ [_] _ rfl ⟨xs++[x],by rw[zo];rfl,by simp[U],fun y hy=>?_,upd_same,?_,S5.chg O (Chg.upd _),Chg.updN (C1.trans C5) Y⟩⟩
  ·rcases zE.mp hy with z|z
   ·exact hx y z
   ·rw[zB.mp z];exact hφ
  ·have e:c+d*((i+1:Nat):Int)=c+d*i+d:=by push_cast;rw[Int.mul_add];omega
   rw[e];exact P5.chg ap.symm (Chg.upd _)
 ·rintro acc J B Y ⟨xs,rfl,U,hx,G,P1,S1,C1⟩;exact hd acc xs B Y U hx G P1 S1 C1
end
section
variable {prog:Program}{w:World}{A:Around}{E:Value->Shared->Prop}{s:Shared}
end
section
variable {K:zA}{σ:St}{H:Hp}{D:Ends}{g:TG}{tb:TS}{a b c:Addr}
end
section
variable {prog:Program}{w:World}{A:Around}{E:Value->Shared->Prop}{s:Shared}
end
section
variable {K:zA}{σ:St}{H:Hp}{Q:VK}{cs:List Nat}{te:TE}
end
section
variable {X:Cx}
end
def Lies (w x:Int):Prop:=-(2^(w-1).toNat)<=x/\x<2^(w-1).toNat
instance (w x:Int):Decidable (Lies w x):=by unfold Lies;infer_instance
def nz (ns:List Int):List Int:=ns.filter fun n=>decide (n≠0)
theorem zi {t u:TS}{D:Ends}{z:St}{H:Hp}(h:∀R:TS,R=u->tSeq t R D z H):tSeq t u D z H:=h u rfl
theorem seq_inG {g:TG}{x:V}{t u:TS}{D:Ends}{G:St}{H:Hp}(h:∀R:TS,R=u->g x G H fun z B=>tSeq t R D z B):g x G H fun z B=>tSeq t u D z B:=h u rfl
theorem ze {R u:TS}{D:Ends}{z:St}{H:Hp}(e:R=u)(h:u D z H):R D z H:=by rw[e];exact h
section
variable {K:zA}{σ:St}{H:Hp}{Q:VK}{cs:List Nat}{te:TE}
end
theorem sqT_chg {K:zA}{H H':Hp}{l p:Addr}{xs G:List V}(h:SqT K H p xs)(B:H l=some (.lst G))(C:Chg l H H'):SqT K H' p xs:=by
 rcases h with(h|⟨o,h⟩)|h
 ·exact .inl (.inl (C _ _ (xt h B (by intro z;cases z)) h))
 ·exact .inl (.inr ⟨o,C _ _ (xt h B (by intro z;cases z)) h⟩)
 ·exact .inr h
section
variable {H H':Hp}{x dl gl:Addr}{ins:Nat}{us:List V}{ds:List Wd}{os:List V}{gs:List Go}
end
theorem j8 {H z B:Hp}{l:Addr}(n:H l=none)(s:Same H z)(c:Chg l z B):Same H B:=fun b o q=>c b o (zc q n) (s b o q)
section
variable {α:Type}{f:α->List V}{H0 H H':Hp}{p dl:Addr}{us:List V}{ds:List α}
theorem Chg.two {H z B:Hp}{p l:Addr}(c:Chg p H z)(n:H l=none)(d:Chg l z B):Chg p H B:=fun b o G q=>d b o (zc q n) (c b o G q)
end
section
variable {H:Hp}{w:Str}{a b d1 g1 d2 g2:Addr}{i1 i2:Nat}{u1 u2:List V}{s1 s2:List Wd}{o1 o2:List V}{t1 t2:List Go}{Q:VK}{E:XK}
end
theorem mvI_0 (s:Int):mvI s 0=0:=by
 unfold mvI;simp
section
variable {I ins l m:Nat}{f:Nat->Nat}{ds0 ds:List Wd}{gs0 gs:List Go}
end
structure HKs {α:Type} (K:zA) (f:α->List V) (H:Hp) (vs:List V) (xs:List α):Prop where
 len:vs.length=xs.length
 at_:∀(k:Nat) (x:α),xs[k]? = some x->∃p:Addr,vs[k]? = some (.ref p)/\SqT K H p (f x)
section
variable {α:Type}{K:zA}{f:α->List V}{H H':Hp}{vs us:List V}{xs:List α}{l:Addr}
theorem HKs.same (h:HKs K f H vs xs)(s:Same H H'):HKs K f H' vs xs:=⟨h.len,fun k d e=>by
 obtain⟨x,z,B⟩:=h.at_ k d e
 exact⟨x,z,s.seqT B⟩⟩
theorem HKs.chgL (h:HKs K f H vs xs)(z:H l=some (.lst us))(c:Chg l H H'):HKs K f H' vs xs:=⟨h.len,fun k d e=>by
 obtain⟨x,B,G⟩:=h.at_ k d e
 exact⟨x,B,sqT_chg G z c⟩⟩
theorem hks_nil:HKs K f H [] []:=⟨rfl,fun k d h=>by simp at h⟩
theorem HKs.snoc {x:α}{p:Addr}(h:HKs K f H vs xs)(O:SqT K H p (f x)):HKs K f H (vs++[.ref p]) (xs++[x]):=by
 refine⟨by simp[h.len],fun k e G=>?_⟩;rcases get_snoc G with⟨B,z⟩|⟨B,rfl⟩
 ·obtain⟨y,J,M⟩:=h.at_ k e z;exact⟨y,by rw[qH (by rw[h.len];exact B)];exact J,M⟩
 ·refine⟨p,?_,O⟩;rw[qG (by rw[h.len];omega),h.len,B,xU];rfl
end
def sT (n:Nat):List V:=[.int n,.int 0,.int 1]
section
variable {X:Cx}
end
section
variable {K:zA}{σ:St}{H:Hp}{Q:VK}{cs:List Nat}{te:TE}
end
section
variable {c:Bool}{i1 i2:Nat}{s1 s2:List Wd}{t1 t2:List Go}
end
section
variable {K:zA}{σ:St}{H:Hp}{Q:VK}{cs:List Nat}{te:TE}
end
def Rise (xs:Array Nat):Prop:=∀i j (B:i<xs.size) (z:j<xs.size),i<j->xs[i]<xs[j]
theorem below_go {xs:Array Nat}(R:Rise xs)(j:Nat):∀(fuel lo B:Nat),lo<=B->B<=xs.size->B-lo<=fuel->(∀i (h:i<xs.size),i<lo->xs[i]<j)->(∀i (h:i<xs.size),B<=i->j<=xs[i]) ->
  (SetTable.below.go xs j fuel lo B<=xs.size/\(∀i (h:i<xs.size),i<SetTable.below.go xs j fuel lo B->xs[i]<j)/\∀i (h:i<xs.size),SetTable.below.go xs j fuel lo B<=i->j<=xs[i])
 |0,lo,B,h1,H,h3,J,M=>by
  have:lo=B:=by omega
  subst this
  exact⟨H,J,M⟩
 |fuel+1,lo,B,h1,H,h3,J,M=>by
  unfold SetTable.below.go
  by_cases z:lo<B
  ·rw[if_pos z]
   have O:(lo+B)/2<xs.size:=by omega
   have e:xs.getD ((lo+B)/2) j=xs[(lo+B)/2]:=by simp[O]
   dsimp only
   rw[e]
   by_cases y:xs[(lo+B)/2]<j
   ·rw[if_pos y]
    refine below_go R j fuel _ _ (by omega) H (by omega) (fun i G Y=>?_) M
    by_cases q:i=(lo+B)/2
    ·subst q;exact y
    ·exact Nat.lt_trans (R i _ G O (by omega)) y
   ·rw[if_neg y]
    refine below_go R j fuel _ _ (by omega) (by omega) (by omega) J (fun i G U=>?_)
    by_cases q:i=(lo+B)/2
    ·subst q;omega
    ·have:=R _ i O G (by omega)
     omega
  ·rw[if_neg z]
   have:lo=B:=by omega
   subst this
   exact⟨H,J,M⟩
theorem below_ok {xs:Array Nat}(R:Rise xs)(j:Nat):SetTable.below xs j<=xs.size/\(∀i (h:i<xs.size),i<SetTable.below xs j->xs[i]<j)/\∀i (h:i<xs.size),SetTable.below xs j<=i->j<=xs[i]:=by
 unfold SetTable.below;exact below_go R j _ _ _ (by omega) (zC _) (by omega) (fun i _ h=>by omega) (fun i _ h=>by omega)
theorem insAt_get {G:Type}(xs:Array G){p:Nat}(x:G)(H:p<=xs.size)(i:Nat):(SetTable.insertAt xs p x)[i]? = if i<p then xs[i]? else if i=p then some x else xs[i-1]?:=by
 rw[<-zQ,SetTable.toList_insertAt];have lt:(xs.toList.take p).length=p:=by rw[qO,zD];omega
 by_cases z:i<p
 ·rw[if_pos z,qH (by rw[lt];exact z),yM z,zQ]
 ·rw[if_neg z];by_cases B:i=p
  ·rw[if_pos B,qG (by rw[lt];omega),lt,B,xU];rfl
  ·rw[if_neg B,qG (by rw[lt];omega),lt,show i-p=(i-1-p)+1 by omega,xM,yQ,zQ]
   congr 1
   omega
theorem rise_ins {xs:Array Nat}{j:Nat}(R:Rise xs)(hj:xs[SetTable.below xs j]? ≠ some j):Rise (SetTable.insertAt xs (SetTable.below xs j) j):=by
 obtain⟨M,Y,b3⟩:=below_ok R j;generalize SetTable.below xs j=p at M Y b3 hj;intro i k hi hk J;have B:=insAt_get xs j M i;have z:=insAt_get xs j M k;rw[zd hi]at B;rw[zd hk]at z;generalize (SetTable.insertAt xs p j)[i]=u at B;generalize (SetTable.insertAt xs p j)[k]=v at z;have get:∀{m w:Nat},some w=xs[m]? -> ∃h:m<xs.size,xs[m]=w:=fun {m w} h=>by
  obtain⟨h1,h2⟩:=Array.getElem?_eq_some_iff.mp h.symm;exact⟨h1,h2⟩
 by_cases O:i<p
 ·rw[if_pos O]at B;obtain⟨H,rfl⟩:=get B;by_cases k1:k<p
  ·rw[if_pos k1]at z;obtain⟨G,rfl⟩:=get z;exact R i k H G J
  ·rw[if_neg k1]at z;by_cases k2:k=p
   ·rw[if_pos k2]at z;cases z
    exact Y i H O
   ·rw[if_neg k2]at z;obtain⟨G,rfl⟩:=get z;exact R i (k-1) H G (by omega)
 ·rw[if_neg O]at B;by_cases i2:i=p
  ·rw[if_pos i2]at B;cases B
   rw[if_neg (by omega),if_neg (by omega)]at z;obtain⟨G,rfl⟩:=get z;have U:p<xs.size:=by omega
   have h1:j<=xs[p]:=b3 p U (zC _);have h2:xs[p]≠j:=fun e=>hj (by rw[zd U,e]);by_cases q:k-1=p
   ·simp only[q];omega
   ·have:=R p (k-1) U G (by omega);omega
  ·rw[if_neg i2]at B;rw[if_neg (by omega),if_neg (by omega)]at z;obtain⟨H,rfl⟩:=get B;obtain⟨G,rfl⟩:=get z;exact R _ _ H G (by omega)
theorem rise_list {xs:List Nat}(h:xs.Pairwise (· < ·)):Rise xs.toArray:=fun i j G B z=>by
 simp only[List.getElem_toArray]
 exact List.pairwise_iff_getElem.mp h i j (by simpa using G) (by simpa using B) z
theorem rise_range (n:Nat):Rise (Array.range n):=fun i j G B z=>by
 simp only[Array.getElem_range]
 exact z
structure TabZ (led:Bool) (t:SetTable):Prop where
 rise:Rise t.place
 dum:t.dummies = #[]
 led_:t.led=led
theorem tabZ_fresh (led:Bool):TabZ led (.fresh 0 0 led):=⟨fun i j z=>by simp[SetTable.fresh]at z,rfl,rfl⟩
theorem TabZ.stand {led:Bool}{t:SetTable}(h:TabZ led t)(n:Nat):TabZ led (t.standIn n):=⟨rise_range n,rfl,h.led_⟩
theorem TabZ.orStand {led:Bool}{t:SetTable}(h:TabZ led t)(n:Nat):TabZ led (t.orStandIn n):=by
 unfold SetTable.orStandIn;split
 ·exact h
 ·exact h.stand n
theorem has_nil (j:Nat):SetTable.has #[] j=false:=by
 unfold SetTable.has;simp
theorem probe_go {led:Bool}{t:SetTable}(h:TabZ led t)(f:Nat->Int)(x:Int):∀(fuel:Nat) (p:SetTable.Probe) (m:SetTable.Met),p.dummy=none->SetTable.probe.go t f x fuel p=some m->(∀i,(f i==x)=false)->∃j,m=.empty j none/\t.slot j=.empty
 |0,p,m,_,e,_=>by cases e
 |fuel+1,p,m,B,e,G=>by
  unfold SetTable.probe.go at e
  cases z:t.slot p.j with
  |empty =>
   rw[z]at e
   cases e
   exact⟨p.j,by rw[B],z⟩
  |dummy =>
   exfalso
   unfold SetTable.slot at z
   dsimp only at z
   split at z
   ·cases z
   ·rw[h.dum,has_nil]at z
    cases z
  |live i =>
   rw[z]at e
   dsimp only at e
   rw[G i]at e
   refine probe_go h f x fuel _ m ?_ e G
   unfold SetTable.advance
   split
   ·exact B
   ·exact B
theorem free_slot {led:Bool}{t:SetTable}(h:TabZ led t){x:Int}{j:Nat}{b:Bool}(e:t.freeSlot x=some (j,b)):b=false/\t.place[SetTable.below t.place j]? ≠ some j:=by
 unfold SetTable.freeSlot at e;cases G:t.probe (fun _=>x+1) x (t.probeStart x) with
 |none=>rw[G]at e;cases e
 |some m =>
  obtain⟨H,rfl,B⟩:=probe_go h _ _ _ _ _ rfl G (fun _=>by simp;omega);rw[G]at e;cases e
  refine⟨rfl,fun z=>?_⟩;unfold SetTable.slot at B;dsimp only at B;rw[Option.getD_none]at z;rw[z]at B;simp at B
theorem layNew_z {led:Bool}{t:SetTable}(h:TabZ led t)(es:Array (Int×Value))(x:Int)(v:Value):TabZ led (layNew t es x v).2.1:=by
 unfold layNew;cases z:t.freeSlot x with
 |none=>exact h.stand _
 |some q =>
  obtain⟨j,b⟩:=q;obtain⟨rfl,B⟩:=free_slot h z;have G:TabZ led (t.put j).1:=by
   refine⟨rise_ins h.rise B,?_,h.led_⟩;show(if SetTable.has t.dummies j=true then _ else t.dummies) = #[]
   rw[h.dum,has_nil];rfl
  exact G.orStand _
theorem rise_live (owner:Array (Option Nat))(n:Nat):((((zp n).filterMap fun j=>(owner.getD j none).map (j,·)).map (·.1))).Pairwise (· < ·):=by
 rw[List.pairwise_map];refine xE.filterMap _ (R:=(· < ·)) (fun a M G b B O z=>?_) List.pairwise_lt_range;cases J:owner.getD a none with
 |none=>rw[J]at B;cases B
 |some u =>
  cases H:owner.getD M none with
  |none=>rw[H]at z;cases z
  |some v =>
   rw[J]at B;rw[H]at z;cases B
   cases z
   exact G
theorem relay_z {led:Bool}{t:SetTable}(h:TabZ led t)(es:Array (Int×Value))(n:Nat):TabZ led (relayAll t es n).2.1:=by
 unfold relayAll;cases z:t.relaid (es.map (·.1)) n with
 |none=>exact h.stand _
 |some q =>
  obtain⟨H,o⟩:=q;dsimp only;split
  ·unfold SetTable.relaid SetTable.laid at z;cases B:SetTable.layClean (SetTable.sizeAbove n-1) (es.map (·.1)) with
   |none=>rw[B]at z;cases z
   |some G =>
    rw[B]at z;cases z
    exact⟨rise_list (rise_live G _),rfl,h.led_⟩
  ·exact h.stand _
def keyZ (e:Int×Value):Int:=match e.2 with
 |.int k _=>k
 |_=>0
abbrev yC (es:Array (Int×Value)) (ep:Nat) (t:SetTable):Obj:={ cls:=.type "set",dict:=none,data:=.set es ep t }
def EntZ (es:List (Int×Value)):Prop:=∀e∈es,∃k tk,e=(hashInt k,Value.int k tk)
structure SetO (led:Bool) (es:Array (Int×Value)) (t:SetTable) (ks:List Int):Prop where
 ent:EntZ es.toList
 perm:(es.toList.map keyZ).Perm ks
 nd:ks.Nodup
 sm:es.size<scanBound
 fit:t.fits es.size=true
 tab:TabZ led t
def SetZ (led:Bool)(h:Heap)(a:Addr)(ks:List Int):Prop:=∃z B t,h.get? a=some (yC z B t)/\SetO led z t ks
theorem EntZ.elems {prog:Program}{w:World}{l:List (Int×Value)}(h:EntZ l):ElemsOf (intKind prog w) l:=fun e z=>by
 obtain⟨k,tk,rfl⟩:=h e z
 exact⟨⟨k,intKind_is _ _ _ _,rfl⟩,rfl⟩
theorem isInt_key {e:Int×Value}{k:Int}(h:∃k tk,e=(hashInt k,Value.int k tk)):Value.isInt k e.2=decide (keyZ e=k):=by
 obtain⟨z,tk,rfl⟩:=h;show(z==k)=decide (z=k)
 cases B:decide (z=k) with
 |true=>exact beq_iff_eq.mpr (of_decide_eq_true B)
 |false=>exact beq_eq_false_iff_ne.mpr (of_decide_eq_false B)
theorem SetO.len {led:Bool}{es:Array (Int×Value)}{t:SetTable}{ks:List Int}(h:SetO led es t ks):es.size=ks.length:=by
 have:=h.perm.length_eq;rw[qC,zD]at this;exact this
section
variable {prog:Program}{w:World}{A:Around}{E:Value->Shared->Prop}{s:Shared}
theorem put_at {h:Heap}{a:Addr}{es z:Array (Int×Value)}{ep:Nat}{t t':SetTable}(B:h.get? a=some (yC es ep t)):(h.update a (Obj.putSet z t')).get? a=some (yC z (ep+1) t'):=by
 have q:=Heap.get?_update_self (Obj.putSet z t') B (by rw[putSet_of z t' rfl];rfl);rw[putSet_of z t' rfl]at q;exact q
theorem tail_z {g:Bool->Sem Unit}(hg:∀(b:Bool) (G:Shared) (Q':Unit->Shared->Prop),Q' () G->wpAny (model prog w) A (g b) Q' E G)
  {led wd:Bool} {a:Addr} {es z:Array (Int×Value)} {ep:Nat} {t B:SetTable} {ks:List Int} {R:Option Bool->Shared->Prop} (U:s.heap.get? a=some (yC es ep t)) (Z:SetO led z B ks)
  (h:∀M,Heap.SameBut a s.heap M->SetZ led M a ks->R (some true) { s with heap:=M }) :
  wpAny (model prog w) A (do
    storeSet a z B
    if (!wd&&B.tooFull)=true then do
      g (relayAll B z (SetTable.grown z.size)).2.2
      storeSet a (relayAll B z (SetTable.grown z.size)).1 (relayAll B z (SetTable.grown z.size)).2.1
      pure (some true)
     else pure (some true)) R E s:=by
 refine wpAny_bind (wpAny_storeSet_of U rfl ?_ (fits_of_scanBound Z.sm));have J:(s.heap.update a (Obj.putSet z B)).get? a=some (yC z (ep+1) B):=put_at U;have b1:=Heap.SameBut.update s.heap a (Obj.putSet z B);split
 ·have O:=relay_z Z.tab z (SetTable.grown z.size);have H:=relayAll_perm B z (SetTable.grown z.size);have z3:=relayAll_fits B z (SetTable.grown z.size);generalize relayAll B z (SetTable.grown z.size)=Y at O H z3 ⊢;have sz:Y.1.size=z.size:=by
   have:=H.length_eq;rw[zD,zD]at this;exact this
  refine wpAny_bind (hg _ _ _ (wpAny_bind (wpAny_storeSet_of J rfl ?_ (fits_of_scanBound (by rw[sz];exact Z.sm)))));refine wpAny_pure (h _ (b1.trans (Heap.SameBut.update _ a _)) ⟨Y.1,_,Y.2.1,put_at J,fun e he=>Z.ent e (H.mem_iff.mp he),(H.map _).trans Z.perm,Z.nd,by rw[sz];exact Z.sm,z3,O⟩)
 ·exact wpAny_pure (h _ b1 ⟨z,_,B,J,Z⟩)
theorem setAdd_z {led:Bool}{a:Addr}{ks:List Int}{k:Int}{tk:Tok}{Q:Bool->Shared->Prop}(hS:SetZ led s.heap a ks)(hr:ks.length+1<scanBound)
  (h:∀(b:Bool) H,Heap.SameBut a s.heap H->SetZ led H a (step_dedup ks k)->Q b { s with heap:=H }):wpAny (model prog w) A (setAddHashed a (.int k tk) (hashInt k)) Q E s:=by
 obtain⟨G,ep,t,U,Z⟩:=hS;have el:=Z.ent.elems (prog:=prog) (w:=w);have ln:=Z.len;have any:ks.any (· == k)=true↔∃e∈G.toList,keyZ e=k:=by
  rw[xN];constructor
  ·rintro⟨x,hx,e⟩;obtain⟨y,hy,rfl⟩:=qP.mp (Z.perm.mem_iff.mpr hx);exact⟨y,hy,beq_iff_eq.mp e⟩
  ·rintro⟨e,J,rfl⟩;exact⟨keyZ e,Z.perm.mem_iff.mp (qP.mpr ⟨e,J,rfl⟩),beq_self_eq_true _⟩
 unfold setAddHashed setAddHashedIn;refine wpAny_holding (wpAny_bind (wpAny_setState_of U rfl Z.fit ?_));dsimp only;rw[byScan_of (x:=.int k tk) rfl Z.sm el];simp only[↓reduceIte];unfold setAddByScan;refine wpAny_bind (wpAny_bind (wpAny_rule (wpAny_bind ?_)));refine wpAny_setScan_of (knd:=intKind prog w) (k:=k) (intKind_is _ _ _ _) U rfl Z.fit el ?_;cases hf:List.findIdx? (fun e=>(intKind prog w).is k e.2) G.toList with
 |some j =>
  obtain⟨hj,pj,_⟩:=List.findIdx?_eq_some_iff_getElem.mp hf;have hk:keyZ G.toList[j]=k:=by
   have q:=(isInt_key (k:=k) (Z.ent _ (List.getElem_mem hj))).symm.trans pj;exact of_decide_eq_true q
  have ha:ks.any (· == k)=true:=any.mpr ⟨_,List.getElem_mem hj,hk⟩;dsimp only;refine wpAny_pure (wpAny_pure (h false s.heap (Heap.SameBut.refl a s.heap) ⟨G,ep,t,U,?_⟩));unfold step_dedup;rw[if_pos ha];exact Z
 |none =>
  have ha:¬ ks.any (· == k)=true:=fun z=>by
   obtain⟨e,J,hk⟩:=any.mp z;have q:=List.findIdx?_eq_none_iff.mp hf e J;rw[show(intKind prog w).is k e.2=decide (keyZ e=k) from isInt_key (Z.ent e J),decide_eq_true hk]at q;cases q
  have hd:step_dedup ks k=ks++[k]:=by unfold step_dedup;rw[if_neg ha]
  have M:=layNew_perm t G (hashInt k) (.int k tk);have n2:=layNew_fits t G (hashInt k) (.int k tk);have n3:=layNew_z Z.tab G (hashInt k) (.int k tk);dsimp only;generalize layNew t G (hashInt k) (.int k tk)=Y at M n2 n3 ⊢;obtain⟨O,t1,wd,gv⟩:=Y;dsimp only at M n2 n3 ⊢;rw[yB]at M;have sz:O.size=G.size+1:=by
   have:=M.length_eq;rw[zD,qF,zD]at this;exact this
  have Z1:SetO led O t1 (ks++[k]):=by
   refine⟨fun e J=>?_,?_,?_,by omega,n2,n3⟩
   ·rcases zE.mp (M.mem_iff.mp J) with z|z
    ·exact Z.ent e z
    ·exact⟨k,tk,zB.mp z⟩
   ·refine(M.map keyZ).trans ?_;rw[zo];exact Z.perm.append_right _
   ·rw[y7];refine⟨Z.nd,(by simp),fun x hx y hy e=>ha ?_⟩;rw[zB.mp hy]at e;subst e;exact xN.mpr ⟨x,hx,beq_self_eq_true _⟩
  have gw:∀(b:Bool) (B:Shared) (Q':Unit->Shared->Prop),Q' () B->wpAny (model prog w) A (match b with|true=>rule "set.scan.the-table-gave-way" |false=>pure ()) Q' E B:=fun b B Q' q=>by
   cases b
   ·exact wpAny_pure q
   ·exact wpAny_rule q
  refine wpAny_bind (gw _ _ _ ?_);split
  ·refine wpAny_bind ?_;rw[hashByValue_scannable 8 (x:=.int k tk) rfl];refine wpAny_pure ?_;refine tail_z gw U ?_ fun H sb q=>wpAny_pure (h _ H sb (by rw[hd];exact q));exact Z1
  ·refine wpAny_bind (wpAny_pure ?_);refine tail_z gw U ?_ fun H sb q=>wpAny_pure (h _ H sb (by rw[hd];exact q));exact Z1
end
def yX (w:World):Bool:=!w.params.followText "set-order"
theorem SetZ.keep {led:Bool}{h h':Heap}{a:Addr}{ks:List Int}(z:SetZ led h a ks)(k:∀o,h.get? a=some o->h'.get? a=some o):SetZ led h' a ks:=by
 obtain⟨H,G,t,B,Z⟩:=z;exact⟨H,G,t,k _ B,Z⟩
theorem setZ_new {led:Bool}{h:Heap}{a:Addr}(e:h.get? a=some (yC #[] 0 (.fresh 0 0 led))):SetZ led h a [] :=
 ⟨#[],0,_,e,fun x z=>(by simp at z),yu.refl _,List.nodup_nil,by decide,rfl,tabZ_fresh led⟩
theorem dedup_len (ks:List Int)(k:Int):(step_dedup ks k).length<=ks.length+1:=by
 unfold step_dedup;split
 ·omega
 ·rw[qF];exact zC _
theorem jp:∀(ns ks:List Int),(ns.foldl step_dedup ks).length<=ks.length+ns.length
 |[],ks=>zC _
 |n::ns,ks=>by
  have B:=jp ns (step_dedup ks n)
  have z:=dedup_len ks n
  rw[List.foldl_cons,zH]
  omega
section
variable {prog:Program}{w:World}{A:Around}{E:Value->Shared->Prop}{s:Shared}
theorem new_z (a:Value){Q₁:Value->Shared->Prop}(h:Q₁ (.ref s.heap.objs.size) { s with heap:=s.heap.push (yC #[] 0 (.fresh 0 0 (yX w))) }) :
  codeAny (model prog w) A (.call (.builtin "set.__new__") ⟨[.type "set",a],[]⟩) (wants Q₁ E) s:=by
 refine codeAny_of_tree ?_;show wpAny _ A.in1 (checkBuiltinCall "set.__new__" ⟨[.type "set",a],[]⟩ >>= fun _=>again (.builtin "set.__new__" ⟨[.type "set",a],[]⟩)) _ _ s
 refine wpAny_bind (wpAny_of_eq (PySem.F.newCall_set_1 a) (wpAny_pure ⟨plainId_quiet PySem.F.plain_set_new _,codeAny_builtin PySem.F.entry_set_new ?_⟩));rw[Around.under_plainId PySem.F.plain_set_new _];unfold Builtin.«set.__new__» Builtin.Frozenset.newClass;have z:=sub_set_self;obtain⟨G,g,d,tk,B⟩:=s;dsimp only
 wp_walk
 refine wpAny_askSetting (wpAny_pure ?_);dsimp only;simp only[newObj];exact wpAny_bind (wpAny_alloc (wpAny_pure (wpAny_pure h)))
end
section
variable {prog:Program}{w:World}{A:Around}{R:Result->Shared->Prop}{I:Addr}{fp wr:List Addr}{G:Array GenState->Array GenState->Prop}{P:Nat->Value->Prop}{St:Nat->Shared->Prop}
theorem loop_z {ns:List Int}(W:WalksS prog w A.in1 I fp wr G ns.length P St)(S:Addr)(J:S∉fp)(hv:∀i v,P i v->∃k t,ns[i]? = some k/\v=.int k t){led:Bool} :
  ∀(m i:Nat) (s:Shared) (ks:List Int),ns.length-i=m->i<=ns.length->St i s->SetZ led s.heap S ks->ks.length+m+1<scanBound ->
   (∀z,Moved (S::wr) G s z->SetZ led z.heap S ((ns.drop i).foldl step_dedup ks)->R (.ok (.ret .none)) z)->codeAny (model prog w) A (.builtin "set.update.loop" ⟨[.ref S,.ref I],[]⟩) R s:=by
 have O:S∉wr:=fun h=>J (W.sub _ h);have sub:∀b∈wr,b∈S::wr:=fun b H=>zM _ H;intro m;induction m with
 |zero =>
  intro i s ks hm hi st U H hR;have e:i=ns.length:=by omega
  subst e;refine codeAny_builtin F.entry_set_update_loop ?_;rw[Around.under_plainId F.plain_set_update_loop _];show wpAny _ A.in1 (pyNext (.ref I) >>= _) _ _ s
  refine wpAny_bind (W.done s _ _ st fun z M=>?_);show wpAny _ A.in1 (ret Value.none) _ _ z
  refine wpAny_pure (hR z (M.mono sub) ?_);rw[List.drop_length];exact U.keep fun o e=>M.heap S _ O e
 |succ m ih =>
  intro i s ks hm hi st U H hR;have B:i<ns.length:=by omega
  refine codeAny_builtin F.entry_set_update_loop ?_;rw[Around.under_plainId F.plain_set_update_loop _];show wpAny _ A.in1 (pyNext (.ref I) >>= _) _ _ s
  refine wpAny_bind (W.item i s _ _ B st fun v z hP st' M=>?_);obtain⟨k,t,hk,rfl⟩:=hv i v hP;have hz':SetZ led z.heap S ks:=U.keep fun o e=>M.heap S _ O e;show wpAny _ A.in1 (holding [Value.int k t] (setAdd S (.int k t)) >>= _) _ _ z
  refine wpAny_bind (wpAny_holding ?_);unfold setAdd;refine wpAny_holding (wpAny_bind ((intKind prog w).pyHash (k:=k) (intKind_is _ _ _ _) ?_));refine setAdd_z (s:={ z with toks:=z.toks+1 }) hz' (by omega) fun b h' sb hz2=>?_;have dl:=dedup_len ks k;refine wpAny_pure ⟨plainId_quiet F.plain_set_update_loop _,ih (i+1) _ (step_dedup ks k) (by omega) B (W.frame _ z _ _ st' (Nat.le_succ _) fun b H o e=>?_) hz2 (by omega) fun s'' Y hz3=>?_⟩
  ·rw[sb.2 b fun h:b=S=>J (by rw[<-h];exact H)];exact e
  ·refine hR s'' (Moved.trans W.gtrans ((M.mono sub).then_heap (Nat.le_succ _) fun b o H e=>?_) Y) ?_
   ·rw[sb.2 b fun h:b=S=>H (by rw[h];exact zJ)];exact e
   ·rw[yZ B,List.foldl_cons];rw[qA B]at hk;cases hk
    exact hz3
end
section
variable {prog:Program}{w:World}{A:Around}{E:Value->Shared->Prop}{s:Shared}
theorem callSet {arg:Value} {Q Q₁:Value->Shared->Prop} (hn:codeAny (model prog w) A.in1 (.call (.builtin "set.__new__") ⟨[.type "set",arg],[]⟩) (wants Q₁ E) s)
  (hx:∀H G,Q₁ H G->G.TypeIs H "set" /\ wpAny (model prog w) A.in1.in1 (Builtin.«set.__init__» ⟨[H,arg],[]⟩)
    (fun fin O=>match fin with|.done f=>wants (fun r z=>r=.none/\Q H z) E (.ok f) O|.again c'=>c'.quiet=true/\codeAny (model prog w) A.in1 c' (wants (fun r z=>r=.none/\Q H z) E) O) (fun e O=>wants (fun r z=>r=.none/\Q H z) E (.error e) O) G) :
  wpAny (model prog w) A (call (.type "set") [arg]) Q E s:=by
 obtain⟨c,tl,hmro⟩:=yf.mro;have a1:=yf.made;have a2:=yf.sub;refine wpAny_call (codeAny_of_tree ?_);show wpAny _ _ (callAny (.type "set") _) _ _ _
 refine wpAny_pure ⟨Code.quiet_builtin _ (by decide +kernel),codeAny_builtin PySem.F.entry_type_call ?_⟩;rw[Around.under_plain (weight_type_call_type "set" [arg] []) rfl];have a3:=yf.notType;have a4:=yf.canCreate;have a5:=PySem.F.typeCall_set_1 arg
 repeat (any_goals (first|assumption|wp_step))
 refine codeAny_mono hn fun r G Y=>?_;cases r with
 |error e=>exact Y
 |ok fl =>
  cases fl with
  |ret H =>
   obtain⟨hT,U⟩:=hx _ _ Y;have b1:=yf.init.lookup;have b2:=yf.init.bind H
   repeat (any_goals (first|assumption|wp_step))
   refine codeAny_mono (codeAny_call_builtin (R:=wants (fun r z=>r=.none/\Q H z) E) yf.init.plain PySem.F.entry_set_init (PySem.check_set_init_1 hT U)) fun M z B=>?_;cases M with
   |error e=>exact B
   |ok J =>
    cases J with
    |ret r =>
     obtain⟨rfl,hq⟩:=B
     repeat (any_goals (first|assumption|wp_step))
    |_=>exact B.elim
  |_=>exact Y.elim
theorem call_setZ {l:Addr}{vs:List Value}{ns:List Int}{Q:Value->Shared->Prop}(hh:A.handled=none)(hl:s.heap.IsList l vs.toArray)(hi:IntsAre vs ns)(hb:ns.length+1<scanBound)
  (h:∀(h':Heap) (tk:Nat),SetZ (yX w) h' s.heap.objs.size (ns.foldl step_dedup [])->(∀b o,s.heap.get? b=some o->h'.get? b=some o)->Q (.ref s.heap.objs.size) { s with heap:=h',toks:=tk }) :
  wpAny (model prog w) A (call (.type "set") [.ref l]) Q E s:=by
 have vl:vs.length=ns.length:=IntsAre.length hi;refine callSet (Q₁:=fun obj z=>obj=.ref s.heap.objs.size/\z = { s with heap:=s.heap.push (yC #[] 0 (.fresh 0 0 (yX w))) }) (new_z _ ⟨rfl,rfl⟩) fun obj z H=>?_;obtain⟨rfl,rfl⟩:=H;have hS:(s.heap.push (yC #[] 0 (.fresh 0 0 (yX w)))).get? s.heap.objs.size=some (yC #[] 0 (.fresh 0 0 (yX w))):=Heap.get?_push_size _ rfl;refine⟨⟨_,hS,rfl⟩,?_⟩;have J:(s.heap.push (yC #[] 0 (.fresh 0 0 (yX w)))).IsList l vs.toArray:=hl.push _;obtain⟨ol,M,G,nl,O⟩:=hl;have lS:l<s.heap.objs.size:=Heap.lt_size M;obtain⟨aj,af,aa,U⟩:=ol;simp only at G O;subst G;subst O;have ai:=Heap.get?_push_of_some (yC #[] 0 (.fresh 0 0 (yX w))) M;have f1:=PySem.F.sub_list_set;have f2:=PySem.F.sub_list_frozenset;have f3:(Value.type "list" == Value.type "dict")=false:=by decide
 unfold Builtin.«set.__init__» noKeywords Builtin.Frozenset.updateFrom;generalize ac:pyIter=PI
 wp_walk
 subst ac;refine wpAny_pyIter_list J ?_;refine wpAny_bind (wpAny_runValue ?_);have ae:l≠(s.heap.push (yC #[] 0 (.fresh 0 0 (yX w)))).objs.size:=by
  rw[Heap.size_push];exact zG (zn lS)
 have ag:s.heap.objs.size∉[(s.heap.push (yC #[] 0 (.fresh 0 0 (yX w)))).objs.size,l]:=by
  rw[Heap.size_push];simp only[zF,zL,or_false,not_or];exact⟨zG (xK _),xV lS⟩
 have W:=(Walks.list (prog:=prog) (w:=w) (A:=A.in1.in1.in1) (by simp[hh]) _ l ae vs.toArray).toS;rw[show vs.toArray.size=ns.length by rw[qM];exact vl]at W;refine loop_z W s.heap.objs.size ag (fun i v hv=>?_) (led:=yX w) ns.length 0 _ [] (by omega) (zT _) ⟨⟨_,Heap.get?_push_size _ rfl,rfl,rfl⟩,J.push _⟩ (setZ_new (Heap.get?_push_of_some _ hS)) (by simpa using hb) fun s' Y hz=>?_
 ·obtain⟨t,e⟩:=IntsAre.int_at hi i v (by simpa using hv);have il:i<ns.length:=by
   have:=(qB.mp (show vs[i]? = some v by simpa using hv)).1;omega
  exact⟨ns[i],t,qA il,by rw[e];simp[il]⟩
 ·obtain⟨h',g',d',ah,ad⟩:=s';have eg:g'=s.gens:=Y.gens;have ed:d'=s.drawn:=Y.drawn;have eo:ad=s.os:=Y.os;subst eg;subst ed;subst eo;show wpAny _ _ _ _ _ _
  refine wpAny_pure ?_;show wpAny _ _ (ret Value.none) _ _ _
  refine wpAny_pure ⟨rfl,h h' ah hz fun b o e=>?_⟩;have B:b<s.heap.objs.size:=Heap.lt_size e;refine Y.heap b o ?_ (Heap.get?_push_of_some _ (Heap.get?_push_of_some _ e));rw[Heap.size_push];simp only[zF,zL,or_false,not_or];exact⟨zG B,zG (zn B)⟩
end
theorem slot_si_next:Slot "set_iterator" "__next__" "set_iterator.__next__" :=
 .of (owner:="set_iterator") (n:="__next__") (by rw[typeLookup_type,builtinLookup_eq_fast];kernel_rfl) (by decide +kernel) (by decide +kernel) (by decide +kernel) (by first|exact .inl (by decide +kernel)|exact .inr (by decide +kernel)) (by rw[isSubtype_type];kernel_rfl)
theorem xp:entryFor table "set_iterator.__next__" = some Builtin.«set_iterator.__next__»:=entryFor_of_tree (by kernel_rfl)
theorem jA (a:Value):argsOk "set_iterator.__next__" ⟨[a],[]⟩:=by unfold argsOk;kernel_rfl
theorem entry_si:entryFor table "set.__iter__" = some Builtin.«frozenset.__iter__»:=entryFor_alias (id':="frozenset.__iter__") (by kernel_rfl) rfl (by decide +kernel) (by kernel_rfl)
abbrev jq (f:Value) (i:Nat) (S:Addr) (n ep:Nat):Obj:={ cls:=.type "set_iterator",dict:=none,data:=.fields #[f,.int i 0,.ref S,.int n 0,.int ep 0] }
section
variable {prog:Program}{w:World}{A:Around}{E:Value->Shared->Prop}{s:Shared}{it S:Addr}{f:Value}{i n ep:Nat}{es:Array (Int×Value)}{t:SetTable}
theorem next_some {sl nx:Nat}{x:Value}{Q:Option Value->Shared->Prop}(z:s.heap.get? it=some (jq (.int sl 0) i S n ep))(hs:s.heap.get? S=some (yC es ep t))(fit:t.fits es.size=true)(U:es.size=n)
  (hx:∀(A:Around) (E:Value->Shared->Prop) (Q:Option (Value×Nat)->Shared->Prop),Q (some (x,nx)) s->wpAny (model prog w) A (setNext S sl i ep) Q E s)
  (Y:∀B,B.get? it=some (jq (.int nx 0) (i+1) S n ep)->Heap.SameBut it s.heap B->Q (some x) { s with heap:=B }):wpAny (model prog w) A (pyNext (.ref it)) Q E s:=by
 have G:s.TypeIs (.ref it) "set_iterator":=⟨_,z,rfl⟩;unfold pyNext;refine wpAny_bind (wpAny_attempt (wpAny_callSpecial?_slot (name:=Str.ofString "__next__") G slot_si_next (wpAny_call_entry slot_si_next G xp ?_ (jA _))));unfold Builtin.«set_iterator.__next__»;refine wpAny_bind (m:=slotArgs _ _ _) (wpAny_pure ?_);refine wpAny_bind (wpAny_fieldsOf z rfl ?_);dsimp only;refine wpAny_bind (wpAny_setEntries_of hs rfl fit ?_);rw[if_neg (by rw[U];simp)];refine wpAny_bind ?_;rw[zK,zK,zK];refine hx _ _ _ ?_;dsimp only;refine wpAny_bind (wpAny_setField_rec z (by show 0<5;decide) fun h1 o1 J=>?_);refine wpAny_bind (wpAny_setField_rec (s:={ s with heap:=h1 }) o1 (by show 1<5;decide) fun M O H=>?_);exact wpAny_pure ⟨_,rfl,wpAny_pure (Y M O (J.trans H))⟩
theorem stop_now {G:Heap}{Q:Option Value->Shared->Prop}{M:Value->Shared->Prop}(J:A.handled=none)(H:∀B,(∀b o,G.get? b=some o->B.get? b=some o)->Q none { s with heap:=B }) :
  wpAny (model prog w) A.in1 (newExc (.type "StopIteration") [] >>= fun e=>(raiseNew e:Sem Fin)) (fun fin z=>∃r,fin=.done (.ret r)/\M r z) (fun e z=>wpAny (model prog w) A (isInstance e (.type "StopIteration") >>= fun b=>if b=true then pure none else throw e) Q E z) { s with heap:=G }:=by
 refine wpAny_bind ?_;simp only[newExc,newTuple];refine wpAny_bind (wpAny_newObj_type ?_ (by size_fits));refine wpAny_bind (m:=firstArgMember _ _) (wpAny_of_eq (a:=Value.none) (by first|rfl|(simp only[firstArgMember];rfl)) ?_);refine wpAny_newObj_type ?_ (by size_fits);simp only[raiseNew];refine wpAny_bind (wpAny_handled ?_);rw[show A.in1.handled=none from J];refine wpAny_bind (wpAny_pure (wpAny_throw ?_));refine wpAny_bind (wpAny_isInstance (T:="StopIteration") (b:=true) ⟨_,Heap.get?_push_size _ rfl,rfl⟩ isSubtype_stop ?_);exact wpAny_pure (H _ fun b o e=>Heap.get?_push_of_some _ (Heap.get?_push_of_some _ e))
theorem next_none {sl:Nat}{Q:Option Value->Shared->Prop}(J:A.handled=none)(B:s.heap.get? it=some (jq (.int sl 0) i S n ep))(U:s.heap.get? S=some (yC es ep t))(fit:t.fits es.size=true)(M:es.size=n)
  (Y:∀(A:Around) (E:Value->Shared->Prop) (Q:Option (Value×Nat)->Shared->Prop),Q none s->wpAny (model prog w) A (setNext S sl i ep) Q E s)
  (O:∀z,(∀b o,b≠it->s.heap.get? b=some o->z.get? b=some o)->Q none { s with heap:=z }):wpAny (model prog w) A (pyNext (.ref it)) Q E s:=by
 have G:s.TypeIs (.ref it) "set_iterator":=⟨_,B,rfl⟩;unfold pyNext;refine wpAny_bind (wpAny_attempt (wpAny_callSpecial?_slot (name:=Str.ofString "__next__") G slot_si_next (wpAny_call_entry slot_si_next G xp ?_ (jA _))));unfold Builtin.«set_iterator.__next__»;refine wpAny_bind (m:=slotArgs _ _ _) (wpAny_pure ?_);refine wpAny_bind (wpAny_fieldsOf B rfl ?_);dsimp only;refine wpAny_bind (wpAny_setEntries_of U rfl fit ?_);rw[if_neg (by rw[M];simp)];refine wpAny_bind ?_;rw[zK,zK,zK];refine Y _ _ _ ?_;dsimp only;refine wpAny_bind (wpAny_setField_rec B (by show 2<5;decide) fun h1 o1 H=>?_);exact stop_now (s:=s) J fun z k=>O z fun b o ne e=>k b o ((H.2 b ne).trans e)
theorem next_drawn {H:Addr}{O:Array Value}{j:Nat}{tk:Tok}{x:Int×Value}{Q:Option Value->Shared->Prop}(z:s.heap.get? it=some (jq (.ref H) i S n ep))(U:s.heap.get? S=some (yC es ep t))(fit:t.fits es.size=true)(hn:es.size=n)
  (ht:s.heap.IsTuple H O) (hp:O[i]? = some (.int j tk)) (hx:es[j]? = some x)
  (hQ:∀B,B.get? it=some (jq (.ref H) (i+1) S n ep)->Heap.SameBut it s.heap B->Q (some x.2) { s with heap:=B }):wpAny (model prog w) A (pyNext (.ref it)) Q E s:=by
 have M:s.TypeIs (.ref it) "set_iterator":=⟨_,z,rfl⟩;obtain⟨ot,J,_,nt,G⟩:=ht;unfold pyNext;refine wpAny_bind (wpAny_attempt (wpAny_callSpecial?_slot (name:=Str.ofString "__next__") M slot_si_next (wpAny_call_entry slot_si_next M xp ?_ (jA _))));unfold Builtin.«set_iterator.__next__»;refine wpAny_bind (m:=slotArgs _ _ _) (wpAny_pure ?_);refine wpAny_bind (wpAny_fieldsOf z rfl ?_);dsimp only;refine wpAny_bind (wpAny_setEntries_of U rfl fit ?_);rw[if_neg (by rw[hn];simp)];refine wpAny_bind (wpAny_seqItems J G ?_);dsimp only;rw[zK,hp];dsimp only;refine wpAny_bind ?_;unfold setNextDrawn;refine wpAny_bind (wpAny_setState_of U rfl fit ?_);dsimp only;rw[zK,zK,if_neg (by simp),hx];refine wpAny_pure ?_;refine wpAny_bind (wpAny_setField_rec z (by show 1<5;decide) fun h1 o1 Y=>?_);exact wpAny_pure ⟨_,rfl,wpAny_pure (hQ h1 o1 Y)⟩
theorem zAD {O:Addr}{M:Array Value}{Q:Option Value->Shared->Prop}(hh:A.handled=none)(B:s.heap.get? it=some (jq (.ref O) i S n ep))(hs:s.heap.get? S=some (yC es ep t))(fit:t.fits es.size=true)(hn:es.size=n)
  (ht:s.heap.IsTuple O M) (hp:M[i]? = none) (hQ:∀z,(∀b o,b≠it->s.heap.get? b=some o->z.get? b=some o)->Q none { s with heap:=z }):wpAny (model prog w) A (pyNext (.ref it)) Q E s:=by
 have J:s.TypeIs (.ref it) "set_iterator":=⟨_,B,rfl⟩;obtain⟨ot,H,_,nt,G⟩:=ht;unfold pyNext;refine wpAny_bind (wpAny_attempt (wpAny_callSpecial?_slot (name:=Str.ofString "__next__") J slot_si_next (wpAny_call_entry slot_si_next J xp ?_ (jA _))));unfold Builtin.«set_iterator.__next__»;refine wpAny_bind (m:=slotArgs _ _ _) (wpAny_pure ?_);refine wpAny_bind (wpAny_fieldsOf B rfl ?_);dsimp only;refine wpAny_bind (wpAny_setEntries_of hs rfl fit ?_);rw[if_neg (by rw[hn];simp)];refine wpAny_bind (wpAny_seqItems H G ?_);dsimp only;rw[zK,hp];dsimp only;refine wpAny_bind (wpAny_setField_rec B (by show 0<5;decide) fun h1 o1 Y=>?_);refine wpAny_bind (wpAny_setField_rec (s:={ s with heap:=h1 }) o1 (by show 2<5;decide) fun h2 o2 U=>?_);exact stop_now (s:=s) hh fun z k=>hQ z fun b o ne e=>k b o ((U.2 b ne).trans ((Y.2 b ne).trans e))
end
def jr (z:Array Nat)(i:Nat):Nat:=if i=0 then 0 else z.getD (i-1) 0+1
theorem below_slot {B:Array Nat}(R:Rise B){i:Nat}(hi:i<=B.size):SetTable.below B (jr B i)=i:=by
 obtain⟨M,G,J⟩:=below_ok R (jr B i);generalize hb:SetTable.below B (jr B i)=b at M G J;have U:∀k (h:k<B.size),B.getD k 0=B[k]:=fun k h=>by simp[h]
 by_cases z:i=0
 ·subst z;by_cases q:b=0
  ·exact q
  ·have:=G 0 (by omega) (by omega);unfold jr at this;rw[if_pos rfl]at this;omega
 ·have H:i-1<B.size:=by omega
  have O:jr B i=B[i-1]+1:=by unfold jr;rw[if_neg z,U _ H]
  rw[O]at G J;rcases Nat.lt_trichotomy b i with q|q|q
  ·have Y:=J b (by omega) (zC _);by_cases y:b=i-1
   ·subst y;omega
   ·have:=R b (i-1) (by omega) H (by omega);omega
  ·exact q
  ·have Y:=G i (by omega) q;have:=R (i-1) i H (by omega) (by omega);omega
theorem zAE {z:Type}{xs:List z}{j:Nat}(h:j<xs.length):(xs[j]::xs.eraseIdx j).Perm xs:=by
 have e:xs.take j++xs[j]::xs.drop (j+1)=xs:=by rw[<-yZ h,zj]
 rw[List.eraseIdx_eq_take_drop_succ];exact(List.perm_middle.symm).trans (yu.of_eq e)
theorem pick_go {B:Type}(nx:Nat->Nat):∀(fuel k:Nat) (left:List B) (out:Array B),left.length=fuel->((pickOrder.go nx fuel k left out).toList).Perm (out.toList++left)
 |0,k,left,out,h=>by
  have:left=[]:=zU h
  subst this
  rw[pickOrder.go,zv]
 |fuel+1,k,left,out,h=>by
  have z:nx k%left.length<left.length:=Nat.mod_lt _ (by omega)
  have e:=qA z
  rw[pickOrder.go,e]
  dsimp only
  refine(pick_go nx fuel (k+1) _ _ (by rw[List.length_eraseIdx_of_lt z];omega)).trans ?_
  rw[yB,zN]
  refine yu.append_left _ ?_
  exact zAE z
theorem pick_perm {z:Type}(nx:Nat->Nat)(xs:Array z):((pickOrder nx xs).toList).Perm xs.toList:=by
 unfold pickOrder;have:=pick_go nx xs.size 0 xs.toList #[] (by simp)
 simpa using this
section
variable {prog:Program}{w:World}{A:Around}{E:Value->Shared->Prop}{s:Shared}{S:Addr}{i ep:Nat}{es:Array (Int×Value)}{t:SetTable}{ks:List Int}
theorem JG {Q:Bool->Shared->Prop} (h:Q (w.params.followText "set-order") s):wpAny (model prog w) A setsByText Q E s:=by
 unfold setsByText;exact wpAny_bind (wpAny_askSetting (wpAny_pure h))
theorem setNext_p {Q:Option (Value×Nat)->Shared->Prop} (J:s.heap.get? S=some (yC es ep t)) (Z:SetO (yX w) es t ks) (B:w.params.followText "set-order" = false) (H:(!t.plain&&decide (es.size>1))=false) (hi:i<=es.size)
  (h:Q (if h:i<es.size then some (es[i].2,jr t.place (i+1)) else none) s):wpAny (model prog w) A (setNext S (jr t.place i) i ep) Q E s:=by
 have ps:t.place.size=es.size:=by
  have:=Z.fit;unfold SetTable.fits at this;simp at this;exact this.1
 have O:t.led=true:=by rw[Z.tab.led_];unfold yX;rw[B];rfl
 unfold setNext;refine wpAny_bind (wpAny_setState_of J rfl Z.fit ?_);dsimp only;refine wpAny_bind (JG ?_);rw[B,if_neg zI];show wpAny _ _ (if (!t.plain&&decide (es.size>1))=true then _ else _) _ _ _
 rw[if_neg (by rw[H];exact zI)];show wpAny _ _ ((if (!t.led && !es.isEmpty)=true then unsupported "set:maker-not-led" else pure ()) >>= _) _ _ _
 rw[O];refine wpAny_bind (wpAny_pure ?_);rw[below_slot Z.tab.rise (by omega)];refine wpAny_pure ?_;by_cases z:i<es.size
 ·rw[dif_pos z]at h;have U:es[i]? = some es[i]:=zd z;have G:i<t.place.size:=by omega
  have Y:t.place[i]? = some t.place[i]:=zd G;rw[U,Y];have M:jr t.place (i+1)=t.place[i]+1:=by
   unfold jr;rw[if_neg (by omega),Nat.add_sub_cancel];simp[G]
  rw[M]at h;exact h
 ·rw[dif_neg z]at h;rw[Array.getElem?_eq_none (by omega)];exact h
theorem setNext_t {Q:Option (Value×Nat)->Shared->Prop} (B:s.heap.get? S=some (yC es ep t)) (Z:SetO (yX w) es t ks) (z:w.params.followText "set-order" = true)
  (h:Q (((pickOrder (w.params.setOrder S ep) es)[i]?).map fun e=>(e.2,0)) s):wpAny (model prog w) A (setNext S 0 i ep) Q E s:=by
 unfold setNext;refine wpAny_bind (wpAny_setState_of B rfl Z.fit ?_);dsimp only;refine wpAny_bind (JG ?_);rw[z,if_pos rfl,if_neg (by simp)];refine wpAny_bind ?_;unfold setWalk;refine wpAny_bind (wpAny_setState_of B rfl Z.fit ?_);dsimp only;refine wpAny_bind (JG ?_);rw[z,if_pos rfl];refine wpAny_bind (wpAny_askSetting (wpAny_pure (wpAny_pure h)))
theorem choose_wp {src:Source}{n:Nat}{Q:Nat->Shared->Prop}(B:n≠0)(h:∀(j:Nat) (d:Drawn),j<n->Q j { s with drawn:=d }):wpAny (model prog w) A (choose src n) Q E s:=fun Γ p z=>by
 unfold choose
 rw[Sem.wp_choose]
 exact⟨B,h _ _ (Nat.mod_lt _ (by omega))⟩
theorem draw_wp {H:Type}{Q:List H->Shared->Prop}:∀(n:Nat) (xs:List H) (s:Shared),xs.length=n->(∀(J:List H) (d:Drawn),J.Perm xs->Q J { s with drawn:=d })->wpAny (model prog w) A (drawOrder n xs) Q E s
 |0,xs,s,B,h=>by
  have:xs=[]:=zU B
  subst this
  rw[drawOrder]
  exact wpAny_pure (h [] s.drawn (yu.refl _))
 |n+1,[],s,B,h=>by cases B
 |n+1,x::r,s,B,h=>by
  rw[drawOrder]
  ·refine wpAny_bind (choose_wp (by rw[B];omega) fun j d G=>?_)
   have e:=qA G
   rw[e]
   dsimp only
   refine wpAny_bind (draw_wp n _ _ (by rw[List.length_eraseIdx_of_lt G];omega) fun J O M=>wpAny_pure (h _ O ?_))
   exact(yu.cons _ M).trans (zAE G)
  ·intro z;cases z
end
theorem slot_siI:Slot "set_iterator" "__iter__" "set_iterator.__iter__" :=
 .of (owner:="set_iterator") (n:="__iter__") (by rw[typeLookup_type,builtinLookup_eq_fast];kernel_rfl) (by decide +kernel) (by decide +kernel) (by decide +kernel) (by first|exact .inl (by decide +kernel)|exact .inr (by decide +kernel)) (by rw[isSubtype_type];kernel_rfl)
theorem entry_siI:entryFor table "set_iterator.__iter__" = some Builtin.«dict_keyiterator.__iter__»:=entryFor_alias (id':="dict_keyiterator.__iter__") (by kernel_rfl) rfl (by decide +kernel) (by kernel_rfl)
theorem args_siI (a:Value):argsOk "set_iterator.__iter__" ⟨[a],[]⟩:=by unfold argsOk;kernel_rfl
theorem ints_of {es:List (Int×Value)}(h:EntZ es):IntsAre (es.map (·.2)) (es.map keyZ):=by
 induction es with
 |nil=>exact .nil
 |cons e r ih =>
  obtain⟨k,tk,rfl⟩:=h e zJ;exact .cons k tk (ih fun x z=>h x (zM _ z))
section
variable {prog:Program}{w:World}{A:Around}{E:Value->Shared->Prop}{s:Shared}{S it:Addr}{ep:Nat}{es:Array (Int×Value)}{t:SetTable}{ks:List Int}
theorem self_z {f:Value}{i n:Nat}{Q:Value->Shared->Prop}(B:s.heap.get? it=some (jq f i S n ep))(h:Q (.ref it) s):wpAny (model prog w) A (pyIter (.ref it)) Q E s:=by
 have z:s.TypeIs (.ref it) "set_iterator":=⟨_,B,rfl⟩;refine wpAny_pyIter_slot z slot_siI (wpAny_call_entry slot_siI z entry_siI ?_ (args_siI _));show wpAny _ _ (ret (.ref it)) _ _ s
 exact wpAny_pure ⟨_,rfl,"set_iterator",_,z,slot_si_next.lookup,h⟩
theorem walks_p (Y:A.handled=none) (ne:S≠it) (Z:SetO (yX w) es t ks) (G:w.params.followText "set-order" = false) (O:(!t.plain&&decide (es.size>1))=false) :
  Walks prog w A it [it,S] [it] (es.toList.map (·.2)).length (fun i v=>(es.toList.map (·.2))[i]? = some v) (fun i h=>i<=es.size/\h.get? it=some (jq (.int (jr t.place i) 0) i S es.size ep)/\h.get? S=some (yC es ep t)) where
 sub:=fun b G=>by simp at G;simp[G]
 frame:=fun i h J B k=>⟨B.1,k it (by simp) _ B.2.1,k S (by simp) _ B.2.2⟩
 item:=fun i s Q E M B H=>by
  rw[qC,zD]at M
  refine next_some (x:=es[i].2) (nx:=jr t.place (i+1)) B.2.1 B.2.2 Z.fit rfl (fun A E Q q=>setNext_p B.2.2 Z G O B.1 (by rw[dif_pos M];exact q)) fun J o1 U=>?_
  refine H _ J s.toks ?_ ⟨M,o1,(U.2 S ne).trans B.2.2⟩ fun b o G e=>(U.2 b fun z=>G (by simp[z])).trans e
  rw[qI,zQ,zd M]
  rfl
 done:=fun s Q E B H=>by
  rw[qC,zD]at B
  exact next_none Y B.2.1 B.2.2 Z.fit rfl (fun A E Q q=>setNext_p B.2.2 Z G O B.1 (by rw[dif_neg (yr _)];exact q)) fun J k=>H J s.toks fun b o G e=>k b o (fun z=>G (by simp[z])) e
 self:=fun i s Q E B H=>self_z B.2.1 H
theorem walks_t (U:A.handled=none) (ne:S≠it) (Z:SetO (yX w) es t ks) (G:w.params.followText "set-order" = true) :
  Walks prog w A it [it,S] [it] ((pickOrder (w.params.setOrder S ep) es).toList.map (·.2)).length (fun i v=>((pickOrder (w.params.setOrder S ep) es).toList.map (·.2))[i]? = some v) (fun i h=>h.get? it=some (jq (.int 0 0) i S es.size ep)/\h.get? S=some (yC es ep t)) where
 sub:=fun b G=>by simp at G;simp[G]
 frame:=fun i h J B k=>⟨k it (by simp) _ B.1,k S (by simp) _ B.2⟩
 item:=fun i s Q E O B H=>by
  rw[qC]at O
  have e:=qA O
  generalize (pickOrder (w.params.setOrder S ep) es).toList[i]=y at e
  refine next_some (sl:=0) (nx:=0) (x:=y.2) B.1 B.2 Z.fit rfl (fun A E Q q=>setNext_t B.2 Z G (by rw[<-zQ,e];exact q)) fun J Y M=>?_
  refine H _ J s.toks ?_ ⟨Y,(M.2 S ne).trans B.2⟩ fun b o G e=>(M.2 b fun z=>G (by simp[z])).trans e
  rw[qI,e]
  rfl
 done:=fun s Q E B H=>by
  refine next_none (sl:=0) U B.1 B.2 Z.fit rfl (fun A E Q q=>setNext_t B.2 Z G ?_) fun J k=>H J s.toks fun b o G e=>k b o (fun z=>G (by simp[z])) e
  rw[<-zQ,zX (by rw[qC];exact zC _)]
  exact q
 self:=fun i s Q E B H=>self_z B.1 H
theorem walks_d {J:Addr}{G:List Nat}(hh:A.handled=none)(ne:S≠it)(nt:J≠it)(Z:SetO (yX w) es t ks)(hj:G.Perm (zp es.size)) :
  Walks prog w A it [it,S,J] [it] (G.filterMap fun j=>(es[j]?).map (·.2)).length (fun i v=>(G.filterMap fun j=>(es[j]?).map (·.2))[i]? = some v)
   (fun i h=>h.get? it=some (jq (.ref J) i S es.size ep)/\h.get? S=some (yC es ep t)/\h.IsTuple J (G.map fun(j:Nat)=>rawInt j).toArray):=by
 have U:∀j∈G,j<es.size:=fun j h=>List.mem_range.mp (hj.mem_iff.mp h);have e0:G.filterMap (fun j=>(es[j]?).map (·.2))=G.map fun j=>(es.getD j (0,.none)).2:=by
  clear hj;induction G with
  |nil=>rfl
  |cons j r ih =>
   have:=U j zJ;rw[zO,<-ih fun x hx=>U x (zM _ hx),zt];simp[this]
 rw[e0];refine⟨fun b H=>by simp at H;simp[H],fun i h O B k=>⟨k it (by simp) _ B.1,k S (by simp) _ B.2.1,?_⟩,fun i s Q E Y B M=>?_,fun s Q E B M=>?_,fun i s Q E B M=>self_z B.1 M⟩
 ·obtain⟨o,ho,r⟩:=B.2.2;exact⟨o,k J (by simp) _ ho,r⟩
 ·rw[qC]at Y;have e:=qA Y;have hm:=U _ (List.getElem_mem Y);generalize G[i]=j at e hm;refine next_drawn (j:=j) (tk:=0) (x:=es[j]) B.1 B.2.1 Z.fit rfl B.2.2 (by simp[e,rawInt]) (zd hm) fun O o1 b1=>?_;refine M _ O s.toks ?_ ⟨o1,(b1.2 S ne).trans B.2.1,?_⟩ fun b o H e=>(b1.2 b fun z=>H (by simp[z])).trans e
  ·rw[qI,e];simp[hm]
  ·obtain⟨o,ho,r⟩:=B.2.2;exact⟨o,(b1.2 J nt).trans ho,r⟩
 ·refine zAD hh B.1 B.2.1 Z.fit rfl B.2.2 (by simp) fun O k=>M O s.toks fun b o H e=>k b o (fun z=>H (by simp[z])) e
theorem iter_z {Q:Value->Shared->Prop}(hh:A.handled=none)(G:s.heap.get? S=some (yC es ep t))(Z:SetO (yX w) es t ks)
  (h:∀(h':Heap) (d:Drawn) (it:Addr) (H:List Addr) (vs:List Value) (ns:List Int) (St:Nat->Heap->Prop),(∀b o,s.heap.get? b=some o->h'.get? b=some o)->s.heap.objs.size<=it->(∀b∈H,b=S\/(s.heap.objs.size<=b/\b<h'.objs.size))->it<h'.objs.size->IntsAre vs ns->ns.Perm ks ->
   Walks prog w A it H [it] vs.length (fun i v=>vs[i]? = some v) St->St 0 h'->Q (.ref it) { s with heap:=h',drawn:=d }):wpAny (model prog w) A (pyIter (.ref S)) Q E s:=by
 have hT:s.TypeIs (.ref S) "set":=⟨_,G,rfl⟩;have Sl:S<s.heap.objs.size:=Heap.lt_size G;refine wpAny_pyIter_slot hT PySem.F.slot_set_iter (wpAny_call_entry PySem.F.slot_set_iter hT entry_si ?_ (PySem.F.args_set_iter_1 _));unfold Builtin.«frozenset.__iter__» Builtin.Frozenset.slot0 Builtin.Frozenset.sizeOf;refine wpAny_bind (wpAny_pure ?_);refine wpAny_bind (wpAny_bind (wpAny_setEntries_of G rfl Z.fit (wpAny_pure ?_)));refine wpAny_bind ?_;unfold setDrawn;refine wpAny_bind (wpAny_setState_of G rfl Z.fit ?_);dsimp only;refine wpAny_bind (JG (wpAny_pure ?_));have fin:∀(B:Heap) (d:Drawn) (f:Value) (H:List Addr) (vs:List Value) (ns:List Int) (St:Nat->Heap->Prop),(∀b o,s.heap.get? b=some o->B.get? b=some o)->s.heap.objs.size<=B.objs.size->(∀b∈H,b=S\/(s.heap.objs.size<=b/\b<=B.objs.size)) ->
   IntsAre vs ns->ns.Perm ks->Walks prog w A B.objs.size H [B.objs.size] vs.length (fun i v=>vs[i]? = some v) St->St 0 (B.push (jq f 0 S es.size ep)) ->
   wpAny (model prog w) A.in1 (setEpoch S >>= fun e=>newFields "set_iterator" [f,rawInt 0,.ref S,rawInt es.size,rawInt e] >>= fun v=>ret v) (fun fin s'=>∃r,fin=.done (.ret r)/\∃T' r',s'.TypeIs r T'/\typeLookup (.type T') "__next__" = pure (some r')/\Q r s') E { s with heap:=B,drawn:=d }:=by
  intro B d f H vs ns St kp sz hfp hi hp W st;refine wpAny_bind (wpAny_setEpoch_of (kp _ _ G) rfl Z.fit ?_);unfold newFields;refine wpAny_bind (wpAny_newObj_type (wpAny_pure ⟨_,rfl,"set_iterator",_,⟨_,Heap.get?_push_size _ rfl,rfl⟩,slot_si_next.lookup,?_⟩) (by size_fits));exact h (B.push (jq f 0 S es.size ep)) d B.objs.size H vs ns St (fun b o e=>Heap.get?_push_of_some _ (kp b o e)) sz (fun b z=>(hfp b z).imp id fun q=>⟨q.1,by rw[Heap.size_push];exact Nat.lt_succ_of_le q.2⟩) (by rw[Heap.size_push];exact xK _) hi hp W st
 have O:S≠s.heap.objs.size:=zG Sl;by_cases z:w.params.followText "set-order" = true
 ·rw[z];have c1:(!true&&(!t.plain&&decide (es.size>1)))=false:=rfl;show wpAny _ _ (if (!true&&(!t.plain&&decide (es.size>1)))=true then _ else _) _ _ _
  rw[c1,if_neg zI];refine wpAny_bind (wpAny_pure ?_);have U:=pick_perm (w.params.setOrder S ep) es;have ent:EntZ (pickOrder (w.params.setOrder S ep) es).toList:=fun e Y=>Z.ent e (U.mem_iff.mp Y);exact fin s.heap s.drawn (.int 0 0) _ _ _ _ (fun _ _ e=>e) (zC _) (fun b z=>by
   simp only[zF,zL,or_false]at z;rcases z with e|e
   ·exact .inr ⟨jF e.symm,jF e⟩
   ·exact .inl e) (ints_of ent) ((U.map keyZ).trans Z.perm) (walks_t hh O Z z) ⟨Heap.get?_push_size _ rfl,Heap.get?_push_of_some _ G⟩
 ·have z:w.params.followText "set-order" = false:=by simpa using z
  rw[z];show wpAny _ _ (if (!false&&(!t.plain&&decide (es.size>1)))=true then _ else _) _ _ _
  by_cases M:(!t.plain&&decide (es.size>1))=true
  ·rw[M,if_pos (by rfl)];refine wpAny_bind (draw_wp (prog:=prog) (w:=w) es.size (zp es.size) s (yV) fun J d hj=>?_);refine wpAny_bind (wpAny_newTuple ?_ (by rw[qC,hj.length_eq,yV];exact fits_of_scanBound Z.sm));have nt:s.heap.objs.size≠(s.heap.push { cls:=.type "tuple",data:=.seq (J.map fun(j:Nat)=>rawInt j).toArray }).objs.size:=by rw[Heap.size_push];first|exact zG (xK _)|exact zG (zn Sl)
   have nS:S≠(s.heap.push { cls:=.type "tuple",data:=.seq (J.map fun(j:Nat)=>rawInt j).toArray }).objs.size:=by rw[Heap.size_push];first|exact zG (xK _)|exact zG (zn Sl)
   have e0:J.filterMap (fun j=>(es[j]?).map (·.2))=(J.filterMap (fun j=>es[j]?)).map (·.2):=by
    rw[List.map_filterMap]
   have U:(J.filterMap (fun j=>es[j]?)).Perm es.toList:=by
    have:=hj.filterMap (fun j=>es[j]?);rw[filterMap_getElem?_range]at this;exact this
   have ent:EntZ (J.filterMap (fun j=>es[j]?)):=fun e Y=>Z.ent e (U.mem_iff.mp Y);have ii:=ints_of ent;rw[<-e0]at ii;exact fin _ d (.ref s.heap.objs.size) _ _ _ _ (fun b o e=>Heap.get?_push_of_some _ e) (by rw[Heap.size_push];exact Nat.le_succ _) (fun b z=>by
    simp only[zF,zL,or_false]at z;rcases z with e|e|e
    ·exact .inr ⟨by rw[e,Heap.size_push];exact Nat.le_succ _,jF e⟩
    ·exact .inl e
    ·exact .inr ⟨jF e.symm,by rw[e,Heap.size_push];exact Nat.le_succ _⟩) ii ((U.map keyZ).trans Z.perm) (walks_d hh nS nt Z hj) ⟨Heap.get?_push_size _ rfl,Heap.get?_push_of_some _ (Heap.get?_push_of_some _ G),⟨_,Heap.get?_push_of_some _ (Heap.get?_push_size _ rfl),rfl,0,rfl⟩⟩
  ·have M:(!t.plain&&decide (es.size>1))=false:=by simpa using M
   rw[M,if_neg (by simp)];refine wpAny_bind (wpAny_pure ?_);exact fin s.heap s.drawn (.int 0 0) _ _ _ _ (fun _ _ e=>e) (zC _) (fun b z=>by
    simp only[zF,zL,or_false]at z;rcases z with e|e
    ·exact .inr ⟨jF e.symm,jF e⟩
    ·exact .inl e) (ints_of Z.ent) Z.perm (walks_p hh O Z z M) ⟨zT _,Heap.get?_push_size _ rfl,Heap.get?_push_of_some _ G⟩
end
structure Src (prog:Program) (w:World) (T:String) (r:Addr) (C:Nat->(Nat->Value->Prop)->Prop) (OK:Heap->Prop):Prop where
 ty:∀s:Shared,OK s.heap->s.TypeIs (.ref r) T
 keep:∀h h':Heap,OK h->(∀o,h.get? r=some o->h'.get? r=some o)->OK h'
 nl:(Value.type T==Value.type "list")=false
 nt:(Value.type T==Value.type "tuple")=false
 hint:∀(A:Around) (E:Value->Shared->Prop) (s:Shared) (Q:Bool->Shared->Prop),OK s.heap->Q false s->wpAny (model prog w) A (Builtin.List.listLengthHint (.ref r)) Q E s
 iter:∀(A:Around) (E:Value->Shared->Prop) (s:Shared) (Q:Value->Shared->Prop),A.handled=none->OK s.heap ->
  (∀(h':Heap) (d:Drawn) (it:Addr) (fp:List Addr) (n:Nat) (P:Nat->Value->Prop) (St:Nat->Heap->Prop),(∀b o,s.heap.get? b=some o->h'.get? b=some o)->s.heap.objs.size<=it->(∀b∈fp,b=r\/(s.heap.objs.size<=b/\b<h'.objs.size))->C n P ->
   Walks prog w A it fp [it] n P St->St 0 h'->Q (.ref it) { s with heap:=h',drawn:=d })->wpAny (model prog w) A (pyIter (.ref r)) Q E s
section
variable {prog:Program}{w:World}{A:Around}{E:Value->Shared->Prop}{s:Shared}{T:String}{r:Addr}{C:Nat->(Nat->Value->Prop)->Prop}{OK:Heap->Prop}
theorem ext_src {R:Result->Shared->Prop} (K:Src prog w T r C OK) (hC:∀n P,C n P->n<=sizeLine) (hh:A.handled=none) (hok:OK s.heap) (S:Addr) (U:S≠r) (res:Value) (hS:s.heap.get? S=some { cls:=.type "list",data:=.seq #[] 0 })
  (hR:∀h' d tk acc c n P,(∀b o,b≠S->s.heap.get? b=some o->h'.get? b=some o)->h'.get? S=some { cls:=.type "list",dict:=none,data:=.seq acc c,slots:=#[] }->C n P->ItemsOf P acc n->R (.ok (.ret res)) { s with heap:=h',drawn:=d,toks:=tk }) :
  wpAny (model prog w) A.in1 (Builtin.List.listExtendWith (.ref S) (.ref r) res) (fun fin J=>match fin with|.done f=>R (.ok f) J|.again c'=>c'.quiet=true/\codeAny (model prog w) A c' R J) (fun e J=>R (.error e) J) s:=by
 have Sl:S<s.heap.objs.size:=Heap.lt_size hS;unfold Builtin.List.listExtendWith;refine wpAny_bind (wpAny_typeOf (T:=T) (K.ty s hok) ?_);have h1:Builtin.List.listSameRef (.ref S) (.ref r)=false:=by simp[Builtin.List.listSameRef,U]
 simp only[h1,K.nl,K.nt,Bool.or_false,zq,if_false];refine wpAny_bind (K.iter A.in1 _ s _ hh hok fun h' d it fp n P St kp le hfp hc W st=>?_);have H:=kp _ _ hS;have Sit:S≠it:=zG (qJ Sl le);have nf:S∉fp:=fun hm=>by
  rcases hfp S hm with e|e
  ·exact U e
  ·exact absurd (qJ Sl e.1) (yr _)
 have key:∀(O:Heap) (c:Nat),St 0 O->(∀b o,b≠S->s.heap.get? b=some o->O.get? b=some o)->O.get? S=some { cls:=.type "list",data:=.seq #[] c }->codeAny (model prog w) A (.builtin "list.extend.loop" ⟨[.ref S,.ref it,res],[]⟩) R { s with heap:=O,drawn:=d }:=by
  intro O c st2 k2 B;refine codeAny_extend_loopS W.toS (hC n P hc) S nf res n 0 _ #[] c rfl (zT _) st2 B (ItemsOf.nil _) fun J acc c' mv hS' M=>?_;obtain⟨h3,g3,d3,tk3,os3⟩:=J;have eg:g3=s.gens:=mv.gens;have ed:d3=d:=mv.drawn;have eo:os3=s.os:=mv.os;subst eg;subst ed;subst eo;refine hR h3 d3 tk3 acc c' n P (fun b o G e=>mv.heap b o (fun hm=>?_) (k2 b o G e)) hS' hc M;rcases zF.mp hm with e'|hm
  ·exact G e'
  ·rw[zB.mp hm]at e;exact absurd (qJ (Heap.lt_size e) le) (yr _)
 refine wpAny_bind (wpAny_holding (K.hint _ _ _ _ (K.keep _ _ hok fun o e=>kp _ _ e) ?_));refine wpAny_ite_split (fun _=>?_) (fun _=>wpAny_pure ⟨plainId_quiet PySem.F.plain_extend_loop _,key _ 0 st (fun b o _ e=>kp b o e) H⟩);refine wpAny_bind (wpAny_rule (wpAny_bind ?_));show wpAny _ _ (updateSeq S (·.push .none) >>= fun _=>updateSeq S (·.pop)) _ _ _
 refine wpAny_bind (wpAny_updateSeq H rfl ?_);have B:=Heap.get?_update_self (Obj.mapSeq (·.push Value.none)) H rfl;refine wpAny_updateSeq (hz:=by seq_fits) B rfl ?_;have hS3:=Heap.get?_update_self (Obj.mapSeq (·.pop)) B rfl;refine wpAny_pure ⟨plainId_quiet PySem.F.plain_extend_loop _,key _ _ ?_ (fun b o G e=>?_) hS3⟩
 ·refine W.frame 0 _ _ st fun b G o e=>?_;have Y:b≠S:=fun z=>nf (z ▸ G);exact(Heap.get?_update_other _ _ (Ne.symm Y)).trans ((Heap.get?_update_other _ _ (Ne.symm Y)).trans e)
 ·exact(Heap.get?_update_other _ _ (Ne.symm G)).trans ((Heap.get?_update_other _ _ (Ne.symm G)).trans (kp b o e))
theorem coll_src {R:List Value->Shared->Prop}(K:Src prog w T r C OK)(hC:∀n P,C n P->n<=sizeLine)(hh:A.handled=none)(hok:OK s.heap)
  (h:∀G d tk (acc:Array Value) n P,(∀b o,s.heap.get? b=some o->G.get? b=some o)->s.heap.objs.size<G.objs.size->C n P->ItemsOf P acc n->R acc.toList { s with heap:=G,drawn:=d,toks:=tk }):wpAny (model prog w) A (collect (.ref r)) R E s:=by
 have rl:r<s.heap.objs.size:=by
  obtain⟨o,ho,_⟩:=K.ty s hok;exact Heap.lt_size ho
 unfold collect;refine wpAny_bind (wpAny_runValue (codeAny_builtin entry_proto_collect' ?_));rw[Around.under_plainId PySem.F.plain_proto_collect _];show wpAny _ A.in1 (newList [] >>= fun l=>again (.builtin "list.__iadd__" ⟨[l,.ref r],[]⟩)) _ _ s
 refine wpAny_bind (wpAny_newObj_type (wpAny_pure ⟨plainId_quiet jb _,codeAny_builtin entry_list_iadd' ?_⟩));rw[Around.under_plainId jb _];have O:(s.heap.push { cls:=.type "list",data:=.seq ([]:List Value).toArray }).get? s.heap.objs.size=some { cls:=.type "list",data:=.seq #[] }:=Heap.get?_push_size _ rfl;show wpAny _ A.in1 (Builtin.List.listExtendWith (.ref s.heap.objs.size) (.ref r) (.ref s.heap.objs.size)) _ _ _
 have key:=ext_src (A:=A) (s:={ s with heap:=s.heap.push { cls:=.type "list",data:=.seq ([]:List Value).toArray } })
  (R:=fun(q:Result) (M:Shared)=>∃G d tk acc c n P,q=.ok (.ret (.ref s.heap.objs.size))/\M = { s with heap:=G,drawn:=d,toks:=tk }/\(∀b o,s.heap.get? b=some o->G.get? b=some o)/\G.get? s.heap.objs.size=some { cls:=.type "list",dict:=none,data:=.seq acc c,slots:=#[] }/\C n P/\ItemsOf P acc n)
  K hC hh (K.keep _ _ hok fun o e=>Heap.get?_push_of_some _ e) s.heap.objs.size (xV rl) (.ref s.heap.objs.size) O
  (fun G d tk acc c n P J B H z=>⟨G,d,tk,acc,c,n,P,rfl,rfl,fun b o e=>J b o (zG (Heap.lt_size e)) (Heap.get?_push_of_some _ e),B,H,z⟩)
 refine wpAny_mono key (fun fin M x=>?_) fun e M x=>?_
 ·cases fin with
  |done f =>
   obtain⟨G,d,tk,acc,c,n,P,e,rfl,J,B,H,z⟩:=x;cases e
   show wpAny _ A (load s.heap.objs.size >>= _) _ _ _
   exact wpAny_bind (wpAny_load B (wpAny_pure (h G d tk acc n P J (Heap.lt_size B) H z)))
  |again U =>
   refine⟨x.1,codeAny_mono x.2 fun q Y y=>?_⟩;obtain⟨G,d,tk,acc,c,n,P,rfl,rfl,J,B,H,z⟩:=y;show wpAny _ A (load s.heap.objs.size >>= _) _ _ _
   exact wpAny_bind (wpAny_load B (wpAny_pure (h G d tk acc n P J (Heap.lt_size B) H z)))
 ·obtain⟨_,_,_,_,_,_,_,e',_⟩:=x;cases e'
theorem sort_src {Q:Value->Shared->Prop}{ks:List Int}(K:Src prog w T r C OK)(H:ks.length<64)(O:∀n P,C n P->n<=sizeLine/\∀acc:Array Value,ItemsOf P acc n->∃B,IntsAre acc.toList B/\B.Perm ks)(Y:A.handled=none)(hok:OK s.heap)
  (h:∀z d tk D c (vs:List Value) B,(∀b o,s.heap.get? b=some o->z.get? b=some o)->s.heap.objs.size<=D->z.get? D=some (seqObj "list" vs.toArray c)->IntsAre vs B->B.Perm ks->B.Pairwise (· <= ·)->Q (.ref D) { s with heap:=z,drawn:=d,toks:=tk }) :
  wpAny (model prog w) A (call (.builtin "sorted") [.ref r]) Q E s:=by
 refine Calls.call_function_entry kind_sorted plain_sorted entry_sorted (args_sorted1 _) ?_;unfold Builtin.«sorted»;refine wpAny_bind (m:=checkCount "sorted" 1 1 _) (wpAny_pure ?_);refine wpAny_bind (coll_src (A:=A.in1) K (fun n P c=>(O n P c).1) Y hok fun z d tk acc n P kp le hc hi=>?_);obtain⟨B,M,U⟩:=(O n P hc).2 acc hi;have al:acc.toList.length<64:=by rw[IntsAre.length M,U.length_eq];exact H
 refine wpAny_bind (wpAny_newList ?_ (zm (by omega)));have G:(z.push (seqObj "list" acc.toList.toArray 0)).get? z.objs.size=some (seqObj "list" acc.toList.toArray 0):=Heap.get?_push_size _ rfl;refine wpAny_bind (wpAny_holding (wpAny_call_entry slot_list_sort ⟨_,G,rfl⟩ entry_list_sort (list_sort_tree G M al fun out J a1 a2 a3=>⟨_,rfl,?_⟩) (args_list_sort _)));obtain⟨c,hD⟩:=sortedHeap_at (out:=out) G;refine wpAny_pure ⟨_,rfl,h _ d tk z.objs.size c out.toList J (fun b o e=>?_) (Nat.le_of_lt le) hD a1 (a2.trans U) a3⟩;have bl:=Heap.lt_size (kp b o e);rw[sortedHeap_old (zG bl) (by rw[size_push'];exact zn bl),Heap.get?_push_of_some _ (kp b o e)]
end
theorem hint_set {prog:Program} {w:World} {A:Around} {E:Value->Shared->Prop} {s:Shared} {r:Addr} {Q:Bool->Shared->Prop} (G:s.TypeIs (.ref r) "set") (h:Q false s):wpAny (model prog w) A (Builtin.List.listLengthHint (.ref r)) Q E s:=by
 unfold Builtin.List.listLengthHint;refine wpAny_bind (wpAny_specialOf G PySem.F.slot_set_len.lookup ?_);generalize z:("set.__len__" : String)=B
 wp_delta
 rw[show splitId B=some ("set","__len__") from by subst z;decide +kernel];subst z;refine wpAny_bind (wpAny_isInstance (T:="set") (b:=true) G (by rw[isSubtype_type];kernel_rfl) ?_);refine wpAny_ite_split (fun q=>absurd q (by decide)) (fun _=>wpAny_ite_split (fun _=>?_) (fun q=>absurd (by decide +kernel) q));exact wpAny_bind (wpAny_typeOf G (wpAny_pure h))
theorem src_set {prog:Program}{w:World}{r:Addr}{ks:List Int}:Src prog w "set" r (fun n P=>n=ks.length/\∃B H,B.length=n/\IntsAre B H/\H.Perm ks/\P=fun i v=>B[i]? = some v) (fun h=>SetZ (yX w) h r ks) where
 ty:=fun s ⟨U,Y,t,G,_⟩=>⟨_,G,rfl⟩
 keep:=fun h O z k=>z.keep k
 nl:=by decide
 nt:=by decide
 hint:=fun A E s Q z q=>by
  obtain⟨U,Y,t,G,_⟩:=z
  exact hint_set ⟨_,G,rfl⟩ q
 iter:=fun A E s Q hh z h=>by
  obtain⟨U,Y,t,G,Z⟩:=z
  refine iter_z hh G Z fun O d it fp B H St a1 a2 a3 a4 M J W st=>h O d it fp B.length _ St a1 a2 a3 ⟨?_,B,H,rfl,M,J,rfl⟩ W st
  rw[IntsAre.length M,J.length_eq]
theorem zAF:∀{vs:List Value} {ns:List Int},IntsAre vs ns->Vals (ns.map V.int) vs
 |_,_,.nil=>.nil
 |_,_,.cons n t r=>.cons ⟨t,rfl⟩ (zAF r)
theorem jX:∀{ns:List Int} {vs:List Value},Vals (ns.map V.int) vs->IntsAre vs ns
 |[],vs,h=>by cases h;exact .nil
 |n::ns,vs,h=>by
  cases h with
  |cons r t =>
   obtain⟨tk,rfl⟩:=r
   exact .cons n tk (jX t)
def sortI (ks:List Int):List Int:=ks.mergeSort (fun a b=>decide (a<=b))
theorem yD (ks:List Int):(sortI ks).Perm ks:=List.mergeSort_perm _ _
theorem y4 (ks:List Int):(sortI ks).Pairwise (· <= ·):=by
 have:=List.pairwise_mergeSort (le:=fun(a b:Int)=>decide (a<=b)) (fun a b c B z=>by simp at B z ⊢;omega) (fun a b=>by simp;omega) ks;exact this.imp fun h=>by simpa using h
theorem sortI_of {ns ks:List Int}(B:ns.Perm ks)(z:ns.Pairwise (· <= ·)):ns=sortI ks:=PySem.W.ksm_same (B.trans (yD ks).symm) z (y4 ks)
def SetE (w:World)(a:Addr)(ks:List Int):HO:=.ext (fun h=>SetZ (yX w) h a ks)
section
variable {X:Cx}
theorem Inv.drawn {pins:List (Addr×Obj)}{z:St}{H:Hp}{s:Shared}(I:Inv X pins z H s)(d:Drawn):Inv X pins z H { s with drawn:=d } :=
 ⟨I.ok,I.os,I.bare,I.base,I.loc,I.cell,I.free,I.freeC,I.pin,I.hok,I.len⟩
def rSetZ (w:World):List V->Hp->VK->Prop:=fun B H Q=>∃(p:Addr) (z:List Int),B=[.ref p]/\H p=some (.lst (z.map V.int))/\z.length<=4000/\∀a,H a=none->Q (.ref a) (upd H a (SetE w a (z.foldl step_dedup [])))
theorem call_setL (U:X.calm=true):CallR X (.type "set") (rSetZ X.w):=by
 intro pins s σ H xs us Q I r h;obtain⟨p,ns,rfl,hp,hl,q⟩:=h;obtain⟨u,rfl,G⟩:=jn r;cases G
 obtain⟨hz,B,c,Y,_,M⟩:=I.lstM hp;refine call_setZ (I.ok.hd U) (vs:=B) ⟨_,M,rfl,c,rfl⟩ (jX Y) (by unfold scanBound;omega) fun O tk z kp=>?_;refine⟨.ref s.heap.objs.size,_,I.laid (t':=tk) kp (zC _) ?_,rfl,q _ I.fresh⟩;show(SetZ (yX X.w) O s.heap.objs.size _)/\_
 refine⟨z,?_,fun h1 h2 J k=>J.keep k⟩;obtain⟨es,ep,t,e,_⟩:=z;exact⟨_,e⟩
def rSortS (w:World):List V->Hp->VK->Prop:=fun B H Q=>∃(a:Addr) (z:List Int),B=[.ref a]/\H a=some (SetE w a z)/\z.length<64/\∀l,H l=none->Q (.ref l) (upd H l (.lst ((sortI z).map V.int)))
theorem J4 {pins:List (Addr×Obj)}{B:St}{H:Hp}{s:Shared}{Q:VK}{h':Heap}{d:Drawn}{tk D c:Nat}{vs:List Value}{ns ks:List Int}(I:Inv X pins B H s)(kp:∀b o,s.heap.get? b=some o->h'.get? b=some o)(le:s.heap.objs.size<=D)
  (M:h'.get? D=some (seqObj "list" vs.toArray c)) (U:IntsAre vs ns) (z:ns.Perm ks) (G:ns.Pairwise (· <= ·)) (O:ks.length<64) (q:∀l,H l=none->Q (.ref l) (upd H l (.lst ((sortI ks).map V.int)))):EP X pins B Q (.ref D) { s with heap:=h',drawn:=d,toks:=tk }:=by
 have e:=sortI_of z G;subst e;have J:((sortI ks).map V.int).length<=sizeLine:=by rw[qC,z.length_eq];exact zm (by omega)
 exact⟨.ref D,_,(I.laid (t':=tk) kp le (show ObjOk X.prog X.w _ h' D (.lst ((sortI ks).map V.int)) from⟨J,vs,c,zAF U,M⟩)).drawn d,rfl,q D (I.hok.fresh le)⟩
theorem call_sortS (hc:X.calm=true):CallR X (.builtin "sorted") (rSortS X.w):=by
 intro pins s σ H xs us Q I r h;obtain⟨a,M,rfl,ha,B,q⟩:=h;obtain⟨u,rfl,ru⟩:=jn r;cases ru
 have z:SetZ (yX X.w) s.heap a M:=(I.hok a _ ha).1;refine sort_src (ks:=M) src_set B ?_ (I.ok.hd hc) z fun h' d tk D c U Y kp le hD G J ho=>J4 I kp le hD G J ho B q;rintro n P ⟨rfl,U,Y,hl,G,J,rfl⟩;refine⟨zm (by omega),fun acc O=>⟨Y,?_,J⟩⟩;have:acc.toList=U:=by
  apply yn;intro i;by_cases z:i<acc.size
  ·have e:=O.2 i _ (zd z);rw[zQ,zd z,e]
  ·rw[zQ,Array.getElem?_eq_none (by omega),zX (by rw[hl,<-O.1];omega)]
 rw[this];exact G
theorem Jt (w:World)(z:X.calm=true)(h:X.w=w:=by rfl):CallR X (.type "set") (rSetZ w):=by subst h;exact call_setL z
theorem call_sortW (w:World)(z:X.calm=true)(h:X.w=w:=by rfl):CallR X (.builtin "sorted") (rSortS w):=by subst h;exact call_sortS z
end
theorem dedup_if (ks:List Int)(k:Int):step_dedup ks k=if k∈ks then ks else ks++[k]:=by
 unfold step_dedup;by_cases h:k∈ks
 ·have e:(ks.any fun x=>x==k)=true:=xN.mpr ⟨k,h,beq_self_eq_true _⟩;rw[if_pos h,if_pos e]
 ·rw[if_neg h,if_neg];intro z;obtain⟨x,B,e⟩:=xN.mp z;rw[beq_iff_eq.mp e]at B;exact h B
def ded (xs:List Int):List Int:=xs.foldl step_dedup []
theorem jY (xs:List Int)(x:Int):ded (xs++[x])=if x∈ded xs then ded xs else ded xs++[x]:=by
 unfold ded;rw[List.foldl_append];exact dedup_if _ _
theorem ded_len (xs:List Int):(ded xs).length<=xs.length:=by
 have:=jp xs [];unfold ded
 simpa using this
theorem jB (xs:List Int)(x:Int):x∈ded xs↔x∈xs:=by
 refine j6 (p:=fun xs=>x∈ded xs↔x∈xs) (by simp[ded]) (fun B y ih=>?_) xs;rw[jY];by_cases h:y∈ded B
 ·rw[if_pos h,ih,zE,zB];exact⟨.inl,fun z=>z.elim id fun e=>ih.mp (e ▸ h)⟩
 ·rw[if_neg h,zE,zE,ih]
def wantC (xs:List Int):List Int:=(xs.map coreN).filter fun c=>decide (1<c)
def gtV:V->Option V:=fun x=>match x with
 |.int n=>if 1<n then some (.int n) else none
 |_=>none
theorem gtV_map:∀z:List Int,(z.map V.int).filterMap gtV=(z.filter fun c=>decide (1<c)).map V.int
 |[]=>rfl
 |x::r=>by
  have e:gtV (.int x)=if 1<x then some (.int x) else none:=rfl
  rw[zO,zt,e]
  by_cases h:1<x
  ·rw[if_pos h,List.filter_cons_of_pos (by simpa using h),zO,<-gtV_map r]
  ·rw[if_neg h,List.filter_cons_of_neg (by simpa using h),<-gtV_map r]
theorem sortI_len (ks:List Int):(sortI ks).length=ks.length:=(yD ks).length_eq
def spWanted:Sp:=fun G H Q _=>∃(a:Addr) (B:List Int),G=[.ref a]/\H a=some (.lst (B.map V.int))/\B.length<=60/\∀l z,H l=none->Same H z->z l=some (.lst ((sortI (ded (wantC B))).map V.int))->Q (.ref l) z
section
variable {ins:Nat}{ds:List Wd}
end
section
variable {ins:Nat}{ds:List Wd}{j lo:Nat}{far:List Int}
end
section
variable {K:zA}{σ:St}{H:Hp}{Q:VK}{cs:List Nat}{te:TE}
end
section
variable {K:zA}{σ:St}{H:Hp}{Q:VK}{cs:List Nat}{tt:TT}{te:TE}
end
def tFrz (G:TE):TE:=fun J H Q=>G J H fun x B=>∃d z,x=.ref d/\B d=some (.dK z)/\∀o,Q x (upd B d (.frz o (.dK z)))
theorem w_frz {B:TE}{G:St}{H:Hp}{Q:VK}:tFrz B G H Q=(B G H fun x J=>∃d z,x=.ref d/\J d=some (.dK z)/\∀o,Q x (upd J d (.frz o (.dK z)))):=rfl
section
variable {X:Cx}
theorem pe_frz {e:Expr}{M:TE}(he:PE X e M):PE X e (tFrz M):=by
 intro pins s U H Q I h;refine thn (he pins s U H _ I h) fun v B ⟨x,H1,Y,r1,q1⟩=>?_;obtain⟨d,G,rfl,O,q⟩:=q1;have ok:=Y.hok d _ O;obtain⟨z,lo,vs,rel,dd⟩:=id ok;obtain⟨ep,o,es,J,_⟩:=dd.dictAt;have I2:Inv X pins U (upd H1 d (.frz o (.dK G))) { B with heap:=B.heap,toks:=B.toks }:=Y.write (by rw[O];trivial) (.inl rfl) (fun b u _ e=>e) ⟨o,J⟩ ⟨J,ok⟩;exact⟨.ref d,_,I2,r1,q o⟩
def ItD (d:Addr)(o:Obj)(z:List (Key×V)):It :=
 ⟨fun i H=>H d=some (.frz o (.dK z))/\i<z.length,fun i H x B=>B=H/\(z.map fun q=>kV q.1)[i]? = some x,fun i H=>H d=some (.frz o (.dK z))/\z.length<=i⟩
theorem kv_len:∀{a:List (Key×V)} {b:List (Key×Value)},KV a b->a.length=b.length:=by
 intro a b r;induction r with
 |nil=>rfl
 |cons _ _ ih=>simp[ih]
theorem kv_at:∀{a:List (Key×V)} {b:List (Key×Value)},KV a b->∀{i:Nat} {k:Key} {x:Value},b[i]? = some (k,x)->∃v,a[i]? = some (k,v):=by
 intro a b r;induction r with
 |nil=>intro i k x h;simp at h
 |@cons p q _ _ h _ ih =>
  intro i k x e;cases i with
  |zero =>
   simp only[zr,Option.some.injEq]at e;subst e;refine⟨p.2,?_⟩;simp only[zr,Option.some.injEq];exact Prod.ext h.1 rfl
  |succ i=>exact ih (by simpa using e)
theorem frz_at {P:Program}{w:World}{H:Hp}{h:Heap}{d:Addr}{o:Obj}{G:List (Key×V)}(ok:HOk P w H h)(e:H d=some (.frz o (.dK G))):h.get? d=some o/\(d==sysModules)=false/\∃U O Y,KV G U/\o.data=.dict Y O/\h.DictAt (yl P w) d U O:=by
 obtain⟨ho,z,lo,U,rel,dd⟩:=ok d _ e;obtain⟨O,M⟩:=dd.dictAt;obtain⟨o',Y,B,hc,J,_⟩:=id M;rw[ho]at B;cases B
 exact⟨ho,lo,U,O,Y,rel,J,M⟩
theorem turn_dict {P:Program}{w:World}{K:zA}{tg:Expr}(d it:Addr)(o:Obj)(O:List (Key×V))(es:Array DictEntry)(ep:Nat)(ho:o.data=.dict es ep):Turn P w K tg (ItD d o O) [it] it (fun i h=>h.IsKeyIter it d i O.length ep) where
 mem:=by simp
 obj:=fun i h G b J=>by
  have e:b=it:=by simpa using J
  subst e
  obtain⟨u,e,c,dd⟩:=G
  exact⟨u,e,fun v z=>by rw[dd]at z;cases z⟩
 keep:=fun i h h' G k=>G.at fun o e=>k it (by simp) o e
 item:=by
  intro X hP hw hK hc i pins s σ H E I hf G hg;subst hP hw hK;obtain⟨hd,hi⟩:=hg;obtain⟨_,lo,vs,ep',es',rel,B,M⟩:=frz_at I.hok hd;rw[ho]at B;cases B
  have kl:=kv_len rel;obtain⟨⟨k,x⟩,hx⟩:∃p,vs[i]? = some p:=⟨vs[i]'(by omega),qA _⟩;obtain⟨v,hv⟩:=kv_at rel hx;obtain⟨f0,f1,f2,f3,f4,f5⟩:=hf it (by simp);rw[kl]at G;refine wpAny_pyNext_dict_item G M hx fun key h' Y U sb=>?_;have I1:Inv X pins σ H { s with heap:=h' }:=I.turned (t':=s.toks) (fun b o J e=>(sb.2 b J).trans e) f0 f1 f3 f4 f5;obtain⟨u,e,c,dd⟩:=id U;refine⟨key,rfl,go_of (s:={ s with heap:=h' }) e c dd (by decide) ⟨kV k,H,I1,key_rel Y,⟨rfl,by rw[qI,hv];rfl⟩,by rw[kl];exact U,fun b J=>(hf b J).1⟩⟩
 done:=by
  intro X hP hw hK hc i pins s σ H E I hf G hg;subst hP hw hK;obtain⟨hd,hi⟩:=hg;obtain⟨_,lo,vs,ep',es',rel,B,M⟩:=frz_at I.hok hd;rw[ho]at B;cases B
  have kl:=kv_len rel;obtain⟨f0,f1,f2,f3,f4,f5⟩:=hf it (by simp);rw[kl]at G;exact wpAny_pyNext_dict_end (I.ok.hd hc) G M (zX (by omega)) fun h' eb=>⟨rfl,I.turned (t':=s.toks) (fun b o J e=>eb b o J e) f0 f1 f3 f4 f5⟩
 self:=fun _ _ _ _ _ G h=>wpAny_pyIter_keyiter G h
def iDict (tl:TE):TI:=fun G H R=>tl G H fun x B=>∃d o z,x=.ref d/\B d=some (.frz o (.dK z))/\R (ItD d o z) B
theorem pi_dict {tg l:Expr}{tl:TE}(hl:PE X l tl):PI X tg l (iDict tl):=by
 intro pins s σ H R I h;refine thn (hl pins s σ H _ I h) fun v B ⟨x,H1,G,r1,q1⟩=>?_;obtain⟨d,o,J,rfl,U,q⟩:=q1;cases r1
 obtain⟨ho,lo,vs,ep,Y,rel,z,M⟩:=frz_at G.hok U;refine wpAny_pyIter_dict lo M ?_;refine⟨B.heap.objs.size,[B.heap.objs.size],_,_,H1,rfl,G.kept (t':=B.toks) fun b o e=>Heap.get?_push_of_some _ e,turn_dict d _ o J Y ep z,⟨_,Heap.get?_push_size _ rfl,rfl,by rw[kv_len rel];rfl⟩,fun b O=>?_,q⟩;have e:b=B.heap.objs.size:=by simpa using O
 subst e;exact G.fpOk (zC _) (G.hok.fresh (zC _))
theorem w_compD {tl:TE}{M:Nat}{cs:List Nat}{g:TG}{G:TT}{J:TE}{B:St}{H:Hp}{Q:VK}:JL (iDict tl) M cs g G J B H Q=(tl B H fun x O=>∃d o z,x=.ref d/\O d=some (.frz o (.dK z))/\yU (ItD d o z) M cs g G J B O Q):=rfl
theorem it_D {d:Addr}{o:Obj}{z:List (Key×V)}{H:Hp}(h:H d=some (.frz o (.dK z))){H':Hp}(s:Same H H'):(∀i,i<(z.map fun q=>kV q.1).length->(ItD d o z).go i H')/\(∀i x B,(ItD d o z).yld i H' x B->B=H'/\(i<(z.map fun q=>kV q.1).length->(z.map fun q=>kV q.1)[i]? = some x))/\(ItD d o z).stop (z.map fun q=>kV q.1).length H':=by
 refine⟨fun i G=>⟨s _ _ h,by rwa [qC]at G⟩,fun i x B y=>⟨y.1,fun _=>y.2⟩,⟨s _ _ h,by rw[qC];exact zC _⟩⟩
end
theorem oddU:∀(a b:Nat) {m n:Int},m%2=1->n%2=1->m*2^a=n*2^b->m=n
 |0,0,m,n,_,_,h=>by simpa using h
 |0,b+1,m,n,z,_,h=>by
  rw[Int.pow_succ,<-z9,y8,yA]at h
  omega
 |a+1,0,m,n,_,B,h=>by
  rw[Int.pow_succ,<-z9,y8,yA]at h
  omega
 |a+1,b+1,m,n,z,B,h=>by
  rw[Int.pow_succ,Int.pow_succ,<-z9,<-z9]at h
  exact oddU a b z B (by omega)
theorem core_abs {n:Int}(h:n≠0):∃k:Nat,(n.natAbs:Int)=coreN n*2^k:=by
 obtain⟨B,M,k,J,z,G,_⟩:=yW h;refine⟨k,?_⟩;have H:=Int.mul_pos B (xI k);generalize coreN n*2^k=g at z H;rcases G with e|e<;>rw[e]at z<;>omega
theorem core_is {n m:Int}{k:Nat}(z:n≠0)(B:m%2=1)(h:(n.natAbs:Int)=m*2^k):coreN n=m:=by
 obtain⟨j,e⟩:=core_abs z;exact oddU j k (yW z).2.1 B (by rw[<-e,h])
theorem coreN_neg (n:Int):coreN (-n)=coreN n:=by
 by_cases h:n=0
 ·subst h;rfl
 ·obtain⟨k,e⟩:=core_abs h;exact core_is (k:=k) (by omega) (yW h).2.1 (by rw[<-e];omega)
theorem Ju:coreN 0=0:=rfl
structure OdIn (some_:List Int) (top:Int):Prop where
 odd:∀x∈some_,x%2=1
 lo:∀x∈some_,1<=x
 hi:∀x∈some_,x<=top
def dbl (l top:Int):Nat->List Int
 |0=>[l]
 |n+1=>l::(if l<=top then dbl (2*l) top n else [])
theorem dbl_le {top:Int}:∀(n:Nat) {l x:Int},1<=l->l<=2*top->x∈dbl l top n->1<=x/\x<=2*top
 |0,l,x,G,B,h=>by
  unfold dbl at h
  rw[zB.mp h]
  omega
 |n+1,l,x,G,B,h=>by
  unfold dbl at h
  rcases zF.mp h with rfl|h
  ·omega
  ·by_cases z:l<=top
   ·rw[if_pos z]at h
    exact dbl_le n (by omega) (by omega) h
   ·rw[if_neg z]at h
    cases h
def pm (z:List Int)(h:Int):List Int:=z.flatMap fun r=>[h+r,h-r]
def sumsL (z:List Int)(top:Int):List Int:=z.flatMap fun l=>(dbl l top 7).flatMap (pm z)
theorem mem_pm {z:List Int}{h x:Int}:x∈pm z h↔∃r∈z,x=h+r\/x=h-r:=by
 unfold pm;rw[zw];constructor
 ·rintro⟨r,B,G⟩;exact⟨r,B,by simpa using G⟩
 ·rintro⟨r,B,G⟩;exact⟨r,B,by simpa using G⟩
theorem mem_sums {z:List Int}{top x:Int}:x∈sumsL z top↔∃l∈z,∃h∈dbl l top 7,∃r∈z,x=h+r\/x=h-r:=by
 unfold sumsL;rw[zw];constructor
 ·rintro⟨l,H,B⟩;obtain⟨h,G,B⟩:=zw.mp B;exact⟨l,H,h,G,mem_pm.mp B⟩
 ·rintro⟨l,H,h,G,B⟩;exact⟨l,H,zw.mpr ⟨h,G,mem_pm.mpr B⟩⟩
def madeL (z:List Int)(top:Int):List Int:=sortI (ded (((ded (sumsL z top)).map coreN).filter fun c=>decide (0<c/\c<=top)))
theorem mem_made {z:List Int}{top x:Int}:x∈madeL z top↔(0<x/\x<=top)/\∃y∈sumsL z top,coreN y=x:=by
 unfold madeL;rw[(yD _).mem_iff,jB,yO,qP,decide_eq_true_eq];constructor
 ·rintro⟨⟨y,B,e⟩,h⟩;exact⟨h,y,(jB _ _).mp B,e⟩
 ·rintro⟨h,y,B,e⟩;exact⟨⟨y,(jB _ _).mpr B,e⟩,h⟩
theorem ji (xs:List Int):(ded xs).Nodup:=by
 refine j6 (p:=fun xs=>(ded xs).Nodup) (by simp[ded]) (fun B y ih=>?_) xs;rw[jY];by_cases h:y∈ded B
 ·rw[if_pos h];exact ih
 ·rw[if_neg h,y7];exact⟨ih,by simp,fun a G b z e=>h (by rw[zB.mp z]at e;exact e ▸ G)⟩
theorem made_rise (z:List Int)(top:Int):(madeL z top).Pairwise (· < ·):=by
 unfold madeL;generalize (((ded (sumsL z top)).map coreN).filter fun c=>decide (0<c/\c<=top))=B;have H:=y4 (ded B);have G:(sortI (ded B)).Nodup:=(yD _).nodup_iff.mpr (ji B);have:=H.and G;exact this.imp fun⟨a,b⟩=>by omega
theorem Jv:∀{l m:List Int},l.Nodup->(∀x∈l,x∈m)->l.length<=m.length
 |[],m,_,_=>zT _
 |a::r,m,H,h=>by
  have z:=jT.mp H
  have B:=h a zJ
  have:=Jv (m:=m.erase a) z.2 fun x G=>by
   have J:x≠a:=fun e=>z.1 (e ▸ G)
   exact(List.mem_erase_of_ne J).mpr (h x (zM _ G))
  rw[List.length_erase_of_mem B]at this
  have M:=List.length_pos_of_mem B
  rw[zH]
  omega
theorem jO {l:List Int}{lo:Int}{n:Nat}(z:l.Nodup)(h:∀x∈l,lo<=x/\x<lo+n):l.length<=n:=by
 have:=Jv (m:=(zp n).map fun(i:Nat)=>lo+(i:Int)) z fun x B=>by
  obtain⟨a,b⟩:=h x B;exact qP.mpr ⟨(x-lo).toNat,List.mem_range.mpr (by omega),by omega⟩
 rwa [qC,yV]at this
theorem sums_in {z:List Int}{top x:Int}(O:OdIn z top)(ht:top<=99)(h:x∈sumsL z top):-99<=x/\x < -99+(400:Nat):=by
 obtain⟨l,G,g,H,r,B,M⟩:=mem_sums.mp h;have J:=O.lo l G;have U:=O.hi l G;have r1:=O.lo r B;have Y:=O.hi r B;have:=dbl_le 7 J (by omega) H;omega
theorem inV_i (xs:List Int)(c:Int):inV (.int c) (xs.map V.int)=decide (c∈xs):=by
 unfold inV;rw[List.any_map];by_cases h:c∈xs
 ·rw[decide_eq_true h,xN];exact⟨c,h,by simp[eqV]⟩
 ·rw[decide_eq_false h,List.any_eq_false];intro x z;have:x≠c:=fun e=>h (e ▸ z);simp[eqV,this]
section
variable {K:zA}{σ:St}{H:Hp}{Q:VK}{cs:List Nat}{te:TE}
end
def spDbl:Sp:=fun B H Q _=>∃(l top:Int),B=[.int l,.int top]/\1<=l/\l<=1000/\top<l*2^7/\∀r z,H r=none->Same H z->z r=some (.lst ((dbl l top 7).map V.int))->Q (.ref r) z
def spCoresD:Sp:=fun G H Q _=>∃(a:Addr) (o:Obj) (z:List Int),G=[.ref a]/\H a=some (.frz o (.dK (ukv z)))/\z.length<=1000/\∀l B,H l=none->Same H B->B l=some (.lst ((z.map coreN).map V.int))->Q (.ref l) B
def spMade:Sp:=fun G H Q _=>∃(a:Addr) (z:List Int) (top:Int),G=[.ref a,.int top]/\H a=some (.lst (z.map V.int))/\OdIn z top/\1<=top/\top<=99/\z.length<=100/\∀l B,H l=none->Same H B->B l=some (.lst ((madeL z top).map V.int))->Q (.ref l) B
theorem made_len {xs:List Int}{top:Int}(G:top<=99):(madeL xs top).length<=99:=by
 have z:(madeL xs top).Nodup:=(made_rise xs top).imp fun h=>by omega
 refine jO (lo:=1) z fun x B=>?_;have:=(mem_made.mp B).1;omega
theorem jC {xs:List Int}{top:Int}(O:OdIn xs top)(z:top<=99):(ded (sumsL xs top)).length<=400:=jO (ji _) fun x B=>sums_in O z ((jB _ _).mp B)
theorem fil_len {xs:List Int}{top:Int}(O:OdIn xs top)(M:top<=99):(ded (((ded (sumsL xs top)).map coreN).filter fun c=>decide (0<c/\c<=top))).length<64:=by
 refine yi (Jv (m:=(zp 50).map fun(i:Nat)=>2*(i:Int)+1) (ji _) fun x J=>?_) (by rw[qC,yV];decide);obtain⟨H,G⟩:=yO.mp ((jB _ _).mp J);obtain⟨y,_,e⟩:=qP.mp H;have U:=of_decide_eq_true G;have B:y≠0:=fun z=>by rw[z,Ju]at e;omega
 have odd:=(yW B).2.1;rw[e]at odd;exact qP.mpr ⟨((x-1)/2).toNat,List.mem_range.mpr (by omega),by omega⟩
def jP (xs:List Int)(top:Int)(i:Nat):List Int:=(xs.take i).flatMap fun l=>(dbl l top 7).flatMap (pm xs)
theorem sumsT_all (xs:List Int)(top:Int):jP xs top xs.length=sumsL xs top:=by unfold jP sumsL;rw[zf]
theorem zAG {xs:List Int}{top l:Int}{i:Nat}(h:xs[i]? = some l):jP xs top (i+1)=jP xs top i++(dbl l top 7).flatMap (pm xs):=by
 unfold jP;rw[yI,h,List.flatMap_append];simp
theorem pm_snoc {xs:List Int}{g x:Int}{k:Nat}(h:xs[k]? = some x):pm (xs.take (k+1)) g=pm (xs.take k) g++[g+x,g-x]:=by
 unfold pm;rw[yI,h,List.flatMap_append];simp
theorem sumsT_sub {xs:List Int}{top l g x:Int}{i j k:Nat}(M:xs[i]? = some l)(O:(dbl l top 7)[j]? = some g)(h:x∈jP xs top i++((dbl l top 7).take j).flatMap (pm xs)++pm (xs.take k) g):x∈sumsL xs top:=by
 rw[mem_sums];rcases zE.mp h with h|h
 ·rcases zE.mp h with h|h
  ·obtain⟨U,J,z⟩:=zw.mp h;obtain⟨G,H,B⟩:=zw.mp z;exact⟨U,yS J,G,H,mem_pm.mp B⟩
  ·obtain⟨G,H,B⟩:=zw.mp h;exact⟨l,qE M,G,yS H,mem_pm.mp B⟩
 ·obtain⟨r,J,z⟩:=mem_pm.mp h;exact⟨l,qE M,g,qE O,r,yS J,z⟩
theorem sumsT_len {xs:List Int}{top l g:Int}{i j k:Nat}(O:OdIn xs top)(G:top<=99)(B:xs[i]? = some l)(z:(dbl l top 7)[j]? = some g):(ded (jP xs top i++((dbl l top 7).take j).flatMap (pm xs)++pm (xs.take k) g)).length<=400 :=
 jO (ji _) fun x H=>sums_in O G (sumsT_sub B z ((jB _ _).mp H))
theorem zAH {xs:List Int}{top l g x:Int}{i j k:Nat}(O:OdIn xs top)(H:top<=99)(B:xs[i]? = some l)(z:(dbl l top 7)[j]? = some g)(J:xs[k]? = some x):(ded (jP xs top i++((dbl l top 7).take j).flatMap (pm xs)++pm (xs.take k) g++[g+x])).length<=400:=by
 refine jO (ji _) fun y G=>sums_in O H (sumsT_sub (k:=k+1) B z ?_);rw[pm_snoc J];have:=(jB _ _).mp G;simp only[zE]at this ⊢;rcases this with h|h
 ·rcases h with h|h
  ·exact .inl h
  ·exact .inr (.inl h)
 ·rw[zB.mp h];exact .inr (.inr (by simp))
def inT (top:Int):V->Option V:=fun x=>match x with
 |.int n=>if 0<n/\n<=top then some (.int n) else none
 |_=>none
theorem inT_int (top n:Int):inT top (.int n)=if 0<n/\n<=top then some (.int n) else none:=rfl
theorem inT_map (top:Int):∀z:List Int,(z.map V.int).filterMap (inT top)=(z.filter fun c=>decide (0<c/\c<=top)).map V.int
 |[]=>rfl
 |x::r=>by
  rw[zO,zt,inT_int]
  by_cases h:0<x/\x<=top
  ·rw[if_pos h,List.filter_cons_of_pos (by simpa using h),zO,<-inT_map top r]
  ·rw[if_neg h,List.filter_cons_of_neg (by simpa using h),<-inT_map top r]
section
variable {prog:Program}{w:World}{A:Around}{E:Value->Shared->Prop}{s:Shared}{K:zA}{x C dx:Addr}{ox:Obj}{name:Str}{v:Value}
end
section
variable {prog:Program}{w:World}{A:Around}{E:Value->Shared->Prop}{h:Heap}{g:Array GenState}{d:Drawn}{t:Nat}{os:OsState}
variable {nm q:Str}{C N:Addr}{bs bm bmB:List Value}{hdct:Bool}{sn:List Str}{sub:List Value}{ab:Bool}{col:Option Bool}{dd:Option Addr}{k0 k1 k2 k3 k5:Option Value}{B newId initId:String}
end
section
variable {X:Cx}{pins:List (Addr×Obj)}{σ:St}{H:Hp}{s:Shared}{x C t:Addr}{f:Str}
end
section
variable {M:Model}{A:Around}{E:Value->Shared->Prop}{env:Env}
variable {nm q:Str}{C N:Addr}{bs bm:List Value}{hdct:Bool}{sn:List Str}{sub:List Value}{ab:Bool}{col:Option Bool}{dd:Option Addr}{k0 k1 k2 k3 k5:Option Value}{newId:String}
end
section
variable {X:Cx}{C:Addr}{f:Str}
end
section
variable {prog:Program}{w:World}{A:Around}{E:Value->Shared->Prop}{s:Shared}{K:zA}{x D:Addr}{o:Obj}{od:Option Obj}
end
section
variable {α:Type}{p:α->Bool}{l:List α}{i:Nat}{x:α}
end
section
variable {K:zA}{σ:St}{H:Hp}{Q:VK}{cs:List Nat}{te:TE}
end
section
variable {key:Nat->Int}{n:Nat}{p q:Array Nat}
end
section
variable {prog:Program}{w:World}{A:Around}{E:Value->Shared->Prop}{s:Shared}{vs:List Value}{ks:List Int}
end
def spMadeT (K:zA):Sp:=fun G H Q _=>∃(a:Addr) (z:List Int) (top:Int),G=[.ref a,.int top]/\SqT K H a (z.map V.int)/\OdIn z top/\1<=top/\top<=99/\z.length<=100/\∀l B,H l=none->Same H B->B l=some (.lst ((madeL z top).map V.int))->Q (.ref l) B
def farB (top most:Int):Prop:=99<top\/4<most\/(31<top/\3<most)
def spRefB (M:Addr):Sp:=fun z H Q E=>∃(top most:Int),z=[.int top,.int most]/\(¬ farB top most->Q .non H)/\(farB top most->E (.ref M) none H)
section
variable {K:zA}{σ:St}{H:Hp}{Q:VK}{cs:List Nat}{te:TE}
end
section
variable {X:Cx}{pos:Pos}
end
def Ex (s v:Int):Prop:=s<0->(2:Int)^(-s).toNat ∣ v
def Sx (s v w:Int):Prop:=w*2^(-s).toNat=v*2^s.toNat
theorem Ex.sx {s v:Int}(h:Ex s v):Sx s v (mvI s v):=by
 unfold Sx;by_cases z:s<0
 ·rw[mvI_down z,show s.toNat=0 by omega,y8,yA];exact Int.ediv_mul_cancel (h z)
 ·rw[mvI_up (by omega),show(-s).toNat=0 by omega,y8,yA]
theorem Sx.ex {s v w:Int}(h:Sx s v w):Ex s v/\mvI s v=w:=by
 unfold Sx at h;by_cases z:s<0
 ·rw[show s.toNat=0 by omega,y8,yA]at h;refine⟨fun _=>⟨w,by rw[<-h,xX]⟩,?_⟩;rw[mvI_down z,<-h];exact Int.mul_ediv_cancel _ (by have:=xI (-s).toNat;omega)
 ·rw[show(-s).toNat=0 by omega,y8,yA]at h;exact⟨fun y=>absurd y z,by rw[mvI_up (by omega),h]⟩
theorem Sx.add {s t v w u:Int}(B:Sx s v w)(z:Sx t w u):Sx (s+t) v u:=by
 unfold Sx at *;obtain⟨c,e1,e2⟩:∃c:Nat,(-t).toNat+(-s).toNat=(-(s+t)).toNat+c/\s.toNat+t.toNat=(s+t).toNat+c:=by
  obtain⟨a,rfl|rfl⟩:=Int.eq_nat_or_neg s<;>obtain⟨b,rfl|rfl⟩:=Int.eq_nat_or_neg t
  ·exact⟨0,by simp[<-Int.natCast_add],by simp[<-Int.natCast_add]⟩
  ·exact⟨min a b,by simp;omega,by simp;omega⟩
  ·exact⟨min a b,by simp;omega,by simp;omega⟩
  ·exact⟨0,by simp;omega,by simp;omega⟩
 have G:=xI c;have k:u*2^((-t).toNat+(-s).toNat)=v*2^(s.toNat+t.toNat):=by
  rw[Int.pow_add,Int.pow_add,<-z9,z,<-z9,<-B,z9,z9,xX (2^t.toNat)]
 rw[e1,e2,Int.pow_add,Int.pow_add,<-z9,<-z9]at k;exact Int.eq_of_mul_eq_mul_right (by omega) k
theorem mv_add {s t v:Int}(z:Ex s v)(B:Ex t (mvI s v)):Ex (s+t) v/\mvI (s+t) v=mvI t (mvI s v):=(z.sx.add B.sx).ex
theorem Ex.neg {s v:Int}(h:Ex s v):Ex s (-v):=fun z=>Int.dvd_neg.mpr (h z)
theorem mv_neg {s v:Int}(h:Ex s v):mvI s (-v) = - mvI s v:=by
 refine(Sx.ex ?_).2;have:=h.sx;unfold Sx at *;rw[Int.neg_mul,Int.neg_mul,this]
def movG (p:Go)(s g:Int):Go:=if p.sg*g=0 then ⟨0,0,0⟩ else ⟨p.th,p.sh+s,p.sg*g⟩
def deedG (p q:Go):Wd:=if p.sg=q.sg then ⟨Str.ofString "sum",p.th,p.sh,q.th,q.sh⟩ else if p.sg=1 then ⟨Str.ofString "less",p.th,p.sh,q.th,q.sh⟩ else ⟨Str.ofString "less",q.th,q.sh,p.th,p.sh⟩
def xY (p q:Go):Int:=if p.sg=q.sg then p.sg else 1
def addG (ins:Nat)(ds:List Wd)(p q:Go):List Wd:=if p.sg=0 then ds else if q.sg=0 then ds else ds++[deedG p q]
def addP (ins:Nat)(ds:List Wd)(p q:Go):Go:=if p.sg=0 then q else if q.sg=0 then p else ⟨ins+ds.length,0,xY p q⟩
def g0:Go:=⟨0,0,0⟩
def SgOk (p:Go):Prop:=p=g0\/p.sg=1\/p.sg = -1
theorem SgOk.cases {p:Go}(h:SgOk p):(p.sg=0/\p=g0)\/p.sg=1\/p.sg = -1:=by
 rcases h with z|z|z
 ·exact .inl ⟨by rw[z];rfl,z⟩
 ·exact .inr (.inl z)
 ·exact .inr (.inr z)
structure PtOkV (n:Nat) (vs:List Int) (p:Go):Prop where
 th:p.th<n
 sg:SgOk p
 ex:Ex p.sh (vs.getD p.th 0)
theorem mov_val {n:Nat}{vs:List Int}{p:Go}{s g:Int}(h:PtOkV n vs p)(M:0<n)(H:g=1\/g = -1)(B:Ex s (outV vs p)):PtOkV n vs (movG p s g)/\outV vs (movG p s g)=g*mvI s (outV vs p):=by
 rcases h.sg.cases with⟨z,U⟩|z
 ·have e:movG p s g=g0:=by unfold movG;rw[if_pos (by rw[z,Int.zero_mul])];rfl
  rw[e];refine⟨⟨M,.inl rfl,fun y=>absurd y (by decide)⟩,?_⟩;unfold outV g0;rw[z,Int.zero_mul,Int.zero_mul,mvI_0,Int.mul_zero]
 ·have e:movG p s g=⟨p.th,p.sh+s,p.sg*g⟩:=by
   unfold movG;rw[if_neg];rcases z with z|z<;>rcases H with y|y<;>rw[z,y]<;>decide
  have G:Ex s (mvI p.sh (vs.getD p.th 0)):=by
   unfold outV at B;rcases z with z|z
   ·rw[z,y9]at B;exact B
   ·rw[z,Int.neg_one_mul]at B;have:=B.neg;rw[Int.neg_neg]at this;exact this
  obtain⟨O,J⟩:=mv_add h.ex G;rw[e];refine⟨⟨h.th,.inr ?_,O⟩,?_⟩
  ·show p.sg*g=1\/p.sg*g = -1
   rcases z with z|z<;>rcases H with y|y<;>rw[z,y]<;>decide
  ·unfold outV;show p.sg*g*mvI (p.sh+s) (vs.getD p.th 0)=_
   rw[J];rcases z with z|z
   ·rw[z,y9,y9]
   ·rw[z,Int.neg_one_mul (mvI p.sh _),mv_neg G,Int.neg_one_mul,Int.neg_mul,Int.mul_neg]
theorem deedG_val {vs:List Int}{p q:Go}(J:p.sg=1\/p.sg = -1)(H:q.sg=1\/q.sg = -1):xY p q*valD vs (deedG p q)=outV vs p+outV vs q:=by
 unfold deedG xY valD outV;have G:sgW (Str.ofString "sum")=1:=by decide
 have B:sgW (Str.ofString "less") = -1:=by decide
 rcases J with z|z<;>rcases H with y|y<;>rw[z,y]
 ·rw[if_pos rfl,if_pos rfl];simp only[G,y9]
 ·rw[if_neg (by decide),if_neg (by decide),if_pos rfl];simp only[B,y9]
 ·rw[if_neg (by decide),if_neg (by decide),if_neg (by decide)];simp only[B,y9];rw[Int.add_comm]
 ·rw[if_pos rfl,if_pos rfl];simp only[G,y9];rw[Int.mul_add]
section
variable {K:zA}{σ:St}{H:Hp}{Q:VK}{cs:List Nat}{te:TE}{tt:TT}
end
def spMovE (K:zA):Sp:=fun B H Q _=>∃(p:Addr) (P:Go) (s g:Int),B=[.ref p,.int s,.int g]/\SqT K H p (gTp P)/\(g=0\/g=1\/g = -1) /\
 ∀r z,Same H z->SqT K z r (gTp (movG P s g))->Q (.ref r) z
def spDeedE (K:zA):Sp:=fun B H Q _=>∃(p q:Addr) (P R:Go),B=[.ref p,.ref q]/\SqT K H p (gTp P)/\SqT K H q (gTp R)/\∀r z,H r=none->Same H z->z r=some (.tup (wTup (deedG P R)))->Q (.ref r) z
def spSignE (K:zA):Sp:=fun z H Q _=>∃(p q:Addr) (P R:Go),z=[.ref p,.ref q]/\SqT K H p (gTp P)/\SqT K H q (gTp R)/\Q (.int (xY P R)) H
def spAddE (K:zA):Sp:=fun O H Q _=>∃(ins:Nat) (G p q:Addr) (J:List V) (M:List Wd) (P R:Go),O=[.int ins,.ref G,.ref p,.ref q]/\H G=some (.lst J)/\HTs wTup H J M/\SqT K H p (gTp P)/\SqT K H q (gTp R)/\J.length<=900 /\
 ∀r B z,Chg G H z->z G=some (.lst B)->HTs wTup z B (addG ins M P R)->SqT K z r (gTp (addP ins M P R))->Q (.ref r) z
section
variable {ins m:Nat}{s1 s2:List Wd}{t1 t2:List Go}
end
section
variable {K:zA}{σ:St}{H:Hp}{Q:VK}{cs:List Nat}{te:TE}
end
section
variable {ins:Nat}{ds:List Wd}{gs:List Go}{μ:List Int}{B:Int}
end
def st0 (n m:Nat):List Go:=qQ n g0++(zp m).map fun p=>⟨p,0,1⟩
section
variable {ins:Nat}{ds:List Wd}{gs:List Go}{μ:List Int}{B:Int}
def bs0 (n m:Nat):List Bool:=qQ n false++qQ m true
end
section
variable {α:Type}{K:zA}{f:α->List V}{H H':Hp}{vs us:List V}{xs:List α}{l:Addr}
end
section
variable {K:zA}{σ:St}{H:Hp}{Q:VK}{cs:List Nat}{te:TE}
end
section
variable {H:Hp}{p dl gl a:Addr}{ins k n j:Nat}{us os:List V}{ds:List Wd}{gs:List Go}{H' H'':Hp}{c:Int}
end
section
variable {K:zA}{σ:St}{H:Hp}{Q:VK}{cs:List Nat}{tt:TT}
end
section
variable {K:zA}{σ:St}{H:Hp}{Q:VK}{cs:List Nat}{te:TE}
end
section
variable {prog:Program}{w:World}{A:Around}{E:Value->Shared->Prop}{s:Shared}
theorem cat_tup0 {t b:Addr}{vs U:List Value}{Q:Value->Shared->Prop}(ht:IsTup s.heap t vs.toArray)(hb:IsTup s.heap b U.toArray)(hv:vs=[])(h1:Q (.ref b) s):wpAny (model prog w) A (binaryOp .Add (.ref t) (.ref b)) Q E s:=by
 obtain⟨⟨cls,dd,data,sl⟩,J,O,n,M⟩:=id ht;obtain⟨⟨Y,H,data2,G⟩,z,B,n2,hd2⟩:=id hb;simp only at O M B hd2;subst O M B hd2;exact concat_meets ⟨_,J,rfl⟩ ⟨_,z,rfl⟩ noFill_tuple_add seq_tuple_add PySem.F.slot_tuple_add PySem.F.entry_tuple_add (PySem.F.args_tuple_add_2 _ _)
   (tuple_addW0 t b vs.toArray U.toArray n n2 dd H sl G (by simp[hv])) ⟨J,z,h1⟩
end
def rCatC (K:zA):R2:=fun x y H Q=>∃a b G B,x=.ref a/\y=.ref b/\SqT K H a G/\SqT K H b B/\G.length+B.length<=sizeLine/\∀r z,Same H z->SqT K z r (G++B)->Q (.ref r) z
theorem op_catC {X:Cx}:OpR X (binaryOp .Add) (rCatC X.K):=by
 intro pins s σ H x y v u Q I U J h;obtain⟨a,b,M,ys,rfl,rfl,B,z,hz,q⟩:=h;by_cases G:M=[]
 ·cases U
  cases J
  obtain⟨its,r1,Y,_⟩:=I.tuple B;obtain⟨O,r2,p2,_⟩:=I.tuple z;refine cat_tup0 Y p2 (r1.nil_iff.mpr G) ⟨.ref b,H,I,rfl,q b H (Same.refl _) ?_⟩;rw[G];exact z
 ·refine op_catT pins s σ H (.ref a) (.ref b) v u Q I U J ⟨a,b,M,ys,rfl,rfl,B,z,G,hz,fun e=>q a H (Same.refl _) ?_,fun _ p hp=>q p _ (zP hp _) (SqT.of upd_same)⟩;rw[e,zv];exact B
section
variable {K:zA}{H:Hp}
end
@[elab_as_elim] theorem ye {C:Hp->Prop} {H:Hp} {p:Addr} {o:HO} (B:H p=none) (k:∀z,Same H z->z p=some o->C z):C (upd H p o):=k _ (zP B _) upd_same
def NoT (H:Hp)(v:V):Prop:=jI v=true\/∃p,v=.ref p/\((∃B,H p=some (.lst B))\/∃z,H p=some (.dK z))
section
variable {K:zA}{H:Hp}
end
section
variable {X:Cx}{o i:Expr}{pos:Pos}{td ty:TE}
end
section
variable {σ:St}{H:Hp}{Q:VK}{a:Addr}
end
section
variable {α:Type}
def lk (rows:List (Int×α))(c:Int):Option α:=(rows.find? fun r=>decide (r.1=c)).map (·.2)
def putL (rows:List (Int×α))(c:Int)(x:α):List (Int×α):=if (rows.any fun r=>decide (r.1=c))=true then rows.map (fun r=>if r.1=c then (r.1,x) else r) else rows++[(c,x)]
theorem lk_cons {c d:Int}{x:α}{r:List (Int×α)}:lk ((d,x)::r) c=if d=c then some x else lk r c:=by
 unfold lk;rw[xc];by_cases e:d=c
 ·rw[if_pos e,decide_eq_true e];rfl
 ·rw[if_neg e,decide_eq_false e]
theorem lk_any {c:Int}:∀rows:List (Int×α),(rows.any fun r=>decide (r.1=c))=(lk rows c).isSome
 |[]=>rfl
 |(d,x)::r=>by
  rw[xi,lk_any r,lk_cons]
  by_cases e:d=c
  ·rw[if_pos e,decide_eq_true e];rfl
  ·rw[if_neg e,decide_eq_false e];rfl
theorem putL_new {rows:List (Int×α)}{c:Int}{x:α}(h:lk rows c=none):putL rows c x=rows++[(c,x)]:=by
 unfold putL;rw[lk_any,h];exact if_neg (by intro z;cases z)
theorem lk_none {rows:List (Int×α)}{c:Int}:lk rows c=none↔c∉rows.map (·.1):=by
 induction rows with
 |nil=>exact⟨fun _ h=>absurd h zL,fun _=>rfl⟩
 |cons r B ih =>
  obtain⟨d,x⟩:=r;rw[lk_cons,zO,zF];by_cases e:d=c
  ·rw[if_pos e];exact⟨(fun h=>by cases h),fun h=>absurd (Or.inl e.symm) h⟩
  ·rw[if_neg e,ih];exact⟨fun h z=>z.elim (fun y=>e y.symm) h,fun h z=>h (.inr z)⟩
theorem lk_mem {rows:List (Int×α)}{c:Int}{x:α}(h:lk rows c=some x):(c,x)∈rows:=by
 induction rows with
 |nil=>cases h
 |cons r z ih =>
  obtain⟨d,y⟩:=r;rw[lk_cons]at h;by_cases e:d=c
  ·rw[if_pos e]at h;cases h
   rw[<-e];exact zJ
  ·rw[if_neg e]at h;exact zM _ (ih h)
inductive DV (R:V->α->Prop):List (Key×V)->List (Int×α)->Prop
 |nil:DV R [] []
 |cons {c:Int} {v:V} {x:α} {kvs:List (Key×V)} {rows:List (Int×α)} (h:R v x) (r:DV R kvs rows):DV R ((.inl c,v)::kvs) ((c,x)::rows)
variable {R:V->α->Prop}{kvs:List (Key×V)}{rows:List (Int×α)}
theorem DV.imp {z:V->α->Prop}(h:DV R kvs rows)(f:∀v x,R v x->z v x):DV z kvs rows:=by
 induction h with
 |nil=>exact .nil
 |cons h _ ih=>exact .cons (f _ _ h) ih
theorem DV.len (h:DV R kvs rows):kvs.length=rows.length:=by
 induction h with
 |nil=>rfl
 |cons _ _ ih=>rw[zH,zH,ih]
theorem DV.keys (h:DV R kvs rows):(kvs.map fun q=>kV q.1)=(rows.map (·.1)).map V.int:=by
 induction h with
 |nil=>rfl
 |cons _ _ ih=>rw[zO,ih];rfl
theorem inl_iff {a b:Int}:(Sum.inl a:Key)=.inl b↔a=b:=⟨fun e=>Sum.inl.inj e,fun e=>by rw[e]⟩
theorem DV.val (h:DV R kvs rows)(c:Int):(lk rows c=none->yw kvs (.inl c)=none)/\∀x,lk rows c=some x->∃v,yw kvs (.inl c)=some v/\R v x:=by
 induction h with
 |nil=>exact⟨fun _=>rfl,fun x h=>by cases h⟩
 |@cons d v y kvs rows h r ih =>
  rw[lk_cons];by_cases e:d=c
  ·rw[if_pos e,xw (by rw[e])];exact⟨(fun z=>by cases z),fun x z=>by cases z;exact⟨v,rfl,h⟩⟩
  ·rw[if_neg e,xx (fun z=>e (inl_iff.mp z))];exact ih
theorem DV.any (h:DV R kvs rows)(c:Int):(kvs.any fun z=>decide (z.1=.inl c))=(rows.any fun r=>decide (r.1=c)):=by
 rw[xG,lk_any];cases e:lk rows c with
 |none=>rw[(h.val c).1 e];rfl
 |some x =>
  obtain⟨v,B,_⟩:=(h.val c).2 x e;rw[B];rfl
theorem DV.mapP (h:DV R kvs rows){c:Int}{v:V}{x:α}(G:R v x):DV R (kvs.map fun B=>if B.1=.inl c then (B.1,v) else B) (rows.map fun r=>if r.1=c then (r.1,x) else r):=by
 induction h with
 |nil=>exact .nil
 |@cons d u y kvs rows h r ih =>
  rw[zO,zO];by_cases e:d=c
  ·rw[if_pos (by rw[e]),if_pos e];exact .cons G ih
  ·rw[if_neg (fun z=>e (inl_iff.mp z)),if_neg e];exact .cons h ih
theorem DV.snoc (h:DV R kvs rows){c:Int}{v:V}{x:α}(z:R v x):DV R (kvs++[(.inl c,v)]) (rows++[(c,x)]):=by
 induction h with
 |nil=>exact .cons z .nil
 |cons h r ih=>exact .cons h ih
theorem DV.put (h:DV R kvs rows){c:Int}{v:V}{x:α}(z:R v x):DV R (xA kvs (.inl c) v) (putL rows c x):=by
 unfold xA putL;rw[h.any c];split
 ·exact h.mapP z
 ·exact h.snoc z
end
def ForKs (d:Addr)(o:Obj)(z:List (Key×V))(g:TG)(tb:TS)(D:Ends)(G:St)(H:Hp):Prop:=∃W:Nat->Nat->St->Hp->Prop,(∃m,W 0 m G H)/\∀i m G H,W i m G H ->
 ((ItD d o z).stop i H/\D.nx G H)\/((ItD d o z).go i H/\∃N:St->Hp->Prop,(∀B J,N B J->∃O,O<m/\W (i+1) O B J)/\∀x J,(ItD d o z).yld i H x J->g x G J fun M U=>tb { D with nx:=N,ct:=N,bk:=D.nx } M U)
section
variable {σ:St}{H:Hp}{D:Ends}{g:TG}{tb:TS}{d:Addr}{o:Obj}{kvs:List (Key×V)}
theorem w_forKs {tl:TE}:tFor (iDict tl) g tb D σ H=(tl σ H fun x z=>∃d o kvs,x=.ref d/\z d=some (.frz o (.dK kvs))/\ForKs d o kvs g tb D σ z):=rfl
theorem forKs {xs:List V}(hx:(kvs.map fun q=>kV q.1)=xs)(B:Nat->St->Hp->Prop)(h0:B 0 σ H)(hl:∀i σ H,i<=xs.length->B i σ H->H d=some (.frz o (.dK kvs)))
  (hs:∀i x σ H (N:St->Hp->Prop),xs[i]? = some x->B i σ H->(∀G M,B (i+1) G M->N G M)->g x σ H fun O H2=>tb { D with nx:=N,ct:=N,bk:=D.nx } O H2) (U:∀σ H,B xs.length σ H->D.nx σ H):ForKs d o kvs g tb D σ H:=by
 subst hx;have el:(kvs.map fun q=>kV q.1).length=kvs.length:=qC _;refine⟨fun i m σ H=>m=kvs.length-i/\i<=kvs.length/\B i σ H,⟨_,rfl,zT _,h0⟩,?_⟩;rintro i m σ H ⟨rfl,hi,p⟩;have q:=hl i σ H (by omega) p;by_cases J:i<kvs.length
 ·refine .inr ⟨⟨q,J⟩,B (i+1),fun G M Y=>⟨kvs.length-(i+1),by omega,rfl,J,Y⟩,fun x M y=>?_⟩;obtain⟨rfl,y⟩:=y;exact hs i x σ _ _ y p fun _ _ z=>z
 ·refine .inl ⟨⟨q,by omega⟩,U σ H ?_⟩;rw[el,show kvs.length=i by omega];exact p
end
theorem w_dget2 {O ty G:TE}{B:St}{H:Hp}{Q:VK}:tDGet2 O ty G B H Q=(O B H fun x M=>∃a,x=.ref a/\IsD M a/\ty B M fun y U=>G B U fun z J=>∃o,DGet J a y o/\Q (o.getD z) J):=rfl
section
variable {L:Nat}{n:Int}
end
section
variable {X:Cx}
end
section
variable {prog:Program}{w:World}{A:Around}{E:Value->Shared->Prop}{s:Shared}{vs:List Value}{xss:List (List Int)}{a:Addr}
end
section
variable {prog:Program}{w:World}{A:Around}{E:Value->Shared->Prop}{κ:SortKind}{it:Array Keyed}{vs:List Value}{s:Shared}
variable {xss:List (List Int)}{a:Addr}
end
section
variable {prog:Program}{w:World}{A:Around}{E:Value->Shared->Prop}
end
inductive Tg where
 |f (x:V)
 |l (xs:List Tg)
 |t (xs:List Tg)
 |d (xs:List Tg)
section
variable {X:Cx}{pins:List (Addr×Obj)}{σ:St}{H:Hp}{s:Shared}
end
abbrev FSt:=Int×Int×Int
def mx1 (d st:Int):Int:=(d+40692*st*st+69621*st)%2147483647
def mx2 (m st:Int):Int:=(m*m+39373*m+st)%2147483579
def mx3 (m:Int):Int:=(m*m+16807*m)%2147483549
def tkS (m:Int)(s:FSt):Int×FSt:=if s.1>0 then (s.1%m,(s.1/m,s.2.1,s.2.2)) else (mx3 (mx2 (mx1 s.2.1 (s.2.2+1)) (s.2.2+1))/64%m,(s.1,s.2.1,s.2.2+1))
def tk:Nat->Int->FSt->Int×FSt
 |0,_,s=>(0,s)
 |n+1,m,s=>if m>10000000 then (((tk n (m/1000000+1) s).1*1000000+(tk n 1000000 (tk n (m/1000000+1) s).2).1)%m,(tk n 1000000 (tk n (m/1000000+1) s).2).2) else tkS m s
def pk (xs:List Int)(i:Int):Int:=xs.getD i.toNat 0
def pkV (xs:List V)(i:Int):V:=xs.getD i.toNat .non
def txs:List V:=[.str (Str.ofString ""),.str (Str.ofString "0"),.str (Str.ofString "7"),.str (Str.ofString "-1"),.str (Str.ofString "True"),.str (Str.ofString "None")]
def flt (way:Int)(s:FSt):Tg×FSt :=
 if way<3 then (.f (.int (tk 10 (pk [3,1000,10^60] way) s).1),(tk 10 (pk [3,1000,10^60] way) s).2)
 else if way<5 then (.f (.int (-(tk 10 (pk [9,10^60] (way-3)) s).1)),(tk 10 (pk [9,10^60] (way-3)) s).2)
 else if way=5 then (.f (pkV [.bl true,.bl false,.non] (tk 10 3 s).1),(tk 10 3 s).2)
 else (.f (pkV txs (tk 10 6 s).1),(tk 10 6 s).2)
def knd (way:Int)(z:List Tg):Tg:=if way=7 then .l z else if way=8 then .t z else .d z
section
variable {σ:St}{H:Hp}{Q:VK}{cs:List Nat}{te:TE}
end
section
variable {σ:St}{H:Hp}{Q:VK}{cs:List Nat}{te:TE}{K:zA}
end
def maskN (xs:List Int):Nat:=xs.foldr (fun n m=>2^n.toNat ||| m) 0
theorem j9 {xs:List Int}(h:∀n∈xs,0<=n)(j:Nat):(maskN xs).testBit j=true↔(j:Int)∈xs:=by
 induction xs with
 |nil=>simp[maskN]
 |cons x xs ih =>
  have ih:=ih fun n z=>h n (zM _ z);have B:=h x zJ;show(2^x.toNat ||| maskN xs).testBit j=true↔_
  rw[Nat.testBit_or,Bool.or_eq_true,ih,Nat.testBit_two_pow,decide_eq_true_eq,zF];constructor
  ·rintro(e|e)
   ·exact .inl (by omega)
   ·exact .inr e
  ·rintro(e|e)
   ·exact .inl (by omega)
   ·exact .inr e
theorem mask_nil:maskN []=0:=rfl
theorem Jw (x:Int)(xs:List Int):maskN (x::xs)=2^x.toNat ||| maskN xs:=rfl
theorem mask_app:∀(xs z:List Int),maskN (xs++z)=maskN xs ||| maskN z
 |[],z=>by rw[List.nil_append,mask_nil,Nat.zero_or]
 |x::xs,z=>by rw[List.cons_append,Jw,Jw,mask_app xs z,Nat.or_assoc]
theorem mask_one (x:Int):maskN [x]=2^x.toNat:=by rw[Jw,mask_nil,Nat.or_zero]
theorem or_nat (M N:Nat):Builtin.bitOr (M:Int) (N:Int)=((M ||| N:Nat):Int):=by
 unfold Builtin.bitOr;have z:∀k:Nat,Builtin.bitNot (k:Int) = -(k:Int)-1:=fun k=>by unfold Builtin.bitNot;omega
 have B:∀k:Nat,Builtin.bitNot (-(k:Int)-1)=(k:Int):=fun k=>by unfold Builtin.bitNot;omega
 rw[z,z];unfold Builtin.bitAnd;rw[decide_eq_false (by omega:¬ (0:Int) <= -(M:Int)-1),decide_eq_false (by omega:¬ (0:Int) <= -(N:Int)-1)];show Builtin.bitNot (Builtin.bitNot _)=_
 rw[B,B,z,B,zK,zK]
def pairL (a b top:Int):List Int:=(((dbl a top 7).flatMap fun h=>[h+b,h-b])++((dbl b top 7).flatMap fun h=>[h+a,h-a])).map coreN |>.filter fun c=>decide (0<c/\c<=top)
theorem mem_pair {a b top x:Int}:x∈pairL a b top↔(0<x/\x<=top)/\((∃h∈dbl a top 7,coreN (h+b)=x\/coreN (h-b)=x)\/∃h∈dbl b top 7,coreN (h+a)=x\/coreN (h-a)=x):=by
 unfold pairL;rw[yO,decide_eq_true_eq,qP];constructor
 ·rintro⟨⟨y,H,e⟩,h⟩;refine⟨h,?_⟩;rcases zE.mp H with z|z
  ·obtain⟨g,B,G⟩:=zw.mp z;rcases zF.mp G with q|q
   ·exact .inl ⟨g,B,.inl (by rw[<-q];exact e)⟩
   ·rw[zB]at q;exact .inl ⟨g,B,.inr (by rw[<-q];exact e)⟩
  ·obtain⟨g,B,G⟩:=zw.mp z;rcases zF.mp G with q|q
   ·exact .inr ⟨g,B,.inl (by rw[<-q];exact e)⟩
   ·rw[zB]at q;exact .inr ⟨g,B,.inr (by rw[<-q];exact e)⟩
 ·rintro⟨h,z⟩;refine⟨?_,h⟩;rcases z with⟨g,B,q|q⟩|⟨g,B,q|q⟩
  ·exact⟨_,zV _ (zw.mpr ⟨g,B,zJ⟩),q⟩
  ·exact⟨_,zV _ (zw.mpr ⟨g,B,zM _ zJ⟩),q⟩
  ·exact⟨_,qK _ (zw.mpr ⟨g,B,zJ⟩),q⟩
  ·exact⟨_,qK _ (zw.mpr ⟨g,B,zM _ zJ⟩),q⟩
theorem made_pairs {S:List Int}{top x:Int}:x∈madeL S top↔∃a∈S,∃b∈S,x∈pairL a b top:=by
 rw[mem_made];constructor
 ·rintro⟨h,y,O,e⟩;obtain⟨l,M,g,B,r,J,z⟩:=mem_sums.mp O;refine⟨l,M,r,J,mem_pair.mpr ⟨h,.inl ⟨g,B,?_⟩⟩⟩;rcases z with z|z
  ·exact .inl (by rw[<-z];exact e)
  ·exact .inr (by rw[<-z];exact e)
 ·rintro⟨a,H,b,G,U⟩;obtain⟨h,z⟩:=mem_pair.mp U;refine⟨h,?_⟩;rcases z with⟨g,B,q|q⟩|⟨g,B,q|q⟩
  ·exact⟨_,mem_sums.mpr ⟨a,H,g,B,b,G,.inl rfl⟩,q⟩
  ·exact⟨_,mem_sums.mpr ⟨a,H,g,B,b,G,.inr rfl⟩,q⟩
  ·exact⟨_,mem_sums.mpr ⟨b,G,g,B,a,H,.inl rfl⟩,q⟩
  ·exact⟨_,mem_sums.mpr ⟨b,G,g,B,a,H,.inr rfl⟩,q⟩
theorem Jg {S H:List Int}{top:Int}(h:∀x,x∈S↔x∈H)(x:Int):x∈madeL S top↔x∈madeL H top:=by
 rw[made_pairs,made_pairs];constructor
 ·rintro⟨a,G,b,B,z⟩;exact⟨a,(h a).mp G,b,(h b).mp B,z⟩
 ·rintro⟨a,G,b,B,z⟩;exact⟨a,(h a).mpr G,b,(h b).mpr B,z⟩
theorem jQ {S:List Int}{top x:Int}(h:x∈madeL S top):0<x/\x<=top:=(mem_made.mp h).1
theorem made_odd {S:List Int}{top x:Int}(h:x∈madeL S top):x%2=1:=by
 obtain⟨G,y,_,e⟩:=mem_made.mp h;have B:y≠0:=fun z=>by rw[z,Ju]at e;omega
 have:=(yW (n:=y) B).2.1;rw[e]at this;exact this
inductive RchO (top:Int):Nat->List Int->Prop
 |one:RchO top 1 [1]
 |more {k:Nat} {own:List Int} {n:Int}:RchO top k own->n∈madeL own top->n∉own->RchO top (k+1) (own++[n])
theorem RchO.ok {top:Int}{k:Nat}{own:List Int}(h:RchO top k own)(J:1<=top):OdIn own top/\own.length=k/\1<=k:=by
 induction h with
 |one =>
  refine⟨⟨fun x B=>?_,fun x B=>?_,fun x B=>?_⟩,rfl,zC _⟩<;>rw[zB.mp B]<;>omega
 |more _ G _ ih =>
  obtain⟨O,H,M⟩:=ih;refine⟨⟨fun x B=>?_,fun x B=>?_,fun x B=>?_⟩,by rw[qF,H];rfl,by omega⟩<;>rcases zE.mp B with z|z
  ·exact O.odd x z
  ·rw[zB.mp z];exact made_odd G
  ·exact O.lo x z
  ·rw[zB.mp z];have:=jQ G;omega
  ·exact O.hi x z
  ·rw[zB.mp z];exact(jQ G).2
section
variable {prog:Program}{w:World}{A:Around}{E:Value->Shared->Prop}{s:Shared}
def kiO (d:Addr)(i n ep:Nat):Obj:={ cls:=.type "dict_keyiterator",data:=.fields #[.ref d,.int i 0,.int n 0,.int ep 0] }
theorem rk_item {it d:Addr}{i ep:Nat}{o:Obj}{es:Array DictEntry}{e:DictEntry}{Q:Option Value->Shared->Prop}(hit:s.heap.get? it=some (kiO d i es.size ep))(hd:s.heap.get? d=some o)(z:o.data=.dict es ep)(hx:es[i]? = some e)
  (hQ:∀B,B.get? it=some (kiO d (i+1) es.size ep)->Heap.SameBut it s.heap B->Q (some e.key) { s with heap:=B }):wpAny (model prog w) A (pyNext (.ref it)) Q E s:=by
 have hT:∀h J U tk G,h.get? it=some (kiO d i es.size ep)->Shared.TypeIs ⟨h,J,U,tk,G⟩ (.ref it) "dict_keyiterator":=fun _ _ _ _ _ e=>⟨_,e,rfl⟩;unfold kiO at hit;obtain⟨oc,od,H,Y⟩:=o;cases z
 obtain⟨hp,g,dd,tk,G⟩:=s;unfold pyNext;refine wpAny_bind (wpAny_attempt (wpAny_callSpecial?_slot (name:=Str.ofString "__next__") ⟨_,hit,rfl⟩ F.slot_dict_keyiterator_next
  (wpAny_call_entry F.slot_dict_keyiterator_next ⟨_,hit,rfl⟩ F.entry_dict_keyiterator_next ?_ (F.args_dict_keyiterator_next_1 _))))
 unfold Builtin.«dict_keyiterator.__next__»
 wp_walk
 have O:((es.size:Int) != (es.size:Int))=false:=by simp
 have e2:((ep:Int) != (ep:Int))=false:=by simp
 have M:¬ ((i:Int)<0):=by omega
 simp only[O,e2,M,zq,if_false,zK,hx]
 wp_walk
 refine⟨_,rfl,wpAny_pure (hQ _ ((Heap.get?_update_self _ hit rfl).trans (congrArg some ?_)) (Heap.SameBut.update ..))⟩
 kernel_rfl
theorem rk_end {it d:Addr}{i ep:Nat}{o:Obj}{es:Array DictEntry}{Q:Option Value->Shared->Prop}(M:A.handled=none)(hit:s.heap.get? it=some (kiO d i es.size ep))(hd:s.heap.get? d=some o)(z:o.data=.dict es ep)(hx:es[i]? = none)
  (Y:∀B,Heap.ExtBut it s.heap B->Q none { s with heap:=B }):wpAny (model prog w) A (pyNext (.ref it)) Q E s:=by
 unfold kiO at hit;obtain⟨oc,od,G,U⟩:=o;cases z
 obtain⟨hp,g,dd,tk,os⟩:=s;unfold pyNext;refine wpAny_bind (wpAny_attempt (wpAny_callSpecial?_slot (name:=Str.ofString "__next__") ⟨_,hit,rfl⟩ F.slot_dict_keyiterator_next
  (wpAny_call_entry F.slot_dict_keyiterator_next ⟨_,hit,rfl⟩ F.entry_dict_keyiterator_next ?_ (F.args_dict_keyiterator_next_1 _))))
 unfold Builtin.«dict_keyiterator.__next__»
 wp_walk
 have O:((es.size:Int) != (es.size:Int))=false:=by simp
 have e2:((ep:Int) != (ep:Int))=false:=by simp
 have J:¬ ((i:Int)<0):=by omega
 simp only[O,e2,J,zq,if_false,zK,hx]
 wp_walk
 unfold raiseNew;refine wpAny_bind (wpAny_handled ?_);rw[show A.in1.handled=none from M];refine wpAny_bind (wpAny_pure (wpAny_throw ?_));refine wpAny_bind (wpAny_isInstance (T:="StopIteration") (b:=true) ⟨_,Heap.get?_push_size _ rfl,rfl⟩ isSubtype_stop ?_);rw[if_pos rfl];exact wpAny_pure (Y _ fun b u H e=>Heap.get?_push_of_some _ (Heap.get?_push_of_some _ ((Heap.get?_update_other _ _ (Ne.symm H)).trans e)))
theorem rk_iter {d:Addr} {ep:Nat} {o:Obj} {es:Array DictEntry} {Q:Value->Shared->Prop} (lo:(d==sysModules)=false) (J:s.heap.get? d=some o) (B:o.cls=.type "dict") (z:o.data=.dict es ep)
  (O:Q (.ref s.heap.objs.size) { s with heap:=s.heap.push (kiO d 0 es.size ep) }):wpAny (model prog w) A (pyIter (.ref d)) Q E s:=by
 have H:s.TypeIs (.ref d) "dict":=⟨o,J,B⟩;refine wpAny_pyIter_slot H F.slot_dict_iter (wpAny_call_entry F.slot_dict_iter H F.entry_dict_iter ?_ (F.args_dict_iter_1 _));obtain⟨oc,Y,G,M⟩:=o;cases z
 cases B
 obtain⟨hp,g,dd,tk,U⟩:=s;unfold Builtin.«dict.__iter__»
 wp_walk
 exact⟨_,rfl,"dict_keyiterator",_,⟨_,Heap.get?_push_size _ rfl,rfl⟩,F.slot_dict_keyiterator_next.lookup,O⟩
end
def RawD (d:Addr)(es:Array DictEntry)(ep:Nat)(h:Heap):Prop:=∃o,h.get? d=some o/\o.cls=.type "dict" /\ o.data=.dict es ep
section
variable {prog:Program}{w:World}{d:Addr}{es:Array DictEntry}{ep:Nat}
theorem raw_walks {A:Around}(hh:A.handled=none){I:Addr}(hne:d≠I):Walks prog w A I [I,d] [I] es.size (fun i v=>∃e,es[i]? = some e/\v=e.key) (fun i h=>h.get? I=some (kiO d i es.size ep)/\RawD d es ep h) where
 sub:=fun b G=>by simp at G;simp[G]
 frame:=fun _ _ _ B hk=>⟨hk I (by simp) _ B.1,by obtain⟨o,H,U⟩:=B.2;exact⟨o,hk d (by simp) _ H,U⟩⟩
 item:=fun i s Q E hi B O=>by
  obtain⟨o,H,U,Y⟩:=B.2
  refine rk_item B.1 H Y (zd hi) fun h' J M=>?_
  exact O _ h' s.toks ⟨_,zd hi,rfl⟩ ⟨J,o,(M.2 d hne).trans H,U,Y⟩ fun b o G e=>(M.2 b (fun z=>G (by simp[z]))).trans e
 done:=fun s Q E B O=>by
  obtain⟨o,H,U,Y⟩:=B.2
  exact rk_end hh B.1 H Y (Array.getElem?_eq_none (zC _)) fun h' he'=>O h' s.toks fun b o G e=>he' b o (fun z=>G (by simp[z])) e
 self:=fun i s Q E B O=>wpAny_pyIter_keyiter (d:=d) (i:=i) (n:=es.size) (ep:=ep) ⟨_,B.1,rfl,rfl⟩ O
theorem raw_src (lo:(d==sysModules)=false):KdlSrc prog w "dict" d d es.size (fun i v=>∃e,es[i]? = some e/\v=e.key) (RawD d es ep) where
 type:=fun _ ⟨o,z,B,_⟩=>⟨o,z,B⟩
 there:=fun _ ⟨o,z,_⟩=>⟨Heap.lt_size z,Heap.lt_size z⟩
 keep:=fun _ _ ⟨o,z,B⟩ M=>⟨o,M d (.inl rfl) _ z,B⟩
 notList:=by decide
 notTuple:=by decide
 hint:=fun _ _ _ _ ⟨o,z,B,_⟩ G=>kdl_hint_dict ⟨o,z,B⟩ G
 iter:=fun A s J ⟨o,z,B,H⟩=>⟨_,_,(fun _ _ G=>rk_iter lo z B H G),raw_walks J (zG (Heap.lt_size z)),⟨Heap.get?_push_size _ rfl,o,Heap.get?_push_of_some _ z,B,H⟩⟩
end
structure TKs (H:Hp) (us:List V) (ks:List (List Key)):Prop where
 len:us.length=ks.length
 at_:∀(j:Nat) (k:List Key),ks[j]? = some k->∃b,us[j]? = some (.ref b)/\H b=some (.tup (k.map kV))
def rListT:List V->Hp->VK->Prop:=fun G H Q=>∃(p:Addr) (z:List (List Key×V)),G=[.ref p]/\H p=some (.dT z)/\∀l B,H l=none->TKs H B (z.map (·.1))->Q (.ref l) (upd H l (.lst B))
theorem call_list_tks {X:Cx}{k:Nat}(hr:Room k X.A):CallR X (.type "list") rListT:=by
 intro pins s σ H xs us Q I r h;obtain⟨p,M,rfl,hp,q⟩:=h;obtain⟨u,rfl,rx⟩:=jn r;cases rx
 obtain⟨z,lo,J,pr,o,es,ep,h1,h2,h3,h4,h5⟩:=(show ObjOk X.prog X.w H s.heap p (.dT M) from I.hok p _ hp);have hl:M.length=J.length:=Paired.length pr;have hes:es.size=J.length:=by rw[<-zD,h4,qC]
 refine kdl_call (raw_src (es:=es) (ep:=ep) lo) hr.hd ⟨o,h1,h2.1,h3⟩ (by omega) fun h' tk B c' kp e it=>?_;have G:∀(j:Nat) (v:Value),B.toList[j]? = some v->∃y,J[j]? = some y/\v=.ref y.2.1:=fun j v hj=>by
  obtain⟨en,O,Y⟩:=it.2 j v (by rw[<-zQ];exact hj);rw[<-zQ,h4,qI]at O;obtain⟨y,hy,rfl⟩:=zy.mp O;exact⟨y,hy,Y⟩
 have al:B.toList.length=J.length:=by rw[zD,it.1,hes]
 have ev:B.toList=(J.map fun y=>y.2.1).map Value.ref:=by
  refine yn fun j=>?_;rw[yF,qI];cases hj:B.toList[j]? with
  |none =>
   have:J.length<=j:=by rw[<-al];exact List.getElem?_eq_none_iff.mp hj
   rw[zX this];rfl
  |some v =>
   obtain⟨y,hy,Y⟩:=G j v hj;rw[hy,Y];rfl
 have pat:∀(j:Nat) (U:List Key×V) (y:List Key×Addr×Value),M[j]? = some U->J[j]? = some y->U.1=y.1/\H y.2.1=some (.tup (U.1.map kV)):=by
  clear G ev q h4 h5 it hl hes z al e hp;induction pr with
  |nil=>intro j U y O;simp at O
  |cons a _ ih =>
   intro j U y O Y;cases j with
   |zero =>
    simp only[zr,Option.some.injEq]at O Y;subst O Y;exact⟨a.1,a.2.1⟩
   |succ j=>exact ih j U y (by simpa using O) (by simpa using Y)
 have tk':TKs H ((J.map fun y=>y.2.1).map V.ref) (M.map (·.1)):=⟨by rw[qC,qC,qC,hl],fun j k hk=>by
  rw[qI]at hk;obtain⟨U,hkv,rfl⟩:=zy.mp hk;have jl:j<J.length:=by rw[<-hl];exact(qB.mp hkv).1
  have hy:=qA jl;exact⟨J[j].2.1,by rw[yF,qI,hy];rfl,(pat j U _ hkv hy).2⟩⟩
 exact⟨.ref s.heap.objs.size,_,I.laid (t':=tk) kp (zC _) (show ObjOk X.prog X.w _ h' _ (.lst _) from⟨by rw[qC,qC];omega,B.toList,c',by rw[ev];exact Js _,by simpa using e⟩),rfl,q _ _ (I.hok.fresh (zC _)) tk'⟩
section
variable {prog:Program}{w:World}{A:Around}{E:Value->Shared->Prop}{s:Shared}
theorem collect_tup {t:Addr}{vs:List Value}{Q:List Value->Shared->Prop}(M:IsTup s.heap t vs.toArray)(hz:vs.length<=1000)
  (h:Q vs { s with heap:=(s.heap.push (seqObj "list" #[] 0)).update s.heap.objs.size (Obj.mapSeq (· ++ vs.toArray)) }):wpAny (model prog w) A (collect (.ref t)) Q E s:=by
 obtain⟨o,G,J,n,H⟩:=M;have tl:t≠s.heap.objs.size:=zG (Heap.lt_size G);have z:(s.heap.push (seqObj "list" #[] 0)).get? t=some o:=Heap.get?_push_of_some _ G;have B:(s.heap.push (seqObj "list" #[] 0)).get? s.heap.objs.size=some (seqObj "list" #[] 0):=Heap.get?_push_size _ rfl;unfold collect;refine wpAny_bind (wpAny_runValue (codeAny_builtin entry_proto_collect' ?_));rw[Around.under_plainId PySem.F.plain_proto_collect _];show wpAny _ _ (newList [] >>= fun l=>again (.builtin "list.__iadd__" ⟨[l,.ref t],[]⟩)) _ _ s
 refine wpAny_bind (wpAny_newList (wpAny_pure ⟨plainId_quiet jb _,codeAny_builtin entry_list_iadd' ?_⟩));rw[Around.under_plainId jb _];show wpAny _ _ (Builtin.List.listExtendWith (.ref s.heap.objs.size) (.ref t) (.ref s.heap.objs.size)) _ _ { s with heap:=s.heap.push (seqObj "list" #[] 0) }
 unfold Builtin.List.listExtendWith;refine wpAny_bind (wpAny_typeOf (T:="tuple") ⟨o,z,J⟩ ?_);have O:Builtin.List.listSameRef (.ref s.heap.objs.size) (.ref t)=false:=by simp[Builtin.List.listSameRef,Ne.symm tl]
 rw[if_pos (by rw[show(Value.type "tuple" == Value.type "tuple")=true from rfl,Bool.or_true])];refine wpAny_bind (listItems_at z H ?_);refine wpAny_bind (listItems_at B rfl ?_);rw[if_neg (by simp)];refine wpAny_bind (listUpdate_at B rfl ?_ (zT _) (by show(#[]++vs.toArray).size<=sizeLine+1;rw[Array.size_append,qM];have:=zm hz;show 0+vs.length<=_;omega));refine wpAny_pure ?_;show wpAny (model prog w) A (load s.heap.objs.size >>= _) Q E _
 refine wpAny_bind (wpAny_load (get?_update_seq B _) ?_);refine wpAny_pure ?_;rw[show((#[]:Array Value)++vs.toArray).toList=vs by simp];exact h
end
def rSortT (K:zA):List V->Hp->VK->Prop:=fun B H Q=>∃(a:Addr) (z:List Int),B=[.ref a]/\SqT K H a (z.map V.int)/\z.length<64/\∀l,H l=none->Q (.ref l) (upd H l (.lst ((sortI z).map V.int)))
theorem call_sortT {X:Cx}(K:zA)(hK:X.K=K:=by rfl):CallR X (.builtin "sorted") (rSortT K):=by
 subst hK;intro pins s σ H xs us Q I r h;obtain⟨a,ks,rfl,ha,J,q⟩:=h;obtain⟨u,rfl,O⟩:=jn r;cases O
 obtain⟨z,M,Y,_⟩:=I.tuple ha;have il:z.length=ks.length:=by rw[<-M.length,qC]
 refine Calls.call_function_entry kind_sorted plain_sorted entry_sorted (args_sorted1 _) ?_;unfold Builtin.«sorted»;refine wpAny_bind (m:=checkCount "sorted" 1 1 _) (wpAny_pure ?_);refine wpAny_bind (collect_tup Y (by omega) ?_);refine wpAny_bind (wpAny_newList ?_ (zm (by omega)));have G:((s.heap.push (seqObj "list" #[] 0)).update s.heap.objs.size (Obj.mapSeq fun x=>x++z.toArray)).objs.size=s.heap.objs.size+1:=by rw[Heap.size_update,size_push']
 have B:(((s.heap.push (seqObj "list" #[] 0)).update s.heap.objs.size (Obj.mapSeq fun x=>x++z.toArray)).push (seqObj "list" z.toArray 0)).get? (s.heap.objs.size+1)=some (seqObj "list" z.toArray 0):=G ▸ Heap.get?_push_size _ rfl;rw[G];refine wpAny_bind (wpAny_holding (wpAny_call_entry slot_list_sort ⟨_,B,rfl⟩ entry_list_sort (list_sort_tree B (jX M) (by omega) fun out ns' a1 a2 a3=>⟨_,rfl,?_⟩) (args_list_sort _)));obtain⟨e,U⟩:=sortedAll_at s.heap z out;refine wpAny_pure ⟨_,rfl,?_⟩;exact J4 (h':=sortedAll s.heap z out) (s:=s) (d:=s.drawn) (tk:=s.toks) I (fun b o q=>sortedAll_old q) (Nat.le_succ _) (vs:=out.toList) (by simpa using U) a1 a2 a3 J q
def moreL (cs:List Int)(top:Int):List Int:=(madeL cs top).filter fun o=>decide (o∉cs)
def growL (cs:List Int)(top:Int):List (List Int):=if moreL cs top=[] then [cs] else (moreL cs top).map fun o=>sortI (cs++[o])
def spGrown:Sp:=fun J H Q _=>∃(c:Addr) (B:List Int) (top:Int),J=[.ref c,.int top]/\H c=some (.tup (B.map V.int))/\OdIn B top/\1<=top/\top<=99/\B.length<=10/\∀l G z,H l=none->Same H z->z l=some (.lst G)->HTs iT z G (growL B top)->Q (.ref l) z
theorem more_len {cs:List Int}{top:Int}(z:top<=99):(moreL cs top).length<=99:=zR (yb _ _) (made_len z)
theorem grow_len {cs:List Int}{top:Int}(z:top<=99):(growL cs top).length<=99:=by
 unfold growL;split
 ·show 1<=99;omega
 ·rw[qC];exact more_len z
theorem op_catCK {X:Cx}(K:zA)(h:X.K=K:=by rfl):OpR X (binaryOp .Add) (rCatC K):=by subst h;exact op_catC
section
variable {σ:St}{H:Hp}{Q:VK}{cs:List Nat}{te:TE}{K:zA}
theorem comp_tupI {l:Addr}{xs:List Int}(f:Int->List Int)(hl:H l=some (.lst (xs.map V.int)))(hz:xs.length<=1000)
  (hb:∀x z (R:VK),x∈xs->Same H z->(∀r U,Same z U->z r=none->U r=some (.tup ((f x).map V.int))->R (.ref r) U)->te (some (.int x)::yG cs σ) z R)
  (hd:∀acc B z,H acc=none->Same H z->z acc=some (.lst B)->HTs iT z B (xs.map f)->Q (.ref acc) z):yU (Itl K l) 1 cs (xF 0) tYes te σ H Q:=by
 refine xz xs.length (fun acc i B z=>Same H z/\z acc=some (.lst B)/\HTs iT z B ((xs.take i).map f)) (zm hz) ?_ ?_ ?_ ?_ ?_ ?_
 ·rintro acc i B z M ⟨s,_⟩;exact⟨xs.map V.int,.int xs[i],SqL.of (s _ _ hl),by rw[qI,qA M];rfl⟩
 ·rintro acc B z ⟨s,_⟩;exact⟨_,SqL.of (s _ _ hl),by rw[qC];exact zC _⟩
 ·intro acc G;exact⟨zP G _,upd_same,hts_nil⟩
 ·rintro acc i B z ⟨_,G,J⟩;exact⟨G,by rw[J.len,qC,qO];omega⟩
 ·rintro acc i B z ts x H2 N hn M ⟨s,G,J⟩ ⟨rfl,Y⟩ hts hN;have Y:=Y _ (SqL.of (s _ _ hl));obtain⟨t0,rfl⟩:∃t0,ts=[t0]:=by
   match ts,hts with
   |[a],_=>exact⟨a,rfl⟩
  rw[yy,JM,if_pos rfl];rw[qI,qA M]at Y;cases Y
  refine hb _ _ _ (List.getElem_mem M) s fun r U s5 nr h5=>?_;have O:=s5 _ _ G;have ra:r≠acc:=(zc G nr).symm;refine⟨O,hN _ [_] _ rfl ⟨yP hn (s.trans s5),upd_same,?_⟩⟩;rw[xL,qA M,yg,zo];exact((J.same s5).chgL O (Chg.upd _)).snoc (by rw[zg ra];exact h5)
 ·rintro acc B z hn ⟨s,G,J⟩;rw[zf]at J;exact hd acc B z hn s G J
end
def notV (cs:List Int):V->Option V:=fun v=>match v with
 |.int o=>if o∈cs then none else some (.int o)
 |_=>none
theorem Jh (cs:List Int):∀B:List Int,(B.map V.int).filterMap (notV cs)=(B.filter fun o=>decide (o∉cs)).map V.int
 |[]=>rfl
 |x::B=>by
  rw[zO,zt,List.filter_cons,Jh cs B]
  by_cases z:x∈cs
  ·rw[show notV cs (V.int x)=none from if_pos z,if_neg (by simpa using z)]
  ·rw[show notV cs (V.int x)=some (V.int x) from if_neg z,if_pos (by simpa using z),zO]
section
variable {X:Cx}{e:Expr}{es:List Expr}{te:TE}{tj:Str->TE}{pos:Pos}
def figI (i:Int):Str:=Str.ofString (toString i)
end
section
variable {X:Cx}
end
section
variable {K:zA}{σ:St}{H:Hp}{Q:VK}{cs:List Nat}{te:TE}
end
def fig (n:Nat):Str:=figI n
section
variable {K:zA}{H:Hp}{Q:VK}
end
theorem szL {n:Nat}(h:n<=10000000):n<=sizeLine:=zR h (by decide)
@[elab_as_elim] theorem absU {C:Hp->Prop} {H B:Hp} {p:Addr} {o:HO} (G:H p=none) (s:Same H B) (k:∀z,Same H z->z p=some o->C z):C (upd B p o):=k _ (yP G s) upd_same
def stS (n:Nat)(l:List Str):Str:=Builtin.Str.glued "\n" (("in " ++ fig n)::l)
def tkey (S:List Int):List Key:=S.map Sum.inl
theorem tkey_kV (S:List Int):(tkey S).map kV=S.map V.int:=by
 unfold tkey;rw[yF];rfl
theorem tkey_inj {S z:List Int}(h:tkey S=tkey z):S=z:=(List.map_inj_right (fun a b e=>by cases e;rfl)).mp h
def rDPT:V->V->V->Hp->(Hp->Prop)->Prop:=fun x y v H R=>∃a b S z,x=.ref a/\y=.ref b/\H a=some (.dT z)/\H b=some (.tup (S.map V.int))/\z.length<sizeLine/\R (upd H a (.dT (xA z (tkey S) v)))
def sDPT (U ty J:TE):TS:=fun D z H=>J z H fun v M=>U z M fun x O=>ty z O fun y B=>rDPT x y v B fun G=>D.nx z G
def rDIT (neg:Bool):R2:=fun y x H Q=>∃a b S z,x=.ref a/\y=.ref b/\H a=some (.dT z)/\H b=some (.tup (S.map V.int))/\Q (.bl (if neg then !(yw z (tkey S)).isSome else (yw z (tkey S)).isSome)) H
def rDGT:R2:=fun x y H Q=>∃a b S z,x=.ref a/\y=.ref b/\H a=some (.dT z)/\H b=some (.tup (S.map V.int))/\∃v,yw z (tkey S)=some v/\Q v H
section
variable {X:Cx}{o i e value:Expr}{pos pos' tpos:Pos}{td ty tv:TE}
theorem ps_dpT (hu:X.A.units+1<cLine)(ho:PE X o td)(hi:PE X i ty)(hv:PE X value tv)(hs:swapsWith value (some (.Subscript o i pos')) pos.line X.env=pure false):PS X (.Assign [.Subscript o i pos'] value pos) (sDPT td ty tv):=by
 intro pins s z H D I h;refine wpAny_Assign_Subscript (thn (hv pins s z H _ I h) fun r O ⟨v,Y,I1,rv,q1⟩=>thn (ho pins O z Y _ I1 q1) fun u s2 ⟨x,H2,I2,rx,G⟩=>thn (hi pins s2 z H2 _ I2 G) fun iv s3 ⟨y,H3,M,ry,J⟩=>?_) hs;obtain⟨a,b,S,U,rfl,rfl,hk,B,hz,q⟩:=J;obtain rfl:u=Value.ref a:=rx;exact d_setItem hu M (DPut.t (v:=v) hk (by rw[tkey_kV];exact B) hz) ry rv fun s4 I4=>⟨z,_,I4,q⟩
end
section
variable {σ:St}{H:Hp}{Q:VK}{D:Ends}{a b:Addr}{v:V}{R:Hp->Prop}
theorem w_sDPT {B ty z:TE}:sDPT B ty z D σ H=(z σ H fun v M=>B σ M fun x O=>ty σ O fun y G=>rDPT x y v G fun J=>D.nx σ J):=rfl
theorem w_dpT:rDPT (.ref a) (.ref b) v H R=∃S z,H a=some (.dT z)/\H b=some (.tup (S.map V.int))/\z.length<sizeLine/\R (upd H a (.dT (xA z (tkey S) v))) :=
 propext ⟨fun⟨J,M,S,z,B,G,q⟩=>by cases B;cases G;exact⟨S,z,q⟩,fun⟨S,z,q⟩=>⟨a,b,S,z,rfl,rfl,q⟩⟩
theorem w_dIT {neg:Bool}:rDIT neg (.ref b) (.ref a) H Q=∃S z,H a=some (.dT z)/\H b=some (.tup (S.map V.int))/\Q (.bl (if neg then !(yw z (tkey S)).isSome else (yw z (tkey S)).isSome)) H :=
 propext ⟨fun⟨J,M,S,z,B,G,q⟩=>by cases B;cases G;exact⟨S,z,q⟩,fun⟨S,z,q⟩=>⟨a,b,S,z,rfl,rfl,q⟩⟩
theorem w_dgT:rDGT (.ref a) (.ref b) H Q=∃S z,H a=some (.dT z)/\H b=some (.tup (S.map V.int))/\∃v,yw z (tkey S)=some v/\Q v H :=
 propext ⟨fun⟨J,M,S,z,B,G,q⟩=>by cases B;cases G;exact⟨S,z,q⟩,fun⟨S,z,q⟩=>⟨a,b,S,z,rfl,rfl,q⟩⟩
theorem w_dnT:tDNewT σ H Q=∀p,H p=none->Q (.ref p) (upd H p (.dT [])):=rfl
end
def KsT (z:List (List Key×V))(B:List (List Int)):Prop:=z.map (·.1)=B.map tkey
theorem valV_isSome {B:Type}[DecidableEq B](z:List (B×V))(k:B):(yw z k).isSome=true↔k∈z.map (·.1):=by
 rw[<-xG,xN];constructor
 ·rintro⟨x,G,e⟩;exact qP.mpr ⟨x,G,of_decide_eq_true e⟩
 ·intro h;obtain⟨x,G,e⟩:=qP.mp h;exact⟨x,G,decide_eq_true e⟩
theorem KsT.mem {B:List (List Key×V)}{G:List (List Int)}(h:KsT B G)(S:List Int):(yw B (tkey S)).isSome=true↔S∈G:=by
 rw[valV_isSome,h];constructor
 ·intro z;obtain⟨J,H,e⟩:=qP.mp z;rw[<-tkey_inj e];exact H
 ·exact fun z=>qP.mpr ⟨S,z,rfl⟩
theorem KsT.put {G:List (List Key×V)}{B:List (List Int)}(h:KsT G B)(S:List Int)(v:V):KsT (xA G (tkey S) v) (if S∈B then B else B++[S]):=by
 unfold KsT xA;by_cases z:S∈B
 ·rw[if_pos z,xG,if_pos ((h.mem S).mpr z)];rw[yF,<-h];refine List.map_congr_left fun x _=>?_;show(if x.1=tkey S then (x.1,v) else x).1=x.1
  split<;>rfl
 ·rw[if_neg z,xG,if_neg (fun y=>z ((h.mem S).mp y)),zo,zo,h];rfl
theorem KsT.len {z:List (List Key×V)}{B:List (List Int)}(h:KsT z B):z.length=B.length:=by
 have:=congrArg List.length h;rw[qC,qC]at this;exact this
theorem tks_hts {H:Hp}{us:List V}{z:List (List Int)}(h:TKs H us (z.map tkey)):HTs iT H us z:=⟨by rw[h.len,qC],fun k S G=>by
 obtain⟨b,J,B⟩:=h.at_ k (tkey S) (by rw[qI,G];rfl)
 rw[tkey_kV]at B
 exact⟨b,J,B⟩⟩
theorem mem_more {S:List Int}{top o:Int}:o∈moreL S top↔o∈madeL S top/\o∉S:=by
 unfold moreL;rw[yO,decide_eq_true_eq]
theorem mem_grow {G S:List Int}{top:Int}:S∈growL G top↔(moreL G top=[]/\S=G)\/∃o∈moreL G top,S=sortI (G++[o]):=by
 unfold growL;split
 ·rename_i h
  rw[zB,h];exact⟨fun e=>.inl ⟨rfl,e⟩,fun z=>z.elim (fun e=>e.2) fun⟨o,B,_⟩=>nomatch B⟩
 ·rename_i h
  rw[qP];exact⟨fun⟨o,B,e⟩=>.inr ⟨o,B,e.symm⟩,fun z=>z.elim (fun e=>absurd e.1 h) fun⟨o,B,e⟩=>⟨o,B,e.symm⟩⟩
structure LevP (top:Int) (k:Nat) (L:List (List Int)):Prop where
 od:∀S∈L,OdIn S top
 len:∀S∈L,S.length<=k
 nd:∀S∈L,S.Nodup
 fr:∀S∈L,(∃own,RchO top k own/\∀x,x∈S↔x∈own)\/(moreL S top=[]/\∃j own,1<=j/\j<=k/\RchO top j own/\∀x,x∈S↔x∈own)
 to:∀own,RchO top k own->∃S∈L,∀x,x∈S↔x∈own
theorem rch_one {top:Int}{own:List Int}(h:RchO top 1 own):own=[1]:=by
 cases h with
 |one=>rfl
 |more z _ _=>cases z
theorem levP_one {top:Int}(B:1<=top):LevP top 1 [[1]]:=by
 refine⟨fun S z=>?_,fun S z=>?_,fun S z=>?_,fun S z=>?_,fun own h=>⟨[1],zB.mpr rfl,by rw[rch_one h];exact fun _=>Iff.rfl⟩⟩<;>rw[zB.mp z]
 ·exact(RchO.one.ok B).1
 ·decide
 ·simp
 ·exact .inl ⟨[1],.one,fun _=>Iff.rfl⟩
theorem mem_sort1 {S:List Int}{o x:Int}:x∈sortI (S++[o])↔x∈S\/x=o:=by
 rw[(yD _).mem_iff,zE,zB]
theorem levP_next {top:Int}{k:Nat}{L L':List (List Int)}(h:LevP top k L)(k1:1<=k)(hL:∀S,S∈L'↔∃B∈L,S∈growL B top):LevP top (k+1) L':=by
 refine⟨fun S hS=>?_,fun S hS=>?_,fun S hS=>?_,fun S hS=>?_,fun own hown=>?_⟩
 ·obtain⟨B,H,M⟩:=(hL S).mp hS;have O:=h.od B H;rcases mem_grow.mp M with⟨_,rfl⟩|⟨o,J,rfl⟩
  ·exact O
  ·have hm:=(mem_more.mp J).1;refine⟨fun x hx=>?_,fun x hx=>?_,fun x hx=>?_⟩<;>rcases mem_sort1.mp hx with z|rfl
   ·exact O.odd x z
   ·exact made_odd hm
   ·exact O.lo x z
   ·have:=jQ hm;omega
   ·exact O.hi x z
   ·exact(jQ hm).2
 ·obtain⟨B,H,M⟩:=(hL S).mp hS;have hl:=h.len B H;rcases mem_grow.mp M with⟨_,rfl⟩|⟨o,J,rfl⟩
  ·omega
  ·rw[(yD _).length_eq,qF,yJ];omega
 ·obtain⟨B,H,M⟩:=(hL S).mp hS;rcases mem_grow.mp M with⟨_,rfl⟩|⟨o,J,rfl⟩
  ·exact h.nd S H
  ·refine(yD _).nodup_iff.mpr ?_;rw[y7];exact⟨h.nd B H,by simp,fun x hx y hy e=>(mem_more.mp J).2 (by rw[<-zB.mp hy,<-e];exact hx)⟩
 ·obtain⟨B,H,M⟩:=(hL S).mp hS;rcases mem_grow.mp M with⟨hn,rfl⟩|⟨o,J,rfl⟩
  ·refine .inr ⟨hn,?_⟩;rcases h.fr S H with⟨own,U,G⟩|⟨_,j,own,j1,jk,U,G⟩
   ·exact⟨k,own,k1,by omega,U,G⟩
   ·exact⟨j,own,j1,by omega,U,G⟩
  ·rcases h.fr B H with⟨own,U,G⟩|⟨hn,_⟩
   ·obtain⟨hm,Y⟩:=mem_more.mp J;refine .inl ⟨own++[o],.more U ((Jg G o).mp hm) (fun z=>Y ((G o).mpr z)),fun x=>?_⟩;rw[mem_sort1,zE,zB,G x]
   ·rw[hn]at J;cases J
 ·cases hown with
  |one=>exact absurd k1 (by omega)
  |@more _ own n U hm Y =>
   obtain⟨B,H,G⟩:=h.to own U;have J:n∈moreL B top:=mem_more.mpr ⟨(Jg G n).mpr hm,fun z=>Y ((G n).mp z)⟩;refine⟨sortI (B++[n]),(hL _).mpr ⟨B,H,mem_grow.mpr (.inr ⟨n,J,rfl⟩)⟩,fun x=>?_⟩;rw[mem_sort1,zE,zB,G x]
def rEqE (K:zA):R2:=fun x y H Q=>∃p q z,x=.ref p/\y=.ref q/\SqL K H p z/\SqL K H q []/\Q (.bl (decide (z.length=0))) H
theorem op_eqE {X:Cx}{k:Nat}(O:Room k X.A):OpR X (compareOp .Eq) (rEqE X.K):=by
 intro pins s σ H x y v u Q I rx ry h;obtain⟨p,q,J,rfl,rfl,hp,Y,U⟩:=h;cases rx
 cases ry
 have hu:X.A.units<cLine:=by have:=O.units;omega
 cases J with
 |nil =>
  have h1:=j4 (xs:=[]) hp rfl;have h2:=j4 (xs:=[]) Y rfl;have:=(rcAt_D 50 _ _ (A:=X.A) (by rw[dep_l];decide) (by have:=O.units;omega) I h1 h2 rfl rfl).2 p rfl;exact this X.prog X.w X.xe _ ⟨.bl _,H,I,rfl,U⟩
 |cons x r =>
  obtain⟨M,rv,pl,_⟩:=I.list hp;obtain⟨z,G,B,_⟩:=I.list Y;have e1:M.toArray.size=r.length+1:=by rw[qM,<-rv.length];rfl
  have e2:z.toArray.size=0:=by rw[qM,<-G.length];rfl
  have:=SeqAt.RcAt.lists_lengths (A:=X.A) pl.isList B.isList (by rw[bne_iff_ne];omega) hu;exact this X.prog X.w X.xe _ ⟨.bl _,H,I,rfl,U⟩
theorem w_eqE {K:zA}{p q:Addr}{H:Hp}{Q:VK}:rEqE K (.ref p) (.ref q) H Q=∃z,SqL K H p z/\SqL K H q []/\Q (.bl (decide (z.length=0))) H :=
 propext ⟨fun⟨M,J,z,B,G,h⟩=>by cases B;cases G;exact⟨z,h⟩,fun⟨z,h⟩=>⟨p,q,z,rfl,rfl,h⟩⟩
theorem atI_gl {xs:List V}{v:V}(h:xs.getLast? = some v):atI xs (-1)=some v:=by
 obtain⟨z,rfl⟩:=List.getLast?_eq_some_iff.mp h;exact atI_last _ _
theorem HTs.chgK {G:Type}{f:G->List V}{H H':Hp}{vs:List V}{xs:List G}{d:Addr}{B:List (Key×V)}(h:HTs f H vs xs)(M:H d=some (.dK B))(C:Chg d H H'):HTs f H' vs xs:=⟨h.len,fun k x e=>by
 obtain⟨p,O,J⟩:=h.at_ k x e
 exact⟨p,O,C _ _ (xt J M (by intro z;cases z)) J⟩⟩
theorem made_nn {S:List Int}{top:Int}:∀n∈madeL S top,0<=n:=fun n z=>by
 have:=jQ z
 omega
theorem rch_nd {top:Int}{k:Nat}{own:List Int}(h:RchO top k own):own.Nodup:=by
 induction h with
 |one=>simp
 |more _ _ z ih =>
  rw[y7];exact⟨ih,by simp,fun x G y B e=>z (by rw[<-zB.mp B,<-e];exact G)⟩
theorem mask_snoc (xs:List Int)(x:Int):maskN (xs++[x])=maskN xs ||| 2^x.toNat:=by rw[mask_app,mask_one]
theorem Inv.thaw {X:Cx}{pins:List (Addr×Obj)}{Y:St}{H:Hp}{s:Shared}{d:Addr}{o:Obj}{B O:List (Key×V)}(I:Inv X pins Y H s)(G:H d=some (.frz o (.dK B)))(h0:X.H₀ d=some (.dK O)):Inv X pins Y (upd H d (.dK B)) s:=by
 have M:∀b,H b=none->b≠d:=fun b e z=>by rw[z,G]at e;cases e
 refine⟨I.ok,I.os,I.bare,⟨I.base.keep,I.base.slot,fun b u e n hx=>?_,I.base.there,fun b J e=>?_,fun b u v e=>?_,fun b ps e=>?_⟩,I.loc,I.cell,?_,fun x c e=>?_,fun p hp=>?_,fun b u e=>?_,I.len⟩
 ·have:=I.base.free b u e n hx;rw[zg (M b this)];exact this
 ·have:=I.base.tups b J e;rw[zg (fun z=>by rw[z,G]at this;cases this)];exact this
 ·have q:=I.base.frzs b u v e;rw[zg (fun z=>by rw[z,h0]at e;cases e)];exact q
 ·obtain⟨more,q⟩:=I.base.tbls b ps e;refine⟨more,?_⟩;rw[zg (fun z=>by rw[z,G]at q;cases q)];exact q
 ·rw[zg (M _ I.free)];exact I.free
 ·rw[zg (M _ (I.freeC x c e))];exact I.freeC x c e
 ·obtain⟨a1,U,a3⟩:=I.pin p hp;refine⟨a1,?_,a3⟩;rw[zg (M _ U)];exact U
 ·have tp:∀c J,H c=some (.tup J)->upd H d (.dK B) c=some (.tup J):=fun c J r=>by
   rw[zg (fun z=>by rw[z,G]at r;cases r)];exact r
  by_cases z:b=d
  ·subst z;rw[upd_same]at e;cases e
   obtain⟨_,q⟩:=I.hok b _ G;exact q
  ·rw[zg z]at e;refine(I.hok b u e).stay (fun c v _ r=>r) (fun c r=>?_) tp;rw[zg (fun z=>by rw[z,G]at r;cases r)];exact r
def tThw (d:Addr)(G:TE):TE:=fun J H Q=>G J H fun x B=>∃o z,B d=some (.frz o (.dK z))/\Q x (upd B d (.dK z))
theorem w_thw {d:Addr}{B:TE}{G:St}{H:Hp}{Q:VK}:tThw d B G H Q=(B G H fun x J=>∃o z,J d=some (.frz o (.dK z))/\Q x (upd J d (.dK z))):=rfl
theorem pe_thw {X:Cx}{e:Expr}{B:TE}{d:Addr}{z:List (Key×V)}(U:X.H₀ d=some (.dK z))(J:PE X e B):PE X e (tThw d B):=by
 intro pins s O H Q I h;refine thn (J pins s O H _ I h) fun v s1 ⟨x,H1,Y,r1,o,M,G,q⟩=>?_;exact⟨x,_,Y.thaw G U,r1,q⟩
def Cov (top:Int)(d:Nat)(z:List Int):Prop:=∃own,RchO top (d+1) own/\∀x∈z,x∈own
def FewIs (top:Int)(most:Nat)(z:List Int)(c:Int):Prop:=(c = -1/\∀d,d<=most -> ¬ Cov top d z)\/∃d:Nat,d<=most/\c=d/\Cov top d z/\∀e,e<d -> ¬ Cov top e z
theorem JH {S B:List Int}{top x:Int}(h:∀y∈S,y∈B)(H:x∈madeL S top):x∈madeL B top:=by
 obtain⟨a,J,b,G,z⟩:=made_pairs.mp H;exact made_pairs.mpr ⟨a,h a J,b,h b G,z⟩
theorem JA {top:Int}{k:Nat}{own:List Int}(h:RchO top k own):(1:Int)∈own:=by
 induction h with
 |one=>exact zB.mpr rfl
 |more _ _ _ ih=>exact zV _ ih
theorem rch_len {top:Int}{k:Nat}{own:List Int}(h:RchO top k own):own.length=k:=by
 induction h with
 |one=>rfl
 |more _ _ _ ih=>rw[qF,ih];rfl
def lackL (S z:List Int):List Int:=z.filter fun o=>decide (o∉S)
def Fin_ (top:Int)(S z:List Int):Prop:=lackL S z=[]\/∃o,lackL S z=[o]/\o∈madeL S top
theorem mem_lack {S z:List Int}{o:Int}:o∈lackL S z↔o∈z/\o∉S:=by
 unfold lackL;rw[yO,decide_eq_true_eq]
theorem fin_cov {top:Int}{k:Nat}{L:List (List Int)}{S B:List Int}(P:LevP top (k+1) L)(hS:S∈L)(no:∀d,d<=k -> ¬ Cov top d B)(f:Fin_ top S B):Cov top (k+1) B/\S.length=k+1/\(∃o,lackL S B=[o])/\∃own,RchO top (k+2) own/\∀x,x∈S++lackL S B↔x∈own:=by
 have sub:lackL S B=[]->∀x∈B,x∈S:=fun e x H=>ya fun z=>by
  have:=mem_lack.mpr ⟨H,z⟩;rw[e]at this;cases this
 rcases P.fr S hS with⟨own,J,G⟩|⟨hn,j,own,j1,jk,J,G⟩
 ·rcases f with e|⟨o,e,Y⟩
  ·exact absurd ⟨own,J,fun x H=>(G x).mp (sub e x H)⟩ (no k (zC _))
  ·have O:=mem_lack.mp (by rw[e];exact zB.mpr rfl:o∈lackL S B);have M:RchO top (k+2) (own++[o]):=.more J ((Jg G o).mp Y) (fun z=>O.2 ((G o).mpr z));refine⟨⟨own++[o],M,fun x H=>?_⟩,?_,⟨o,e⟩,own++[o],M,fun x=>?_⟩
   ·by_cases z:x∈S
    ·exact zV _ ((G x).mp z)
    ·have:=mem_lack.mpr ⟨H,z⟩;rw[e]at this;exact qK _ this
   ·have p:S.Perm own:=(List.perm_ext_iff_of_nodup (P.nd S hS) (rch_nd J)).mpr G;rw[p.length_eq,rch_len J]
   ·rw[e,zE,zE,G x]
 ·rcases f with e|⟨o,e,Y⟩
  ·obtain⟨U,rfl⟩:∃U,j=U+1:=⟨j-1,by omega⟩;exact absurd ⟨own,J,fun x H=>(G x).mp (sub e x H)⟩ (no U (by omega))
  ·have O:=mem_lack.mp (by rw[e];exact zB.mpr rfl:o∈lackL S B);have:=mem_more.mpr ⟨Y,O.2⟩;rw[hn]at this;cases this
theorem nofin_cov {top:Int}{k:Nat}{L:List (List Int)}{B:List Int}(P:LevP top (k+1) L)(nd:B.Nodup)(Y:∀S∈L,¬ Fin_ top S B):¬ Cov top (k+1) B:=by
 rintro⟨J,H,hs⟩;cases H with
 |@more _ own n H hm O =>
  obtain⟨S,hS,M⟩:=P.to own H;refine Y S hS ?_;have lk:∀x∈lackL S B,x=n:=fun x hx=>by
   obtain⟨a,b⟩:=mem_lack.mp hx;rcases zE.mp (hs x a) with z|z
   ·exact absurd ((M x).mpr z) b
   ·exact zB.mp z
  have G:(lackL S B).Nodup:=nd.sublist List.filter_sublist;cases e:lackL S B with
  |nil=>exact .inl e
  |cons x r =>
   have ex:=lk x (by rw[e];exact zJ);cases r with
   |nil=>exact .inr ⟨x,e,by rw[ex];exact(Jg M n).mpr hm⟩
   |cons y s =>
    have U:=lk y (by rw[e];exact zM _ zJ);rw[e,ex,U]at G;simp at G
theorem cov_zero {top:Int}{z:List Int}(h:∃x∈z,x≠1):¬ Cov top 0 z:=by
 rintro⟨own,B,G⟩;obtain⟨x,H,n⟩:=h;have:=G x H;rw[rch_one B]at this;exact n (zB.mp this)
def tP (H:Hp)(v:V)(_:Unit):Prop:=∃(r:Addr) (a b g:Int),v=.ref r/\H r=some (.tup [.int a,.int b,.int g])/\(g=1\/g = -1)
def spWay:Sp:=fun M H Q _=>∃(odd top:Int) (d:Addr) (B:List (Key×V)) (G:List Int),M=[.int odd,.ref d,.int top]/\H d=some (.dK B)/\(B.map fun q=>kV q.1)=G.map V.int/\OdIn G top/\1<=top/\top<=99/\1<=odd/\odd<=top /\
 (∀z,Same H z->odd∉madeL G top->Q .non z) /\
 ∀t (l r g:Int) (J:Nat) z,Same H z->z t=some (.tup [.int l,.int J,.int r,.int g])->l∈G->r∈G->J<=8->(g=1\/g = -1)->coreN (l*2^J+g*r)=odd->Q (.ref t) z
theorem sg_mul {g s:Int}(h:g=1\/g = -1)(h':s=1\/s = -1):g*s=1\/g*s = -1:=by
 rcases h with e|e<;>rcases h' with z|z<;>rw[e,z]<;>decide
theorem dbl_at {top:Int}:∀{n:Nat} {l x:Int} {i:Nat},(dbl l top n)[i]? = some x->x=l*2^i/\i<=n
 |0,l,x,i,h=>by
  unfold dbl at h
  cases i with
  |zero=>simp only[zr,Option.some.injEq]at h;subst h;exact⟨by simp,zC _⟩
  |succ i=>simp at h
 |n+1,l,x,i,h=>by
  unfold dbl at h
  cases i with
  |zero=>simp only[zr,Option.some.injEq]at h;subst h;exact⟨by simp,zT _⟩
  |succ i =>
   rw[xM]at h
   split at h
   ·obtain⟨e,z⟩:=dbl_at h
    refine⟨?_,by omega⟩
    rw[e,Int.pow_succ,xX 2 l,z9,xX 2]
   ·simp at h
theorem not_made {ks:List Int}{top odd:Int}(O:1<=odd)(M:odd<=top)(h:∀l∈ks,∀r∈ks,∀x∈dbl l top 7,coreN (x+r)≠odd/\coreN (x-r)≠odd):odd∉madeL ks top:=fun J=>by
 obtain⟨a,H,b,G,z⟩:=made_pairs.mp J
 rcases(mem_pair.mp z).2 with⟨x,B,e|e⟩|⟨x,B,e|e⟩
 ·exact(h a H b G x B).1 e
 ·exact(h a H b G x B).2 e
 ·exact(h b G a H x B).1 e
 ·exact(h b G a H x B).2 e
section
variable {K:zA}{σ:St}{H:Hp}{Q:VK}{cs:List Nat}{te:TE}
end
theorem first_missing {top:Int}{m:Nat}{own ks:List Int}(h:RchO top m own)(U:(1:Int)∈ks)(J:∃x∈own,x∉ks):∃pre e,(∀x∈pre,x∈ks)/\e∈madeL pre top/\e∈own/\e∉ks:=by
 induction h with
 |one =>
  obtain⟨x,G,n⟩:=J;rw[zB.mp G]at n;exact absurd U n
 |@more k own n Y B M ih =>
  by_cases z:∃x∈own,x∉ks
  ·obtain⟨pre,e,a,b,c,d⟩:=ih z;exact⟨pre,e,a,b,zV _ c,d⟩
  ·obtain⟨x,G,H⟩:=J;have all:∀y∈own,y∈ks:=fun y O=>ya fun q=>z ⟨y,O,q⟩;rcases zE.mp G with q|q
   ·exact absurd (all x q) H
   ·refine⟨own,n,all,B,qK _ (zB.mpr rfl),?_⟩;rw[<-zB.mp q];exact H
theorem sub_len {ks cs:List Int}(z:ks.Nodup)(h:∀x∈ks,x∈cs):ks.length<=cs.length:=z.length_le_of_subset h
theorem sub_lt {ks cs:List Int}{e:Int}(G:ks.Nodup)(h:∀x∈ks,x∈cs)(H:e∈cs)(M:e∉ks):ks.length<cs.length:=by
 have:(ks++[e]).Nodup:=by
  rw[y7];exact⟨G,by simp,fun x B y J z=>M (by rw[<-zB.mp J,<-z];exact B)⟩
 have:=this.length_le_of_subset (l₂:=cs) fun x B=>by
  rcases zE.mp B with q|q
  ·exact h x q
  ·rw[zB.mp q];exact H
 rw[qF,yJ]at this;omega
theorem zAI {ks cs:List Int}(h:ks.length<cs.length)(B:cs.Nodup):∃x∈cs,x∉ks:=ya fun z=>by
 have:=B.length_le_of_subset (l₂:=ks) fun x G=>ya fun q=>z ⟨x,G,q⟩
 omega
def rNeE (K:zA):R2:=fun x y H Q=>∃p q z,x=.ref p/\y=.ref q/\SqL K H p z/\SqL K H q []/\Q (.bl (decide (z.length≠0))) H
theorem op_neE {X:Cx}{k:Nat}(O:Room k X.A):OpR X (compareOp .NotEq) (rNeE X.K):=by
 intro pins s σ H x y v u Q I rx ry h;obtain⟨p,q,J,rfl,rfl,hp,Y,U⟩:=h;cases rx
 cases ry
 have hu:X.A.units<cLine:=by have:=O.units;omega
 cases J with
 |nil =>
  have h1:=j4 (xs:=[]) hp rfl;have h2:=j4 (xs:=[]) Y rfl;have:=neAt_D 50 _ _ (A:=X.A) (by rw[dep_l];decide) (by have:=O.units;omega) I h1 h2 rfl;exact this X.prog X.w X.xe _ ⟨.bl _,H,I,rfl,U⟩
 |cons x r =>
  obtain⟨M,rv,pl,_⟩:=I.list hp;obtain⟨z,G,B,_⟩:=I.list Y;have e1:M.toArray.size=r.length+1:=by rw[qM,<-rv.length];rfl
  have e2:z.toArray.size=0:=by rw[qM,<-G.length];rfl
  have:=SeqAt.RcNeAt.lists_lengths (A:=X.A) pl.isList B.isList (by rw[bne_iff_ne];omega) hu;exact this X.prog X.w X.xe _ ⟨.bl _,H,I,rfl,U⟩
theorem w_neE {K:zA}{p q:Addr}{H:Hp}{Q:VK}:rNeE K (.ref p) (.ref q) H Q=∃z,SqL K H p z/\SqL K H q []/\Q (.bl (decide (z.length≠0))) H :=
 propext ⟨fun⟨M,J,z,B,G,h⟩=>by cases B;cases G;exact⟨z,h⟩,fun⟨z,h⟩=>⟨p,q,z,rfl,rfl,h⟩⟩
def spFin:Sp:=fun J H Q _=>∃(c l:Addr) (z B:List Int) (top:Int),J=[.ref c,.ref l,.int top]/\H c=some (.tup (z.map V.int))/\H l=some (.lst (B.map V.int))/\B.length<=60/\OdIn z top/\1<=top/\top<=99/\z.length<=100/\∀(b:Bool) G,Same H G->(b=true↔Fin_ top z B)->Q (.bl b) G
def spWAll:Sp:=fun J H Q _=>∃(c l:Addr) (z G:List Int),J=[.ref c,.ref l]/\H c=some (.tup (z.map V.int))/\H l=some (.lst (G.map V.int))/\G.length<=60/\z.length<=100/\z≠[]/\∀r B,Same H B->B r=some (.tup ((z++lackL z G).map V.int))->Q (.ref r) B
def askL (xs:List Int):List Int:=sortI (ded (wantC xs))
theorem mem_ask {xs:List Int}{c:Int}:c∈askL xs↔1<c/\∃x∈xs,coreN x=c:=by
 unfold askL;rw[(yD _).mem_iff,jB];unfold wantC;rw[yO,decide_eq_true_eq,qP,And.comm]
theorem ask_nd (xs:List Int):(askL xs).Nodup:=(yD _).nodup_iff.mpr (ji _)
theorem ask_len (xs:List Int):(askL xs).length<=xs.length:=by
 unfold askL;rw[sortI_len];refine zR (ded_len _) ?_;have:=yb (fun c=>decide (1<c)) (xs.map coreN);rw[qC]at this;exact this
theorem few_nil {top:Int}{most:Nat}{z:List Int}(h:z=[]):FewIs top most z 0:=.inr ⟨0,zT _,rfl,⟨[1],.one,fun x B=>by rw[h]at B;cases B⟩,fun e G=>absurd G (Nat.not_lt_zero _)⟩
theorem fin_one {top:Int}{S G:List Int}{o:Int}(e:lackL S G=[o]):Fin_ top S G↔o∈madeL S top :=
 ⟨fun h=>h.elim (fun z=>by rw[e]at z;cases z) fun⟨H,B,h⟩=>by rw[e]at B;cases B;exact h,fun h=>.inr ⟨o,e,h⟩⟩
theorem fin_more {top:Int}{S B:List Int}(h:2<=(lackL S B).length):¬ Fin_ top S B:=fun z=>z.elim (fun e=>by rw[e]at h;exact absurd h (by decide)) fun⟨o,e,_⟩=>by rw[e]at h;exact absurd h (by show ¬ 2<=1;decide)
section
variable {K:zA}{σ:St}{H:Hp}{Q:VK}{cs:List Nat}{tt:TT}
theorem comp_sel {v:Addr}{us:List V}{L:List (List Int)}(Pp:List Int->Prop)(hv:H v=some (.lst us))(ht:HTs iT H us L)(hz:us.length<=1000000)
  (hb:∀t S B (R:Bool->Hp->Prop),S∈L->H t=some (.tup (iT S))->Same H B->(∀b H5,Same B H5->(b=true↔Pp S)->R b H5)->tt (some (.ref t)::yG cs σ) B R)
  (hd:∀acc G B,H acc=none->Same H B->B acc=some (.lst G)->(∀y∈G,∃S∈L,∃t,y=.ref t/\H t=some (.tup (iT S))/\Pp S)->(G=[]->∀S∈L,¬ Pp S)->Q (.ref acc) B) :
  yU (Itl K v) 1 cs (xF 0) tt (tVar 0) σ H Q:=by
 have ul:=ht.len;refine xz us.length (fun acc i G B=>Same H B/\B acc=some (.lst G)/\G.length<=i/\(∀y∈G,∃S∈L,∃t,y=.ref t/\H t=some (.tup (iT S))/\Pp S)/\(G=[]->∀S∈L.take i,¬ Pp S)) (zR hz (by decide)) ?_ ?_ ?_ ?_ ?_ ?_
 ·rintro acc i G B hi ⟨s,_⟩;exact⟨us,us[i],SqL.of (s _ _ hv),qA hi⟩
 ·rintro acc G B ⟨s,_⟩;exact⟨us,SqL.of (s _ _ hv),zC _⟩
 ·intro acc M;exact⟨zP M _,upd_same,zC _,fun y Y=>(nomatch Y),fun _ S hS=>(nomatch hS)⟩
 ·rintro acc i G B ⟨s,M,hl,_⟩;exact⟨M,hl⟩
 ·rintro acc i G B ts x H2 N hn hi ⟨s,M,hl,Y,J⟩ ⟨rfl,hx⟩ hts hN;have hx:=hx us (SqL.of (s _ _ hv));obtain⟨t0,rfl⟩:∃t0,ts=[t0]:=xW.mp hts;have hiL:i<L.length:=by rw[<-ul];exact hi
  obtain⟨t,hy1,U⟩:=ht.at_ i _ (qA hiL);have O:L[i]? = some L[i]:=qA hiL;generalize L[i]=S at U O;rw[hx]at hy1;cases hy1
  have hm:=qE O;rw[yy];refine hb t S _ _ hm U s fun b H5 s5 aa=>?_;have ha5:=s5 _ _ M;cases b with
  |true =>
   rw[if_pos rfl];refine⟨_,rfl,ha5,hN _ [_] _ rfl ⟨yP hn (s.trans s5),upd_same,by rw[qF];exact Nat.succ_le_succ hl,fun y h=>?_,fun e=>by simp at e⟩⟩;rcases zE.mp h with z|z
   ·exact Y y z
   ·exact⟨S,hm,t,zB.mp z,U,aa.mp rfl⟩
  |false =>
   rw[if_neg (by decide)];refine hN _ [_] _ rfl ⟨s.trans s5,ha5,Nat.le_succ_of_le hl,Y,fun e S' h=>?_⟩;rw[xL,O,yg]at h;rcases zE.mp h with z|z
   ·exact J e S' z
   ·rw[zB.mp z];exact fun p=>absurd (aa.mpr p) (by decide)
 ·rintro acc G B hn ⟨s,M,hl,Y,J⟩;rw[ul,zf]at J;exact hd acc G B hn s M Y J
end
def tRevL (J:TE)(M:TO):TE:=fun B H Q=>J B H fun x O=>M B O fun U z=>U=some (-1)/\∃a G,x=.ref a/\z a=some (.lst G)/\∀p,z p=none->Q (.ref p) (upd z p (.lst G.reverse))
theorem w_revL {G:TE}{J:TO}{z:St}{H:Hp}{Q:VK}:tRevL G J z H Q=(G z H fun x O=>J z O fun U B=>U=some (-1)/\∃a M,x=.ref a/\B a=some (.lst M)/\∀p,B p=none->Q (.ref p) (upd B p (.lst M.reverse))):=rfl
theorem w_dget1 {J ty:TE}{z:St}{H:Hp}{Q:VK}:tDGet1 J ty z H Q=(J z H fun x B=>∃a,x=.ref a/\IsD B a/\ty z B fun y G=>∃o,DGet G a y o/\Q (o.getD .non) G):=rfl
theorem core_made {own:Int}{k:Nat}{g:Int}(H:1<=own)(z:own%2=1)(B:g=1\/g = -1):coreN (own*2^k*g)=own/\own*2^k*g≠0:=by
 have G:(0:Int)<2^k:=Int.pow_pos (by decide);have p:0<own*2^k:=Int.mul_pos (by omega) G;have c:coreN (own*2^k)=own:=core_is (k:=k) (by omega) z (by omega);rcases B with rfl|rfl
 ·rw[yA];exact⟨c,by omega⟩
 ·rw[Int.mul_neg,yA,coreN_neg];exact⟨c,by omega⟩
section
variable {K:zA}{σ:St}{H:Hp}{Q:VK}{cs:List Nat}{te:TE}
end
section
variable {K:zA}{σ:St}{H:Hp}{Q:VK}{cs:List Nat}{te:TE}{tt:TT}
end
section
variable {X:Cx}{pins:List (Addr×Obj)}{σ:St}{H:Hp}{s:Shared}
end
section
variable {n:Nat}{ds:List Wd}{gs:List Go}{bs:List Bool}
end
section
variable {n i:Nat}{R:List (List Int)}{kvs:List (List Key×V)}{es:List Wd}
end
section
variable {K:zA}{σ:St}{H:Hp}{Q:VK}{cs:List Nat}{te:TE}
end
section
variable {n i:Nat}{R:List (List Int)}{kvs:List (List Key×V)}{es:List Wd}
end
section
variable {n i:Nat}{ds:List Wd}{gs:List Go}{ms:List Nat}
end
section
variable {K:zA}{σ:St}{H:Hp}{Q:VK}{cs:List Nat}{te:TE}
end
section
variable {ins m:Nat}{s1 s2:List Wd}{t1 t2:List Go}
end
section
variable {ins:Nat}{ds:List Wd}{gs:List Go}{μ:List Int}{B:Int}
end
def advM (m:Nat)(p:SetTable.Probe):SetTable.Probe :=
 if p.more>0 then { p with j:=p.j+1,more:=p.more-1 } else
 { p with j:=(p.i*5+1+p.perturb/32)%(m+1),more:=SetTable.runEnd m ((p.i*5+1+p.perturb/32)%(m+1))-(p.i*5+1+p.perturb/32)%(m+1),i:=(p.i*5+1+p.perturb/32)%(m+1),perturb:=p.perturb/32 }
def pn (m:Nat):Nat->SetTable.Probe->SetTable.Probe
 |0,p=>p
 |n+1,p=>pn m n (advM m p)
def fM (m x:Nat):Nat:=(x*5+1)%(m+1)
def stP (m:Nat)(x:Int):SetTable.Probe:={ j:=SetTable.bits x%(m+1),more:=SetTable.runEnd m (SetTable.bits x%(m+1))-SetTable.bits x%(m+1),i:=SetTable.bits x%(m+1),perturb:=SetTable.bits x,dummy:=none }
def sl (m:Nat)(x:Int)(n:Nat):Nat:=(pn m n (stP m x)).j
section
variable {led:Bool}{t:SetTable}{es:Array (Int×Value)}
end
section
variable {prog:Program}{w:World}{ok:Addr->Prop}{A:Around}{E:Value->Shared->Prop}{s:Shared}
end
section
variable {prog:Program}{w:World}{ok:Addr->Prop}{A:Around}{R:Result->Shared->Prop}{I:Addr}{fp wr:List Addr}{G:Array GenState->Array GenState->Prop}{P:Nat->Value->Prop}{St:Nat->Shared->Prop}
end
section
variable {prog:Program}{w:World}{A:Around}{E:Value->Shared->Prop}{s:Shared}
end
section
variable {K:zA}{σ:St}{H:Hp}{Q:VK}{cs:List Nat}{te:TE}
end
structure Met (n:Nat) (ds:List Wd) (gs:List Go) (i:Nat) (ms:List Nat):Prop where
 snd:∀m∈ms,Rch n ds gs m
 root:∀g∈gs,g.sg≠0->g.th∈ms
 cl:∀(k:Nat) d,ds.length<=k+i->ds[k]? = some d->d.a∈ms/\d.b∈ms
 all:∀k,ds.length<=k+i->k<ds.length->Rch n ds gs (n+k)
section
variable {ins:Nat}{ds:List Wd}{gs:List Go}{bs:List Bool}
end
section
variable {n:Nat}{ds:List Wd}{gs:List Go}{bs:List Bool}
end
section
variable {n i:Nat}{R:List (List Int)}{kvs:List (List Key×V)}{es:List Wd}
end
def nm (ds:List Wd):List Int:=(rowsW 1 ds).map fun r=>r.headD 0
def spBtwG:Sp:=fun G H Q _=>∃n z B:Int,G=[.int n,.int z,.int B]/\z<=n/\n<=B/\Q (.bl true) H
theorem sqT_chgO {K:zA}{H H':Hp}{l p:Addr}{xs:List V}{o:HO}(h:SqT K H p xs)(G:H l=some o)(J:∀B,o≠.tup B)(M:∀a B,o≠.frz a (.tup B))(C:Chg l H H'):SqT K H' p xs:=by
 rcases h with(h|⟨a,h⟩)|h
 ·exact .inl (.inl (C _ _ (xt h G (fun z=>J _ z.symm)) h))
 ·exact .inl (.inr ⟨a,C _ _ (xt h G (fun z=>M _ _ z.symm)) h⟩)
 ·exact .inr h
theorem mvI_0' (n:Int):mvI 0 n=n:=by rw[mvI_up (by decide)];show n*2^0=n;rw[y8,yA]
structure PrtE (ds:List Wd) (odd:Int) (p:Go):Prop where
 ok:PtOkV (1+ds.length) (valsW [1] ds) p
 sg:p.sg=1\/p.sg = -1
 val:outV (valsW [1] ds) p=odd
 lo:-40<=p.sh
 hi:p.sh<=0
theorem PrtE.more {ds:List Wd}{odd:Int}{p:Go}(h:PrtE ds odd p)(d:Wd):PrtE (ds++[d]) odd p:=by
 have z:=h.ok.th;have e:(valsW [1] (ds++[d])).getD p.th 0=(valsW [1] ds).getD p.th 0:=zAC (xs:=[1]) (by show p.th<1+ds.length;exact z);refine⟨⟨by rw[qF];omega,h.ok.sg,by rw[e];exact h.ok.ex⟩,h.sg,?_,h.lo,h.hi⟩;unfold outV;rw[e];exact h.val
def tE (K:zA)(ds:List Wd)(H:Hp)(v:V)(odd:Int):Prop:=∃(r:Addr) (p:Go),v=.ref r/\SqT K H r (gTp p)/\PrtE ds odd p
theorem tE.same {K:zA}{ds:List Wd}{H H':Hp}{v:V}{x:Int}(h:tE K ds H v x)(s:Same H H'):tE K ds H' v x:=by
 obtain⟨r,p,e,B,z⟩:=h;exact⟨r,p,e,s.seqT B,z⟩
theorem tE.chg {K:zA}{ds:List Wd}{H H':Hp}{v:V}{x:Int}{l:Addr}{o:HO}(h:tE K ds H v x)(M:H l=some o)(G:∀z,o≠.tup z)(J:∀a z,o≠.frz a (.tup z))(C:Chg l H H'):tE K ds H' v x:=by
 obtain⟨r,p,e,O,B⟩:=h;exact⟨r,p,e,sqT_chgO O M G J C,B⟩
theorem tE.more {K:zA}{ds:List Wd}{H:Hp}{v:V}{x:Int}(h:tE K ds H v x)(d:Wd):tE K (ds++[d]) H v x:=by
 obtain⟨r,p,e,B,z⟩:=h;exact⟨r,p,e,B,z.more d⟩
def ksI (ks:List Int):List (Int×Int):=ks.map fun k=>(k,k)
theorem ksI_keys (ks:List Int):(ksI ks).map (·.1)=ks:=by
 unfold ksI;rw[yF];exact List.map_id _
theorem lk_ksI {ks:List Int}{a:Int}(h:a∈ks):lk (ksI ks) a=some a:=by
 cases e:lk (ksI ks) a with
 |none =>
  have:=lk_none.mp e;rw[ksI_keys]at this;exact absurd h this
 |some u =>
  have:=lk_mem e;unfold ksI at this;obtain⟨k,_,z⟩:=qP.mp this;cases z
  rfl
theorem lk_ksI_no {ks:List Int}{a:Int}(h:a∉ks):lk (ksI ks) a=none:=lk_none.mpr (by rw[ksI_keys];exact h)
structure RwE (cs:List Int) (ds:List Wd):Prop where
 dk:∀(k:Nat) (d:Wd),ds[k]? = some d->d.a<1+k/\d.b<1+k/\(d.w = "sum" \/ d.w = "less")/\(Ex d.s ((valsW [1] ds).getD d.a 0) /\ -40<=d.s/\d.s<=40)/\(Ex d.t ((valsW [1] ds).getD d.b 0) /\ -40<=d.t/\d.t<=40)
 co:∀v∈valsW [1] ds,v≠0/\coreN v∈cs/\v.natAbs<2^20
theorem rwE_nil {cs:List Int}(h:(1:Int)∈cs):RwE cs []:=⟨fun k d e=>by simp at e,fun v z=>by
 rw[zB.mp (show v∈[(1:Int)] from z)]
 exact⟨by decide,by rw[show coreN 1=1 by decide];exact h,by decide⟩⟩
theorem core_sgn {g n:Int}(B:g=1\/g = -1)(h:n≠0):coreN (g*n)=coreN n:=by
 obtain⟨M,H,a,O,J,G,U⟩:=yW h;have e:g*n=coreN n*2^a*(g*sgN n):=by
  conv=>lhs;rw[<-J]
  ac_rfl
 rw[e];exact(core_made (by omega) H (by rcases B with z|z<;>rcases G with y|y<;>rw[z,y]<;>decide)).1
theorem add_core {cs:List Int}{ds:List Wd}(R:RwE cs ds){l r g odd:Int}{B:Nat}{p q:Go}(O:PrtE ds l p)(M:PrtE ds r q)(hg:g=1\/g = -1)(s8:B<=8)(l0:1<=l)(l9:l<=99)(r0:1<=r)(r9:r<=99)(hc:coreN (l*2^B+g*r)=odd)(o1:1<=odd)(oc:odd∈cs) :
  l*2^B+g*r≠0/\addG 1 ds (movG p B 1) (movG q 0 g)=ds++[deedG (movG p B 1) (movG q 0 g)]/\RwE cs (ds++[deedG (movG p B 1) (movG q 0 g)])/\PrtE (ds++[deedG (movG p B 1) (movG q 0 g)]) odd (movG (addP 1 ds (movG p B 1) (movG q 0 g)) (-(shN (l*2^B+g*r))) (sgN (l*2^B+g*r))):=by
 have nz:l*2^B+g*r≠0:=fun z=>by
  rw[z,Ju]at hc;omega
 have hsh:(0:Int)<=(B:Int):=by omega
 obtain⟨m1,m2⟩:=mov_val O.ok (by omega) (.inl rfl) (s:=(B:Int)) (g:=1) (fun z=>by omega);obtain⟨Y,n2⟩:=mov_val M.ok (by omega) hg (s:=0) (g:=g) (fun z=>absurd z (by decide));rw[O.val,mvI_up hsh,zK,y9]at m2;rw[M.val,mvI_0']at n2;have sp:(movG p B 1).sg=p.sg:=by
  unfold movG;rw[if_neg (by rw[yA];rcases O.sg with z|z<;>rw[z]<;>decide),yA]
 have sq:(movG q 0 g).sg=q.sg*g:=by
  unfold movG;rw[if_neg (by rcases M.sg with z|z<;>rcases hg with y|y<;>rw[z,y]<;>decide)]
 have H:(movG p B 1).sg=1\/(movG p B 1).sg = -1:=by rw[sp];exact O.sg
 have J:(movG q 0 g).sg=1\/(movG q 0 g).sg = -1:=by rw[sq];exact sg_mul M.sg hg
 have sh1:(movG p B 1).sh=p.sh+B:=by
  unfold movG;rw[if_neg (by rw[yA];rcases O.sg with z|z<;>rw[z]<;>decide)]
 have sh2:(movG q 0 g).sh=q.sh+0:=by
  unfold movG;rw[if_neg (by rcases M.sg with z|z<;>rcases hg with y|y<;>rw[z,y]<;>decide)]
 generalize movG p B 1=P at m1 m2 H sh1;generalize movG q 0 g=Q at Y n2 J sh2;have plo:=O.lo;have phi:=O.hi;have qlo:=M.lo;have qhi:=M.hi;have dv:=deedG_val (vs:=valsW [1] ds) H J;rw[m2,n2]at dv;have ag:addG 1 ds P Q=ds++[deedG P Q]:=by
  unfold addG;rw[if_neg (by rcases H with z|z<;>rw[z]<;>decide),if_neg (by rcases J with z|z<;>rw[z]<;>decide)]
 have ap:addP 1 ds P Q=⟨1+ds.length,0,xY P Q⟩:=by
  unfold addP;rw[if_neg (by rcases H with z|z<;>rw[z]<;>decide),if_neg (by rcases J with z|z<;>rw[z]<;>decide)]
 have sgn:xY P Q=1\/xY P Q = -1:=by
  unfold xY;split
  ·exact H
  ·exact .inl rfl
 generalize hS:l*2^B+g*r=S at nz hc dv ⊢;have vS:valD (valsW [1] ds) (deedG P Q)=xY P Q*S:=by
  rw[<-dv,<-z9];rcases sgn with z|z<;>rw[z]<;>simp
 have bS:S.natAbs<2^20:=by
  have p8:(2:Int)^B<=256:=by
   have:=p2le (e:=B) (k:=8) s8;omega
  have pp:=xI B;have:l*2^B<=99*256:=Int.mul_le_mul l9 p8 (by omega) (by decide);have l2:0<=l*2^B:=Int.mul_nonneg (by omega) (by omega);rcases hg with z|z<;>rw[z]at hS<;>omega
 have vl:=valsW_len [1] ds;have tP:=m1.th;have tQ:=Y.th;have vv:∀j,j<1+ds.length->(valsW [1] (ds++[deedG P Q])).getD j 0=(valsW [1] ds).getD j 0:=fun j hj=>zAC (xs:=[1]) hj;have G:(deedG P Q).a<1+ds.length/\(deedG P Q).b<1+ds.length/\((deedG P Q).w = "sum" \/ (deedG P Q).w = "less")/\(Ex (deedG P Q).s ((valsW [1] ds).getD (deedG P Q).a 0) /\ -40<=(deedG P Q).s/\(deedG P Q).s<=40)/\(Ex (deedG P Q).t ((valsW [1] ds).getD (deedG P Q).b 0) /\ -40<=(deedG P Q).t/\(deedG P Q).t<=40):=by
  unfold deedG;split
  ·exact⟨tP,tQ,.inl rfl,⟨m1.ex,by show -40<=P.sh;omega,by show P.sh<=40;omega⟩,⟨Y.ex,by show -40<=Q.sh;omega,by show Q.sh<=40;omega⟩⟩
  ·split
   ·exact⟨tP,tQ,.inr rfl,⟨m1.ex,by show -40<=P.sh;omega,by show P.sh<=40;omega⟩,⟨Y.ex,by show -40<=Q.sh;omega,by show Q.sh<=40;omega⟩⟩
   ·exact⟨tQ,tP,.inr rfl,⟨Y.ex,by show -40<=Q.sh;omega,by show Q.sh<=40;omega⟩,⟨m1.ex,by show -40<=P.sh;omega,by show P.sh<=40;omega⟩⟩
 generalize deedG P Q=d at vS vv G ag ⊢;have U:(valsW [1] (ds++[d])).getD (1+ds.length) 0=xY P Q*S:=by
  rw[jh,getD_of (x:=valD (valsW [1] ds) d),vS];rw[qG (by rw[vl];exact zC _),vl];show [_][1+ds.length-(1+ds.length)]? = _
  rw[xU];rfl
 refine⟨nz,ag,⟨fun k e he=>?_,fun v hv=>?_⟩,?_⟩
 ·rcases get_snoc he with⟨hk,z⟩|⟨hk,rfl⟩
  ·obtain⟨a,b,c,⟨d1,d2⟩,e1,e2⟩:=R.dk k e z;refine⟨a,b,c,⟨by rw[vv _ (by omega)];exact d1,d2⟩,by rw[vv _ (by omega)];exact e1,e2⟩
  ·obtain⟨a,b,c,⟨d1,d2⟩,e1,e2⟩:=G;rw[hk];exact⟨a,b,c,⟨by rw[vv _ a];exact d1,d2⟩,by rw[vv _ b];exact e1,e2⟩
 ·rw[jh]at hv;rcases zE.mp hv with z|z
  ·exact R.co v z
  ·rw[zB.mp z,vS];refine⟨Int.mul_ne_zero (by rcases sgn with y|y<;>rw[y]<;>decide) nz,by rw[core_sgn sgn nz,hc];exact oc,?_⟩;rw[Int.natAbs_mul];rcases sgn with y|y<;>rw[y]<;>simpa using bS
 ·rw[ap];obtain⟨c1,c2,k,c3,c4,c5,c6,c7,_⟩:=yW nz;have pt0:PtOkV (1+(ds++[d]).length) (valsW [1] (ds++[d])) ⟨1+ds.length,0,xY P Q⟩:=⟨by rw[qF];show 1+ds.length<1+(ds.length+1);omega,.inr sgn,fun z=>absurd (show(0:Int)<0 from z) (by decide)⟩;have ov:outV (valsW [1] (ds++[d])) ⟨1+ds.length,0,xY P Q⟩=S:=by
   unfold outV;show xY P Q*mvI 0 ((valsW [1] (ds++[d])).getD (1+ds.length) 0)=S
   rw[U,mvI_0',<-z9];rcases sgn with y|y<;>rw[y]<;>simp
  have exS:Ex (-(shN S)) S:=fun _=>by
   rw[c3,Int.neg_neg,zK];refine⟨coreN S*sgN S,?_⟩
   conv=>lhs;rw[<-c4]
   ac_rfl
  obtain⟨x1,x2⟩:=mov_val pt0 (by omega) c5 (s:=-(shN S)) (g:=sgN S) (by rw[ov];exact exS);rw[ov]at x2;have mS:sgN S*mvI (-(shN S)) S=odd:=by
   rw[c3];have:mvI (-(k:Int)) S=coreN S*sgN S:=by
    refine(Sx.ex ?_).2;unfold Sx;rw[Int.neg_neg,zK,show(-(k:Int)).toNat=0 by omega,y8,yA]
    conv=>rhs;rw[<-c4]
    ac_rfl
   rw[this,hc];rcases c5 with y|y<;>rw[y]<;>simp
  have k20:k<20:=(Nat.pow_lt_pow_iff_right (by decide:1<2)).mp (yi c7 bS);have shape:movG ⟨1+ds.length,0,xY P Q⟩ (-(shN S)) (sgN S)=⟨1+ds.length,0 + -(shN S),xY P Q*sgN S⟩:=by
   unfold movG;rw[if_neg (by show xY P Q*sgN S≠0;rcases sgn with y|y<;>rcases c5 with z|z<;>rw[y,z]<;>decide)]
  refine⟨x1,?_,by rw[x2,mS],?_,?_⟩
  ·rw[shape];exact sg_mul sgn c5
  ·rw[shape];show -40<=0 + -(shN S)
   omega
  ·rw[shape];show 0 + -(shN S)<=0
   omega
def spAddCE (K:zA):Sp:=fun vs H Q _=>∃(l d t:Addr) (Y:List V) (z:List Wd) (B:List (Key×V)) (M cs:List Int) (a r g odd:Int) (U:Nat),vs=[.ref l,.ref d,.ref t]/\H l=some (.lst Y)/\HTs wTup H Y z/\Y.length<=60/\H d=some (.dK B)/\DV (tE K z H) B (ksI M)/\H t=some (.tup [.int a,.int U,.int r,.int g])/\a∈M/\r∈M/\U<=8/\(g=1\/g = -1)/\coreN (a*2^U+g*r)=odd/\1<=odd/\odd∈cs/\(∀k∈M,1<=k/\k<=99)/\RwE cs z /\
 ∀v J O G,Chg l H G->G l=some (.lst J)->HTs wTup G J (z++[O])->RwE cs (z++[O])->tE K (z++[O]) G v odd->Q v G
def spOutE (K:zA):Sp:=fun M H Q _=>∃(x:Int) (d:Addr) (z:List (Key×V)) (J:List Int) (B:List Wd),M=[.int x,.ref d]/\H d=some (.dK z)/\DV (tE K B H) z (ksI J)/\(x=0\/coreN x∈J)/\x.natAbs<2^300 /\
 ∀r p G,Same H G->SqT K G r (gTp p)->PtOkV (1+B.length) (valsW [1] B) p->outV (valsW [1] B) p=x->(x=0->p=⟨0,0,0⟩)->(x≠0->p.sg≠0) -> -40<=p.sh->p.sh<=400->Q (.ref r) G
def spRowE (K:zA):Sp:=fun vs H Q _=>∃(c l:Addr) (B G:List Int) (top:Int),vs=[.ref c,.ref l,.int top]/\H c=some (.tup (B.map V.int))/\H l=some (.lst (G.map V.int))/\G.length<=60/\(∀x∈G,x.natAbs<2^300)/\B.Nodup/\B.length<=60/\(∃m own,RchO top m own/\∀x,x∈B↔x∈own)/\1<=top/\top<=99/\(∀x∈G,x=0\/coreN x∈B) /\
 ∀w dl Y U O J M z,Same H z->z w=some (.tup [.int 1,.ref dl,.ref Y])->z dl=some (.lst U)->HTs wTup z U J->z Y=some (.lst O)->HKs K gTp z O M->J.length+1=B.length->RwE B J->M.length=G.length ->
  (∀(i:Nat) n p,G[i]? = some n->M[i]? = some p->PtOkV (1+J.length) (valsW [1] J) p/\outV (valsW [1] J) p=n/\(n=0->p=⟨0,0,0⟩)/\(n≠0->p.sg≠0) /\ -40<=p.sh/\p.sh<=400)->Q (.ref w) z
section
variable {K:zA}{σ:St}{H:Hp}{Q:VK}{cs:List Nat}{te:TE}
theorem comp_intK {l:Addr}{xs:List Int}(Rl:Int->Go->Prop)(hl:H l=some (.lst (xs.map V.int)))(hz:xs.length<=1000)
  (hb:∀(i:Nat) x B (R:VK),xs[i]? = some x->Same H B->(∀r p H5,Same B H5->SqT K H5 r (gTp p)->Rl x p->R (.ref r) H5)->te (some (.int x)::yG cs σ) B R)
  (hd:∀acc J G B,H acc=none->Same H B->B acc=some (.lst J)->HKs K gTp B J G->G.length=xs.length->(∀(i:Nat) n p,xs[i]? = some n->G[i]? = some p->Rl n p)->Q (.ref acc) B):yU (Itl K l) 1 cs (xF 0) tYes te σ H Q:=by
 refine xz xs.length (fun acc i J B=>∃G:List Go,Same H B/\B acc=some (.lst J)/\HKs K gTp B J G/\G.length=i/\∀(i:Nat) n p,xs[i]? = some n->G[i]? = some p->Rl n p) (zm hz) ?_ ?_ ?_ ?_ ?_ ?_
 ·rintro acc i J B hi ⟨_,s,_⟩;exact⟨xs.map V.int,.int xs[i],SqL.of (s _ _ hl),by rw[qI,qA hi];rfl⟩
 ·rintro acc J B ⟨_,s,_⟩;exact⟨xs.map V.int,SqL.of (s _ _ hl),by rw[qC];exact zC _⟩
 ·intro acc O;exact⟨[],zP O _,upd_same,hks_nil,rfl,fun i n p _ h=>by simp at h⟩
 ·rintro acc i J B ⟨G,s,O,hk,e,_⟩;exact⟨O,by rw[hk.len,e];exact zC _⟩
 ·rintro acc i J B ts x H2 N hn hi ⟨G,s,O,hk,e,hB⟩ ⟨rfl,M⟩ hts hN;have M:=M _ (SqL.of (s _ _ hl));obtain⟨t0,rfl⟩:∃t0,ts=[t0]:=xW.mp hts;have U:xs[i]? = some xs[i]:=qA hi;rw[qI,U]at M;cases M
  rw[yy,JM,if_pos rfl];refine hb i _ _ _ U s fun r p H5 s5 h5 rl=>?_;have aa:=s5 _ _ O;refine⟨aa,hN _ [_] _ rfl ⟨G++[p],yP hn (s.trans s5),upd_same,((hk.same s5).snoc h5).chgL aa (Chg.upd _),by rw[qF,e];rfl,fun k n p' Y hp'=>?_⟩⟩;rcases get_snoc hp' with⟨_,z⟩|⟨kl,rfl⟩
  ·exact hB k n p' Y z
  ·rw[kl,e,U]at Y;cases Y
   exact rl
 ·rintro acc J B hn ⟨G,s,O,hk,e,hB⟩;exact hd acc J G B hn s O hk e hB
end
def spLevX:Sp:=fun O H Q _=>∃(l:Addr) (z:List V) (top:Int) (G:List (List Int)),O=[.ref l,.int top]/\H l=some (.lst z)/\1<=top/\top<=99/\z.length<=3 /\
 (z≠[]->∃(r:Addr) (B:List V),z.getLast? = some (.ref r)/\H r=some (.lst B)/\HTs iT H B G/\LevP top z.length G/\G.length<=99^(z.length-1)) /\
 ∀r B L J,H r=none->Same H J->J r=some (.lst B)->HTs iT J B L->LevP top (z.length+1) L->L.length<=99^z.length->(z=[]->L=[[1]])->(z≠[]->∀S,S∈L↔∃M∈G,S∈growL M top)->Q (.ref r) J
structure Lvs (top:Int) (as:List Int) (Ls:List (List (List Int))):Prop where
 lev:∀(i:Nat) L,Ls[i]? = some L->LevP top (i+1) L
 one:∀L,Ls[0]? = some L->L=[[1]]
 nx:∀(i:Nat) L L',Ls[i]? = some L->Ls[i+1]? = some L'->∀S,S∈L'↔∃S0∈L,S∈growL S0 top
 no:∀L∈Ls,∀S∈L,¬ Fin_ top S as
theorem lvs_nil {top:Int}{z:List Int}:Lvs top z []:=⟨fun i L h=>by simp at h,fun L h=>by simp at h,fun i L B h=>by simp at h,fun L h=>by cases h⟩
theorem Lvs.snoc {top:Int}{J:List Int}{G:List (List (List Int))}{L:List (List Int)}(h:Lvs top J G)(hl:LevP top (G.length+1) L)(h0:G=[]->L=[[1]])(hn:∀O,G.getLast? = some O->∀S,S∈L↔∃Y∈O,S∈growL Y top)(no:∀S∈L,¬ Fin_ top S J):Lvs top J (G++[L]):=by
 refine⟨fun i M B=>?_,fun M B=>?_,fun i M U B H=>?_,fun M B=>?_⟩
 ·rcases get_snoc B with⟨_,z⟩|⟨z,rfl⟩
  ·exact h.lev i M z
  ·rw[z];exact hl
 ·rcases get_snoc B with⟨_,z⟩|⟨z,rfl⟩
  ·exact h.one M z
  ·exact h0 (zU z.symm)
 ·rcases get_snoc H with⟨a,z⟩|⟨z,rfl⟩
  ·rw[qH (by omega)]at B;exact h.nx i M U B z
  ·rw[qH (by omega)]at B;exact hn M (by rw[zx,<-z];exact B)
 ·rcases zE.mp B with z|z
  ·exact h.no M z
  ·rw[zB.mp z];exact no
structure Pap (H:Hp) (lv:Addr) (lvs:List V) (Ls:List (List (List Int))):Prop where
 lst:H lv=some (.lst lvs)
 len:lvs.length=Ls.length
 at_:∀(i:Nat) L,Ls[i]? = some L->∃(r:Addr) (us:List V),lvs[i]? = some (.ref r)/\r≠lv/\H r=some (.lst us)/\HTs iT H us L/\L.length<=99^i
theorem Pap.same {H H':Hp}{G:Addr}{z:List V}{B:List (List (List Int))}(h:Pap H G z B)(s:Same H H'):Pap H' G z B:=⟨s _ _ h.lst,h.len,fun i L e=>by
 obtain⟨r,M,U,Y,O,J,e5⟩:=h.at_ i L e
 exact⟨r,M,U,Y,s _ _ O,J.same s,e5⟩⟩
theorem Pap.app {H:Hp}{G v:Addr}{B:List V}{O:List (List (List Int))}{us:List V}{L:List (List Int)}(h:Pap H G B O)(U:v≠G)(h1:H v=some (.lst us))(h2:HTs iT H us L)(h3:L.length<=99^O.length):Pap (upd H G (.lst (B++[.ref v]))) G (B++[.ref v]) (O++[L]):=by
 have C:Chg G H (upd H G (.lst (B++[.ref v]))):=Chg.upd _;refine⟨upd_same,by rw[qF,qF,h.len];rfl,fun i M hM=>?_⟩;rcases get_snoc hM with⟨a,z⟩|⟨z,rfl⟩
 ·obtain⟨r,J,e1,Y,e3,e4,e5⟩:=h.at_ i M z;exact⟨r,J,by rw[qH (by rw[h.len];exact a)];exact e1,Y,C _ _ Y e3,e4.chgL h.lst C,e5⟩
 ·refine⟨v,us,?_,U,C _ _ U h1,h2.chgL h.lst C,by rw[z];exact h3⟩;rw[qG (by rw[h.len];omega),h.len,z,xU];rfl
def spFewE (K:zA):Sp:=fun vs H Q _=>∃(l:Addr) (B:List Int) (top:Int) (most:Nat),vs=[.ref l,.int top,.int most]/\H l=some (.lst (B.map V.int))/\B.length<=60/\(∀x∈B,x.natAbs<2^300)/\1<=top/\top<=99/\most<=4 /\ ¬ farB top most /\
 (∀r O J M z,Same H z->z r=some (.tup [.str "none",.ref O])->Pap z O J M->Lvs top (askL B) M->M.length=most->askL B≠[]->FewIs top most (askL B) (-1)->Q (.ref r) z) /\
 ∀r w0 dl gl us Y G U cs p z,Same H z->z r=some (.tup [.str "web",.ref w0,p])->z w0=some (.tup [.int 1,.ref dl,.ref gl])->z dl=some (.lst us)->HTs wTup z us G->z gl=some (.lst Y)->HKs K gTp z Y U->RwE cs G->(∀c∈cs,1<=c/\c<=top)->U.length=B.length ->
  (∀(i:Nat) n p,B[i]? = some n->U[i]? = some p->PtOkV (1+G.length) (valsW [1] G) p/\outV (valsW [1] G) p=n/\(n=0->p=⟨0,0,0⟩)/\(n≠0->p.sg≠0) /\ -40<=p.sh/\p.sh<=400) ->
  G.length<=most->FewIs top most (askL B) G.length->((G.length=0/\p=.non)\/∃O J M,p=.ref O/\Pap z O J M/\Lvs top (askL B) M/\M.length+1=G.length/\askL B≠[])->Q (.ref r) z
theorem rch_has {top:Int}{k:Nat}{own:List Int}(h:RchO top k own):(1:Int)∈own:=by
 induction h with
 |one=>exact zB.mpr rfl
 |more _ _ _ ih=>exact zV _ ih
theorem mask_sub {A B:List Int}(H:∀n∈A,0<=n)(G:∀n∈B,0<=n)(h:∀n∈A,n∈B):maskN A &&& maskN B=maskN A:=by
 refine Nat.eq_of_testBit_eq fun j=>?_;rw[Nat.testBit_and,Bool.eq_iff_iff,zW,j9 H,j9 G];exact⟨fun z=>z.1,fun z=>⟨z,h _ z⟩⟩
theorem grow_sorted {B S:List Int}{top:Int}(h:B.Pairwise (· <= ·))(z:S∈growL B top):S.Pairwise (· <= ·):=by
 unfold growL at z;split at z
 ·rw[zB.mp z];exact h
 ·obtain⟨o,_,rfl⟩:=qP.mp z;exact y4 _
theorem grow_cov {B:List Int}{top o:Int}(H:o∈madeL B top):∃G∈growL B top,(∀J∈B,J∈G)/\o∈G:=by
 unfold growL;by_cases z:o∈B
 ·by_cases y:moreL B top=[]
  ·rw[if_pos y];exact⟨B,zB.mpr rfl,fun _ h=>h,z⟩
  ·rw[if_neg y];obtain⟨a,M⟩:=jL _ y;exact⟨_,qP.mpr ⟨a,M,rfl⟩,fun _ h=>mem_sort1.mpr (.inl h),mem_sort1.mpr (.inl z)⟩
 ·have m:o∈moreL B top:=mem_more.mpr ⟨H,z⟩;rw[if_neg (fun e=>by rw[e]at m;cases m)];exact⟨_,qP.mpr ⟨o,m,rfl⟩,fun _ h=>mem_sort1.mpr (.inl h),mem_sort1.mpr (.inr rfl)⟩
theorem Lvs.sort {top:Int}{M:List Int}{B:List (List (List Int))}(h:Lvs top M B):∀(i:Nat) L,B[i]? = some L->∀S∈L,S.Pairwise (· <= ·)
 |0,L,e,S,z=>by
  rw[h.one L e]at z
  rw[zB.mp z]
  exact List.pairwise_singleton _ _
 |i+1,L,e,S,z=>by
  have O:i<B.length:=by have:=(qB.mp e).1;omega
  have G:=qA O
  obtain⟨J,U,H⟩:=(h.nx i _ L G e S).mp z
  exact grow_sorted (Lvs.sort h i _ G J U) H
section
variable {K:zA}{σ:St}{H:Hp}{Q:VK}{cs:List Nat}{tt:TT}
end
section
variable {X:Cx}
end
section
variable {X:Cx}{o e:Expr}{apos cpos:Pos}{td ty:TE}
end
section
variable {K:zA}{σ:St}{H:Hp}{Q:VK}{cs:List Nat}{nt:Nat}{g:TG}{tt:TT}{te:TE}
end
open PySem PySem.Spec PyProof.Rows PySem.NumText
def tl (x:Str):List Nat:=x.cps.toList
def oD (o:Option (List V)):List V:=o.getD []
section
open PySem.W HT
variable {prog:Program}{w:World}{A:Around}{E:Value->Shared->Prop}{s:Shared}
theorem Ji {t sl:Addr}{items:Array Value}{O U:Value}{lo G:Option Int}{Q:Value->Shared->Prop}(z:IsTup s.heap t items)(Y:s.heap.IsSliceOf sl O U .none)(pl:IsPart O lo)(pu:IsPart U G)
  (h1:sIx items.size 0 lo=0) (h2:sIx items.size items.size G=items.size) (h:Q (.ref t) s):wpAny (model prog w) A (getItem (.ref t) (.ref sl)) Q E s:=by
 obtain⟨os,M,H,hds⟩:=id Y;have J:s.TypeIs (.ref sl) "slice":=⟨os,M,H⟩;unfold getItem
 try with_reducible refine wpAny_holding ?_
 first|refine wpAny_bind (wpAny_pure ?_)|skip
 refine wpAny_bind (wpAny_sequenceKey z.typeIs (by decide) ?_);refine wpAny_bind (wpAny_callSpecial?_slot (name:=Str.ofString "__getitem__") z.typeIs PyProof.Rows.slot_tuple_getitem
  (wpAny_call_entry PyProof.Rows.slot_tuple_getitem z.typeIs entry_tuple_getitem ?_ (args_tuple_getitem _ _)))
 show wpAny _ _ (Builtin.Tuple.tupleItemsOf (.ref t) >>= _) _ _ s
 refine wpAny_bind (tupleItemsOf_ z ?_);refine wpAny_bind (wpAny_typeOf J ?_);rw[if_pos (by decide)];refine wpAny_bind (jV Y pl pu ?_);have B:((((sIx items.size 0 lo:Nat):Int)==0&&(1:Int)==1&&(sIx items.size items.size G-sIx items.size 0 lo)==items.size)=true):=by
  rw[h1,h2];simp
 show wpAny _ _ (if (((sIx items.size 0 lo:Nat):Int)==0&&(1:Int)==1&&(sIx items.size items.size G-sIx items.size 0 lo)==items.size)=true then _ else _) _ _ s
 rw[if_pos B];refine wpAny_bind (m:=Builtin.Tuple.tupleIsExact _) (wpAny_bind (wpAny_typeOf z.typeIs (wpAny_pure ?_)));rw[if_pos (by decide)];refine wpAny_bind (wpAny_rule ?_);exact wpAny_pure ⟨_,rfl,wpAny_pure h⟩
end
def rSlA (K:zA):V->Option Int->Option Int->Hp->VK->Prop:=fun x B G H Q=>∃a z,x=.ref a/\SqT K H a z /\
 ((HT.sIx z.length 0 B=0/\HT.sIx z.length z.length G=z.length)->Q (.ref a) H)/\(¬ (HT.sIx z.length 0 B=0/\HT.sIx z.length z.length G=z.length)->∀p,H p=none->Q (.ref p) (upd H p (.tup (cutV z B G))))
theorem sl_tupA {X:Cx}:SlR X (rSlA X.K):=by
 intro pins s σ H x v vl vu O hi sl Q I U Y J pu h;obtain⟨a,z,rfl,M,q1,q2⟩:=h;by_cases B:(HT.sIx z.length 0 O=0/\HT.sIx z.length z.length hi=z.length)
 ·cases U
  obtain⟨G,r,ht,hz⟩:=I.tuple M;have hlen:G.toArray.size=z.length:=by rw[qM];exact r.length.symm
  refine⟨"tuple",_,PyProof.Rows.slot_tuple_getitem.lookup,ht.typeIs,?_⟩;exact Ji ht Y J pu (by rw[hlen];exact B.1) (by rw[hlen];exact B.2) ⟨.ref a,H,I,rfl,q1 B⟩
 ·exact sl_tup pins s σ H _ v vl vu O hi sl Q I U Y J pu ⟨a,z,rfl,M,B,q2 B⟩
theorem sl_from {K:zA}{H:Hp}{Q:VK}{p:Addr}{xs:List V}{c:Nat}(h:SqT K H p xs)(J:c<=xs.length)(q:∀r B,Same H B->SqT K B r (xs.drop c)->Q (.ref r) B):rSlA K (.ref p) (some (c:Int)) none H Q:=by
 refine⟨p,xs,rfl,h,fun z=>?_,fun _ r M=>?_⟩
 ·have G:=z.1;rw[HT.sIx_nat]at G;have:c=0:=by omega
  subst this;exact q p H (Same.refl _) h
 ·rw[cut_drop J];exact q r _ (zP M _) (SqT.of upd_same)
section
variable {K:zA}{H H':Hp}{l:Addr}{o:HO}
end
def LOk (x:Str):Prop:=x.length<=100/\10∉tl x
instance (x:Str):Decidable (LOk x):=by unfold LOk;infer_instance
section
variable {σ:St}{H:Hp}{Q:VK}{cs:List Nat}{te:TE}
end
section
variable {K:zA}{H:Hp}
end
section
variable {X:Cx}
end
section
variable {H:Hp}{Q:VK}
end
section
variable {σ:St}{H:Hp}{D:Ends}{g:TG}{tb:TS}{x:Str}
end
structure SetOk (top:Int) (S:List Int):Prop where
 od:OdIn S top
 inc:S.Pairwise (· < ·)
 ne:S≠[]
 len:S.length<=50
theorem mask_lt {S:List Int}{x:Int}(B:∀y∈S,0<=y)(h:∀y∈S,y<x):maskN S<2^x.toNat:=by
 refine Nat.lt_pow_two_of_testBit _ fun i G=>?_;rw[Bool.eq_false_iff];intro z;have m:=(j9 B i).mp z;have:=h _ m;omega
theorem mask_sum {S:List Int}(B:∀y∈S,0<=y)(h:S.Pairwise (· < ·)):(S.map fun x=>(2:Int)^x.toNat).sum=(maskN S:Nat):=by
 refine j6 (p:=fun S=>(∀y∈S,0<=y)->S.Pairwise (· < ·)->(S.map fun x=>(2:Int)^x.toNat).sum=(maskN S:Nat)) ?_ (fun H x ih B h=>?_) S B h
 ·intro _ _;rfl
 ·have G:=yR.mp h;have ih:=ih (fun y z=>B y (zV _ z)) G.1;have lt:=mask_lt (x:=x) (fun y z=>B y (zV _ z)) (fun y z=>G.2.2 y z x (zB.mpr rfl));have e:=Nat.two_pow_add_eq_or_of_lt lt 1;rw[Nat.mul_one]at e;rw[zo,List.sum_append,ih,mask_snoc,Nat.or_comm,<-e];simp;omega
theorem jj {A B:List Int}(z:∀n∈A,0<=n)(H:∀n∈B,0<=n):maskN B &&& maskN A=maskN A↔∀n∈A,n∈B:=by
 constructor
 ·intro h n G;have:=(j9 z n.toNat).mpr (by rw[Int.toNat_of_nonneg (z n G)];exact G);rw[<-h,Nat.testBit_and,zW,j9 H,Int.toNat_of_nonneg (z n G)]at this;exact this.1
 ·intro h;rw[Nat.and_comm];exact mask_sub z H h
def LedP (top:Int)(S:List Int)(L:List (List Int)):Prop:=∀x∈madeL S top,∃z∈L,(∀y∈S,y∈z)/\x∈z
def SupB (S z:List Int):Bool:=S.all fun y=>decide (y∈z)
theorem supB_iff {S B:List Int}:SupB S B=true↔∀y∈S,y∈B:=by
 unfold SupB;rw[yT];exact⟨fun h y z=>of_decide_eq_true (h y z),fun h y z=>decide_eq_true (h y z)⟩
def rchL (S:List Int)(L:List (List Int)):List Int:=(L.filter (SupB S)).flatten
theorem led_iff {top:Int}{S:List Int}{L:List (List Int)}(hm:∀n∈madeL S top,0<=n)(U:∀z∈L,∀n∈z,0<=n):maskN (madeL S top) &&& maskN (rchL S L)=maskN (madeL S top)↔LedP top S L:=by
 have Y:∀n∈rchL S L,0<=n:=fun n O=>by
  obtain⟨z,G,B⟩:=List.mem_flatten.mp O;exact U z (yO.mp G).1 n B
 rw[Nat.and_comm,jj hm Y];unfold LedP;constructor
 ·intro h x J;obtain⟨z,G,B⟩:=List.mem_flatten.mp (h x J);obtain⟨H,M⟩:=yO.mp G;exact⟨z,H,supB_iff.mp M,B⟩
 ·intro h x J;obtain⟨z,G,B,H⟩:=h x J;exact List.mem_flatten.mpr ⟨z,yO.mpr ⟨G,supB_iff.mpr B⟩,H⟩
def spMaskT:Sp:=fun B H Q _=>∃(c:Addr) (S:List Int),B=[.ref c]/\H c=some (.tup (S.map V.int))/\(∀x∈S,0<=x/\x<=99)/\S.Pairwise (· < ·)/\S.length<=200/\∀z,Same H z->Q (.int (maskN S:Nat)) z
def spMaskL:Sp:=fun B H Q _=>∃(c:Addr) (S:List Int),B=[.ref c]/\H c=some (.lst (S.map V.int))/\(∀x∈S,0<=x/\x<=99)/\S.Pairwise (· < ·)/\S.length<=200/\∀z,Same H z->Q (.int (maskN S:Nat)) z
def spLedOn:Sp:=fun J H Q _=>∃(c B:Addr) (S:List Int) (L:List (List Int)) (top:Int),J=[.ref c,.ref B,.int top]/\H c=some (.tup (S.map V.int))/\SetOk top S/\H B=some (.lst (L.map fun z=>V.int (maskN z:Nat)))/\(∀z∈L,∀n∈z,0<=n)/\L.length<=99^3/\1<=top/\top<=99/\∀b G,Same H G->(b=true↔LedP top S L)->Q (.bl b) G
def spLeads:Sp:=fun M H Q _=>∃(c d:Addr) (B G:List V) (L z:List (List Int)) (top:Int),M=[.ref c,.ref d,.int top]/\H c=some (.lst B)/\HTs iT H B L/\H d=some (.lst G)/\HTs iT H G z/\(∀S∈L,SetOk top S)/\(∀S∈z,SetOk top S)/\L.length<=99^3/\z.length<=99^3/\1<=top/\top<=99/\∀b J,Same H J->(b=true↔∀S∈L,LedP top S z)->Q (.bl b) J
def spCoreSet:Sp:=fun B H Q _=>∃(c:Addr) (S:List Int) (top:Int),B=[.ref c,.int top]/\H c=some (.tup (S.map V.int))/\SetOk top S/\∀z,Same H z->Q (.bl true) z
def spLevelV:Sp:=fun G H Q _=>∃(c:Addr) (B:List V) (L:List (List Int)) (top:Int),G=[.ref c,.int top]/\H c=some (.lst B)/\HTs iT H B L/\(∀S∈L,SetOk top S)/\L.length<=99^3/\∀z,Same H z->Q (.bl true) z
def PapOk (top:Int)(z:List (List (List Int))):Prop:=∀L∈z,L.length<=99^3/\∀S∈L,SetOk top S
def spPaperV:Sp:=fun M H Q _=>∃(J:Addr) (B:List V) (z:List (List (List Int))) (top:Int),M=[.ref J,.int top,.int (z.length:Nat)]/\Pap H J B z/\PapOk top z/\z.length<=4/\∀G,Same H G->Q (.bl true) G
def ShowsP (top:Int)(B:List Int)(z:List (List (List Int))):Prop:=(z=[]->B≠[])/\(∀L,z[0]? = some L->∃S∈L,(1:Int)∈S)/\(∀(i:Nat) L G,z[i]? = some L->z[i+1]? = some G->∀S∈L,LedP top S G)/\∀L,z.getLast? = some L->∀S∈L,¬ Fin_ top S B
def spShowsV:Sp:=fun U H Q _=>∃(O J:Addr) (B:List V) (z:List (List (List Int))) (G:List Int) (top:Int),U=[.ref O,.ref J,.int top,.int (z.length:Nat)]/\Pap H O B z/\PapOk top z/\z.length<=4 /\ ¬ farB top (z.length:Nat)/\1<=top/\top<=99/\H J=some (.lst (G.map V.int))/\G.length<=60 /\
 ∀b M,Same H M->(b=true↔ShowsP top (sortI (ded (wantC G))) z)->Q (.bl b) M
theorem shows_none {top:Int}{M:List Int}{H:List (List (List Int))}(nd:M.Nodup)(h1:∀x∈M,1<x)(h:ShowsP top M H):¬ Cov top H.length M:=by
 rintro⟨own,G,hs⟩;have key:∀(k:Nat) own,RchO top (k+1) own->k<H.length->∃L,H[k]? = some L/\∃S∈L,∀x∈own,x∈S:=by
  intro k;induction k with
  |zero =>
   intro own G hk;have e:=qA hk;obtain⟨S,Y,hm⟩:=h.2.1 _ e;refine⟨_,e,S,Y,fun x O=>?_⟩;have J:=rch_len G;have h1:=JA G
   match own,J,h1,O with
   |[a],_,h1,O =>
    rw[zB.mp O,<-zB.mp h1];exact hm
  |succ k ih =>
   intro own G hk;cases G with
   |@more _ own n G hm hno =>
    obtain⟨L,e,S,Y,B⟩:=ih own G (by omega);have e2:=qA hk;obtain⟨S',hS',h2,h3⟩:=h.2.2.1 k L _ e e2 S Y n (JH B hm);refine⟨_,e2,S',hS',fun x O=>?_⟩;rcases zE.mp O with z|z
    ·exact h2 x (B x z)
    ·rw[zB.mp z];exact h3
 by_cases z:H=[]
 ·subst z;have ne:=h.1 rfl;have J:=rch_len G;have U:=JA G;obtain⟨a,ha⟩:=jL _ ne;have:=hs a ha
  match own,J,U,this with
  |[b],_,U,this =>
   have e1:=zB.mp U;have e2:=zB.mp this;have:=h1 a ha;omega
 ·have lp:0<H.length:=yH.mpr z;obtain⟨k,ek⟩:∃k,H.length=k+1:=⟨H.length-1,by omega⟩;rw[ek]at G;cases G with
  |@more _ own n G hm hno =>
   obtain⟨L,e,S,Y,B⟩:=key k own G (by omega);have el:H.getLast? = some L:=by rw[zx,ek,Nat.add_sub_cancel];exact e
   refine h.2.2.2 L el S Y ?_;have sub:∀x∈lackL S M,x=n:=fun x O=>by
    obtain⟨h2,h3⟩:=mem_lack.mp O;rcases zE.mp (hs x h2) with y|y
    ·exact absurd (B x y) h3
    ·exact zB.mp y
   have ndl:(lackL S M).Nodup:=by unfold lackL;exact nd.filter _
   match J:lackL S M with
   |[]=>exact .inl J
   |[o] =>
    refine .inr ⟨o,J,?_⟩;rw[sub o (by rw[J];exact zB.mpr rfl)];exact JH B hm
   |o::o'::r =>
    rw[J]at ndl sub;have e1:=sub o (zJ ..);have e2:=sub o' (zM _ (zJ ..));rw[e1,e2]at ndl;exact absurd (zJ ..) (jT.mp ndl).1
theorem made_inc (S:List Int)(top:Int):(madeL S top).Pairwise (· < ·):=by
 have B:(madeL S top).Pairwise (· <= ·):=y4 _;have z:(madeL S top).Nodup:=by
  unfold madeL;exact(yD _).nodup_iff.mpr (ji _)
 exact(B.and z).imp fun⟨a,b⟩=>by omega
section
variable {K:zA}{σ:St}{H:Hp}{Q:VK}{cs:List Nat}{te:TE}
theorem comp_zipT1 {r1 r2:Addr}{us vs:List V}(h1:SqT K H r1 us)(O:SqT K H r2 vs)(J:List V)(hzl:J.length=vs.length)(hl:vs.length<=us.length)(hz:vs.length<=1000)
  (hb:∀(i:Nat) (x y z:V) B (R:VK),us[i]? = some x->vs[i]? = some y->J[i]? = some z->Same H B->(∀U,Same B U->R z U)->te ([some x,some y]++yG cs σ) B R)
  (hd:∀acc B,H acc=none->Same H B->B acc=some (.lst J)->Q (.ref acc) B) :
  yU (Itzt K r1 r2) 2 cs (gTupM 2 (gCons (xF 0) (gCons (xF 1) gNil))) tYes te σ H Q:=by
 refine xz vs.length (fun acc i M B=>Same H B/\B acc=some (.lst M)/\M=J.take i) (zm hz) ?_ ?_ ?_ ?_ ?_ ?_
 ·rintro acc i M B hi ⟨s,_,_⟩;exact⟨_,_,s.seqT h1,s.seqT O,by omega,hi⟩
 ·rintro acc M B ⟨s,_,_⟩;exact⟨_,_,s.seqT h1,s.seqT O,.inr (zC _)⟩
 ·intro acc G;exact⟨zP G _,upd_same,rfl⟩
 ·rintro acc i M B ⟨s,G,rfl⟩;exact⟨G,by rw[qO];omega⟩
 ·rintro acc i M B ts x H2 N Y hi ⟨s,G,rfl⟩ ⟨T,u,v,rfl,hT,rfl,e1,e2⟩ hts hN;have hu:=e1 _ (s.seqT h1);have hv:=e2 _ (s.seqT O);obtain⟨z,hzi⟩:∃z,J[i]? = some z:=⟨_,qA (by omega)⟩;obtain⟨t0,t1,rfl⟩:∃t0 t1,ts=[t0,t1]:=by
   match ts,hts with
   |[a,b],_=>exact⟨a,b,rfl⟩
  rw[Jf];refine⟨[u,v],upd_same,rfl,?_⟩;rw[jg,yy,jg,yy,w_gNil,JM,if_pos rfl];have sT:=zP hT (.tup [u,v]);refine hb i u v z _ _ hu hv hzi (s.trans sT) fun U s5=>?_;have tk:J.take (i+1)=J.take i++[z]:=by rw[yI,hzi];rfl
  refine⟨s5 _ _ (sT _ _ G),hN _ [some u,some v] _ rfl ⟨yP Y ((s.trans sT).trans s5),upd_same,tk.symm⟩⟩
 ·rintro acc M B Y ⟨s,G,rfl⟩;refine hd acc B Y s ?_;rw[G,yE (by omega)]
theorem comp_blJ {J:It}{us:List V}(Bb:Nat->Bool->Prop)(hz:us.length<=sizeLine)
  (hJ:∀B,Same H B->(∀i,i<us.length->J.go i B)/\(∀i x U,J.yld i B x U->U=B/\(i<us.length->us[i]? = some x))/\J.stop us.length B)
  (hb:∀(i:Nat) x B (R:VK),us[i]? = some x->Same H B->(∀b Y,Same B Y->Bb i b->R (.bl b) Y)->te (some x::yG cs σ) B R)
  (hd:∀acc (bs:List Bool) B,H acc=none->Same H B->B acc=some (.lst (bs.map V.bl))->bs.length=us.length->(∀(i:Nat) b,bs[i]? = some b->Bb i b)->Q (.ref acc) B) :
  yU J 1 cs (xF 0) tYes te σ H Q:=by
 refine xz us.length (fun acc i M B=>∃bs:List Bool,Same H B/\B acc=some (.lst M)/\M=bs.map V.bl/\bs.length=i/\∀(i:Nat) b,bs[i]? = some b->Bb i b) hz ?_ ?_ ?_ ?_ ?_ ?_
 ·rintro acc i M B hi ⟨_,s,_⟩;exact(hJ _ s).1 i hi
 ·rintro acc M B ⟨_,s,_⟩;exact(hJ _ s).2.2
 ·intro acc G;exact⟨[],zP G _,upd_same,rfl,rfl,fun i b h=>by simp at h⟩
 ·rintro acc i M B ⟨bs,s,G,rfl,e,_⟩;exact⟨G,by rw[qC,e];exact zC _⟩
 ·rintro acc i M B ts x U N hn hi ⟨bs,s,G,rfl,e,hB⟩ y hts hN;obtain⟨e2,O⟩:=(hJ _ s).2.1 i x U y;have O:=O hi;subst e2;obtain⟨t0,rfl⟩:∃t0,ts=[t0]:=xW.mp hts;rw[yy,JM,if_pos rfl];refine hb i x _ _ O s fun b Y s5 hb5=>?_;refine⟨s5 _ _ G,hN _ [_] _ rfl ⟨bs++[b],yP hn (s.trans s5),upd_same,by rw[zo];rfl,by rw[qF,e];rfl,fun k b' hb'=>?_⟩⟩;rcases get_snoc hb' with⟨_,z⟩|⟨kl,rfl⟩
  ·exact hB k b' z
  ·rw[kl,e];exact hb5
 ·rintro acc M B hn ⟨bs,s,G,rfl,e,hB⟩;exact hd acc bs B hn s G e hB
theorem JB {a:Addr}{us:List V}(G:Nat->Bool->Prop)(h:SqL K H a us)(hz:us.length<=sizeLine)
  (M:∀(i:Nat) x z (R:VK),us[i]? = some x->Same H z->(∀b J,Same z J->G i b->R (.bl b) J)->te (some x::yG cs σ) z R)
  (O:∀acc (bs:List Bool) z,H acc=none->Same H z->z acc=some (.lst (bs.map V.bl))->bs.length=us.length->(∀(i:Nat) b,bs[i]? = some b->G i b)->Q (.ref acc) z) :
  yU (Itl K a) 1 cs (xF 0) tYes te σ H Q :=
 comp_blJ G hz (fun z s=>by
  have B:=s.seq h
  exact⟨fun i U=>⟨us,us[i],B,by simp[U]⟩,fun i x Y y=>⟨y.1,fun _=>y.2 us B⟩,⟨us,B,zC _⟩⟩) M O
theorem comp_blT {a:Addr}{us:List V}(G:Nat->Bool->Prop)(h:SqT K H a us)(hz:us.length<=sizeLine)
  (M:∀(i:Nat) x z (R:VK),us[i]? = some x->Same H z->(∀b J,Same z J->G i b->R (.bl b) J)->te (some x::yG cs σ) z R)
  (O:∀acc (bs:List Bool) z,H acc=none->Same H z->z acc=some (.lst (bs.map V.bl))->bs.length=us.length->(∀(i:Nat) b,bs[i]? = some b->G i b)->Q (.ref acc) z) :
  yU (Itt K a) 1 cs (xF 0) tYes te σ H Q :=
 comp_blJ G hz (fun z s=>by
  have B:=s.seqT h
  exact⟨fun i U=>⟨us,us[i],B,by simp[U]⟩,fun i x Y y=>⟨y.1,fun _=>y.2 us B⟩,⟨us,B,zC _⟩⟩) M O
theorem comp_zsL {a:Addr}{us:List V}(M:List V)(hzl:M.length=us.length)(h:SqL K H a us)(hz:us.length<=sizeLine)
  (hb:∀(i:Nat) x z B (R:VK),us[i]? = some x->M[i]? = some z->Same H B->(∀U,Same B U->R z U)->te (some x::yG cs σ) B R)
  (hd:∀acc B,H acc=none->Same H B->B acc=some (.lst M)->Q (.ref acc) B) :
  yU (Itl K a) 1 cs (xF 0) tYes te σ H Q:=by
 refine xz us.length (fun acc i J B=>Same H B/\B acc=some (.lst J)/\J=M.take i) hz ?_ ?_ ?_ ?_ ?_ ?_
 ·rintro acc i J B hi ⟨s,_⟩;exact⟨us,us[i],s.seq h,qA hi⟩
 ·rintro acc J B ⟨s,_⟩;exact⟨us,s.seq h,zC _⟩
 ·intro acc G;exact⟨zP G _,upd_same,rfl⟩
 ·rintro acc i J B ⟨s,G,rfl⟩;exact⟨G,by rw[qO];omega⟩
 ·rintro acc i J B ts x H2 N Y hi ⟨s,G,rfl⟩ ⟨rfl,O⟩ hts hN;have O:=O us (s.seq h);obtain⟨t0,rfl⟩:∃t0,ts=[t0]:=xW.mp hts;obtain⟨z,hzi⟩:∃z,M[i]? = some z:=⟨_,qA (by omega)⟩;rw[yy,JM,if_pos rfl];refine hb i x z _ _ O hzi s fun U s5=>?_;have tk:M.take (i+1)=M.take i++[z]:=by rw[yI,hzi];rfl
  exact⟨s5 _ _ G,hN _ [_] _ rfl ⟨yP Y (s.trans s5),upd_same,tk.symm⟩⟩
 ·rintro acc J B Y ⟨s,G,rfl⟩;refine hd acc B Y s ?_;rw[G,yE (by omega)]
theorem comp_zipLB {r1 r2:Addr}{us vs:List V}(h1:H r1=some (.lst us))(J:H r2=some (.lst vs))(Bb:Nat->Bool->Prop)(hl:vs.length<=us.length)(hz:vs.length<=1000)
  (hb:∀(i:Nat) (x y:V) B (R:VK),us[i]? = some x->vs[i]? = some y->Same H B->(∀b M,Same B M->Bb i b->R (.bl b) M)->te ([some x,some y]++yG cs σ) B R)
  (hd:∀acc (bs:List Bool) B,H acc=none->Same H B->B acc=some (.lst (bs.map V.bl))->bs.length=vs.length->(∀(i:Nat) b,bs[i]? = some b->Bb i b)->Q (.ref acc) B) :
  yU (Itz K r1 r2) 2 cs (gTupM 2 (gCons (xF 0) (gCons (xF 1) gNil))) tYes te σ H Q:=by
 refine xz vs.length (fun acc i U B=>∃bs:List Bool,Same H B/\B acc=some (.lst U)/\U=bs.map V.bl/\bs.length=i/\∀(i:Nat) b,bs[i]? = some b->Bb i b) (zm hz) ?_ ?_ ?_ ?_ ?_ ?_
 ·rintro acc i ws B hi ⟨_,s,_,_⟩;exact⟨_,_,SqL.of (s _ _ h1),SqL.of (s _ _ J),by omega,hi⟩
 ·rintro acc ws B ⟨_,s,_,_⟩;exact⟨_,_,SqL.of (s _ _ h1),SqL.of (s _ _ J),.inr (zC _)⟩
 ·intro acc G;exact⟨[],zP G _,upd_same,rfl,rfl,fun i b h=>by simp at h⟩
 ·rintro acc i ws B ⟨bs,s,G,rfl,e,_⟩;exact⟨G,by rw[qC,e];exact zC _⟩
 ·rintro acc i ws B ts x H2 N hn hi ⟨bs,s,G,rfl,e,O⟩ ⟨T,u,v,rfl,hT,rfl,e1,e2⟩ hts hN;have hu:=e1 _ (SqL.of (s _ _ h1));have hv:=e2 _ (SqL.of (s _ _ J));obtain⟨t0,t1,rfl⟩:∃t0 t1,ts=[t0,t1]:=by
   match ts,hts with
   |[a,b],_=>exact⟨a,b,rfl⟩
  rw[Jf];refine⟨[u,v],upd_same,rfl,?_⟩;rw[jg,yy,jg,yy,w_gNil,JM,if_pos rfl];have sT:=zP hT (.tup [u,v]);refine hb i u v _ _ hu hv (s.trans sT) fun b M s5 hb5=>?_;refine⟨s5 _ _ (sT _ _ G),hN _ [some u,some v] _ rfl ⟨bs++[b],yP hn ((s.trans sT).trans s5),upd_same,by rw[zo];rfl,by rw[qF,e];rfl,fun k b' Y=>?_⟩⟩;rcases get_snoc Y with⟨_,z⟩|⟨kl,rfl⟩
  ·exact O k b' z
  ·rw[kl,e];exact hb5
 ·rintro acc U B hn ⟨bs,s,G,rfl,e,O⟩;exact hd acc bs B hn s G e O
end
theorem all_iff {bs:List Bool}{n:Nat}{p:Nat->Prop}(G:bs.length=n)(h:∀(i:Nat) b,bs[i]? = some b->(b=true↔p i)):bs.all id=true↔∀i,i<n->p i:=by
 rw[yT];constructor
 ·intro z i H;have e:=qA (l:=bs) (by omega:i<bs.length);exact(h i _ e).mp (z _ (qE e))
 ·intro z b B;obtain⟨i,e⟩:=zk.mp B;have:i<bs.length:=(qB.mp e).1;exact(h i _ e).mpr (z i (by omega))
theorem any_iff {bs:List Bool}{n:Nat}{p:Nat->Prop}(G:bs.length=n)(h:∀(i:Nat) b,bs[i]? = some b->(b=true↔p i)):bs.any id=true↔∃i,i<n/\p i:=by
 rw[xN];constructor
 ·rintro⟨b,B,z⟩;obtain⟨i,e⟩:=zk.mp B;have:i<bs.length:=(qB.mp e).1;exact⟨i,by omega,(h i _ e).mp z⟩
 ·rintro⟨i,H,z⟩;have e:=qA (l:=bs) (by omega:i<bs.length);exact⟨_,qE e,(h i _ e).mpr z⟩
def bitV:V->Option V:=fun v=>match v with
 |.int x=>some (.int ((2:Int)^x.toNat))
 |_=>none
theorem bitV_map:∀S:List Int,(S.map V.int).filterMap bitV=(S.map fun x=>(2:Int)^x.toNat).map V.int
 |[]=>rfl
 |x::r=>by
  rw[zO,zt,bitV_map r]
  rfl
def spMask:Sp:=fun z H Q E=>spMaskT z H Q E\/spMaskL z H Q E
theorem and_nat (M N:Nat):Builtin.bitAnd (M:Int) (N:Int)=((M &&& N:Nat):Int):=by
 unfold Builtin.bitAnd;rw[decide_eq_true (by omega:(0:Int)<=(M:Int)),decide_eq_true (by omega:(0:Int)<=(N:Int))];show((_:Nat):Int)=_
 rw[zK,zK]
theorem rch_snoc {S B:List Int}{L:List (List Int)}{i:Nat}(e:L[i]? = some B):rchL S (L.take (i+1))=rchL S (L.take i)++(if SupB S B=true then B else []):=by
 unfold rchL;rw[yI,e,List.filter_append,List.flatten_append]
 congr 1
 show(List.filter (SupB S) [B]).flatten=_
 by_cases z:SupB S B=true
 ·rw[if_pos z,List.filter_cons_of_pos z];simp
 ·rw[if_neg z,List.filter_cons_of_neg z];rfl
theorem lvs_shows {top:Int}{z:List Int}{G:List (List (List Int))}(h:Lvs top z G)(ne:z≠[]):ShowsP top z G:=by
 refine⟨fun _=>ne,fun L e=>?_,fun i L Y e M S B x hx=>?_,fun L e S B=>h.no L (List.mem_of_getLast? e) S B⟩
 ·rw[h.one L e];exact⟨[1],zB.mpr rfl,zB.mpr rfl⟩
 ·obtain⟨H,U,J,O⟩:=grow_cov hx;exact⟨H,(h.nx i L Y e M H).mpr ⟨S,B,U⟩,J,O⟩
theorem lvs_pap {top:Int}{U:List Int}{B:List (List (List Int))}{H:Hp}{lv:Addr}{J:List V}(h:Lvs top U B)(Y:Pap H lv J B)(ll:B.length<=4):PapOk top B:=fun L hL=>by
 obtain⟨i,e⟩:=zk.mp hL
 have hi:=(qB.mp e).1
 obtain⟨_,_,_,_,_,_,hl⟩:=Y.at_ i L e
 have P:=h.lev i L e
 refine⟨zR hl (qN (by decide) (by omega)),fun S z=>⟨P.od S z,?_,?_,?_⟩⟩
 ·have h1:=h.sort i L e S z
  have O:=P.nd S z
  exact(h1.and O).imp fun⟨a,b⟩=>by omega
 ·rcases P.fr S z with⟨own,G,M⟩|⟨_,j,own,_,_,G,M⟩
  ·exact List.ne_nil_of_mem ((M 1).mpr (rch_has G))
  ·exact List.ne_nil_of_mem ((M 1).mpr (rch_has G))
 ·have:=P.len S z
  omega
def gallop':Bool->Keyed->Array Keyed->Nat->Nat->Nat->StateT SortSt Sem (Option Nat):=sortPriv% PySem.Builtin.gallop
def mergeLo':Array Keyed->Array Keyed->StateT SortSt Sem (Array Keyed):=sortPriv% PySem.Builtin.mergeLo
def mergeHi':Array Keyed->Array Keyed->StateT SortSt Sem (Array Keyed):=sortPriv% PySem.Builtin.mergeHi
def setG':Nat->StateT SortSt Sem Unit:=sortPriv% PySem.Builtin.setMinGallop
section
variable {prog:Program}{w:World}{A:Around}{E:Value->Shared->Prop}{s:Shared}{κ:SortKind}{mem:Keyed->Prop}{key:Keyed->Int}{st:SortSt}
def SCmp (prog:Program)(w:World)(A:Around)(s:Shared)(κ:SortKind)(mem:Keyed->Prop)(key:Keyed->Int):Prop :=
 ∀x y,mem x->mem y->wpAny (model prog w) A (keyLt' κ x.1 y.1) (fun b z=>z=s/\b=decide (key x<key y)) (fun _ _=>False) s
theorem s_lt {x y:Keyed}{Q:Option Bool->SortSt->Prop}(B:SCmp prog w A s κ mem key)(M:kindOf st=κ)(J:mem x)(G:mem y)(h:Q (some (decide (key x<key y))) st) :
  wpS (model prog w) A E s (lt' x y) Q st:=by
 rw[lt'_eq];refine wpS_bind (wpS_get ?_);rw[M];refine wpS_bind (wpS_lift (wpAny_attempt (wpAny_mono (B x y J G) (fun b O z=>?_) fun _ _ H=>H.elim)));obtain⟨rfl,rfl⟩:=z;exact⟨rfl,wpS_pure h⟩
theorem yY {arr:Array Keyed}{i:Nat}{x:Keyed}{Q:Keyed->SortSt->Prop}(z:arr[i]? = some x)(h:Q x st):wpS (model prog w) A E s (elem' arr i) Q st:=by
 rw[elem'_eq,z];exact wpS_pure h
def beyB (key:Keyed->Int)(left:Bool)(k x:Keyed):Bool:=if left=true then decide (key x<key k) else !decide (key k<key x)
theorem s_bey {left:Bool}{k x:Keyed}{arr:Array Keyed}{j:Nat}{Q:Option Bool->SortSt->Prop}(G:SCmp prog w A s κ mem key)(J:kindOf st=κ)(H:mem k)(M:arr[j]? = some x)(B:mem x)(h:Q (some (beyB key left k x)) st) :
  wpS (model prog w) A E s (elem' arr j >>= fun x=>if left=true then lt' x k else lt' k x >>= fun b=>pure (Option.map (fun c=>!c) b)) Q st:=by
 refine wpS_bind (yY M ?_);unfold beyB at h;by_cases z:left=true
 ·rw[if_pos z]at h ⊢;exact s_lt G J B H h
 ·rw[if_neg z]at h ⊢;exact wpS_bind (s_lt G J H B (wpS_pure h))
theorem gallop_ok {left:Bool}{k:Keyed}{arr:Array Keyed}{base n hint:Nat}{b:Nat->Bool}{Q:Option Nat->SortSt->Prop}(hc:SCmp prog w A s κ mem key)(hk:kindOf st=κ)(hm:mem k)
  (hb:∀i,i<n->∃x,arr[base+i]? = some x/\mem x/\beyB key left k x=b i) (mono:∀i j,i<=j->j<n->b j=true->b i=true) (hh:hint<n)
  (h:∀m,m<=n->(∀i,i<n->(b i=true↔i<m))->Q (some m) st):wpS (model prog w) A E s (gallop' left k arr base n hint) Q st:=by
 have bey:∀i,i<n->∀{Q':Option Bool->SortSt->Prop},Q' (some (b i)) st->wpS (model prog w) A E s (elem' arr (base+i) >>= fun x=>if left=true then lt' x k else lt' k x >>= fun b=>pure (Option.map (fun c=>!c) b)) Q' st:=fun i G Q' O=>by
  obtain⟨x,e1,e2,e3⟩:=hb i G;exact s_bey hc hk hm e1 e2 (by rw[e3];exact O)
 have fin:∀(B G:Nat) {β:Type} (F:Nat->Option (Option Nat)×Nat×Nat->StateT SortSt Sem (ForInStep (Option (Option Nat)×Nat×Nat))),
   (∀i B G,G<=n->B<=G->(B=0\/b (B-1)=true)->(G=n\/b G=false)->∀{Q':ForInStep (Option (Option Nat)×Nat×Nat)->SortSt->Prop},(if B>=G then Q' (.done (none,B,G)) st else if b (B+(G-B)/2)=true then Q' (.yield (none,B+(G-B)/2+1,G)) st else Q' (.yield (none,B,B+(G-B)/2)) st)->wpS (model prog w) A E s (F i (none,B,G)) Q' st) ->
   G<=n->B<=G->(B=0\/b (B-1)=true)->(G=n\/b G=false)->∀{Q':Option (Option Nat)×Nat×Nat->SortSt->Prop},(∀B m,m<=n->(∀i,i<n->(b i=true↔i<m))->Q' (none,B,m) st)->wpS (model prog w) A E s (forIn [:n] (none,B,G) F) Q' st:=by
  intro B G _ F hF h1 h2 h3 h4 Q' O;have ex:∀B G,G<=n->B<=G->G<=B->(B=0\/b (B-1)=true)->(G=n\/b G=false)->(∀i,i<n->(b i=true↔i<G)):=fun B G U g2 g3 M Y i hi'=>by
   have e:B=G:=by omega
   subst e;constructor
   ·intro hbi;rcases Y with z|z
    ·omega
    ·rcases Nat.lt_or_ge i B with y|y
     ·exact y
     ·by_cases x:B<n
      ·have:=mono B i y hi' hbi;rw[z]at this;cases this
      ·omega
   ·intro hlt;rcases M with z|z
    ·omega
    ·exact mono i (B-1) (by omega) (by omega) z
  refine wpS_forRange (I:=fun i c H=>H=st/\∃B G,c=(none,B,G)/\G<=n/\B<=G/\G-B<=n-i/\(B=0\/b (B-1)=true)/\(G=n\/b G=false)) ?_ ?_ ⟨rfl,B,G,rfl,h1,h2,by omega,h3,h4⟩
  ·rintro i c H _ hi' ⟨rfl,B,G,rfl,U,g2,g3,M,Y⟩;refine hF i B G U g2 M Y ?_;by_cases z:B>=G
   ·rw[if_pos z];exact O B G U (ex B G U g2 z M Y)
   ·rw[if_neg z];by_cases y:b (B+(G-B)/2)=true
    ·rw[if_pos y];exact⟨rfl,_,_,rfl,U,by omega,by omega,.inr y,Y⟩
    ·rw[if_neg y];exact⟨rfl,_,_,rfl,by omega,by omega,by omega,M,.inr (by simpa using y)⟩
  ·rintro c H ⟨rfl,B,G,rfl,U,g2,g3,M,Y⟩;exact O B G U (ex B G U g2 (by have:=yh (zT n);omega) M Y)
 unfold gallop';refine wpS_bind (bey hint hh ?_);dsimp only;have step:∀B G,G<=n->B<=G->(B=0\/b (B-1)=true)->(G=n\/b G=false)->True:=fun _ _ _ _ _ _=>trivial;by_cases z:b hint=true
 ·rw[if_pos z];refine wpS_bind (wpS_mono (wpS_forRange (I:=fun i c H=>H=st/\∃J of,c=(none,J,of)/\J<of/\i+1<=of/\hint+J<n/\b (hint+J)=true)
   (Q:=fun c H=>H=st/\∃J of,c=(none,J,of)/\J<of/\hint+J<n/\b (hint+J)=true/\(of>=n-hint\/b (hint+of)=false)) ?_ ?_ ⟨rfl,0,1,rfl,by omega,by omega,by omega,z⟩) ?_)
  ·rintro i c H _ hi' ⟨rfl,J,of,rfl,U,g2,g3,M⟩;dsimp only;by_cases y:of>=n-hint
   ·rw[if_pos y];exact wpS_pure ⟨rfl,_,_,rfl,U,g3,M,.inl y⟩
   ·rw[if_neg y];refine wpS_bind (bey (hint+of) (by omega) ?_);dsimp only;by_cases x:b (hint+of)=true
    ·rw[x];rw[if_neg (by decide)];exact wpS_pure ⟨rfl,_,_,rfl,by omega,by omega,by omega,x⟩
    ·have x':b (hint+of)=false:=by simpa using x
     rw[x',if_pos (by decide)];exact wpS_pure ⟨rfl,_,_,rfl,U,g3,M,.inr x'⟩
  ·rintro c H ⟨rfl,J,of,rfl,U,g2,g3,M⟩;exact⟨rfl,_,_,rfl,U,g3,M,.inl (by have:=yh (zT n);omega)⟩
  ·rintro c H ⟨rfl,J,of,rfl,U,g3,M,Y⟩;dsimp only;refine wpS_bind (fin (hint+J+1) (hint+min of (n-hint)) (β:=Unit) _ ?_ (by omega) (by omega) (.inr M) ?_ ?_)
   ·intro i B G q1 q2 q3 q4 Q' O;dsimp only;by_cases y:B>=G
    ·rw[if_pos y]at O ⊢;exact wpS_pure O
    ·rw[if_neg y]at O ⊢;refine wpS_bind (bey _ (by omega) ?_);dsimp only;by_cases x:b (B+(G-B)/2)=true
     ·rw[if_pos x]at O ⊢;exact wpS_pure O
     ·rw[if_neg x]at O ⊢;exact wpS_pure O
   ·rcases Y with Y|Y
    ·left;omega
    ·by_cases y:of>=n-hint
     ·left;omega
     ·right;rw[show min of (n-hint)=of by omega];exact Y
   ·intro B m hm1 hm2;exact wpS_pure (h m hm1 hm2)
 ·have z':b hint=false:=by simpa using z
  rw[if_neg z];refine wpS_bind (wpS_mono (wpS_forRange (I:=fun i c H=>H=st/\∃J of,c=(none,J,of)/\J<of/\i+1<=of/\J<=hint/\b (hint-J)=false)
   (Q:=fun c H=>H=st/\∃J of,c=(none,J,of)/\J<of/\J<=hint/\b (hint-J)=false/\(of>=hint+1\/b (hint-of)=true)) ?_ ?_ ⟨rfl,0,1,rfl,by omega,by omega,by omega,z'⟩) ?_)
  ·rintro i c H _ hi' ⟨rfl,J,of,rfl,U,g2,g3,M⟩;dsimp only;by_cases y:of>=hint+1
   ·rw[if_pos y];exact wpS_pure ⟨rfl,_,_,rfl,U,g3,M,.inl y⟩
   ·rw[if_neg y];refine wpS_bind (bey (hint-of) (by omega) ?_);dsimp only;by_cases x:b (hint-of)=true
    ·rw[if_pos x];exact wpS_pure ⟨rfl,_,_,rfl,U,g3,M,.inr x⟩
    ·rw[if_neg x];exact wpS_pure ⟨rfl,_,_,rfl,by omega,by omega,by omega,by simpa using x⟩
  ·rintro c H ⟨rfl,J,of,rfl,U,g2,g3,M⟩;exact⟨rfl,_,_,rfl,U,g3,M,.inl (by have:=yh (zT n);omega)⟩
  ·rintro c H ⟨rfl,J,of,rfl,U,g3,M,Y⟩;dsimp only;refine wpS_bind (fin (hint+1-min of (hint+1)) (hint-J) (β:=Unit) _ ?_ (by omega) (by omega) ?_ (.inr M) ?_)
   ·intro i B G q1 q2 q3 q4 Q' O;dsimp only;by_cases y:B>=G
    ·rw[if_pos y]at O ⊢;exact wpS_pure O
    ·rw[if_neg y]at O ⊢;refine wpS_bind (bey _ (by omega) ?_);dsimp only;by_cases x:b (B+(G-B)/2)=true
     ·rw[if_pos x]at O ⊢;exact wpS_pure O
     ·rw[if_neg x]at O ⊢;exact wpS_pure O
   ·rcases Y with Y|Y
    ·left;omega
    ·by_cases y:of>=hint+1
     ·left;omega
     ·right;rw[show hint+1-min of (hint+1)-1=hint-of by omega];exact Y
   ·intro B m hm1 hm2;exact wpS_pure (h m hm1 hm2)
end
section
variable {key:Keyed->Int}{a b out:List Keyed}{ia ib k:Nat}
def Srt (key:Keyed->Int)(l:List Keyed):Prop:=l.Pairwise fun x y=>key x<=key y
def Ble (key:Keyed->Int)(l m:List Keyed):Prop:=∀x∈l,∀y∈m,key x<=key y
structure MGL (key:Keyed->Int) (a b out:List Keyed) (ia ib:Nat):Prop where
 la:ia<=a.length
 lb:ib<=b.length
 perm:out.Perm (a.take ia++b.take ib)
 srt:Srt key out
 lea:Ble key out (a.drop ia)
 leb:Ble key out (b.drop ib)
theorem MGL.symm (h:MGL key a b out ia ib):MGL key b a out ib ia:=⟨h.lb,h.la,h.perm.trans xr,h.srt,h.leb,h.lea⟩
theorem MGL.zero:MGL key a b [] 0 0:=⟨zT _,zT _,by simp,.nil,(fun x z=>by cases z),(fun x z=>by cases z)⟩
theorem MGL.addA (h:MGL key a b out ia ib)(M:Srt key a)(hk:ia+k<=a.length)(J:Ble key ((a.drop ia).take k) (b.drop ib)):MGL key a b (out++(a.drop ia).take k) (ia+k) ib:=by
 have O:Srt key (a.drop ia):=xE.sublist (List.drop_sublist _ _) M;have U:a.take (ia+k)=a.take ia++(a.drop ia).take k:=List.take_add ..;have Y:a.drop (ia+k)=(a.drop ia).drop k:=by rw[List.drop_drop]
 have sp:Srt key ((a.drop ia).take k++(a.drop ia).drop k):=by rw[zj];exact O
 have G:=yR.mp sp;refine⟨hk,h.lb,?_,?_,?_,?_⟩
 ·rw[U];refine(h.perm.append_right _).trans ?_;rw[zN,zN];exact yu.append_left _ xr
 ·exact yR.mpr ⟨h.srt,G.1,fun x H y B=>h.lea x H y (yS B)⟩
 ·intro x H y B;rw[Y]at B;rcases zE.mp H with z|z
  ·exact h.lea x z y (x5 B)
  ·exact G.2.2 x z y B
 ·intro x H y B;rcases zE.mp H with z|z
  ·exact h.leb x z y B
  ·exact J x z y B
theorem MGL.addB (h:MGL key a b out ia ib)(B:Srt key b)(G:ib+k<=b.length)(z:Ble key ((b.drop ib).take k) (a.drop ia)):MGL key a b (out++(b.drop ib).take k) ia (ib+k) :=
 (h.symm.addA B G z).symm
theorem take_one {l:List Keyed}{i:Nat}{x:Keyed}(h:l[i]? = some x):(l.drop i).take 1=[x]:=by
 obtain⟨z,e⟩:=qB.mp h;rw[yZ z,e];rfl
theorem MGL.pushA {x:Keyed}(h:MGL key a b out ia ib)(J:Srt key a)(B:a[ia]? = some x)(H:∀y∈b.drop ib,key x<=key y):MGL key a b (out++[x]) (ia+1) ib:=by
 rw[<-take_one B];refine h.addA J (qB.mp B).1 ?_;rw[take_one B];intro z G y M;rw[zB]at G;rw[G];exact H y M
theorem MGL.pushB {x:Keyed}(h:MGL key a b out ia ib)(B:Srt key b)(G:b[ib]? = some x)(z:∀y∈a.drop ia,key x<=key y):MGL key a b (out++[x]) ia (ib+1) :=
 (h.symm.pushA B G z).symm
def Mgd (key:Keyed->Int)(a b r:List Keyed):Prop:=r.Perm (a++b)/\Srt key r
theorem MGL.done (h:MGL key a b out ia ib)(J:Srt key a)(U:Srt key b)(G:Ble key (a.drop ia) (b.drop ib)):Mgd key a b (out++a.drop ia++b.drop ib):=by
 have M:Srt key (a.drop ia):=xE.sublist (List.drop_sublist _ _) J;have H:Srt key (b.drop ib):=xE.sublist (List.drop_sublist _ _) U;refine⟨?_,?_⟩
 ·have O:a++b=(a.take ia++a.drop ia)++(b.take ib++b.drop ib):=by rw[zj,zj]
  rw[O];refine((h.perm.append_right _).append_right _).trans ?_;simp only[zN];refine yu.append_left _ ?_;rw[<-zN,<-zN];exact yu.append_right _ xr
 ·refine yR.mpr ⟨yR.mpr ⟨h.srt,M,h.lea⟩,H,fun x Y y B=>?_⟩;rcases zE.mp Y with z|z
  ·exact h.leb x z y B
  ·exact G x z y B
theorem MGL.doneB (h:MGL key a b out ia ib)(G:Srt key a)(B:Srt key b)(z:Ble key (b.drop ib) (a.drop ia)):Mgd key a b (out++b.drop ib++a.drop ia):=by
 have:=h.symm.done B G z;exact⟨this.1.trans xr,this.2⟩
theorem ble_nilR {l:List Keyed}{i:Nat}(h:b.length<=i):Ble key l (b.drop i):=fun x _ y z=>by rw[List.drop_eq_nil_of_le h]at z;cases z
theorem ble_nilL {l:List Keyed}{i:Nat}(h:b.length<=i):Ble key (b.drop i) l:=fun x z y _=>by rw[List.drop_eq_nil_of_le h]at z;cases z
theorem jZ {l:List Keyed}(h:Srt key l){i:Nat}{x y:Keyed}(J:l[i]? = some x)(B:y∈l.drop i):key x<=key y:=by
 obtain⟨H,e⟩:=qB.mp J;have G:Srt key (l.drop i):=xE.sublist (List.drop_sublist _ _) h;rw[yZ H,e]at B G;rcases zF.mp B with z|z
 ·rw[z];exact yt _
 ·exact(List.pairwise_cons.mp G).1 y z
theorem JW {l:List Keyed}(h:Srt key l){i j:Nat}{x y:Keyed}(B:i<=j)(G:l[i]? = some x)(z:l[j]? = some y):key x<=key y:=by
 refine jZ h G ?_;refine qE (i:=j-i) ?_;rw[yQ,show i+(j-i)=j by omega];exact z
theorem Jx {a:Array Keyed}{i:Nat}:(a.extract i a.size).toList=a.toList.drop i:=by
 rw[x6,yx];refine yE ?_;rw[zu,zD];exact zC _
theorem ext_k {a:Array Keyed}{i k:Nat}:(a.extract i (i+k)).toList=(a.toList.drop i).take k:=by
 rw[x6,yx,Nat.add_sub_cancel_left]
theorem xq {l:List Keyed}{i k:Nat}{x:Keyed}(h:x∈(l.drop i).take k):∃j,j<k/\i+j<l.length/\l[i+j]? = some x:=by
 obtain⟨j,e⟩:=zk.mp h;have B:j<k:=by
  rcases Nat.lt_or_ge j k with z|z
  ·exact z
  ·rw[zX (by rw[qO];omega)]at e;cases e
 rw[yM B,yQ]at e;exact⟨j,B,(qB.mp e).1,e⟩
theorem jK {l:List Keyed}{i:Nat}{x:Keyed}(h:x∈l.drop i):∃j,i+j<l.length/\l[i+j]? = some x:=by
 obtain⟨j,e⟩:=zk.mp h;rw[yQ]at e;exact⟨j,(qB.mp e).1,e⟩
end
section
variable {prog:Program}{w:World}{A:Around}{E:Value->Shared->Prop}{s:Shared}{κ:SortKind}{mem:Keyed->Prop}{key:Keyed->Int}{st:SortSt}
structure SSame (st st':SortSt):Prop where
 kind:kindOf st'=kindOf st
 arr:arrOf st'=arrOf st
 pend:pendingOf st'=pendingOf st
 fail:failedOf st'=failedOf st
theorem SSame.refl (st:SortSt):SSame st st:=⟨rfl,rfl,rfl,rfl⟩
theorem wpS_ite {M:Model}{B G:Type}{c:Prop}[Decidable c]{t e:StateT B Sem G}{Q:G->B->Prop}{st:B}(H:c->wpS M A E s t Q st)(J:¬ c->wpS M A E s e Q st):wpS M A E s (if c then t else e) Q st:=by
 by_cases z:c
 ·rw[if_pos z];exact H z
 ·rw[if_neg z];exact J z
theorem wpS_iteG {M:Model}{z B:Type}{c:Prop}{_:Decidable c}{f:Nat->StateT z Sem B}{Q:B->z->Prop}{st:z}{g1 g2:Nat}(H:∀g,wpS M A E s (f g) Q st):wpS M A E s (if c then f g1 else f g2) Q st:=wpS_ite (fun _=>H g1) fun _=>H g2
theorem s_setG {g:Nat}{st0:SortSt}{Q:Unit->SortSt->Prop}(B:SSame st0 st)(h:∀z,SSame st0 z->Q () z):wpS (model prog w) A E s (setG' g) Q st:=by
 unfold setG';refine wpS_modify (h _ ⟨B.kind,B.arr,B.pend,B.fail⟩)
theorem s_at {a:Array Keyed}{i:Nat}(h:i<a.size):∃x,a[i]? = some x/\a.toList[i]? = some x:=⟨a[i],by simp[h],by simp[h]⟩
theorem gallopR {k:Keyed}{a:Array Keyed}{i n hint:Nat}{Q:Option Nat->SortSt->Prop}(hc:SCmp prog w A s κ mem key)(hk:kindOf st=κ)(hm:mem k)(ma:∀x∈a.toList,mem x)(hin:i+n<=a.size)(sa:∀p q x y,i<=p->p<=q->q<i+n->a.toList[p]? = some x->a.toList[q]? = some y->key x<=key y)(hh:hint<n)
  (h:∀m,m<=n->(∀j x,j<m->a.toList[i+j]? = some x->key x<=key k)->(∀j x,m<=j->j<n->a.toList[i+j]? = some x->key k<key x)->Q (some m) st):wpS (model prog w) A E s (gallop' false k a i n hint) Q st:=by
 have M:∀j,j<n->∃x,a[i+j]? = some x/\a.toList[i+j]? = some x:=fun j J=>s_at (by omega);refine gallop_ok (b:=fun j=>match a.toList[i+j]? with|some x=>!decide (key k<key x)|none=>false) hc hk hm (fun j J=>?_) (fun p q aa hq G=>?_) hh fun m U B=>?_
 ·obtain⟨x,e1,H⟩:=M j J;exact⟨x,e1,ma x (qE H),by rw[H];rfl⟩
 ·obtain⟨x,_,H⟩:=M p (by omega);obtain⟨y,_,Y⟩:=M q hq;rw[Y]at G;rw[H];have:=sa (i+p) (i+q) x y (by omega) (by omega) (by omega) H Y;simp only[yo,decide_eq_false_iff_not,Int.not_lt]at G ⊢;omega
 ·refine h m U (fun j x J O=>?_) fun j x h1 h2 O=>?_
  ·have:=(B j (by omega)).mpr J;rw[O]at this;simp only[yo,decide_eq_false_iff_not,Int.not_lt]at this;exact this
  ·have:¬ _:=fun z=>Nat.not_lt.mpr h1 ((B j h2).mp z);rw[O]at this;simp only[yo,decide_eq_false_iff_not,Int.not_lt]at this;omega
theorem gallopL {k:Keyed}{a:Array Keyed}{i n hint:Nat}{Q:Option Nat->SortSt->Prop}(hc:SCmp prog w A s κ mem key)(hk:kindOf st=κ)(hm:mem k)(ma:∀x∈a.toList,mem x)(hin:i+n<=a.size)(sa:∀p q x y,i<=p->p<=q->q<i+n->a.toList[p]? = some x->a.toList[q]? = some y->key x<=key y)(hh:hint<n)
  (h:∀m,m<=n->(∀j x,j<m->a.toList[i+j]? = some x->key x<key k)->(∀j x,m<=j->j<n->a.toList[i+j]? = some x->key k<=key x)->Q (some m) st):wpS (model prog w) A E s (gallop' true k a i n hint) Q st:=by
 have M:∀j,j<n->∃x,a[i+j]? = some x/\a.toList[i+j]? = some x:=fun j J=>s_at (by omega);refine gallop_ok (b:=fun j=>match a.toList[i+j]? with|some x=>decide (key x<key k)|none=>false) hc hk hm (fun j J=>?_) (fun p q aa hq G=>?_) hh fun m U B=>?_
 ·obtain⟨x,e1,H⟩:=M j J;exact⟨x,e1,ma x (qE H),by rw[H];rfl⟩
 ·obtain⟨x,_,H⟩:=M p (by omega);obtain⟨y,_,Y⟩:=M q hq;rw[Y]at G;rw[H];have:=sa (i+p) (i+q) x y (by omega) (by omega) (by omega) H Y;simp only[decide_eq_true_eq]at G ⊢;omega
 ·refine h m U (fun j x J O=>?_) fun j x h1 h2 O=>?_
  ·have:=(B j (by omega)).mpr J;rw[O]at this;simp only[decide_eq_true_eq]at this;exact this
  ·have:¬ _:=fun z=>Nat.not_lt.mpr h1 ((B j h2).mp z);rw[O]at this;simp only[decide_eq_true_eq]at this;omega
structure ML (key:Keyed->Int) (a b out:Array Keyed) (ia ib:Nat):Prop where
 ha:ia+1<a.size
 hb:ib<b.size
 g:MGL key a.toList b.toList out.toList ia ib
set_option hygiene false in
local macro_rules | `(tactic| walk_at "TAIL_B")=>`(tactic| (
 refine wpS_bind (yY ex ?_)
 (try dsimp only)
 have G4:MGL key a.toList b.toList (o3.push x).toList (p2+1) q3:=by
  rw[yB]
  exact G3.pushA sa ex' hv3
 by_cases d5:(p2+1+1==a.size)=true
 ·rw[if_pos d5]
  exact wpS_pure ⟨hs4,.inl ⟨_,rfl,lastA G4 (beq_iff_eq.mp d5)⟩⟩
 rw[if_neg d5]
 have hp5:p2+1+1<a.size:=by
  have:¬ p2+1+1=a.size:=fun z=>d5 (beq_iff_eq.mpr z)
  omega
 split
 ·exact wpS_pure ⟨hs4,.inr ⟨_,_,_,_,_,_,rfl,⟨hp5,hq3,G4⟩,by omega⟩⟩
 ·exact wpS_pure ⟨hs4,_,_,_,_,_,_,rfl,⟨hp5,hq3,G4⟩,by omega⟩))
set_option hygiene false in
local macro_rules | `(tactic| walk_at "TAIL_A")=>`(tactic| (
 refine wpS_bind (yY ey ?_)
 (try dsimp only)
 have G2:MGL key a.toList b.toList (o2.push y).toList p2 (q1+1):=by
  rw[yB]
  exact G.pushB sb ey' hv
 by_cases d3:(q1+1==b.size)=true
 ·rw[if_pos d3]
  exact wpS_pure ⟨hs4,.inl ⟨_,rfl,doneB G2 (by have:=beq_iff_eq.mp d3;omega)⟩⟩
 rw[if_neg d3]
 have hq:q1+1<b.size:=by
  have:¬ q1+1=b.size:=fun z=>d3 (beq_iff_eq.mpr z)
  omega
 obtain⟨x,ex,ex'⟩:=s_at (a:=a) (i:=p2) (by omega)
 refine wpS_bind (yY ex ?_)
 refine wpS_bind (gallopL hc (hs4.kind.trans hk) (ma x (qE ex')) mb (by omega) (fun p q u v _ hpq _ hu hv=>JW sb hpq hu hv) (by omega) fun k2 hn1 hn2 hn3=>?_)
 (try dsimp only)
 by_cases ck2:k2>0
 ·rw[if_pos ck2]
  have G3:MGL key a.toList b.toList (o2.push y++b.extract (q1+1) (q1+1+k2)).toList p2 (q1+1+k2):=by
   rw[zZ,ext_k]
   refine G2.addB sb (by rw[zD];omega) fun u hu v hv=>?_
   obtain⟨j,j1,j2,j3⟩:=xq hu
   exact yk (jH (hn2 j u j1 j3)) (jZ sa ex' hv)
  by_cases d4:(q1+1+k2==b.size)=true
  ·rw[if_pos d4]
   exact wpS_pure ⟨hs4,.inl ⟨_,rfl,doneB G3 (by have:=beq_iff_eq.mp d4;omega)⟩⟩
  rw[if_neg d4]
  have hq3:q1+1+k2<b.size:=by
   have:¬ q1+1+k2=b.size:=fun z=>d4 (beq_iff_eq.mpr z)
   omega
  have hv3:∀v∈b.toList.drop (q1+1+k2),key x<=key v:=fun v hv=>by
   obtain⟨j,j1,j2⟩:=jK hv
   rw[zD]at j1
   exact hn3 (k2+j) v (by omega) (by omega) (by rw[<-Nat.add_assoc];exact j2)
  have hqe:q1+1<=q1+1+k2:=Nat.le_add_right _ _
  generalize o2.push y++b.extract (q1+1) (q1+1+k2)=o3 at G3 ⊢
  generalize q1+1+k2=q3 at G3 hq3 hv3 hqe ⊢
  walk_at "TAIL_B"
 ·rw[if_neg ck2]
  have k0:k2=0:=by omega
  subst k0
  have G3:=G2
  have hv3:∀v∈b.toList.drop (q1+1),key x<=key v:=fun v hv=>by
   obtain⟨j,j1,j2⟩:=jK hv
   rw[zD]at j1
   exact hn3 j v (by omega) (by omega) j2
  have hq3:=hq
  obtain⟨o3,eo3⟩:∃o3,o2.push y=o3:=⟨_,rfl⟩
  obtain⟨q3,eq3⟩:∃q3,q1+1=q3:=⟨_,rfl⟩
  rw[eo3,eq3]at G3 ⊢
  rw[eq3]at hq3 hv3
  walk_at "TAIL_B"))
theorem mergeLo_ok {a b:Array Keyed}{Q:Array Keyed->SortSt->Prop}(hc:SCmp prog w A s κ mem key)(hk:kindOf st=κ)(ma:∀x∈a.toList,mem x)(mb:∀x∈b.toList,mem x)(sa:Srt key a.toList)(sb:Srt key b.toList)(na:1<=a.size)(nb:1<=b.size)
  (hlo:∀x,b.toList[0]? = some x->∀y∈a.toList,key x<=key y) (hhi:∀x∈b.toList,∀y,a.toList[a.size-1]? = some y->key x<=key y)
  (h:∀r st',SSame st st'->Mgd key a.toList b.toList r.toList->Q r st'):wpS (model prog w) A E s (mergeLo' a b) Q st:=by
 have doneB:∀{out:Array Keyed} {ia ib:Nat},MGL key a.toList b.toList out.toList ia ib->b.size<=ib->Mgd key a.toList b.toList (out++a.extract ia a.size++b.extract ib b.size).toList:=fun {out ia ib} g hz=>by
  rw[zZ,zZ,Jx,Jx];exact g.done sa sb (ble_nilR (by rw[zD];exact hz))
 have doneA:∀{out:Array Keyed} {ia ib:Nat},MGL key a.toList b.toList out.toList ia ib->a.size<=ia->Mgd key a.toList b.toList (out++a.extract ia a.size++b.extract ib b.size).toList:=fun {out ia ib} g hz=>by
  rw[zZ,zZ,Jx,Jx];exact g.done sa sb (ble_nilL (by rw[zD];exact hz))
 have lastA:∀{out:Array Keyed} {ia ib:Nat},MGL key a.toList b.toList out.toList ia ib->ia+1=a.size->Mgd key a.toList b.toList (out++b.extract ib b.size++a.extract ia a.size).toList:=fun {out ia ib} g hz=>by
  rw[zZ,zZ,Jx,Jx];refine g.doneB sa sb fun x hx y hy=>?_;obtain⟨j,h1,h2⟩:=jK hy;rw[zD]at h1;rw[show ia+j=a.size-1 by omega]at h2;exact hhi x (x5 hx) y h2
 obtain⟨b0,eb0,eb0'⟩:=s_at (a:=b) (i:=0) (by omega);unfold mergeLo';refine wpS_bind (wpS_lift (wpAny_rule ⟨rfl,?_⟩));refine wpS_bind (yY eb0 ?_);(try dsimp only)
 have g0:MGL key a.toList b.toList #[b0].toList 0 1:=MGL.zero.pushB sb eb0' fun y hy=>hlo b0 eb0' y hy;by_cases z1:(1==b.size)=true
 ·rw[if_pos z1];exact wpS_pure (h _ st (SSame.refl st) (doneB g0 (by have:=beq_iff_eq.mp z1;omega)))
 rw[if_neg z1];by_cases z2:(0+1==a.size)=true
 ·rw[if_pos z2];exact wpS_pure (h _ st (SSame.refl st) (lastA g0 (by have:=beq_iff_eq.mp z2;omega)))
 rw[if_neg z2];have z1':1<b.size:=by
  have:¬ 1=b.size:=fun z=>z1 (beq_iff_eq.mpr z);omega
 have z2':0+1<a.size:=by
  have:¬ 0+1=a.size:=fun z=>z2 (beq_iff_eq.mpr z);omega
 refine wpS_bind (wpS_get ?_);refine wpS_bind (wpS_mono (wpS_forRange (I:=fun i c st'=>SSame st st'/\∃out ia ib mg,c=(none,out,ia,ib,mg)/\ML key a b out ia ib/\i+1<=ia+ib)
  (Q:=fun c st'=>SSame st st'/\∃r,c.1=some r/\Mgd key a.toList b.toList r.toList) ?_ ?_ ⟨SSame.refl st,_,_,_,_,rfl,⟨z2',z1',g0⟩,by omega⟩) ?_)
 ·rintro i c st1 _ hi ⟨hs1,out,ia,ib,mg,rfl,hM,hlen⟩;(try dsimp only)
  refine wpS_bind (wpS_mono (wpS_forRange (I:=fun j c st'=>SSame st st'/\∃o p q ac bc,c=(none,o,p,q,ac,bc)/\ML key a b o p q/\ia+ib+j<=p+q)
   (Q:=fun c st'=>SSame st st'/\((∃r,c.1=some r/\Mgd key a.toList b.toList r.toList)\/(∃o p q ac bc,c=(none,o,p,q,ac,bc)/\ML key a b o p q/\ia+ib+1<=p+q))) ?_ ?_ ⟨hs1,_,_,_,_,_,rfl,hM,by omega⟩) ?_)
  ·rintro j c st2 _ hj ⟨hs2,o,p,q,ac,bc,rfl,hN,hl2⟩;(try dsimp only)
   obtain⟨y,ey,ey'⟩:=s_at hN.hb;obtain⟨x,ex,ex'⟩:=s_at (a:=a) (i:=p) (by have:=hN.ha;omega);refine wpS_bind (yY ey (wpS_bind (yY ex ?_)));refine wpS_bind (s_lt hc (hs2.kind.trans hk) (mb y (qE ey')) (ma x (qE ex')) ?_);(try dsimp only)
   by_cases lt:key y<key x
   ·rw[decide_eq_true lt,if_pos rfl];refine wpS_bind (yY ey ?_);(try dsimp only)
    have g1:MGL key a.toList b.toList (o.push y).toList p (q+1):=by
     rw[yB];exact hN.g.pushB sb ey' fun v hv=>by have:=jZ sa ex' hv;omega
    by_cases c1:(q+1==b.size)=true
    ·rw[if_pos c1];exact wpS_pure ⟨hs2,.inl ⟨_,rfl,doneB g1 (by have:=beq_iff_eq.mp c1;omega)⟩⟩
    ·rw[if_neg c1];have c1':q+1<b.size:=by
      have:¬ q+1=b.size:=fun z=>c1 (beq_iff_eq.mpr z);have:=hN.hb;omega
     by_cases c2:bc+1>=mg
     ·rw[if_pos c2];exact wpS_pure ⟨hs2,.inr ⟨_,_,_,_,_,rfl,⟨hN.ha,c1',g1⟩,by omega⟩⟩
     ·rw[if_neg c2];exact wpS_pure ⟨hs2,_,_,_,_,_,rfl,⟨hN.ha,c1',g1⟩,by omega⟩
   ·rw[decide_eq_false lt,if_neg (by decide)];refine wpS_bind (yY ex ?_);(try dsimp only)
    have g1:MGL key a.toList b.toList (o.push x).toList (p+1) q:=by
     rw[yB];exact hN.g.pushA sa ex' fun v hv=>by have:=jZ sb ey' hv;omega
    by_cases c1:(p+1+1==a.size)=true
    ·rw[if_pos c1];exact wpS_pure ⟨hs2,.inl ⟨_,rfl,lastA g1 (beq_iff_eq.mp c1)⟩⟩
    ·rw[if_neg c1];have c1':p+1+1<a.size:=by
      have:¬ p+1+1=a.size:=fun z=>c1 (beq_iff_eq.mpr z);have:=hN.ha;omega
     by_cases c2:ac+1>=mg
     ·rw[if_pos c2];exact wpS_pure ⟨hs2,.inr ⟨_,_,_,_,_,rfl,⟨c1',hN.hb,g1⟩,by omega⟩⟩
     ·rw[if_neg c2];exact wpS_pure ⟨hs2,_,_,_,_,_,rfl,⟨c1',hN.hb,g1⟩,by omega⟩
  ·rintro c st2 ⟨hs2,o,p,q,ac,bc,rfl,hN,hl2⟩;exact⟨hs2,.inr ⟨_,_,_,_,_,rfl,hN,by have:=yh (zT (a.size+b.size));omega⟩⟩
  ·rintro c st2 ⟨hs2,⟨r,er,hr⟩|⟨o,p,q,ac,bc,rfl,hN,hl2⟩⟩
   ·rw[er];exact wpS_pure ⟨hs2,r,rfl,hr⟩
   (try dsimp only)
   refine wpS_bind (wpS_lift (wpAny_rule ⟨rfl,?_⟩));refine wpS_bind (wpS_mono (wpS_forRange (I:=fun j c st'=>SSame st st'/\∃o1 p1 q1 mg1 ac bc,c=(none,o1,p1,q1,mg1,ac,bc)/\ML key a b o1 p1 q1/\p+q<=p1+q1)
    (Q:=fun c st'=>SSame st st'/\((∃r,c.1=some r/\Mgd key a.toList b.toList r.toList)\/(∃o1 p1 q1 mg1 ac bc,c=(none,o1,p1,q1,mg1,ac,bc)/\ML key a b o1 p1 q1/\p+q<=p1+q1))) ?_ ?_ ⟨hs2,_,_,_,_,_,_,rfl,hN,zC _⟩) ?_)
   ·rintro j c st3 _ hj ⟨hs3,o1,p1,q1,mg1,ac1,bc1,rfl,hR,hl3⟩;(try dsimp only)
    obtain⟨y,ey,ey'⟩:=s_at hR.hb;have ha1:=hR.ha;have hb1:=hR.hb;generalize mg1-1=g1;apply wpS_iteG (g1:=g1) (g2:=mg1);intro g1
    ·refine wpS_bind (s_setG hs3 fun st4 hs4=>?_);refine wpS_bind (yY ey ?_);refine wpS_bind (gallopR hc (hs4.kind.trans hk) (mb y (qE ey')) ma (by omega) (fun p q u v _ hpq _ hu hv=>JW sa hpq hu hv) (by omega) fun k hm1 hm2 hm3=>?_);(try dsimp only)
     by_cases ck:k>0
     ·rw[if_pos ck];have G:MGL key a.toList b.toList (o1++a.extract p1 (p1+k)).toList (p1+k) q1:=by
       rw[zZ,ext_k];refine hR.g.addA sa (by rw[zD];omega) fun u hu v hv=>?_;obtain⟨j,j1,j2,j3⟩:=xq hu;exact yk (hm2 j u j1 j3) (jZ sb ey' hv)
      by_cases d1:(p1+k+1==a.size)=true
      ·rw[if_pos d1];exact wpS_pure ⟨hs4,.inl ⟨_,rfl,lastA G (beq_iff_eq.mp d1)⟩⟩
      rw[if_neg d1];by_cases d2:(p1+k==a.size)=true
      ·rw[if_pos d2];exact wpS_pure ⟨hs4,.inl ⟨_,rfl,doneA G (by have:=beq_iff_eq.mp d2;omega)⟩⟩
      rw[if_neg d2];have hp:p1+k+1<a.size:=by
       have:¬ p1+k+1=a.size:=fun z=>d1 (beq_iff_eq.mpr z);have:¬ p1+k=a.size:=fun z=>d2 (beq_iff_eq.mpr z);omega
      have hv:∀v∈a.toList.drop (p1+k),key y<=key v:=fun v hv=>by
       obtain⟨j,j1,j2⟩:=jK hv;rw[zD]at j1;have:=hm3 (k+j) v (by omega) (by omega) (by rw[<-Nat.add_assoc];exact j2);omega
      have hle:p1<=p1+k:=Nat.le_add_right _ _;generalize o1++a.extract p1 (p1+k)=o2 at G ⊢;generalize p1+k=p2 at G hp hv hle ⊢
      walk_at "TAIL_A"
     ·rw[if_neg ck];have k0:k=0:=by omega
      subst k0;have G:=hR.g;have hp:=hR.ha;have hv:∀v∈a.toList.drop p1,key y<=key v:=fun v hv=>by
       obtain⟨j,j1,j2⟩:=jK hv;rw[zD]at j1;have:=hm3 j v (by omega) (by omega) j2;omega
      have hle:p1<=p1:=zC _;obtain⟨o2,eo2⟩:∃o2,o1=o2:=⟨_,rfl⟩;obtain⟨p2,ep2⟩:∃p2,p1=p2:=⟨_,rfl⟩;rw[eo2,ep2]at G ⊢;rw[ep2]at hp hv
      walk_at "TAIL_A"
   ·rintro c st3 ⟨hs3,o1,p1,q1,mg1,ac1,bc1,rfl,hR,hl3⟩;exact⟨hs3,.inr ⟨_,_,_,_,_,_,rfl,hR,hl3⟩⟩
   ·rintro c st3 ⟨hs3,⟨r,er,hr⟩|⟨o1,p1,q1,mg1,ac1,bc1,rfl,hR,hl3⟩⟩
    ·rw[er];exact wpS_pure ⟨hs3,r,rfl,hr⟩
    (try dsimp only)
    refine wpS_bind (s_setG hs3 fun st4 hs4=>?_);exact wpS_pure ⟨hs4,_,_,_,_,rfl,hR,by omega⟩
 ·rintro c st1 ⟨hs1,out,ia,ib,mg,rfl,hM,hlen⟩;have:=yh (zT (a.size+b.size));have:=hM.ha;have:=hM.hb;omega
 ·rintro c st1 ⟨hs1,r,er,hr⟩;(try dsimp only)
  rw[er];exact wpS_pure (h r st1 hs1 hr)
end
section
variable {key:Keyed->Int}{a b out:List Keyed}{na nb k:Nat}
structure MH (key:Keyed->Int) (a b out:List Keyed) (na nb:Nat):Prop where
 hna:na<=a.length
 hnb:nb<=b.length
 g:MGL (fun x=>-key x) a.reverse b.reverse out (a.length-na) (b.length-nb)
theorem srt_rev (h:Srt key a):Srt (fun x=>-key x) a.reverse:=by
 unfold Srt at h ⊢;rw[List.pairwise_reverse];exact h.imp fun z=>Int.neg_le_neg z
theorem jD (h:na<=a.length):a.reverse.drop (a.length-na)=(a.take na).reverse:=by
 rw[List.drop_reverse,show a.length-(a.length-na)=na by omega]
theorem MH.symm (h:MH key a b out na nb):MH key b a out nb na:=⟨h.hnb,h.hna,h.g.symm⟩
theorem MH.addA {t:Nat}(h:MH key a b out na nb)(G:Srt key a)(M:t<=na)(B:∀x∈(a.drop t).take (na-t),∀y∈b.take nb,key y<=key x):MH key a b (out++((a.drop t).take (na-t)).reverse) t nb:=by
 have hna:=h.hna;have z:(a.reverse.drop (a.length-na)).take (na-t)=((a.drop t).take (na-t)).reverse:=by
  rw[jD hna,List.take_reverse,qO,Nat.min_eq_left hna,show na-(na-t)=t by omega,List.drop_take]
 have:=h.g.addA (k:=na-t) (srt_rev G) (by rw[List.length_reverse];omega) (by
  rw[z,jD h.hnb];intro x J y H;have:=B x (jG.mp J) y (jG.mp H);show -key x <= -key y
  omega)
 rw[z,show a.length-na+(na-t)=a.length-t by omega]at this;exact⟨by omega,h.hnb,this⟩
theorem MH.pushA {x:Keyed}{t:Nat}(h:MH key a b out na nb)(H:Srt key a)(O:t+1=na)(M:a[t]? = some x)(G:∀y∈b.take nb,key y<=key x):MH key a b (out++[x]) t nb:=by
 have e:((a.drop t).take (na-t))=[x]:=by
  rw[show na-t=1 by omega];exact take_one M
 have:=h.addA H (t:=t) (by omega) (by
  rw[e];intro z B y J;rw[zB]at B;rw[B];exact G y J)
 rw[e]at this;exact this
theorem MH.addB {t:Nat}(h:MH key a b out na nb)(B:Srt key b)(G:t<=nb)(z:∀x∈(b.drop t).take (nb-t),∀y∈a.take na,key y<=key x):MH key a b (out++((b.drop t).take (nb-t)).reverse) na t :=
 (h.symm.addA B G z).symm
theorem MH.pushB {x:Keyed}{t:Nat}(h:MH key a b out na nb)(B:Srt key b)(G:t+1=nb)(H:b[t]? = some x)(z:∀y∈a.take na,key y<=key x):MH key a b (out++[x]) na t :=
 (h.symm.pushA B G H z).symm
theorem mgd_rev {r:List Keyed}(h:Mgd (fun x=>-key x) a.reverse b.reverse r):Mgd key a b r.reverse:=by
 refine⟨?_,?_⟩
 ·refine(List.reverse_perm r).trans (h.1.trans ?_);exact(List.reverse_perm a).append (List.reverse_perm b)
 ·have z:=h.2;unfold Srt at z ⊢;rw[List.pairwise_reverse];exact z.imp fun B=>by dsimp only at B;omega
theorem MH.done (h:MH key a b out na nb)(B:Srt key a)(H:Srt key b)(z:Ble key (a.take na) (b.take nb)):Mgd key a b (a.take na++b.take nb++out.reverse):=by
 have:=mgd_rev (h.g.doneB (srt_rev B) (srt_rev H) (by
  rw[jD h.hna,jD h.hnb];intro x J y G;have:=z y (jG.mp G) x (jG.mp J);show -key x <= -key y
  omega))
 rw[jD h.hna,jD h.hnb,List.reverse_append,List.reverse_append,List.reverse_reverse,List.reverse_reverse,<-zN]at this;exact this
theorem MH.doneB (h:MH key a b out na nb)(G:Srt key a)(B:Srt key b)(z:Ble key (b.take nb) (a.take na)):Mgd key a b (b.take nb++a.take na++out.reverse):=by
 have:=h.symm.done B G z;exact⟨this.1.trans xr,this.2⟩
theorem MH.zero:MH key a b [] a.length b.length:=⟨zC _,zC _,by rw[xU,xU];exact MGL.zero⟩
theorem ext_0 {a:Array Keyed}{i:Nat}:(a.extract 0 i).toList=a.toList.take i:=by
 rw[x6,yx];rfl
theorem ext_r {a:Array Keyed}{t i:Nat}:(a.extract t i).reverse.toList=((a.toList.drop t).take (i-t)).reverse:=by
 rw[Array.toList_reverse,x6,yx]
theorem ja {l:List Keyed}{n:Nat}{x:Keyed}(h:x∈l.take n):∃j,j<n/\l[j]? = some x:=by
 obtain⟨j,e⟩:=zk.mp h;have B:j<n:=by
  rcases Nat.lt_or_ge j n with z|z
  ·exact z
  ·rw[zX (by rw[qO];omega)]at e;cases e
 rw[yM B]at e;exact⟨j,B,e⟩
theorem JC {l:List Keyed}(h:Srt key l){i:Nat}{x y:Keyed}(G:l[i]? = some x)(B:y∈l.take (i+1)):key y<=key x:=by
 obtain⟨j,H,z⟩:=ja B;exact JW h (by omega) z G
end
section
variable {prog:Program}{w:World}{A:Around}{E:Value->Shared->Prop}{s:Shared}{κ:SortKind}{mem:Keyed->Prop}{key:Keyed->Int}{st:SortSt}
structure MHs (key:Keyed->Int) (a b out:Array Keyed) (na nb:Nat):Prop where
 ha:0<na
 hb:1<nb
 la:na<=a.size
 lb:nb<=b.size
 g:MH key a.toList b.toList out.toList na nb
set_option hygiene false in
local macro_rules | `(tactic| walk_at "TAIL_D")=>`(tactic| (
 refine wpS_bind (yY ex ?_)
 (try dsimp only)
 have G4:MH key a.toList b.toList (o3.push x).toList (p2-1) q3:=by
  rw[yB]
  exact G3.pushA sa (by omega) ex' hv3
 by_cases d5:(p2-1==0)=true
 ·rw[if_pos d5]
  exact wpS_pure ⟨hs4,.inl ⟨_,rfl,doneA G4 (by have:=beq_iff_eq.mp d5;omega)⟩⟩
 rw[if_neg d5]
 have hp5:0<p2-1:=by
  have:¬ p2-1=0:=fun z=>d5 (beq_iff_eq.mpr z)
  omega
 split
 ·exact wpS_pure ⟨hs4,.inr ⟨_,_,_,_,_,_,rfl,⟨hp5,hq3,by omega,by omega,G4⟩,by omega⟩⟩
 ·exact wpS_pure ⟨hs4,_,_,_,_,_,_,rfl,⟨hp5,hq3,by omega,by omega,G4⟩,by omega⟩))
set_option hygiene false in
local macro_rules | `(tactic| walk_at "TAIL_C")=>`(tactic| (
 refine wpS_bind (yY ey ?_)
 (try dsimp only)
 have G2:MH key a.toList b.toList (o2.push y).toList p2 (q1-1):=by
  rw[yB]
  exact G.pushB sb (by omega) ey' hv
 by_cases d3:(q1-1==1)=true
 ·rw[if_pos d3]
  exact wpS_pure ⟨hs4,.inl ⟨_,rfl,firstB G2 (beq_iff_eq.mp d3)⟩⟩
 rw[if_neg d3]
 have hq:1<q1-1:=by
  have:¬ q1-1=1:=fun z=>d3 (beq_iff_eq.mpr z)
  omega
 obtain⟨x,ex,ex'⟩:=s_at (a:=a) (i:=p2-1) (by omega)
 refine wpS_bind (yY ex ?_)
 refine wpS_bind (gallopL hc (hs4.kind.trans hk) (ma x (qE ex')) mb (by omega) (fun p q u v _ hpq _ hu hv=>JW sb hpq hu hv) (by omega) fun t2 hn1 hn2 hn3=>?_)
 (try dsimp only)
 have hv3:∀v∈b.toList.take t2,key v<=key x:=fun v hv=>by
  obtain⟨j,j1,j2⟩:=ja hv
  exact jH (hn2 j v j1 (by rw[jE];exact j2))
 by_cases ck2:q1-1-t2>0
 ·rw[if_pos ck2]
  have G3:MH key a.toList b.toList (o2.push y++(b.extract t2 (q1-1)).reverse).toList p2 t2:=by
   rw[zZ,ext_r]
   refine G2.addB sb (by omega) fun u hu v hv=>?_
   obtain⟨j,j1,j2,j3⟩:=xq hu
   refine yk (JC sa ex' (by rw[show p2-1+1=p2 by omega];exact hv)) ?_
   exact hn3 (t2+j) u (by omega) (by omega) (by rw[jE];exact j3)
  by_cases d4:(t2==1)=true
  ·rw[if_pos d4]
   exact wpS_pure ⟨hs4,.inl ⟨_,rfl,firstB G3 (beq_iff_eq.mp d4)⟩⟩
  rw[if_neg d4]
  by_cases d6:(t2==0)=true
  ·rw[if_pos d6]
   exact wpS_pure ⟨hs4,.inl ⟨_,rfl,doneZ G3 (beq_iff_eq.mp d6)⟩⟩
  rw[if_neg d6]
  have hq3:1<t2:=by
   have:¬ t2=1:=fun z=>d4 (beq_iff_eq.mpr z)
   have:¬ t2=0:=fun z=>d6 (beq_iff_eq.mpr z)
   omega
  have hqe:t2<=q1-1:=by omega
  generalize o2.push y++(b.extract t2 (q1-1)).reverse=o3 at G3 ⊢
  obtain⟨q3,eq3⟩:∃q3,t2=q3:=⟨_,rfl⟩
  rw[eq3]at G3 hq3 hv3 hqe ⊢
  walk_at "TAIL_D"
 ·rw[if_neg ck2]
  have k0:t2=q1-1:=by omega
  rw[k0]at hv3
  have G3:=G2
  have hq3:=hq
  have hqe:q1-1<=q1-1:=zC _
  obtain⟨o3,eo3⟩:∃o3,o2.push y=o3:=⟨_,rfl⟩
  obtain⟨q3,eq3⟩:∃q3,q1-1=q3:=⟨_,rfl⟩
  rw[eo3,eq3]at G3 ⊢
  rw[eq3]at hq3 hv3 hqe
  walk_at "TAIL_D"))
theorem mergeHi_ok {a b:Array Keyed}{Q:Array Keyed->SortSt->Prop}(hc:SCmp prog w A s κ mem key)(hk:kindOf st=κ)(ma:∀x∈a.toList,mem x)(mb:∀x∈b.toList,mem x)(sa:Srt key a.toList)(sb:Srt key b.toList)(na:1<=a.size)(nb:1<=b.size)
  (hlo:∀x,b.toList[0]? = some x->∀y∈a.toList,key x<=key y) (hhi:∀x∈b.toList,∀y,a.toList[a.size-1]? = some y->key x<=key y)
  (h:∀r st',SSame st st'->Mgd key a.toList b.toList r.toList->Q r st'):wpS (model prog w) A E s (mergeHi' a b) Q st:=by
 have doneA:∀{out:Array Keyed} {p q:Nat},MH key a.toList b.toList out.toList p q->p=0->Mgd key a.toList b.toList (a.extract 0 p++b.extract 0 q++out.reverse).toList:=fun {out p q} g hz=>by
  rw[zZ,zZ,ext_0,ext_0,Array.toList_reverse];exact g.done sa sb fun x hx=>by rw[hz,List.take_zero]at hx;cases hx
 have doneZ:∀{out:Array Keyed} {p q:Nat},MH key a.toList b.toList out.toList p q->q=0->Mgd key a.toList b.toList (a.extract 0 p++b.extract 0 q++out.reverse).toList:=fun {out p q} g hz=>by
  rw[zZ,zZ,ext_0,ext_0,Array.toList_reverse];exact g.done sa sb fun x _ y hy=>by rw[hz,List.take_zero]at hy;cases hy
 have firstB:∀{out:Array Keyed} {p q:Nat},MH key a.toList b.toList out.toList p q->q=1->Mgd key a.toList b.toList (b.extract 0 q++a.extract 0 p++out.reverse).toList:=fun {out p q} g hz=>by
  rw[zZ,zZ,ext_0,ext_0,Array.toList_reverse];refine g.doneB sa sb fun x hx y hy=>?_;obtain⟨j,h1,h2⟩:=ja hx;rw[show j=0 by omega]at h2;exact hlo x h2 y (yS hy)
 obtain⟨a0,ea0,ea0'⟩:=s_at (a:=a) (i:=a.size-1) (by omega);unfold mergeHi';refine wpS_bind (wpS_lift (wpAny_rule ⟨rfl,?_⟩));refine wpS_bind (yY ea0 ?_);(try dsimp only)
 have g0:MH key a.toList b.toList #[a0].toList (a.size-1) b.size:=by
  have:=(MH.zero (key:=key) (a:=a.toList) (b:=b.toList)).pushA sa (t:=a.size-1) (by rw[zD];omega) ea0' fun y hy=>hhi y (yS hy) a0 ea0';rw[zD]at this;exact this
 by_cases z1:(a.size-1==0)=true
 ·rw[if_pos z1];exact wpS_pure (h _ st (SSame.refl st) (doneA g0 (beq_iff_eq.mp z1)))
 rw[if_neg z1];by_cases z2:(b.size==1)=true
 ·rw[if_pos z2];exact wpS_pure (h _ st (SSame.refl st) (firstB g0 (beq_iff_eq.mp z2)))
 rw[if_neg z2];have z1':0<a.size-1:=by
  have:¬ a.size-1=0:=fun z=>z1 (beq_iff_eq.mpr z);omega
 have z2':1<b.size:=by
  have:¬ b.size=1:=fun z=>z2 (beq_iff_eq.mpr z);omega
 refine wpS_bind (wpS_get ?_);refine wpS_bind (wpS_mono (wpS_forRange (I:=fun i c st'=>SSame st st'/\∃p q out mg,c=(none,p,q,out,mg)/\MHs key a b out p q/\i+1+p+q<=a.size+b.size)
  (Q:=fun c st'=>SSame st st'/\∃r,c.1=some r/\Mgd key a.toList b.toList r.toList) ?_ ?_ ⟨SSame.refl st,_,_,_,_,rfl,⟨z1',z2',by omega,by omega,g0⟩,by omega⟩) ?_)
 ·rintro i c st1 _ hi ⟨hs1,ia,ib,out,mg,rfl,hM,hlen⟩;(try dsimp only)
  refine wpS_bind (wpS_mono (wpS_forRange (I:=fun j c st'=>SSame st st'/\∃p q o ac bc,c=(none,p,q,o,ac,bc)/\MHs key a b o p q/\p+q+j<=ia+ib)
   (Q:=fun c st'=>SSame st st'/\((∃r,c.1=some r/\Mgd key a.toList b.toList r.toList)\/(∃p q o ac bc,c=(none,p,q,o,ac,bc)/\MHs key a b o p q/\p+q+1<=ia+ib))) ?_ ?_ ⟨hs1,_,_,_,_,_,rfl,hM,by omega⟩) ?_)
  ·rintro j c st2 _ hj ⟨hs2,p,q,o,ac,bc,rfl,hN,hl2⟩;(try dsimp only)
   have hN1:=hN.ha;have hN2:=hN.hb;have hN3:=hN.la;have hN4:=hN.lb;obtain⟨y,ey,ey'⟩:=s_at (a:=b) (i:=q-1) (by omega);obtain⟨x,ex,ex'⟩:=s_at (a:=a) (i:=p-1) (by omega);refine wpS_bind (yY ey (wpS_bind (yY ex ?_)));refine wpS_bind (s_lt hc (hs2.kind.trans hk) (mb y (qE ey')) (ma x (qE ex')) ?_);(try dsimp only)
   by_cases lt:key y<key x
   ·rw[decide_eq_true lt,if_pos rfl];refine wpS_bind (yY ex ?_);(try dsimp only)
    have g1:MH key a.toList b.toList (o.push x).toList (p-1) q:=by
     rw[yB];exact hN.g.pushA sa (by omega) ex' fun v hv=>by
      have:=JC sb ey' (y:=v) (by rw[show q-1+1=q by omega];exact hv);omega
    by_cases c1:(p-1==0)=true
    ·rw[if_pos c1];exact wpS_pure ⟨hs2,.inl ⟨_,rfl,doneA g1 (beq_iff_eq.mp c1)⟩⟩
    ·rw[if_neg c1];have c1':0<p-1:=by
      have:¬ p-1=0:=fun z=>c1 (beq_iff_eq.mpr z);omega
     by_cases c2:ac+1>=mg
     ·rw[if_pos c2];exact wpS_pure ⟨hs2,.inr ⟨_,_,_,_,_,rfl,⟨c1',hN2,by omega,hN4,g1⟩,by omega⟩⟩
     ·rw[if_neg c2];exact wpS_pure ⟨hs2,_,_,_,_,_,rfl,⟨c1',hN2,by omega,hN4,g1⟩,by omega⟩
   ·rw[decide_eq_false lt,if_neg (by decide)];refine wpS_bind (yY ey ?_);(try dsimp only)
    have g1:MH key a.toList b.toList (o.push y).toList p (q-1):=by
     rw[yB];exact hN.g.pushB sb (by omega) ey' fun v hv=>by
      have:=JC sa ex' (y:=v) (by rw[show p-1+1=p by omega];exact hv);omega
    by_cases c1:(q-1==1)=true
    ·rw[if_pos c1];exact wpS_pure ⟨hs2,.inl ⟨_,rfl,firstB g1 (beq_iff_eq.mp c1)⟩⟩
    ·rw[if_neg c1];have c1':1<q-1:=by
      have:¬ q-1=1:=fun z=>c1 (beq_iff_eq.mpr z);omega
     by_cases c2:bc+1>=mg
     ·rw[if_pos c2];exact wpS_pure ⟨hs2,.inr ⟨_,_,_,_,_,rfl,⟨hN1,c1',hN3,by omega,g1⟩,by omega⟩⟩
     ·rw[if_neg c2];exact wpS_pure ⟨hs2,_,_,_,_,_,rfl,⟨hN1,c1',hN3,by omega,g1⟩,by omega⟩
  ·rintro c st2 ⟨hs2,p,q,o,ac,bc,rfl,hN,hl2⟩;exact⟨hs2,.inr ⟨_,_,_,_,_,rfl,hN,by have:=yh (zT (a.size+b.size));omega⟩⟩
  ·rintro c st2 ⟨hs2,⟨r,er,hr⟩|⟨p,q,o,ac,bc,rfl,hN,hl2⟩⟩
   ·rw[er];exact wpS_pure ⟨hs2,r,rfl,hr⟩
   (try dsimp only)
   refine wpS_bind (wpS_lift (wpAny_rule ⟨rfl,?_⟩));refine wpS_bind (wpS_mono (wpS_forRange (I:=fun j c st'=>SSame st st'/\∃p1 q1 o1 mg1 ac bc,c=(none,p1,q1,o1,mg1,ac,bc)/\MHs key a b o1 p1 q1/\p1+q1<=p+q)
    (Q:=fun c st'=>SSame st st'/\((∃r,c.1=some r/\Mgd key a.toList b.toList r.toList)\/(∃p1 q1 o1 mg1 ac bc,c=(none,p1,q1,o1,mg1,ac,bc)/\MHs key a b o1 p1 q1/\p1+q1<=p+q))) ?_ ?_ ⟨hs2,_,_,_,_,_,_,rfl,hN,zC _⟩) ?_)
   ·rintro j c st3 _ hj ⟨hs3,p1,q1,o1,mg1,ac1,bc1,rfl,hR,hl3⟩;(try dsimp only)
    have ha1:=hR.ha;have hb1:=hR.hb;have ha2:=hR.la;have hb2:=hR.lb;obtain⟨y,ey,ey'⟩:=s_at (a:=b) (i:=q1-1) (by omega);generalize mg1-1=g1;apply wpS_iteG (g1:=g1) (g2:=mg1);intro g1
    ·refine wpS_bind (s_setG hs3 fun st4 hs4=>?_);refine wpS_bind (yY ey ?_);refine wpS_bind (gallopR hc (hs4.kind.trans hk) (mb y (qE ey')) ma (by omega) (fun p q u v _ hpq _ hu hv=>JW sa hpq hu hv) (by omega) fun t hm1 hm2 hm3=>?_);(try dsimp only)
     have hv:∀v∈a.toList.take t,key v<=key y:=fun v hv=>by
      obtain⟨j,j1,j2⟩:=ja hv;exact hm2 j v j1 (by rw[jE];exact j2)
     by_cases ck:p1-t>0
     ·rw[if_pos ck];have G:MH key a.toList b.toList (o1++(a.extract t p1).reverse).toList t q1:=by
       rw[zZ,ext_r];refine hR.g.addA sa (by omega) fun u hu v hv=>?_;obtain⟨j,j1,j2,j3⟩:=xq hu;refine yk (JC sb ey' (by rw[show q1-1+1=q1 by omega];exact hv)) ?_;exact jH (hm3 (t+j) u (by omega) (by omega) (by rw[jE];exact j3))
      by_cases d1:(t==0)=true
      ·rw[if_pos d1];exact wpS_pure ⟨hs4,.inl ⟨_,rfl,doneA G (beq_iff_eq.mp d1)⟩⟩
      rw[if_neg d1];have hp:0<t:=by
       have:¬ t=0:=fun z=>d1 (beq_iff_eq.mpr z);omega
      have hle:t<=p1:=by omega
      generalize o1++(a.extract t p1).reverse=o2 at G ⊢;obtain⟨p2,ep2⟩:∃p2,t=p2:=⟨_,rfl⟩;rw[ep2]at G hp hv hle ⊢
      walk_at "TAIL_C"
     ·rw[if_neg ck];have k0:t=p1:=by omega
      rw[k0]at hv;have G:=hR.g;have hp:=hR.ha;have hle:p1<=p1:=zC _;obtain⟨o2,eo2⟩:∃o2,o1=o2:=⟨_,rfl⟩;obtain⟨p2,ep2⟩:∃p2,p1=p2:=⟨_,rfl⟩;rw[eo2,ep2]at G ⊢;rw[ep2]at hp hv hle
      walk_at "TAIL_C"
   ·rintro c st3 ⟨hs3,o1,p1,q1,mg1,ac1,bc1,rfl,hR,hl3⟩;exact⟨hs3,.inr ⟨_,_,_,_,_,_,rfl,hR,hl3⟩⟩
   ·rintro c st3 ⟨hs3,⟨r,er,hr⟩|⟨p1,q1,o1,mg1,ac1,bc1,rfl,hR,hl3⟩⟩
    ·rw[er];exact wpS_pure ⟨hs3,r,rfl,hr⟩
    (try dsimp only)
    refine wpS_bind (s_setG hs3 fun st4 hs4=>?_);exact wpS_pure ⟨hs4,_,_,_,_,rfl,hR,by omega⟩
 ·rintro c st1 ⟨hs1,ia,ib,out,mg,rfl,hM,hlen⟩;have:=yh (zT (a.size+b.size));have:=hM.ha;have:=hM.hb;omega
 ·rintro c st1 ⟨hs1,r,er,hr⟩;(try dsimp only)
  rw[er];exact wpS_pure (h r st1 hs1 hr)
end
section
variable {prog:Program}{w:World}{A:Around}{E:Value->Shared->Prop}{s:Shared}{κ:SortKind}{mem:Keyed->Prop}{key:Keyed->Int}{st:SortSt}{a0 xs:Array Keyed}{pd:Array (Nat×Nat×Nat)}{lo nrem:Nat}
def Kx (key:Keyed->Int)(xs:Array Keyed)(i:Nat):Int:=match xs[i]? with
 |some p=>key p
 |none=>0
theorem kx_eq {z:Array Keyed}{i j:Nat}(h:xs[i]? = z[j]?):Kx key xs i=Kx key z j:=by unfold Kx;rw[h]
def SegS (key:Keyed->Int)(xs:Array Keyed)(lo z:Nat):Prop:=∀i j,lo<=i->i<=j->j<z->Kx key xs i<=Kx key xs j
def SegD (key:Keyed->Int)(xs:Array Keyed)(lo z:Nat):Prop:=∀i j,lo<=i->i<=j->j<z->Kx key xs j<=Kx key xs i
theorem Jy {i j:Nat}(B:j<=xs.size)(k:Nat):Kx key (mirror xs i j ((j-i)/2)) k=if i<=k/\k<j then Kx key xs (i+j-1-k) else Kx key xs k:=by
 have e:=getElem?_mirror_all (i:=i) B k;by_cases z:i<=k/\k<j
 ·rw[if_pos z]at e ⊢;exact kx_eq e
 ·rw[if_neg z]at e ⊢;exact kx_eq e
theorem ym {i j:Nat}(z:j<=xs.size)(heq:∀k,i<=k->k<j->Kx key xs k=Kx key xs (j-1))(k:Nat):Kx key (mirror xs i j ((j-i)/2)) k=Kx key xs k:=by
 rw[Jy z];split
 ·rw[heq _ (by omega) (by omega),heq k (by omega) (by omega)]
 ·rfl
theorem kx_bubble {src d:Nat}(H:src<xs.size)(G:d<=src)(k:Nat) :
  Kx key (bubble xs src d) k=if k=src-d then Kx key xs src else if src-d<k/\k<=src then Kx key xs (k-1) else Kx key xs k:=by
 have e:=getElem?_bubble H d G k;by_cases B:k=src-d
 ·rw[if_pos B]at e ⊢;exact kx_eq e
 ·rw[if_neg B]at e ⊢;by_cases z:src-d<k/\k<=src
  ·rw[if_pos z]at e ⊢;exact kx_eq e
  ·rw[if_neg z]at e ⊢;exact kx_eq e
theorem SegS.ext {k:Nat}(h:SegS key xs lo k)(M:lo+1<=k)(H:Kx key xs (k-1)<=Kx key xs k):SegS key xs lo (k+1):=fun i j G B J=>by
 by_cases z:j=k
 ·by_cases y:i=j
  ·rw[y];exact yt _
  ·rw[z];exact yk (h i (k-1) G (by omega) (by omega)) H
 ·exact h i j G B (by omega)
theorem SegD.ext {k:Nat}(h:SegD key xs lo k)(M:lo+1<=k)(H:Kx key xs k<=Kx key xs (k-1)):SegD key xs lo (k+1):=fun i j G B J=>by
 by_cases z:j=k
 ·by_cases y:i=j
  ·rw[y];exact yt _
  ·rw[z];exact yk H (h i (k-1) G (by omega) (by omega))
 ·exact h i j G B (by omega)
structure SX (κ:SortKind) (a0:Array Keyed) (pd:Array (Nat×Nat×Nat)) (lo:Nat) (st:SortSt):Prop where
 kind:kindOf st=κ
 fail:failedOf st=none
 pend:pendingOf st=pd
 perm:(arrOf st).Perm a0
 pre:∀i,i<lo->(arrOf st)[i]? = a0[i]?
theorem SX.size (h:SX κ a0 pd lo st):(arrOf st).size=a0.size:=h.perm.size_eq
theorem SX.setA (h:SX κ a0 pd lo st)(G:xs.Perm (arrOf st))(B:∀i,i<lo->xs[i]? = (arrOf st)[i]?):SX κ a0 pd lo (setArr st xs) :=
 ⟨h.kind,h.fail,h.pend,G.trans h.perm,fun i z=>(B i z).trans (h.pre i z)⟩
theorem SX.mir (h:SX κ a0 pd lo st){i j:Nat}(B:lo<=i)(z:j<=a0.size):SX κ a0 pd lo (setArr st (mirror (arrOf st) i j ((j-i)/2))) :=
 h.setA (mirror_perm _ _ _ _) fun k G=>by rw[getElem?_mirror_all (by rw[h.size];exact z),if_neg (by omega)]
theorem SX.bub (h:SX κ a0 pd lo st){src d:Nat}(z:src<a0.size)(B:lo+d<=src):SX κ a0 pd lo (setArr st (bubble (arrOf st) src d)) :=
 h.setA (bubble_perm _ _ _) fun k G=>by rw[getElem?_bubble (by rw[h.size];exact z) d (by omega),if_neg (by omega),if_neg (by omega)]
theorem SX.get (h:SX κ a0 pd lo st)(G:∀x∈a0.toList,mem x){i:Nat}(H:i<a0.size):∃x,(arrOf st)[i]? = some x/\mem x/\Kx key (arrOf st) i=key x:=by
 obtain⟨x,z,B⟩:=s_at (a:=arrOf st) (i:=i) (by rw[h.size];exact H);refine⟨x,z,G x ((x8.mp h.perm).mem_iff.mp (qE B)),?_⟩;unfold Kx;rw[z]
theorem s_ltK {i j:Nat}{Q:Option Bool->SortSt->Prop}(J:SCmp prog w A s κ mem key)(B:∀x∈a0.toList,mem x)(z:SX κ a0 pd lo st)(hi:i<a0.size)(O:j<a0.size)(h:Q (some (decide (Kx key (arrOf st) i<Kx key (arrOf st) j))) st):wpS (model prog w) A E s (ltAt' i j) Q st:=by
 obtain⟨x,U,e2,M⟩:=z.get (key:=key) B hi;obtain⟨y,Y,G,H⟩:=z.get (key:=key) B O;rw[M,H]at h;rw[ltAt'_eq];refine wpS_bind (wpS_get ?_);refine wpS_bind (yY U (wpS_bind (yY Y ?_)));exact s_lt J z.kind e2 G h
theorem asc_gen {a:Nat}{F:Nat->AscSt->StateT SortSt Sem (ForInStep AscSt)}{Q:AscSt->SortSt->Prop}(ha:1<=a)(H:a<=nrem)(Y:SegS key (arrOf st) lo (lo+a))
  (U:∀i n (J:ForInStep AscSt->SortSt->Prop),1<=n->n<nrem->(if Kx key (arrOf st) (lo+n)<Kx key (arrOf st) (lo+n-1) then J (.done (none,n)) st else J (.yield (none,n+1)) st)->wpS (model prog w) A E s (F i (none,n)) J st)
  (h:∀n,a<=n->n<=nrem->SegS key (arrOf st) lo (lo+n)->(n=nrem\/Kx key (arrOf st) (lo+n)<Kx key (arrOf st) (lo+n-1))->Q (none,n) st):wpS (model prog w) A E s (forIn [a:nrem] (none,a) F) Q st:=by
 refine wpS_forRange (I:=fun x c G=>G=st/\c=(none,x)/\SegS key (arrOf st) lo (lo+x)) ?_ ?_ ⟨rfl,rfl,Y⟩
 ·rintro x c G M O ⟨rfl,rfl,B⟩;refine U x x _ (by omega) O ?_;by_cases z:Kx key (arrOf G) (lo+x)<Kx key (arrOf G) (lo+x-1)
  ·rw[if_pos z];exact h x M (by omega) B (.inr z)
  ·rw[if_neg z];exact⟨rfl,rfl,B.ext (by omega) (by omega)⟩
 ·rintro c G ⟨rfl,rfl,B⟩;rw[show max a nrem=nrem by omega]at B ⊢;exact h nrem H (zC _) B (.inl rfl)
theorem desc_gen {a:Nat}{F:Nat->DescSt->StateT SortSt Sem (ForInStep DescSt)}{Q:DescSt->SortSt->Prop}(hB:SX κ a0 pd lo st)(hn:lo+nrem<=a0.size)(ha:1<=a)(han:a<=nrem)(hs:SegD key (arrOf st) lo (lo+a))
  (hF:∀i n q B (O:ForInStep DescSt->SortSt->Prop),SX κ a0 pd lo B->1<=n->n<nrem->(if Kx key (arrOf B) (lo+n)<Kx key (arrOf B) (lo+n-1) then (if q>0 then O (.yield (none,n+1,0)) (setArr B (mirror (arrOf B) (lo+n-(q+1)) (lo+n) ((lo+n-(lo+n-(q+1)))/2))) else O (.yield (none,n+1,0)) B) else if Kx key (arrOf B) (lo+n-1)<Kx key (arrOf B) (lo+n) then O (.done (none,n,q)) B else O (.yield (none,n+1,q+1)) B)->wpS (model prog w) A E s (F i (none,n,q)) O B)
  (h:∀m q B,SX κ a0 pd lo B->a<=m->m<=nrem->SegD key (arrOf B) lo (lo+m)->q+1<=m->(∀i,lo+m-(q+1)<=i->i<lo+m->Kx key (arrOf B) i=Kx key (arrOf B) (lo+m-1))->Q (none,m,q) B):wpS (model prog w) A E s (forIn [a:nrem] (none,a,0) F) Q st:=by
 refine wpS_forRange (I:=fun x c B=>∃q,c=(none,x,q)/\SX κ a0 pd lo B/\SegD key (arrOf B) lo (lo+x)/\q+1<=x/\(∀i,lo+x-(q+1)<=i->i<lo+x->Kx key (arrOf B) i=Kx key (arrOf B) (lo+x-1))) ?_ ?_ ⟨0,rfl,hB,hs,by omega,fun i Y M=>by congr 1;omega⟩
 ·rintro x c B hax hxn ⟨q,rfl,G,H,hq,J⟩;refine hF x x q B _ G (by omega) hxn ?_;have U:lo+x<=(arrOf B).size:=by rw[G.size];omega
  by_cases z:Kx key (arrOf B) (lo+x)<Kx key (arrOf B) (lo+x-1)
  ·rw[if_pos z];have s1:SegD key (arrOf B) lo (lo+x+1):=H.ext (by omega) (by omega);by_cases y:q>0
   ·rw[if_pos y];refine⟨0,rfl,G.mir (by omega) (by omega),fun i j Y M h3=>?_,by omega,fun i Y M=>by congr 1;omega⟩;show Kx key (mirror (arrOf B) _ _ _) j<=Kx key (mirror (arrOf B) _ _ _) i
    rw[ym U J,ym U J];exact s1 i j Y M (by omega)
   ·rw[if_neg y];exact⟨0,rfl,G,s1,by omega,fun i Y M=>by congr 1;omega⟩
  ·rw[if_neg z];by_cases y:Kx key (arrOf B) (lo+x-1)<Kx key (arrOf B) (lo+x)
   ·rw[if_pos y];exact h x q B G hax (by omega) H hq J
   ·rw[if_neg y];have heq:Kx key (arrOf B) (lo+x)=Kx key (arrOf B) (lo+x-1):=by omega
    refine⟨q+1,rfl,G,H.ext (by omega) (by omega),by omega,fun i Y M=>?_⟩;rw[show lo+(x+1)-1=lo+x by omega];by_cases hix:i=lo+x
    ·rw[hix]
    ·rw[heq];exact J i (by omega) (by omega)
 ·rintro c B ⟨q,rfl,G,H,hq,J⟩;rw[show max a nrem=nrem by omega]at H hq J ⊢;exact h nrem q B G han (zC _) H hq J
set_option hygiene false in
local macro_rules | `(tactic| walk_at "ASC_STEP")=>`(tactic| (
 intro i n Q' n1 n2 hQ
 (try dsimp only)
 refine wpS_bind (s_ltK hc hm hB' (by omega) (by omega) ?_)
 (try dsimp only)
 split at hQ
 ·rename_i z
  rw[decide_eq_true z,if_pos rfl]
  exact wpS_pure hQ
 ·rename_i z
  rw[decide_eq_false z,if_neg (by decide)]
  exact wpS_pure hQ))
set_option hygiene false in
local macro_rules | `(tactic| walk_at "TAIL_3")=>`(tactic| (
 refine wpS_bind (wpS_reverse ?_)
 have hB':=hB3.mir (i:=lo) (j:=lo+m) (zC _) (by omega)
 have hsz:lo+m<=(arrOf st3).size:=by rw[hB3.size];omega
 refine wpS_bind (asc_gen (key:=key) (lo:=lo) (nrem:=nrem) (by omega) hm2 ?_ ?_ fun k k1 k2 k3 k4=>?_)
 ·intro i j h1 h2 h3
  show Kx key (mirror (arrOf st3) _ _ _) i<=Kx key (mirror (arrOf st3) _ _ _) j
  rw[Jy hsz,Jy hsz,if_pos (by omega),if_pos (by omega)]
  exact hs3 _ _ (by omega) (by omega) (by omega)
 ·walk_at "ASC_STEP"
 ·exact wpS_pure (h k _ hB' (by omega) k2 k3)))
set_option hygiene false in
local macro_rules | `(tactic| walk_at "DESC_PART")=>`(tactic| (
 refine wpS_bind (wpS_lift (wpAny_rule ⟨rfl,?_⟩))
 refine wpS_bind (desc_gen (key:=key) hB2 hn (by omega) (by omega) hs2 ?_ fun m q st3 hB3 hm1 hm2 hs3 hq he=>?_)
 ·intro i n q st' Q' hB' n1 n2 hQ
  (try dsimp only)
  refine wpS_bind (s_ltK hc hm hB' (by omega) (by omega) ?_)
  (try dsimp only)
  by_cases z:Kx key (arrOf st') (lo+n)<Kx key (arrOf st') (lo+n-1)
  ·rw[if_pos z]at hQ
   rw[decide_eq_true z,if_pos rfl]
   by_cases y:q>0
   ·rw[if_pos y]at hQ ⊢
    exact wpS_bind (wpS_reverse (wpS_pure hQ))
   ·rw[if_neg y]at hQ ⊢
    exact wpS_pure hQ
  ·rw[if_neg z]at hQ
   rw[decide_eq_false z,if_neg (by decide)]
   refine wpS_bind (s_ltK hc hm hB' (by omega) (by omega) ?_)
   (try dsimp only)
   by_cases y:Kx key (arrOf st') (lo+n-1)<Kx key (arrOf st') (lo+n)
   ·rw[if_pos y]at hQ
    rw[decide_eq_true y,if_pos rfl]
    exact wpS_pure hQ
   ·rw[if_neg y]at hQ
    rw[decide_eq_false y,if_neg (by decide)]
    exact wpS_pure hQ
 ·(try dsimp only)
  by_cases y:q>0
  ·rw[if_pos y]
   refine wpS_bind (wpS_reverse ?_)
   have hsz0:lo+m<=(arrOf st3).size:=by rw[hB3.size];omega
   have hs3':SegD key (arrOf (setArr st3 (mirror (arrOf st3) (lo+m-(q+1)) (lo+m) ((lo+m-(lo+m-(q+1)))/2)))) lo (lo+m):=fun i j h1 h2 h3=>by
    show Kx key (mirror (arrOf st3) _ _ _) j<=Kx key (mirror (arrOf st3) _ _ _) i
    rw[ym hsz0 he,ym hsz0 he]
    exact hs3 i j h1 h2 h3
   have hB3':=hB3.mir (i:=lo+m-(q+1)) (j:=lo+m) (by omega) (by omega)
   generalize setArr st3 (mirror (arrOf st3) (lo+m-(q+1)) (lo+m) ((lo+m-(lo+m-(q+1)))/2))=st3 at hB3' hs3' ⊢
   have hB3:=hB3'
   have hs3:=hs3'
   walk_at "TAIL_3"
  ·rw[if_neg y]
   walk_at "TAIL_3"))
theorem countRun_ok {Q:Option Nat->SortSt->Prop}(hc:SCmp prog w A s κ mem key)(hm:∀x∈a0.toList,mem x)(hB:SX κ a0 pd lo st)(h1:1<=nrem)(hn:lo+nrem<=a0.size)
  (h:∀m st',SX κ a0 pd lo st'->1<=m->m<=nrem->SegS key (arrOf st') lo (lo+m)->Q (some m) st'):wpS (model prog w) A E s (countRun' lo nrem) Q st:=by
 rw[countRun'_eq];have s1:SegS key (arrOf st) lo (lo+1):=fun i j a b c=>by
  have:i=j:=by omega
  rw[this];exact yt _
 have hB':=hB;refine wpS_bind (asc_gen (key:=key) (lo:=lo) (nrem:=nrem) (zC _) h1 s1 ?_ fun n n1 n2 hs hor=>?_)
 ·walk_at "ASC_STEP"
 (try dsimp only)
 by_cases hnn:(n==nrem)=true
 ·rw[if_pos hnn];exact wpS_pure (h n st hB n1 n2 hs)
 rw[if_neg hnn];have hne:n≠nrem:=fun z=>hnn (beq_iff_eq.mpr z);have hlt:=hor.resolve_left hne;by_cases hgt:n>1
 ·rw[if_pos hgt];refine wpS_bind (s_ltK hc hm hB (by omega) (by omega) ?_);(try dsimp only)
  by_cases hr:Kx key (arrOf st) lo<Kx key (arrOf st) (lo+n-1)
  ·rw[decide_eq_true hr,if_pos rfl];exact wpS_pure (h n st hB n1 n2 hs)
  ·rw[decide_eq_false hr,if_neg (by decide)];have hsz:lo+n<=(arrOf st).size:=by rw[hB.size];omega
   have hall:∀k,lo<=k->k<lo+n->Kx key (arrOf st) k=Kx key (arrOf st) (lo+n-1):=fun k k1 k2=>by
    have a1:=hs lo k (zC _) k1 k2;have a2:=hs k (lo+n-1) k1 (by omega) (by omega);omega
   refine wpS_bind (wpS_reverse ?_);have hB2:=hB.mir (i:=lo) (j:=lo+n) (zC _) (by omega);have hs2:SegD key (arrOf (setArr st (mirror (arrOf st) lo (lo+n) ((lo+n-lo)/2)))) lo (lo+(n+1)):=fun i j h1 h2 h3=>by
    show Kx key (mirror (arrOf st) _ _ _) j<=Kx key (mirror (arrOf st) _ _ _) i
    rw[ym hsz hall,ym hsz hall];by_cases y:i=j
    ·rw[y];exact yt _
    ·rw[hall i h1 (by omega)];by_cases x:j=lo+n
     ·rw[x];omega
     ·rw[hall j (by omega) (by omega)];exact yt _
   walk_at "DESC_PART"
 ·rw[if_neg hgt];have hn1:n=1:=by omega
  subst hn1;have hB2:=hB;have hs2:SegD key (arrOf st) lo (lo+(1+1)):=fun i j h1 h2 h3=>by
   by_cases y:i=j
   ·rw[y];exact yt _
   ·have e1:i=lo+1-1:=by omega
    have e2:j=lo+1:=by omega
    rw[e1,e2];omega
  walk_at "DESC_PART"
theorem binarySort_ok {n ok:Nat}{Q:Bool->SortSt->Prop}(hc:SCmp prog w A s κ mem key)(hm:∀x∈a0.toList,mem x)(hB:SX κ a0 pd lo st)(hn:lo+n<=a0.size)(hok:ok<=n)(hs:SegS key (arrOf st) lo (lo+ok))
  (h:∀B,SX κ a0 pd lo B->SegS key (arrOf B) lo (lo+n)->Q true B):wpS (model prog w) A E s (binarySort' lo n ok) Q st:=by
 rw[binarySort'_eq];refine wpS_bind (wpS_mono (wpS_forRange (I:=fun k c B=>c=(none,())/\SX κ a0 pd lo B/\SegS key (arrOf B) lo (lo+min k n))
  (Q:=fun c B=>c=(none,())/\SX κ a0 pd lo B/\SegS key (arrOf B) lo (lo+n)) ?step ?fin ?init) ?post)
 case post =>
  rintro c B ⟨rfl,J,H⟩;exact wpS_pure (h B J H)
 case init =>
  refine⟨rfl,hB,fun i j hi aa hj=>?_⟩;by_cases h1:ok=0
  ·have:i=j:=by omega
   subst this;exact yt _
  ·exact hs i j hi aa (by omega)
 case fin =>
  rintro c B ⟨hc,J,H⟩;refine⟨hc,J,?_⟩
  rwa [show min (max (max ok 1) n) n=n by omega]at H
 case step =>
  rintro k c B hak hkn ⟨rfl,J,H⟩;rw[show min k n=k by omega]at H;have hk:lo+k<a0.size:=by omega
  refine wpS_bind (wpS_mono (wpS_forRange (I:=fun x c z=>z=B/\∃l r,c=(none,l,r)/\l<=r/\r<=k/\r-l<=k-x /\
    (∀i,i<l->Kx key (arrOf B) (lo+i)<=Kx key (arrOf B) (lo+k))/\(∀i,r<=i->i<k->Kx key (arrOf B) (lo+k)<Kx key (arrOf B) (lo+i)))
   (Q:=fun c z=>z=B/\∃l r,c=(none,l,r)/\l<=k /\
    (∀i,i<l->Kx key (arrOf B) (lo+i)<=Kx key (arrOf B) (lo+k))/\(∀i,l<=i->i<k->Kx key (arrOf B) (lo+k)<Kx key (arrOf B) (lo+i))) ?istep ?ifin ?iinit) ?ipost)
  case iinit=>exact⟨rfl,0,k,rfl,by omega,by omega,by omega,fun i hi=>by omega,fun i h1 h2=>by omega⟩
  case ifin =>
   rintro c z ⟨rfl,l,r,rfl,hlr,U,hm,O,M⟩;have:l=r:=by omega
   subst this;exact⟨rfl,l,l,rfl,U,O,M⟩
  case istep =>
   rintro x c z _ hxk ⟨rfl,l,r,rfl,hlr,U,hm0,O,M⟩;dsimp only;by_cases Y:l>=r
   ·rw[if_pos Y];have:l=r:=by omega
    subst this;exact wpS_pure ⟨rfl,l,l,rfl,U,O,M⟩
   ·rw[if_neg Y];refine wpS_bind (s_ltK hc hm J hk (by omega) ?_);by_cases G:Kx key (arrOf z) (lo+k)<Kx key (arrOf z) (lo+(l+r)/2)
    ·simp only[G,decide_true,if_true];refine wpS_pure ⟨rfl,l,(l+r)/2,rfl,by omega,by omega,by omega,O,fun i h1 h2=>?_⟩;exact Int.lt_of_lt_of_le G (H _ _ (by omega) (by omega) (by omega))
    ·simp only[G,decide_false,zq,if_false];refine wpS_pure ⟨rfl,(l+r)/2+1,r,rfl,by omega,by omega,by omega,fun i h1=>?_,M⟩;exact yk (H (lo+i) (lo+(l+r)/2) (by omega) (by omega) (by omega)) (Int.not_lt.mp G)
  case ipost =>
   rintro c z ⟨rfl,l,r,rfl,hlk,O,M⟩;show wpS _ _ _ _ (do moveDown' (lo+k) (lo+l);pure (ForInStep.yield (none,()))) _ _
   rw[moveDown'_eq];refine wpS_bind (wpS_modify (wpS_pure ⟨rfl,J.bub hk (by omega),?_⟩));rw[show min (k+1) n=k+1 by omega];have ac:lo+k<(arrOf z).size:=by rw[J.size];exact hk
   intro i j hi aa hj;show Kx key (bubble (arrOf z) (lo+k) (lo+k-(lo+l))) i<=Kx key (bubble (arrOf z) (lo+k) (lo+k-(lo+l))) j
   rw[kx_bubble ac (by omega),kx_bubble ac (by omega),show lo+k-(lo+k-(lo+l))=lo+l by omega];have ae:∀i,lo<=i->i<lo+l->Kx key (arrOf z) i<=Kx key (arrOf z) (lo+k):=fun i a b=>by
    have:=O (i-lo) (by omega)
    rwa [show lo+(i-lo)=i by omega]at this
   have ad:∀i,lo+l<=i->i<lo+k->Kx key (arrOf z) (lo+k)<Kx key (arrOf z) i:=fun i a b=>by
    have:=M (i-lo) (by omega) (by omega)
    rwa [show lo+(i-lo)=i by omega]at this
   repeat' split
   all_goals first
    |(exfalso;omega)
    |exact yt _
    |exact ae _ (by omega) (by omega)
    |exact jH (ad _ (by omega) (by omega))
    |exact H _ _ (by omega) (by omega) (by omega)
end
section
variable {key:Keyed->Int}
inductive Rns (key:Keyed->Int):Nat->List Keyed->List (Nat×Nat×Nat)->Prop
 |nil {s:Nat}:Rns key s [] []
 |cons {s p:Nat} {c l:List Keyed} {rs:List (Nat×Nat×Nat)}:c≠[]->Srt key c->Rns key (s+c.length) l rs->Rns key s (c++l) ((s,c.length,p)::rs)
theorem Rns.len {s:Nat}{l:List Keyed}{z:List (Nat×Nat×Nat)}(h:Rns key s l z):z.length<=l.length:=by
 induction h with
 |nil=>exact zC _
 |@cons s p c l z B G H ih =>
  have:=yH.mpr B;rw[qF,zH];omega
theorem Rns.app {B:List Keyed}{r2:List (Nat×Nat×Nat)}:∀{r1:List (Nat×Nat×Nat)} {s:Nat} {l1:List Keyed},Rns key s l1 r1->Rns key (s+l1.length) B r2->Rns key s (l1++B) (r1++r2)
 |_,_,_,.nil,z=>z
 |_,s,_,.cons (c:=c) (l:=l) g1 g2 g3,z=>by
  rw[zN,List.cons_append]
  refine .cons g1 g2 (Rns.app g3 ?_)
  rw[qF]at z
  rw[Nat.add_assoc]
  exact z
theorem Rns.split:∀{r1:List (Nat×Nat×Nat)} {r2:List (Nat×Nat×Nat)} {s:Nat} {l:List Keyed},Rns key s l (r1++r2)->∃z B,l=z++B/\Rns key s z r1/\Rns key (s+z.length) B r2
 |[],r2,s,l,h=>⟨[],l,rfl,.nil,h⟩
 |r::r1,r2,s,l,h=>by
  rw[List.cons_append]at h
  cases h with
  |@cons _ p c l U O G M =>
   obtain⟨z,B,rfl,J,H⟩:=Rns.split M
   refine⟨c++z,B,by rw[zN],.cons O G J,?_⟩
   rw[qF,<-Nat.add_assoc]
   exact H
theorem Rns.pw {pw:Nat}{f:Nat×Nat×Nat->Nat×Nat×Nat}(J:∀a b c,f (a,b,c)=(a,b,pw)):∀{z:List (Nat×Nat×Nat)} {s:Nat} {l:List Keyed} (k:Nat),Rns key s l z->Rns key s l (z.modify k f)
 |[],s,l,k,h=>by rw[List.modify_nil];exact h
 |r::z,s,l,0,h=>by
  rw[List.modify_zero_cons]
  cases h with
  |@cons _ p c l z H B G=>rw[J];exact .cons H B G
 |r::z,s,l,k+1,h=>by
  rw[List.modify_succ_cons]
  cases h with
  |@cons _ p c l z H B G=>exact .cons H B (Rns.pw J k G)
theorem Rns.one {s:Nat}{l:List Keyed}{z:List (Nat×Nat×Nat)}(h:Rns key s l z)(G:z.length<=1):Srt key l:=by
 cases h with
 |nil=>exact .nil
 |@cons _ p c l z J B H =>
  cases H with
  |nil=>rw[zv];exact B
  |cons _ _ _=>simp at G
theorem srt_app {a b:List Keyed}(G:Srt key a)(B:Srt key b)(z:Ble key a b):Srt key (a++b):=yR.mpr ⟨G,B,z⟩
theorem get_mid {l1 a t:List Keyed}{j:Nat}(h:j<a.length):(l1++(a++t))[l1.length+j]? = a[j]?:=by
 rw[qG (Nat.le_add_right _ _),Nat.add_sub_cancel_left,qH h]
theorem wr_list:∀(m:List Keyed) (arr:Array Keyed) (k j:Nat),k+j+m.length<=arr.size->((m.zipIdx j).foldl (fun(a:Array Keyed) (x:Keyed×Nat)=>match x with|(p,j)=>a.setIfInBounds (k+j) p) arr).toList=arr.toList.take (k+j)++m++arr.toList.drop (k+j+m.length)
 |[],arr,k,j,h=>by
  show arr.toList=_
  rw[zv]
  exact(zj _ _).symm
 |p::m,arr,k,j,h=>by
  rw[zH]at h
  show((m.zipIdx (j+1)).foldl _ (arr.setIfInBounds (k+j) p)).toList=_
  rw[wr_list m (arr.setIfInBounds (k+j) p) k (j+1) (by rw[Array.size_setIfInBounds];omega),Array.toList_setIfInBounds]
  have B:k+j<arr.toList.length:=by rw[zD];omega
  have z:(arr.toList.set (k+j) p).take (k+(j+1))=arr.toList.take (k+j)++[p]:=by
   rw[show k+(j+1)=k+j+1 by omega,yI,List.getElem?_set_self B,List.take_set_of_le (zC _)];rfl
  have G:(arr.toList.set (k+j) p).drop (k+(j+1)+m.length)=arr.toList.drop (k+j+(p::m).length):=by
   rw[List.drop_set_of_lt (by omega),zH]
   congr 1
   omega
  rw[z,G];simp
end
section
variable {prog:Program}{w:World}{A:Around}{E:Value->Shared->Prop}{s:Shared}{κ:SortKind}{mem:Keyed->Prop}{key:Keyed->Int}{st:SortSt}
theorem wpS_set {M:Model}{B:Type}{st z:B}{Q:PUnit->B->Prop}(h:Q ⟨⟩ z):wpS M A E s (set z:StateT B Sem PUnit) Q st:=by
 unfold wpS;rw[StateT.run_set];exact wpAny_pure ⟨rfl,h⟩
theorem mergeAt_ok {i p1 p2:Nat}{l1 C D T:List Keyed}{r1 r2:List (Nat×Nat×Nat)}{Q:Bool->SortSt->Prop}(hc:SCmp prog w A s κ mem key)(hk:kindOf st=κ)(hf:failedOf st=none)(hm:∀x∈(arrOf st).toList,mem x)(ea:(arrOf st).toList=l1++(C++(D++T)))
  (ep:(pendingOf st).toList=r1++(l1.length,C.length,p1)::(l1.length+C.length,D.length,p2)::r2) (hi:r1.length=i) (sC:Srt key C) (sD:Srt key D) (nC:C≠[]) (nD:D≠[])
  (h:∀(M:List Keyed) (B:SortSt),M.Perm (C++D)->Srt key M->kindOf B=κ->failedOf B=none->(arrOf B).toList=l1++(M++T)->(pendingOf B).toList=r1++(l1.length,C.length+D.length,p1)::r2->Q true B):wpS (model prog w) A E s (mergeAt' i) Q st:=by
 have lC:=yH.mpr nC;have lD:=yH.mpr nD;have hsz:(arrOf st).size=l1.length+(C.length+(D.length+T.length)):=by
  rw[<-zD,ea];simp only[qF]
 have g1:(pendingOf st)[i]? = some (l1.length,C.length,p1):=by
  rw[<-zQ,ep,qG (by omega),hi,xU];rfl
 have g2:(pendingOf st)[i+1]? = some (l1.length+C.length,D.length,p2):=by
  rw[<-zQ,ep,qG (by omega),show i+1-r1.length=1 by omega];rfl
 have atC:∀j,j<C.length->(arrOf st).toList[l1.length+j]? = C[j]?:=fun j hj=>by rw[ea];exact get_mid hj
 have ea2:(arrOf st).toList=(l1++C)++(D++T):=by rw[ea,zN]
 have J:∀j,j<D.length->(arrOf st).toList[l1.length+C.length+j]? = D[j]?:=fun j hj=>by
  rw[ea2,<-qF];exact get_mid hj
 have oC:∀p q x y,l1.length<=p->p<=q->q<l1.length+C.length->(arrOf st).toList[p]? = some x->(arrOf st).toList[q]? = some y->key x<=key y:=fun p q x y h1 h2 h3 h4 h5=>by
  have e1:=atC (p-l1.length) (by omega);have e2:=atC (q-l1.length) (by omega);rw[show l1.length+(p-l1.length)=p by omega,h4]at e1;rw[show l1.length+(q-l1.length)=q by omega,h5]at e2;exact JW sC (by omega) e1.symm e2.symm
 have oD:∀p q x y,l1.length+C.length<=p->p<=q->q<l1.length+C.length+D.length->(arrOf st).toList[p]? = some x->(arrOf st).toList[q]? = some y->key x<=key y:=fun p q x y h1 h2 h3 h4 h5=>by
  have e1:=J (p-(l1.length+C.length)) (by omega);have e2:=J (q-(l1.length+C.length)) (by omega);rw[show l1.length+C.length+(p-(l1.length+C.length))=p by omega,h4]at e1;rw[show l1.length+C.length+(q-(l1.length+C.length))=q by omega,h5]at e2;exact JW sD (by omega) e1.symm e2.symm
 have Y:(((pendingOf st).setIfInBounds i (l1.length,C.length+D.length,p1)).eraseIdxIfInBounds (i+1)).toList=r1++(l1.length,C.length+D.length,p1)::r2:=by
  rw[Array.toList_eraseIdxIfInBounds,Array.toList_setIfInBounds,ep,<-hi,List.set_append_right _ _ (zC _),xU,List.set_cons_zero,List.eraseIdx_append_of_length_le (by omega),show r1.length+1-r1.length=1 by omega];rfl
 obtain⟨b0,eb0,eb0'⟩:=s_at (a:=arrOf st) (i:=l1.length+C.length) (by omega);have hb0:D[0]? = some b0:=by
  have:=J 0 lD;rw[Nat.add_zero,eb0']at this;exact this.symm
 unfold mergeAt';refine wpS_bind (wpS_get ?_);rw[g1,g2];refine wpS_bind (wpS_set ?_);refine wpS_bind (yY eb0 ?_);refine wpS_bind (gallopR (a:=arrOf st) hc hk (hm b0 (qE eb0')) hm (by omega) oC lC fun k hk1 hk2 hk3=>?_);(try dsimp only)
 have c1:∀x∈C.take k,key x<=key b0:=fun x G=>by
  obtain⟨j,U,j2⟩:=ja G;exact hk2 j x U (by rw[atC j (by omega)];exact j2)
 have c2:∀x∈C.drop k,key b0<key x:=fun x G=>by
  obtain⟨j,U,j2⟩:=jK G;exact hk3 (k+j) x (by omega) U (by rw[atC _ U];exact j2)
 have d0:∀y∈D,key b0<=key y:=fun y H=>jZ sD hb0 (by rw[List.drop_zero];exact H);by_cases z1:(C.length-k==0)=true
 ·rw[if_pos z1];have ek:C.take k=C:=yE (by have:=beq_iff_eq.mp z1;omega);rw[ek]at c1;exact wpS_pure (h (C++D) _ (yu.refl _) (srt_app sC sD fun x G y H=>yk (c1 x G) (d0 y H)) hk hf (by rw[zN];exact ea) Y)
 rw[if_neg z1];have z1':k<C.length:=by
  have:¬ C.length-k=0:=fun z=>z1 (beq_iff_eq.mpr z);omega
 obtain⟨al,eal,eal'⟩:=s_at (a:=arrOf st) (i:=l1.length+k+(C.length-k)-1) (by omega);have hal:C[C.length-1]? = some al:=by
  rw[<-atC (C.length-1) (by omega),show l1.length+(C.length-1)=l1.length+k+(C.length-k)-1 by omega];exact eal'
 refine wpS_bind (yY eal ?_);refine wpS_bind (gallopL (a:=arrOf st) hc hk (hm al (qE eal')) hm (by omega) oD (by omega) fun n hn1 hn2 hn3=>?_);(try dsimp only)
 have cl:∀x∈C,key x<=key al:=fun x G=>JC sC hal (by rw[show C.length-1+1=C.length by omega,zf];exact G);have d1:∀y∈D.take n,key y<=key al:=fun y H=>by
  obtain⟨j,U,j2⟩:=ja H;exact jH (hn2 j y U (by rw[J j (by omega)];exact j2))
 have d2:∀y∈D.drop n,key al<=key y:=fun y H=>by
  obtain⟨j,U,j2⟩:=jK H;exact hn3 (n+j) y (by omega) U (by rw[J _ U];exact j2)
 by_cases z2:(n==0)=true
 ·rw[if_pos z2];rw[beq_iff_eq.mp z2,List.drop_zero]at d2;exact wpS_pure (h (C++D) _ (yu.refl _) (srt_app sC sD fun x G y H=>yk (cl x G) (d2 y H)) hk hf (by rw[zN];exact ea) Y)
 rw[if_neg z2];have z2':0<n:=by
  have:¬ n=0:=fun z=>z2 (beq_iff_eq.mpr z);omega
 have ex:((arrOf st).extract (l1.length+k) (l1.length+C.length)).toList=C.drop k:=by
  rw[x6,yx,ea,List.drop_append,List.drop_eq_nil_of_le (by omega),List.nil_append,show l1.length+k-l1.length=k by omega,List.drop_append,show k-C.length=0 by omega,List.drop_zero];rw[show l1.length+C.length-(l1.length+k)=(C.drop k).length by rw[zu];omega,List.take_left]
 have ey:((arrOf st).extract (l1.length+C.length) (l1.length+C.length+n)).toList=D.take n:=by
  rw[ext_k,ea2,<-qF,List.drop_left,List.take_append_of_le_length hn1]
 have mx:∀x∈((arrOf st).extract (l1.length+k) (l1.length+C.length)).toList,mem x:=fun x G=>by
  rw[ex]at G;exact hm x (by rw[ea];exact qK _ (zV _ (x5 G)))
 have my:∀x∈((arrOf st).extract (l1.length+C.length) (l1.length+C.length+n)).toList,mem x:=fun x G=>by
  rw[ey]at G;exact hm x (by rw[ea2];exact qK _ (zV _ (yS G)))
 have sx:Srt key ((arrOf st).extract (l1.length+k) (l1.length+C.length)).toList:=by
  rw[ex];exact xE.sublist (List.drop_sublist _ _) sC
 have sy:Srt key ((arrOf st).extract (l1.length+C.length) (l1.length+C.length+n)).toList:=by
  rw[ey];exact xE.sublist (List.take_sublist _ _) sD
 have nx:((arrOf st).extract (l1.length+k) (l1.length+C.length)).size=C.length-k:=by
  rw[<-zD,ex,zu]
 have ny:((arrOf st).extract (l1.length+C.length) (l1.length+C.length+n)).size=n:=by
  rw[<-zD,ey,qO];omega
 have hlo:∀x,((arrOf st).extract (l1.length+C.length) (l1.length+C.length+n)).toList[0]? = some x->∀y∈((arrOf st).extract (l1.length+k) (l1.length+C.length)).toList,key x<=key y:=fun x G y H=>by
  rw[ey,yM z2',hb0]at G;cases G
  rw[ex]at H;exact jH (c2 y H)
 have hhi:∀x∈((arrOf st).extract (l1.length+C.length) (l1.length+C.length+n)).toList,∀y,((arrOf st).extract (l1.length+k) (l1.length+C.length)).toList[((arrOf st).extract (l1.length+k) (l1.length+C.length)).size-1]? = some y->key x<=key y:=fun x G y H=>by
  rw[nx,ex,yQ,show k+(C.length-k-1)=C.length-1 by omega,hal]at H;cases H
  rw[ey]at G;exact d1 x G
 have fin:∀(r:Array Keyed) (B:SortSt),kindOf B=kindOf st->arrOf B=arrOf st->(pendingOf B).toList=r1++(l1.length,C.length+D.length,p1)::r2->failedOf B=failedOf st->Mgd key (C.drop k) (D.take n) r.toList ->
   Q (failedOf B).isNone (SortSt.mk' (kindOf B) (List.foldl (fun(a:Array Keyed) (x:Keyed×Nat)=>match x with|(p,j)=>a.setIfInBounds (l1.length+k+j) p) (arrOf B) r.toList.zipIdx) (pendingOf B) (gallopOf B) (failedOf B)):=fun r B e1 e2 e3 e4 O=>by
  rw[e4,hf];have lr:r.toList.length=C.length-k+n:=by
   rw[O.1.length_eq,qF,zu,qO];omega
  refine h (C.take k++(r.toList++D.drop n)) _ ?_ ?_ (e1.trans hk) rfl ?_ e3
  ·have e5:C++D=C.take k++((C.drop k++D.take n)++D.drop n):=by
    rw[zN (C.drop k),zj,<-zN,zj]
   rw[e5];exact yu.append_left _ (O.1.append_right _)
  ·have sp:Srt key (C.take k++C.drop k):=by rw[zj];exact sC
   have sq:Srt key (D.take n++D.drop n):=by rw[zj];exact sD
   have sp2:=yR.mp sp;have sq2:=yR.mp sq;refine srt_app sp2.1 (srt_app O.2 sq2.2.1 fun x G y H=>?_) fun x G y H=>?_
   ·rcases zE.mp (O.1.mem_iff.mp G) with z|z
    ·exact yk (cl x (x5 z)) (d2 y H)
    ·exact sq2.2.2 x z y H
   ·rcases zE.mp H with z|z
    ·rcases zE.mp (O.1.mem_iff.mp z) with v|v
     ·exact sp2.2.2 x G y v
     ·exact yk (c1 x G) (d0 y (yS v))
    ·exact yk (c1 x G) (d0 y (x5 z))
  ·show(List.foldl _ (arrOf B) (r.toList.zipIdx 0)).toList=_
   rw[wr_list r.toList (arrOf B) (l1.length+k) 0 (by rw[e2,lr,hsz];omega),e2,lr,Nat.add_zero];have t1:(arrOf st).toList.take (l1.length+k)=l1++C.take k:=by
    rw[ea,List.take_append,yE (by omega),show l1.length+k-l1.length=k by omega,List.take_append_of_le_length (by omega)]
   have t2:(arrOf st).toList.drop (l1.length+k+(C.length-k+n))=D.drop n++T:=by
    rw[ea2,List.drop_append,List.drop_eq_nil_of_le (by rw[qF];omega),List.nil_append,qF,show l1.length+k+(C.length-k+n)-(l1.length+C.length)=n by omega,List.drop_append_of_le_length hn1]
   rw[t1,t2];simp only[zN]
 by_cases z3:C.length-k<=n
 ·rw[if_pos z3];refine wpS_bind (mergeLo_ok hc hk mx my sx sy (by rw[nx];omega) (by rw[ny];omega) hlo hhi fun r B hs O=>?_);rw[ex,ey]at O;refine wpS_bind (wpS_modify (wpS_bind (wpS_get (wpS_pure ?_))));exact fin r B hs.kind hs.arr (by rw[hs.pend];exact Y) hs.fail O
 ·rw[if_neg z3];refine wpS_bind (mergeHi_ok hc hk mx my sx sy (by rw[nx];omega) (by rw[ny];omega) hlo hhi fun r B hs O=>?_);rw[ex,ey]at O;refine wpS_bind (wpS_modify (wpS_bind (wpS_get (wpS_pure ?_))));exact fin r B hs.kind hs.arr (by rw[hs.pend];exact Y) hs.fail O
end
section
variable {prog:Program}{w:World}{A:Around}{E:Value->Shared->Prop}{s:Shared}{κ:SortKind}{mem:Keyed->Prop}{key:Keyed->Int}{st:SortSt}{it:Array Keyed}{D T:List Keyed}
structure SR (key:Keyed->Int) (κ:SortKind) (it:Array Keyed) (D T:List Keyed) (st:SortSt):Prop where
 kind:PyProof.Rows.kindOf st=κ
 fail:failedOf st=none
 perm:(arrOf st).Perm it
 ea:(arrOf st).toList=D++T
 rn:Rns key 0 D (pendingOf st).toList
theorem SR.mm (h:SR key κ it D T st)(z:∀x∈it.toList,mem x):∀x∈(arrOf st).toList,mem x:=fun x B=>z x ((x8.mp h.perm).mem_iff.mp B)
theorem cut_two {G:Type}{l:List G}{i:Nat}(h:i+1<l.length):∃z x y B,l=z++x::y::B/\z.length=i:=by
 refine⟨l.take i,l[i],l[i+1],l.drop (i+2),?_,by rw[qO];omega⟩;rw[<-yZ,<-yZ,zj]
theorem zAJ {i:Nat}{Q:Bool->SortSt->Prop}(hc:SCmp prog w A s κ mem key)(hm:∀x∈it.toList,mem x)(G:SR key κ it D T st)(hi:i+1<(pendingOf st).size)
  (h:∀D' B,SR key κ it D' T B->D'.length=D.length->(pendingOf B).size+1=(pendingOf st).size->Q true B):wpS (model prog w) A E s (mergeAt' i) Q st:=by
 obtain⟨r1,x,y,r2,J,Y⟩:=cut_two (l:=(pendingOf st).toList) (i:=i) (by rw[zD];exact hi);have H:=G.rn;rw[J]at H;obtain⟨l1,l2,O,n1,n2⟩:=H.split
 rw[jE]at n2;cases n2 with
 |@cons _ p1 c l rs c1 c2 c3 =>
  cases c3 with
  |@cons _ p2 d l' rs' d1 d2 d3 =>
   refine mergeAt_ok (l1:=l1) (C:=c) (D:=d) (T:=l'++T) (r1:=r1) (r2:=r2) (p1:=p1) (p2:=p2) hc G.kind G.fail (G.mm hm) ?_ J Y c2 d2 c1 d1 fun M B m1 m2 m3 m4 m5 m6=>?_
   ·rw[G.ea,O];simp only[zN]
   ·have U:M.length=c.length+d.length:=by rw[m1.length_eq,qF]
    have nM:M≠[]:=fun z=>by
     have:=yH.mpr c1;rw[z,y6]at U;omega
    refine h (l1++(M++l')) B ⟨m3,m4,?_,?_,?_⟩ ?_ ?_
    ·refine Array.Perm.trans ?_ G.perm;rw[x8,m5,G.ea,O];simp only[zN];refine yu.append_left _ ?_;rw[<-zN c d];exact m1.append_right _
    ·rw[m5];simp only[zN]
    ·rw[m6,<-U];refine n1.app ?_;rw[jE];refine .cons nM m2 ?_;rw[U,<-Nat.add_assoc];exact d3
    ·rw[O];simp only[qF];omega
    ·rw[<-zD,m6,<-zD,J];simp only[qF,zH];omega
theorem zAK {B:Type}(xs:Array B)(i:Nat)(f:B->B):(xs.modify i f).toList=xs.toList.modify i f:=by
 apply yn;intro j;rw[zQ,Array.getElem?_modify,List.getElem?_modify,zQ];by_cases z:i=j
 ·rw[if_pos z];simp[z]
 ·rw[if_neg z];simp[z]
set_option hygiene false in
local macro_rules | `(tactic| walk_at "RUN_REST")=>`(tactic| (
 obtain⟨c,T',g1,g2,g3,g4⟩:=cont n st3 hX3 n1 n2 n3
 refine wpS_bind (wpS_get ?_)
 cases hb:(pendingOf st3).back? with
 |none =>
  (try dsimp only)
  refine wpS_bind (wpS_modify (wpS_pure ⟨lo+n,D++c,T',rfl,by omega,push n st3 D c T' g1 h3 g2 g3 g4,by rw[qF];omega⟩))
 |some r =>
  obtain⟨s1,n1',p1⟩:=r
  (try dsimp only)
  refine wpS_bind (wpS_mono (wpS_forRange (I:=fun x c' st''=>c'=(none,())/\∃D',SR key κ it D' (c++T') st''/\D'.length=lo) (Q:=fun c' st''=>c'=(none,())/\∃D',SR key κ it D' (c++T') st''/\D'.length=lo) ?_ (fun _ _ hh=>hh) ⟨rfl,D,g1,h3⟩) ?_)
  ·rintro x' c' st4 _ _ ⟨rfl,D',hS',hl'⟩
   refine wpS_bind (wpS_get ?_)
   (try dsimp only)
   by_cases y:(pendingOf st4).size>1
   ·rw[if_pos y]
    obtain⟨r,er,_⟩:∃r,(pendingOf st4)[(pendingOf st4).size-2]? = some r/\True:=⟨(pendingOf st4)[(pendingOf st4).size-2]'(by omega),by simp<;>omega,trivial⟩
    obtain⟨r1,r2,r3⟩:=r
    rw[er]
    (try dsimp only)
    refine wpS_ite (fun _=>wpS_pure ⟨rfl,D',hS',hl'⟩) fun _=>?_
    refine wpS_bind (zAJ hc hm hS' (by omega) fun D2 st5 hS5 hl5 _=>?_)
    simp only[Bool.not_true,zq,if_false]
    exact wpS_pure ⟨rfl,D2,hS5,hl5.trans hl'⟩
   ·rw[if_neg y]
    exact wpS_pure ⟨rfl,D',hS',hl'⟩
  ·rintro c' st4 ⟨rfl,D',hS',hl'⟩
   (try dsimp only)
   refine wpS_bind (wpS_modify (wpS_bind (wpS_modify (wpS_pure ⟨lo+n,D'++c,T',rfl,by omega,push n _ D' c T' ⟨hS'.kind,hS'.fail,hS'.perm,hS'.ea,?_⟩ hl' g2 g3 g4,by rw[qF];omega⟩))))
   show Rns key 0 D' ((pendingOf st4).modify _ _).toList
   rw[zAK]
   exact hS'.rn.pw (fun _ _ _=>rfl) _))
theorem sortRuns_ok {Q:Unit->SortSt->Prop}(hc:SCmp prog w A s κ mem key)(hm:∀x∈it.toList,mem x)(hk:PyProof.Rows.kindOf st=κ)(hf:failedOf st=none)(hp:pendingOf st = #[])(ha:arrOf st=it)
  (h:∀st',failedOf st'=none->(arrOf st').Perm it->Srt key (arrOf st').toList->Q () st'):wpS (model prog w) A E s sortRuns' Q st:=by
 rw[sortRuns'_eq];refine wpS_bind (wpS_get ?_);dsimp only;have hsz:(arrOf st).size=it.size:=by rw[ha]
 simp only[hsz];generalize minRun' it.size it.size 0=mr;refine wpS_bind (wpS_mono (wpS_forRange (I:=fun x c st'=>∃lo D T,c=(none,lo)/\x<=lo/\SR key κ it D T st'/\D.length=lo)
  (Q:=fun c st'=>∃lo D,c=(none,lo)/\SR key κ it D [] st') ?step ?fin ⟨0,[],it.toList,rfl,zC _,⟨hk,hf,by rw[ha],by rw[ha];rfl,by rw[hp];exact .nil⟩,rfl⟩) ?post)
 case fin =>
  rintro c st' ⟨lo,D,T,rfl,h1,h2,h3⟩;have e:=h2.perm.size_eq;rw[<-zD,h2.ea,qF]at e;have:=yh (zT it.size);have:T=[]:=zU (by omega);subst this;exact⟨lo,D,rfl,h2⟩
 case step =>
  rintro x c st' _ hx ⟨lo,D,T,rfl,h1,h2,h3⟩;have e:=h2.perm.size_eq;have e':=e;rw[<-zD,h2.ea,qF]at e;dsimp only;by_cases z:lo>=it.size
  ·rw[if_pos z];have:T=[]:=zU (by omega);subst this;exact wpS_pure ⟨lo,D,rfl,h2⟩
  rw[if_neg z];have hX:SX κ (arrOf st') (pendingOf st') lo st':=⟨h2.kind,h2.fail,rfl,Array.Perm.refl _,fun _ _=>rfl⟩;refine wpS_bind (countRun_ok hc (h2.mm hm) hX (by omega) (by omega) fun m st2 hX2 m1 m2 m3=>?_);dsimp only;have cont:∀(n:Nat) (st3:SortSt),SX κ (arrOf st') (pendingOf st') lo st3->1<=n->lo+n<=it.size->SegS key (arrOf st3) lo (lo+n)->∃c T',SR key κ it D (c++T') st3/\c.length=n/\Srt key c/\c≠[]:=fun n st3 hX3 n1 n2 n3=>by
   have sz3:(arrOf st3).size=it.size:=hX3.size.trans e';have eD:(arrOf st3).toList.take lo=D:=by
    apply yn;intro j;by_cases y:j<lo
    ·rw[yM y,zQ,hX3.pre j y,<-zQ,h2.ea,qH (by omega)]
    ·rw[zX (by rw[qO];omega),zX (by omega)]
   have lc:(((arrOf st3).toList.drop lo).take n).length=n:=by
    rw[qO,zu,zD];omega
   refine⟨((arrOf st3).toList.drop lo).take n,((arrOf st3).toList.drop lo).drop n,⟨hX3.kind,hX3.fail,hX3.perm.trans h2.perm,?_,by rw[hX3.pend];exact h2.rn⟩,lc,?_,?_⟩
   ·rw[zj,<-eD,zj]
   ·unfold Srt;rw[List.pairwise_iff_getElem];intro i j hi hj hij;have e1:∀i (hi:i<(((arrOf st3).toList.drop lo).take n).length),Kx key (arrOf st3) (lo+i)=key ((((arrOf st3).toList.drop lo).take n)[i]):=fun i hi=>by
     unfold Kx;have:(arrOf st3)[lo+i]? = some ((((arrOf st3).toList.drop lo).take n)[i]):=by
      rw[<-zQ,<-yQ,<-yM (show i<n by omega)];exact qA hi
     rw[this]
    rw[<-e1 i hi,<-e1 j hj];exact n3 _ _ (by omega) (by omega) (by omega)
   ·intro z;rw[z,y6]at lc;omega
  have push:∀(n:Nat) (st3:SortSt) (D3 c T':List Keyed),SR key κ it D3 (c++T') st3->D3.length=lo->c.length=n->Srt key c->c≠[]->SR key κ it (D3++c) T' (setPending st3 ((pendingOf st3).push (lo,n,0))):=fun n st3 D3 c T' g1 g2 g3 g4 g5 =>
   ⟨g1.kind,g1.fail,g1.perm,by rw[zN];exact g1.ea,by
    show Rns key 0 (D3++c) ((pendingOf st3).push (lo,n,0)).toList
    rw[yB,<-g3];refine g1.rn.app ?_;rw[jE,g2];have:=Rns.cons (key:=key) (s:=lo) (p:=0) g5 g4 (Rns.nil (s:=lo+c.length));rw[zv]at this;exact this⟩
  have rest:∀(n:Nat) (st3:SortSt),SX κ (arrOf st') (pendingOf st') lo st3->1<=n->lo+n<=it.size->SegS key (arrOf st3) lo (lo+n)->True:=fun _ _ _ _ _ _=>trivial;by_cases z2:m<mr
  ·rw[if_pos z2];refine wpS_bind (wpS_lift (wpAny_rule ⟨rfl,?_⟩));refine wpS_bind (binarySort_ok hc (h2.mm hm) hX2 (n:=min (it.size-lo) mr) (ok:=m) (by omega) (by omega) m3 fun st3 hX3 n3=>?_);simp only[Bool.not_true,zq,if_false];obtain⟨n,en⟩:∃n,min (it.size-lo) mr=n:=⟨_,rfl⟩;have n1:1<=n:=by omega
   have n2:lo+n<=it.size:=by omega
   rw[en]at n3 ⊢
   walk_at "RUN_REST"
  ·rw[if_neg z2];obtain⟨n,en⟩:∃n,m=n:=⟨_,rfl⟩;obtain⟨st3,e3⟩:∃st3,st2=st3:=⟨_,rfl⟩;have n1:1<=n:=by omega
   have n2:lo+n<=it.size:=by omega
   have hX3:=hX2;have n3:=m3;rw[e3]at n3 hX3 ⊢;rw[en]at n3 ⊢
   walk_at "RUN_REST"
 case post =>
  rintro c st' ⟨lo,D,rfl,hS⟩;dsimp only;refine wpS_bind (wpS_mono (wpS_forRange (I:=fun x c st''=>c=(none,())/\∃D,SR key κ it D [] st''/\((pendingOf st'').size<=1\/(pendingOf st'').size+x<=it.size)) (Q:=fun c st''=>c=(none,())/\∃D,SR key κ it D [] st''/\(pendingOf st'').size<=1) ?_ ?_ ⟨rfl,D,hS,.inr ?_⟩) ?_)
  ·rintro x c st'' _ _ ⟨rfl,D',hS',hl⟩;refine wpS_bind (wpS_get ?_);by_cases y:(pendingOf st'').size<=1
   ·rw[if_pos y];exact wpS_pure ⟨rfl,D',hS',y⟩
   rw[if_neg y];refine wpS_bind (zAJ hc hm hS' ?_ fun D2 st2 hS2 _ hl2=>?_)
   ·(repeat' split)<;>omega
   ·simp only[Bool.not_true,zq,if_false];exact wpS_pure ⟨rfl,D2,hS2,by omega⟩
  ·rintro c st'' ⟨rfl,D',hS',hl⟩;refine⟨rfl,D',hS',?_⟩;have:=yh (zT it.size);omega
  ·have:=hS.rn.len;have e:=hS.perm.size_eq;rw[<-zD,hS.ea,zv]at e;rw[zD]at this;omega
  ·rintro c st'' ⟨rfl,D',hS',hl⟩;refine wpS_pure (h st'' hS'.fail hS'.perm ?_);rw[hS'.ea,zv];exact hS'.rn.one (by rw[zD];exact hl)
end
def x3:List Int->List Int->Bool
 |[],[]=>false
 |[],_::_=>true
 |_::_,[]=>false
 |a::x,b::y=>if a=b then x3 x y else decide (a<b)
theorem lexI_irr:∀x:List Int,x3 x x=false
 |[]=>rfl
 |a::x=>by
  show(if a=a then x3 x x else decide (a<a))=false
  rw[if_pos rfl]
  exact lexI_irr x
theorem JX:∀{x y z:List Int},x3 x y=true->x3 y z=true->x3 x z=true
 |[],[],_,h,_=>by cases h
 |[],_::_,[],_,h=>by cases h
 |[],_::_,_::_,_,_=>rfl
 |_::_,[],_,h,_=>by cases h
 |_::_,_::_,[],_,h=>by cases h
 |a::x,b::y,c::z,J,B=>by
  change (if a=b then x3 x y else decide (a<b))=true at J
  change (if b=c then x3 y z else decide (b<c))=true at B
  show(if a=c then x3 x z else decide (a<c))=true
  by_cases H:a=b
  ·rw[if_pos H]at J
   by_cases G:b=c
   ·rw[if_pos G]at B
    rw[if_pos (H.trans G)]
    exact JX J B
   ·rw[if_neg G]at B
    rw[if_neg (by rw[H];exact G),H]
    exact B
  ·rw[if_neg H]at J
   have:=of_decide_eq_true J
   by_cases G:b=c
   ·rw[<-G,if_neg H]
    exact J
   ·rw[if_neg G]at B
    have:=of_decide_eq_true B
    rw[if_neg (by omega)]
    exact decide_eq_true (by omega)
theorem lexI_tot:∀{x y:List Int},x3 x y=false->x3 y x=true\/x=y
 |[],[],_=>.inr rfl
 |[],_::_,h=>by cases h
 |_::_,[],_=>.inl rfl
 |a::x,b::y,h=>by
  change (if a=b then x3 x y else decide (a<b))=false at h
  by_cases e:a=b
  ·rw[if_pos e]at h
   rcases lexI_tot h with z|z
   ·left
    show(if b=a then x3 y x else decide (b<a))=true
    rw[if_pos e.symm]
    exact z
   ·right
    rw[e,z]
  ·rw[if_neg e]at h
   have:=of_decide_eq_false h
   left
   show(if b=a then x3 y x else decide (b<a))=true
   rw[if_neg fun z=>e z.symm]
   exact decide_eq_true (by omega)
def lexF (fin:Bool):List Int->List Int->Bool
 |a::x,b::y=>if a=b then lexF fin x y else decide (a<b)
 |_,_=>fin
theorem lexF_eq:∀(x y:List Int),lexF (decide (x.length<y.length)) x y=x3 x y
 |[],[]=>rfl
 |[],_::_=>by simp[lexF,x3]
 |_::_,[]=>by simp[lexF,x3]
 |a::x,b::y=>by
  have:=lexF_eq x y
  show(if a=b then lexF (decide ((a::x).length<(b::y).length)) x y else decide (a<b))=(if a=b then x3 x y else decide (a<b))
  rw[zH,zH,show decide (x.length+1<y.length+1)=decide (x.length<y.length) by simp,this]
def xZ (h:Heap)(v:Value):List Int:=match v with
 |.ref a=>match h.get? a with
  |some o=>match o.data with
   |.seq z _=>z.toList.map numOf
   |_=>[]
  |none=>[]
 |_=>[]
def TpI (h:Heap)(v:Value)(xs:List Int):Prop:=∃(a:Addr) (o:Obj) (z:Array Value) (c:Nat),v=.ref a/\h.get? a=some o/\o.cls=.type "tuple" /\ o.data=.seq z c/\IntsAre z.toList xs
theorem ints_num:∀{us:List Value} {xs:List Int},IntsAre us xs->us.map numOf=xs
 |_,_,.nil=>rfl
 |_,_,.cons n t r=>by rw[zO,ints_num r];rfl
theorem TpI.cont {h:Heap}{v:Value}{xs:List Int}(p:TpI h v xs):xZ h v=xs:=by
 obtain⟨a,o,J,c,rfl,G,H,B,z⟩:=p;unfold xZ;simp only[G,B];exact ints_num z
def rkI (h:Heap)(vs:List Value)(v:Value):Int:=((vs.countP fun u=>x3 (xZ h u) (xZ h v):Nat):Int)
theorem countP_lt {J:Type}{p q:J->Bool}:∀{l:List J},(∀x,p x=true->q x=true)->(∃x∈l,q x=true/\p x=false)->l.countP p<l.countP q
 |[],_,⟨x,G,_⟩=>by cases G
 |a::l,B,⟨x,G,M,H⟩=>by
  have le:l.countP p<=l.countP q:=List.countP_mono_left fun x _=>B x
  rw[List.countP_cons,List.countP_cons]
  rcases zF.mp G with z|z
  ·subst z
   rw[M,H]
   simp
   omega
  ·have:=countP_lt (l:=l) B ⟨x,z,M,H⟩
   by_cases y:p a=true
   ·rw[if_pos y,if_pos (B a y)];omega
   ·rw[if_neg y]
    split<;>omega
theorem rk_lt {h:Heap}{vs:List Value}{x y:Value}(H:x∈vs):decide (rkI h vs x<rkI h vs y)=x3 (xZ h x) (xZ h y):=by
 unfold rkI;cases G:x3 (xZ h x) (xZ h y) with
 |true =>
  have:=countP_lt (p:=fun u=>x3 (xZ h u) (xZ h x)) (q:=fun u=>x3 (xZ h u) (xZ h y)) (l:=vs) (fun u B=>JX B G) ⟨x,H,G,lexI_irr _⟩;exact decide_eq_true (by omega)
 |false =>
  have:vs.countP (fun u=>x3 (xZ h u) (xZ h y))<=vs.countP (fun u=>x3 (xZ h u) (xZ h x)):=List.countP_mono_left fun u _ B=>by
   rcases lexI_tot G with z|z
   ·exact JX B z
   ·rw[z];exact B
  exact decide_eq_false (by omega)
section
variable {prog:Program}{w:World}{A:Around}{E:Value->Shared->Prop}{s:Shared}{vs:List Value}
theorem lex_ask {fin:Bool}{Q:Bool->Shared->Prop}:∀{us B:List Value} {xs G:List Int} (i:Nat),IntsAre us xs->IntsAre B G->Q (lexF fin xs G) s->KatLex prog w A true fin Q (us.zip B) i s
 |_,_,_,_,i,.nil,_,h=>by
  simp only[List.zip_nil_left]
  exact kat_nil h
 |_,_,_,_,i,.cons n t r,.nil,h=>by
  simp only[List.zip_nil_right]
  exact kat_nil h
 |_,_,_,_,i,.cons n t r,.cons m u q,h=>by
  rw[List.zip_cons_cons]
  refine kat_cons (wpAny_eqBool_int ?_)
  change Q (if n=m then lexF fin _ _ else decide (n<m)) s at h
  by_cases e:n=m
  ·rw[if_pos e]at h
   rw[beq_iff_eq.mpr e]
   exact kat_yes (lex_ask (i+1) r q h)
  ·rw[if_neg e]at h
   rw[beq_eq_false_iff_ne.mpr e]
   refine kat_no ?_
   by_cases z:(i==0)=true
   ·rw[z,Bool.and_true]
    exact oneLt_int h
   ·rw[show(true&&i==0)=false by simpa using z]
    exact kat_one _ _ (lt_int h)
theorem cmp_tups (p:∀v∈vs,∃z,TpI s.heap v z):SCmp prog w A s (tuples' true) (fun x=>x.1∈vs) (fun x=>rkI s.heap vs x.1):=by
 intro x y J hy;obtain⟨z,G⟩:=p _ J;obtain⟨ys,H⟩:=p _ hy;have e:=rk_lt (h:=s.heap) (y:=y.1) J;rw[G.cont,H.cont]at e;obtain⟨a,o,O,c,U,h1,h2,h3,B⟩:=G;obtain⟨b,o',ws,c',eb,k1,k2,k3,M⟩:=H;rw[U,eb];refine kat_lt h1 h3 k1 k3 ?_;refine lex_ask 0 B M ⟨rfl,?_⟩;have l1:O.size=z.length:=by rw[<-zD,IntsAre.length B]
 have Y:ws.size=ys.length:=by rw[<-zD,IntsAre.length M]
 rw[l1,Y,lexF_eq];exact e.symm
theorem J5 {h:Heap}:∀{vs:List Value},(∀v∈vs,∃B,B≠[]/\TpI h v B)->∃fs,KatTups h vs fs/\fs.length=vs.length/\∀v∈fs,∃n t,v=Value.int n t
 |[],_=>⟨[],.nil,rfl,fun v H=>by cases H⟩
 |v::vs,p=>by
  obtain⟨fs,f1,Y,J⟩:=J5 fun v H=>p v (zM _ H)
  obtain⟨B,ne,a,o,O,c,rfl,h1,M,h3,U⟩:=p v zJ
  match G:O.toList,U with
  |_,.nil=>exact absurd rfl ne
  |_,.cons n t r =>
   refine⟨.int n t::fs,.cons h1 M h3 (by rw[<-zQ,G];rfl) f1,by rw[zH,zH,Y],fun u G=>?_⟩
   rcases zF.mp G with z|z
   ·exact⟨n,t,z⟩
   ·exact J u z
theorem jm {l:List Value}{x:Keyed}(h:x∈l.zip l):x.1∈l/\x.2=x.1:=by
 induction l with
 |nil=>cases h
 |cons a r ih =>
  rw[List.zip_cons_cons]at h;rcases zF.mp h with z|z
  ·subst z;exact⟨zJ,rfl⟩
  ·exact⟨zM _ (ih z).1,(ih z).2⟩
theorem Jj (l:List Value):(l.zip l).map (fun x=>x.2)=l:=by
 induction l with
 |nil=>rfl
 |cons x r ih=>rw[List.zip_cons_cons,zO,ih]
theorem pw_few {z:Type}{R:z->z->Prop}:∀{l:List z},l.length<2->l.Pairwise R
 |[],_=>.nil
 |[_],_=>.cons (fun _ B=>by cases B) .nil
 |_::_::_,h=>by simp only[zH]at h;omega
theorem zAL {a:Addr} {n:Nat} {P:PySem.Fin->Shared->Prop} (ho:s.heap.get? a=some (seqObj "list" vs.toArray n)) (p:∀v∈vs,∃G,G≠[]/\TpI s.heap v G) (hz:vs.length<=1000)
  (h:∀(out:List Value),out.Perm vs->out.Pairwise (fun u v=>x3 (xZ s.heap v) (xZ s.heap u)=false)->P (.done (.ret .none)) { s with heap:=sortedHeap s.heap a vs out.toArray }) :
  wpAny (model prog w) A (Builtin.«list.sort» ⟨[.ref a],[]⟩) P E s:=by
 rw[list_sort_plain];have ha:a<s.heap.objs.size:=Heap.lt_size ho;have Y:=zm hz;refine wpAny_bind (listItems_at ho rfl ?_);refine wpAny_bind (listUpdate_at ho rfl ?_ (by rw[qM];exact Y) (zT _));obtain⟨e1,ho1⟩:∃e1,(s.heap.update a (Obj.mapSeq fun _=>(#[]:Array Value))).get? a=some (seqObj "list" #[] e1):=⟨_,get?_update_seq ho fun _=>#[]⟩;refine wpAny_bind (seqEpoch_at ho1 rfl ?_);refine wpAny_bind (wpAny_newTuple ?_ Y);refine wpAny_bind (wpAny_newList ?_ (zT _));refine wpAny_holding ?_;have J:(((s.heap.update a (Obj.mapSeq fun _=>(#[]:Array Value))).push (seqObj "tuple" vs.toArray 0)).push (seqObj "list" #[] 0)).get? a=some (seqObj "list" #[] e1):=by
  rw[Heap.get?_push_ne _ _ _ (by rw[size_push',Heap.size_update];exact zG (zn ha)),Heap.get?_push_ne _ _ _ (by rw[Heap.size_update];exact zG ha)];exact ho1
 have p6:∀v∈vs,∀G,TpI s.heap v G->TpI (((s.heap.update a (Obj.mapSeq fun _=>(#[]:Array Value))).push (seqObj "tuple" vs.toArray 0)).push (seqObj "list" #[] 0)) v G:=by
  rintro v O G ⟨b,o,us,c,rfl,h1,H,h3,h4⟩;have hb:a≠b:=fun z=>by rw[<-z,ho]at h1;cases h1;exact absurd (show Value.type "list" = Value.type "tuple" from H) (by decide)
  exact⟨b,o,us,c,rfl,Heap.get?_push_of_some _ (Heap.get?_push_of_some _ ((Heap.get?_update_other _ _ hb).trans h1)),H,h3,h4⟩
 show wpAny (model prog w) A _ P E { s with heap:=((s.heap.update a (Obj.mapSeq fun _=>(#[]:Array Value))).push (seqObj "tuple" vs.toArray 0)).push (seqObj "list" #[] 0) }
 dsimp only;by_cases H:vs.toArray.size<2
 ·rw[if_pos H,if_pos H];refine wpAny_bind (wpAny_pure ?_);rw[StateT.run_pure];refine wpAny_bind (wpAny_pure ?_);dsimp only;refine wpAny_bind (seqEpoch_at J rfl ?_);have e1':(vs.toArray.zip vs.toArray).map (·.2)=vs.toArray:=by
   apply Array.toList_inj.mp
   simpa using Jj vs
  have hv2:vs.length<2:=by simpa using H
  refine wpAny_bind (listUpdate_at J rfl ?_ (zT _) (by rw[e1',qM];omega));simp only[bne_self_eq_false,zq,if_false];refine wpAny_pure ?_;have:=h vs (yu.refl _) (by
   exact pw_few hv2)
  rw[<-e1']at this;exact this
 ·rw[if_neg H,if_neg H];have hv2:2<=vs.length:=by
   have:¬ vs.length<2:=by simpa using H
   omega
  obtain⟨fs,f1,f2,f3⟩:=J5 (h:=((s.heap.update a (Obj.mapSeq fun _=>(#[]:Array Value))).push (seqObj "tuple" vs.toArray 0)).push (seqObj "list" #[] 0)) (vs:=vs) fun v O=>by
   obtain⟨G,ne,t⟩:=p v O;exact⟨G,ne,p6 v O G t⟩
  refine wpAny_bind (kat_kind (T:=.type "int") f1 (by omega) (fun v O=>?_) (by decide) ?_)
  ·obtain⟨k,t,rfl⟩:=f3 v O;exact .now
  have cm:=cmp_tups (prog:=prog) (w:=w) (A:=A) (s:={ s with heap:=((s.heap.update a (Obj.mapSeq fun _=>(#[]:Array Value))).push (seqObj "tuple" vs.toArray 0)).push (seqObj "list" #[] 0) }) (vs:=vs) fun v O=>by
   obtain⟨G,ne,t⟩:=p v O;exact⟨G,p6 v O G t⟩
  have zl:(vs.toArray.zip vs.toArray).toList=vs.zip vs:=by simp
  have run:=sortRuns_ok (E:=E) (Q:=fun _ B=>failedOf B=none/\(arrOf B).Perm (vs.toArray.zip vs.toArray)/\Srt (fun x=>rkI (((s.heap.update a (Obj.mapSeq fun _=>(#[]:Array Value))).push (seqObj "tuple" vs.toArray 0)).push (seqObj "list" #[] 0)) vs x.1) (arrOf B).toList) (st:=SortSt.mk' (tuples' true) (vs.toArray.zip vs.toArray) #[] 7 none) (it:=vs.toArray.zip vs.toArray) cm (fun x hx=>(jm (by rw[<-zl];exact hx)).1) rfl rfl rfl rfl fun B g1 g2 g3=>⟨g1,g2,g3⟩;refine wpAny_bind (wpAny_mono run ?_ fun _ _ e=>e);rintro⟨⟨⟩,B⟩ s' ⟨rfl,hf,hp,hs⟩;dsimp only at hf hp hs ⊢;have U:(arrOf B).toList.Perm (vs.zip vs):=by
   have:=x8.mp hp
   rwa [zl]at this
  have M:(arrOf B).map (·.2)=((arrOf B).toList.map (·.2)).toArray:=by
   apply Array.toList_inj.mp;simp
  have hpo:((arrOf B).toList.map (·.2)).Perm vs:=by
   have:=U.map (fun x=>x.2)
   rwa [Jj]at this
  refine wpAny_bind (seqEpoch_at J rfl ?_);have hsz:((arrOf B).map (·.2)).size<=sizeLine:=by
   rw[M,qM,hpo.length_eq];exact Y
  refine wpAny_bind (listUpdate_at J rfl ?_ (zT _) (Nat.le_succ_of_le hsz));rw[hf];simp only[bne_self_eq_false,zq,if_false];refine wpAny_pure ?_;have:=h ((arrOf B).toList.map (·.2)) hpo (by
   rw[List.pairwise_map];refine xE.imp_of_mem ?_ hs;intro x y hx hy hxy;obtain⟨x1,x2⟩:=jm (U.mem_iff.mp hx);obtain⟨y1,y2⟩:=jm (U.mem_iff.mp hy);rw[x2,y2];have e:=rk_lt (h:=((s.heap.update a (Obj.mapSeq fun _=>(#[]:Array Value))).push (seqObj "tuple" vs.toArray 0)).push (seqObj "list" #[] 0)) (y:=x.1) y1;obtain⟨G,_,tx⟩:=p _ x1;obtain⟨ys,_,ty⟩:=p _ y1;rw[(p6 _ x1 _ tx).cont,(p6 _ y1 _ ty).cont]at e;rw[tx.cont,ty.cont,<-e];exact decide_eq_false (Int.not_lt.mpr hxy))
  rw[<-M]at this;exact this
end
theorem perm_pm {M:Type}{d:M}{l m:List M}(h:l.Perm m):∃pm:List Nat,pm.Perm (zp m.length)/\l=pm.map fun i=>m.getD i d:=by
 induction h with
 |nil=>exact⟨[],yu.refl _,rfl⟩
 |@cons x l m h ih =>
  obtain⟨pm,G,O⟩:=ih;refine⟨0::pm.map (· + 1),?_,?_⟩
  ·rw[zH,yp];exact(G.map _).cons _
  ·rw[zO,yF,O];rfl
 |swap x y l =>
  refine⟨1::0::(zp l.length).map (· + 2),?_,?_⟩
  ·rw[zH,zH,yp,yp,zO,yF];exact yu.swap _ _ _
  ·rw[zO,zO,yF];have e:∀f:Nat->M,(∀i,f i=l.getD i d)->(zp l.length).map f=l:=fun f hf=>by
    apply yn;intro i;rw[qI];by_cases z:i<l.length
    ·rw[List.getElem?_range z,qA z,Option.map_some,hf];simp[z]
    ·rw[zX (by rw[yV];omega),zX (by omega)];rfl
   rw[e ((fun i=>(x::y::l).getD i d) ∘ fun x=>x+2) fun i=>rfl];rfl
 |@trans l m n h1 h2 J H =>
  obtain⟨p,G,O⟩:=J;obtain⟨q,Y,q2⟩:=H;have lm:m.length=n.length:=h2.length_eq;have U:q.length=n.length:=by rw[Y.length_eq,yV]
  refine⟨p.map fun i=>q.getD i 0,?_,?_⟩
  ·refine(G.map _).trans ?_;rw[lm,<-U];have:((zp q.length).map fun i=>q.getD i 0)=q:=by
    apply yn;intro i;rw[qI];by_cases z:i<q.length
    ·rw[List.getElem?_range z,qA z];simp[z]
    ·rw[zX (by rw[yV];omega),zX (by omega)];rfl
   rw[this,U];exact Y
  ·rw[O,yF];refine List.map_congr_left fun i z=>?_;have hl:i<m.length:=List.mem_range.mp (G.mem_iff.mp z);show m.getD i d=n.getD (q.getD i 0) d
   have B:i<q.length:=by omega
   have e:m[i]? = some (n.getD (q[i]) d):=by
    rw[q2,qI,qA B];rfl
   rw[qD,e];simp[B]
section
variable {ins:Nat}{ds:List Wd}
end
section
variable {f:Int×Int->Int}{W:Nat->Int}{E:List (List (Int×Int))}
end
section
variable {f:Int×Int->Int}{W:Nat->Int}{ins:Nat}{ds:List Wd}{C:Int}{E:List (List (Int×Int))}{P:Int×Int->Prop}{i:Nat}{a:Ar}
end
section
variable {ins:Nat}{ds:List Wd}{g:Go}{B:Nat}{E:List (List (Int×Int))}{i:Nat}{a:Ar}
end
section
variable {ins:Nat}{ds:List Wd}{g:Go}{B L:Nat}
end
section
variable {K:zA}{σ:St}{H:Hp}{Q:VK}
end
section
variable {H H':Hp}{l:Addr}{vs:List V}{E:List (List (Int×Int))}
end
section
variable {prog:Program}{w:World}{A:Around}{E:Value->Shared->Prop}{s:Shared}
end
section
variable {K:zA}{σ:St}{H:Hp}{D:Ends}{g:TG}{tb:TS}{b:Addr}{n:Nat}
end
section
variable {K:zA}{σ:St}{H:Hp}{Q:VK}
end
section
variable {ins:Nat}{ds:List Wd}{g:Go}{B:Nat}
end
def goN (ins:Nat)(ds:List Wd):Nat->Nat->Int->Int->List (List Int)
 |0,_,_,_=>[]
 |n+1,G,z,B=>if G<ins then [[(G:Int),z,B]] else match ds[G-ins]? with
  |some d=>goN ins ds n d.a (z+d.s) B++goN ins ds n d.b (z+d.t) (B*sgW d.w)
  |none=>[]
def gw (ins:Nat)(ds:List Wd)(z:Nat)(B G:Int):List (List Int):=goN ins ds (z+1) z B G
section
variable {ins:Nat}{ds:List Wd}
end
section
variable {ds:List Wd}
end
theorem src_raw {prog:Program}{w:World}{d:Addr}{es:Array DictEntry}{ep:Nat}(lo:(d==sysModules)=false) :
  Src prog w "dict" d (fun n P=>n=es.size/\P=fun i v=>∃e,es[i]? = some e/\v=e.key) (RawD d es ep) where
 ty:=fun s ⟨o,G,B,_⟩=>⟨o,G,B⟩
 keep:=fun h U ⟨o,G,B⟩ k=>⟨o,k o G,B⟩
 nl:=by decide
 nt:=by decide
 hint:=fun A E s Q ⟨o,G,B,_⟩ q=>PySem.W.kdl_hint_dict ⟨o,G,B⟩ q
 iter:=fun A E s Q M z h=>by
  obtain⟨Y,St,O,W,J⟩:=(raw_src (prog:=prog) (w:=w) (es:=es) (ep:=ep) lo).iter A s M z
  refine O E Q (h _ s.drawn _ _ _ _ St (fun b o e=>Heap.get?_push_of_some _ e) (zC _) (fun b H=>?_) ⟨rfl,rfl⟩ W J)
  simp only[zF,zL,or_false]at H
  rcases H with e|e
  ·exact .inr ⟨jF e.symm,by rw[e,Heap.size_push];exact xK _⟩
  ·exact .inl e
theorem TpI.keep {h h':Heap}{v:Value}{xs:List Int}(p:TpI h v xs)(k:∀b o,h.get? b=some o->h'.get? b=some o):TpI h' v xs:=by
 obtain⟨b,o,B,c,rfl,J,z,H,G⟩:=p;exact⟨b,o,B,c,rfl,k b o J,z,H,G⟩
section
variable {prog:Program}{w:World}{A:Around}{E:Value->Shared->Prop}{s:Shared}{T:String}{r:Addr}{C:Nat->(Nat->Value->Prop)->Prop}{OK:Heap->Prop}
theorem sort_srcT {Q:Value->Shared->Prop}(K:Src prog w T r C OK)(J:∀n P,C n P->n<=1000/\∀acc:Array Value,ItemsOf P acc n->∀v∈acc.toList,∃G,G≠[]/\TpI s.heap v G)(O:A.handled=none)(hok:OK s.heap)
  (h:∀z d tk D c (vs:List Value) (acc:Array Value) n P,(∀b o,s.heap.get? b=some o->z.get? b=some o)->s.heap.objs.size<=D->z.get? D=some (seqObj "list" vs.toArray c)->C n P->ItemsOf P acc n->vs.Perm acc.toList->Q (.ref D) { s with heap:=z,drawn:=d,toks:=tk }) :
  wpAny (model prog w) A (call (.builtin "sorted") [.ref r]) Q E s:=by
 refine Calls.call_function_entry kind_sorted plain_sorted entry_sorted (args_sorted1 _) ?_;unfold Builtin.«sorted»;refine wpAny_bind (m:=checkCount "sorted" 1 1 _) (wpAny_pure ?_);refine wpAny_bind (coll_src (A:=A.in1) K (fun n P c=>zm (J n P c).1) O hok fun z d tk acc n P kp le M H=>?_);obtain⟨n1,tp⟩:=J n P M;have Y:acc.toList.length<=1000:=by rw[zD,H.1];exact n1
 refine wpAny_bind (wpAny_newList ?_ (zm (by omega)));have B:(z.push (seqObj "list" acc.toList.toArray 0)).get? z.objs.size=some (seqObj "list" acc.toList.toArray 0):=Heap.get?_push_size _ rfl;refine wpAny_bind (wpAny_holding (wpAny_call_entry slot_list_sort ⟨_,B,rfl⟩ entry_list_sort (zAL B (fun v hv=>?_) Y fun out U o2=>⟨_,rfl,?_⟩) (args_list_sort _)))
 ·obtain⟨G,ne,t⟩:=tp acc H v hv;exact⟨G,ne,t.keep fun b o e=>Heap.get?_push_of_some _ (kp b o e)⟩
 obtain⟨c,hD⟩:=sortedHeap_at (out:=out.toArray) B;refine wpAny_pure ⟨_,rfl,h _ d tk z.objs.size c out acc n P (fun b o e=>?_) (Nat.le_of_lt le) hD M H U⟩;have bl:=Heap.lt_size (kp b o e);rw[sortedHeap_old (zG bl) (by rw[size_push'];exact zn bl),Heap.get?_push_of_some _ (kp b o e)]
end
section
variable {prog:Program}{w:World}{A:Around}{E:Value->Shared->Prop}{s:Shared}
theorem call_setZT {l:Addr}{vs:List Value}{ns:List Int}{Q:Value->Shared->Prop}(hh:A.handled=none)(hl:s.heap.IsTuple l vs.toArray)(hi:IntsAre vs ns)(hb:ns.length+1<scanBound)
  (h:∀(h':Heap) (tk:Nat),SetZ (yX w) h' s.heap.objs.size (ns.foldl step_dedup [])->(∀b o,s.heap.get? b=some o->h'.get? b=some o)->Q (.ref s.heap.objs.size) { s with heap:=h',toks:=tk }) :
  wpAny (model prog w) A (call (.type "set") [.ref l]) Q E s:=by
 have vl:vs.length=ns.length:=IntsAre.length hi;refine callSet (Q₁:=fun obj z=>obj=.ref s.heap.objs.size/\z = { s with heap:=s.heap.push (yC #[] 0 (.fresh 0 0 (yX w))) }) (new_z _ ⟨rfl,rfl⟩) fun obj z H=>?_;obtain⟨rfl,rfl⟩:=H;have hS:(s.heap.push (yC #[] 0 (.fresh 0 0 (yX w)))).get? s.heap.objs.size=some (yC #[] 0 (.fresh 0 0 (yX w))):=Heap.get?_push_size _ rfl;refine⟨⟨_,hS,rfl⟩,?_⟩;have J:(s.heap.push (yC #[] 0 (.fresh 0 0 (yX w)))).IsTuple l vs.toArray:=hl.push _;obtain⟨ol,M,G,nl,O⟩:=hl;have lS:l<s.heap.objs.size:=Heap.lt_size M;obtain⟨aj,af,aa,U⟩:=ol;simp only at G O;subst G;subst O;have ai:=Heap.get?_push_of_some (yC #[] 0 (.fresh 0 0 (yX w))) M;have f1:=PySem.F.sub_tuple_set;have f2:=PySem.F.sub_tuple_frozenset;have f3:(Value.type "tuple" == Value.type "dict")=false:=by decide
 unfold Builtin.«set.__init__» noKeywords Builtin.Frozenset.updateFrom;generalize ac:pyIter=PI
 wp_walk
 subst ac;refine wpAny_pyIter_tuple J ?_;refine wpAny_bind (wpAny_runValue ?_);have ae:l≠(s.heap.push (yC #[] 0 (.fresh 0 0 (yX w)))).objs.size:=by
  rw[Heap.size_push];exact zG (zn lS)
 have ag:s.heap.objs.size∉[(s.heap.push (yC #[] 0 (.fresh 0 0 (yX w)))).objs.size,l]:=by
  rw[Heap.size_push];simp only[zF,zL,or_false,not_or];exact⟨zG (xK _),xV lS⟩
 have W:=(Walks.tuple (prog:=prog) (w:=w) (A:=A.in1.in1.in1) (by simp[hh]) _ l ae vs.toArray).toS;rw[show vs.toArray.size=ns.length by rw[qM];exact vl]at W;refine loop_z W s.heap.objs.size ag (fun i v hv=>?_) (led:=yX w) ns.length 0 _ [] (by omega) (zT _) ⟨⟨_,Heap.get?_push_size _ rfl,rfl,rfl⟩,J.push _⟩ (setZ_new (Heap.get?_push_of_some _ hS)) (by simpa using hb) fun s' Y hz=>?_
 ·obtain⟨t,e⟩:=IntsAre.int_at hi i v (by simpa using hv);have il:i<ns.length:=by
   have:=(qB.mp (show vs[i]? = some v by simpa using hv)).1;omega
  exact⟨ns[i],t,qA il,by rw[e];simp[il]⟩
 ·obtain⟨h',g',d',ah,ad⟩:=s';have eg:g'=s.gens:=Y.gens;have ed:d'=s.drawn:=Y.drawn;have eo:ad=s.os:=Y.os;subst eg;subst ed;subst eo;show wpAny _ _ _ _ _ _
  refine wpAny_pure ?_;show wpAny _ _ (ret Value.none) _ _ _
  refine wpAny_pure ⟨rfl,h h' ah hz fun b o e=>?_⟩;have B:b<s.heap.objs.size:=Heap.lt_size e;refine Y.heap b o ?_ (Heap.get?_push_of_some _ (Heap.get?_push_of_some _ e));rw[Heap.size_push];simp only[zF,zL,or_false,not_or];exact⟨zG B,zG (zn B)⟩
end
def rSetZT (w:World)(K:zA):List V->Hp->VK->Prop:=fun B H Q=>∃(p:Addr) (z:List Int),B=[.ref p]/\SqT K H p (z.map V.int)/\z.length<=4000/\∀a,H a=none->Q (.ref a) (upd H a (SetE w a (z.foldl step_dedup [])))
theorem zAM {X:Cx}(w:World)(K:zA)(B:X.calm=true)(M:X.w=w:=by rfl)(hK:X.K=K:=by rfl):CallR X (.type "set") (rSetZT w K):=by
 subst M hK;intro pins s σ H xs us Q I r h;obtain⟨p,ns,rfl,hp,hl,q⟩:=h;obtain⟨u,rfl,J⟩:=jn r;cases J
 obtain⟨ts,rt,U,_⟩:=I.tuple hp;refine call_setZT (I.ok.hd B) (vs:=ts) (by obtain⟨o,Y,B,n,G⟩:=U;exact⟨o,Y,B,n,G⟩) (jX rt) (by unfold scanBound;omega) fun h' tk z kp=>?_;refine⟨.ref s.heap.objs.size,_,I.laid (t':=tk) kp (zC _) ?_,rfl,q _ I.fresh⟩;show(SetZ (yX X.w) h' s.heap.objs.size _)/\_
 refine⟨z,?_,fun h1 h2 O k=>O.keep k⟩;obtain⟨es,ep,t,e,_⟩:=z;exact⟨_,e⟩
def rSortDT:List V->Hp->VK->Prop:=fun M H Q=>∃(a:Addr) (z:List (List Key×V)) (B:List (List Int)),M=[.ref a]/\H a=some (.dT z)/\KsT z B/\(∀S∈B,S≠[])/\B.length<=1000 /\
 ∀l J G,H l=none->HTs iT H J G->G.Perm B->Q (.ref l) (upd H l (.lst J))
theorem call_sortDT {X:Cx}{k:Nat}(hr:Room k X.A):CallR X (.builtin "sorted") rSortDT:=by
 intro pins s σ H xs us Q I r h;obtain⟨p,G,J,rfl,hp,hK,hne,h1000,q⟩:=h;obtain⟨u,rfl,rx⟩:=jn r;cases rx
 obtain⟨z,lo,B,pr,o,es,ep,h1,h2,h3,h4,h5⟩:=(show ObjOk X.prog X.w H s.heap p (.dT G) from I.hok p _ hp);have hl:G.length=B.length:=Paired.length pr;have hS:G.length=J.length:=hK.len;have hes:es.size=B.length:=by rw[<-zD,h4,qC]
 have pat:∀(j:Nat) (kv:List Key×V) (y:List Key×Addr×Value),G[j]? = some kv->B[j]? = some y->kv.1=y.1/\H y.2.1=some (.tup (kv.1.map kV)):=by
  clear q h4 h5 hl hes z hp hK hS;induction pr with
  |nil=>intro j kv y U;simp at U
  |cons a _ ih =>
   intro j kv y U e2;cases j with
   |zero =>
    simp only[zr,Option.some.injEq]at U e2;subst U e2;exact⟨a.1,a.2.1⟩
   |succ j=>exact ih j kv y (by simpa using U) (by simpa using e2)
 have sat:∀(j:Nat) y,B[j]? = some y->∃S,J[j]? = some S/\H y.2.1=some (.tup (iT S)):=fun j y hy=>by
  have jl:j<B.length:=(qB.mp hy).1;have ek:G[j]? = some (G[j]'(by omega)):=qA _;have eS:J[j]? = some (J[j]'(by omega)):=qA _;have e:=congrArg (fun l=>l[j]?) (show G.map (·.1)=J.map tkey from hK);simp only[qI,ek,eS,Option.map_some,Option.some.injEq]at e;refine⟨_,eS,?_⟩;rw[(pat j _ y ek hy).2,e,tkey_kV];rfl
 have O:∀(acc:Array Value),ItemsOf (fun i v=>∃e,es[i]? = some e/\v=e.key) acc es.size->acc.toList=(B.map fun y=>y.2.1).map Value.ref:=fun acc it=>by
  have al:acc.toList.length=B.length:=by rw[zD,it.1,hes]
  refine yn fun j=>?_;rw[yF,qI];cases hj:acc.toList[j]? with
  |none =>
   have:B.length<=j:=by rw[<-al];exact List.getElem?_eq_none_iff.mp hj
   rw[zX this];rfl
  |some v =>
   obtain⟨en,U,e2⟩:=it.2 j v (by rw[<-zQ];exact hj);rw[<-zQ,h4,qI]at U;obtain⟨y,hy,rfl⟩:=zy.mp U;rw[hy,e2];rfl
 refine sort_srcT (src_raw (es:=es) (ep:=ep) lo) (fun n P c=>?_) hr.hd ⟨o,h1,h2.1,h3⟩ fun h' d tk D c vs acc n P kp le hD hc M pm=>?_
 ·obtain⟨rfl,rfl⟩:=c;refine⟨by omega,fun acc it v hv=>?_⟩;rw[O acc it,yF]at hv;obtain⟨y,hy,rfl⟩:=qP.mp hv;obtain⟨j,hj⟩:=List.getElem?_of_mem hy;obtain⟨S,eS,aa⟩:=sat j y hj;obtain⟨_,ts,rt,o',f1,f2,n',f3⟩:=(show ObjOk X.prog X.w H s.heap y.2.1 (.tup (iT S)) from I.hok _ _ aa);exact⟨S,hne S (qE eS),y.2.1,o',ts.toArray,n',rfl,f1,f2,f3,jX rt⟩
 ·obtain⟨rfl,rfl⟩:=hc;rw[O acc M]at pm;obtain⟨im,Y,im2⟩:=perm_pm (d:=Value.none) pm;have iml:∀i∈im,i<B.length:=fun i M=>by
   have:=List.mem_range.mp (Y.mem_iff.mp M)
   simpa using this
  have ev:vs=(im.map fun i=>(B.map fun y=>y.2.1).getD i 0).map Value.ref:=by
   refine im2.trans (Eq.trans (List.map_congr_left (g:=fun i=>Value.ref ((B.map fun y=>y.2.1).getD i 0)) fun i M=>?_) yF.symm);have il:=iml i M;simp[il]
  have len:im.length=J.length:=by rw[Y.length_eq,yV,qC,qC];omega
  refine⟨.ref D,_,(I.drawn d).laid (t':=tk) kp le (show ObjOk X.prog X.w _ h' _ (.lst ((im.map fun i=>(B.map fun y=>y.2.1).getD i 0).map V.ref)) from⟨zm (by rw[qC,qC];omega),vs,c,by rw[ev];exact Js _,hD⟩),rfl,q _ ((im.map fun i=>(B.map fun y=>y.2.1).getD i 0).map V.ref) (im.map fun i=>J.getD i []) (I.hok.fresh le) ⟨by rw[qC,qC,qC],fun j S hj=>?_⟩ ?_⟩
  ·rw[qI]at hj;obtain⟨i,M,ei⟩:=zy.mp hj;have il:=iml i (qE M);obtain⟨S',eS,aa⟩:=sat i _ (qA il);rw[qD,eS]at ei;refine⟨B[i].2.1,?_,by rw[<-ei];exact aa⟩;rw[qI,qI,M];simp[il]
  ·have e:((zp J.length).map fun i=>J.getD i [])=J:=by
    apply yn;intro i;rw[qI];by_cases M:i<J.length
    ·rw[List.getElem?_range M,qA M];simp[M]
    ·rw[zX (by rw[yV];omega),zX (by omega)];rfl
   have im1':im.Perm (zp J.length):=by
    have e2:((B.map fun y=>y.2.1).map Value.ref).length=J.length:=by rw[qC,qC];omega
    rwa [e2]at Y
   have p2:=im1'.map fun i=>J.getD i []
   rwa [e]at p2
theorem od_len:∀{S:List Int} {top lo:Int},lo<=top+2->(∀x∈S,x%2=1/\lo<=x/\x<=top)->S.Pairwise (· < ·)->2*(S.length:Int)<=top-lo+2
 |[],top,lo,H,_,_=>by simp;omega
 |x::t,top,lo,H,h,p=>by
  obtain⟨B,G⟩:=List.pairwise_cons.mp p
  obtain⟨O,J,M⟩:=h x zJ
  have:=od_len (S:=t) (top:=top) (lo:=x+2) (by omega) (fun y z=>by
   obtain⟨a,b,c⟩:=h y (zM _ z)
   have:=B y z
   omega) G
  rw[zH]
  push_cast
  omega
theorem OdIn.few {S:List Int}{top:Int}(o:OdIn S top)(p:S.Pairwise (· < ·))(t:1<=top):2*(S.length:Int)<=top+1:=by
 have:=od_len (S:=S) (top:=top) (lo:=1) (by omega) (fun x z=>⟨o.odd x z,o.lo x z,o.hi x z⟩) p;omega
theorem JY {xs:List Int}{top:Int}(o:OdIn xs top)(ne:xs≠[])(H:1<=top)(O:top<=99):SetOk top (sortI (ded xs)):=by
 have mem:∀x,x∈sortI (ded xs)↔x∈xs:=fun x=>((yD _).mem_iff).trans (jB xs x);have G:OdIn (sortI (ded xs)) top:=⟨fun x B=>o.odd x ((mem x).mp B),fun x B=>o.lo x ((mem x).mp B),fun x B=>o.hi x ((mem x).mp B)⟩;have M:(sortI (ded xs)).Nodup:=(yD _).nodup_iff.mpr (ji xs);have inc:(sortI (ded xs)).Pairwise (· < ·):=by
  have h:=(y4 (ded xs)).and M;exact h.imp fun {a b} ⟨U,J⟩=>by
   have:a≠b:=J;omega
 have few:=G.few inc H;refine⟨G,inc,fun z=>?_,by omega⟩;obtain⟨x,B⟩:=jL _ ne;have:=(mem x).mpr B;rw[z]at this;cases this
theorem ded_few {xs:List Int}{top:Int}(o:OdIn xs top)(ne:xs≠[])(z:1<=top)(B:top<=99):(ded xs).length<=50:=by
 have:=(JY o ne z B).len
 rwa [(yD _).length_eq]at this
def spWith35 (K:zA):Sp:=fun J H Q _=>∃(p a c d:Addr) (B:List Int) (k:Int) (S G:List Int) (top:Int),J=[.ref p,.ref c,.ref d,.int top]/\PPen H p a k/\Scr K H a B/\B.length<=63/\k<=900000000 /\
 H c=some (.tup (S.map V.int))/\H d=some (.tup (G.map V.int))/\SetOk top S/\SetOk top G/\1<=top/\top<=99 /\
 ∀r R z,z r=some (.tup (R.map V.int))->SetOk top R->PPen z p a (k+2)->Scr K z a B->Chg p H z->Q (.ref r) z
def spNum35 (K:zA):Sp:=fun G H Q _=>∃(p a:Addr) (B:List Int) (k top:Int),G=[.ref p,.int top]/\PPen H p a k/\Scr K H a B/\B.length<=63/\k<=900000000/\1<=top/\top<=99 /\
 ∀n z,-4000<=n->n<=4000->PPen z p a (k+5)->Scr K z a B->Chg p H z->Q (.int n) z
theorem dbl_top {t top x:Int}(h:t<=top):∀(n:Nat) (l:Int),x∈dbl l t n->x∈dbl l top n
 |0,l,B=>B
 |n+1,l,B=>by
  unfold dbl at B ⊢
  rcases zF.mp B with e|e
  ·rw[e];exact zJ
  ·by_cases z:l<=t
   ·rw[if_pos z]at e
    rw[if_pos (by omega)]
    exact zM _ (dbl_top h n _ e)
   ·rw[if_neg z]at e
    cases e
theorem made_top {t top x:Int}{S:List Int}(h:t<=top)(M:x∈madeL S t):x∈madeL S top:=by
 obtain⟨⟨a,b⟩,y,H,e⟩:=mem_made.mp M;obtain⟨l,J,g,B,r,G,z⟩:=mem_sums.mp H;exact mem_made.mpr ⟨⟨a,by omega⟩,y,mem_sums.mpr ⟨l,J,g,dbl_top h 7 l B,r,G,z⟩,e⟩
theorem rch_top {t top:Int}(h:t<=top){k:Nat}{own:List Int}(r:RchO t k own):RchO top k own:=by
 induction r with
 |one=>exact .one
 |more _ B z ih=>exact .more ih (made_top h B) z
theorem cov_anti {t top:Int}{d:Nat}{z bs:List Int}(h:t<=top)(s:∀x∈z,x∈bs):Cov t d bs->Cov top d z:=fun⟨own,r,c⟩=>⟨own,rch_top h r,fun x B=>c x (s x B)⟩
theorem made_has1 {S:List Int}{top:Int}(h:(1:Int)∈S)(t:1<=top):(1:Int)∈madeL S top :=
 mem_made.mpr ⟨⟨by decide,t⟩,1,mem_sums.mpr ⟨1,h,2,by
  unfold dbl
  rw[if_pos t]
  unfold dbl
  exact zM _ zJ,1,h,.inr rfl⟩,by decide⟩
theorem shows_all {top:Int}{U:List Int}{O:List (List (List Int))}(t1:1<=top)(nd:U.Nodup)(h1:∀x∈U,1<x)(h:ShowsP top U O):∀d,d<=O.length -> ¬ Cov top d U:=by
 intro d hd;by_cases e:d=O.length
 ·rw[e];exact shows_none nd h1 h
 rintro⟨own,G,hs⟩;have key:∀(k j:Nat) own,RchO top (j+1) own->j<=k->k<O.length->∃L,O[k]? = some L/\∃S∈L,∀x∈own,x∈S:=by
  intro k;induction k with
  |zero =>
   intro j own G hj hk;obtain rfl:j=0:=by omega
   have e:=qA hk;obtain⟨S,M,hm⟩:=h.2.1 _ e;exact⟨_,e,S,M,fun x H=>by rw[rch_one G]at H;rw[zB.mp H];exact hm⟩
  |succ k ih =>
   intro j own G hj hk;have Y:=qA hk;by_cases z:j<=k
   ·obtain⟨L,e,S,M,B⟩:=ih j own G z (by omega);obtain⟨S',J,h2,_⟩:=h.2.2.1 k L _ e Y S M 1 (made_has1 (B 1 (JA G)) t1);exact⟨_,Y,S',J,fun x H=>h2 x (B x H)⟩
   ·obtain rfl:j=k+1:=by omega
    cases G with
    |@more _ own n G hm hno =>
     obtain⟨L,e,S,M,B⟩:=ih k own G (zC _) (by omega);obtain⟨S',J,h2,h3⟩:=h.2.2.1 k L _ e Y S M n (JH B hm);exact⟨_,Y,S',J,fun x H=>(zE.mp H).elim (fun z=>h2 x (B x z)) fun z=>by rw[zB.mp z];exact h3⟩
 obtain⟨L,e',S,M,B⟩:=key (O.length-1) d own G (by omega) (by omega);refine h.2.2.2 L (by rw[zx];exact e') S M (.inl ?_);exact List.eq_nil_iff_forall_not_mem.mpr fun x H=>(mem_lack.mp H).2 (B x (hs x (mem_lack.mp H).1))
theorem made_set {S:List Int}{top:Int}(t:1<=top):OdIn (madeL S top) top/\2*((madeL S top).length:Int)<=top+1:=by
 have B:OdIn (madeL S top) top:=⟨fun x z=>made_odd z,fun x z=>by have:=(jQ z).1;omega,fun x z=>(jQ z).2⟩;refine⟨B,B.few ?_ t⟩;unfold madeL;refine((y4 _).and ((yD _).nodup_iff.mpr (ji _))).imp fun {a b} ⟨H,G⟩=>?_;have:a≠b:=G;omega
theorem norm_ {w:World}{K:zA}{top:Int}{x:Addr}{xs:List Int}{H:Hp}{Q:VK}(sx:SqT K H x (xs.map V.int))(o:OdIn xs top)(ne:xs≠[])(G:1<=top)(J:top<=99)(le:xs.length<=200)
  (q:∀r S B,Same H B->B r=some (.tup (S.map V.int))->SetOk top S->Q (.ref r) B):rSetZT w K [.ref x] H fun x z=>rSortS w [x] z fun x z=>∃p,x=V.ref p/\∃x,(SqL K z p x/\∀l:Addr,z l=none->Q (.ref l) (upd z l (.tup x)))\/SqT K z p x/\Q (.ref p) z :=
 ⟨x,xs,rfl,sx,by omega,fun b O=>⟨b,_,rfl,upd_same,(by have h:(xs.foldl PyProof.Rows.step_dedup []).length<=50:=(ded_few o ne G J);omega),fun l M=>⟨l,rfl,_,.inl ⟨SqL.of upd_same,fun r U =>
  q r (sortI (ded xs)) _ (((zP O (SetE w b (xs.foldl PyProof.Rows.step_dedup []))).trans (zP M (.lst ((sortI (ded xs)).map V.int)))).trans (zP U (.tup ((sortI (ded xs)).map V.int)))) upd_same (JY o ne G J)⟩⟩⟩⟩
theorem Pap.chgP {H H':Hp}{B p:Addr}{z xs:List V}{J:List (List (List Int))}(h:Pap H B z J)(hp:H p=some (.lst xs))(n:B≠p)(m:∀r,V.ref r∈z->r≠p)(c:Chg p H H'):Pap H' B z J:=⟨c _ _ n h.lst,h.len,fun i L e=>by
 obtain⟨r,O,G,e2,U,M,Y⟩:=h.at_ i L e
 exact⟨r,O,G,e2,c _ _ (m r (qE G)) U,M.chgL hp c,Y⟩⟩
inductive Drawn35P (K:zA) (vs:List V) (H:Hp) (Q:VK):Prop
 |mk (p a:Addr) (ns:List Int) (k top:Int) (most M:Nat) (e0:vs=[.ref p,.int top,.int (most:Nat)]) (e1:PPen H p a k) (e2:Scr K H a ns) (e3:ns.length<=63) (e4:k<=800000000) (e5:1<=top) (e6:top<=99) (e7:top+1<=2*(M:Int)) (e8:1<=M) (e9:M<=99) (e10:M^most<=1000) (e11:most<=4) (e12:∀lv lvs Ls H',H lv=none->Chg p H H'->PPen H' p a (k+10000)->Scr K H' a ns->Pap H' lv lvs Ls->(∀r,V.ref r∈lvs->r≠p)->PapOk top Ls->Ls.length=most->Q (.ref lv) H'):Drawn35P K vs H Q
def spDrawn35 (K:zA):Sp:=fun z H Q _=>Drawn35P K z H Q
def NoneP (top:Int)(most:Nat)(xs:List Int):Prop:=∀d,d<=most -> ¬ Cov top d (askL xs)
inductive None35P (K:zA) (vs:List V) (H:Hp) (Q:VK):Prop
 |mk (l:Addr) (xs:List Int) (top:Int) (most:Nat) (e0:vs=[.ref l,.int top,.int most]) (e1:H l=some (.lst (xs.map V.int))) (e2:xs.length<=60) (e3:(∀x∈xs,x.natAbs<2^300)) (e4:1<=top) (e5:top<=31) (e6:most<=4) (e7:(15<top->most<=3)) (e8:∀b H',Same H H'->(b=true↔NoneP top most xs)->Q (.bl b) H'):None35P K vs H Q
def spNone35 (K:zA):Sp:=fun z H Q _=>None35P K z H Q
inductive Agr35P (K:zA) (vs:List V) (H:Hp) (Q:VK):Prop
 |mk (p a lv l:Addr) (ns:List Int) (k:Int) (lvs:List V) (Ls:List (List (List Int))) (xs:List Int) (top:Int) (e0:vs=[.ref p,.ref lv,.ref l,.int top,.int (Ls.length:Nat)]) (e1:PPen H p a k) (e2:Scr K H a ns) (e3:ns.length<=63) (e4:k<=800000000) (e5:Pap H lv lvs Ls) (e6:PapOk top Ls) (e7:H l=some (.lst (xs.map V.int))) (e8:l≠p) (e9:xs.length<=4) (e10:(∀x∈xs,x.natAbs<2^12)) (e11:1<=top) (e12:top<=31) (e13:Ls.length<=3) (e14:(15<top->Ls.length<=2)) (e15:∀H',Chg p H H'->PPen H' p a (k+100)->Scr K H' a ns->Q (.bl true) H'):Agr35P K vs H Q
def spAgr35 (K:zA):Sp:=fun z H Q _=>Agr35P K z H Q
theorem Jz {t top:Int}{m n:Nat}{xs z:List Int}(h:t<=top)(M:m<=n)(s:∀x∈xs,x∈z)(q:NoneP top n xs):NoneP t m z:=fun d J c=>q d (by omega) (cov_anti h (fun x H=>by
 obtain⟨G,y,B,e⟩:=mem_ask.mp H
 exact mem_ask.mpr ⟨G,y,s y B,e⟩) c)
theorem Jk {top:Int}{most:Nat}{xs:List Int}{c:Int}(f:FewIs top most (askL xs) c):(c = -1->NoneP top most xs)/\∀d:Nat,c=d->d<=most/\Cov top d (askL xs):=by
 rcases f with⟨e,n⟩|⟨d,G,e,B,_⟩
 ·exact⟨fun _=>n,fun d z=>by omega⟩
 ·refine⟨fun z=>by omega,fun H z=>?_⟩;obtain rfl:H=d:=by omega
  exact⟨G,B⟩
def Told35 (top:Int)(most:Nat)(xs:List Int)(H:Hp)(r:Addr):Prop:=(∃G z B,H r=some (.tup [.str "none",.ref G])/\Pap H G z B/\Lvs top (askL xs) B/\B.length=most/\askL xs≠[]) \/
 ∃(O M U:Addr) (J:List V) (n:Nat) (pv:V),H r=some (.tup [.str "web",.ref O,pv])/\H O=some (.tup [.int 1,.ref M,.ref U])/\H M=some (.lst J)/\J.length=n/\n<=most /\ ¬ NoneP top most xs /\
  ((n=0/\pv=.non)\/∃G z B,pv=.ref G/\Pap H G z B/\Lvs top (askL xs) B/\B.length+1=n/\askL xs≠[])
theorem Told35.same {top:Int}{most:Nat}{xs:List Int}{H H':Hp}{r:Addr}(h:Told35 top most xs H r)(s:Same H H'):Told35 top most xs H' r:=by
 rcases h with⟨J,z,G,O,B,M⟩|⟨w0,dl,gl,U,n,pv,O,B,M,Y,h5,h6,h7⟩
 ·exact .inl ⟨J,z,G,s _ _ O,B.same s,M⟩
 ·refine .inr ⟨w0,dl,gl,U,n,pv,s _ _ O,s _ _ B,s _ _ M,Y,h5,h6,?_⟩;rcases h7 with h|⟨J,z,G,e,h8,h9⟩
  ·exact .inl h
  ·exact .inr ⟨J,z,G,e,h8.same s,h9⟩
def M35 (K:zA)(p a l:Addr)(z G top:Int)(most:Nat)(xs ns:List Int):St->Hp->Prop:=fun B H=>∃r:Addr,B=[some (.ref a),some (.ref p),some (.int z),some (.int G),some (.int top),some (.int most),some (.ref l),some (.ref r),none]/\H l=some (.lst (xs.map V.int))/\PPen H p a 1000/\Scr K H a ns/\Told35 top most xs H r
theorem M35.same {K:zA}{p a l:Addr}{z B top:Int}{most:Nat}{xs ns:List Int}{G:St}{H H':Hp}(h:M35 K p a l z B top most xs ns G H)(s:Same H H'):M35 K p a l z B top most xs ns G H':=by
 obtain⟨r,e,U,J,O,M⟩:=h;exact⟨r,e,s _ _ U,J.same s,O.same s,M.same s⟩
inductive J35 (K:zA) (p a la:Addr) (ns:List Int) (k top:Int) (most M:Nat) (H:Hp) (i:Nat) (σ:St) (H':Hp):Prop
 |mk (se:Addr) (us lvs:List V) (Ss:List (List Int)) (Ls:List (List (List Int))) (o5 o6 o7 o8 o9 o10:Option V) (e:σ=[some (.ref p),some (.int top),some (.int (most:Nat)),some (.ref la),some (.ref se),o5,o6,o7,o8,o9,o10])
  (c:Chg p H H') (P:PPen H' p a (k+2000*i)) (S:Scr K H' a ns) (PP:Pap H' la lvs Ls) (PO:PapOk top Ls) (lL:Ls.length=i) (lvp:∀r,V.ref r∈lvs->r≠p) (hse:H' se=some (.lst us)) (hS:HTs iT H' us Ss) (SO:∀S∈Ss,SetOk top S) (cS:Ss.length<=M^i) (n1:se≠p) (n2:se≠la):J35 K p a la ns k top most M H i σ H'
theorem ifs_no {A B:TT}{t u:TS}{D:Ends}{z:St}{H:Hp}(h:∀Q:Bool->Hp->Prop,Q false H->A z H Q)(k:u D z H):tIfS (tAnd A B) t u D z H:=h _ k
theorem ifs_yes {A B:TT}{t u:TS}{D:Ends}{z:St}{H:Hp}(h:∀Q:Bool->Hp->Prop,Q true H->A z H Q)(k:tIfS B t u D z H):tIfS (tAnd A B) t u D z H:=h _ k
structure TbE where
 n:Str
 s:Stmt
 ps:List Str
structure DX (K:zA) (n:Str) (s:Stmt):Prop where
 ex:∃(f:Addr) (od an:Option Addr) (sl:Array (Option Value)) (oc kV dc pm cd ct:Value),xS K mainGlobals n=some (some (.ref f)) /\
  K.lookup f=some ⟨oc,od,.func (xT n n (je s) (xn s) (zS s) .none kV dc pm an cd ct),sl⟩/\PySem.W.codeIn K cd n=true/\x4 K (.ref f)=true
def TD (K:zA)(B:Str->Option Value)(n:Str)(s:Stmt)(G:List Str):Prop:=∃(f:Addr) (z:FuncData),Fun K n n s f z/\B n=some (.ref f)/\Binds K z G []
def BX (n:Str)(s:Stmt)(B:List Str):Prop:=∀(kV J pm:Value) (M:Option Addr) (H G:Value) (z:List Value),z.length=B.length->bindArgs (xT n n (je s) (xn s) (zS s) .none kV J pm M H G) ⟨z,[]⟩=pure (B.zip z)
def DL (K:zA):List TbE->Prop
 |[]=>True
 |⟨n,s,_⟩::r=>DX K n s/\DL K r
def BL:List TbE->Prop
 |[]=>True
 |⟨n,s,z⟩::r=>BX n s z/\BL r
def NL (K:zA):List Str->Prop
 |[]=>True
 |n::r=>xS K mainGlobals n=some none/\NL K r
theorem dl_cons {K:zA}{n:Str}{s:Stmt}{M:List Str}{r:List TbE}{f:Addr}{B G:Option Addr}{sl:Array (Option Value)}{J kV H pm z ct:Value}(a:xS K mainGlobals n=some (some (.ref f)))
  (l:K.lookup f=some ⟨J,B,.func (xT n n (je s) (xn s) (zS s) .none kV H pm G z ct),sl⟩) (c:PySem.W.codeIn K z n=true) (k:x4 K (.ref f)=true) (t:DL K r):DL K (⟨n,s,M⟩::r):=⟨⟨f,B,G,sl,J,kV,H,pm,z,ct,a,l,c,k⟩,t⟩
theorem nl_cons {K:zA}{n:Str}{r:List Str}(a:xS K mainGlobals n=some none)(t:NL K r):NL K (n::r):=⟨a,t⟩
theorem bx_at:∀{l:List TbE} {i:Nat} {x:TbE},BL l->l[i]? = some x->BX x.n x.s x.ps
 |⟨n,s,z⟩::r,0,x,h,e=>by cases e;exact h.1
 |⟨n,s,z⟩::r,i+1,x,h,e=>bx_at (l:=r) (i:=i) h.2 e
 |[],i,x,h,e=>by simp at e
theorem dx_at {K:zA}:∀{l:List TbE} {i:Nat} {x:TbE},DL K l->l[i]? = some x->DX K x.n x.s
 |⟨n,s,z⟩::r,0,x,h,e=>by cases e;exact h.1
 |⟨n,s,z⟩::r,i+1,x,h,e=>dx_at (l:=r) (i:=i) h.2 e
 |[],i,x,h,e=>by simp at e
theorem tx_of {K:zA}{h:Heap}{z:Str->Option Value}{l:List TbE}{i:Nat}{x:TbE}(X:K.In h)(G:h.Ns mainGlobals z)(D:DL K l)(b:BL l)(e:l[i]? = some x):TD K z x.n x.s x.ps:=by
 obtain⟨f,Y,an,sl,U,kV,dc,pm,cd,O,M,B,J,H⟩:=(dx_at D e).ex;have F:=fun_mk (st:=x.s) B J H;exact⟨f,_,F,PySem.W.mg_of X G M,F.binds (bx_at b e)⟩
theorem law_tx {K:zA}{H:Str->Option Value}{n:Str}{s:Stmt}{p:Str}{J:Addr}(t:TD K H n s [p])(b:BX n s [p])(G:H n=some (.ref J)):∃z,Fun K n n s J z/\∀(s':Shared) (v:Value),BindsTo s' z ⟨[v],[]⟩ [(p,v)]:=by
 obtain⟨f,z,F,m,_⟩:=t;rw[G]at m;cases m
 refine⟨z,F,fun s' v=>?_⟩;obtain⟨oc,od,kV,doc,pm,Y,B,M,O,rfl,lk,U⟩:=F.ex;exact .of_eq (b kV doc pm Y B M [v] rfl)
theorem nl_at {K:zA}{h:Heap}{B:Str->Option Value}(X:K.In h)(G:h.Ns mainGlobals B):∀{l:List Str} {n:Str},NL K l->n∈l->B n=none
 |m::r,n,z,e=>by
  rcases zF.mp e with e|e
  ·rw[e];exact PySem.W.mg_none_of X G z.1
  ·exact nl_at X G z.2 e
def stA:List Str->List V->St
 |_::N,v::z=>some v::stA N z
 |_::N,[]=>none::stA N []
 |[],_=>[]
theorem J0:∀{N:List Str} {vs:List V},vs.length<=N.length->jU N vs=stA N vs
 |_::N,v::vs,h=>by
  have ih:=J0 (N:=N) (vs:=vs) (Nat.le_of_succ_le_succ h)
  unfold jU at ih ⊢
  rw[stA,<-ih,zO,zH,zH,Nat.add_sub_add_right]
  rfl
 |_::N,[],h=>by
  have ih:=J0 (N:=N) (vs:=[]) (zT _)
  unfold jU at ih ⊢
  rw[stA,<-ih]
  simp[List.replicate_succ]
 |[],[],_=>rfl
 |[],v::vs,h=>by cases h
end L2
namespace Law
open PySem L2
open Option.some renaming injEq → qJs
open L2.HO.tup renaming injEq → qJt
open L2.HO.lst renaming injEq → qJl
open L2.HO.dK renaming injEq → qJd
def top (i:Nat):Stmt:=PySem.Challenge.pw_shiftsums_k35_whole_papers_are_so.main.body.getD i (.Pass ⟨0,0,0,0⟩)
local macro_rules | `(tactic| walk_at "F")=>`(tactic| exact ⟨rfl,rfl,rfl,by decide +kernel,rfl,by decide +kernel,by decide +kernel⟩)
local macro_rules | `(tactic| walk_at "S")=>`(tactic| (rw [J0 (Nat.le_of_ble_eq_true rfl)]; simp only [stA]))
abbrev s_law:Stmt:=top 49
def tb:List TbE:=[⟨"is_whole",top 4,["thing"]⟩,⟨"core",top 5,["number"]⟩,⟨"is_between",top 8,["thing","low","high"]⟩,⟨"made",top 13,["cores","top"]⟩,⟨"doublings",top 14,["odd","top"]⟩,⟨"cores_of",top 15,["numbers"]⟩,⟨"wanted",top 16,["numbers"]⟩,⟨"refuse_beyond",top 17,["top","most"]⟩,⟨"level_behind",top 18,["levels","top"]⟩,⟨"grown",top 19,["cores","top"]⟩,⟨"shows",top 21,["paper","numbers","top","most"]⟩,⟨"is_paper",top 22,["paper","top","most"]⟩,⟨"is_level",top 23,["level","top"]⟩,⟨"is_core_set",top 24,["cores","top"]⟩,⟨"leads_on",top 25,["level","following","top"]⟩,⟨"is_led_on",top 26,["cores","masks","top"]⟩,⟨"mask_of",top 27,["cores"]⟩,⟨"finishes",top 28,["cores","asked","top"]⟩,⟨"moved",top 30,["part","shift","sign"]⟩,⟨"deed_of",top 31,["one","other"]⟩,⟨"sign_of",top 32,["one","other"]⟩,⟨"add_sum",top 33,["ins","deeds","one","other"]⟩,⟨"out_for",top 34,["number","parts"]⟩,⟨"fewest",top 36,["numbers","top","most"]⟩,⟨"with_all",top 37,["cores","asked"]⟩,⟨"row_of",top 38,["cores","numbers","top"]⟩,⟨"way_to",top 39,["odd","parts","top"]⟩,⟨"add_core",top 40,["deeds","parts","way"]⟩,⟨"_law_pen",top 42,["_law_script"]⟩,⟨"_law_pick",top 43,["_law_pen_here","_law_many"]⟩,⟨"_law_number",top 44,["_law_pen_here","_law_top"]⟩,⟨"_law_with",top 45,["_law_pen_here","_law_some","_law_other","_law_top"]⟩,⟨"_law_drawn",top 46,["_law_pen_here","_law_top","_law_most"]⟩,⟨"_law_none",top 47,["_law_row","_law_top","_law_most"]⟩,⟨"_law_agrees",top 48,["_law_pen_here","_law_paper","_law_row","_law_top","_law_most"]⟩,⟨"law",top 49,["_law_script"]⟩]
theorem sc_is_whole:FnScope ["thing"] ["thing"] (zS (top 4)):=by walk_at "F"
theorem sc_core:FnScope ["number","size","shift","sign"] ["number"] (zS (top 5)):=by walk_at "F"
theorem sc_is_between:FnScope ["thing","low","high"] ["thing","low","high"] (zS (top 8)):=by walk_at "F"
theorem sc_made:FnScope ["cores","top","sums","left","high","right"] ["cores","top"] (zS (top 13)):=by walk_at "F"
theorem sc_doublings:FnScope ["odd","top","told"] ["odd","top"] (zS (top 14)):=by walk_at "F"
theorem J6:FnScope ["numbers"] ["numbers"] (zS (top 15)):=by walk_at "F"
theorem sc_wanted:FnScope ["numbers"] ["numbers"] (zS (top 16)):=by walk_at "F"
theorem J1:FnScope ["top","most"] ["top","most"] (zS (top 17)):=by walk_at "F"
theorem sc_level_behind:FnScope ["levels","top","found","cores","longer"] ["levels","top"] (zS (top 18)):=by walk_at "F"
theorem sc_grown:FnScope ["cores","top","more"] ["cores","top"] (zS (top 19)):=by walk_at "F"
theorem sc_shows:FnScope ["paper","numbers","top","most","asked"] ["paper","numbers","top","most"] (zS (top 21)):=by walk_at "F"
theorem sc_is_paper:FnScope ["paper","top","most"] ["paper","top","most"] (zS (top 22)):=by walk_at "F"
theorem sc_is_level:FnScope ["level","top"] ["level","top"] (zS (top 23)):=by walk_at "F"
theorem zAN:FnScope ["cores","top"] ["cores","top"] (zS (top 24)):=by walk_at "F"
theorem sc_leads_on:FnScope ["level","following","top","masks"] ["level","following","top"] (zS (top 25)):=by walk_at "F"
theorem sc_is_led_on:FnScope ["cores","masks","top","whole","reached","mask","asked"] ["cores","masks","top"] (zS (top 26)):=by walk_at "F"
theorem sc_mask_of:FnScope ["cores"] ["cores"] (zS (top 27)):=by walk_at "F"
theorem sc_finishes:FnScope ["cores","asked","top","lacking"] ["cores","asked","top"] (zS (top 28)):=by walk_at "F"
theorem sc_moved:FnScope ["part","shift","sign"] ["part","shift","sign"] (zS (top 30)):=by walk_at "F"
theorem sc_deed_of:FnScope ["one","other"] ["one","other"] (zS (top 31)):=by walk_at "F"
theorem sc_sign_of:FnScope ["one","other"] ["one","other"] (zS (top 32)):=by walk_at "F"
theorem sc_add_sum:FnScope ["ins","deeds","one","other"] ["ins","deeds","one","other"] (zS (top 33)):=by walk_at "F"
theorem sc_out_for:FnScope ["number","parts","found"] ["number","parts"] (zS (top 34)):=by walk_at "F"
theorem sc_fewest:FnScope ["numbers","top","most","asked","paper","level","ends"] ["numbers","top","most"] (zS (top 36)):=by walk_at "F"
theorem sc_with_all:FnScope ["cores","asked"] ["cores","asked"] (zS (top 37)):=by walk_at "F"
theorem sc_row_of:FnScope ["cores","numbers","top","deeds","parts","odd","way"] ["cores","numbers","top"] (zS (top 38)):=by walk_at "F"
theorem sc_way_to:FnScope ["odd","parts","top","left","right","shift","high"] ["odd","parts","top"] (zS (top 39)):=by walk_at "F"
theorem sc_add_core:FnScope ["deeds","parts","way","one","other","found"] ["deeds","parts","way"] (zS (top 40)):=by walk_at "F"
theorem sc_l_pen:FnScope ["_law_script"] ["_law_script"] (zS (top 42)):=by walk_at "F"
theorem sc_l_pick:FnScope ["_law_pen_here","_law_many","_law_digit","_law_at","_law_cell","_law_mixed"] ["_law_pen_here","_law_many"] (zS (top 43)):=by walk_at "F"
theorem sc_l_number:FnScope ["_law_pen_here","_law_top","_law_own"] ["_law_pen_here","_law_top"] (zS (top 44)):=by walk_at "F"
theorem sc_l_with:FnScope ["_law_pen_here","_law_some","_law_other","_law_top","_law_way"] ["_law_pen_here","_law_some","_law_other","_law_top"] (zS (top 45)):=by walk_at "F"
theorem sc_l_drawn:FnScope ["_law_pen_here","_law_top","_law_most","_law_ladder","_law_sets","_law_k","_law_level","_law_at","_law_later","_law_some","_law_own"] ["_law_pen_here","_law_top","_law_most"] (zS (top 46)):=by walk_at "F"
theorem sc_l_none:FnScope ["_law_row","_law_top","_law_most"] ["_law_row","_law_top","_law_most"] (zS (top 47)):=by walk_at "F"
theorem sc_l_agrees:FnScope ["_law_pen_here","_law_paper","_law_row","_law_top","_law_most","_law_told"] ["_law_pen_here","_law_paper","_law_row","_law_top","_law_most"] (zS (top 48)):=by walk_at "F"
theorem sc_law:FnScope ["_law_script","_law_pen_here","_law_far","_law_deeds","_law_top","_law_most","_law_row","_law_told","_law_k"] ["_law_script"] (zS (top 49)):=by walk_at "F"
structure Bl (mg:Str->Option Value):Prop where
 abs:mg "abs" = none
 all:mg "all" = none
 any:mg "any" = none
 bool:mg "bool" = none
 enumerate:mg "enumerate" = none
 int:mg "int" = none
 isinstance:mg "isinstance" = none
 len:mg "len" = none
 list:mg "list" = none
 range:mg "range" = none
 «set»:mg "set" = none
 sorted:mg "sorted" = none
 sum:mg "sum" = none
 tuple:mg "tuple" = none
 zip:mg "zip" = none
structure Txt (K:zA) (mg:Str->Option Value):Prop where
 bl:Bl mg
 t:∀(i:Nat) (x:TbE),tb[i]? = some x->TD K mg x.n x.s x.ps
 c_NO_OUT:∃t:Addr,mg "NO_OUT" = some (.ref t)/\CT0 K t
 i_TOP_AT_MOST:∃tk:Tok,mg "TOP_AT_MOST" = some (.int 99 tk)
 i_DEEDS_AT_MOST:∃tk:Tok,mg "DEEDS_AT_MOST" = some (.int 4 tk)
 i_TOP_WITH_ALL_DEEDS:∃tk:Tok,mg "TOP_WITH_ALL_DEEDS" = some (.int 31 tk)
 cls:∃(cst_TooMany:Addr),mg "TooMany" = some (.ref cst_TooMany)/\PySem.W.excIn K cst_TooMany [.type "ValueError",.type "Exception",.type "BaseException",.type "object"] "ValueError.__new__" = true
local macro_rules | `(tactic| walk_at "WP")=>`(tactic| (first | (dsimp only [w_gLst,w_forE,w_compE,w_compZ,w_for3,w_gTupK,w_ixT,w_eqS,w_aug,w_ipI,w_dnK,w_maxD,w_sl,w_noPart,w_part,w_slL,w_var,w_C,w_op,w_un,w_rI,w_rI0,w_rU,w_eqI,w_neI,w_eqB,w_neB,w_seq,w_next,w_break,w_cont,w_ifS,w_ret,w_retN,w_drop,w_asg,yy,w_gSub,w_test,w_B,w_and,w_or,w_not,w_andV,w_orV,w_notV,w_if,w_call,w_nil,w_cons,w_CB,w_lst,w_tup,w_isN,w_notN,w_chain,w_for1,w_for2b,w_On2,w_forL,w_forT,w_forV,w_compL,w_compT,w_comp1,w_comp2b,JM,w_bm,w_bm0,w_rBits,w_tyInt,Jf,jg,w_gNil,w_dgS,w_dgI,w_sDP,w_dpS,w_dpI,w_dII,w_disp,JQ,pen_s,pen_a,pen_l,pen_len,pen_pa,pen_pl,qJd,w_append,zr,xM,List.set_cons_zero,List.set_cons_succ,qJs,V.int.injEq,V.bl.injEq,V.ref.injEq,V.str.injEq,exists_eq_left',exists_eq_left,zv,List.cons.injEq,and_true,true_and,exists_and_left,decide_eq_true_eq,yo,decide_eq_false_iff_not,Bool.not_true,Bool.not_false,w_ixM,w_ixU,w_ixL,w_setL,w_cxK,w_isI_ii,w_isI_ib,w_isI_bi,w_isI_bb,w_isI_ni,w_isI_nb,w_isI_si,w_isI_sb,sl_0,sl_1,sl_2,sl_3,sl_4,sl_5,sl_6,sl_7,sl_8,CPowB,w_shl1,at_0,at_1,at_2,at_3,ixN_0,ixN_1,ixN_2,upd_same,qJl,qJt,Int.reduceToNat,Int.reducePow,Int.reduceNeg,Int.reduceLT,Int.reduceLE,Int.reduceMod,Int.reduceMul,Int.reduceAdd,Int.reduceSub,Int.reduceDiv,Int.reduceEq,ite_true,ite_false,if_true,if_false,Bool.true_eq_false,zq,zH,y6,reduceCtorEq,false_and,and_false,not_false_eq_true,not_true_eq_false,exists_false,false_or,or_false,w_pop,w_extend,Jq,w_clear,w_cat,w_LZ,w_LR,w_forD,w_compZ2,w_sDPT,w_dpT,w_dIT,w_dgT,w_dnT,w_eqE,w_neE,w_revL,w_dget1,w_dget2]; try simp only [w_gLst,w_forE,w_compE,w_compZ,w_for3,w_gTupK,w_ixT,w_eqS,w_aug,w_ipI,w_dnK,w_maxD,w_sl,w_noPart,w_part,w_slL,w_var,w_C,w_op,w_un,w_rI,w_rI0,w_rU,w_eqI,w_neI,w_eqB,w_neB,w_seq,w_next,w_break,w_cont,w_ifS,w_ret,w_retN,w_drop,w_asg,yy,w_gSub,w_test,w_B,w_and,w_or,w_not,w_andV,w_orV,w_notV,w_if,w_call,w_nil,w_cons,w_CB,w_lst,w_tup,w_isN,w_notN,w_chain,w_for1,w_for2b,w_On2,w_forL,w_forT,w_forV,w_compL,w_compT,w_comp1,w_comp2b,JM,w_bm,w_bm0,w_rBits,w_tyInt,Jf,jg,w_gNil,w_dgS,w_dgI,w_sDP,w_dpS,w_dpI,w_dII,w_disp,JQ,pen_s,pen_a,pen_l,pen_len,pen_pa,pen_pl,qJd,w_append,zr,xM,List.set_cons_zero,List.set_cons_succ,qJs,V.int.injEq,V.bl.injEq,V.ref.injEq,V.str.injEq,exists_eq_left',exists_eq_left,zv,List.cons.injEq,and_true,true_and,exists_and_left,decide_eq_true_eq,yo,decide_eq_false_iff_not,Bool.not_true,Bool.not_false,w_ixM,w_ixU,w_ixL,w_setL,w_cxK,w_isI_ii,w_isI_ib,w_isI_bi,w_isI_bb,w_isI_ni,w_isI_nb,w_isI_si,w_isI_sb,sl_0,sl_1,sl_2,sl_3,sl_4,sl_5,sl_6,sl_7,sl_8,CPowB,w_shl1,at_0,at_1,at_2,at_3,ixN_0,ixN_1,ixN_2,upd_same,qJl,qJt,Int.reduceToNat,Int.reducePow,Int.reduceNeg,Int.reduceLT,Int.reduceLE,Int.reduceMod,Int.reduceMul,Int.reduceAdd,Int.reduceSub,Int.reduceDiv,Int.reduceEq,ite_true,ite_false,if_true,if_false,Bool.true_eq_false,zq,zH,y6,reduceCtorEq,false_and,and_false,not_false_eq_true,not_true_eq_false,exists_false,false_or,or_false,w_pop,w_extend,Jq,w_clear,w_cat,w_LZ,w_LR,w_forD,w_compZ2,w_sDPT,w_dpT,w_dIT,w_dgT,w_dnT,w_eqE,w_neE,w_revL,w_dget1,w_dget2]) | simp only [w_gLst,w_forE,w_compE,w_compZ,w_for3,w_gTupK,w_ixT,w_eqS,w_aug,w_ipI,w_dnK,w_maxD,w_sl,w_noPart,w_part,w_slL,w_var,w_C,w_op,w_un,w_rI,w_rI0,w_rU,w_eqI,w_neI,w_eqB,w_neB,w_seq,w_next,w_break,w_cont,w_ifS,w_ret,w_retN,w_drop,w_asg,yy,w_gSub,w_test,w_B,w_and,w_or,w_not,w_andV,w_orV,w_notV,w_if,w_call,w_nil,w_cons,w_CB,w_lst,w_tup,w_isN,w_notN,w_chain,w_for1,w_for2b,w_On2,w_forL,w_forT,w_forV,w_compL,w_compT,w_comp1,w_comp2b,JM,w_bm,w_bm0,w_rBits,w_tyInt,Jf,jg,w_gNil,w_dgS,w_dgI,w_sDP,w_dpS,w_dpI,w_dII,w_disp,JQ,pen_s,pen_a,pen_l,pen_len,pen_pa,pen_pl,qJd,w_append,zr,xM,List.set_cons_zero,List.set_cons_succ,qJs,V.int.injEq,V.bl.injEq,V.ref.injEq,V.str.injEq,exists_eq_left',exists_eq_left,zv,List.cons.injEq,and_true,true_and,exists_and_left,decide_eq_true_eq,yo,decide_eq_false_iff_not,Bool.not_true,Bool.not_false,w_ixM,w_ixU,w_ixL,w_setL,w_cxK,w_isI_ii,w_isI_ib,w_isI_bi,w_isI_bb,w_isI_ni,w_isI_nb,w_isI_si,w_isI_sb,sl_0,sl_1,sl_2,sl_3,sl_4,sl_5,sl_6,sl_7,sl_8,CPowB,w_shl1,at_0,at_1,at_2,at_3,ixN_0,ixN_1,ixN_2,upd_same,qJl,qJt,Int.reduceToNat,Int.reducePow,Int.reduceNeg,Int.reduceLT,Int.reduceLE,Int.reduceMod,Int.reduceMul,Int.reduceAdd,Int.reduceSub,Int.reduceDiv,Int.reduceEq,ite_true,ite_false,if_true,if_false,Bool.true_eq_false,zq,zH,y6,reduceCtorEq,false_and,and_false,not_false_eq_true,not_true_eq_false,exists_false,false_or,or_false,w_pop,w_extend,Jq,w_clear,w_cat,w_LZ,w_LR,w_forD,w_compZ2,w_sDPT,w_dpT,w_dIT,w_dgT,w_dnT,w_eqE,w_neE,w_revL,w_dget1,w_dget2]))
local macro_rules | `(tactic| walk_at "o") => `(tactic| first | exact .inl rfl | exact .inr rfl | assumption)
section
variable {P:Program}{w:World}{K:zA}{mg:Str->Option Value}{base:Heap}
theorem ok_ppen (T:Txt K mg):Cal P w K mg base 1 "_law_pen" ["_law_script"] (spPPen K):=by
 have B:=T.bl;refine yK (T.t 28 _ rfl) sc_l_pen (fun vs H Q E h=>?_) (fun f cdv A outer s H vs Q E hr h=>?_)
 ·obtain⟨a,rfl,_⟩:=h;rfl
 obtain⟨a,rfl,q⟩:=h;refine⟨_,((@pss_one _ _ _ (@ps_ret _ _ _ _ (@pe_lst _ _ _ _ (@pa_cons _ _ _ _ _ pe_int (@pa_cons _ _ _ _ _ pe_int (@pa_cons _ _ _ _ _ (pv 0) pa_nil (by rfl)) (by rfl)) (by rfl)))))),?_⟩
 walk_at "S"
 try walk_at "WP"
 intro p hp;exact q p _ hp (zP hp _) (ppen_of (by decide) (by decide) (by decide))
theorem ok_pick (T:Txt K mg):Cal P w K mg base 1 "_law_pick" ["_law_pen_here","_law_many"] (spPick K):=by
 have B:=T.bl;refine yK (T.t 29 _ rfl) sc_l_pick (fun vs H Q E h=>?_) (fun f cdv A outer s H vs Q E hr h=>?_)
 ·obtain⟨p,a,ns,m,c,rfl,_⟩:=h;rfl
 obtain⟨p,a,ns,m,c_,rfl,hP,hS,h63,hc,h1,h2,q⟩:=h;refine⟨_,((@pss_cons _ _ _ _ _ (@ps_if _ _ _ _ _ _ _ _ (@pt_cmpR _ _ _ _ _ _ _ _ op_gt (@pe_ix _ _ _ _ _ _ _ ix_M (pv 0) pe_int (fun _ _=>rfl)) pe_int (@zh _ _ (by decide) (by decide))) (@pss_cons _ _ _ _ _ (@ps_set _ _ (2) _ _ _ _ sc_l_pick.nd rfl (by walk_at "o") (@pe_op _ _ _ _ _ _ _ _ op_mod (@pe_ix _ _ _ _ _ _ _ ix_M (pv 0) pe_int (fun _ _=>rfl)) (pv 1)) (by rfl) (by walk_at "o")) (@pss_cons _ _ _ _ _ (@ps_asg _ _ _ _ _ _ (@pe_op _ _ _ _ _ _ _ _ jy (@pe_ix _ _ _ _ _ _ _ ix_M (pv 0) pe_int (fun _ _=>rfl)) (pv 1)) (@pg_sub _ _ _ _ _ _ _ (pv 0) pe_int set_list (by intro _ ;rfl)) (by rfl) (by rfl) (by rfl)) (@pss_one _ _ _ (@ps_ret _ _ _ _ (pv 2))))) pss_nil) (@pss_cons _ _ _ _ _ (@ps_set _ _ (3) _ _ _ _ sc_l_pick.nd rfl (by walk_at "o") (@pe_ix _ _ _ _ _ _ _ ix_M (pv 0) pe_int (fun _ _=>rfl)) (by rfl) (by walk_at "o")) (@pss_cons _ _ _ _ _ (@ps_asg _ _ _ _ _ _ (@pe_op _ _ _ _ _ _ _ _ yc (pv 3) pe_int) (@pg_sub _ _ _ _ _ _ _ (pv 0) pe_int set_list (by intro _ ;rfl)) (by rfl) (by rfl) (by rfl)) (@pss_cons _ _ _ _ _ (@ps_set _ _ (4) _ _ _ _ sc_l_pick.nd rfl (by walk_at "o") pe_int (by rfl) (by walk_at "o")) (@pss_mid _ _ _ _ _ (@ps_if _ _ _ _ _ _ _ _ (@pt_cmpR _ _ _ _ _ _ _ _ op_gt (@pe_callB _ _ _ _ _ _ _ _ _ Jn rfl B.len xP (@pa_cons _ _ _ _ _ (@pe_ix _ _ _ _ _ _ _ ix_M (pv 0) pe_int (fun _ _=>rfl)) pa_nil (by rfl)) (by decide) (by decide) (by rfl) (by rfl)) pe_int (@zh _ _ (by decide) (by decide))) (@pss_one _ _ _ (@ps_set _ _ (4) _ _ _ _ sc_l_pick.nd rfl (by walk_at "o") (@pe_ix _ _ _ _ _ _ _ ix_list (@pe_ix _ _ _ _ _ _ _ ix_M (pv 0) pe_int (fun _ _=>rfl)) (@pe_op _ _ _ _ _ _ _ _ op_mod (pv 3) (@pe_callB _ _ _ _ _ _ _ _ _ Jn rfl B.len xP (@pa_cons _ _ _ _ _ (@pe_ix _ _ _ _ _ _ _ ix_M (pv 0) pe_int (fun _ _=>rfl)) pa_nil (by rfl)) (by decide) (by decide) (by rfl) (by rfl))) (fun _ _=>rfl)) (by rfl) (by walk_at "o"))) pss_nil) (@pss_cons _ _ _ _ _ (@ps_if _ _ _ _ _ _ _ _ (@PW.pt _ _ _ (@pw_and _ _ _ _ _ _ _ (@pt_cmpR _ _ _ _ _ _ _ _ op_lt (pv 3) (@pe_callB _ _ _ _ _ _ _ _ _ Jn rfl B.len xP (@pa_cons _ _ _ _ _ (@pe_ix _ _ _ _ _ _ _ ix_M (pv 0) pe_int (fun _ _=>rfl)) pa_nil (by rfl)) (by decide) (by decide) (by rfl) (by rfl)) (@zh _ _ (by decide) (by decide))) (@Ja _ _ _ _ (@pt_cmpR _ _ _ _ _ _ _ _ op_ge (@pe_callB _ _ _ _ _ _ _ _ _ call_abs rfl B.abs bo_abs (@pa_cons _ _ _ _ _ (pv 4) pa_nil (by rfl)) (by decide) (by decide) (by rfl) (by rfl)) (@pe_op _ _ _ _ _ _ _ _ op_powB pe_int pe_int) (@zh _ _ (by decide) (by decide)))))) (@pss_cons _ _ _ _ _ (@ps_asg _ _ _ _ _ _ (@pe_op _ _ _ _ _ _ _ _ jy (@pe_callB _ _ _ _ _ _ _ _ _ call_abs rfl B.abs bo_abs (@pa_cons _ _ _ _ _ (pv 4) pa_nil (by rfl)) (by decide) (by decide) (by rfl) (by rfl)) (pv 1)) (@pg_sub _ _ _ _ _ _ _ (pv 0) pe_int set_list (by intro _ ;rfl)) (by rfl) (by rfl) (by rfl)) (@pss_one _ _ _ (@ps_ret _ _ _ _ (@pe_op _ _ _ _ _ _ _ _ op_mod (@pe_callB _ _ _ _ _ _ _ _ _ call_abs rfl B.abs bo_abs (@pa_cons _ _ _ _ _ (pv 4) pa_nil (by rfl)) (by decide) (by decide) (by rfl) (by rfl)) (pv 1))))) pss_nil) (@pss_cons _ _ _ _ _ (@ps_set _ _ (5) _ _ _ _ sc_l_pick.nd rfl (by walk_at "o") (@pe_op _ _ _ _ _ _ _ _ op_mod (@pe_op _ _ _ _ _ _ _ _ xO (@pe_op _ _ _ _ _ _ _ _ yc (@pe_op _ _ _ _ _ _ _ _ yc (@pe_op _ _ _ _ _ _ _ _ op_mod (pv 4) pe_int) (@pe_op _ _ _ _ _ _ _ _ xO pe_int (pv 3))) pe_int) pe_int) pe_int) (by rfl) (by walk_at "o")) (@pss_cons _ _ _ _ _ (@ps_set _ _ (5) _ _ _ _ sc_l_pick.nd rfl (by walk_at "o") (@pe_op _ _ _ _ _ _ _ _ op_mod (@pe_op _ _ _ _ _ _ _ _ xO (pv 5) (@pe_op _ _ _ _ _ _ _ _ yc (@pe_op _ _ _ _ _ _ _ _ yc (@pe_op _ _ _ _ _ _ _ _ op_mod (pv 5) pe_int) (pv 3)) pe_int)) pe_int) (by rfl) (by walk_at "o")) (@pss_one _ _ _ (@ps_ret _ _ _ _ (@pe_op _ _ _ _ _ _ _ _ op_mod (@pe_op _ _ _ _ _ _ _ _ jy (pv 5) pe_int) (pv 1))))))))))))),?_⟩
 walk_at "S"
 obtain⟨t,l,hH,ht0,htc,hl⟩:=id hP
 (iterate 5 ((try (walk_at "WP"));(try (simp only[hH,qJs,qJt,qJl,qJd,exists_eq_left',exists_eq_left]))));(try (walk_at "WP"))
 refine yq (fun c=>?_) (fun c=>?_)
 ·exact⟨by omega,divB (by omega) h2,q _ _ (modq (by omega)).1 (modq (by omega)).2 (ppen_of ht0 (by omega) (divq hl (by omega))) (hS.ppen hP (Chg.upd _)) (Chg.upd _)⟩
 have hS1:=hS.ppen hP (Chg.upd (.lst [V.int l,V.int (t+1),V.ref a]));have hP1:PPen (upd H p (.lst [V.int l,V.int (t+1),V.ref a])) p a (c_+1):=ppen_of (by omega) (by omega) hl;have C1:Chg p H (upd H p (.lst [V.int l,V.int (t+1),V.ref a])):=Chg.upd _;have hp1:(upd H p (.lst [V.int l,V.int (t+1),V.ref a])) p=some (.lst [V.int l,V.int (t+1),V.ref a]):=upd_same;generalize upd H p (.lst [V.int l,V.int (t+1),V.ref a])=H1 at *;refine mid_of (fun σ H2=>∃(cell:Int) (o2 o5:Option V),σ=[some (.ref p),some (.int m),o2,some (.int t),some (.int cell),o5]/\H2=H1) (fun N hN=>?_) ?_
 ·(iterate 5 ((try (walk_at "WP"));(try (simp only[hp1,qJs,qJt,qJl,qJd,exists_eq_left',exists_eq_left]))));(try (walk_at "WP"))
  refine⟨_,hS1.sq,?_⟩;rw[qC];refine yq (fun z=>?_) (fun z=>hN _ _ ⟨_,_,_,rfl,rfl⟩);refine⟨_,hS1.sq,by rw[qC];omega,_,hS1.sq,?_⟩;rw[qC];have b:=modq (g:=t) (m:=(ns.length:Int)) (by omega);obtain⟨v,hv,_⟩:=atI_int (ns:=ns) b.1 b.2;exact⟨_,hv,hN _ _ ⟨v,_,_,rfl,rfl⟩⟩
 ·rintro σ H2 ⟨cell,o2,o5,rfl,rfl⟩
  (iterate 5 ((try (walk_at "WP"));(try (simp only[hp1,qJs,qJt,qJl,qJd,exists_eq_left',exists_eq_left]))));(try (walk_at "WP"))
  refine⟨_,hS1.sq,?_⟩;rw[qC];have h0:0<=(if cell<0 then -cell else cell):=by split<;>omega
  refine yq (fun _=>?_) (fun _=>?_)
  ·refine yq (fun _=>?_) (fun _=>?_)
   ·exact⟨divB (by omega) h2,by omega,q _ _ (modq (by omega)).1 (modq (by omega)).2 (ppen_of (by omega) (by omega) (divq h0 (by omega))) (hS1.ppen hP1 (Chg.upd _)) (C1.trans (Chg.upd _))⟩
   ·exact⟨JJ (by decide) (by decide),mul_r (by decide) (by decide),JJ (by omega) (by omega),divB (by decide) (by decide),by omega,q _ _ (modq (by omega)).1 (modq (by omega)).2 hP1 hS1 C1⟩
  ·exact⟨JJ (by decide) (by decide),mul_r (by decide) (by decide),JJ (by omega) (by omega),divB (by decide) (by decide),by omega,q _ _ (modq (by omega)).1 (modq (by omega)).2 hP1 hS1 C1⟩
theorem ok_refb (T:Txt K mg) {cst_TooMany:Addr} (mg_TooMany:mg "TooMany" = some (.ref cst_TooMany)) (xi_TooMany:PySem.W.excIn K cst_TooMany [.type "ValueError",.type "Exception",.type "BaseException",.type "object"] "ValueError.__new__" = true):CalX P w K mg base 1 "refuse_beyond" ["top","most"] (spRefB cst_TooMany):=by
 have B:=T.bl;obtain⟨_,mg_TOP_AT_MOST⟩:=T.i_TOP_AT_MOST;obtain⟨_,mg_DEEDS_AT_MOST⟩:=T.i_DEEDS_AT_MOST;obtain⟨_,mg_TOP_WITH_ALL_DEEDS⟩:=T.i_TOP_WITH_ALL_DEEDS;refine mkCalX (T.t 7 _ rfl) J1 (fun vs H Q E h=>?_) (fun f cdv A outer s H vs Q E hr h=>?_)
 ·obtain⟨_,_,rfl,_⟩:=h;rfl
 obtain⟨top,most,rfl,qN,qE⟩:=h;refine⟨_,((@pss_one _ _ _ (@ps_if _ _ _ _ _ _ _ _ (@PW.pt _ _ _ (@pw_or _ _ _ _ _ _ _ (@pt_cmpR _ _ _ _ _ _ _ _ op_gt (pv 0) (@JD _ _ (.int 99) _ _ rfl mg_TOP_AT_MOST ⟨_,rfl⟩ (by decide)) (@zh _ _ (by decide) (by decide))) (@pw_or _ _ _ _ _ _ _ (@pt_cmpR _ _ _ _ _ _ _ _ op_gt (pv 1) (@JD _ _ (.int 4) _ _ rfl mg_DEEDS_AT_MOST ⟨_,rfl⟩ (by decide)) (@zh _ _ (by decide) (by decide))) (@pw_or1 _ _ _ _ (@PW.pt _ _ _ (@pw_and _ _ _ _ _ _ _ (@pt_cmpR _ _ _ _ _ _ _ _ op_gt (pv 0) (@JD _ _ (.int 31) _ _ rfl mg_TOP_WITH_ALL_DEEDS ⟨_,rfl⟩ (by decide)) (@zh _ _ (by decide) (by decide))) (@Ja _ _ _ _ (@pt_cmpR _ _ _ _ _ _ _ _ op_gt (pv 1) (@pe_op _ _ _ _ _ _ _ _ jd (@JD _ _ (.int 4) _ _ rfl mg_DEEDS_AT_MOST ⟨_,rfl⟩ (by decide)) pe_int) (@zh _ _ (by decide) (by decide)))))))))) (@pss_one _ _ _ (@ps_raise _ _ _ (cst_TooMany) _ _ _ _ _ _ _ _ _ _ raises_of xi_TooMany PySem.F.excBase_ValueError rfl (fun _ z=>nomatch z) rfl mg_TooMany (@pa_cons _ _ _ _ _ xf pa_nil (by rfl)) (by decide) (by rfl) (by rfl))) pss_nil))),?_⟩
 walk_at "S"
 try walk_at "WP"
 have far:farB top most->tRaise E cst_TooMany (tCons (tC (V.str (Str.ofString "more than can be gone through"))) tNil) { nx:=fun x H'=>Q V.non H',rt:=Q } [some (V.int top),some (V.int most)] H:=fun hf=>by
  rw[w_raise]
  try walk_at "WP"
  exact qE hf
 refine yq (fun z=>far (.inl z)) (fun z=>?_);refine yq (fun z2=>far (.inr (.inl z2))) (fun z2=>?_);refine yq (fun z3=>?_) (fun z3=>qN (fun hf=>by rcases hf with y|y|y<;>omega));refine yq (fun z4=>far (.inr (.inr ⟨z3,by omega⟩))) (fun z4=>qN (fun hf=>by rcases hf with y|y|y<;>omega))
theorem Jl (T:Txt K mg):Cal P w K mg base 1 "core" ["number"] spCoreT:=by
 have B:=T.bl;refine yK (T.t 1 _ rfl) sc_core (fun vs H Q E h=>?_) (fun f cdv A outer s H vs Q E hr h=>?_)
 ·obtain⟨n,rfl,_⟩:=h;rfl
 obtain⟨n,rfl,q0⟩:=h;have q:∀p,H p=none->Q (.ref p) (upd H p (.tup ((jo n).map V.int))):=fun p hp=>by
  rw[core_three];exact q0 p hp
 refine⟨_,((@pss_cons _ _ _ _ _ (@ps_if _ _ _ _ _ _ _ _ (@pt_cmpR _ _ _ _ _ _ _ _ op_eq (pv 0) pe_int (@zh _ _ (by decide) (by decide))) (@pss_one _ _ _ (@ps_ret _ _ _ _ (@pe_tup _ _ _ _ _ (@pa_cons _ _ _ _ _ pe_int (@pa_cons _ _ _ _ _ pe_int (@pa_cons _ _ _ _ _ pe_int pa_nil (by rfl)) (by rfl)) (by rfl))))) pss_nil) (@pss_cons _ _ _ _ _ (@ps_set _ _ (1) _ _ _ _ sc_core.nd rfl (by walk_at "o") (@pe_callB _ _ _ _ _ _ _ _ _ call_abs rfl B.abs bo_abs (@pa_cons _ _ _ _ _ (pv 0) pa_nil (by rfl)) (by decide) (by decide) (by rfl) (by rfl)) (by rfl) (by walk_at "o")) (@pss_cons _ _ _ _ _ (@ps_set _ _ (2) _ _ _ _ sc_core.nd rfl (by walk_at "o") (@pe_op _ _ _ _ _ _ _ _ jd (@pe_bm0 _ _ _ _ _ _ _ _ _ PySem.F.plainAttrs_int PyProof.Rows.slot_int_bit_length PyProof.Rows.type_int_bit_length mt_bits (@pe_op _ _ _ _ _ _ _ _ op_and (pv 1) (@pe_un _ _ _ _ _ _ ju (pv 1))) (by rfl) (by rfl)) pe_int) (by rfl) (by walk_at "o")) (@pss_cons _ _ _ _ _ (@ps_set _ _ (3) _ _ _ _ sc_core.nd rfl (by walk_at "o") (@Jb _ _ _ _ _ _ _ _ (@pt_cmpR _ _ _ _ _ _ _ _ op_gt (pv 0) pe_int (@zh _ _ (by decide) (by decide))) pe_int (@pe_un _ _ _ _ _ _ ju pe_int)) (by rfl) (by walk_at "o")) (@pss_one _ _ _ (@ps_ret _ _ _ _ (@pe_tup _ _ _ _ _ (@pa_cons _ _ _ _ _ (@pe_op _ _ _ _ _ _ _ _ op_shr (pv 1) (pv 2)) (@pa_cons _ _ _ _ _ (pv 2) (@pa_cons _ _ _ _ _ (pv 3) pa_nil (by rfl)) (by rfl)) (by rfl)))))))))),?_⟩
 walk_at "S"
 try walk_at "WP"
 refine yq (fun c=>?_) (fun c=>?_)
 ·intro p hp;have:=q p hp;rw[show jo n=[0,0,0] by unfold jo;rw[if_pos c]]at this;exact this
 ·obtain⟨m,k,e1,e2⟩:=Jp c;have el:lowK n=(k:Int):=by
   unfold jo at e2;rw[if_neg c]at e2;simp only[List.cons.injEq]at e2;exact e2.2.1
  have e3:jo n=[absI n/2^(lowK n).toNat,lowK n,if 0<n then 1 else -1]:=by unfold jo;rw[if_neg c]
  rw[e3]at q;have ge:0<=lowK n:=by omega
  refine yq (fun d=>?_) (fun d=>?_)
  ·rw[if_pos d]at q;exact⟨ge,q⟩
  ·rw[if_neg d]at q;exact⟨ge,q⟩
theorem ok_dbl (T:Txt K mg):Cal P w K mg base 1 "doublings" ["odd","top"] spDbl:=by
 have B:=T.bl;refine yK (T.t 4 _ rfl) sc_doublings (fun vs H Q E h=>?_) (fun f cdv A outer s H vs Q E hr h=>?_)
 ·obtain⟨_,_,rfl,_⟩:=h;rfl
 obtain⟨l,top,rfl,l1,l2,hb,q⟩:=h;refine⟨_,((@pss_cons _ _ _ _ _ (@ps_set _ _ (2) _ _ _ _ sc_doublings.nd rfl (by walk_at "o") (@pe_lst _ _ _ _ (@pa_cons _ _ _ _ _ (pv 0) pa_nil (by rfl))) (by rfl) (by walk_at "o")) (@pss_cons _ _ _ _ _ (@ps_whl _ _ _ _ _ _ PassesOwn.never (@pt_cmpR _ _ _ _ _ _ _ _ op_le (@pe_ix _ _ _ _ _ _ _ ix_M (pv 2) (@pe_un _ _ _ _ _ _ ju pe_int) (fun _ _=>rfl)) (pv 1) (@zh _ _ (by decide) (by decide))) (@pss_one _ _ _ (@ps_expr _ _ _ _ (@pe_bm _ _ _ _ _ _ _ _ _ _ _ _ xJ xD xC mt_append (pv 2) (@pa_cons _ _ _ _ _ (@pe_op _ _ _ _ _ _ _ _ xO pe_int (@pe_ix _ _ _ _ _ _ _ ix_M (pv 2) (@pe_un _ _ _ _ _ _ ju pe_int) (fun _ _=>rfl))) pa_nil (by rfl)) (by rfl) (by rfl) (by rfl) (by rfl) (by rfl)) (by rfl)))) (@pss_one _ _ _ (@ps_ret _ _ _ _ (pv 2)))))),?_⟩
 walk_at "S"
 try walk_at "WP"
 intro r nr;have s1:=zP nr (.lst [V.int l]);refine whl (fun m σ H2=>∃(pre:List Int) (x:Int),σ=[some (.int l),some (.int top),some (.ref r)]/\Same H H2/\H2 r=some (.lst ((pre++[x]).map V.int))/\dbl l top 7=pre++dbl x top m/\1<=x/\top<x*2^m/\pre.length+m=7) 7 ⟨[],l,rfl,s1,upd_same,rfl,l1,hb,rfl⟩ ?_;rintro m σ H2 N ⟨pre,x,rfl,s2,hr2,e2,x1,xb,pl⟩ hN;have hat:atI ((pre++[x]).map V.int) (-1)=some (.int x):=by
  obtain⟨d,_,h1,h2⟩:=atI_m1 (ds:=pre++[x]) (by simp);rw[List.getLast?_append]at h2;simp at h2;rw[h1,h2]
 (iterate 5 ((try (walk_at "WP"));(try (simp only[hr2,hat,qJs,qJt,qJl,qJd,exists_eq_left',exists_eq_left]))));(try (walk_at "WP"))
 refine yq (fun z=>?_) (fun z=>?_)
 ·cases m with
  |zero=>rw[y8,yA]at xb;omega
  |succ m =>
   refine⟨Je hr2,JJ (by decide) (by decide),by rw[qC,qF];exact jS (by simp;omega),hN m _ _ (by omega) ⟨pre++[x],2*x,rfl,yP nr s2,?_,?_,by omega,?_,by simp;omega⟩⟩
   ·rw[upd_same,zo (l₁:=pre++[x])];rfl
   ·rw[e2,dbl,if_pos z,zN];rfl
   ·rw[Int.pow_succ]at xb;rw[xX 2 x,z9,xX 2];exact xb
 ·have e3:dbl x top m=[x]:=by
   cases m with
   |zero=>rfl
   |succ m=>rw[dbl,if_neg z]
  rw[e3]at e2;rw[<-e2]at hr2;exact q r H2 nr s2 hr2
theorem ok_coresD (T:Txt K mg):Cal P w K mg base 2 "cores_of" ["numbers"] spCoresD:=by
 have B:=T.bl;have C_core:=Jl (P:=P) (w:=w) (base:=base) T;refine yK (T.t 5 _ rfl) J6 (fun vs H Q E h=>?_) (fun f cdv A outer s H vs Q E hr h=>?_)
 ·obtain⟨_,_,_,rfl,_⟩:=h;rfl
 obtain⟨a,o,ks,rfl,ha,hl,q⟩:=h;refine⟨_,((@pss_one _ _ _ (@ps_ret _ _ _ _ (@pe_comp0 _ _ _ _ _ _ _ _ (["number"]) (1) ([]) _ _ _ rfl (@pi_dict _ _ _ _ (pv 0)) (fun nd C s H fp=>⟨(@zY _ _ (0) _ nd rfl (by walk_at "o") (by walk_at "o")),xB,(@pe_ix _ _ _ _ _ _ _ ix_U (@pe_cal _ _ _ _ _ _ _ _ _ _ C_core hr rfl (@pa_cons _ _ _ _ _ (pv 0) pa_nil (by rfl)) (by decide) (by rfl) (by rfl)) pe_int (fun _ _=>rfl))⟩) (by decide +kernel) (by first|rfl|decide +kernel) (by first|rfl|decide +kernel) rfl (fun _=>rfl))))),?_⟩
 walk_at "S"
 (iterate 5 ((try (walk_at "WP"));(try (simp only[w_compD,qJs,qJt,qJl,qJd,exists_eq_left',exists_eq_left]))));(try (walk_at "WP"))
 refine⟨o,_,ha,?_⟩;have hI:=fun H'=>it_D ha (H':=H');rw[ukv_keys]at hI;refine comp_new coV (by rw[qC];exact xR (by omega)) hI (fun x H' R hx hS' hR=>?_) (fun acc H' hacc sm hac=>?_)
 ·obtain⟨n,hn,rfl⟩:=qP.mp hx
  try walk_at "WP"
  refine⟨n,rfl,fun p hp=>?_⟩;have hpp:upd H' p (.tup [V.int (coreN n),V.int (shN n),V.int (sgN n)]) p=some (.tup [V.int (coreN n),V.int (shN n),V.int (sgN n)]):=upd_same;have sp:=zP hp (.tup [V.int (coreN n),V.int (shN n),V.int (sgN n)]);generalize upd H' p (.tup [V.int (coreN n),V.int (shN n),V.int (sgN n)])=H2 at hpp sp ⊢
  (iterate 5 ((try (walk_at "WP"));(try (simp only[hpp,qJs,qJt,qJl,qJd,exists_eq_left',exists_eq_left]))));(try (walk_at "WP"))
  exact hR _ sp
 rw[coV_map]at hac;exact q acc H' hacc sm hac
theorem ok_made (T:Txt K mg):Cal P w K mg base 3 "made" ["cores","top"] spMade:=by
 have B:=T.bl;have C_cores_of:=ok_coresD (P:=P) (w:=w) (base:=base) T;have C_doublings:=(ok_dbl (P:=P) (w:=w) (base:=base) T).mono (k:=2) (by decide);refine yK (T.t 3 _ rfl) sc_made (fun vs H Q E h=>?_) (fun f cdv A outer s H vs Q E hr h=>?_)
 ·obtain⟨_,_,_,rfl,_⟩:=h;rfl
 obtain⟨a,xs,top,rfl,ha,O,t1,t2,hl,q⟩:=h;have big:∀l∈xs,top<l*2^7:=fun l hl=>by
  have:=O.lo l hl;have e:(2:Int)^7=128:=by decide
  rw[e];omega
 refine⟨_,((@pss_cons _ _ _ _ _ (@ps_set _ _ (2) _ _ _ _ sc_made.nd rfl (by walk_at "o") pe_dnewK (by rfl) (by walk_at "o")) (@pss_cons _ _ _ _ _ (@yv _ _ _ _ _ _ _ _ PassesOwn.never rfl (@pi_list _ _ _ _ (pv 0)) (@zY _ _ (3) _ sc_made.nd rfl (by walk_at "o") (by walk_at "o")) (@pss_one _ _ _ (@yv _ _ _ _ _ _ _ _ PassesOwn.never rfl (@pi_list _ _ _ _ (@pe_cal _ _ _ _ _ _ _ _ _ _ C_doublings hr rfl (@pa_cons _ _ _ _ _ (pv 3) (@pa_cons _ _ _ _ _ (pv 1) pa_nil (by rfl)) (by rfl)) (by decide) (by rfl) (by rfl))) (@zY _ _ (4) _ sc_made.nd rfl (by walk_at "o") (by walk_at "o")) (@pss_one _ _ _ (@yv _ _ _ _ _ _ _ _ PassesOwn.never rfl (@pi_list _ _ _ _ (pv 0)) (@zY _ _ (5) _ sc_made.nd rfl (by walk_at "o") (by walk_at "o")) (@pss_cons _ _ _ _ _ (@ps_dpM _ _ _ _ _ _ _ _ _ (@jx _ _ hr) (pv 2) (@pe_op _ _ _ _ _ _ _ _ yc (pv 4) (pv 5)) pe_bl rfl) (@pss_one _ _ _ (@ps_dpM _ _ _ _ _ _ _ _ _ (@jx _ _ hr) (pv 2) (@pe_op _ _ _ _ _ _ _ _ jd (pv 4) (pv 5)) pe_bl rfl))) (by intro _ ;rfl))) (by intro _ ;rfl))) (by intro _ ;rfl)) (@pss_one _ _ _ (@ps_ret _ _ _ _ (@pe_callB _ _ _ _ _ _ _ _ _ (@call_sortW _ w rfl (by rfl)) rfl B.sorted bo_sorted (@pa_cons _ _ _ _ _ (@pe_callTy _ _ _ _ _ _ _ _ _ (@Jt _ w rfl (by rfl)) rfl B.set bo_set (@pa_cons _ _ _ _ _ (@pe_comp0 _ _ _ _ _ _ _ _ (["odd","top"]) (1) ([1]) _ _ _ rfl (@pi_list _ _ _ _ (@pe_cal _ _ _ _ _ _ _ _ _ _ C_cores_of hr rfl (@pa_cons _ _ _ _ _ (@pe_frz _ _ _ (pv 2)) pa_nil (by rfl)) (by decide) (by rfl) (by rfl))) (fun nd C s H fp=>⟨(@zY _ _ (0) _ nd rfl (by walk_at "o") (by walk_at "o")),(@JS _ _ _ (@pt_chain _ _ _ _ _ _ _ _ _ _ _ _ op_lt op_le pe_int (pv 0) (pv 1) (by with_unfolding_all rfl))),(pv 0)⟩) (by decide +kernel) (by first|rfl|decide +kernel) (by first|rfl|decide +kernel) rfl (fun _=>rfl)) pa_nil (by rfl)) (by decide) (by decide) (by rfl) (by rfl)) pa_nil (by rfl)) (by decide) (by decide) (by rfl) (by rfl))))))),?_⟩
 walk_at "S"
 try walk_at "WP"
 intro d nd;have smd:=zP nd (.dK []);have ad:a≠d:=zc ha nd;refine⟨⟨_,SqL.of (smd _ _ ha)⟩,?_⟩;refine forL (xs:=xs.map V.int) (fun i σ H1=>∃(o3 o4 o5:Option V),σ=[some (.ref a),some (.int top),some (.ref d),o3,o4,o5]/\Same H H1/\H1 d=some (.dK (ukv (ded (jP xs top i))))) ⟨_,_,_,rfl,smd,by rw[upd_same];rfl⟩ ?_ ?_ ?_
 ·rintro i σ H1 _ ⟨_,_,_,_,s1,_⟩;exact SqL.of (s1 _ _ ha)
 ·rintro i y σ H1 N hy ⟨o3,o4,o5,rfl,s1,hd1⟩ hN;obtain⟨l,hx,rfl⟩:=jJ hy;have lm:=qE hx;have l1:=O.lo l lm;have l2:=O.hi l lm
  try walk_at "WP"
  refine⟨l,top,rfl,l1,by omega,big l lm,fun r H2 nr s2 hr2=>?_⟩;have rd:r≠d:=fun e=>by rw[e,hd1]at nr;cases nr
  have hd2:=s2 _ _ hd1
  try walk_at "WP"
  refine⟨⟨_,SqL.of hr2⟩,?_⟩;have nr0:H r=none:=s1.free nr;refine forL (xs:=(dbl l top 7).map V.int) (fun j σ H3=>∃(o4 o5:Option V),σ=[some (.ref a),some (.int top),some (.ref d),some (.int l),o4,o5]/\Same H H3/\H3 r=some (.lst ((dbl l top 7).map V.int))/\H3 d=some (.dK (ukv (ded (jP xs top i++((dbl l top 7).take j).flatMap (pm xs)))))) ⟨_,_,rfl,s1.trans s2,hr2,by rw[hd2];simp⟩ ?_ ?_ ?_
  ·rintro j σ H3 _ ⟨_,_,_,s3,hr3,_⟩;exact SqL.of hr3
  ·rintro j y σ H3 N2 hy ⟨o4,o5,rfl,s3,hr3,hd3⟩ hN2;obtain⟨g,hg,rfl⟩:=jJ hy;have gm:=qE hg
   try walk_at "WP"
   refine⟨⟨_,SqL.of (s3 _ _ ha)⟩,?_⟩;refine forL (xs:=xs.map V.int) (fun k σ H4=>∃(o5:Option V),σ=[some (.ref a),some (.int top),some (.ref d),some (.int l),some (.int g),o5]/\Same H H4/\H4 r=some (.lst ((dbl l top 7).map V.int))/\H4 d=some (.dK (ukv (ded (jP xs top i++((dbl l top 7).take j).flatMap (pm xs)++pm (xs.take k) g))))) ⟨_,rfl,s3,hr3,by rw[hd3];simp[pm]⟩ ?_ ?_ ?_
   ·rintro k σ H4 _ ⟨_,_,s4,_⟩;exact SqL.of (s4 _ _ ha)
   ·rintro k y σ H4 N3 hy ⟨o5,rfl,s4,hr4,hd4⟩ hN3;obtain⟨x,hx2,rfl⟩:=jJ hy;have xm:=qE hx2;have bd:=sumsT_len O t2 hx hg (k:=k);have bd2:=zAH O t2 hx hg hx2
    try walk_at "WP"
    refine⟨_,hd4,by rw[ukv_len];exact jS (by omega),?_⟩;rw[ukv_put,<-jY];refine⟨by rw[ukv_len];exact jS (by omega),?_⟩;rw[ukv_put,<-jY];refine hN3 _ _ ⟨_,rfl,yP nd (yP nd s4),by rw[zg rd,zg rd];exact hr4,?_⟩;rw[upd_same,pm_snoc hx2];simp only[zN];rfl
   ·rintro σ H4 ⟨o5,rfl,s4,hr4,hd4⟩;rw[qC,zf]at hd4;refine hN2 _ _ ⟨_,_,rfl,s4,hr4,?_⟩;rw[hd4,yI,hg,List.flatMap_append,zN];simp
  ·rintro σ H3 ⟨o4,o5,rfl,s3,hr3,hd3⟩;rw[qC,zf]at hd3;refine hN _ _ ⟨_,_,_,rfl,s3,?_⟩;rw[hd3,zAG hx]
 ·rintro σ H1 ⟨o3,o4,o5,rfl,s1,hd1⟩;rw[qC,sumsT_all]at hd1
  (iterate 5 ((try (walk_at "WP"));(try (simp only[w_frz,qJs,qJt,qJl,qJd,exists_eq_left',exists_eq_left]))));(try (walk_at "WP"))
  refine⟨_,hd1,fun o=>⟨d,o,ded (sumsL xs top),rfl,upd_same,zR (jC O t2) (by decide),fun c H2 nc s2 hc2=>?_⟩⟩;have e2:=(yP nd s1).trans s2
  try walk_at "WP"
  refine⟨⟨_,SqL.of hc2⟩,?_⟩;refine JT (f:=inT top) (SqL.of hc2) (by simp only[qC];exact xR (zR (jC O t2) (by decide))) (fun y H' R hy hS' hR=>?_) (fun acc hacc=>?_)
  ·obtain⟨n,hn,rfl⟩:=qP.mp hy;rw[show yG [1] [some (V.ref a),some (V.int top),some (V.ref d),o3,o4,o5]=[some (V.int top)] from rfl]
   try walk_at "WP"
   rw[inT_int]at hR;refine yq (fun z=>?_) (fun z=>?_)
   ·refine yq (fun z2=>?_) (fun z2=>?_)
    ·rw[if_pos ⟨z,z2⟩]at hR;exact hR
    ·rw[if_neg (fun h=>z2 h.2)]at hR;exact hR
   ·rw[if_neg (fun h=>z h.1)]at hR;exact hR
  rw[inT_map];have s3:=zP hacc (.lst ((((ded (sumsL xs top)).map coreN).filter fun c=>decide (0<c/\c<=top)).map V.int));refine⟨acc,_,rfl,upd_same,?_,fun b nb=>?_⟩
  ·have h1:=yb (fun c=>decide (0<c/\c<=top)) ((ded (sumsL xs top)).map coreN);have h2:=jC O t2;rw[qC]at h1;omega
  have s4:=zP nb (SetE w b ((((ded (sumsL xs top)).map coreN).filter fun c=>decide (0<c/\c<=top)).foldl PyProof.Rows.step_dedup []))
  try walk_at "WP"
  refine⟨b,ded (((ded (sumsL xs top)).map coreN).filter fun c=>decide (0<c/\c<=top)),rfl,upd_same,fil_len O t2,fun l2 n2=>?_⟩;exact q l2 _ (((e2.trans s3).trans s4).free n2) (((e2.trans s3).trans s4).trans (zP n2 _)) upd_same
theorem ok_madeT (T:Txt K mg):Cal P w K mg base 3 "made" ["cores","top"] (spMadeT K):=by
 have B:=T.bl;have C_cores_of:=ok_coresD (P:=P) (w:=w) (base:=base) T;have C_doublings:=(ok_dbl (P:=P) (w:=w) (base:=base) T).mono (k:=2) (by decide);refine yK (T.t 3 _ rfl) sc_made (fun vs H Q E h=>?_) (fun f cdv A outer s H vs Q E hr h=>?_)
 ·obtain⟨_,_,_,rfl,_⟩:=h;rfl
 obtain⟨a,xs,top,rfl,ha,O,t1,t2,hl,q⟩:=h;have big:∀l∈xs,top<l*2^7:=fun l hl=>by
  have:=O.lo l hl;have e:(2:Int)^7=128:=by decide
  rw[e];omega
 refine⟨_,((@pss_cons _ _ _ _ _ (@ps_set _ _ (2) _ _ _ _ sc_made.nd rfl (by walk_at "o") pe_dnewK (by rfl) (by walk_at "o")) (@pss_cons _ _ _ _ _ (@yv _ _ _ _ _ _ _ _ PassesOwn.never rfl (@pi_tup _ _ _ _ (pv 0)) (@zY _ _ (3) _ sc_made.nd rfl (by walk_at "o") (by walk_at "o")) (@pss_one _ _ _ (@yv _ _ _ _ _ _ _ _ PassesOwn.never rfl (@pi_list _ _ _ _ (@pe_cal _ _ _ _ _ _ _ _ _ _ C_doublings hr rfl (@pa_cons _ _ _ _ _ (pv 3) (@pa_cons _ _ _ _ _ (pv 1) pa_nil (by rfl)) (by rfl)) (by decide) (by rfl) (by rfl))) (@zY _ _ (4) _ sc_made.nd rfl (by walk_at "o") (by walk_at "o")) (@pss_one _ _ _ (@yv _ _ _ _ _ _ _ _ PassesOwn.never rfl (@pi_tup _ _ _ _ (pv 0)) (@zY _ _ (5) _ sc_made.nd rfl (by walk_at "o") (by walk_at "o")) (@pss_cons _ _ _ _ _ (@ps_dpM _ _ _ _ _ _ _ _ _ (@jx _ _ hr) (pv 2) (@pe_op _ _ _ _ _ _ _ _ yc (pv 4) (pv 5)) pe_bl rfl) (@pss_one _ _ _ (@ps_dpM _ _ _ _ _ _ _ _ _ (@jx _ _ hr) (pv 2) (@pe_op _ _ _ _ _ _ _ _ jd (pv 4) (pv 5)) pe_bl rfl))) (by intro _ ;rfl))) (by intro _ ;rfl))) (by intro _ ;rfl)) (@pss_one _ _ _ (@ps_ret _ _ _ _ (@pe_callB _ _ _ _ _ _ _ _ _ (@call_sortW _ w rfl (by rfl)) rfl B.sorted bo_sorted (@pa_cons _ _ _ _ _ (@pe_callTy _ _ _ _ _ _ _ _ _ (@Jt _ w rfl (by rfl)) rfl B.set bo_set (@pa_cons _ _ _ _ _ (@pe_comp0 _ _ _ _ _ _ _ _ (["odd","top"]) (1) ([1]) _ _ _ rfl (@pi_list _ _ _ _ (@pe_cal _ _ _ _ _ _ _ _ _ _ C_cores_of hr rfl (@pa_cons _ _ _ _ _ (@pe_frz _ _ _ (pv 2)) pa_nil (by rfl)) (by decide) (by rfl) (by rfl))) (fun nd C s H fp=>⟨(@zY _ _ (0) _ nd rfl (by walk_at "o") (by walk_at "o")),(@JS _ _ _ (@pt_chain _ _ _ _ _ _ _ _ _ _ _ _ op_lt op_le pe_int (pv 0) (pv 1) (by with_unfolding_all rfl))),(pv 0)⟩) (by decide +kernel) (by first|rfl|decide +kernel) (by first|rfl|decide +kernel) rfl (fun _=>rfl)) pa_nil (by rfl)) (by decide) (by decide) (by rfl) (by rfl)) pa_nil (by rfl)) (by decide) (by decide) (by rfl) (by rfl))))))),?_⟩
 walk_at "S"
 try walk_at "WP"
 intro d nd;have smd:=zP nd (.dK []);refine⟨⟨_,smd.seqT ha⟩,?_⟩;refine forT (xs:=xs.map V.int) (fun i σ H1=>∃(o3 o4 o5:Option V),σ=[some (.ref a),some (.int top),some (.ref d),o3,o4,o5]/\Same H H1/\H1 d=some (.dK (ukv (ded (jP xs top i))))) ⟨_,_,_,rfl,smd,by rw[upd_same];rfl⟩ ?_ ?_ ?_
 ·rintro i σ H1 _ ⟨_,_,_,_,s1,_⟩;exact s1.seqT ha
 ·rintro i y σ H1 N hy ⟨o3,o4,o5,rfl,s1,hd1⟩ hN;obtain⟨l,hx,rfl⟩:=jJ hy;have lm:=qE hx;have l1:=O.lo l lm;have l2:=O.hi l lm
  try walk_at "WP"
  refine⟨l,top,rfl,l1,by omega,big l lm,fun r H2 nr s2 hr2=>?_⟩;have rd:r≠d:=fun e=>by rw[e,hd1]at nr;cases nr
  have hd2:=s2 _ _ hd1
  try walk_at "WP"
  refine⟨⟨_,SqL.of hr2⟩,?_⟩;have nr0:H r=none:=s1.free nr;refine forL (xs:=(dbl l top 7).map V.int) (fun j σ H3=>∃(o4 o5:Option V),σ=[some (.ref a),some (.int top),some (.ref d),some (.int l),o4,o5]/\Same H H3/\H3 r=some (.lst ((dbl l top 7).map V.int))/\H3 d=some (.dK (ukv (ded (jP xs top i++((dbl l top 7).take j).flatMap (pm xs)))))) ⟨_,_,rfl,s1.trans s2,hr2,by rw[hd2];simp⟩ ?_ ?_ ?_
  ·rintro j σ H3 _ ⟨_,_,_,s3,hr3,_⟩;exact SqL.of hr3
  ·rintro j y σ H3 N2 hy ⟨o4,o5,rfl,s3,hr3,hd3⟩ hN2;obtain⟨g,hg,rfl⟩:=jJ hy;have gm:=qE hg
   try walk_at "WP"
   refine⟨⟨_,s3.seqT ha⟩,?_⟩;refine forT (xs:=xs.map V.int) (fun k σ H4=>∃(o5:Option V),σ=[some (.ref a),some (.int top),some (.ref d),some (.int l),some (.int g),o5]/\Same H H4/\H4 r=some (.lst ((dbl l top 7).map V.int))/\H4 d=some (.dK (ukv (ded (jP xs top i++((dbl l top 7).take j).flatMap (pm xs)++pm (xs.take k) g))))) ⟨_,rfl,s3,hr3,by rw[hd3];simp[pm]⟩ ?_ ?_ ?_
   ·rintro k σ H4 _ ⟨_,_,s4,_⟩;exact s4.seqT ha
   ·rintro k y σ H4 N3 hy ⟨o5,rfl,s4,hr4,hd4⟩ hN3;obtain⟨x,hx2,rfl⟩:=jJ hy;have xm:=qE hx2;have bd:=sumsT_len O t2 hx hg (k:=k);have bd2:=zAH O t2 hx hg hx2
    try walk_at "WP"
    refine⟨_,hd4,by rw[ukv_len];exact jS (by omega),?_⟩;rw[ukv_put,<-jY];refine⟨by rw[ukv_len];exact jS (by omega),?_⟩;rw[ukv_put,<-jY];refine hN3 _ _ ⟨_,rfl,yP nd (yP nd s4),by rw[zg rd,zg rd];exact hr4,?_⟩;rw[upd_same,pm_snoc hx2];simp only[zN];rfl
   ·rintro σ H4 ⟨o5,rfl,s4,hr4,hd4⟩;rw[qC,zf]at hd4;refine hN2 _ _ ⟨_,_,rfl,s4,hr4,?_⟩;rw[hd4,yI,hg,List.flatMap_append,zN];simp
  ·rintro σ H3 ⟨o4,o5,rfl,s3,hr3,hd3⟩;rw[qC,zf]at hd3;refine hN _ _ ⟨_,_,_,rfl,s3,?_⟩;rw[hd3,zAG hx]
 ·rintro σ H1 ⟨o3,o4,o5,rfl,s1,hd1⟩;rw[qC,sumsT_all]at hd1
  (iterate 5 ((try (walk_at "WP"));(try (simp only[w_frz,qJs,qJt,qJl,qJd,exists_eq_left',exists_eq_left]))));(try (walk_at "WP"))
  refine⟨_,hd1,fun o=>⟨d,o,ded (sumsL xs top),rfl,upd_same,zR (jC O t2) (by decide),fun c H2 nc s2 hc2=>?_⟩⟩;have e2:=(yP nd s1).trans s2
  try walk_at "WP"
  refine⟨⟨_,SqL.of hc2⟩,?_⟩;refine JT (f:=inT top) (SqL.of hc2) (by simp only[qC];exact xR (zR (jC O t2) (by decide))) (fun y H' R hy hS' hR=>?_) (fun acc hacc=>?_)
  ·obtain⟨n,hn,rfl⟩:=qP.mp hy;rw[show yG [1] [some (V.ref a),some (V.int top),some (V.ref d),o3,o4,o5]=[some (V.int top)] from rfl]
   try walk_at "WP"
   rw[inT_int]at hR;refine yq (fun z=>?_) (fun z=>?_)
   ·refine yq (fun z2=>?_) (fun z2=>?_)
    ·rw[if_pos ⟨z,z2⟩]at hR;exact hR
    ·rw[if_neg (fun h=>z2 h.2)]at hR;exact hR
   ·rw[if_neg (fun h=>z h.1)]at hR;exact hR
  rw[inT_map];have s3:=zP hacc (.lst ((((ded (sumsL xs top)).map coreN).filter fun c=>decide (0<c/\c<=top)).map V.int));refine⟨acc,_,rfl,upd_same,?_,fun b nb=>?_⟩
  ·have h1:=yb (fun c=>decide (0<c/\c<=top)) ((ded (sumsL xs top)).map coreN);have h2:=jC O t2;rw[qC]at h1;omega
  have s4:=zP nb (SetE w b ((((ded (sumsL xs top)).map coreN).filter fun c=>decide (0<c/\c<=top)).foldl PyProof.Rows.step_dedup []))
  try walk_at "WP"
  refine⟨b,ded (((ded (sumsL xs top)).map coreN).filter fun c=>decide (0<c/\c<=top)),rfl,upd_same,fil_len O t2,fun l2 n2=>?_⟩;exact q l2 _ (((e2.trans s3).trans s4).free n2) (((e2.trans s3).trans s4).trans (zP n2 _)) upd_same
theorem ok_coresL (T:Txt K mg):Cal P w K mg base 2 "cores_of" ["numbers"] spCores:=by
 have B:=T.bl;have C_core:=Jl (P:=P) (w:=w) (base:=base) T;refine yK (T.t 5 _ rfl) J6 (fun vs H Q E h=>?_) (fun f cdv A outer s H vs Q E hr h=>?_)
 ·obtain⟨a,xs,rfl,_⟩:=h;rfl
 obtain⟨a,xs,rfl,ha,hl,q⟩:=h;refine⟨_,((@pss_one _ _ _ (@ps_ret _ _ _ _ (@pe_comp0 _ _ _ _ _ _ _ _ (["number"]) (1) ([]) _ _ _ rfl (@pi_list _ _ _ _ (pv 0)) (fun nd C s H fp=>⟨(@zY _ _ (0) _ nd rfl (by walk_at "o") (by walk_at "o")),xB,(@pe_ix _ _ _ _ _ _ _ ix_U (@pe_cal _ _ _ _ _ _ _ _ _ _ C_core hr rfl (@pa_cons _ _ _ _ _ (pv 0) pa_nil (by rfl)) (by decide) (by rfl) (by rfl)) pe_int (fun _ _=>rfl))⟩) (by decide +kernel) (by first|rfl|decide +kernel) (by first|rfl|decide +kernel) rfl (fun _=>rfl))))),?_⟩
 walk_at "S"
 try walk_at "WP"
 refine⟨⟨_,SqL.of ha⟩,?_⟩;refine comp_newL (SqL.of ha) (by rw[qC];exact xR (by omega)) coV (fun x H' R hx hS' hR=>?_) (fun acc H' hacc sm hac=>?_)
 ·obtain⟨n,hn,rfl⟩:=qP.mp hx
  try walk_at "WP"
  refine⟨n,rfl,fun p hp=>?_⟩;have hpp:upd H' p (.tup [V.int (coreN n),V.int (shN n),V.int (sgN n)]) p=some (.tup [V.int (coreN n),V.int (shN n),V.int (sgN n)]):=upd_same;have sp:=zP hp (.tup [V.int (coreN n),V.int (shN n),V.int (sgN n)]);generalize upd H' p (.tup [V.int (coreN n),V.int (shN n),V.int (sgN n)])=H2 at hpp sp ⊢
  (iterate 5 ((try (walk_at "WP"));(try (simp only[hpp,qJs,qJt,qJl,qJd,exists_eq_left',exists_eq_left]))));(try (walk_at "WP"))
  exact hR _ sp
 rw[coV_map]at hac;exact q acc H' hacc sm hac
theorem ok_wanted (T:Txt K mg):Cal P w K mg base 3 "wanted" ["numbers"] spWanted:=by
 have B:=T.bl;have C_cores_of:=ok_coresL (P:=P) (w:=w) (base:=base) T;refine yK (T.t 6 _ rfl) sc_wanted (fun vs H Q E h=>?_) (fun f cdv A outer s H vs Q E hr h=>?_)
 ·obtain⟨a,xs,rfl,_⟩:=h;rfl
 obtain⟨a,xs,rfl,ha,hl,q⟩:=h;refine⟨_,((@pss_one _ _ _ (@ps_ret _ _ _ _ (@pe_callB _ _ _ _ _ _ _ _ _ (@call_sortW _ w rfl (by rfl)) rfl B.sorted bo_sorted (@pa_cons _ _ _ _ _ (@pe_callTy _ _ _ _ _ _ _ _ _ (@Jt _ w rfl (by rfl)) rfl B.set bo_set (@pa_cons _ _ _ _ _ (@pe_comp0 _ _ _ _ _ _ _ _ (["odd"]) (1) ([]) _ _ _ rfl (@pi_list _ _ _ _ (@pe_cal _ _ _ _ _ _ _ _ _ _ C_cores_of hr rfl (@pa_cons _ _ _ _ _ (pv 0) pa_nil (by rfl)) (by decide) (by rfl) (by rfl))) (fun nd C s H fp=>⟨(@zY _ _ (0) _ nd rfl (by walk_at "o") (by walk_at "o")),(@JS _ _ _ (@pt_cmpR _ _ _ _ _ _ _ _ op_gt (pv 0) pe_int (@zh _ _ (by decide) (by decide)))),(pv 0)⟩) (by decide +kernel) (by first|rfl|decide +kernel) (by first|rfl|decide +kernel) rfl (fun _=>rfl)) pa_nil (by rfl)) (by decide) (by decide) (by rfl) (by rfl)) pa_nil (by rfl)) (by decide) (by decide) (by rfl) (by rfl))))),?_⟩
 walk_at "S"
 try walk_at "WP"
 refine⟨a,xs,rfl,ha,by omega,fun l H1 n1 s1 h1=>?_⟩
 try walk_at "WP"
 refine⟨⟨_,SqL.of h1⟩,?_⟩;refine JT (f:=gtV) (SqL.of h1) (by simp only[qC];exact xR (by omega)) (fun y H' R hy hS' hR=>?_) (fun acc hacc=>?_)
 ·obtain⟨n,hn,rfl⟩:=qP.mp hy
  try walk_at "WP"
  have e:gtV (.int n)=if 1<n then some (.int n) else none:=rfl
  rw[e]at hR;refine yq (fun z=>?_) (fun z=>?_)
  ·rw[if_pos z]at hR;exact hR
  ·rw[if_neg z]at hR;exact hR
 rw[gtV_map];show rSetZ w [V.ref acc] (upd H1 acc (.lst ((wantC xs).map V.int))) _
 have s2:=zP hacc (.lst ((wantC xs).map V.int));have wl:(wantC xs).length<=xs.length:=by
  have:=yb (fun c=>decide (1<c)) (xs.map coreN);rw[qC]at this;exact this
 refine⟨acc,wantC xs,rfl,upd_same,by omega,fun b nb=>?_⟩;have s3:=zP nb (SetE w b ((wantC xs).foldl PyProof.Rows.step_dedup []));have dl:=ded_len (wantC xs)
 try walk_at "WP"
 refine⟨b,ded (wantC xs),rfl,upd_same,by omega,fun l2 n2=>?_⟩;have s4:=zP n2 (.lst ((sortI (ded (wantC xs))).map V.int));exact q l2 _ (((s1.trans s2).trans s3).free n2) (((s1.trans s2).trans s3).trans s4) upd_same
theorem ok_grown (T:Txt K mg):Cal P w K mg base 4 "grown" ["cores","top"] spGrown:=by
 have B:=T.bl;have C_made:=ok_madeT (P:=P) (w:=w) (base:=base) T;refine yK (T.t 9 _ rfl) sc_grown (fun vs H Q E h=>?_) (fun f cdv A outer s H vs Q E hr h=>?_)
 ·obtain⟨_,_,_,rfl,_⟩:=h;rfl
 obtain⟨c,cs,top,rfl,hc,O,t1,t2,hl,q⟩:=h;refine⟨_,((@pss_cons _ _ _ _ _ (@jN _ _ _ _ (2) _ _ _ _ _ _ _ (["odd","cores"]) (1) ([0]) _ _ _ rfl (@pi_list _ _ _ _ (@pe_cal _ _ _ _ _ _ _ _ _ _ C_made hr rfl (@pa_cons _ _ _ _ _ (pv 0) (@pa_cons _ _ _ _ _ (pv 1) pa_nil (by rfl)) (by rfl)) (by decide) (by rfl) (by rfl))) (fun nd C s H fp=>⟨(@zY _ _ (0) _ nd rfl (by walk_at "o") (by walk_at "o")),(@JS _ _ _ (@pt_cmpR _ _ _ _ _ _ _ _ (@Jr _ K (by rfl)) (pv 0) (pv 1) (by with_unfolding_all rfl))),(pv 0)⟩) (by decide +kernel) (by first|rfl|decide +kernel) (by first|rfl|decide +kernel) rfl (fun _=>rfl) sc_grown.nd rfl (by walk_at "o") (by walk_at "o") rfl) (@pss_one _ _ _ (@ps_ret _ _ _ _ (@Jb _ _ _ _ _ _ _ _ (@pt_cmpR _ _ _ _ _ _ _ _ (@op_neD _ _ hr) (pv 2) (@pe_lst _ _ _ _ pa_nil) (@zh _ _ (by decide) (by decide))) (@pe_comp0 _ _ _ _ _ _ _ _ (["odd","cores"]) (1) ([0]) _ _ _ rfl (@pi_list _ _ _ _ (pv 2)) (fun nd C s H fp=>⟨(@zY _ _ (0) _ nd rfl (by walk_at "o") (by walk_at "o")),xB,(@pe_callTy _ _ _ _ _ _ _ _ _ (@call_tupleK _ K (by rfl)) rfl B.tuple j0 (@pa_cons _ _ _ _ _ (@pe_callB _ _ _ _ _ _ _ _ _ (@call_sortT _ K (by rfl)) rfl B.sorted bo_sorted (@pa_cons _ _ _ _ _ (@pe_op _ _ _ _ _ _ _ _ (@op_catCK _ K (by rfl)) (pv 1) (@pe_tup _ _ _ _ _ (@pa_cons _ _ _ _ _ (pv 0) pa_nil (by rfl)))) pa_nil (by rfl)) (by decide) (by decide) (by rfl) (by rfl)) pa_nil (by rfl)) (by decide) (by decide) (by rfl) (by rfl))⟩) (by decide +kernel) (by first|rfl|decide +kernel) (by first|rfl|decide +kernel) rfl (fun _=>rfl)) (@pe_lst _ _ _ _ (@pa_cons _ _ _ _ _ (pv 0) pa_nil (by rfl)))))))),?_⟩
 walk_at "S"
 try walk_at "WP"
 refine⟨c,cs,top,rfl,SqT.of hc,O,t1,t2,by omega,fun m H1 nm s1 hm=>?_⟩
 try walk_at "WP"
 refine⟨⟨_,SqL.of hm⟩,?_⟩;have ecap:∀o,yG [0] [some (V.ref c),some (V.int top),o]=[some (V.ref c)]:=fun _=>rfl;refine JT (f:=notV cs) (SqL.of hm) (by rw[qC];exact xR (by have:=made_len (xs:=cs) t2;omega)) (fun x H' R hx hS' hR=>?_) (fun a na=>?_)
 ·obtain⟨o,ho,rfl⟩:=qP.mp hx;rw[ecap]
  try walk_at "WP"
  have hin:=inV_i cs o;refine⟨c,_,rfl,.inr (SqT.of ((s1.trans hS') _ _ hc)),rfl,y3 cs,?_⟩;rw[if_pos rfl,hin];by_cases z:o∈cs
  ·rw[show notV cs (V.int o)=none from if_pos z]at hR;rw[decide_eq_true z];exact⟨_,rfl,hR⟩
  ·rw[show notV cs (V.int o)=some (V.int o) from if_neg z]at hR;rw[decide_eq_false z];exact⟨_,rfl,hR⟩
 rw[Jh,show((madeL cs top).filter fun o=>decide (o∉cs))=moreL cs top from rfl];refine ye na fun H2 s2 h2=>?_;intro e ne;refine ye ne fun H3 s3 h3=>?_;have h23:=s3 _ _ h2;have s13:=(s1.trans s2).trans s3;have ml:=more_len (cs:=cs) t2;refine neLI (ms:=[]) (SqL.of h23) (SqL.of h3) ?_
 try walk_at "WP"
 refine yq (fun z=>?_) (fun z=>?_)
 ·have zz:moreL cs top≠[]:=by simpa using z
  refine⟨⟨_,SqL.of h23⟩,?_⟩;refine comp_tupI (fun o=>sortI (cs++[o])) h23 (by omega) (fun x H' R hx s' hR=>?_) (fun acc ws H' na' s' ha' ht'=>?_)
  ·rw[ecap]
   try walk_at "WP"
   intro p np;refine ye np fun H5 s5 h5=>?_;refine⟨c,p,_,[.int x],rfl,rfl,SqT.of (((s13.trans s').trans s5) _ _ hc),SqT.of h5,xR (by rw[qC];show _+1<=_;omega),fun r H6 s6 hr6=>?_⟩;rw[show cs.map V.int++[V.int x]=(cs++[x]).map V.int by rw[zo];rfl]at hr6;refine⟨r,cs++[x],rfl,hr6,by rw[qF];show _+1<_;omega,fun l nl=>?_⟩;refine ye nl fun H7 s7 h7=>?_;refine⟨l,rfl,_,.inl ⟨SqL.of h7,fun l2 nl2=>?_⟩⟩;have s8:=zP nl2 (.tup ((sortI (cs++[x])).map V.int));exact hR l2 _ (((s5.trans s6).trans s7).trans s8) (((s5.trans s6).trans s7).free nl2) upd_same
  ·refine q acc ws H' (s13.free na') (s13.trans s') ha' ?_;unfold growL;rw[if_neg zz];exact ht'
 ·have zz:moreL cs top=[]:=by simpa using z
  intro r nr;have s4:=zP nr (.lst [V.ref c]);refine q r [.ref c] _ (s13.free nr) (s13.trans s4) upd_same ?_;unfold growL;rw[if_pos zz];exact hts_nil.snoc (s4 _ _ (s13 _ _ hc))
theorem ok_way (T:Txt K mg):Cal P w K mg base 2 "way_to" ["odd","parts","top"] spWay:=by
 have B:=T.bl;have C_core:=Jl (P:=P) (w:=w) (base:=base) T;have C_doublings:=ok_dbl (P:=P) (w:=w) (base:=base) T;refine yK (T.t 26 _ rfl) sc_way_to (fun vs H Q E h=>?_) (fun f cdv A outer s H vs Q E hr h=>?_)
 ·obtain⟨_,_,_,_,_,rfl,_⟩:=h;rfl
 obtain⟨odd,top,d,kvs,ks,rfl,hd,hk,O,t1,t2,o1,o2,qN,qY⟩:=h;refine⟨_,((@pss_cons _ _ _ _ _ (@yv _ _ _ _ _ _ _ _ PassesOwn.never rfl (@pi_dict _ _ _ _ (@pe_frz _ _ _ (pv 1))) (@zY _ _ (3) _ sc_way_to.nd rfl (by walk_at "o") (by walk_at "o")) (@pss_one _ _ _ (@yv _ _ _ _ _ _ _ _ PassesOwn.never rfl (@pi_dict _ _ _ _ (pv 1)) (@zY _ _ (4) _ sc_way_to.nd rfl (by walk_at "o") (by walk_at "o")) (@pss_one _ _ _ (@yv _ _ _ _ _ _ _ _ PassesOwn.never rfl (@pi_enum _ _ _ _ _ _ _ _ rfl B.enumerate (@pa_cons _ _ _ _ _ (@pe_cal _ _ _ _ _ _ _ _ _ _ C_doublings hr rfl (@pa_cons _ _ _ _ _ (pv 3) (@pa_cons _ _ _ _ _ (pv 2) pa_nil (by rfl)) (by rfl)) (by decide) (by rfl) (by rfl)) pa_nil (by rfl)) (by rfl)) (@pg_tupM _ _ _ _ _ 2 rfl (@xu _ _ _ _ _ (@zY _ _ (5) _ sc_way_to.nd rfl (by walk_at "o") (by walk_at "o")) (@xu _ _ _ _ _ (@zY _ _ (6) _ sc_way_to.nd rfl (by walk_at "o") (by walk_at "o")) pgs_nil (by rfl)) (by rfl)) (by rfl) (by rfl)) (@pss_cons _ _ _ _ _ (@ps_if _ _ _ _ _ _ _ _ (@pt_cmpR _ _ _ _ _ _ _ _ op_eq (@pe_ix _ _ _ _ _ _ _ ix_U (@pe_cal _ _ _ _ _ _ _ _ _ _ C_core hr rfl (@pa_cons _ _ _ _ _ (@pe_op _ _ _ _ _ _ _ _ yc (pv 6) (pv 4)) pa_nil (by rfl)) (by decide) (by rfl) (by rfl)) pe_int (fun _ _=>rfl)) (pv 0) (@zh _ _ (by decide) (by decide))) (@pss_one _ _ _ (@ps_ret _ _ _ _ (@pe_thw _ _ _ _ _ hd (@pe_tup _ _ _ _ _ (@pa_cons _ _ _ _ _ (pv 3) (@pa_cons _ _ _ _ _ (pv 5) (@pa_cons _ _ _ _ _ (pv 4) (@pa_cons _ _ _ _ _ pe_int pa_nil (by rfl)) (by rfl)) (by rfl)) (by rfl)))))) pss_nil) (@pss_one _ _ _ (@ps_if _ _ _ _ _ _ _ _ (@pt_cmpR _ _ _ _ _ _ _ _ op_eq (@pe_ix _ _ _ _ _ _ _ ix_U (@pe_cal _ _ _ _ _ _ _ _ _ _ C_core hr rfl (@pa_cons _ _ _ _ _ (@pe_op _ _ _ _ _ _ _ _ jd (pv 6) (pv 4)) pa_nil (by rfl)) (by decide) (by rfl) (by rfl)) pe_int (fun _ _=>rfl)) (pv 0) (@zh _ _ (by decide) (by decide))) (@pss_one _ _ _ (@ps_ret _ _ _ _ (@pe_thw _ _ _ _ _ hd (@pe_tup _ _ _ _ _ (@pa_cons _ _ _ _ _ (pv 3) (@pa_cons _ _ _ _ _ (pv 5) (@pa_cons _ _ _ _ _ (pv 4) (@pa_cons _ _ _ _ _ (@pe_un _ _ _ _ _ _ ju pe_int) pa_nil (by rfl)) (by rfl)) (by rfl)) (by rfl)))))) pss_nil))) (by intro _ ;rfl))) (by intro _ ;rfl))) (by intro _ ;rfl)) (@pss_one _ _ _ (@ps_ret _ _ _ _ (@pe_thw _ _ _ _ _ hd pe_non))))),?_⟩
 walk_at "S"
 refine zi fun R_ hR_=>?_
 try walk_at "WP"
 rw[w_forKs,w_frz]
 try walk_at "WP"
 refine⟨kvs,hd,fun o=>⟨o,kvs,rfl,?_⟩⟩;have C1:Chg d H (upd H d (.frz o (.dK kvs))):=Chg.upd _;have hd1:upd H d (.frz o (.dK kvs)) d=some (.frz o (.dK kvs)):=upd_same;generalize upd H d (.frz o (.dK kvs))=H1 at C1 hd1 ⊢;have back:∀H',Same H1 H'->Same H (upd H' d (.dK kvs)):=fun H' s b u e=>by
  by_cases z:b=d
  ·rw[z,upd_same];rw[z,hd]at e;exact e
  ·rw[zg z];exact s _ _ (C1 _ _ z e)
 refine forKs hk (fun i σ H'=>∃o3 o4 o5 o6,σ=[some (.int odd),some (.ref d),some (.int top),o3,o4,o5,o6]/\Same H1 H'/\∀l∈ks.take i,∀r∈ks,∀h∈dbl l top 7,coreN (h+r)≠odd/\coreN (h-r)≠odd) ⟨none,none,none,none,rfl,Same.refl _,fun l h=>(nomatch h)⟩ ?_ ?_ ?_
 ·rintro i σ H' _ ⟨_,_,_,_,rfl,s',_⟩;exact s' _ _ hd1
 ·rintro i x σ H2 N hx ⟨o3,o4,o5,o6,rfl,s2,hno⟩ hN;obtain⟨l,hl,rfl⟩:=jJ hx;have lm:=qE hl;have l1:=O.lo l lm;have l2:=O.hi l lm
  try walk_at "WP"
  rw[w_forKs]
  try walk_at "WP"
  refine⟨o,kvs,s2 _ _ hd1,?_⟩;refine forKs hk (fun j σ H'=>∃o4 o5 o6,σ=[some (.int odd),some (.ref d),some (.int top),some (.int l),o4,o5,o6]/\Same H1 H'/\∀r∈ks.take j,∀h∈dbl l top 7,coreN (h+r)≠odd/\coreN (h-r)≠odd) ⟨o4,o5,o6,rfl,s2,fun r h=>(nomatch h)⟩ ?_ ?_ ?_
  ·rintro j σ H' _ ⟨_,_,_,rfl,s',_⟩;exact s' _ _ hd1
  ·rintro j x σ H3 N3 hx2 ⟨o4,o5,o6,rfl,s3,hno3⟩ hN3;obtain⟨r,hr,rfl⟩:=jJ hx2;have rm:=qE hr;have big:top<l*2^7:=by
    have e:(2:Int)^7=128:=by decide
    rw[e];omega
   try walk_at "WP"
   refine⟨l,top,rfl,l1,by omega,big,fun dl H4 n4 s4 h4=>?_⟩
   try walk_at "WP"
   refine⟨_,SqL.of h4,?_⟩;refine forE (xs:=(dbl l top 7).map V.int) (fun c σ H'=>∃o5 o6,σ=[some (.int odd),some (.ref d),some (.int top),some (.int l),some (.int r),o5,o6]/\Same H4 H'/\∀h∈(dbl l top 7).take c,coreN (h+r)≠odd/\coreN (h-r)≠odd) ⟨o5,o6,rfl,Same.refl _,fun h hh=>(nomatch hh)⟩ ?_ ?_ ?_
   ·rintro c σ H' _ ⟨_,_,rfl,s',_⟩;exact SqL.of (s' _ _ h4)
   ·rintro c x t0 σ H5 N5 hx3 nt0 ⟨o5,o6,rfl,s5,hno5⟩ hN5;obtain⟨h,hh,rfl⟩:=jJ hx3;obtain⟨eh,c7⟩:=dbl_at hh;refine ye nt0 fun H6 s6 h6=>?_;refine seq_inG fun R_ hR_=>?_
    (iterate 5 ((try (walk_at "WP"));(try (simp only[h6,qJs,qJt,qJl,qJd,exists_eq_left',exists_eq_left]))));(try (walk_at "WP"))
    refine⟨h+r,rfl,fun p1 np1=>?_⟩;refine ye np1 fun H7 s7 h7=>?_;have s17:=((s3.trans s4).trans s5).trans (s6.trans s7)
    (iterate 5 ((try (walk_at "WP"));(try (simp only[h7,qJs,qJt,qJl,qJd,exists_eq_left',exists_eq_left]))));(try (walk_at "WP"))
    refine yq (fun z=>?_) (fun z=>?_)
    ·rw[w_thw]
     try walk_at "WP"
     intro t nt;refine ye nt fun H8 s8 h8=>?_;refine⟨o,kvs,(s17.trans s8) _ _ hd1,?_⟩;refine qY t l r 1 c _ (back _ (s17.trans s8)) ?_ lm rm (by omega) (.inl rfl) ?_
     ·rw[zg (xt h8 ((s17.trans s8) _ _ hd1) (by intro y;cases y))];exact h8
     ·rw[y9,<-eh];exact z
    (try (walk_at "WP"));(try (refine ze hR_ ?_));(try (refine zi fun R_ hR_=>?_));(iterate 5 ((try (walk_at "WP"));(try (simp only[h6,qJs,qJt,qJl,qJd,exists_eq_left',exists_eq_left]))));(try (walk_at "WP"))
    refine⟨h-r,rfl,fun p2 np2=>?_⟩;refine ye np2 fun H8 s8 h8=>?_;have s18:=s17.trans s8
    (iterate 5 ((try (walk_at "WP"));(try (simp only[h8,qJs,qJt,qJl,qJd,exists_eq_left',exists_eq_left]))));(try (walk_at "WP"))
    refine yq (fun z2=>?_) (fun z2=>?_)
    ·rw[w_thw]
     try walk_at "WP"
     intro t nt;refine ye nt fun H9 s9 h9=>?_;refine⟨o,kvs,(s18.trans s9) _ _ hd1,?_⟩;refine qY t l r (-1) c _ (back _ (s18.trans s9)) ?_ lm rm (by omega) (.inr rfl) ?_
     ·rw[zg (xt h9 ((s18.trans s9) _ _ hd1) (by intro y;cases y))];exact h9
     ·rw[show l*2^c + -1*r=h-r by rw[eh];omega];exact z2
    ·refine hN5 _ _ ⟨_,_,rfl,s5.trans ((s6.trans s7).trans s8),fun h' hh'=>?_⟩;rw[xL,hh,yg]at hh';rcases zE.mp hh' with y|y
     ·exact hno5 h' y
     ·rw[zB.mp y];exact⟨z,z2⟩
   ·rintro σ H5 ⟨o5,o6,rfl,s5,hno5⟩;rw[qC,zf]at hno5;refine hN3 _ _ ⟨_,_,_,rfl,(s3.trans s4).trans s5,fun r' hr'=>?_⟩;rw[xL,hr,yg]at hr';rcases zE.mp hr' with y|y
    ·exact hno3 r' y
    ·rw[zB.mp y];exact hno5
  ·rintro σ H3 ⟨o4,o5,o6,rfl,s3,hno3⟩;rw[qC,zf]at hno3;refine hN _ _ ⟨_,_,_,_,rfl,s3,fun l' hl'=>?_⟩;rw[xL,hl,yg]at hl';rcases zE.mp hl' with z|z
   ·exact hno l' z
   ·rw[zB.mp z];exact hno3
 ·rintro σ H2 ⟨o3,o4,o5,o6,rfl,s2,hno⟩;rw[qC,zf]at hno;(try (walk_at "WP"));(try (refine ze hR_ ?_));(try (refine zi fun R_ hR_=>?_));(try (walk_at "WP"))
  rw[w_thw];exact⟨o,kvs,s2 _ _ hd1,qN _ (back _ s2) (not_made o1 o2 hno)⟩
theorem ok_movE (T:Txt K mg):Cal P w K mg base 1 "moved" ["part","shift","sign"] (spMovE K):=by
 have B:=T.bl;obtain⟨cst_NO_OUT,mg_NO_OUT,hcst⟩:=T.c_NO_OUT;refine yK (T.t 18 _ rfl) sc_moved (fun vs H Q E h=>?_) (fun f cdv A outer s H vs Q E hr h=>?_)
 ·obtain⟨_,_,_,_,rfl,_⟩:=h;rfl
 obtain⟨p,G,sh,g,rfl,hp,hg,q⟩:=h;unfold gTp at hp;refine⟨_,((@pss_cons _ _ _ _ _ (@ps_if _ _ _ _ _ _ _ _ (@pt_cmpR _ _ _ _ _ _ _ _ op_eq (@pe_op _ _ _ _ _ _ _ _ xO (@pe_ix _ _ _ _ _ _ _ ix_tup (pv 0) pe_int (fun _ _=>rfl)) (pv 2)) pe_int (@zh _ _ (by decide) (by decide))) (@pss_one _ _ _ (@ps_ret _ _ _ _ (@JD _ _ (.ref cst_NO_OUT) _ _ rfl mg_NO_OUT rfl (by decide)))) pss_nil) (@pss_one _ _ _ (@ps_ret _ _ _ _ (@pe_tup _ _ _ _ _ (@pa_cons _ _ _ _ _ (@pe_ix _ _ _ _ _ _ _ ix_tup (pv 0) pe_int (fun _ _=>rfl)) (@pa_cons _ _ _ _ _ (@pe_op _ _ _ _ _ _ _ _ yc (@pe_ix _ _ _ _ _ _ _ ix_tup (pv 0) pe_int (fun _ _=>rfl)) (pv 1)) (@pa_cons _ _ _ _ _ (@pe_op _ _ _ _ _ _ _ _ xO (@pe_ix _ _ _ _ _ _ _ ix_tup (pv 0) pe_int (fun _ _=>rfl)) (pv 2)) pa_nil (by rfl)) (by rfl)) (by rfl))))))),?_⟩
 walk_at "S"
 try walk_at "WP"
 refine⟨_,hp,_,rfl,?_⟩
 try walk_at "WP"
 have ml:IntMulOk G.sg g:=by rcases hg with z|z|z<;>rw[z]<;>exact mul_r (by decide) (by decide)
 refine⟨ml,?_⟩;refine yq (fun z=>?_) (fun z=>?_)
 ·refine q _ _ (Same.refl _) ?_;unfold movG;rw[if_pos z];exact hcst.sq H
 ·refine⟨_,hp,_,rfl,_,hp,_,rfl,?_⟩
  try walk_at "WP"
  refine⟨_,hp,_,rfl,?_⟩
  try walk_at "WP"
  refine⟨ml,fun r hr0=>?_⟩;refine q _ _ (zP hr0 _) ?_;unfold movG;rw[if_neg z];exact SqT.of upd_same
theorem ok_deedE (T:Txt K mg):Cal P w K mg base 1 "deed_of" ["one","other"] (spDeedE K):=by
 have B:=T.bl;refine yK (T.t 19 _ rfl) sc_deed_of (fun vs H Q E h=>?_) (fun f cdv A outer s H vs Q E hr h=>?_)
 ·obtain⟨_,_,_,_,rfl,_⟩:=h;rfl
 obtain⟨p1,p2,G,R,rfl,h1,h2,q⟩:=h;unfold gTp at h1 h2;refine⟨_,((@pss_cons _ _ _ _ _ (@ps_if _ _ _ _ _ _ _ _ (@pt_cmpR _ _ _ _ _ _ _ _ op_eq (@pe_ix _ _ _ _ _ _ _ ix_tup (pv 0) pe_int (fun _ _=>rfl)) (@pe_ix _ _ _ _ _ _ _ ix_tup (pv 1) pe_int (fun _ _=>rfl)) (@zh _ _ (by decide) (by decide))) (@pss_one _ _ _ (@ps_ret _ _ _ _ (@pe_tup _ _ _ _ _ (@pa_cons _ _ _ _ _ xf (@pa_cons _ _ _ _ _ (@pe_ix _ _ _ _ _ _ _ ix_tup (pv 0) pe_int (fun _ _=>rfl)) (@pa_cons _ _ _ _ _ (@pe_ix _ _ _ _ _ _ _ ix_tup (pv 0) pe_int (fun _ _=>rfl)) (@pa_cons _ _ _ _ _ (@pe_ix _ _ _ _ _ _ _ ix_tup (pv 1) pe_int (fun _ _=>rfl)) (@pa_cons _ _ _ _ _ (@pe_ix _ _ _ _ _ _ _ ix_tup (pv 1) pe_int (fun _ _=>rfl)) pa_nil (by rfl)) (by rfl)) (by rfl)) (by rfl)) (by rfl))))) pss_nil) (@pss_cons _ _ _ _ _ (@ps_if _ _ _ _ _ _ _ _ (@pt_cmpR _ _ _ _ _ _ _ _ op_eq (@pe_ix _ _ _ _ _ _ _ ix_tup (pv 0) pe_int (fun _ _=>rfl)) pe_int (@zh _ _ (by decide) (by decide))) (@pss_one _ _ _ (@ps_ret _ _ _ _ (@pe_tup _ _ _ _ _ (@pa_cons _ _ _ _ _ xf (@pa_cons _ _ _ _ _ (@pe_ix _ _ _ _ _ _ _ ix_tup (pv 0) pe_int (fun _ _=>rfl)) (@pa_cons _ _ _ _ _ (@pe_ix _ _ _ _ _ _ _ ix_tup (pv 0) pe_int (fun _ _=>rfl)) (@pa_cons _ _ _ _ _ (@pe_ix _ _ _ _ _ _ _ ix_tup (pv 1) pe_int (fun _ _=>rfl)) (@pa_cons _ _ _ _ _ (@pe_ix _ _ _ _ _ _ _ ix_tup (pv 1) pe_int (fun _ _=>rfl)) pa_nil (by rfl)) (by rfl)) (by rfl)) (by rfl)) (by rfl))))) pss_nil) (@pss_one _ _ _ (@ps_ret _ _ _ _ (@pe_tup _ _ _ _ _ (@pa_cons _ _ _ _ _ xf (@pa_cons _ _ _ _ _ (@pe_ix _ _ _ _ _ _ _ ix_tup (pv 1) pe_int (fun _ _=>rfl)) (@pa_cons _ _ _ _ _ (@pe_ix _ _ _ _ _ _ _ ix_tup (pv 1) pe_int (fun _ _=>rfl)) (@pa_cons _ _ _ _ _ (@pe_ix _ _ _ _ _ _ _ ix_tup (pv 0) pe_int (fun _ _=>rfl)) (@pa_cons _ _ _ _ _ (@pe_ix _ _ _ _ _ _ _ ix_tup (pv 0) pe_int (fun _ _=>rfl)) pa_nil (by rfl)) (by rfl)) (by rfl)) (by rfl)) (by rfl)))))))),?_⟩
 walk_at "S"
 try walk_at "WP"
 refine⟨_,h1,_,rfl,_,h2,_,rfl,?_⟩
 try walk_at "WP"
 refine yq (fun z=>?_) (fun z=>?_)
 ·exact⟨_,h1,_,rfl,_,h1,_,rfl,_,h2,_,rfl,_,h2,_,rfl,fun r hr0=>q r _ hr0 (zP hr0 _) (by unfold deedG;rw[if_pos z,upd_same];rfl)⟩
 ·refine⟨_,h1,_,rfl,?_⟩
  try walk_at "WP"
  refine yq (fun y=>?_) (fun y=>?_)
  ·exact⟨_,h1,_,rfl,_,h1,_,rfl,_,h2,_,rfl,_,h2,_,rfl,fun r hr0=>q r _ hr0 (zP hr0 _) (by unfold deedG;rw[if_neg z,if_pos y,upd_same];rfl)⟩
  ·exact⟨_,h2,_,rfl,_,h2,_,rfl,_,h1,_,rfl,_,h1,_,rfl,fun r hr0=>q r _ hr0 (zP hr0 _) (by unfold deedG;rw[if_neg z,if_neg y,upd_same];rfl)⟩
theorem ok_signE (T:Txt K mg):Cal P w K mg base 1 "sign_of" ["one","other"] (spSignE K):=by
 have B:=T.bl;refine yK (T.t 20 _ rfl) sc_sign_of (fun vs H Q E h=>?_) (fun f cdv A outer s H vs Q E hr h=>?_)
 ·obtain⟨_,_,_,_,rfl,_⟩:=h;rfl
 obtain⟨p1,p2,G,R,rfl,h1,h2,q⟩:=h;unfold gTp at h1 h2;refine⟨_,((@pss_one _ _ _ (@ps_ret _ _ _ _ (@Jb _ _ _ _ _ _ _ _ (@pt_cmpR _ _ _ _ _ _ _ _ op_eq (@pe_ix _ _ _ _ _ _ _ ix_tup (pv 0) pe_int (fun _ _=>rfl)) (@pe_ix _ _ _ _ _ _ _ ix_tup (pv 1) pe_int (fun _ _=>rfl)) (@zh _ _ (by decide) (by decide))) (@pe_ix _ _ _ _ _ _ _ ix_tup (pv 0) pe_int (fun _ _=>rfl)) pe_int)))),?_⟩
 walk_at "S"
 try walk_at "WP"
 refine⟨_,h1,_,rfl,_,h2,_,rfl,?_⟩
 try walk_at "WP"
 unfold xY at q;refine yq (fun z=>?_) (fun z=>?_)
 ·rw[if_pos z]at q;exact⟨_,h1,_,rfl,q⟩
 ·rw[if_neg z]at q;exact q
theorem ok_addE (T:Txt K mg):Cal P w K mg base 2 "add_sum" ["ins","deeds","one","other"] (spAddE K):=by
 have B:=T.bl;have C_deed_of:=ok_deedE (P:=P) (w:=w) (base:=base) T;have C_sign_of:=ok_signE (P:=P) (w:=w) (base:=base) T;refine yK (T.t 21 _ rfl) sc_add_sum (fun vs H Q E h=>?_) (fun f cdv A outer s H vs Q E hr h=>?_)
 ·obtain⟨_,_,_,_,_,_,_,_,rfl,_⟩:=h;rfl
 obtain⟨ins,l,p1,p2,us,ds,G,R,rfl,hl,hds,h1,h2,ul,q⟩:=h;have h1':=h1;have h2':=h2;unfold gTp at h1' h2';refine⟨_,((@pss_cons _ _ _ _ _ (@ps_if _ _ _ _ _ _ _ _ (@pt_cmpR _ _ _ _ _ _ _ _ op_eq (@pe_ix _ _ _ _ _ _ _ ix_tup (pv 2) pe_int (fun _ _=>rfl)) pe_int (@zh _ _ (by decide) (by decide))) (@pss_one _ _ _ (@ps_ret _ _ _ _ (pv 3))) pss_nil) (@pss_cons _ _ _ _ _ (@ps_if _ _ _ _ _ _ _ _ (@pt_cmpR _ _ _ _ _ _ _ _ op_eq (@pe_ix _ _ _ _ _ _ _ ix_tup (pv 3) pe_int (fun _ _=>rfl)) pe_int (@zh _ _ (by decide) (by decide))) (@pss_one _ _ _ (@ps_ret _ _ _ _ (pv 2))) pss_nil) (@pss_cons _ _ _ _ _ (@ps_expr _ _ _ _ (@pe_bm _ _ _ _ _ _ _ _ _ _ _ _ xJ xD xC mt_append (pv 1) (@pa_cons _ _ _ _ _ (@pe_cal _ _ _ _ _ _ _ _ _ _ C_deed_of hr rfl (@pa_cons _ _ _ _ _ (pv 2) (@pa_cons _ _ _ _ _ (pv 3) pa_nil (by rfl)) (by rfl)) (by decide) (by rfl) (by rfl)) pa_nil (by rfl)) (by rfl) (by rfl) (by rfl) (by rfl) (by rfl)) (by rfl)) (@pss_one _ _ _ (@ps_ret _ _ _ _ (@pe_tup _ _ _ _ _ (@pa_cons _ _ _ _ _ (@pe_op _ _ _ _ _ _ _ _ jd (@pe_op _ _ _ _ _ _ _ _ yc (pv 0) (@pe_callB _ _ _ _ _ _ _ _ _ yz rfl B.len xP (@pa_cons _ _ _ _ _ (pv 1) pa_nil (by rfl)) (by decide) (by decide) (by rfl) (by rfl))) pe_int) (@pa_cons _ _ _ _ _ pe_int (@pa_cons _ _ _ _ _ (@pe_cal _ _ _ _ _ _ _ _ _ _ C_sign_of hr rfl (@pa_cons _ _ _ _ _ (pv 2) (@pa_cons _ _ _ _ _ (pv 3) pa_nil (by rfl)) (by rfl)) (by decide) (by rfl) (by rfl)) pa_nil (by rfl)) (by rfl)) (by rfl))))))))),?_⟩
 walk_at "S"
 try walk_at "WP"
 refine⟨_,h1',_,rfl,?_⟩
 try walk_at "WP"
 unfold addG addP at q;refine yq (fun z=>?_) (fun z=>?_)
 ·rw[if_pos z,if_pos z]at q;exact q _ _ _ (fun _ _ _ y=>y) hl hds h2
 rw[if_neg z,if_neg z]at q;refine⟨_,h2',_,rfl,?_⟩
 try walk_at "WP"
 refine yq (fun y=>?_) (fun y=>?_)
 ·rw[if_pos y,if_pos y]at q;exact q _ _ _ (fun _ _ _ y=>y) hl hds h1
 rw[if_neg y,if_neg y]at q;refine⟨Je hl,?_⟩;refine⟨_,_,_,_,rfl,h1,h2,fun r H1 nr s1 hr1=>?_⟩;have hl1:=s1 _ _ hl
 (iterate 5 ((try (walk_at "WP"));(try (simp only[hl1,qJs,qJt,qJl,qJd,exists_eq_left',exists_eq_left]))));(try (walk_at "WP"))
 refine⟨jS (by omega),?_⟩;have C2:Chg l H1 (upd H1 l (.lst (us++[.ref r]))):=Chg.upd _;have hl2:upd H1 l (.lst (us++[.ref r])) l=some (.lst (us++[.ref r])):=upd_same;have rl:r≠l:=(zc hl nr).symm;have hr2:=C2 _ _ rl hr1;have hds2:=((hds.same s1).chgL hl1 C2).snoc hr2;have hu2:=sqT_chg (s1.seqT h1) hl1 C2;have hv2:=sqT_chg (s1.seqT h2) hl1 C2;have dsl:=hds.len;generalize upd H1 l (.lst (us++[.ref r]))=H2 at C2 hl2 hu2 hv2 hds2 ⊢
 (iterate 5 ((try (walk_at "WP"));(try (simp only[hl2,qJs,qJt,qJl,qJd,exists_eq_left',exists_eq_left]))));(try (walk_at "WP"))
 refine⟨_,_,_,_,rfl,hu2,hv2,?_⟩
 try walk_at "WP"
 intro t ht;have st:=zP ht (.tup [V.int ((ins:Int)+((us++[V.ref r]).length:Nat)-1),V.int 0,V.int (xY G R)]);refine q _ _ _ ((s1.chg.trans C2).trans st.chg) (st _ _ hl2) (hds2.same st) (SqT.of ?_);rw[upd_same];unfold gTp;rw[show((ins:Int)+((us++[V.ref r]).length:Nat)-1)=((ins+ds.length:Nat):Int) by rw[qF,dsl,yJ];omega]
theorem ok_addCE (T:Txt K mg):Cal P w K mg base 3 "add_core" ["deeds","parts","way"] (spAddCE K):=by
 have B:=T.bl;have C_core:=(Jl (P:=P) (w:=w) (base:=base) T).mono (k:=2) (by decide);have C_moved:=(ok_movE (P:=P) (w:=w) (base:=base) T).mono (k:=2) (by decide);have C_add_sum:=ok_addE (P:=P) (w:=w) (base:=base) T;refine yK (T.t 27 _ rfl) sc_add_core (fun vs H Q E h=>?_) (fun f cdv A outer s H vs Q E hr h=>?_)
 ·obtain⟨_,_,_,_,_,_,_,_,_,_,_,_,_,rfl,_⟩:=h;rfl
 obtain⟨l,d,t,us,ds,kvs,ks,cs,a,r,g,odd,sh,rfl,hl,hds,hz,hd,dv,ht,ha,hrk,h8,hg,hco,o1,oc,kb,R,q⟩:=h;refine⟨_,((@pss_cons _ _ _ _ _ (@ps_set _ _ (3) _ _ _ _ sc_add_core.nd rfl (by walk_at "o") (@pe_cal _ _ _ _ _ _ _ _ _ _ C_moved hr rfl (@pa_cons _ _ _ _ _ (@pe_dgM _ _ _ _ _ _ (@jx _ _ hr) (pv 1) (@pe_ix _ _ _ _ _ _ _ ix_U (pv 2) pe_int (fun _ _=>rfl)) (fun _ _=>rfl)) (@pa_cons _ _ _ _ _ (@pe_ix _ _ _ _ _ _ _ ix_U (pv 2) pe_int (fun _ _=>rfl)) (@pa_cons _ _ _ _ _ pe_int pa_nil (by rfl)) (by rfl)) (by rfl)) (by decide) (by rfl) (by rfl)) (by rfl) (by walk_at "o")) (@pss_cons _ _ _ _ _ (@ps_set _ _ (4) _ _ _ _ sc_add_core.nd rfl (by walk_at "o") (@pe_cal _ _ _ _ _ _ _ _ _ _ C_moved hr rfl (@pa_cons _ _ _ _ _ (@pe_dgM _ _ _ _ _ _ (@jx _ _ hr) (pv 1) (@pe_ix _ _ _ _ _ _ _ ix_U (pv 2) pe_int (fun _ _=>rfl)) (fun _ _=>rfl)) (@pa_cons _ _ _ _ _ pe_int (@pa_cons _ _ _ _ _ (@pe_ix _ _ _ _ _ _ _ ix_U (pv 2) pe_int (fun _ _=>rfl)) pa_nil (by rfl)) (by rfl)) (by rfl)) (by decide) (by rfl) (by rfl)) (by rfl) (by walk_at "o")) (@pss_cons _ _ _ _ _ (@ps_set _ _ (5) _ _ _ _ sc_add_core.nd rfl (by walk_at "o") (@pe_cal _ _ _ _ _ _ _ _ _ _ C_core hr rfl (@pa_cons _ _ _ _ _ (@pe_op _ _ _ _ _ _ _ _ yc (@pe_op _ _ _ _ _ _ _ _ op_shlB (@pe_ix _ _ _ _ _ _ _ ix_U (pv 2) pe_int (fun _ _=>rfl)) (@pe_ix _ _ _ _ _ _ _ ix_U (pv 2) pe_int (fun _ _=>rfl))) (@pe_op _ _ _ _ _ _ _ _ xO (@pe_ix _ _ _ _ _ _ _ ix_U (pv 2) pe_int (fun _ _=>rfl)) (@pe_ix _ _ _ _ _ _ _ ix_U (pv 2) pe_int (fun _ _=>rfl)))) pa_nil (by rfl)) (by decide) (by rfl) (by rfl)) (by rfl) (by walk_at "o")) (@pss_one _ _ _ (@ps_ret _ _ _ _ (@pe_cal _ _ _ _ _ _ _ _ _ _ C_moved hr rfl (@pa_cons _ _ _ _ _ (@pe_cal _ _ _ _ _ _ _ _ _ _ C_add_sum hr rfl (@pa_cons _ _ _ _ _ pe_int (@pa_cons _ _ _ _ _ (pv 0) (@pa_cons _ _ _ _ _ (pv 3) (@pa_cons _ _ _ _ _ (pv 4) pa_nil (by rfl)) (by rfl)) (by rfl)) (by rfl)) (by decide) (by rfl) (by rfl)) (@pa_cons _ _ _ _ _ (@pe_un _ _ _ _ _ _ ju (@pe_ix _ _ _ _ _ _ _ ix_U (pv 5) pe_int (fun _ _=>rfl))) (@pa_cons _ _ _ _ _ (@pe_ix _ _ _ _ _ _ _ ix_U (pv 5) pe_int (fun _ _=>rfl)) pa_nil (by rfl)) (by rfl)) (by rfl)) (by decide) (by rfl) (by rfl)))))))),?_⟩
 walk_at "S"
 obtain⟨va,hva,ra,p,rfl,hra,hp⟩:=(dv.val a).2 a (lk_ksI ha);obtain⟨vr,hvr,rr,q',rfl,hrr,hq⟩:=(dv.val r).2 r (lk_ksI hrk);obtain⟨a0,a9⟩:=kb a ha;obtain⟨r0,r9⟩:=kb r hrk;obtain⟨nz,ag,R',PE⟩:=add_core R hp hq hg h8 a0 a9 r0 r9 hco o1 oc;refine zi fun R_ hR_=>?_
 (iterate 5 ((try (walk_at "WP"));(try (simp only[ht,qJs,qJt,qJl,qJd,exists_eq_left',exists_eq_left]))));(try (walk_at "WP"))
 refine⟨kvs,hd,_,hva,?_⟩;refine⟨ra,p,sh,1,rfl,hra,.inr (.inl rfl),fun o H1 s1 ho=>?_⟩;have ht1:=s1 _ _ ht;(try (walk_at "WP"));(try (refine ze hR_ ?_));(try (refine zi fun R_ hR_=>?_));(iterate 5 ((try (walk_at "WP"));(try (simp only[ht1,qJs,qJt,qJl,qJd,exists_eq_left',exists_eq_left]))));(try (walk_at "WP"))
 (try (walk_at "WP"));(try (refine ze hR_ ?_));(try (refine zi fun R_ hR_=>?_));(iterate 5 ((try (walk_at "WP"));(try (simp only[ht1,qJs,qJt,qJl,qJd,exists_eq_left',exists_eq_left]))));(try (walk_at "WP"))
 refine⟨kvs,s1 _ _ hd,_,hvr,?_⟩
 (iterate 5 ((try (walk_at "WP"));(try (simp only[ht1,qJs,qJt,qJl,qJd,exists_eq_left',exists_eq_left]))));(try (walk_at "WP"))
 refine⟨rr,q',0,g,rfl,s1.seqT hrr,.inr hg,fun u H2 s2 hu=>?_⟩;have ht2:=s2 _ _ ht1;have ho2:=s2.seqT ho;(try (walk_at "WP"));(try (refine ze hR_ ?_));(try (refine zi fun R_ hR_=>?_));(iterate 5 ((try (walk_at "WP"));(try (simp only[ht2,qJs,qJt,qJl,qJd,exists_eq_left',exists_eq_left]))));(try (walk_at "WP"))
 (try (walk_at "WP"));(try (refine ze hR_ ?_));(try (refine zi fun R_ hR_=>?_));(iterate 5 ((try (walk_at "WP"));(try (simp only[ht2,qJs,qJt,qJl,qJd,exists_eq_left',exists_eq_left]))));(try (walk_at "WP"))
 have az2:a.natAbs<2^10:=by rw[show(2:Nat)^10=1024 from by decide];omega
 refine⟨shl_ok (by omega) (by omega) az2 (by decide),JJ (by omega) (by omega),_,rfl,fun pp np=>?_⟩;rw[zK];refine ye np fun H3 s3 h3=>?_;obtain⟨_,_,_,_,_,sg,_⟩:=yW nz;have s03:=(s1.trans s2).trans s3;have hl3:=s03 _ _ hl;(try (walk_at "WP"));(try (refine ze hR_ ?_));(try (refine zi fun R_ hR_=>?_));(try (walk_at "WP"))
 refine⟨1,l,o,u,us,ds,_,_,rfl,hl3,hds.same s03,s3.seqT ho2,s3.seqT hu,by omega,fun r3 us' H4 C4 hl4 hds4 hr4=>?_⟩;rw[ag]at hds4;have h4:=C4 _ _ (xt h3 hl3 (by intro z;cases z)) h3
 (iterate 5 ((try (walk_at "WP"));(try (simp only[h4,qJs,qJt,qJl,qJd,exists_eq_left',exists_eq_left]))));(try (walk_at "WP"))
 refine⟨r3,_,_,_,rfl,hr4,.inr sg,fun r5 H5 s5 h5=>?_⟩;exact q _ us' _ H5 ((s03.chg.trans C4).trans s5.chg) (s5 _ _ hl4) (hds4.same s5) R' ⟨r5,_,rfl,h5,by first|exact PE|(rw[show(0-shN (a*2^sh+g*r)) = -(shN (a*2^sh+g*r)) by omega];exact PE)⟩
theorem ok_outE (T:Txt K mg):Cal P w K mg base 2 "out_for" ["number","parts"] (spOutE K):=by
 have B:=T.bl;obtain⟨cst_NO_OUT,mg_NO_OUT,hcst⟩:=T.c_NO_OUT;have C_core:=Jl (P:=P) (w:=w) (base:=base) T;have C_moved:=ok_movE (P:=P) (w:=w) (base:=base) T;refine yK (T.t 22 _ rfl) sc_out_for (fun vs H Q E h=>?_) (fun f cdv A outer s H vs Q E hr h=>?_)
 ·obtain⟨_,_,_,_,_,rfl,_⟩:=h;rfl
 obtain⟨x,d,kvs,ks,ds,rfl,hd,dv,hx,xb,q⟩:=h;refine⟨_,((@pss_cons _ _ _ _ _ (@ps_if _ _ _ _ _ _ _ _ (@pt_cmpR _ _ _ _ _ _ _ _ op_eq (pv 0) pe_int (@zh _ _ (by decide) (by decide))) (@pss_one _ _ _ (@ps_ret _ _ _ _ (@JD _ _ (.ref cst_NO_OUT) _ _ rfl mg_NO_OUT rfl (by decide)))) pss_nil) (@pss_cons _ _ _ _ _ (@ps_set _ _ (2) _ _ _ _ sc_out_for.nd rfl (by walk_at "o") (@pe_cal _ _ _ _ _ _ _ _ _ _ C_core hr rfl (@pa_cons _ _ _ _ _ (pv 0) pa_nil (by rfl)) (by decide) (by rfl) (by rfl)) (by rfl) (by walk_at "o")) (@pss_one _ _ _ (@ps_ret _ _ _ _ (@pe_cal _ _ _ _ _ _ _ _ _ _ C_moved hr rfl (@pa_cons _ _ _ _ _ (@pe_dgM _ _ _ _ _ _ (@jx _ _ hr) (pv 1) (@pe_ix _ _ _ _ _ _ _ ix_U (pv 2) pe_int (fun _ _=>rfl)) (fun _ _=>rfl)) (@pa_cons _ _ _ _ _ (@pe_ix _ _ _ _ _ _ _ ix_U (pv 2) pe_int (fun _ _=>rfl)) (@pa_cons _ _ _ _ _ (@pe_ix _ _ _ _ _ _ _ ix_U (pv 2) pe_int (fun _ _=>rfl)) pa_nil (by rfl)) (by rfl)) (by rfl)) (by decide) (by rfl) (by rfl))))))),?_⟩
 walk_at "S"
 try walk_at "WP"
 refine yq (fun z=>?_) (fun z=>?_)
 ·refine q _ ⟨0,0,0⟩ _ (Same.refl _) (hcst.sq H) ⟨by show 0<_;omega,.inl rfl,fun y=>absurd (show(0:Int)<0 from y) (by decide)⟩ ?_ (fun _=>rfl) (fun y=>absurd z y) (by decide) (by decide);rw[z];unfold outV;show 0*_=0
  rw[Int.zero_mul]
 ·refine⟨x,rfl,fun p hp=>?_⟩;refine ye hp fun H2 s2 h2=>?_;obtain⟨c1,c2,k,c3,c4,c5,c6,c7,_⟩:=yW z;obtain⟨v,hv,r,p',rfl,hr,hp'⟩:=(dv.val (coreN x)).2 _ (lk_ksI (hx.resolve_left z));have k300:k<300:=(Nat.pow_lt_pow_iff_right (by decide:1<2)).mp (yi c7 xb)
  (iterate 5 ((try (walk_at "WP"));(try (simp only[h2,qJs,qJt,qJl,qJd,exists_eq_left',exists_eq_left]))));(try (walk_at "WP"))
  refine⟨_,s2 _ _ hd,_,hv,r,p',shN x,sgN x,rfl,s2.seqT hr,.inr c5,fun r3 H3 s3 h3=>?_⟩;obtain⟨m1,m2⟩:=mov_val hp'.ok (by omega) c5 (s:=shN x) (g:=sgN x) (fun y=>by omega);rw[hp'.val,c3,mvI_up (by omega),zK]at m2;have shape:movG p' (shN x) (sgN x)=⟨p'.th,p'.sh+shN x,p'.sg*sgN x⟩:=by
   unfold movG;rw[if_neg (by rcases hp'.sg with y|y<;>rcases c5 with u|u<;>rw[y,u]<;>decide)]
  have lo:=hp'.lo;have hi:=hp'.hi;refine q _ _ _ (s2.trans s3) h3 m1 (by rw[c3,m2,xX];exact c4) (fun y=>absurd y z) (fun _=>by rw[shape];show p'.sg*sgN x≠0;rcases hp'.sg with y|y<;>rcases c5 with u|u<;>rw[y,u]<;>decide) (by rw[shape];show -40<=p'.sh+shN x;omega) (by rw[shape];show p'.sh+shN x<=400;omega)
theorem ok_rowE (T:Txt K mg):Cal P w K mg base 4 "row_of" ["cores","numbers","top"] (spRowE K):=by
 have B:=T.bl;have C_out_for:=(ok_outE (P:=P) (w:=w) (base:=base) T).mono (k:=3) (by decide);have C_way_to:=(ok_way (P:=P) (w:=w) (base:=base) T).mono (k:=3) (by decide);have C_add_core:=ok_addCE (P:=P) (w:=w) (base:=base) T;refine yK (T.t 25 _ rfl) sc_row_of (fun vs H Q E h=>?_) (fun f cdv A outer s H vs Q E hr h=>?_)
 ·obtain⟨_,_,_,_,_,rfl,_⟩:=h;rfl
 obtain⟨c,l,cs,xs,top,rfl,hc,hl,hxl,xb,nd,hcl,⟨mm,own,RO,he⟩,t1,t2,hx,q⟩:=h;refine⟨_,((@pss_cons _ _ _ _ _ (@ps_set _ _ (3) _ _ _ _ sc_row_of.nd rfl (by walk_at "o") (@pe_lst _ _ _ _ pa_nil) (by rfl) (by walk_at "o")) (@pss_cons _ _ _ _ _ (@ps_set _ _ (4) _ _ _ _ sc_row_of.nd rfl (by walk_at "o") (@pe_disp _ _ _ _ _ (@pps_cons _ _ _ _ _ _ _ _ _ pe_int (@pe_tup _ _ _ _ _ (@pa_cons _ _ _ _ _ pe_int (@pa_cons _ _ _ _ _ pe_int (@pa_cons _ _ _ _ _ pe_int pa_nil (by rfl)) (by rfl)) (by rfl))) pps_nil) rfl rfl (by simp) (by decide)) (by rfl) (by walk_at "o")) (@pss_cons _ _ _ _ _ (@ps_whl _ _ _ _ _ _ PassesOwn.never (@pt_cmpR _ _ _ _ _ _ _ _ op_lt (@pe_callB _ _ _ _ _ _ _ _ _ call_lenD rfl B.len xP (@pa_cons _ _ _ _ _ (pv 4) pa_nil (by rfl)) (by decide) (by decide) (by rfl) (by rfl)) (@pe_callB _ _ _ _ _ _ _ _ _ call_lenU rfl B.len xP (@pa_cons _ _ _ _ _ (pv 0) pa_nil (by rfl)) (by decide) (by decide) (by rfl) (by rfl)) (@zh _ _ (by decide) (by decide))) (@pss_one _ _ _ (@yv _ _ _ _ _ _ _ _ PassesOwn.never rfl (@pi_tup _ _ _ _ (pv 0)) (@zY _ _ (5) _ sc_row_of.nd rfl (by walk_at "o") (by walk_at "o")) (@pss_cons _ _ _ _ _ (@ps_set _ _ (6) _ _ _ _ sc_row_of.nd rfl (by walk_at "o") (@Jb _ _ _ _ _ _ _ _ (@pt_cmpR _ _ _ _ _ _ _ _ (@op_dI _ (@jx _ _ hr)) (pv 5) (pv 4) (by with_unfolding_all rfl)) pe_non (@pe_cal _ _ _ _ _ _ _ _ _ _ C_way_to hr rfl (@pa_cons _ _ _ _ _ (pv 5) (@pa_cons _ _ _ _ _ (pv 4) (@pa_cons _ _ _ _ _ (pv 2) pa_nil (by rfl)) (by rfl)) (by rfl)) (by decide) (by rfl) (by rfl))) (by rfl) (by walk_at "o")) (@pss_one _ _ _ (@ps_if _ _ _ _ _ _ _ _ (@pt_cmp _ _ _ _ _ _ (@pc_notN _ _ _ _ _ (pv 6)) (by first|exact jt _ ( by decide ) ( by decide )|rfl)) (@pss_one _ _ _ (@ps_dpM _ _ _ _ _ _ _ _ _ (@jx _ _ hr) (pv 4) (pv 5) (@pe_cal _ _ _ _ _ _ _ _ _ _ C_add_core hr rfl (@pa_cons _ _ _ _ _ (pv 3) (@pa_cons _ _ _ _ _ (pv 4) (@pa_cons _ _ _ _ _ (pv 6) pa_nil (by rfl)) (by rfl)) (by rfl)) (by decide) (by rfl) (by rfl)) rfl)) pss_nil))) (by intro _ ;rfl)))) (@pss_one _ _ _ (@ps_ret _ _ _ _ (@pe_tup _ _ _ _ _ (@pa_cons _ _ _ _ _ pe_int (@pa_cons _ _ _ _ _ (pv 3) (@pa_cons _ _ _ _ _ (@pe_comp0 _ _ _ _ _ _ _ _ (["number","parts"]) (1) ([4]) _ _ _ rfl (@pi_list _ _ _ _ (pv 1)) (fun nd C s H fp=>⟨(@zY _ _ (0) _ nd rfl (by walk_at "o") (by walk_at "o")),xB,(@pe_cal _ _ _ _ _ _ _ _ _ _ C_out_for hr rfl (@pa_cons _ _ _ _ _ (pv 0) (@pa_cons _ _ _ _ _ (pv 1) pa_nil (by rfl)) (by rfl)) (by decide) (by rfl) (by rfl))⟩) (by decide +kernel) (by first|rfl|decide +kernel) (by first|rfl|decide +kernel) rfl (fun _=>rfl)) pa_nil (by rfl)) (by rfl)) (by rfl))))))))),?_⟩
 walk_at "S"
 obtain⟨OD,_,_⟩:=RO.ok t1;refine zi fun R_ hR_=>?_
 try walk_at "WP"
 intro dl ndl;refine ye ndl fun H1 s1 h1=>?_;(try (walk_at "WP"));(try (refine ze hR_ ?_));(try (refine zi fun R_ hR_=>?_));(try (walk_at "WP"))
 intro d nd0 t nt;have nd1:H d=none:=s1.free nd0;have td:t≠d:=(zc (show upd H1 d (.dK []) d=some (.dK []) from upd_same) nt).symm;refine⟨by rw[zg td.symm];exact upd_same,[(.inl 1,.ref t)],rfl,by show 1<=15;decide,?_⟩;have s2:Same H (upd (upd (upd H1 d (.dK [])) t (.tup [V.int 0,V.int 0,V.int 1])) d (.dK (mergeK [] [((.inl 1:Key),V.ref t)]))):=yP nd1 (s1.trans ((zP nd0 _).trans (zP nt _)));have hd2:(upd (upd (upd H1 d (.dK [])) t (.tup [V.int 0,V.int 0,V.int 1])) d (.dK (mergeK [] [((.inl 1:Key),V.ref t)]))) d=some (.dK [(.inl 1,.ref t)]):=upd_same;have ht2:(upd (upd (upd H1 d (.dK [])) t (.tup [V.int 0,V.int 0,V.int 1])) d (.dK (mergeK [] [((.inl 1:Key),V.ref t)]))) t=some (.tup [V.int 0,V.int 0,V.int 1]):=by rw[zg td];exact upd_same
 have hl2:(upd (upd (upd H1 d (.dK [])) t (.tup [V.int 0,V.int 0,V.int 1])) d (.dK (mergeK [] [((.inl 1:Key),V.ref t)]))) dl=some (.lst []):=by
  rw[zg (zc h1 nd0),zg (zc (show upd H1 d (.dK []) dl=some (.lst []) by rw[zg (zc h1 nd0)];exact h1) nt),zg (zc h1 nd0)];exact h1
 have ddl:d≠dl:=(zc h1 nd0).symm;generalize (upd (upd (upd H1 d (.dK [])) t (.tup [V.int 0,V.int 0,V.int 1])) d (.dK (mergeK [] [((.inl 1:Key),V.ref t)])))=H2 at s2 hd2 ht2 hl2 ⊢;have dv2:DV (tE K [] H2) [(.inl 1,.ref t)] (ksI [1]):=.cons ⟨t,⟨0,0,1⟩,rfl,SqT.of ht2,⟨by decide,.inr (.inl rfl),fun z=>absurd (show(0:Int)<0 from z) (by decide)⟩,.inl rfl,by decide,by decide,by decide⟩ .nil;have h1cs:(1:Int)∈cs:=(he 1).mpr (JA RO);have cpos:1<=cs.length:=List.length_pos_of_mem h1cs;(try (walk_at "WP"));(try (refine ze hR_ ?_));(try (refine zi fun R_ hR_=>?_));(try (walk_at "WP"))
 refine whl (fun m σ H'=>∃(kvs:List (Key×V)) (ks:List Int) (us:List V) (ds:List Wd) (o5 o6:Option V),σ=[some (.ref c),some (.ref l),some (.int top),some (.ref dl),some (.ref d),o5,o6]/\Same H H'/\H' dl=some (.lst us)/\HTs wTup H' us ds/\RwE cs ds/\H' d=some (.dK kvs)/\DV (tE K ds H') kvs (ksI ks)/\ks.Nodup/\(∀x∈ks,x∈cs)/\(1:Int)∈ks/\us.length+1=ks.length/\ks.length+m=cs.length) (cs.length-1) ⟨_,[1],[],[],none,none,rfl,s2,hl2,hts_nil,rwE_nil h1cs,hd2,dv2,by simp,fun x hx=>by rw[zB.mp hx];exact h1cs,zB.mpr rfl,rfl,by show 1+(cs.length-1)=cs.length;omega⟩ ?_;clear dv2 hd2 ht2 hl2 s2;rintro m σ H3 N ⟨kvs,ks,us,ds,o5,o6,rfl,s3,hl3,hds3,R3,hd3,dv3,knd,ksub,k1,ul,hm⟩ hN;have hc3:=s3 _ _ hc;have kl:kvs.length=ks.length:=by rw[dv3.len];unfold ksI;rw[qC]
 (iterate 5 ((try (walk_at "WP"));(try (simp only[hc3,hd3,qJs,qJt,qJl,qJd,exists_eq_left',exists_eq_left]))));(try (walk_at "WP"))
 rw[qC,kl];refine yq (fun z=>?_) (fun z=>?_)
 ·obtain⟨pre,e,pks,pm,eo,enk⟩:=first_missing (ks:=ks) RO k1 (by
   obtain⟨x,hx',hn⟩:=zAI (ks:=ks) (cs:=cs) (by omega) nd;exact⟨x,(he x).mp hx',hn⟩)
  have ecs:=(he e).mpr eo;refine⟨⟨_,SqT.of hc3⟩,?_⟩;refine forT (xs:=cs.map V.int) (fun i σ H'=>∃(kvs:List (Key×V)) (ks':List Int) (us:List V) (ds:List Wd) (o5 o6:Option V),σ=[some (.ref c),some (.ref l),some (.int top),some (.ref dl),some (.ref d),o5,o6]/\Same H H'/\H' dl=some (.lst us)/\HTs wTup H' us ds/\RwE cs ds/\H' d=some (.dK kvs)/\DV (tE K ds H') kvs (ksI ks')/\ks'.Nodup/\(∀x∈ks',x∈cs)/\(∀x∈ks,x∈ks')/\us.length+1=ks'.length/\(e∈cs.take i->e∈ks')) ⟨kvs,ks,us,ds,o5,o6,rfl,s3,hl3,hds3,R3,hd3,dv3,knd,ksub,fun _ h=>h,ul,fun h=>(nomatch h)⟩ ?_ ?_ ?_
  ·rintro i σ H' _ ⟨_,_,_,_,_,_,rfl,s',_⟩;exact SqT.of (s' _ _ hc)
  ·rintro i v σ H4 N4 hv ⟨kv4,ks4,us4,ds4,o5,o6,rfl,s4,hl4,hds4,R4,hd4,dv4,knd4,ksub4,kk4,ul4,he4⟩ hN4;obtain⟨x,hxi,rfl⟩:=jJ hv;have xcs:=qE hxi;have xo:=(he x).mp xcs;have kl4:kv4.length=ks4.length:=by rw[dv4.len];unfold ksI;rw[qC]
   have l4:=sub_len knd4 ksub4;have tk:e∈cs.take (i+1)->e∈cs.take i\/e=x:=fun h=>by
    rw[xL,hxi,yg]at h;rcases zE.mp h with y|y
    ·exact .inl y
    ·exact .inr (zB.mp y)
   refine seq_inG fun R_ hR_=>?_
   try walk_at "WP"
   refine⟨kv4,hd4,?_⟩;cases hlk:lk (ksI ks4) x with
   |some u =>
    obtain⟨v,hvv,_⟩:=(dv4.val x).2 u hlk;have xk:x∈ks4:=ya fun y=>by rw[lk_ksI_no y]at hlk;cases hlk
    rw[hvv,if_pos (show(some v).isSome=true from rfl)];(try (walk_at "WP"));(try (refine ze hR_ ?_));(try (refine zi fun R_ hR_=>?_));(try (walk_at "WP"))
    exact hN4 _ _ ⟨kv4,ks4,us4,ds4,_,_,rfl,s4,hl4,hds4,R4,hd4,dv4,knd4,ksub4,kk4,ul4,fun h=>(tk h).elim he4 fun e'=>e' ▸ xk⟩
   |none =>
    have hvv:=(dv4.val x).1 hlk;have xk:x∉ks4:=fun y=>by rw[lk_ksI y]at hlk;cases hlk
    rw[hvv,if_neg (by decide)];have O4:OdIn ks4 top:=⟨fun y hy=>OD.odd y ((he y).mp (ksub4 y hy)),fun y hy=>OD.lo y ((he y).mp (ksub4 y hy)),fun y hy=>OD.hi y ((he y).mp (ksub4 y hy))⟩;refine⟨x,top,d,kv4,ks4,rfl,hd4,by rw[dv4.keys,ksI_keys],O4,t1,t2,OD.lo x xo,OD.hi x xo,fun H5 s5 nm=>?_,fun wt wl wr wg ws H5 s5 hw wlk wrk w8 wg1 wc=>?_⟩
    ·(try (walk_at "WP"));(try (refine ze hR_ ?_));(try (refine zi fun R_ hR_=>?_));(try (walk_at "WP"))
     exact hN4 _ _ ⟨kv4,ks4,us4,ds4,_,_,rfl,s4.trans s5,s5 _ _ hl4,hds4.same s5,R4,s5 _ _ hd4,dv4.imp fun _ _ y=>y.same s5,knd4,ksub4,kk4,ul4,fun h=>(tk h).elim he4 fun e'=>absurd (JH (fun y hy=>kk4 y (pks y hy)) pm) (e' ▸ nm)⟩
    ·(try (walk_at "WP"));(try (refine ze hR_ ?_));(try (refine zi fun R_ hR_=>?_));(try (walk_at "WP"))
     have hl5:=s5 _ _ hl4;have hd5:=s5 _ _ hd4;have wl1:=O4.lo wl wlk;have wl2:=O4.hi wl wlk;have wr1:=O4.lo wr wrk;have wr2:=O4.hi wr wrk;have xlo:=OD.lo x xo;have hds5:=hds4.same s5;have dl4:=hds4.len;refine⟨dl,d,wt,us4,ds4,kv4,ks4,cs,wl,wr,wg,x,ws,rfl,hl5,hds5,by omega,hd5,dv4.imp fun _ _ y=>y.same s5,hw,wlk,wrk,w8,wg1,wc,xlo,xcs,fun k hk=>⟨O4.lo k hk,by have:=O4.hi k hk;omega⟩,R4,fun v us' dd H6 C6 hl6 hds6 R6 tv=>?_⟩
     try walk_at "WP"
     have hd6:=C6 _ _ ddl hd5;refine⟨kv4,hd6,by rw[kl4];exact jS (by omega),?_⟩;have dv6:=(dv4.imp fun _ _ y=>y.same s5).imp fun _ _ y=>(y.chg hl5 (by intro ys z;cases z) (by intro a ys z;cases z) C6).more dd;have dn:=dv6.put (c:=x) tv;rw[putL_new hlk]at dn;have ek:ksI ks4++[(x,x)]=ksI (ks4++[x]):=by unfold ksI;rw[zo];rfl
     rw[ek]at dn;have C7:∀o,Chg d H6 (upd H6 d o):=fun o=>Chg.upd _;have ul6:=hds6.len;rw[qF]at ul6;refine hN4 _ _ ⟨_,ks4++[x],us',ds4++[dd],_,_,rfl,j8 nd1 (j8 ndl (s4.trans s5) C6) (C7 _),C7 _ _ _ ddl.symm hl6,hds6.chgK hd6 (C7 _),R6,upd_same,dn.imp fun _ _ y=>y.chg hd6 (by intro ys z;cases z) (by intro a ys z;cases z) (C7 _),?_,fun y hy=>?_,fun y hy=>zV _ (kk4 y hy),?_,fun h=>?_⟩
     ·rw[y7];exact⟨knd4,by simp,fun a ha b hb e'=>xk (by rw[<-zB.mp hb,<-e'];exact ha)⟩
     ·rcases zE.mp hy with q'|q'
      ·exact ksub4 y q'
      ·rw[zB.mp q'];exact xcs
     ·rw[qF,yJ];have:[dd].length=1:=rfl;omega
     ·rcases tk h with q'|q'
      ·exact zV _ (he4 q')
      ·exact qK _ (zB.mpr q')
  ·rintro σ H4 ⟨kv4,ks4,us4,ds4,o5,o6,rfl,s4,hl4,hds4,R4,hd4,dv4,knd4,ksub4,kk4,ul4,he4⟩;rw[qC,zf]at he4;have lt:=sub_lt knd kk4 (he4 ecs) enk;have le:=sub_len knd4 ksub4;exact hN (cs.length-ks4.length) _ _ (by omega) ⟨kv4,ks4,us4,ds4,_,_,rfl,s4,hl4,hds4,R4,hd4,dv4,knd4,ksub4,kk4 _ k1,ul4,by omega⟩
 ·have le:=sub_len knd ksub;have all:∀x∈cs,x∈ks:=fun x hx'=>ya fun y=>by
   have:=sub_lt knd ksub hx' y;omega
  (try (walk_at "WP"));(try (refine ze hR_ ?_));(try (refine zi fun R_ hR_=>?_));(try (walk_at "WP"))
  have hl3':=s3 _ _ hl;refine⟨⟨_,SqL.of hl3'⟩,?_⟩;have dl3:=hds3.len;refine comp_intK (fun n p=>PtOkV (1+ds.length) (valsW [1] ds) p/\outV (valsW [1] ds) p=n/\(n=0->p=⟨0,0,0⟩)/\(n≠0->p.sg≠0) /\ -40<=p.sh/\p.sh<=400) hl3' (by omega) (fun i x H' R hxi s' hR=>?_) (fun acc ws gs H' na s' h' hk' lg rel=>?_)
  ·have hxm:=qE hxi;rw[show yG [4] [some (V.ref c),some (V.ref l),some (V.int top),some (V.ref dl),some (V.ref d),o5,o6]=[some (V.ref d)] from rfl]
   try walk_at "WP"
   exact⟨x,d,kvs,ks,ds,rfl,s' _ _ hd3,dv3.imp fun _ _ y=>y.same s',(hx x hxm).imp id fun y=>all _ y,xb x hxm,fun r p H5 s5 h5 p1 p2 p3 p4 p5 p6=>hR r p H5 s5 h5 ⟨p1,p2,p3,p4,p5,p6⟩⟩
  ·intro p np;have s5:=zP np (.tup [V.int 1,V.ref dl,V.ref acc]);exact q p dl acc us ws ds gs _ ((s3.trans s').trans s5) upd_same (s5 _ _ (s' _ _ hl3)) ((hds3.same s').same s5) (s5 _ _ h') (hk'.same s5) (by omega) R3 lg rel
theorem ok_levX (T:Txt K mg):Cal P w K mg base 5 "level_behind" ["levels","top"] spLevX:=by
 have B:=T.bl;have C_grown:=ok_grown (P:=P) (w:=w) (base:=base) T;refine yK (T.t 8 _ rfl) sc_level_behind (fun vs H Q E h=>?_) (fun f cdv A outer s H vs Q E hr h=>?_)
 ·obtain⟨_,_,_,_,rfl,_⟩:=h;rfl
 obtain⟨l,lvs,top,L,rfl,hl,t1,t2,hz,hlast,q⟩:=h;refine⟨_,((@pss_cons _ _ _ _ _ (@ps_if _ _ _ _ _ _ _ _ (@pt_cmpR _ _ _ _ _ _ _ _ (@op_eqE _ _ hr) (pv 0) (@pe_lst _ _ _ _ pa_nil) (@zh _ _ (by decide) (by decide))) (@pss_one _ _ _ (@ps_ret _ _ _ _ (@pe_lst _ _ _ _ (@pa_cons _ _ _ _ _ (@pe_tup _ _ _ _ _ (@pa_cons _ _ _ _ _ pe_int pa_nil (by rfl))) pa_nil (by rfl))))) pss_nil) (@pss_cons _ _ _ _ _ (@ps_set _ _ (2) _ _ _ _ sc_level_behind.nd rfl (by walk_at "o") pe_dnewT (by rfl) (by walk_at "o")) (@pss_cons _ _ _ _ _ (@yv _ _ _ _ _ _ _ _ PassesOwn.never rfl (@pi_list _ _ _ _ (@pe_ix _ _ _ _ _ _ _ ix_M (pv 0) (@pe_un _ _ _ _ _ _ ju pe_int) (fun _ _=>rfl))) (@zY _ _ (3) _ sc_level_behind.nd rfl (by walk_at "o") (by walk_at "o")) (@pss_one _ _ _ (@yv _ _ _ _ _ _ _ _ PassesOwn.never rfl (@pi_list _ _ _ _ (@pe_cal _ _ _ _ _ _ _ _ _ _ C_grown hr rfl (@pa_cons _ _ _ _ _ (pv 3) (@pa_cons _ _ _ _ _ (pv 1) pa_nil (by rfl)) (by rfl)) (by decide) (by rfl) (by rfl))) (@zY _ _ (4) _ sc_level_behind.nd rfl (by walk_at "o") (by walk_at "o")) (@pss_one _ _ _ (@ps_dpT _ _ _ _ _ _ _ _ _ (@jx _ _ hr) (pv 2) (pv 4) pe_bl rfl)) (by intro _ ;rfl))) (by intro _ ;rfl)) (@pss_one _ _ _ (@ps_ret _ _ _ _ (@pe_callTy _ _ _ _ _ _ _ _ _ (@call_list_tks _ _ hr) rfl B.list bo_list (@pa_cons _ _ _ _ _ (pv 2) pa_nil (by rfl)) (by decide) (by decide) (by rfl) (by rfl)))))))),?_⟩
 walk_at "S"
 refine zi fun R_ hR_=>?_
 try walk_at "WP"
 intro e ne;refine ye ne fun H1 s1 h1=>?_;refine⟨lvs,SqL.of (s1 _ _ hl),SqL.of h1,?_⟩
 try walk_at "WP"
 refine yq (fun z=>?_) (fun z=>?_)
 ·have lz:lvs=[]:=zU z;subst lz;intro t nt;refine ye nt fun H2 s2 h2=>?_;intro r nr;refine ye nr fun H3 s3 h3=>?_;have k1:HTs iT H3 ([]++[V.ref t]) ([]++[[1]]):=hts_nil.snoc (s3 _ _ h2);exact q r [.ref t] [[1]] H3 ((s1.trans s2).free nr) ((s1.trans s2).trans s3) h3 k1 (levP_one t1) (by decide) (fun _=>rfl) (fun z=>absurd rfl z)
 ·have ln:lvs≠[]:=fun e=>z (by rw[e];rfl);obtain⟨r,us,hg,hr,hL,P1,hc⟩:=hlast ln;(try (walk_at "WP"));(try (refine ze hR_ ?_));(try (refine zi fun R_ hR_=>?_));(try (walk_at "WP"))
  intro d nd;refine ye nd fun H2 s2 h2=>?_;have s12:=s1.trans s2;have nd0:H d=none:=s1.free nd;(try (walk_at "WP"));(try (refine ze hR_ ?_));(try (refine zi fun R_ hR_=>?_));(try (walk_at "WP"))
  have hr2:=s12 _ _ hr;have hL2:=hL.same s12;have rd:r≠d:=xt hr2 h2 (by intro y;cases y);have ul:=hL.len;have l3:99^(lvs.length-1)<=99^2:=qN (by decide) (by omega);refine⟨lvs,s12 _ _ hl,.ref r,atI_gl hg,r,rfl,⟨_,SqL.of hr2⟩,?_⟩;refine forL (xs:=us) (fun i σ H'=>∃(o3 o4:Option V) (kvs:List (List Key×V)) (Ss:List (List Int)),σ=[some (.ref l),some (.int top),some (.ref d),o3,o4]/\Same H H'/\H' d=some (.dT kvs)/\KsT kvs Ss/\(∀S,S∈Ss↔∃S0∈L.take i,S∈growL S0 top)/\Ss.length<=99*i) ⟨none,none,[],[],rfl,s12,h2,rfl,fun S=>⟨fun z=>(nomatch z),fun⟨S0,z,_⟩=>(nomatch z)⟩,zT _⟩ ?_ ?_ ?_
  ·rintro i σ H' _ ⟨_,_,_,_,rfl,s',_⟩;exact SqL.of (s' _ _ hr)
  ·rintro i v σ H3 N hv ⟨o3,o4,kvs,Ss,rfl,s3,h3,ks,hS,hc3⟩ hN;have hi:i<L.length:=by rw[<-ul];exact(qB.mp hv).1
   obtain⟨y,hy1,hy2⟩:=hL.at_ i _ (qA hi);have hSi:L[i]? = some L[i]:=qA hi;generalize L[i]=S0 at hy2 hSi;rw[hv]at hy1;cases hy1
   have hm:=qE hSi
   try walk_at "WP"
   refine⟨y,S0,top,rfl,s3 _ _ hy2,P1.od S0 hm,t1,t2,by have:=P1.len S0 hm;omega,fun g gs H4 ng s4 hg4 hgs=>?_⟩;have gl:=grow_len (cs:=S0) t2;have gul:=hgs.len;have h4:=s4 _ _ h3;have gd:g≠d:=xt hg4 h4 (by intro y;cases y)
   try walk_at "WP"
   refine⟨⟨_,SqL.of hg4⟩,?_⟩;refine forL (xs:=gs) (fun j σ H'=>∃(o4:Option V) (kvs:List (List Key×V)) (Ss:List (List Int)),σ=[some (.ref l),some (.int top),some (.ref d),some (.ref y),o4]/\Chg d H4 H'/\H' d=some (.dT kvs)/\KsT kvs Ss/\(∀S,S∈Ss↔(∃S0∈L.take i,S∈growL S0 top)\/S∈(growL S0 top).take j)/\Ss.length<=99*i+j) ⟨o4,kvs,Ss,rfl,Chg.refl,h4,ks,fun S=>by rw[hS];exact⟨.inl,fun z=>z.elim id fun z=>(nomatch z)⟩,hc3⟩ ?_ ?_ ?_
   ·rintro j σ H' _ ⟨_,_,_,rfl,C,_⟩;exact SqL.of (C _ _ gd hg4)
   ·rintro j v σ H5 N2 hv2 ⟨o4,kvs,Ss,rfl,C5,h5,ks,hS,hc5⟩ hN2;have hj:j<(growL S0 top).length:=by rw[<-gul];exact(qB.mp hv2).1
    obtain⟨y2,hy3,hy4⟩:=hgs.at_ j _ (qA hj);have hSj:(growL S0 top)[j]? = some (growL S0 top)[j]:=qA hj;generalize (growL S0 top)[j]=S1 at hy4 hSj;rw[hv2]at hy3;cases hy3
    have yd:y2≠d:=xt hy4 h4 (by intro y;cases y)
    try walk_at "WP"
    refine⟨S1,kvs,h5,C5 _ _ yd hy4,by rw[ks.len];exact yi (m:=1000000) (by omega) (by decide),?_⟩;refine hN2 _ _ ⟨_,_,_,rfl,C5.trans (Chg.upd _),upd_same,ks.put S1 _,fun S=>?_,?_⟩
    ·rw[xL,hSj,yg,zE,zB,<-or_assoc,<-hS];split
     ·rename_i z
      exact⟨.inl,fun y=>y.elim id fun e=>e ▸ z⟩
     ·rw[zE,zB]
    ·split
     ·omega
     ·rw[qF,yJ];omega
   ·rintro σ H5 ⟨o4,kvs,Ss,rfl,C5,h5,ks,hS,hc5⟩;refine hN _ _ ⟨_,_,kvs,Ss,rfl,j8 nd0 (s3.trans s4) C5,h5,ks,fun S=>?_,by omega⟩;rw[hS,gul,zf,xL,hSi,yg];constructor
    ·rintro(⟨S',h1,h2⟩|z)
     ·exact⟨S',zV _ h1,h2⟩
     ·exact⟨S0,qK _ (zB.mpr rfl),z⟩
    ·rintro⟨S',h1,h2⟩;rcases zE.mp h1 with y|y
     ·exact .inl ⟨S',y,h2⟩
     ·rw[zB.mp y]at h2;exact .inr h2
  ·rintro σ H3 ⟨o3,o4,kvs,Ss,rfl,s3,h3,ks,hS,hc3⟩;rw[ul,zf]at hS;rw[ul]at hc3;(try (walk_at "WP"));(try (refine ze hR_ ?_));(try (refine zi fun R_ hR_=>?_));(try (walk_at "WP"))
   refine⟨d,kvs,rfl,h3,fun a ws na tk=>?_⟩;rw[ks]at tk;have ht:=tks_hts tk;have s4:=zP na (.lst ws);have hn:lvs.length=lvs.length-1+1:=by have:=yH.mpr ln;omega
   refine q a ws Ss _ (s3.free na) (s3.trans s4) upd_same (ht.same s4) (levP_next P1 (yH.mpr ln) hS) ?_ (fun z=>absurd z ln) (fun _=>hS);rw[hn,Nat.pow_succ];have:=Nat.mul_le_mul_right 99 hc;omega
theorem ok_fin (T:Txt K mg):Cal P w K mg base 4 "finishes" ["cores","asked","top"] spFin:=by
 have B:=T.bl;have C_made:=ok_madeT (P:=P) (w:=w) (base:=base) T;refine yK (T.t 17 _ rfl) sc_finishes (fun vs H Q E h=>?_) (fun f cdv A outer s H vs Q E hr h=>?_)
 ·obtain⟨_,_,_,_,_,rfl,_⟩:=h;rfl
 obtain⟨c,l,cs,as,top,rfl,hc,hl,al,O,t1,t2,cl,q⟩:=h;refine⟨_,((@pss_cons _ _ _ _ _ (@jN _ _ _ _ (3) _ _ _ _ _ _ _ (["odd","cores"]) (1) ([0]) _ _ _ rfl (@pi_list _ _ _ _ (pv 1)) (fun nd C s H fp=>⟨(@zY _ _ (0) _ nd rfl (by walk_at "o") (by walk_at "o")),(@JS _ _ _ (@pt_cmpR _ _ _ _ _ _ _ _ (@Jr _ K (by rfl)) (pv 0) (pv 1) (by with_unfolding_all rfl))),(pv 0)⟩) (by decide +kernel) (by first|rfl|decide +kernel) (by first|rfl|decide +kernel) rfl (fun _=>rfl) sc_finishes.nd rfl (by walk_at "o") (by walk_at "o") rfl) (@pss_one _ _ _ (@ps_ret _ _ _ _ (@pe_or _ _ _ _ _ _ _ (@pe_cmpR _ _ _ _ _ _ _ _ op_eq (@pe_callB _ _ _ _ _ _ _ _ _ yz rfl B.len xP (@pa_cons _ _ _ _ _ (pv 3) pa_nil (by rfl)) (by decide) (by decide) (by rfl) (by rfl)) pe_int (@zh _ _ (by decide) (by decide))) (@jc _ _ _ _ _ (@JP _ _ _ _ _ _ _ (@pe_cmpR _ _ _ _ _ _ _ _ op_eq (@pe_callB _ _ _ _ _ _ _ _ _ yz rfl B.len xP (@pa_cons _ _ _ _ _ (pv 3) pa_nil (by rfl)) (by decide) (by decide) (by rfl) (by rfl)) pe_int (@zh _ _ (by decide) (by decide))) (@jc _ _ _ _ _ (@pe_cmpR _ _ _ _ _ _ _ _ op_in_seq (@pe_ix _ _ _ _ _ _ _ ix_M (pv 3) pe_int (fun _ _=>rfl)) (@pe_cal _ _ _ _ _ _ _ _ _ _ C_made hr rfl (@pa_cons _ _ _ _ _ (pv 0) (@pa_cons _ _ _ _ _ (pv 2) pa_nil (by rfl)) (by rfl)) (by decide) (by rfl) (by rfl)) (by with_unfolding_all rfl)))))))))),?_⟩
 walk_at "S"
 try walk_at "WP"
 refine⟨⟨_,SqL.of hl⟩,?_⟩;have ecap:∀o,yG [0] [some (V.ref c),some (V.ref l),some (V.int top),o]=[some (V.ref c)]:=fun _=>rfl;refine JT (f:=notV cs) (SqL.of hl) (by rw[qC];exact xR (by omega)) (fun x H' R hx hS' hR=>?_) (fun a na=>?_)
 ·obtain⟨o,ho,rfl⟩:=qP.mp hx;rw[ecap]
  try walk_at "WP"
  have hin:=inV_i cs o;refine⟨c,_,rfl,.inr (SqT.of (hS' _ _ hc)),rfl,y3 cs,?_⟩;rw[if_pos rfl,hin];by_cases z:o∈cs
  ·rw[show notV cs (V.int o)=none from if_pos z]at hR;rw[decide_eq_true z];exact⟨_,rfl,hR⟩
  ·rw[show notV cs (V.int o)=some (V.int o) from if_neg z]at hR;rw[decide_eq_false z];exact⟨_,rfl,hR⟩
 rw[Jh,show(as.filter fun o=>decide (o∉cs))=lackL cs as from rfl];refine ye na fun H2 s2 h2=>?_;have ll:((lackL cs as).map V.int).length=(lackL cs as).length:=qC ..;refine⟨a,rfl,_,h2,?_⟩;refine yq (fun z=>?_) (fun z=>?_)
 ·exact q true H2 s2 ⟨fun _=>.inl (zU (by rw[ll]at z;omega)),fun _=>rfl⟩
 refine⟨a,rfl,_,h2,?_⟩;refine yq (fun z2=>?_) (fun z2=>?_)
 ·obtain⟨o,eo⟩:∃o,lackL cs as=[o]:=xW.mp (by rw[ll]at z2;omega);rw[eo]at h2
  (iterate 5 ((try (walk_at "WP"));(try (simp only[h2,qJs,qJt,qJl,qJd,exists_eq_left',exists_eq_left]))));(try (walk_at "WP"))
  refine⟨V.int o,rfl,c,cs,top,rfl,SqT.of (s2 _ _ hc),O,t1,t2,cl,fun m H3 n3 s3 h3=>?_⟩;refine⟨m,_,rfl,.inl (SqL.of h3),rfl,y3 _,?_⟩;rw[inV_i];refine q _ H3 (s2.trans s3) ?_;rw[fin_one eo];simp
 ·refine q false H2 s2 ⟨fun h=>absurd h (by decide),fun h=>absurd h (fin_more (by rw[ll]at z z2;omega))⟩
theorem ok_wall (T:Txt K mg):Cal P w K mg base 4 "with_all" ["cores","asked"] spWAll:=by
 have B:=T.bl;refine yK (T.t 24 _ rfl) sc_with_all (fun vs H Q E h=>?_) (fun f cdv A outer s H vs Q E hr h=>?_)
 ·obtain⟨_,_,_,_,rfl,_⟩:=h;rfl
 obtain⟨c,l,cs,as,rfl,hc,hl,al,cl,cn,q⟩:=h;refine⟨_,((@pss_one _ _ _ (@ps_ret _ _ _ _ (@pe_op _ _ _ _ _ _ _ _ op_catT (pv 0) (@pe_callTy _ _ _ _ _ _ _ _ _ xj rfl B.tuple j0 (@pa_cons _ _ _ _ _ (@pe_comp0 _ _ _ _ _ _ _ _ (["odd","cores"]) (1) ([0]) _ _ _ rfl (@pi_list _ _ _ _ (pv 1)) (fun nd C s H fp=>⟨(@zY _ _ (0) _ nd rfl (by walk_at "o") (by walk_at "o")),(@JS _ _ _ (@pt_cmpR _ _ _ _ _ _ _ _ (@Jr _ K (by rfl)) (pv 0) (pv 1) (by with_unfolding_all rfl))),(pv 0)⟩) (by decide +kernel) (by first|rfl|decide +kernel) (by first|rfl|decide +kernel) rfl (fun _=>rfl)) pa_nil (by rfl)) (by decide) (by decide) (by rfl) (by rfl)))))),?_⟩
 walk_at "S"
 try walk_at "WP"
 refine⟨⟨_,SqL.of hl⟩,?_⟩;refine JT (f:=notV cs) (SqL.of hl) (by rw[qC];exact xR (by omega)) (fun x H' R hx hS' hR=>?_) (fun a na=>?_)
 ·obtain⟨o,ho,rfl⟩:=qP.mp hx;rw[show yG [0] [some (V.ref c),some (V.ref l)]=[some (V.ref c)] from rfl]
  try walk_at "WP"
  have hin:=inV_i cs o;refine⟨c,_,rfl,.inr (SqT.of (hS' _ _ hc)),rfl,y3 cs,?_⟩;rw[if_pos rfl,hin];by_cases z:o∈cs
  ·rw[show notV cs (V.int o)=none from if_pos z]at hR;rw[decide_eq_true z];exact⟨_,rfl,hR⟩
  ·rw[show notV cs (V.int o)=some (V.int o) from if_neg z]at hR;rw[decide_eq_false z];exact⟨_,rfl,hR⟩
 rw[Jh,show(as.filter fun o=>decide (o∉cs))=lackL cs as from rfl];refine ye na fun H2 s2 h2=>?_;refine⟨a,rfl,_,.inl ⟨SqL.of h2,fun l2 n2=>?_⟩⟩;refine ye n2 fun H3 s3 h3=>?_;have hc3:=(s2.trans s3) _ _ hc;have lk:(lackL cs as).length<=as.length:=yb _ _;refine⟨c,l2,_,_,rfl,rfl,SqT.of hc3,SqT.of h3,fun e=>cn (by simpa using e),xR (by rw[qC,qC];omega),fun e=>?_,fun _ p np=>?_⟩
 ·have e2:lackL cs as=[]:=by simpa using e
  exact q c H3 (s2.trans s3) (by rw[e2,zv];exact hc3)
 ·exact q p _ ((s2.trans s3).trans (zP np _)) (by rw[zo];exact upd_same)
theorem ok_fewE (T:Txt K mg) {cst_TooMany:Addr} (X_refuse_beyond0:CalX P w K mg base 1 "refuse_beyond" ["top","most"] (spRefB cst_TooMany)):Cal P w K mg base 6 "fewest" ["numbers","top","most"] (spFewE K):=by
 have B:=T.bl;have C_refuse_beyond:=X_refuse_beyond0.cal.mono (k:=5) (by decide);have C_wanted:=(ok_wanted (P:=P) (w:=w) (base:=base) T).mono (k:=5) (by decide);have C_level_behind:=ok_levX (P:=P) (w:=w) (base:=base) T;have C_row_of:=(ok_rowE (P:=P) (w:=w) (base:=base) T).mono (k:=5) (by decide);have C_finishes:=(ok_fin (P:=P) (w:=w) (base:=base) T).mono (k:=5) (by decide);have C_with_all:=(ok_wall (P:=P) (w:=w) (base:=base) T).mono (k:=5) (by decide);refine yK (T.t 23 _ rfl) sc_fewest (fun vs H Q E h=>?_) (fun f cdv A outer s H vs Q E hr h=>?_)
 ·obtain⟨_,_,_,_,rfl,_⟩:=h;rfl
 obtain⟨l,xs,top,most,rfl,hl,xl,xb,t1,t99,m4,nf,qn,qw⟩:=h;refine⟨_,((@pss_cons _ _ _ _ _ (@ps_expr _ _ _ _ (@pe_cal _ _ _ _ _ _ _ _ _ _ C_refuse_beyond hr rfl (@pa_cons _ _ _ _ _ (pv 1) (@pa_cons _ _ _ _ _ (pv 2) pa_nil (by rfl)) (by rfl)) (by decide) (by rfl) (by rfl)) (by rfl)) (@pss_cons _ _ _ _ _ (@ps_set _ _ (3) _ _ _ _ sc_fewest.nd rfl (by walk_at "o") (@pe_cal _ _ _ _ _ _ _ _ _ _ C_wanted hr rfl (@pa_cons _ _ _ _ _ (pv 0) pa_nil (by rfl)) (by decide) (by rfl) (by rfl)) (by rfl) (by walk_at "o")) (@pss_cons _ _ _ _ _ (@ps_if _ _ _ _ _ _ _ _ (@pt_cmpR _ _ _ _ _ _ _ _ (@op_eqD _ _ hr) (pv 3) (@pe_lst _ _ _ _ pa_nil) (@zh _ _ (by decide) (by decide))) (@pss_one _ _ _ (@ps_ret _ _ _ _ (@pe_tup _ _ _ _ _ (@pa_cons _ _ _ _ _ xf (@pa_cons _ _ _ _ _ (@pe_cal _ _ _ _ _ _ _ _ _ _ C_row_of hr rfl (@pa_cons _ _ _ _ _ (@pe_tup _ _ _ _ _ (@pa_cons _ _ _ _ _ pe_int pa_nil (by rfl))) (@pa_cons _ _ _ _ _ (pv 0) (@pa_cons _ _ _ _ _ (pv 1) pa_nil (by rfl)) (by rfl)) (by rfl)) (by decide) (by rfl) (by rfl)) (@pa_cons _ _ _ _ _ pe_non pa_nil (by rfl)) (by rfl)) (by rfl))))) pss_nil) (@pss_cons _ _ _ _ _ (@ps_set _ _ (4) _ _ _ _ sc_fewest.nd rfl (by walk_at "o") (@pe_lst _ _ _ _ pa_nil) (by rfl) (by walk_at "o")) (@pss_cons _ _ _ _ _ (@ps_whl _ _ _ _ _ _ PassesOwn.never (@pt_cmpR _ _ _ _ _ _ _ _ op_lt (@pe_callB _ _ _ _ _ _ _ _ _ yz rfl B.len xP (@pa_cons _ _ _ _ _ (pv 4) pa_nil (by rfl)) (by decide) (by decide) (by rfl) (by rfl)) (pv 2) (@zh _ _ (by decide) (by decide))) (@pss_cons _ _ _ _ _ (@ps_set _ _ (5) _ _ _ _ sc_fewest.nd rfl (by walk_at "o") (@pe_cal _ _ _ _ _ _ _ _ _ _ C_level_behind hr rfl (@pa_cons _ _ _ _ _ (pv 4) (@pa_cons _ _ _ _ _ (pv 1) pa_nil (by rfl)) (by rfl)) (by decide) (by rfl) (by rfl)) (by rfl) (by walk_at "o")) (@pss_cons _ _ _ _ _ (@jN _ _ _ _ (6) _ _ _ _ _ _ _ (["cores","asked","top"]) (1) ([3,1]) _ _ _ rfl (@pi_list _ _ _ _ (pv 5)) (fun nd C s H fp=>⟨(@zY _ _ (0) _ nd rfl (by walk_at "o") (by walk_at "o")),(@JS _ _ _ (@pt_val _ _ _ (@pe_cal _ _ _ _ _ _ _ _ _ _ C_finishes hr rfl (@pa_cons _ _ _ _ _ (pv 0) (@pa_cons _ _ _ _ _ (pv 1) (@pa_cons _ _ _ _ _ (pv 2) pa_nil (by rfl)) (by rfl)) (by rfl)) (by decide) (by rfl) (by rfl)) (by intro _ ;rfl))),(pv 0)⟩) (by decide +kernel) (by first|rfl|decide +kernel) (by first|rfl|decide +kernel) rfl (fun _=>rfl) sc_fewest.nd rfl (by walk_at "o") (by walk_at "o") rfl) (@pss_cons _ _ _ _ _ (@ps_if _ _ _ _ _ _ _ _ (@pt_cmpR _ _ _ _ _ _ _ _ (@op_neE _ _ hr) (pv 6) (@pe_lst _ _ _ _ pa_nil) (@zh _ _ (by decide) (by decide))) (@pss_one _ _ _ (@ps_ret _ _ _ _ (@pe_tup _ _ _ _ _ (@pa_cons _ _ _ _ _ xf (@pa_cons _ _ _ _ _ (@pe_cal _ _ _ _ _ _ _ _ _ _ C_row_of hr rfl (@pa_cons _ _ _ _ _ (@pe_cal _ _ _ _ _ _ _ _ _ _ C_with_all hr rfl (@pa_cons _ _ _ _ _ (@pe_ix _ _ _ _ _ _ _ ix_M (pv 6) pe_int (fun _ _=>rfl)) (@pa_cons _ _ _ _ _ (pv 3) pa_nil (by rfl)) (by rfl)) (by decide) (by rfl) (by rfl)) (@pa_cons _ _ _ _ _ (pv 0) (@pa_cons _ _ _ _ _ (pv 1) pa_nil (by rfl)) (by rfl)) (by rfl)) (by decide) (by rfl) (by rfl)) (@pa_cons _ _ _ _ _ (pv 4) pa_nil (by rfl)) (by rfl)) (by rfl))))) pss_nil) (@pss_one _ _ _ (@ps_expr _ _ _ _ (@pe_bm _ _ _ _ _ _ _ _ _ _ _ _ xJ xD xC mt_append (pv 4) (@pa_cons _ _ _ _ _ (pv 5) pa_nil (by rfl)) (by rfl) (by rfl) (by rfl) (by rfl) (by rfl)) (by rfl))))))) (@pss_one _ _ _ (@ps_ret _ _ _ _ (@pe_tup _ _ _ _ _ (@pa_cons _ _ _ _ _ xf (@pa_cons _ _ _ _ _ (pv 4) pa_nil (by rfl)) (by rfl))))))))))),?_⟩
 walk_at "S"
 refine zi fun R_ hR_=>?_
 try walk_at "WP"
 refine⟨top,most,rfl,fun _=>?_,fun hf=>absurd hf nf⟩;(try (walk_at "WP"));(try (refine ze hR_ ?_));(try (refine zi fun R_ hR_=>?_));(try (walk_at "WP"))
 refine⟨l,xs,rfl,hl,xl,fun r H1 nr s1 h1=>?_⟩;(try (walk_at "WP"));(try (refine ze hR_ ?_));(try (refine zi fun R_ hR_=>?_));(try (walk_at "WP"))
 intro e ne;refine ye ne fun H2 s2 h2=>?_;have e2:=s1.trans s2;refine eqLI (ns:=askL xs) (ms:=[]) (SqL.of (s2 _ _ h1)) (SqL.of h2) ?_
 try walk_at "WP"
 refine yq (fun z=>?_) (fun z=>?_)
 ·have ea:askL xs=[]:=by simpa using z
  intro t nt;refine ye nt fun H3 s3 h3=>?_;have e3:=e2.trans s3;refine⟨t,l,[1],xs,top,rfl,h3,e3 _ _ hl,xl,xb,by simp,by decide,⟨1,[1],.one,fun _=>Iff.rfl⟩,t1,t99,fun x hx=>?_,fun w0 dl gl us os ds gs H4 s4 hw hd hds hg hk hu R lg rel=>?_⟩
  ·by_cases x0:x=0
   ·exact .inl x0
   ·refine .inr (zB.mpr ?_);have p:=(yW x0).1;by_cases c1:1<coreN x
    ·have:=mem_ask.mpr ⟨c1,x,hx,rfl⟩;rw[ea]at this;cases this
    ·omega
  ·intro r2 n2;have s5:=zP n2 (.tup [V.str "web",V.ref w0,V.non]);have ul:ds.length=0:=by have:ds.length+1=1:=hu;omega
   exact qw r2 w0 dl gl us os ds gs [1] .non _ ((e3.trans s4).trans s5) upd_same (s5 _ _ hw) (s5 _ _ hd) (hds.same s5) (s5 _ _ hg) (hk.same s5) R (fun c hc=>by rw[zB.mp hc];exact⟨by decide,t1⟩) lg rel (by omega) (by rw[ul];exact few_nil ea) (.inl ⟨ul,rfl⟩)
 ·have ea:askL xs≠[]:=by simpa using z
  have a0:∃x∈askL xs,x≠1:=by
   obtain⟨x,hx⟩:=jL _ ea;exact⟨x,hx,fun e=>by have:=(mem_ask.mp hx).1;omega⟩
  (try (walk_at "WP"));(try (refine ze hR_ ?_));(try (refine zi fun R_ hR_=>?_));(try (walk_at "WP"))
  intro lv nl;have nl0:H lv=none:=e2.free nl;refine ye nl fun H3 s3 hl3=>?_;have h13:H3 r=some (.lst ((askL xs).map V.int)):=s3 _ _ (s2 _ _ h1);have e3:=e2.trans s3;have rl:r≠lv:=zc (s2 _ _ h1) nl;(try (walk_at "WP"));(try (refine ze hR_ ?_));(try (refine zi fun R_ hR_=>?_));(try (walk_at "WP"))
  refine whl (fun m σ H4=>∃(lvs:List V) (Ls:List (List (List Int))) (o5 o6:Option V),σ=[some (.ref l),some (.int top),some (.int most),some (.ref r),some (.ref lv),o5,o6]/\Same H2 H4/\lvs.length+m=most/\Pap H4 lv lvs Ls/\Lvs top (askL xs) Ls/\∀d,d<=lvs.length -> ¬ Cov top d (askL xs)) most ⟨[],[],none,none,rfl,s3,by show 0+most=most;omega,⟨hl3,rfl,fun i L h=>by simp at h⟩,lvs_nil,fun d hd=>by rw[Nat.le_zero.mp hd];exact cov_zero a0⟩ ?_;rintro m σ H4 N ⟨lvs,Ls,o5,o6,rfl,s4,hm,PP,LV,no⟩ hN;have hl4:=PP.lst;have lL:=PP.len
  (iterate 5 ((try (walk_at "WP"));(try (simp only[hl4,qJs,qJt,qJl,qJd,exists_eq_left',exists_eq_left]))));(try (walk_at "WP"))
  refine yq (fun z=>?_) (fun z=>?_)
  ·refine⟨lv,lvs,top,Ls.getLastD [],rfl,hl4,t1,t99,by omega,fun ln=>?_,fun v us L H5 n5 s5 h5 ht5 P5 c5 l0 lnx=>?_⟩
   ·have lp:=yH.mpr ln;have eL:=qA (l:=Ls) (i:=Ls.length-1) (by omega);have gl:Ls.getLast? = some (Ls[Ls.length-1]'(by omega)):=by rw[zx];exact eL
    have gD:Ls.getLastD []=Ls[Ls.length-1]'(by omega):=by rw[List.getLastD_eq_getLast?,gl];rfl
    obtain⟨r',us',a1,a2,a3,a4,a5⟩:=PP.at_ _ _ eL;have P0:=LV.lev _ _ eL;rw[show Ls.length-1+1=lvs.length by omega]at P0;rw[gD];exact⟨r',us',by rw[zx,lL];exact a1,a3,a4,P0,by rw[lL];exact a5⟩
   (try (walk_at "WP"));(try (refine ze hR_ ?_));(try (refine zi fun R_ hR_=>?_));(try (walk_at "WP"))
   have l3:99^lvs.length<=99^3:=qN (by decide) (by omega);have ul:=ht5.len;have al:=ask_len xs;have h15:H5 r=some (.lst ((askL xs).map V.int)):=s5 _ _ (s4 _ _ (s2 _ _ h1));have hl5:=s5 _ _ hl4;have e5:=(e2.trans s4).trans s5;refine⟨⟨_,SqL.of h5⟩,?_⟩;refine comp_sel (fun S=>Fin_ top S (askL xs)) h5 ht5 (by rw[ul];omega) (fun t S H' R hS htS s' hR=>?_) (fun acc ys H6 na s6 ha hy hno=>?_)
   ·rw[show yG [3,1] [some (V.ref l),some (V.int top),some (V.int most),some (V.ref r),some (V.ref lv),some (V.ref v),o6]=[some (V.ref r),some (V.int top)] from rfl]
    try walk_at "WP"
    exact⟨t,r,S,askL xs,top,rfl,s' _ _ htS,s' _ _ h15,by omega,P5.od S hS,t1,t99,by have:=P5.len S hS;omega,fun b H7 s7 hb=>⟨b,rfl,hR b H7 s7 hb⟩⟩
   intro e0 ne0;refine ye ne0 fun H7 s7 h7=>?_;have ha7:=s7 _ _ ha;have e57:=s6.trans s7
   try walk_at "WP"
   refine⟨ys,SqL.of ha7,SqL.of h7,?_⟩
   try walk_at "WP"
   refine yq (fun z=>?_) (fun z=>?_)
   ·cases ys with
    |nil=>exact absurd rfl z
    |cons y0 ys =>
     obtain⟨S,hS,t,rfl,htS,hF⟩:=hy y0 zJ;obtain⟨F1,F2,⟨o,F3⟩,own,F4,F5⟩:=fin_cov P5 hS no hF;have ho:=mem_lack.mp (by rw[F3];exact zB.mpr rfl:o∈lackL S (askL xs));have e7:=e5.trans e57;refine⟨_,ha7,.ref t,x9 (j:=0) rfl,t,r,S,askL xs,rfl,e57 _ _ htS,e57 _ _ h15,by omega,by omega,(fun e=>by rw[e]at F2;cases F2),fun c H8 s8 h8=>?_⟩;have cl:(S++lackL S (askL xs)).length=lvs.length+2:=by rw[qF,F2,F3];rfl
     refine⟨c,l,_,xs,top,rfl,h8,(e7.trans s8) _ _ hl,xl,xb,?_,by omega,⟨_,own,F4,F5⟩,t1,t99,fun x hx=>?_,fun w0 dl gl us2 os2 ds2 gs2 H9 s9 hw hd hds hg hk hu R2 lg rel=>?_⟩
     ·rw[F3,y7];exact⟨P5.nd S hS,by simp,fun x hx y hy e=>ho.2 (by rw[<-zB.mp hy,<-e];exact hx)⟩
     ·by_cases x0:x=0
      ·exact .inl x0
      ·refine .inr ?_;have p:=(yW x0).1;by_cases c1:1<coreN x
       ·have ha:=mem_ask.mpr ⟨c1,x,hx,rfl⟩;by_cases zz:coreN x∈S
        ·exact zV _ zz
        ·exact qK _ (mem_lack.mpr ⟨ha,zz⟩)
       ·rw[show coreN x=1 by omega];exact(F5 1).mpr (JA F4)
     ·intro p np;have s10:=zP np (.tup [V.str "web",V.ref w0,V.ref lv]);have ul2:ds2.length=lvs.length+1:=by omega
      obtain⟨OD,_,_⟩:=F4.ok t1;exact qw p w0 dl gl us2 os2 ds2 gs2 _ _ _ (((e7.trans s8).trans s9).trans s10) upd_same (s10 _ _ hw) (s10 _ _ hd) (hds.same s10) (s10 _ _ hg) (hk.same s10) R2 (fun c hc=>⟨OD.lo c ((F5 c).mp hc),OD.hi c ((F5 c).mp hc)⟩) lg rel (by omega) (.inr ⟨lvs.length+1,by omega,by rw[ul2],F1,fun e he=>no e (by omega)⟩) (.inr ⟨lv,lvs,Ls,rfl,PP.same ((((s5.trans e57).trans s8).trans s9).trans s10),LV,by omega,ea⟩)
   ·have y0:ys=[]:=zU (Classical.not_not.mp z);have hl7:=e57 _ _ hl5;have vl:v≠lv:=(zc hl4 n5).symm;have C8:Chg lv H7 (upd H7 lv (.lst (lvs++[V.ref v]))):=Chg.upd _;have el:(lvs++[V.ref v]).length=lvs.length+1:=by rw[qF,yJ]
    have P8:=(PP.same (s5.trans e57)).app vl (e57 _ _ h5) (ht5.same e57) (by rw[<-lL];exact c5);have L8:Lvs top (askL xs) (Ls++[L]):=LV.snoc (by rw[<-lL];exact P5) (fun z=>l0 (zU (by rw[lL,z];rfl))) (fun L0 h0=>by
     have ln:lvs≠[]:=fun z=>by rw[z]at lL;have:=zU lL.symm;rw[this]at h0;cases h0
     have:=lnx ln;rw[show Ls.getLastD []=L0 by rw[List.getLastD_eq_getLast?,h0];rfl]at this;exact this) (hno y0)
    refine⟨Je hl7,lvs,hl7,jS (by omega),hN (m-1) _ _ (by omega) ⟨lvs++[.ref v],Ls++[L],_,_,rfl,j8 nl ((s4.trans s5).trans e57) C8,by omega,P8,L8,fun d hd=>?_⟩⟩;rw[el]at hd;by_cases dz:d=lvs.length+1
    ·rw[dz];exact nofin_cov P5 (ask_nd xs) (hno y0)
    ·exact no d (by omega)
  ·(try (walk_at "WP"));(try (refine ze hR_ ?_));(try (refine zi fun R_ hR_=>?_));(try (walk_at "WP"))
   intro r2 n2;have s5:=zP n2 (.tup [V.str "none",V.ref lv]);have lm:lvs.length=most:=by omega
   exact qn r2 lv lvs Ls _ ((e2.trans s4).trans s5) upd_same (PP.same s5) LV (by omega) ea (.inl ⟨rfl,fun d hd=>no d (by omega)⟩)
theorem ok_iswG (T:Txt K mg):Cal P w K mg base 1 "is_whole" ["thing"] spWhole:=by
 have B:=T.bl;refine yK (T.t 0 _ rfl) sc_is_whole (fun vs H Q E h=>?_) (fun f cdv A outer s H vs Q E hr h=>?_)
 ·obtain⟨_,rfl,_⟩:=h;rfl
 obtain⟨n,rfl,q⟩:=h;refine⟨_,((@pss_one _ _ _ (@ps_ret _ _ _ _ (@JP _ _ _ _ _ _ _ (@pe_callB _ _ _ _ _ _ _ _ _ jz rfl B.isinstance xH (@pa_cons _ _ _ _ _ (pv 0) (@pa_cons _ _ _ _ _ (@JZ _ _ (.ty "int") _ _ rfl B.int bo_int rfl (by decide) (by decide)) pa_nil (by rfl)) (by rfl)) (by decide) (by decide) (by rfl) (by rfl)) (@jc _ _ _ _ _ (@pe_not _ _ _ _ (@pe_callB _ _ _ _ _ _ _ _ _ jz rfl B.isinstance xH (@pa_cons _ _ _ _ _ (pv 0) (@pa_cons _ _ _ _ _ (@JZ _ _ (.ty "bool") _ _ rfl B.bool bo_bool rfl (by decide) (by decide)) pa_nil (by rfl)) (by rfl)) (by decide) (by decide) (by rfl) (by rfl)))))))),?_⟩
 walk_at "S"
 try walk_at "WP"
 exact q
theorem ok_btwG (T:Txt K mg):Cal P w K mg base 2 "is_between" ["thing","low","high"] spBtwG:=by
 have B:=T.bl;have C_is_whole:=ok_iswG (P:=P) (w:=w) (base:=base) T;refine yK (T.t 2 _ rfl) sc_is_between (fun vs H Q E h=>?_) (fun f cdv A outer s H vs Q E hr h=>?_)
 ·obtain⟨_,_,_,rfl,_⟩:=h;rfl
 obtain⟨n,lo,hi,rfl,h1,h2,q⟩:=h;refine⟨_,((@pss_one _ _ _ (@ps_ret _ _ _ _ (@JP _ _ _ _ _ _ _ (@pe_cal _ _ _ _ _ _ _ _ _ _ C_is_whole hr rfl (@pa_cons _ _ _ _ _ (pv 0) pa_nil (by rfl)) (by decide) (by rfl) (by rfl)) (@jc _ _ _ _ _ (@pe_chain _ _ _ _ _ _ _ _ _ _ _ _ op_le op_le (pv 1) (pv 0) (pv 2) (by with_unfolding_all rfl))))))),?_⟩
 walk_at "S"
 try walk_at "WP"
 refine⟨n,rfl,?_⟩
 try walk_at "WP"
 rw[if_pos h1,decide_eq_true h2];exact q
theorem ok_mask (T:Txt K mg):Cal P w K mg base 1 "mask_of" ["cores"] spMask:=by
 have B:=T.bl;refine yK (T.t 16 _ rfl) sc_mask_of (fun vs H Q E h=>?_) (fun f cdv A outer s H vs Q E hr h=>?_)
 ·rcases h with⟨_,_,rfl,_⟩|⟨_,_,rfl,_⟩<;>rfl
 rcases h with⟨c,S,rfl,hc,hb,hi,hl,q⟩|⟨c,S,rfl,hc,hb,hi,hl,q⟩
 ·refine⟨_,((@pss_one _ _ _ (@ps_ret _ _ _ _ (@pe_callB _ _ _ _ _ _ _ _ _ (@call_sum _ rfl) rfl B.sum bo_sum (@pa_cons _ _ _ _ _ (@pe_comp0 _ _ _ _ _ _ _ _ (["odd"]) (1) ([]) _ _ _ rfl (@pi_tup _ _ _ _ (pv 0)) (fun nd C s H fp=>⟨(@zY _ _ (0) _ nd rfl (by walk_at "o") (by walk_at "o")),xB,(@pe_op _ _ _ _ _ _ _ _ op_shlB pe_int (pv 0))⟩) (by decide +kernel) (by first|rfl|decide +kernel) (by first|rfl|decide +kernel) rfl (fun _=>rfl)) pa_nil (by rfl)) (by decide) (by decide) (by rfl) (by rfl))))),?_⟩
  walk_at "S"
  try walk_at "WP"
  refine⟨⟨_,SqT.of hc⟩,?_⟩;refine comp_T (f:=bitV) (SqT.of hc) (by rw[qC];exact xR (by omega)) (fun y H' R hy hS' hR=>?_) (fun acc hacc=>?_)
  ·obtain⟨n,hn,rfl⟩:=qP.mp hy;rw[show yG [] [some (V.ref c)]=[] from rfl];have:=hb n hn
   try walk_at "WP"
   rw[y9];exact⟨⟨this.1,by omega⟩,hR⟩
  refine⟨acc,_,rfl,by rw[bitV_map];exact upd_same,?_⟩;rw[mask_sum (fun y hy=>(hb y hy).1) hi];exact q _ (zP hacc _)
 ·refine⟨_,((@pss_one _ _ _ (@ps_ret _ _ _ _ (@pe_callB _ _ _ _ _ _ _ _ _ (@call_sum _ rfl) rfl B.sum bo_sum (@pa_cons _ _ _ _ _ (@pe_comp0 _ _ _ _ _ _ _ _ (["odd"]) (1) ([]) _ _ _ rfl (@pi_list _ _ _ _ (pv 0)) (fun nd C s H fp=>⟨(@zY _ _ (0) _ nd rfl (by walk_at "o") (by walk_at "o")),xB,(@pe_op _ _ _ _ _ _ _ _ op_shlB pe_int (pv 0))⟩) (by decide +kernel) (by first|rfl|decide +kernel) (by first|rfl|decide +kernel) rfl (fun _=>rfl)) pa_nil (by rfl)) (by decide) (by decide) (by rfl) (by rfl))))),?_⟩
  walk_at "S"
  try walk_at "WP"
  refine⟨⟨_,SqL.of hc⟩,?_⟩;refine JT (f:=bitV) (SqL.of hc) (by rw[qC];exact xR (by omega)) (fun y H' R hy hS' hR=>?_) (fun acc hacc=>?_)
  ·obtain⟨n,hn,rfl⟩:=qP.mp hy;rw[show yG [] [some (V.ref c)]=[] from rfl];have:=hb n hn
   try walk_at "WP"
   rw[y9];exact⟨⟨this.1,by omega⟩,hR⟩
  refine⟨acc,_,rfl,by rw[bitV_map];exact upd_same,?_⟩;rw[mask_sum (fun y hy=>(hb y hy).1) hi];exact q _ (zP hacc _)
theorem ok_ledOn (T:Txt K mg):Cal P w K mg base 4 "is_led_on" ["cores","masks","top"] spLedOn:=by
 have B:=T.bl;have C_mask_of:=(ok_mask (P:=P) (w:=w) (base:=base) T).mono (k:=3) (by decide);have C_made:=ok_madeT (P:=P) (w:=w) (base:=base) T;refine yK (T.t 15 _ rfl) sc_is_led_on (fun vs H Q E h=>?_) (fun f cdv A outer s H vs Q E hr h=>?_)
 ·obtain⟨_,_,_,_,_,rfl,_⟩:=h;rfl
 obtain⟨c,ml,S,L,top,rfl,hc,hS,hm,hL,ll,t1,t2,q⟩:=h;refine⟨_,((@pss_cons _ _ _ _ _ (@ps_set _ _ (3) _ _ _ _ sc_is_led_on.nd rfl (by walk_at "o") (@pe_cal _ _ _ _ _ _ _ _ _ _ C_mask_of hr rfl (@pa_cons _ _ _ _ _ (pv 0) pa_nil (by rfl)) (by decide) (by rfl) (by rfl)) (by rfl) (by walk_at "o")) (@pss_cons _ _ _ _ _ (@ps_set _ _ (4) _ _ _ _ sc_is_led_on.nd rfl (by walk_at "o") pe_int (by rfl) (by walk_at "o")) (@pss_cons _ _ _ _ _ (@yv _ _ _ _ _ _ _ _ PassesOwn.never rfl (@pi_list _ _ _ _ (pv 1)) (@zY _ _ (5) _ sc_is_led_on.nd rfl (by walk_at "o") (by walk_at "o")) (@pss_one _ _ _ (@ps_if _ _ _ _ _ _ _ _ (@pt_cmpR _ _ _ _ _ _ _ _ op_eq (@pe_op _ _ _ _ _ _ _ _ op_and (pv 5) (pv 3)) (pv 3) (@zh _ _ (by decide) (by decide))) (@pss_one _ _ _ (@ps_set _ _ (4) _ _ _ _ sc_is_led_on.nd rfl (by walk_at "o") (@pe_op _ _ _ _ _ _ _ _ op_or (pv 4) (pv 5)) (by rfl) (by walk_at "o"))) pss_nil)) (by intro _ ;rfl)) (@pss_cons _ _ _ _ _ (@ps_set _ _ (6) _ _ _ _ sc_is_led_on.nd rfl (by walk_at "o") (@pe_cal _ _ _ _ _ _ _ _ _ _ C_mask_of hr rfl (@pa_cons _ _ _ _ _ (@pe_cal _ _ _ _ _ _ _ _ _ _ C_made hr rfl (@pa_cons _ _ _ _ _ (pv 0) (@pa_cons _ _ _ _ _ (pv 2) pa_nil (by rfl)) (by rfl)) (by decide) (by rfl) (by rfl)) pa_nil (by rfl)) (by decide) (by rfl) (by rfl)) (by rfl) (by walk_at "o")) (@pss_one _ _ _ (@ps_ret _ _ _ _ (@pe_cmpR _ _ _ _ _ _ _ _ op_eq (@pe_op _ _ _ _ _ _ _ _ op_and (pv 6) (pv 4)) (pv 6) (@zh _ _ (by decide) (by decide)))))))))),?_⟩
 walk_at "S"
 try walk_at "WP"
 have hs:=hS.od;have ms:∀y∈S,0<=y:=fun y hy=>by have:=hs.lo y hy;omega
 refine .inl ⟨c,S,rfl,hc,fun x hx=>?_,hS.inc,by have:=hS.len;omega,fun H1 s1=>?_⟩
 ·have:=hs.lo x hx;have:=hs.hi x hx;omega
 try walk_at "WP"
 have hm1:=s1 _ _ hm;refine⟨⟨_,SqL.of hm1⟩,?_⟩;refine forL (xs:=L.map fun S'=>V.int (maskN S':Nat)) (fun i σ H'=>∃o5:Option V,σ=[some (V.ref c),some (V.ref ml),some (V.int top),some (V.int (maskN S:Nat)),some (V.int (maskN (rchL S (L.take i)):Nat)),o5,none]/\H'=H1) ⟨_,rfl,rfl⟩ ?_ ?_ ?_
 ·rintro i σ H' _ ⟨_,rfl,rfl⟩;exact SqL.of hm1
 ·rintro i x σ H' N hx ⟨o5,rfl,rfl⟩ hN;rw[qI]at hx;obtain⟨S',eS,rfl⟩:=zy.mp hx
  try walk_at "WP"
  have hS':=hL S' (qE eS);rw[and_nat,or_nat];have e:=rch_snoc (S:=S) eS;refine yq (fun z=>?_) (fun z=>?_)
  ·have z:=(jj ms hS').mp (Int.ofNat.inj z);rw[if_pos (supB_iff.mpr z)]at e;exact hN _ _ ⟨_,by rw[e,mask_app],rfl⟩
  ·have z:¬ SupB S S'=true:=fun h=>z (congrArg Int.ofNat ((jj ms hS').mpr (supB_iff.mp h)));rw[if_neg z,zv]at e;exact hN _ _ ⟨_,by rw[e],rfl⟩
 ·rintro σ H' ⟨o5,rfl,rfl⟩;rw[qC,zf]
  try walk_at "WP"
  refine⟨c,S,top,rfl,SqT.of (s1 _ _ hc),hs,t1,t2,by have:=hS.len;omega,fun l H2 n2 s2 h2=>?_⟩;have ml:=made_len (xs:=S) t2;refine .inr ⟨l,_,rfl,h2,fun x hx=>?_,made_inc S top,by omega,fun H3 s3=>?_⟩
  ·have:=jQ hx;omega
  try walk_at "WP"
  rw[and_nat];refine q _ H3 ((s1.trans s2).trans s3) ?_;rw[<-led_iff (made_nn) hL,decide_eq_true_eq];exact⟨fun h=>Int.ofNat.inj h,fun h=>congrArg Int.ofNat h⟩
theorem ok_leads (T:Txt K mg):Cal P w K mg base 5 "leads_on" ["level","following","top"] spLeads:=by
 have B:=T.bl;have C_mask_of:=(ok_mask (P:=P) (w:=w) (base:=base) T).mono (k:=4) (by decide);have C_is_led_on:=ok_ledOn (P:=P) (w:=w) (base:=base) T;refine yK (T.t 14 _ rfl) sc_leads_on (fun vs H Q E h=>?_) (fun f cdv A outer s H vs Q E hr h=>?_)
 ·obtain⟨_,_,_,_,_,_,_,rfl,_⟩:=h;rfl
 obtain⟨c,d,us,ws,L,L',top,rfl,hc,hu,hd,hw,oL,oL',l1,l2,t1,t2,q⟩:=h;refine⟨_,((@pss_cons _ _ _ _ _ (@ps_set _ _ (3) _ _ _ _ sc_leads_on.nd rfl (by walk_at "o") (@pe_comp0 _ _ _ _ _ _ _ _ (["cores"]) (1) ([]) _ _ _ rfl (@pi_list _ _ _ _ (pv 1)) (fun nd C s H fp=>⟨(@zY _ _ (0) _ nd rfl (by walk_at "o") (by walk_at "o")),xB,(@pe_cal _ _ _ _ _ _ _ _ _ _ C_mask_of hr rfl (@pa_cons _ _ _ _ _ (pv 0) pa_nil (by rfl)) (by decide) (by rfl) (by rfl))⟩) (by decide +kernel) (by first|rfl|decide +kernel) (by first|rfl|decide +kernel) rfl (fun _=>rfl)) (by rfl) (by walk_at "o")) (@pss_one _ _ _ (@ps_ret _ _ _ _ (@pe_callB _ _ _ _ _ _ _ _ _ (@call_all _ rfl) rfl B.all bo_all (@pa_cons _ _ _ _ _ (@pe_comp0 _ _ _ _ _ _ _ _ (["cores","masks","top"]) (1) ([3,2]) _ _ _ rfl (@pi_list _ _ _ _ (pv 0)) (fun nd C s H fp=>⟨(@zY _ _ (0) _ nd rfl (by walk_at "o") (by walk_at "o")),xB,(@pe_cal _ _ _ _ _ _ _ _ _ _ C_is_led_on hr rfl (@pa_cons _ _ _ _ _ (pv 0) (@pa_cons _ _ _ _ _ (pv 1) (@pa_cons _ _ _ _ _ (pv 2) pa_nil (by rfl)) (by rfl)) (by rfl)) (by decide) (by rfl) (by rfl))⟩) (by decide +kernel) (by first|rfl|decide +kernel) (by first|rfl|decide +kernel) rfl (fun _=>rfl)) pa_nil (by rfl)) (by decide) (by decide) (by rfl) (by rfl)))))),?_⟩
 walk_at "S"
 try walk_at "WP"
 refine⟨⟨_,SqL.of hd⟩,?_⟩;refine comp_zsL (L'.map fun S'=>V.int (maskN S':Nat)) (by rw[qC,hw.len]) (SqL.of hd) (szL (by rw[hw.len];exact zR l2 (by decide))) (fun i x z H' R hx hz s' hR=>?_) (fun ml H1 n1 s1 h1=>?_)
 ·rw[qI]at hz;obtain⟨S',eS,rfl⟩:=zy.mp hz;obtain⟨p,hp1,hp2⟩:=hw.at_ i S' eS;rw[hx]at hp1;cases hp1
  have ok:=oL' S' (qE eS)
  try walk_at "WP"
  refine .inl ⟨p,S',rfl,s' _ _ hp2,fun x hx=>⟨by have:=ok.od.lo x hx;omega,by have:=ok.od.hi x hx;omega⟩,ok.inc,by have:=ok.len;omega,fun H2 s2=>hR H2 s2⟩
 try walk_at "WP"
 refine⟨⟨_,SqL.of (s1 _ _ hc)⟩,?_⟩;refine JB (fun i b=>∀S,L[i]? = some S->(b=true↔LedP top S L')) (SqL.of (s1 _ _ hc)) (szL (by rw[hu.len];exact zR l1 (by decide))) (fun i x H' R hx s' hR=>?_) (fun acc bs H2 n2 s2 h2 bl hB=>?_)
 ·obtain⟨S,eS⟩:∃S,L[i]? = some S:=⟨_,qA (by rw[<-hu.len];exact(qB.mp hx).1)⟩;obtain⟨p,hp1,hp2⟩:=hu.at_ i S eS;rw[hx]at hp1;cases hp1
  rw[show yG [3,2] [some (V.ref c),some (V.ref d),some (V.int top),some (V.ref ml)]=[some (V.ref ml),some (V.int top)] from rfl]
  try walk_at "WP"
  refine⟨p,ml,S,L',top,rfl,(s1.trans s') _ _ hp2,oL S (qE eS),s' _ _ h1,fun S' hS' n hn=>by have:=(oL' S' hS').od.lo n hn;omega,l2,t1,t2,fun b H5 s5 hb=>hR b H5 s5 fun S2 e2=>?_⟩;rw[eS]at e2;cases e2
  exact hb
 refine⟨acc,bs,rfl,h2,?_⟩;refine q _ H2 (s1.trans s2) ?_;rw[all_iff (bl.trans hu.len) (p:=fun i=>∀S,L[i]? = some S->LedP top S L') (fun i b e=>?_)]
 ·constructor
  ·intro h S hS;obtain⟨i,e⟩:=zk.mp hS;exact h i (qB.mp e).1 S e
  ·intro h i _ S e;exact h S (qE e)
 ·have hi:i<L.length:=by rw[<-hu.len,<-bl];exact(qB.mp e).1
  have eS:=qA hi;have:=hB i b e _ eS;rw[this];exact⟨fun h S z=>by rw[eS]at z;cases z;exact h,fun h=>h _ eS⟩
theorem ok_coreSet (T:Txt K mg):Cal P w K mg base 3 "is_core_set" ["cores","top"] spCoreSet:=by
 have B:=T.bl;have C_is_between:=ok_btwG (P:=P) (w:=w) (base:=base) T;refine yK (T.t 13 _ rfl) zAN (fun vs H Q E h=>?_) (fun f cdv A outer s H vs Q E hr h=>?_)
 ·obtain⟨_,_,_,rfl,_⟩:=h;rfl
 obtain⟨c,S,top,rfl,hc,ok,q⟩:=h;refine⟨_,((@pss_cons _ _ _ _ _ (@ps_if _ _ _ _ _ _ _ _ (@PW.pt _ _ _ (@pw_or _ _ _ _ _ _ _ (@pt_not _ _ _ _ (@pt_val _ _ _ (@pe_callB _ _ _ _ _ _ _ _ _ jz rfl B.isinstance xH (@pa_cons _ _ _ _ _ (pv 0) (@pa_cons _ _ _ _ _ (@JZ _ _ (.ty "tuple") _ _ rfl B.tuple j0 rfl (by decide) (by decide)) pa_nil (by rfl)) (by rfl)) (by decide) (by decide) (by rfl) (by rfl)) (by intro _ ;rfl))) (@pw_or1 _ _ _ _ (@pt_not _ _ _ _ (@pt_val _ _ _ (@pe_callB _ _ _ _ _ _ _ _ _ (@call_all _ rfl) rfl B.all bo_all (@pa_cons _ _ _ _ _ (@pe_comp0 _ _ _ _ _ _ _ _ (["odd","top"]) (1) ([1]) _ _ _ rfl (@pi_tup _ _ _ _ (pv 0)) (fun nd C s H fp=>⟨(@zY _ _ (0) _ nd rfl (by walk_at "o") (by walk_at "o")),xB,(@JP _ _ _ _ _ _ _ (@pe_cal _ _ _ _ _ _ _ _ _ _ C_is_between hr rfl (@pa_cons _ _ _ _ _ (pv 0) (@pa_cons _ _ _ _ _ pe_int (@pa_cons _ _ _ _ _ (pv 1) pa_nil (by rfl)) (by rfl)) (by rfl)) (by decide) (by rfl) (by rfl)) (@jc _ _ _ _ _ (@pe_cmpR _ _ _ _ _ _ _ _ op_eq (@pe_op _ _ _ _ _ _ _ _ op_and (pv 0) pe_int) pe_int (@zh _ _ (by decide) (by decide)))))⟩) (by decide +kernel) (by first|rfl|decide +kernel) (by first|rfl|decide +kernel) rfl (fun _=>rfl)) pa_nil (by rfl)) (by decide) (by decide) (by rfl) (by rfl)) (by intro _ ;rfl)))))) (@pss_one _ _ _ (@ps_ret _ _ _ _ pe_bl)) pss_nil) (@pss_one _ _ _ (@ps_ret _ _ _ _ (@pe_callB _ _ _ _ _ _ _ _ _ (@call_all _ rfl) rfl B.all bo_all (@pa_cons _ _ _ _ _ (@pe_comp0 _ _ _ _ _ _ _ _ (["one","other"]) (2) ([]) _ _ _ rfl (@pi_zip2 _ _ _ _ _ _ _ _ _ rfl B.zip (@pa_cons _ _ _ _ _ (pv 0) (@pa_cons _ _ _ _ _ (@pe_slice _ _ _ _ _ _ _ _ _ _ sl_tupA (pv 0) (@po_some _ _ _ pe_int) po_none) pa_nil (by rfl)) (by rfl)) (by rfl) (by rfl)) (fun nd C s H fp=>⟨(@pg_tupM _ _ _ _ _ 2 rfl (@xu _ _ _ _ _ (@zY _ _ (0) _ nd rfl (by walk_at "o") (by walk_at "o")) (@xu _ _ _ _ _ (@zY _ _ (1) _ nd rfl (by walk_at "o") (by walk_at "o")) pgs_nil (by rfl)) (by rfl)) (by rfl) (by rfl)),xB,(@pe_cmpR _ _ _ _ _ _ _ _ op_lt (pv 0) (pv 1) (@zh _ _ (by decide) (by decide)))⟩) (by decide +kernel) (by first|rfl|decide +kernel) (by first|rfl|decide +kernel) rfl (fun _=>rfl)) pa_nil (by rfl)) (by decide) (by decide) (by rfl) (by rfl)))))),?_⟩
 walk_at "S"
 try walk_at "WP"
 rw[isI_tt hc];refine⟨true,rfl,?_⟩;rw[if_neg (by decide)];refine⟨⟨_,SqT.of hc⟩,?_⟩;refine comp_blT (fun _ b=>b=true) (SqT.of hc) (xR (by rw[qC];have:=ok.len;omega)) (fun i x H' R hx s' hR=>?_) (fun acc bs H1 n1 s1 h1 bl hB=>?_)
 ·obtain⟨n,hn,rfl⟩:=qP.mp (qE hx);rw[show yG [1] [some (V.ref c),some (V.int top)]=[some (V.int top)] from rfl];have e:=ok.od.odd n hn
  try walk_at "WP"
  refine⟨n,1,top,rfl,ok.od.lo n hn,ok.od.hi n hn,?_⟩
  try walk_at "WP"
  rw[and1,decide_eq_true e];exact hR true H' (Same.refl _) rfl
 have ea:bs.all id=true:=yT.mpr fun b hb=>by
  obtain⟨i,e⟩:=zk.mp hb;exact hB i b e
 refine⟨acc,bs,rfl,h1,true,by rw[ea],?_⟩;rw[if_neg (by decide)];refine sl_from (c:=1) (SqT.of (s1 _ _ hc)) (by rw[qC];exact yH.mpr ok.ne) (fun r H2 s2 h2=>?_);have hc2:=SqT.of (K:=K) (s2 _ _ (s1 _ _ hc));refine⟨c,r,⟨rfl,rfl⟩,_,_,.inr ⟨hc2,h2,?_⟩⟩;refine comp_zipT1 hc2 h2 (qQ ((S.map V.int).drop 1).length (V.bl true)) (by rw[qL]) (by rw[zu];omega) (by rw[zu,qC];have:=ok.len;omega) (fun i x y z H' R hx hy hz s' hR=>?_) (fun acc2 H3 n3 s3 h3=>?_)
 ·rw[yQ,qI]at hy;rw[qI]at hx;obtain⟨m,em,rfl⟩:=zy.mp hx;obtain⟨n,en,rfl⟩:=zy.mp hy;have lt:m<n:=by
   obtain⟨z1,z2⟩:=qB.mp em;obtain⟨z3,z4⟩:=qB.mp en;rw[<-z2,<-z4];exact List.pairwise_iff_getElem.mp ok.inc _ _ z1 z3 (by omega)
  rw[List.eq_of_mem_replicate (qE hz)]at hR;rw[show yG [] [some (V.ref c),some (V.int top)]=[] from rfl]
  try walk_at "WP"
  rw[decide_eq_true lt];exact hR _ (Same.refl _)
 refine⟨acc2,qQ ((S.map V.int).drop 1).length true,rfl,by rw[h3,List.map_replicate],?_⟩;rw[show(qQ ((S.map V.int).drop 1).length true).all id=true from yT.mpr fun b hb=>List.eq_of_mem_replicate hb];exact q H3 ((s1.trans s2).trans s3)
theorem ok_levelV (T:Txt K mg):Cal P w K mg base 4 "is_level" ["level","top"] spLevelV:=by
 have B:=T.bl;have C_is_core_set:=ok_coreSet (P:=P) (w:=w) (base:=base) T;refine yK (T.t 12 _ rfl) sc_is_level (fun vs H Q E h=>?_) (fun f cdv A outer s H vs Q E hr h=>?_)
 ·obtain⟨_,_,_,_,rfl,_⟩:=h;rfl
 obtain⟨c,us,L,top,rfl,hc,hu,ok,ll,q⟩:=h;refine⟨_,((@pss_one _ _ _ (@ps_ret _ _ _ _ (@JP _ _ _ _ _ _ _ (@pe_callB _ _ _ _ _ _ _ _ _ jz rfl B.isinstance xH (@pa_cons _ _ _ _ _ (pv 0) (@pa_cons _ _ _ _ _ (@JZ _ _ (.ty "list") _ _ rfl B.list bo_list rfl (by decide) (by decide)) pa_nil (by rfl)) (by rfl)) (by decide) (by decide) (by rfl) (by rfl)) (@jc _ _ _ _ _ (@pe_callB _ _ _ _ _ _ _ _ _ (@call_all _ rfl) rfl B.all bo_all (@pa_cons _ _ _ _ _ (@pe_comp0 _ _ _ _ _ _ _ _ (["cores","top"]) (1) ([1]) _ _ _ rfl (@pi_list _ _ _ _ (pv 0)) (fun nd C s H fp=>⟨(@zY _ _ (0) _ nd rfl (by walk_at "o") (by walk_at "o")),xB,(@pe_cal _ _ _ _ _ _ _ _ _ _ C_is_core_set hr rfl (@pa_cons _ _ _ _ _ (pv 0) (@pa_cons _ _ _ _ _ (pv 1) pa_nil (by rfl)) (by rfl)) (by decide) (by rfl) (by rfl))⟩) (by decide +kernel) (by first|rfl|decide +kernel) (by first|rfl|decide +kernel) rfl (fun _=>rfl)) pa_nil (by rfl)) (by decide) (by decide) (by rfl) (by rfl))))))),?_⟩
 walk_at "S"
 try walk_at "WP"
 rw[isI_ll hc];refine⟨true,rfl,?_⟩;rw[if_pos rfl];refine⟨⟨_,SqL.of hc⟩,?_⟩;refine JB (fun _ b=>b=true) (SqL.of hc) (szL (by rw[hu.len];exact zR ll (by decide))) (fun i x H' R hx s' hR=>?_) (fun acc bs H1 n1 s1 h1 bl hB=>?_)
 ·obtain⟨S,eS⟩:∃S,L[i]? = some S:=⟨_,qA (by rw[<-hu.len];exact(qB.mp hx).1)⟩;obtain⟨p,hp1,hp2⟩:=hu.at_ i S eS;rw[hx]at hp1;cases hp1
  rw[show yG [1] [some (V.ref c),some (V.int top)]=[some (V.int top)] from rfl]
  try walk_at "WP"
  exact⟨p,S,top,rfl,s' _ _ hp2,ok S (qE eS),fun H5 s5=>hR true H5 s5 rfl⟩
 have ea:bs.all id=true:=yT.mpr fun b hb=>by
  obtain⟨i,e⟩:=zk.mp hb;exact hB i b e
 refine⟨acc,bs,rfl,h1,?_⟩;rw[ea];exact q H1 s1
theorem ok_paperV (T:Txt K mg):Cal P w K mg base 5 "is_paper" ["paper","top","most"] spPaperV:=by
 have B:=T.bl;have C_is_level:=ok_levelV (P:=P) (w:=w) (base:=base) T;refine yK (T.t 11 _ rfl) sc_is_paper (fun vs H Q E h=>?_) (fun f cdv A outer s H vs Q E hr h=>?_)
 ·obtain⟨_,_,_,_,rfl,_⟩:=h;rfl
 obtain⟨lv,lvs,Ls,top,rfl,hp,ok,ll,q⟩:=h;refine⟨_,((@pss_one _ _ _ (@ps_ret _ _ _ _ (@JP _ _ _ _ _ _ _ (@pe_callB _ _ _ _ _ _ _ _ _ jz rfl B.isinstance xH (@pa_cons _ _ _ _ _ (pv 0) (@pa_cons _ _ _ _ _ (@JZ _ _ (.ty "list") _ _ rfl B.list bo_list rfl (by decide) (by decide)) pa_nil (by rfl)) (by rfl)) (by decide) (by decide) (by rfl) (by rfl)) (@JP _ _ _ _ _ _ _ (@pe_cmpR _ _ _ _ _ _ _ _ op_eq (@pe_callB _ _ _ _ _ _ _ _ _ yz rfl B.len xP (@pa_cons _ _ _ _ _ (pv 0) pa_nil (by rfl)) (by decide) (by decide) (by rfl) (by rfl)) (pv 2) (@zh _ _ (by decide) (by decide))) (@jc _ _ _ _ _ (@pe_callB _ _ _ _ _ _ _ _ _ (@call_all _ rfl) rfl B.all bo_all (@pa_cons _ _ _ _ _ (@pe_comp0 _ _ _ _ _ _ _ _ (["level","top"]) (1) ([1]) _ _ _ rfl (@pi_list _ _ _ _ (pv 0)) (fun nd C s H fp=>⟨(@zY _ _ (0) _ nd rfl (by walk_at "o") (by walk_at "o")),xB,(@pe_cal _ _ _ _ _ _ _ _ _ _ C_is_level hr rfl (@pa_cons _ _ _ _ _ (pv 0) (@pa_cons _ _ _ _ _ (pv 1) pa_nil (by rfl)) (by rfl)) (by decide) (by rfl) (by rfl))⟩) (by decide +kernel) (by first|rfl|decide +kernel) (by first|rfl|decide +kernel) rfl (fun _=>rfl)) pa_nil (by rfl)) (by decide) (by decide) (by rfl) (by rfl)))))))),?_⟩
 walk_at "S"
 try walk_at "WP"
 have hc:=hp.lst;rw[isI_ll hc];refine⟨true,rfl,?_⟩;rw[if_pos rfl];refine⟨_,hc,?_⟩;rw[if_pos (show(lvs.length:Int)=(Ls.length:Int) by rw[hp.len])];refine⟨⟨_,SqL.of hc⟩,?_⟩;refine JB (fun _ b=>b=true) (SqL.of hc) (xR (by rw[hp.len];omega)) (fun i x H' R hx s' hR=>?_) (fun acc bs H1 n1 s1 h1 bl hB=>?_)
 ·obtain⟨L,eL⟩:∃L,Ls[i]? = some L:=⟨_,qA (by rw[<-hp.len];exact(qB.mp hx).1)⟩;obtain⟨p,us,hp1,_,hp2,hp3,_⟩:=hp.at_ i L eL;rw[hx]at hp1;cases hp1
  have o:=ok L (qE eL);rw[show yG [1] [some (V.ref lv),some (V.int top),some (V.int (Ls.length:Nat))]=[some (V.int top)] from rfl]
  try walk_at "WP"
  exact⟨p,us,L,top,rfl,s' _ _ hp2,hp3.same s',o.2,o.1,fun H5 s5=>hR true H5 s5 rfl⟩
 have ea:bs.all id=true:=yT.mpr fun b hb=>by
  obtain⟨i,e⟩:=zk.mp hb;exact hB i b e
 refine⟨acc,bs,rfl,h1,?_⟩;rw[ea];exact q H1 s1
theorem ok_showsV (T:Txt K mg) {cst_TooMany:Addr} (X_refuse_beyond0:CalX P w K mg base 1 "refuse_beyond" ["top","most"] (spRefB cst_TooMany)):Cal P w K mg base 7 "shows" ["paper","numbers","top","most"] spShowsV:=by
 have B:=T.bl;have C_refuse_beyond:=X_refuse_beyond0.cal.mono (k:=6) (by decide);have C_is_paper:=(ok_paperV (P:=P) (w:=w) (base:=base) T).mono (k:=6) (by decide);have C_wanted:=(ok_wanted (P:=P) (w:=w) (base:=base) T).mono (k:=6) (by decide);have C_leads_on:=(ok_leads (P:=P) (w:=w) (base:=base) T).mono (k:=6) (by decide);have C_finishes:=(ok_fin (P:=P) (w:=w) (base:=base) T).mono (k:=6) (by decide);refine yK (T.t 10 _ rfl) sc_shows (fun vs H Q E h=>?_) (fun f cdv A outer s H vs Q E hr h=>?_)
 ·obtain⟨_,_,_,_,_,_,rfl,_⟩:=h;rfl
 obtain⟨lv,nl,lvs,Ls,xs,top,rfl,hp,ok,ll,nf,t1,t2,hn,xl,q⟩:=h;refine⟨_,((@pss_cons _ _ _ _ _ (@ps_expr _ _ _ _ (@pe_cal _ _ _ _ _ _ _ _ _ _ C_refuse_beyond hr rfl (@pa_cons _ _ _ _ _ (pv 2) (@pa_cons _ _ _ _ _ (pv 3) pa_nil (by rfl)) (by rfl)) (by decide) (by rfl) (by rfl)) (by rfl)) (@pss_cons _ _ _ _ _ (@ps_if _ _ _ _ _ _ _ _ (@pt_not _ _ _ _ (@pt_val _ _ _ (@pe_cal _ _ _ _ _ _ _ _ _ _ C_is_paper hr rfl (@pa_cons _ _ _ _ _ (pv 0) (@pa_cons _ _ _ _ _ (pv 2) (@pa_cons _ _ _ _ _ (pv 3) pa_nil (by rfl)) (by rfl)) (by rfl)) (by decide) (by rfl) (by rfl)) (by intro _ ;rfl))) (@pss_one _ _ _ (@ps_ret _ _ _ _ pe_bl)) pss_nil) (@pss_cons _ _ _ _ _ (@ps_set _ _ (4) _ _ _ _ sc_shows.nd rfl (by walk_at "o") (@pe_cal _ _ _ _ _ _ _ _ _ _ C_wanted hr rfl (@pa_cons _ _ _ _ _ (pv 1) pa_nil (by rfl)) (by decide) (by rfl) (by rfl)) (by rfl) (by walk_at "o")) (@pss_cons _ _ _ _ _ (@ps_if _ _ _ _ _ _ _ _ (@pt_cmpR _ _ _ _ _ _ _ _ op_eq (pv 3) pe_int (@zh _ _ (by decide) (by decide))) (@pss_one _ _ _ (@ps_ret _ _ _ _ (@pe_cmpR _ _ _ _ _ _ _ _ (@op_neE _ _ hr) (pv 4) (@pe_lst _ _ _ _ pa_nil) (@zh _ _ (by decide) (by decide))))) pss_nil) (@pss_cons _ _ _ _ _ (@ps_if _ _ _ _ _ _ _ _ (@pt_not _ _ _ _ (@pt_val _ _ _ (@pe_callB _ _ _ _ _ _ _ _ _ (@call_any _ rfl) rfl B.any bo_any (@pa_cons _ _ _ _ _ (@pe_comp0 _ _ _ _ _ _ _ _ (["cores"]) (1) ([]) _ _ _ rfl (@pi_list _ _ _ _ (@pe_ix _ _ _ _ _ _ _ ix_M (pv 0) pe_int (fun _ _=>rfl))) (fun nd C s H fp=>⟨(@zY _ _ (0) _ nd rfl (by walk_at "o") (by walk_at "o")),xB,(@pe_cmpR _ _ _ _ _ _ _ _ (@op_inK _ K (by rfl)) pe_int (pv 0) (by with_unfolding_all rfl))⟩) (by decide +kernel) (by first|rfl|decide +kernel) (by first|rfl|decide +kernel) rfl (fun _=>rfl)) pa_nil (by rfl)) (by decide) (by decide) (by rfl) (by rfl)) (by intro _ ;rfl))) (@pss_one _ _ _ (@ps_ret _ _ _ _ pe_bl)) pss_nil) (@pss_cons _ _ _ _ _ (@ps_if _ _ _ _ _ _ _ _ (@pt_not _ _ _ _ (@pt_val _ _ _ (@pe_callB _ _ _ _ _ _ _ _ _ (@call_all _ rfl) rfl B.all bo_all (@pa_cons _ _ _ _ _ (@pe_comp0 _ _ _ _ _ _ _ _ (["level","following","top"]) (2) ([2]) _ _ _ rfl (@pi_zip _ _ _ _ _ _ _ _ _ rfl B.zip (@pa_cons _ _ _ _ _ (pv 0) (@pa_cons _ _ _ _ _ (@pe_slice _ _ _ _ _ _ _ _ _ _ sl_list (pv 0) (@po_some _ _ _ pe_int) po_none) pa_nil (by rfl)) (by rfl)) (by rfl) (by rfl)) (fun nd C s H fp=>⟨(@pg_tupM _ _ _ _ _ 2 rfl (@xu _ _ _ _ _ (@zY _ _ (0) _ nd rfl (by walk_at "o") (by walk_at "o")) (@xu _ _ _ _ _ (@zY _ _ (1) _ nd rfl (by walk_at "o") (by walk_at "o")) pgs_nil (by rfl)) (by rfl)) (by rfl) (by rfl)),xB,(@pe_cal _ _ _ _ _ _ _ _ _ _ C_leads_on hr rfl (@pa_cons _ _ _ _ _ (pv 0) (@pa_cons _ _ _ _ _ (pv 1) (@pa_cons _ _ _ _ _ (pv 2) pa_nil (by rfl)) (by rfl)) (by rfl)) (by decide) (by rfl) (by rfl))⟩) (by decide +kernel) (by first|rfl|decide +kernel) (by first|rfl|decide +kernel) rfl (fun _=>rfl)) pa_nil (by rfl)) (by decide) (by decide) (by rfl) (by rfl)) (by intro _ ;rfl))) (@pss_one _ _ _ (@ps_ret _ _ _ _ pe_bl)) pss_nil) (@pss_one _ _ _ (@ps_ret _ _ _ _ (@pe_not _ _ _ _ (@pe_callB _ _ _ _ _ _ _ _ _ (@call_any _ rfl) rfl B.any bo_any (@pa_cons _ _ _ _ _ (@pe_comp0 _ _ _ _ _ _ _ _ (["cores","asked","top"]) (1) ([4,2]) _ _ _ rfl (@pi_list _ _ _ _ (@pe_ix _ _ _ _ _ _ _ ix_M (pv 0) (@pe_un _ _ _ _ _ _ ju pe_int) (fun _ _=>rfl))) (fun nd C s H fp=>⟨(@zY _ _ (0) _ nd rfl (by walk_at "o") (by walk_at "o")),xB,(@pe_cal _ _ _ _ _ _ _ _ _ _ C_finishes hr rfl (@pa_cons _ _ _ _ _ (pv 0) (@pa_cons _ _ _ _ _ (pv 1) (@pa_cons _ _ _ _ _ (pv 2) pa_nil (by rfl)) (by rfl)) (by rfl)) (by decide) (by rfl) (by rfl))⟩) (by decide +kernel) (by first|rfl|decide +kernel) (by first|rfl|decide +kernel) rfl (fun _=>rfl)) pa_nil (by rfl)) (by decide) (by decide) (by rfl) (by rfl)))))))))))),?_⟩
 walk_at "S"
 try walk_at "WP"
 refine⟨top,_,rfl,fun _=>?_,fun hf=>absurd hf nf⟩;refine⟨lv,lvs,Ls,top,rfl,hp,ok,ll,fun H1 s1=>?_⟩;refine⟨true,rfl,?_⟩;rw[if_neg (by decide)];refine⟨nl,xs,rfl,s1 _ _ hn,xl,fun al H2 n2 s2 h2=>?_⟩;have as_len:(sortI (ded (wantC xs))).length<=60:=by
  have h1:=ded_len (wantC xs);have h2:=yb (fun c=>decide (1<c)) (xs.map coreN);rw[qC]at h2;have h3:(wantC xs).length<=xs.length:=h2;have h4:(sortI (ded (wantC xs))).length=(ded (wantC xs)).length:=(yD _).length_eq;omega
 generalize sortI (ded (wantC xs))=as at h2 q as_len;have s12:=s1.trans s2;have P2:=hp.same s12;refine yq (fun z=>?_) (fun z=>?_)
 ·intro p np;have e0:Ls=[]:=zU (by omega);subst e0;rw[w_neE];refine⟨_,SqL.of (zP np (.lst []) _ _ h2),SqL.of upd_same,?_⟩;refine q _ _ (s12.trans (zP np _)) ?_;rw[decide_eq_true_eq,qC];constructor
  ·intro h;refine⟨fun _ e=>h (by rw[e];rfl),fun L e=>by simp at e,fun i L L' e=>by simp at e,fun L e=>by simp at e⟩
  ·intro h e;exact h.1 rfl (zU e)
 have lp:0<Ls.length:=by omega
 refine⟨_,P2.lst,?_⟩;have e0:=qA lp;generalize Ls[0]=L0 at e0;obtain⟨r0,u0,g1,_,g3,g4,_⟩:=P2.at_ 0 L0 e0;have ok0:=ok L0 (qE e0);refine⟨_,x9 (j:=0) g1,r0,rfl,⟨_,SqL.of g3⟩,?_⟩;refine JB (fun i b=>∀S,L0[i]? = some S->(b=true↔(1:Int)∈S)) (SqL.of g3) (szL (by rw[g4.len];exact zR ok0.1 (by decide))) (fun i x H' R hx s' hR=>?_) (fun acc bs H3 n3 s3 h3 bl hB=>?_)
 ·obtain⟨S,eS⟩:∃S,L0[i]? = some S:=⟨_,qA (by rw[<-g4.len];exact(qB.mp hx).1)⟩;obtain⟨p,hp1,hp2⟩:=g4.at_ i S eS;rw[hx]at hp1;cases hp1
  rw[show ∀o,yG [] o=[] from fun _=>rfl]
  try walk_at "WP"
  refine⟨p,_,rfl,.inr (SqT.of (s' _ _ hp2)),rfl,y3 _,?_⟩;rw[if_neg (by decide),show inV (V.int 1) (iT S)=decide ((1:Int)∈S) from inV_i S 1];refine hR _ H' (Same.refl _) fun S2 e2=>?_;rw[eS]at e2;cases e2
  exact⟨of_decide_eq_true,fun h=>decide_eq_true h⟩
 refine⟨acc,bs,rfl,h3,_,rfl,?_⟩;have any0:bs.any id=true↔∃S∈L0,(1:Int)∈S:=by
  rw[any_iff (bl.trans g4.len) (p:=fun i=>∀S,L0[i]? = some S->(1:Int)∈S) (fun i b e=>?_)]
  ·constructor
   ·rintro⟨i,hi,h⟩;have e:=qA hi;exact⟨_,qE e,h _ e⟩
   ·rintro⟨S,hS,h⟩;obtain⟨i,e⟩:=zk.mp hS;exact⟨i,(qB.mp e).1,fun S' e'=>by rw[e]at e';cases e';exact h⟩
  ·have hi:i<L0.length:=by rw[<-g4.len,<-bl];exact(qB.mp e).1
   have eS:=qA hi;rw[hB i b e _ eS];exact⟨fun h S z=>by rw[eS]at z;cases z;exact h,fun h=>h _ eS⟩
 have s13:=s12.trans s3;by_cases za:bs.any id=true
 ·rw[za,if_neg (by decide)];have P3:=hp.same s13;refine⟨_,SqL.of P3.lst,fun p np=>?_⟩;have sp:=zP np (.lst (cutV lvs (some 1) none));refine⟨lv,p,⟨rfl,rfl⟩,_,SqL.of (sp _ _ P3.lst),_,SqL.of upd_same,?_⟩;have hcut:upd H3 p (.lst (cutV lvs (some 1) none)) p=some (.lst (lvs.drop 1)):=by rw[upd_same,cut_drop1]
  have s14:=s13.trans sp;generalize upd H3 p (.lst (cutV lvs (some 1) none))=H4 at hcut s14 sp;have P4:=hp.same s14;refine comp_zipLB P4.lst hcut (fun i b=>∀L L',Ls[i]? = some L->Ls[i+1]? = some L'->(b=true↔∀S∈L,LedP top S L')) (by rw[zu];omega) (by rw[zu,P4.len];omega) (fun i x y H' R hx hy s' hR=>?_) (fun acc2 bs2 H5 n5 s5 h5 bl2 hB2=>?_)
  ·have hy2:lvs[i+1]? = some y:=by rw[yQ,Nat.add_comm]at hy;exact hy
   obtain⟨L,eL⟩:∃L,Ls[i]? = some L:=⟨_,qA (by rw[<-P4.len];exact(qB.mp hx).1)⟩;obtain⟨L',eL'⟩:∃L,Ls[i+1]? = some L:=⟨_,qA (by rw[<-P4.len];exact(qB.mp hy2).1)⟩;have P':=P4.same s';obtain⟨r1,u1,a1,_,a3,a4,_⟩:=P'.at_ _ _ eL;obtain⟨r2,u2,b1,_,b3,b4,_⟩:=P'.at_ _ _ eL';rw[hx]at a1;rw[hy2]at b1;cases a1
   cases b1
   rw[show yG [2] [some (V.ref lv),some (V.ref nl),some (V.int top),some (V.int (Ls.length:Nat)),some (V.ref al)]=[some (V.int top)] from rfl];have o1:=ok L (qE eL);have o2:=ok L' (qE eL');show tCall spLeads [] E0 (tCons (tVar 0) (tCons (tVar 1) (tCons (tVar 2) tNil))) [some (V.ref r1),some (V.ref r2),some (V.int top)] H' R
   try walk_at "WP"
   refine⟨r1,r2,u1,u2,L,L',top,rfl,a3,a4,b3,b4,o1.2,o2.2,o1.1,o2.1,t1,t2,fun b H5 s5 hb=>hR b H5 s5 fun M M' e1 e2=>?_⟩;rw[eL]at e1;rw[eL']at e2;cases e1
   cases e2
   exact hb
  have bl3:bs2.length=Ls.length-1:=by rw[bl2,zu,P4.len]
  have all0:bs2.all id=true↔∀(i:Nat) L L',Ls[i]? = some L->Ls[i+1]? = some L'->∀S∈L,LedP top S L':=by
   rw[all_iff bl3 (p:=fun i=>∀L L',Ls[i]? = some L->Ls[i+1]? = some L'->∀S∈L,LedP top S L') (fun i b e=>?_)]
   ·constructor
    ·intro h i L L' e1 e2;have:=(qB.mp e2).1;exact h i (by omega) L L' e1 e2
    ·intro h i _ L L' e1 e2;exact h i L L' e1 e2
   ·have hi:=(qB.mp e).1;have e1:=qA (l:=Ls) (by omega:i<Ls.length);have e2:=qA (l:=Ls) (by omega:i+1<Ls.length);rw[hB2 i b e _ _ e1 e2];exact⟨fun h M M' z1 z2=>by rw[e1]at z1;rw[e2]at z2;cases z1;cases z2;exact h,fun h=>h _ _ e1 e2⟩
  refine⟨acc2,bs2,rfl,h5,_,rfl,?_⟩;have s15:=s14.trans s5;by_cases zb:bs2.all id=true
  ·rw[zb,if_neg (by decide)];have P5:=hp.same s15;refine⟨_,P5.lst,?_⟩;have eg:=qA (l:=Ls) (by omega:Ls.length-1<Ls.length);generalize Ls[Ls.length-1]=Lz at eg;obtain⟨rz,uz,c1,_,c3,c4,_⟩:=P5.at_ _ _ eg;have okz:=ok Lz (qE eg);have el:Ls.getLast? = some Lz:=by rw[zx];exact eg
   have ev:lvs.getLast? = some (.ref rz):=by rw[zx,P5.len];exact c1
   refine⟨_,atI_gl ev,rz,rfl,⟨_,SqL.of c3⟩,?_⟩;have ha5:H5 al=some (.lst (as.map V.int)):=s5 _ _ (sp _ _ (s3 _ _ h2));refine JB (fun i b=>∀S,Lz[i]? = some S->(b=true↔Fin_ top S as)) (SqL.of c3) (szL (by rw[c4.len];exact zR okz.1 (by decide))) (fun i x H' R hx s' hR=>?_) (fun acc3 bs3 H6 n6 s6 h6 bl6 hB6=>?_)
   ·obtain⟨S,eS⟩:∃S,Lz[i]? = some S:=⟨_,qA (by rw[<-c4.len];exact(qB.mp hx).1)⟩;obtain⟨p2,hp1,hp2⟩:=c4.at_ i S eS;rw[hx]at hp1;cases hp1
    have o:=okz.2 S (qE eS);rw[show yG [4,2] [some (V.ref lv),some (V.ref nl),some (V.int top),some (V.int (Ls.length:Nat)),some (V.ref al)]=[some (V.ref al),some (V.int top)] from rfl]
    try walk_at "WP"
    refine⟨p2,al,S,as,top,rfl,s' _ _ hp2,s' _ _ ha5,as_len,o.od,t1,t2,by have:=o.len;omega,fun b H7 s7 hb=>hR b H7 s7 fun S2 e2=>?_⟩;rw[eS]at e2;cases e2
    exact hb
   have any1:bs3.any id=true↔∃S∈Lz,Fin_ top S as:=by
    rw[any_iff (bl6.trans c4.len) (p:=fun i=>∀S,Lz[i]? = some S->Fin_ top S as) (fun i b e=>?_)]
    ·constructor
     ·rintro⟨i,hi,h⟩;have e:=qA hi;exact⟨_,qE e,h _ e⟩
     ·rintro⟨S,hS,h⟩;obtain⟨i,e⟩:=zk.mp hS;exact⟨i,(qB.mp e).1,fun S' e'=>by rw[e]at e';cases e';exact h⟩
    ·have hi:i<Lz.length:=by rw[<-c4.len,<-bl6];exact(qB.mp e).1
     have eS:=qA hi;rw[hB6 i b e _ eS];exact⟨fun h S z=>by rw[eS]at z;cases z;exact h,fun h=>h _ eS⟩
   refine⟨acc3,bs3,rfl,h6,_,rfl,?_⟩;refine q _ H6 (s15.trans s6) ?_;constructor
   ·intro h;have nb:¬ bs3.any id=true:=by intro y;rw[y]at h;cases h
    refine⟨fun e=>by rw[e]at lp;exact absurd lp (by decide),fun L e=>?_,all0.mp zb,fun L e S hS f=>?_⟩
    ·rw[e0]at e;cases e
     exact any0.mp za
    ·rw[el]at e;cases e
     exact nb (any1.mpr ⟨S,hS,f⟩)
   ·intro h;rw[yo,Bool.eq_false_iff];intro y;obtain⟨S,hS,f⟩:=any1.mp y;exact h.2.2.2 Lz el S hS f
  ·rw[Bool.eq_false_iff.mpr zb,if_pos rfl];exact q false H5 s15 ⟨fun h=>(by cases h),fun h=>absurd (all0.mpr h.2.2.1) zb⟩
 ·rw[Bool.eq_false_iff.mpr za,if_pos rfl];exact q false H3 s13 ⟨fun h=>(by cases h),fun h=>absurd (any0.mpr (h.2.1 L0 e0)) za⟩
theorem ok_with35 (T:Txt K mg):Cal P w K mg base 2 "_law_with" ["_law_pen_here","_law_some","_law_other","_law_top"] (spWith35 K):=by
 have B:=T.bl;have C_l_pick:=ok_pick (P:=P) (w:=w) (base:=base) T;refine yK (T.t 31 _ rfl) sc_l_with (fun vs H Q E h=>?_) (fun f cdv A outer s H vs Q E hr h=>?_)
 ·obtain⟨_,_,_,_,_,_,_,_,_,rfl,_⟩:=h;rfl
 obtain⟨p,a,c,d,ns,k,S,S',top,rfl,hP,hS,h63,hk,hc,hd,O,O',t0,t1,q⟩:=h;refine⟨_,((@pss_cons _ _ _ _ _ (@ps_set _ _ (4) _ _ _ _ sc_l_with.nd rfl (by walk_at "o") (@pe_cal _ _ _ _ _ _ _ _ _ _ C_l_pick hr rfl (@pa_cons _ _ _ _ _ (pv 0) (@pa_cons _ _ _ _ _ pe_int pa_nil (by rfl)) (by rfl)) (by decide) (by rfl) (by rfl)) (by rfl) (by walk_at "o")) (@pss_cons _ _ _ _ _ (@ps_if _ _ _ _ _ _ _ _ (@pt_cmpR _ _ _ _ _ _ _ _ op_eq (pv 4) pe_int (@zh _ _ (by decide) (by decide))) (@pss_one _ _ _ (@ps_set _ _ (1) _ _ _ _ sc_l_with.nd rfl (by walk_at "o") (@pe_op _ _ _ _ _ _ _ _ (@op_catCK _ K (by rfl)) (pv 1) (pv 2)) (by rfl) (by walk_at "o"))) pss_nil) (@pss_cons _ _ _ _ _ (@ps_if _ _ _ _ _ _ _ _ (@pt_cmpR _ _ _ _ _ _ _ _ op_eq (pv 4) pe_int (@zh _ _ (by decide) (by decide))) (@pss_one _ _ _ (@ps_set _ _ (1) _ _ _ _ sc_l_with.nd rfl (by walk_at "o") (@pe_op _ _ _ _ _ _ _ _ (@op_catCK _ K (by rfl)) (pv 1) (@pe_tup _ _ _ _ _ (@pa_cons _ _ _ _ _ (@pe_op _ _ _ _ _ _ _ _ yc pe_int (@pe_op _ _ _ _ _ _ _ _ xO pe_int (@pe_cal _ _ _ _ _ _ _ _ _ _ C_l_pick hr rfl (@pa_cons _ _ _ _ _ (pv 0) (@pa_cons _ _ _ _ _ (@pe_op _ _ _ _ _ _ _ _ jy (@pe_op _ _ _ _ _ _ _ _ yc (pv 3) pe_int) pe_int) pa_nil (by rfl)) (by rfl)) (by decide) (by rfl) (by rfl)))) pa_nil (by rfl)))) (by rfl) (by walk_at "o"))) pss_nil) (@pss_one _ _ _ (@ps_ret _ _ _ _ (@pe_callTy _ _ _ _ _ _ _ _ _ xj rfl B.tuple j0 (@pa_cons _ _ _ _ _ (@pe_callB _ _ _ _ _ _ _ _ _ (@call_sortW _ w rfl (by rfl)) rfl B.sorted bo_sorted (@pa_cons _ _ _ _ _ (@pe_callTy _ _ _ _ _ _ _ _ _ (@zAM _ w K rfl (by rfl) (by rfl)) rfl B.set bo_set (@pa_cons _ _ _ _ _ (pv 1) pa_nil (by rfl)) (by decide) (by decide) (by rfl) (by rfl)) pa_nil (by rfl)) (by decide) (by decide) (by rfl) (by rfl)) pa_nil (by rfl)) (by decide) (by decide) (by rfl) (by rfl)))))))),?_⟩
 walk_at "S"
 obtain⟨tt_,ll_,hp0,_⟩:=id hP;have cp:c≠p:=fun z=>by rw[z,hp0]at hc;cases hc
 have dp:d≠p:=fun z=>by rw[z,hp0]at hd;cases hd
 try walk_at "WP"
 refine jW hP hS h63 (by omega) (by decide) (by decide) fun w1 H1 a0 a1 P1 S1 C1=>?_
 try walk_at "WP"
 have hc1:=C1 _ _ cp hc;have hd1:=C1 _ _ dp hd;have Sl:=O.len;have Sl':=O'.len;have OD:∀x∈S++S',x%2=1/\1<=x/\x<=top:=fun x hx=>by
  rcases zE.mp hx with h|h
  ·exact⟨O.od.odd x h,O.od.lo x h,O.od.hi x h⟩
  ·exact⟨O'.od.odd x h,O'.od.lo x h,O'.od.hi x h⟩
 refine yq (fun z=>?_) (fun z=>?_)
 ·refine⟨c,d,_,_,rfl,rfl,SqT.of hc1,SqT.of hd1,by rw[qC,qC];exact zm (by omega),fun r H2 s2 h2=>?_⟩;dsimp only;rw[if_neg (by omega)];rw[<-zo]at h2;exact norm_ h2 ⟨fun x hx=>(OD x hx).1,fun x hx=>(OD x hx).2.1,fun x hx=>(OD x hx).2.2⟩ (by simp[O.ne]) t0 t1 (by rw[qF];omega) fun r2 R H3 s3 h3 RO=>q r2 R _ h3 RO (((P1.same s2).same s3).mono (by omega)) ((S1.same s2).same s3) (C1.trans (s2.trans s3).chg)
 refine yq (fun z1=>?_) (fun z1=>?_)
 ·refine⟨divB (by decide) (by decide),?_⟩;refine jW P1 S1 h63 (by omega) (by omega) (by omega) fun y H2 y0 y1 P2 S2 C2=>?_
  try walk_at "WP"
  refine⟨JJ (by decide) (by decide),fun u nu=>?_⟩;refine ye nu fun H3 s3 h3=>?_;have hc3:=s3 _ _ (C2 _ _ cp hc1);refine⟨c,u,_,_,rfl,rfl,SqT.of hc3,SqT.of h3,by rw[qC];exact zm (by simp;omega),fun r H4 s4 h4=>?_⟩;dsimp only;rw[show S.map V.int++[V.int (1+2*y)]=(S++[1+2*y]).map V.int by simp]at h4;have OD1:∀x∈S++[1+2*y],x%2=1/\1<=x/\x<=top:=fun x hx=>by
   rcases zE.mp hx with h|h
   ·exact OD x (zV _ h)
   ·have:=zB.mp h;omega
  have s:=s3.trans s4;exact norm_ h4 ⟨fun x hx=>(OD1 x hx).1,fun x hx=>(OD1 x hx).2.1,fun x hx=>(OD1 x hx).2.2⟩ (by simp) t0 t1 (by rw[qF];simp;omega) fun r2 R H5 s5 h5 RO=>q r2 R _ h5 RO (((P2.same s).same s5).mono (by omega)) ((S2.same s).same s5) ((C1.trans C2).trans (s.trans s5).chg)
 ·exact norm_ (SqT.of hc1) O.od O.ne t0 t1 (by omega) fun r2 R H3 s3 h3 RO=>q r2 R _ h3 RO ((P1.same s3).mono (by omega)) (S1.same s3) (C1.trans s3.chg)
theorem ok_num35 (T:Txt K mg):Cal P w K mg base 2 "_law_number" ["_law_pen_here","_law_top"] (spNum35 K):=by
 have B:=T.bl;have C_l_pick:=ok_pick (P:=P) (w:=w) (base:=base) T;refine yK (T.t 30 _ rfl) sc_l_number (fun vs H Q E h=>?_) (fun f cdv A outer s H vs Q E hr h=>?_)
 ·obtain⟨_,_,_,_,_,rfl,_⟩:=h;rfl
 obtain⟨p,a,ns,k,top,rfl,hP,hS,h63,hk,t0,t1,q⟩:=h;refine⟨_,((@pss_cons _ _ _ _ _ (@ps_set _ _ (2) _ _ _ _ sc_l_number.nd rfl (by walk_at "o") (@pe_op _ _ _ _ _ _ _ _ yc pe_int (@pe_op _ _ _ _ _ _ _ _ xO pe_int (@pe_cal _ _ _ _ _ _ _ _ _ _ C_l_pick hr rfl (@pa_cons _ _ _ _ _ (pv 0) (@pa_cons _ _ _ _ _ (@pe_op _ _ _ _ _ _ _ _ jy (@pe_op _ _ _ _ _ _ _ _ yc (pv 1) pe_int) pe_int) pa_nil (by rfl)) (by rfl)) (by decide) (by rfl) (by rfl)))) (by rfl) (by walk_at "o")) (@pss_cons _ _ _ _ _ (@ps_if _ _ _ _ _ _ _ _ (@pt_cmpR _ _ _ _ _ _ _ _ op_eq (@pe_cal _ _ _ _ _ _ _ _ _ _ C_l_pick hr rfl (@pa_cons _ _ _ _ _ (pv 0) (@pa_cons _ _ _ _ _ pe_int pa_nil (by rfl)) (by rfl)) (by decide) (by rfl) (by rfl)) pe_int (@zh _ _ (by decide) (by decide))) (@pss_one _ _ _ (@ps_set _ _ (2) _ _ _ _ sc_l_number.nd rfl (by walk_at "o") (@pe_op _ _ _ _ _ _ _ _ yc (@pe_op _ _ _ _ _ _ _ _ yc (pv 1) pe_int) (@pe_cal _ _ _ _ _ _ _ _ _ _ C_l_pick hr rfl (@pa_cons _ _ _ _ _ (pv 0) (@pa_cons _ _ _ _ _ pe_int pa_nil (by rfl)) (by rfl)) (by decide) (by rfl) (by rfl))) (by rfl) (by walk_at "o"))) pss_nil) (@pss_one _ _ _ (@ps_ret _ _ _ _ (@pe_op _ _ _ _ _ _ _ _ xO (@pe_op _ _ _ _ _ _ _ _ op_shlB (pv 2) (@pe_cal _ _ _ _ _ _ _ _ _ _ C_l_pick hr rfl (@pa_cons _ _ _ _ _ (pv 0) (@pa_cons _ _ _ _ _ pe_int pa_nil (by rfl)) (by rfl)) (by decide) (by rfl) (by rfl))) (@pe_op _ _ _ _ _ _ _ _ jd pe_int (@pe_op _ _ _ _ _ _ _ _ xO pe_int (@pe_cal _ _ _ _ _ _ _ _ _ _ C_l_pick hr rfl (@pa_cons _ _ _ _ _ (pv 0) (@pa_cons _ _ _ _ _ pe_int pa_nil (by rfl)) (by rfl)) (by decide) (by rfl) (by rfl)))))))))),?_⟩
 walk_at "S"
 have fin:∀(n:Int) H2,1<=n->n<=110->PPen H2 p a (k+3)->Scr K H2 a ns->Chg p H H2 ->
   spPick K [.ref p,.int 6] H2 (fun y H2=>rI CShl (fun i j=>V.int (i*2^j.toNat)) (.int n) y H2 fun x H1=>spPick K [.ref p,.int 2] H1 (fun y H2=>rI IntMulOk (fun i j=>V.int (i*j)) (.int 2) y H2 fun y H2=>rI0 (fun i j=>V.int (i-j)) (.int 1) y H2 fun y H2=>rI IntMulOk (fun i j=>V.int (i*j)) x y H2 Q) E0) E0:=fun n H2 n0 n1 P2 S2 C2=>by
  refine jW P2 S2 h63 (by omega) (by decide) (by decide) fun y H3 y0 y1 P3 S3 C3=>?_
  try walk_at "WP"
  refine⟨shl_ok (k:=8) y0 (by omega) (by omega) (by decide),?_⟩;refine jW P3 S3 h63 (by omega) (by decide) (by decide) fun z H4 z0 z1 P4 S4 C4=>?_
  try walk_at "WP"
  have hy:y=0\/y=1\/y=2\/y=3\/y=4\/y=5:=by omega
  have hz:z=0\/z=1:=by omega
  have b:1<=n*2^y.toNat/\n*2^y.toNat<=3600:=by
   rcases hy with e|e|e|e|e|e<;>rw[e]<;>simp<;>omega
  generalize n*2^y.toNat=m at b ⊢;refine⟨JJ (by decide) (by decide),JJ (by omega) (by omega),?_⟩;have C:=((C2.trans C3).trans C4);rcases hz with e|e<;>subst e
  ·exact q _ _ (by omega) (by omega) (P4.mono (by omega)) S4 C
  ·exact q _ _ (by omega) (by omega) (P4.mono (by omega)) S4 C
 try walk_at "WP"
 refine⟨divB (by decide) (by decide),?_⟩;refine jW hP hS h63 (by omega) (by omega) (by omega) fun y H1 y0 y1 P1 S1 C1=>?_
 try walk_at "WP"
 refine⟨JJ (by decide) (by decide),?_⟩;refine jW P1 S1 h63 (by omega) (by decide) (by decide) fun z H2 z0 z1 P2 S2 C2=>?_
 try walk_at "WP"
 refine yq (fun e=>?_) (fun e=>?_)
 ·refine jW P2 S2 h63 (by omega) (by decide) (by decide) fun u H3 u0 u1 P3 S3 C3=>?_
  try walk_at "WP"
  exact fin _ H3 (by omega) (by omega) (P3.mono (by omega)) S3 ((C1.trans C2).trans C3)
 ·exact fin _ H2 (by omega) (by omega) (P2.mono (by omega)) S2 (C1.trans C2)
theorem ok_drawn35 (T:Txt K mg):Cal P w K mg base 5 "_law_drawn" ["_law_pen_here","_law_top","_law_most"] (spDrawn35 K):=by
 have B:=T.bl;have C_made:=(ok_made (P:=P) (w:=w) (base:=base) T).mono (k:=4) (by decide);have C_l_with:=(ok_with35 (P:=P) (w:=w) (base:=base) T).mono (k:=4) (by decide);refine yK (T.t 32 _ rfl) sc_l_drawn (fun vs H Q E h=>?_) (fun f cdv A outer s H vs Q E hr h=>?_)
 ·obtain⟨_,_,_,_,_,_,_,rfl,_⟩:=h;rfl
 obtain⟨p,a,ns,k,top,most,M,rfl,hP,hS,h63,hk,t0,t1,hM,M1,M99,hB,m4,q⟩:=h;refine⟨_,((@pss_cons _ _ _ _ _ (@ps_set _ _ (3) _ _ _ _ sc_l_drawn.nd rfl (by walk_at "o") (@pe_lst _ _ _ _ pa_nil) (by rfl) (by walk_at "o")) (@pss_cons _ _ _ _ _ (@ps_set _ _ (4) _ _ _ _ sc_l_drawn.nd rfl (by walk_at "o") (@pe_lst _ _ _ _ (@pa_cons _ _ _ _ _ (@pe_tup _ _ _ _ _ (@pa_cons _ _ _ _ _ pe_int pa_nil (by rfl))) pa_nil (by rfl))) (by rfl) (by walk_at "o")) (@pss_cons _ _ _ _ _ (@yv _ _ _ _ _ _ _ _ PassesOwn.never rfl (@JE _ _ _ _ _ _ rfl B.range (@pa_cons _ _ _ _ _ (pv 2) pa_nil (by rfl)) (by rfl)) (@zY _ _ (5) _ sc_l_drawn.nd rfl (by walk_at "o") (by walk_at "o")) (@pss_cons _ _ _ _ _ (@ps_set _ _ (6) _ _ _ _ sc_l_drawn.nd rfl (by walk_at "o") (@pe_lst _ _ _ _ pa_nil) (by rfl) (by walk_at "o")) (@pss_cons _ _ _ _ _ (@yv _ _ _ _ _ _ _ _ PassesOwn.never rfl (@JE _ _ _ _ _ _ rfl B.range (@pa_cons _ _ _ _ _ (@pe_callB _ _ _ _ _ _ _ _ _ yz rfl B.len xP (@pa_cons _ _ _ _ _ (pv 4) pa_nil (by rfl)) (by decide) (by decide) (by rfl) (by rfl)) pa_nil (by rfl)) (by rfl)) (@zY _ _ (7) _ sc_l_drawn.nd rfl (by walk_at "o") (by walk_at "o")) (@pss_one _ _ _ (@ps_expr _ _ _ _ (@pe_bm _ _ _ _ _ _ _ _ _ _ _ _ xJ xD xC mt_append (pv 6) (@pa_cons _ _ _ _ _ (@pe_cal _ _ _ _ _ _ _ _ _ _ C_l_with hr rfl (@pa_cons _ _ _ _ _ (pv 0) (@pa_cons _ _ _ _ _ (@pe_ix _ _ _ _ _ _ _ ix_M (pv 4) (pv 7) (fun _ _=>rfl)) (@pa_cons _ _ _ _ _ (@pe_ix _ _ _ _ _ _ _ ix_M (pv 4) (@pe_op _ _ _ _ _ _ _ _ jd (pv 7) pe_int) (fun _ _=>rfl)) (@pa_cons _ _ _ _ _ (pv 1) pa_nil (by rfl)) (by rfl)) (by rfl)) (by rfl)) (by decide) (by rfl) (by rfl)) pa_nil (by rfl)) (by rfl) (by rfl) (by rfl) (by rfl) (by rfl)) (by rfl))) (by intro _ ;rfl)) (@pss_cons _ _ _ _ _ (@ps_expr _ _ _ _ (@pe_bm _ _ _ _ _ _ _ _ _ _ _ _ xJ xD xC mt_append (pv 3) (@pa_cons _ _ _ _ _ (pv 6) pa_nil (by rfl)) (by rfl) (by rfl) (by rfl) (by rfl) (by rfl)) (by rfl)) (@pss_cons _ _ _ _ _ (@ps_set _ _ (8) _ _ _ _ sc_l_drawn.nd rfl (by walk_at "o") pe_dnewT (by rfl) (by walk_at "o")) (@pss_cons _ _ _ _ _ (@yv _ _ _ _ _ _ _ _ PassesOwn.never rfl (@pi_list _ _ _ _ (pv 6)) (@zY _ _ (9) _ sc_l_drawn.nd rfl (by walk_at "o") (by walk_at "o")) (@pss_one _ _ _ (@yv _ _ _ _ _ _ _ _ PassesOwn.never rfl (@pi_list _ _ _ _ (@pe_cal _ _ _ _ _ _ _ _ _ _ C_made hr rfl (@pa_cons _ _ _ _ _ (@pe_callTy _ _ _ _ _ _ _ _ _ yj rfl B.list bo_list (@pa_cons _ _ _ _ _ (pv 9) pa_nil (by rfl)) (by decide) (by decide) (by rfl) (by rfl)) (@pa_cons _ _ _ _ _ (pv 1) pa_nil (by rfl)) (by rfl)) (by decide) (by rfl) (by rfl))) (@zY _ _ (10) _ sc_l_drawn.nd rfl (by walk_at "o") (by walk_at "o")) (@pss_one _ _ _ (@ps_dpT _ _ _ _ _ _ _ _ _ (@jx _ _ hr) (pv 8) (@pe_callTy _ _ _ _ _ _ _ _ _ xj rfl B.tuple j0 (@pa_cons _ _ _ _ _ (@pe_callB _ _ _ _ _ _ _ _ _ (@call_sortW _ w rfl (by rfl)) rfl B.sorted bo_sorted (@pa_cons _ _ _ _ _ (@pe_callTy _ _ _ _ _ _ _ _ _ (@zAM _ w K rfl (by rfl) (by rfl)) rfl B.set bo_set (@pa_cons _ _ _ _ _ (@pe_op _ _ _ _ _ _ _ _ (@op_catCK _ K (by rfl)) (pv 9) (@pe_tup _ _ _ _ _ (@pa_cons _ _ _ _ _ (pv 10) pa_nil (by rfl)))) pa_nil (by rfl)) (by decide) (by decide) (by rfl) (by rfl)) pa_nil (by rfl)) (by decide) (by decide) (by rfl) (by rfl)) pa_nil (by rfl)) (by decide) (by decide) (by rfl) (by rfl)) pe_bl rfl)) (by intro _ ;rfl))) (by intro _ ;rfl)) (@pss_one _ _ _ (@ps_set _ _ (4) _ _ _ _ sc_l_drawn.nd rfl (by walk_at "o") (@pe_callB _ _ _ _ _ _ _ _ _ (@call_sortDT _ _ hr) rfl B.sorted bo_sorted (@pa_cons _ _ _ _ _ (pv 8) pa_nil (by rfl)) (by decide) (by decide) (by rfl) (by rfl)) (by rfl) (by walk_at "o")))))))) (by intro _ ;rfl)) (@pss_one _ _ _ (@ps_ret _ _ _ _ (pv 3))))))),?_⟩
 walk_at "S"
 refine zi fun R_ hR_=>?_
 try walk_at "WP"
 intro la nla;refine ye nla fun H1 s1 h1=>?_;(try (walk_at "WP"));(try (refine ze hR_ ?_));(try (refine zi fun R_ hR_=>?_));(try (walk_at "WP"))
 intro t nt;refine ye nt fun H2 s2 h2=>?_;intro se nse;refine ye nse fun H3 s3 h3=>?_;have s13:=(s1.trans s2).trans s3;have lap:la≠p:=hP.ne nla;have sep:se≠p:=(hP.same (s1.trans s2)).ne nse;have sel:se≠la:=(zc (s2 _ _ h1) nse).symm;(try (walk_at "WP"));(try (refine ze hR_ ?_));(try (refine zi fun R_ hR_=>?_));(try (walk_at "WP"))
 refine⟨by omega,by omega,?_⟩;rw[zK];refine forR (J35 K p a la ns k top most M H) ⟨se,_,[],[[1]],[],_,_,_,_,_,_,rfl,s13.chg,(hP.same s13).mono (by omega),hS.same s13,⟨s3 _ _ (s2 _ _ h1),rfl,fun i L h=>by simp at h⟩,(fun L h=>by cases h),rfl,(fun r h=>by cases h),h3,hts_nil.snoc (s3 _ _ h2),(fun S h=>by rw[zB.mp h];exact⟨⟨fun x hx=>by rw[zB.mp hx];decide,fun x hx=>by rw[zB.mp hx];decide,fun x hx=>by rw[zB.mp hx];exact t0⟩,by simp,by simp,by decide⟩),by simp,sep,sel⟩ ?_ ?_
 ·rintro i σ H4 N hi ⟨se,us,lvs,Ss,Ls,o5,o6,o7,o8,o9,o10,rfl,C4,P4,S4,PP,PO,lL,lvp,hse,hSs,SO,cS,sep,sel⟩ hN;have Mi:M^i<=1000:=zR (qN M1 (by omega)) hB;have Mi1:M^i*M<=1000:=by rw[<-Nat.pow_succ];exact zR (qN M1 (by omega)) hB
  have ul:=hSs.len;refine seq_inG fun R_ hR_=>?_
  try walk_at "WP"
  intro lev nlev;refine ye nlev fun H5 s5 h5=>?_;have levp:lev≠p:=P4.ne nlev;have levs:lev≠se:=(zc hse nlev).symm;have levla:lev≠la:=(zc PP.lst nlev).symm;have lev0:H lev=none:=C4.new levp nlev;(try (walk_at "WP"));(try (refine ze hR_ ?_));(try (refine zi fun R_ hR_=>?_));(try (walk_at "WP"))
  refine⟨_,s5 _ _ hse,?_⟩;refine⟨by omega,by omega,?_⟩;rw[zK,ul];refine forR (fun j σ H'=>∃(lus:List V) (Lv:List (List Int)) (o7:Option V),σ=[some (.ref p),some (.int top),some (.int (most:Nat)),some (.ref la),some (.ref se),some (.int (0+(i:Int))),some (.ref lev),o7,o8,o9,o10]/\Chg p H4 H'/\PPen H' p a (k+2000*i+2*j)/\Scr K H' a ns/\H' lev=some (.lst lus)/\HTs iT H' lus Lv/\(∀S∈Lv,SetOk top S)/\Lv.length=j) ⟨[],[],_,rfl,s5.chg,(P4.same s5).mono (by omega),S4.same s5,h5,hts_nil,(fun S h=>by cases h),rfl⟩ ?_ ?_
  ·rintro j σ H6 N2 hj ⟨lus,Lv,o7,rfl,C6,P6,S6,h6,hL6,LO,lj⟩ hN2;obtain⟨xs,hp4⟩:=P4.lst;have hse6:=C6 _ _ sep hse;have hS6:=hSs.chgL hp4 C6;have ej:=qA hj;obtain⟨c,hc1,hc2⟩:=hS6.at_ j _ ej;have SOj:=SO _ (qE ej);obtain⟨d,D,hd0,hd1,hd2,hd3⟩:∃(d:Addr) (D:List Int),atI us (0+(j:Int)-1)=some (.ref d)/\D∈Ss/\H6 d=some (.tup (D.map V.int))/\SetOk top D:=by
    by_cases z:j=0
    ·have e:=qA (l:=Ss) (i:=Ss.length-1) (by omega);obtain⟨d,e1,e2⟩:=hS6.at_ _ _ e;refine⟨d,_,?_,qE e,e2,SO _ (qE e)⟩;rw[z];exact atI_gl (by rw[zx,ul];exact e1)
    ·have e:=qA (l:=Ss) (i:=j-1) (by omega);obtain⟨d,e1,e2⟩:=hS6.at_ _ _ e;refine⟨d,_,?_,qE e,e2,SO _ (qE e)⟩;rw[show(0:Int)+(j:Int)-1=((j-1:Nat):Int) by omega];exact x9 e1
   have ec:atI us (0+(j:Int))=some (.ref c):=by rw[Int.zero_add];exact x9 hc1
   generalize Ss[j]=C at hc2 SOj
   (iterate 5 ((try (walk_at "WP"));(try (simp only[h6,hse6,ec,hd0,qJs,qJt,qJl,qJd,exists_eq_left',exists_eq_left]))));(try (walk_at "WP"))
   refine⟨Je h6,?_⟩;refine⟨p,a,c,d,ns,_,C,D,top,rfl,P6,S6,h63,by omega,hc2,hd2,SOj,hd3,t0,t1,fun r R H7 hr7 RO P7 S7 C7=>?_⟩;have h7:=C7 _ _ levp h6;refine⟨lus,h7,jS (by have:=hL6.len;omega),?_⟩;obtain⟨xs6,hp6⟩:=P6.lst;obtain⟨xs7,hp7⟩:=P7.lst;have C8:Chg lev H7 (upd H7 lev (.lst (lus++[V.ref r]))):=Chg.upd _;refine hN2 _ _ ⟨_,Lv++[R],_,rfl,(C6.trans C7).two nlev C8,(P7.chg levp.symm C8).mono (by omega),S7.chg h7 C8,upd_same,((hL6.chgL hp6 C7).chgL h7 C8).snoc (C8 _ _ (xt hr7 h7 (by intro y;cases y)) hr7),fun S h=>?_,by rw[qF,lj];rfl⟩;rcases zE.mp h with y|y
   ·exact LO S y
   ·rw[zB.mp y];exact RO
  ·rintro σ H6 ⟨lus,Lv,o7,rfl,C6,P6,S6,h6,hL6,LO,lj⟩;(try (walk_at "WP"));(try (refine ze hR_ ?_));(try (refine zi fun R_ hR_=>?_));(try (walk_at "WP"))
   obtain⟨xs4,hp4⟩:=P4.lst;have PP6:=PP.chgP hp4 lap lvp C6;have la6:=PP6.lst;have ll:=PP6.len;refine⟨Je la6,lvs,la6,jS (by omega),?_⟩;have C7:Chg la H6 (upd H6 la (.lst (lvs++[V.ref lev]))):=Chg.upd _;have c99:Lv.length<=99^Ls.length:=by rw[lj,lL];exact zR cS (Nat.pow_le_pow_left M99 i)
   have PP7:=PP6.app levla h6 hL6 c99;have P7:=P6.chg lap.symm C7;have S7:=S6.chg la6 C7;have h7:=C7 _ _ levla h6;have hL7:=hL6.chgL la6 C7;have C07:Chg p H (upd H6 la (.lst (lvs++[V.ref lev]))):=(C4.trans C6).two nla C7;have PO7:PapOk top (Ls++[Lv]):=fun L h=>by
    rcases zE.mp h with y|y
    ·exact PO L y
    ·rw[zB.mp y];exact⟨zR (by omega) (by decide:1000<=99^3),LO⟩
   have lvp7:∀r,V.ref r∈lvs++[V.ref lev]->r≠p:=fun r h=>by
    rcases zE.mp h with y|y
    ·exact lvp r y
    ·cases zB.mp y
     exact levp
   generalize upd H6 la (.lst (lvs++[V.ref lev]))=H7 at PP7 P7 S7 h7 hL7 C07;(try (walk_at "WP"));(try (refine ze hR_ ?_));(try (refine zi fun R_ hR_=>?_));(try (walk_at "WP"))
   intro dd ndd;refine ye ndd fun H8 s8 h8=>?_;have ddlev:dd≠lev:=(zc h7 ndd).symm;have dd0:H dd=none:=C07.new (P7.ne ndd) ndd;(try (walk_at "WP"));(try (refine ze hR_ ?_));(try (refine zi fun R_ hR_=>?_));(try (walk_at "WP"))
   have h78:=s8 _ _ h7;have hL8:=hL7.same s8;have lul:=hL8.len;refine⟨⟨_,SqL.of h78⟩,?_⟩;refine forL (xs:=lus) (fun j σ H'=>∃(kvs:List (List Key×V)) (Gs:List (List Int)) (o9 o10:Option V),σ=[some (.ref p),some (.int top),some (.int (most:Nat)),some (.ref la),some (.ref se),some (.int (0+(i:Int))),some (.ref lev),o7,some (.ref dd),o9,o10]/\Same H7 H'/\H' dd=some (.dT kvs)/\KsT kvs Gs/\(∀S∈Gs,SetOk top S)/\Gs.length<=j*M) ⟨[],[],_,_,rfl,s8,h8,rfl,(fun S h=>by cases h),zT _⟩ ?_ ?_ ?_
   ·rintro j σ H' _ ⟨_,_,_,_,rfl,s',_⟩;exact SqL.of (s' _ _ h7)
   ·rintro j v σ H9 N2 hv ⟨kvs,Gs,o9,o10,rfl,s9,h9,ks,GO,gl⟩ hN2;have hj:j<Lv.length:=by rw[<-lul];exact(qB.mp hv).1
    have ej:=qA hj;obtain⟨y,hy1,hy2⟩:=hL7.at_ j _ ej;have SOj:=LO _ (qE ej);generalize Lv[j]=S0 at hy2 SOj;rw[hv]at hy1;cases hy1
    try walk_at "WP"
    refine⟨_,.inr (SqT.of (s9 _ _ hy2)),fun l1 nl1=>?_⟩;refine ye nl1 fun H10 s10 h10=>?_;obtain⟨mo,ml⟩:=made_set (S:=S0) t0;have sl:=SOj.len;refine⟨l1,S0,top,rfl,h10,SOj.od,t0,t1,by omega,fun m H11 nm s11 hm=>?_⟩;have s1011:=s10.trans s11;have h11:=s1011 _ _ h9;have mdd:m≠dd:=(zc (s10 _ _ h9) nm).symm;have mlen:(madeL S0 top).length<=M:=by omega
    try walk_at "WP"
    refine⟨⟨_,SqL.of hm⟩,?_⟩;refine forL (xs:=(madeL S0 top).map V.int) (fun u σ H'=>∃(kvs:List (List Key×V)) (Gs:List (List Int)) (o10:Option V),σ=[some (.ref p),some (.int top),some (.int (most:Nat)),some (.ref la),some (.ref se),some (.int (0+(i:Int))),some (.ref lev),o7,some (.ref dd),some (.ref y),o10]/\Chg dd H11 H'/\H' dd=some (.dT kvs)/\KsT kvs Gs/\(∀S∈Gs,SetOk top S)/\Gs.length<=j*M+u) ⟨kvs,Gs,_,rfl,Chg.refl,h11,ks,GO,gl⟩ ?_ ?_ ?_
    ·rintro u σ H' _ ⟨_,_,_,rfl,C,_⟩;exact SqL.of (C _ _ mdd hm)
    ·rintro u v σ H12 N3 hv2 ⟨kvs,Gs,o10,rfl,C12,h12,ks,GO,gl2⟩ hN3;obtain⟨x,hx,rfl⟩:=jJ hv2;have xm:=qE hx;have yd:y≠dd:=xt (s8 _ _ hy2) h8 (by intro y;cases y);have y12:=C12 _ _ yd ((s9.trans s1011) _ _ hy2);have jM:j*M+M<=1000:=by
      rw[<-Nat.succ_mul];exact zR (Nat.mul_le_mul_right M (by omega)) Mi1
     try walk_at "WP"
     intro o no;refine ye no fun H13 s13 h13=>?_;have y13:=s13 _ _ y12;refine⟨y,o,_,[V.int x],rfl,rfl,SqT.of y13,SqT.of h13,zm (by unfold iT;rw[qC];simp;omega),fun r H14 s14 h14=>?_⟩;dsimp only;have h14:SqT K H14 r ((S0++[x]).map V.int):=by rw[zo];exact h14
     have od2:OdIn (S0++[x]) top:=by
      refine⟨fun z hz=>?_,fun z hz=>?_,fun z hz=>?_⟩<;>rcases zE.mp hz with e|e
      ·exact SOj.od.odd z e
      ·rw[zB.mp e];exact mo.odd x xm
      ·exact SOj.od.lo z e
      ·rw[zB.mp e];exact mo.lo x xm
      ·exact SOj.od.hi z e
      ·rw[zB.mp e];exact mo.hi x xm
     have SO2:=JY od2 (by simp) t0 t1;have df:((S0++[x]).foldl PyProof.Rows.step_dedup []).length<=50:=ded_few od2 (by simp) t0 t1;refine⟨r,S0++[x],rfl,h14,by rw[qF];simp;omega,fun b nb=>⟨b,_,rfl,upd_same,yi df (by decide),fun l nl=>⟨l,rfl,_,.inl ⟨SqL.of upd_same,fun r2 nr=>?_⟩⟩⟩⟩;have s1315:=(s13.trans s14).trans (((zP nb (SetE w b ((S0++[x]).foldl PyProof.Rows.step_dedup []))).trans (zP nl (.lst ((sortI (ded (S0++[x]))).map V.int)))).trans (zP nr (.tup ((sortI (ded (S0++[x]))).map V.int))));have hu:u<(madeL S0 top).length:=(qB.mp hx).1;refine⟨sortI (ded (S0++[x])),kvs,s1315 _ _ h12,rfl,by rw[ks.len];exact yi (m:=1000) (by omega) (by decide),?_⟩;refine hN3 _ _ ⟨_,_,_,rfl,(C12.trans s1315.chg).trans (Chg.upd _),upd_same,ks.put _ _,fun S h=>?_,?_⟩
     ·split at h
      ·exact GO S h
      ·rcases zE.mp h with e|e
       ·exact GO S e
       ·rw[zB.mp e];exact SO2
     ·split
      ·omega
      ·rw[qF,yJ];omega
    ·rintro σ H12 ⟨kvs,Gs,o10,rfl,C12,h12,ks,GO,gl2⟩;rw[qC]at gl2;refine hN2 _ _ ⟨kvs,Gs,_,_,rfl,j8 ndd (s9.trans s1011) C12,h12,ks,GO,?_⟩;rw[Nat.succ_mul];omega
   ·rintro σ H9 ⟨kvs,Gs,o9,o10,rfl,s9,h9,ks,GO,gl⟩;rw[lul,lj]at gl;have gl3:Gs.length<=M^i*M:=zR gl (Nat.mul_le_mul_right M cS);(try (walk_at "WP"));(try (refine ze hR_ ?_));(try (refine zi fun R_ hR_=>?_));(try (walk_at "WP"))
    refine⟨dd,kvs,Gs,rfl,h9,ks,fun S h=>(GO S h).ne,by omega,fun sl ys Rs nsl hts pm=>?_⟩;have s10:=zP nsl (.lst ys);have s710:=s9.trans s10;have P9:=P7.same s9;refine hN _ _ ⟨sl,ys,_,Rs,Ls++[Lv],_,_,_,_,_,_,rfl,C07.trans s710.chg,(P7.same s710).mono (by omega),S7.same s710,PP7.same s710,PO7,by rw[qF,lL];rfl,lvp7,upd_same,hts.same s10,fun S h=>GO S (pm.mem_iff.mp h),by rw[pm.length_eq,Nat.pow_succ];exact gl3,P9.ne nsl,(zc ((PP7.same s9).lst) nsl).symm⟩
 ·rintro σ H4 ⟨se,us,lvs,Ss,Ls,o5,o6,o7,o8,o9,o10,rfl,C4,P4,S4,PP,PO,lL,lvp,_⟩;(try (walk_at "WP"));(try (refine ze hR_ ?_));(try (refine zi fun R_ hR_=>?_));(try (walk_at "WP"))
  exact q la lvs Ls H4 nla C4 (P4.mono (by omega)) S4 PP lvp PO lL
theorem ok_none35 (T:Txt K mg) {cst_TooMany:Addr} (X_refuse_beyond0:CalX P w K mg base 1 "refuse_beyond" ["top","most"] (spRefB cst_TooMany)):Cal P w K mg base 7 "_law_none" ["_law_row","_law_top","_law_most"] (spNone35 K):=by
 have B:=T.bl;have C_fewest:=ok_fewE (P:=P) (w:=w) (base:=base) T X_refuse_beyond0;refine yK (T.t 33 _ rfl) sc_l_none (fun vs H Q E h=>?_) (fun f cdv A outer s H vs Q E hr h=>?_)
 ·obtain⟨_,_,_,_,rfl,_⟩:=h;rfl
 obtain⟨l,xs,top,most,rfl,hl,xl,xb,t1,t2,m4,tm,q⟩:=h;refine⟨_,((@pss_one _ _ _ (@ps_ret _ _ _ _ (@pe_cmpR _ _ _ _ _ _ _ _ op_eq (@pe_ix _ _ _ _ _ _ _ ix_U (@pe_cal _ _ _ _ _ _ _ _ _ _ C_fewest hr rfl (@pa_cons _ _ _ _ _ (@pe_callTy _ _ _ _ _ _ _ _ _ yj rfl B.list bo_list (@pa_cons _ _ _ _ _ (pv 0) pa_nil (by rfl)) (by decide) (by decide) (by rfl) (by rfl)) (@pa_cons _ _ _ _ _ (pv 1) (@pa_cons _ _ _ _ _ (pv 2) pa_nil (by rfl)) (by rfl)) (by rfl)) (by decide) (by rfl) (by rfl)) pe_int (fun _ _=>rfl)) xf (@zh _ _ (by decide) (by decide)))))),?_⟩
 walk_at "S"
 try walk_at "WP"
 refine⟨_,.inl (SqL.of hl),fun l1 nl1=>?_⟩;refine ye nl1 fun H1 s1 h1=>?_;refine⟨l1,xs,top,most,rfl,h1,xl,xb,t1,by omega,m4,by unfold farB;omega,fun r lv lvs Ls H2 s2 hr2 _ _ _ _ fi=>?_,fun r w0 dl gl us os ds gs cs pv H2 s2 hr2 _ _ _ _ _ _ _ _ _ dm fi _=>?_⟩
 ·(iterate 5 ((try (walk_at "WP"));(try (simp only[hr2,qJs,qJt,qJl,qJd,exists_eq_left',exists_eq_left]))));(try (walk_at "WP"))
  exact q true H2 (s1.trans s2) ⟨fun _=>(Jk fi).1 rfl,fun _=>rfl⟩
 ·(iterate 5 ((try (walk_at "WP"));(try (simp only[hr2,qJs,qJt,qJl,qJd,exists_eq_left',exists_eq_left]))));(try (walk_at "WP"))
  rw[decide_eq_false (by decide)];exact q false H2 (s1.trans s2) ⟨fun z=>(by cases z),fun z=>absurd ((Jk fi).2 _ rfl).2 (z _ dm)⟩
theorem ok_agr35 (T:Txt K mg) {cst_TooMany:Addr} (X_refuse_beyond0:CalX P w K mg base 1 "refuse_beyond" ["top","most"] (spRefB cst_TooMany)):Cal P w K mg base 8 "_law_agrees" ["_law_pen_here","_law_paper","_law_row","_law_top","_law_most"] (spAgr35 K):=by
 have B:=T.bl;have C_shows:=(ok_showsV (P:=P) (w:=w) (base:=base) T X_refuse_beyond0).mono (k:=7) (by decide);have C_fewest:=(ok_fewE (P:=P) (w:=w) (base:=base) T X_refuse_beyond0).mono (k:=7) (by decide);have C_l_none:=ok_none35 (P:=P) (w:=w) (base:=base) T X_refuse_beyond0;have C_l_number:=(ok_num35 (P:=P) (w:=w) (base:=base) T).mono (k:=7) (by decide);have C_l_pick:=(ok_pick (P:=P) (w:=w) (base:=base) T).mono (k:=7) (by decide);refine yK (T.t 34 _ rfl) sc_l_agrees (fun vs H Q E h=>?_) (fun f cdv A outer s H vs Q E hr h=>?_)
 ·obtain⟨_,_,_,_,_,_,_,_,_,_,rfl,_⟩:=h;rfl
 obtain⟨p,a,lv,l,ns,k,lvs,Ls,xs,top,rfl,hP,hS,h63,hk,PP,PO,hl,lp,xl,xb,t1,t2,l3,tm,q⟩:=h;refine⟨_,((@pss_cons _ _ _ _ _ (@ps_if _ _ _ _ _ _ _ _ (@pt_not _ _ _ _ (@pt_val _ _ _ (@pe_cal _ _ _ _ _ _ _ _ _ _ C_shows hr rfl (@pa_cons _ _ _ _ _ (pv 1) (@pa_cons _ _ _ _ _ (@pe_callTy _ _ _ _ _ _ _ _ _ yj rfl B.list bo_list (@pa_cons _ _ _ _ _ (pv 2) pa_nil (by rfl)) (by decide) (by decide) (by rfl) (by rfl)) (@pa_cons _ _ _ _ _ (pv 3) (@pa_cons _ _ _ _ _ (pv 4) pa_nil (by rfl)) (by rfl)) (by rfl)) (by rfl)) (by decide) (by rfl) (by rfl)) (by intro _ ;rfl))) (@pss_one _ _ _ (@ps_ret _ _ _ _ pe_bl)) pss_nil) (@pss_cons _ _ _ _ _ (@ps_if _ _ _ _ _ _ _ _ (@PW.pt _ _ _ (@pw_or _ _ _ _ _ _ _ (@pt_not _ _ _ _ (@pt_val _ _ _ (@pe_cal _ _ _ _ _ _ _ _ _ _ C_l_none hr rfl (@pa_cons _ _ _ _ _ (pv 2) (@pa_cons _ _ _ _ _ (pv 3) (@pa_cons _ _ _ _ _ (pv 4) pa_nil (by rfl)) (by rfl)) (by rfl)) (by decide) (by rfl) (by rfl)) (by intro _ ;rfl))) (@pw_or1 _ _ _ _ (@pt_not _ _ _ _ (@pt_val _ _ _ (@pe_cal _ _ _ _ _ _ _ _ _ _ C_l_none hr rfl (@pa_cons _ _ _ _ _ (@pe_op _ _ _ _ _ _ _ _ op_cat (pv 2) (@pe_lst _ _ _ _ (@pa_cons _ _ _ _ _ (@pe_cal _ _ _ _ _ _ _ _ _ _ C_l_number hr rfl (@pa_cons _ _ _ _ _ (pv 0) (@pa_cons _ _ _ _ _ (pv 3) pa_nil (by rfl)) (by rfl)) (by decide) (by rfl) (by rfl)) pa_nil (by rfl)))) (@pa_cons _ _ _ _ _ (pv 3) (@pa_cons _ _ _ _ _ (pv 4) pa_nil (by rfl)) (by rfl)) (by rfl)) (by decide) (by rfl) (by rfl)) (by intro _ ;rfl)))))) (@pss_one _ _ _ (@ps_ret _ _ _ _ pe_bl)) pss_nil) (@pss_cons _ _ _ _ _ (@ps_if _ _ _ _ _ _ _ _ (@PW.pt _ _ _ (@pw_or _ _ _ _ _ _ _ (@pt_not _ _ _ _ (@pt_val _ _ _ (@pe_cal _ _ _ _ _ _ _ _ _ _ C_l_none hr rfl (@pa_cons _ _ _ _ _ (pv 2) (@pa_cons _ _ _ _ _ (@pe_op _ _ _ _ _ _ _ _ yc pe_int (@pe_cal _ _ _ _ _ _ _ _ _ _ C_l_pick hr rfl (@pa_cons _ _ _ _ _ (pv 0) (@pa_cons _ _ _ _ _ (pv 3) pa_nil (by rfl)) (by rfl)) (by decide) (by rfl) (by rfl))) (@pa_cons _ _ _ _ _ (pv 4) pa_nil (by rfl)) (by rfl)) (by rfl)) (by decide) (by rfl) (by rfl)) (by intro _ ;rfl))) (@pw_or1 _ _ _ _ (@pt_not _ _ _ _ (@pt_val _ _ _ (@pe_cal _ _ _ _ _ _ _ _ _ _ C_l_none hr rfl (@pa_cons _ _ _ _ _ (pv 2) (@pa_cons _ _ _ _ _ (pv 3) (@pa_cons _ _ _ _ _ (@pe_cal _ _ _ _ _ _ _ _ _ _ C_l_pick hr rfl (@pa_cons _ _ _ _ _ (pv 0) (@pa_cons _ _ _ _ _ (@pe_op _ _ _ _ _ _ _ _ yc (pv 4) pe_int) pa_nil (by rfl)) (by rfl)) (by decide) (by rfl) (by rfl)) pa_nil (by rfl)) (by rfl)) (by rfl)) (by decide) (by rfl) (by rfl)) (by intro _ ;rfl)))))) (@pss_one _ _ _ (@ps_ret _ _ _ _ pe_bl)) pss_nil) (@pss_cons _ _ _ _ _ (@ps_set _ _ (5) _ _ _ _ sc_l_agrees.nd rfl (by walk_at "o") (@pe_cal _ _ _ _ _ _ _ _ _ _ C_fewest hr rfl (@pa_cons _ _ _ _ _ (@pe_callTy _ _ _ _ _ _ _ _ _ yj rfl B.list bo_list (@pa_cons _ _ _ _ _ (pv 2) pa_nil (by rfl)) (by decide) (by decide) (by rfl) (by rfl)) (@pa_cons _ _ _ _ _ (pv 3) (@pa_cons _ _ _ _ _ (@pe_op _ _ _ _ _ _ _ _ yc (pv 4) pe_int) pa_nil (by rfl)) (by rfl)) (by rfl)) (by decide) (by rfl) (by rfl)) (by rfl) (by walk_at "o")) (@pss_one _ _ _ (@ps_ret _ _ _ _ (@pe_or _ _ _ _ _ _ _ (@pe_cmpR _ _ _ _ _ _ _ _ op_eq (@pe_ix _ _ _ _ _ _ _ ix_U (pv 5) pe_int (fun _ _=>rfl)) xf (@zh _ _ (by decide) (by decide))) (@jc _ _ _ _ _ (@pe_cmpR _ _ _ _ _ _ _ _ op_gt (@pe_callB _ _ _ _ _ _ _ _ _ yz rfl B.len xP (@pa_cons _ _ _ _ _ (@pe_ix _ _ _ _ _ _ _ ix_U (@pe_ix _ _ _ _ _ _ _ ix_U (pv 5) pe_int (fun _ _=>rfl)) pe_int (fun _ _=>rfl)) pa_nil (by rfl)) (by decide) (by decide) (by rfl) (by rfl)) (pv 4) (@zh _ _ (by decide) (by decide)))))))))))),?_⟩
 walk_at "S"
 have xb3:∀x∈xs,x.natAbs<2^300:=fun x hx=>Nat.lt_trans (xb x hx) (Nat.pow_lt_pow_right (by decide) (by decide));refine zi fun R_ hR_=>?_
 try walk_at "WP"
 refine⟨_,.inl (SqL.of hl),fun l1 nl1=>?_⟩;refine ye nl1 fun H1 s1 h1=>?_;refine⟨lv,l1,lvs,Ls,xs,top,rfl,PP.same s1,PO,by omega,by unfold farB;omega,t1,by omega,h1,by omega,fun b H2 s2 hb=>?_⟩;have s12:=s1.trans s2;refine⟨b,rfl,?_⟩;by_cases zb:b=true
 ·subst zb;rw[if_neg (by decide)];have NP:NoneP top Ls.length xs:=shows_all t1 (ask_nd xs) (fun x hx=>(mem_ask.mp hx).1) (hb.mp rfl);have hl2:=s12 _ _ hl;have P2:=hP.same s12;have S2:=hS.same s12;(try (walk_at "WP"));(try (refine ze hR_ ?_));(try (refine zi fun R_ hR_=>?_));(try (walk_at "WP"))
  refine⟨l,xs,top,Ls.length,rfl,hl2,by omega,xb3,t1,t2,by omega,by omega,fun b H3 s3 hb=>?_⟩;obtain rfl:b=true:=hb.mpr NP;refine⟨true,rfl,?_⟩;have hl3:=s3 _ _ hl2;refine⟨p,a,ns,k,top,rfl,P2.same s3,S2.same s3,h63,by omega,t1,by omega,fun n H4 n0 n1 P4 S4 C4=>?_⟩;intro o no;refine ye no fun H5 s5 h5=>?_;have hl5:=s5 _ _ (C4 _ _ lp hl3);refine⟨_,hl5,zm (by simp;omega),fun r nr=>?_⟩;refine ye nr fun H6 s6 h6=>?_;have hl6:=s6 _ _ hl5;have s56:=s5.trans s6;rw[show xs.map V.int++[V.int n]=(xs++[n]).map V.int by simp]at h6;refine⟨r,xs++[n],top,Ls.length,rfl,h6,by simp;omega,fun x hx=>?_,t1,t2,by omega,by omega,fun b H7 s7 hb=>?_⟩
  ·rcases zE.mp hx with e|e
   ·exact xb3 x e
   ·rw[zB.mp e];exact qJ (m:=2^12) (by omega) (qN (by decide) (by decide))
  obtain rfl:b=true:=hb.mpr (Jz (yt _) (zC _) (fun x hx=>zV _ hx) NP);refine⟨true,rfl,?_⟩;rw[if_neg (by decide)];have hl7:=s7 _ _ hl6;have s57:=s56.trans s7;have P7:=P4.same s57;have S7:=S4.same s57;have C7:Chg p H H7:=(s12.trans s3).chg.trans (C4.trans s57.chg);(try (walk_at "WP"));(try (refine ze hR_ ?_));(try (refine zi fun R_ hR_=>?_));(try (walk_at "WP"))
  refine jW P7 S7 h63 (by omega) (by omega) (by omega) fun y H8 y0 y1 P8 S8 C8=>?_;have hl8:=C8 _ _ lp hl7
  try walk_at "WP"
  refine⟨l,xs,1+y,Ls.length,rfl,hl8,by omega,xb3,by omega,by omega,by omega,by omega,fun b H9 s9 hb=>?_⟩;obtain rfl:b=true:=hb.mpr (Jz (by omega) (zC _) (fun x hx=>hx) NP);refine⟨true,rfl,?_⟩;rw[if_neg (by decide)];have hl9:=s9 _ _ hl8
  try walk_at "WP"
  refine jW (P8.same s9) (S8.same s9) h63 (by omega) (by omega) (by omega) fun z H10 z0 z1 P10 S10 C10=>?_;have hl10:=C10 _ _ lp hl9;obtain⟨m,rfl⟩:=Int.eq_ofNat_of_zero_le z0;refine⟨l,xs,top,m,rfl,hl10,by omega,xb3,t1,t2,by omega,by omega,fun b H11 s11 hb=>?_⟩;obtain rfl:b=true:=hb.mpr (Jz (yt _) (by omega) (fun x hx=>hx) NP);refine⟨true,rfl,?_⟩;rw[if_neg (by decide)];have hl11:=s11 _ _ hl10;have P11:=P10.same s11;have S11:=S10.same s11;have C11:Chg p H H11:=((C7.trans C8).trans s9.chg).trans (C10.trans s11.chg);(try (walk_at "WP"));(try (refine ze hR_ ?_));(try (refine zi fun R_ hR_=>?_));(try (walk_at "WP"))
  refine⟨_,.inl (SqL.of hl11),fun l2 nl2=>?_⟩;refine ye nl2 fun H12 s12 h12=>?_;refine⟨l2,xs,top,Ls.length+1,rfl,h12,by omega,xb3,t1,by omega,by omega,by unfold farB;omega,fun r lv lvs Ls H13 s13 hr13 _ _ _ _ fi=>?_,fun r w0 dl gl us os ds gs cs pv H13 s13 hr13 hw hd hds _ _ _ _ _ _ dm fi _=>?_⟩
  ·(try (walk_at "WP"));(try (refine ze hR_ ?_));(try (refine zi fun R_ hR_=>?_));(try (walk_at "WP"))
   (iterate 5 ((try (walk_at "WP"));(try (simp only[hr13,qJs,qJt,qJl,qJd,exists_eq_left',exists_eq_left]))));(try (walk_at "WP"))
   have s:=s12.trans s13;exact q H13 (C11.trans s.chg) ((P11.same s).mono (by omega)) (S11.same s)
  ·(try (walk_at "WP"));(try (refine ze hR_ ?_));(try (refine zi fun R_ hR_=>?_));(try (walk_at "WP"))
   (iterate 5 ((try (walk_at "WP"));(try (simp only[hr13,hw,qJs,qJt,qJl,qJd,exists_eq_left',exists_eq_left]))));(try (walk_at "WP"))
   have s:=s12.trans s13;have:=hds.len;refine⟨_,hd,?_⟩;rw[decide_eq_true (by
    have:=(Jk fi).2 _ rfl;have:¬ ds.length<=Ls.length:=fun z=>NP _ z this.2;omega)]
   exact q H13 (C11.trans s.chg) ((P11.same s).mono (by omega)) (S11.same s)
 ·rw[Bool.eq_false_iff.mpr zb,if_pos rfl];exact q H2 s12.chg ((hP.same s12).mono (by omega)) (hS.same s12)
theorem ok_law (T:Txt K mg) {f:Addr} {fd:FuncData} (F:Fun K "law" "law" s_law f fd):FnOk P w K mg base CX0 20 f fd ["_law_script"] (spLaw K):=by
 have B:=T.bl;obtain⟨cst_TooMany,mg_TooMany,xi_TooMany⟩:=T.cls;have X_r:=ok_refb (P:=P) (w:=w) (base:=base) T mg_TooMany xi_TooMany;have C_fewest:=(ok_fewE (P:=P) (w:=w) (base:=base) T X_r).mono (k:=19) (by decide);have C_shows:=(ok_showsV (P:=P) (w:=w) (base:=base) T X_r).mono (k:=19) (by decide);have C_l_pen:=(ok_ppen (P:=P) (w:=w) (base:=base) T).mono (k:=19) (by decide);have C_l_pick:=(ok_pick (P:=P) (w:=w) (base:=base) T).mono (k:=19) (by decide);have C_l_number:=(ok_num35 (P:=P) (w:=w) (base:=base) T).mono (k:=19) (by decide);have C_l_drawn:=(ok_drawn35 (P:=P) (w:=w) (base:=base) T).mono (k:=19) (by decide);have C_l_agrees:=(ok_agr35 (P:=P) (w:=w) (base:=base) T X_r).mono (k:=19) (by decide);refine F.ok sc_law (fun vs H Q E h=>?_) (fun cdv A outer s H vs Q E hr h=>?_)
 ·obtain⟨a,ns,rfl,_⟩:=h;rfl
 obtain⟨a,ns,rfl,hS,h63,q⟩:=h;refine⟨_,((@pss_cons _ _ _ _ _ (@ps_set _ _ (1) _ _ _ _ sc_law.nd rfl (by walk_at "o") (@pe_cal _ _ _ _ _ _ _ _ _ _ C_l_pen hr rfl (@pa_cons _ _ _ _ _ (pv 0) pa_nil (by rfl)) (by decide) (by rfl) (by rfl)) (by rfl) (by walk_at "o")) (@pss_cons _ _ _ _ _ (@ps_asg _ _ _ _ _ _ (@pe_ix _ _ _ _ _ _ _ ix_M (@pe_lst _ _ _ _ (@pa_cons _ _ _ _ _ (@pe_tup _ _ _ _ _ (@pa_cons _ _ _ _ _ pe_int (@pa_cons _ _ _ _ _ pe_int pa_nil (by rfl)) (by rfl))) (@pa_cons _ _ _ _ _ (@pe_tup _ _ _ _ _ (@pa_cons _ _ _ _ _ pe_int (@pa_cons _ _ _ _ _ pe_int pa_nil (by rfl)) (by rfl))) (@pa_cons _ _ _ _ _ (@pe_tup _ _ _ _ _ (@pa_cons _ _ _ _ _ pe_int (@pa_cons _ _ _ _ _ pe_int pa_nil (by rfl)) (by rfl))) (@pa_cons _ _ _ _ _ (@pe_tup _ _ _ _ _ (@pa_cons _ _ _ _ _ pe_int (@pa_cons _ _ _ _ _ pe_int pa_nil (by rfl)) (by rfl))) pa_nil (by rfl)) (by rfl)) (by rfl)) (by rfl))) (@pe_cal _ _ _ _ _ _ _ _ _ _ C_l_pick hr rfl (@pa_cons _ _ _ _ _ (pv 1) (@pa_cons _ _ _ _ _ pe_int pa_nil (by rfl)) (by rfl)) (by decide) (by rfl) (by rfl)) (fun _ _=>rfl)) (@pg_tupM _ _ _ _ _ 2 rfl (@xu _ _ _ _ _ (@zY _ _ (2) _ sc_law.nd rfl (by walk_at "o") (by walk_at "o")) (@xu _ _ _ _ _ (@zY _ _ (3) _ sc_law.nd rfl (by walk_at "o") (by walk_at "o")) pgs_nil (by rfl)) (by rfl)) (by rfl) (by rfl)) (by rfl) (by rfl) (by rfl)) (@pss_cons _ _ _ _ _ (@ps_set _ _ (4) _ _ _ _ sc_law.nd rfl (by walk_at "o") (@pe_op _ _ _ _ _ _ _ _ yc pe_int (@pe_cal _ _ _ _ _ _ _ _ _ _ C_l_pick hr rfl (@pa_cons _ _ _ _ _ (pv 1) (@pa_cons _ _ _ _ _ (pv 2) pa_nil (by rfl)) (by rfl)) (by decide) (by rfl) (by rfl))) (by rfl) (by walk_at "o")) (@pss_cons _ _ _ _ _ (@ps_set _ _ (5) _ _ _ _ sc_law.nd rfl (by walk_at "o") (@pe_cal _ _ _ _ _ _ _ _ _ _ C_l_pick hr rfl (@pa_cons _ _ _ _ _ (pv 1) (@pa_cons _ _ _ _ _ (pv 3) pa_nil (by rfl)) (by rfl)) (by decide) (by rfl) (by rfl)) (by rfl) (by walk_at "o")) (@pss_cons _ _ _ _ _ (@jN _ _ _ _ (6) _ _ _ _ _ _ _ (["_law_k","_law_pen_here","_law_top"]) (1) ([1,4]) _ _ _ rfl (@JE _ _ _ _ _ _ rfl B.range (@pa_cons _ _ _ _ _ (@pe_op _ _ _ _ _ _ _ _ yc pe_int (@pe_cal _ _ _ _ _ _ _ _ _ _ C_l_pick hr rfl (@pa_cons _ _ _ _ _ (pv 1) (@pa_cons _ _ _ _ _ pe_int pa_nil (by rfl)) (by rfl)) (by decide) (by rfl) (by rfl))) pa_nil (by rfl)) (by rfl)) (fun nd C s H fp=>⟨(@zY _ _ (0) _ nd rfl (by walk_at "o") (by walk_at "o")),xB,(@pe_cal _ _ _ _ _ _ _ _ _ _ C_l_number hr rfl (@pa_cons _ _ _ _ _ (pv 1) (@pa_cons _ _ _ _ _ (pv 2) pa_nil (by rfl)) (by rfl)) (by decide) (by rfl) (by rfl))⟩) (by decide +kernel) (by first|rfl|decide +kernel) (by first|rfl|decide +kernel) rfl (fun _=>rfl) sc_law.nd rfl (by walk_at "o") (by walk_at "o") rfl) (@pss_mid _ _ _ _ _ (@ps_set _ _ (7) _ _ _ _ sc_law.nd rfl (by walk_at "o") (@pe_cal _ _ _ _ _ _ _ _ _ _ C_fewest hr rfl (@pa_cons _ _ _ _ _ (@pe_callTy _ _ _ _ _ _ _ _ _ yj rfl B.list bo_list (@pa_cons _ _ _ _ _ (pv 6) pa_nil (by rfl)) (by decide) (by decide) (by rfl) (by rfl)) (@pa_cons _ _ _ _ _ (pv 4) (@pa_cons _ _ _ _ _ (pv 5) pa_nil (by rfl)) (by rfl)) (by rfl)) (by decide) (by rfl) (by rfl)) (by rfl) (by walk_at "o")) (@pss_mid _ _ _ _ _ (@ps_if _ _ _ _ _ _ _ _ (@PW.pt _ _ _ (@pw_and _ _ _ _ _ _ _ (@pt_cmpR _ _ _ _ _ _ _ _ op_eq (@pe_ix _ _ _ _ _ _ _ ix_U (pv 7) pe_int (fun _ _=>rfl)) xf (@zh _ _ (by decide) (by decide))) (@Ja _ _ _ _ (@pt_not _ _ _ _ (@pt_val _ _ _ (@pe_cal _ _ _ _ _ _ _ _ _ _ C_shows hr rfl (@pa_cons _ _ _ _ _ (@pe_ix _ _ _ _ _ _ _ ix_U (pv 7) pe_int (fun _ _=>rfl)) (@pa_cons _ _ _ _ _ (@pe_callTy _ _ _ _ _ _ _ _ _ yj rfl B.list bo_list (@pa_cons _ _ _ _ _ (pv 6) pa_nil (by rfl)) (by decide) (by decide) (by rfl) (by rfl)) (@pa_cons _ _ _ _ _ (pv 4) (@pa_cons _ _ _ _ _ (pv 5) pa_nil (by rfl)) (by rfl)) (by rfl)) (by rfl)) (by decide) (by rfl) (by rfl)) (by intro _ ;rfl)))))) (@pss_one _ _ _ (@ps_ret _ _ _ _ pe_bl)) pss_nil) (@pss_mid _ _ _ _ _ (@ps_if _ _ _ _ _ _ _ _ (@PW.pt _ _ _ (@pw_and _ _ _ _ _ _ _ (@pt_cmpR _ _ _ _ _ _ _ _ op_eq (@pe_ix _ _ _ _ _ _ _ ix_U (pv 7) pe_int (fun _ _=>rfl)) xf (@zh _ _ (by decide) (by decide))) (@pw_and _ _ _ _ _ _ _ (@pt_cmp _ _ _ _ _ _ (@pc_notN _ _ _ _ _ (@pe_ix _ _ _ _ _ _ _ ix_U (pv 7) pe_int (fun _ _=>rfl))) (by first|exact jt _ ( by decide ) ( by decide )|rfl)) (@Ja _ _ _ _ (@pt_not _ _ _ _ (@pt_val _ _ _ (@pe_cal _ _ _ _ _ _ _ _ _ _ C_shows hr rfl (@pa_cons _ _ _ _ _ (@pe_ix _ _ _ _ _ _ _ ix_U (pv 7) pe_int (fun _ _=>rfl)) (@pa_cons _ _ _ _ _ (@pe_callTy _ _ _ _ _ _ _ _ _ yj rfl B.list bo_list (@pa_cons _ _ _ _ _ (pv 6) pa_nil (by rfl)) (by decide) (by decide) (by rfl) (by rfl)) (@pa_cons _ _ _ _ _ (pv 4) (@pa_cons _ _ _ _ _ (@pe_op _ _ _ _ _ _ _ _ jd (@pe_callB _ _ _ _ _ _ _ _ _ yz rfl B.len xP (@pa_cons _ _ _ _ _ (@pe_ix _ _ _ _ _ _ _ ix_U (@pe_ix _ _ _ _ _ _ _ ix_U (pv 7) pe_int (fun _ _=>rfl)) pe_int (fun _ _=>rfl)) pa_nil (by rfl)) (by decide) (by decide) (by rfl) (by rfl)) pe_int) pa_nil (by rfl)) (by rfl)) (by rfl)) (by rfl)) (by decide) (by rfl) (by rfl)) (by intro _ ;rfl))))))) (@pss_one _ _ _ (@ps_ret _ _ _ _ pe_bl)) pss_nil) (@pss_mid _ _ _ _ _ (@ps_if _ _ _ _ _ _ _ _ (@PW.pt _ _ _ (@pw_and _ _ _ _ _ _ _ (@pt_cmpR _ _ _ _ _ _ _ _ op_eq (@pe_ix _ _ _ _ _ _ _ ix_U (pv 7) pe_int (fun _ _=>rfl)) xf (@zh _ _ (by decide) (by decide))) (@Ja _ _ _ _ (@pt_cmpR _ _ _ _ _ _ _ _ op_ne (@pe_cmp _ _ _ _ _ _ (@pc_isN _ _ _ _ _ (@pe_ix _ _ _ _ _ _ _ ix_U (pv 7) pe_int (fun _ _=>rfl))) (by first|exact jt _ ( by decide ) ( by decide )|rfl)) (@pe_cmpR _ _ _ _ _ _ _ _ op_eq (@pe_callB _ _ _ _ _ _ _ _ _ yz rfl B.len xP (@pa_cons _ _ _ _ _ (@pe_ix _ _ _ _ _ _ _ ix_U (@pe_ix _ _ _ _ _ _ _ ix_U (pv 7) pe_int (fun _ _=>rfl)) pe_int (fun _ _=>rfl)) pa_nil (by rfl)) (by decide) (by decide) (by rfl) (by rfl)) pe_int (@zh _ _ (by decide) (by decide))) (@zh _ _ (by decide) (by decide)))))) (@pss_one _ _ _ (@ps_ret _ _ _ _ pe_bl)) pss_nil) (@pss_cons _ _ _ _ _ (@yv _ _ _ _ _ _ _ _ PassesOwn.never rfl (@JE _ _ _ _ _ _ rfl B.range (@pa_cons _ _ _ _ _ pe_int pa_nil (by rfl)) (by rfl)) (@zY _ _ (8) _ sc_law.nd rfl (by walk_at "o") (by walk_at "o")) (@pss_one _ _ _ (@ps_if _ _ _ _ _ _ _ _ (@pt_not _ _ _ _ (@pt_val _ _ _ (@pe_cal _ _ _ _ _ _ _ _ _ _ C_l_agrees hr rfl (@pa_cons _ _ _ _ _ (pv 1) (@pa_cons _ _ _ _ _ (@pe_cal _ _ _ _ _ _ _ _ _ _ C_l_drawn hr rfl (@pa_cons _ _ _ _ _ (pv 1) (@pa_cons _ _ _ _ _ (pv 4) (@pa_cons _ _ _ _ _ (pv 5) pa_nil (by rfl)) (by rfl)) (by rfl)) (by decide) (by rfl) (by rfl)) (@pa_cons _ _ _ _ _ (pv 6) (@pa_cons _ _ _ _ _ (pv 4) (@pa_cons _ _ _ _ _ (pv 5) pa_nil (by rfl)) (by rfl)) (by rfl)) (by rfl)) (by rfl)) (by decide) (by rfl) (by rfl)) (by intro _ ;rfl))) (@pss_one _ _ _ (@ps_ret _ _ _ _ pe_bl)) pss_nil)) (by intro _ ;rfl)) (@pss_one _ _ _ (@ps_ret _ _ _ _ (@pe_or _ _ _ _ _ _ _ (@pe_cmpR _ _ _ _ _ _ _ _ op_eq (@pe_ix _ _ _ _ _ _ _ ix_U (pv 7) pe_int (fun _ _=>rfl)) xf (@zh _ _ (by decide) (by decide))) (@jc _ _ _ _ _ (@pe_not _ _ _ _ (@pe_cal _ _ _ _ _ _ _ _ _ _ C_shows hr rfl (@pa_cons _ _ _ _ _ (@pe_cal _ _ _ _ _ _ _ _ _ _ C_l_drawn hr rfl (@pa_cons _ _ _ _ _ (pv 1) (@pa_cons _ _ _ _ _ (pv 4) (@pa_cons _ _ _ _ _ (pv 5) pa_nil (by rfl)) (by rfl)) (by rfl)) (by decide) (by rfl) (by rfl)) (@pa_cons _ _ _ _ _ (@pe_callTy _ _ _ _ _ _ _ _ _ yj rfl B.list bo_list (@pa_cons _ _ _ _ _ (pv 6) pa_nil (by rfl)) (by decide) (by decide) (by rfl) (by rfl)) (@pa_cons _ _ _ _ _ (pv 4) (@pa_cons _ _ _ _ _ (pv 5) pa_nil (by rfl)) (by rfl)) (by rfl)) (by rfl)) (by decide) (by rfl) (by rfl)))))))))))))))))),?_⟩
 walk_at "S"
 refine zi fun R_ hR_=>?_
 try walk_at "WP"
 refine⟨a,rfl,fun p H1 np s1 P1=>?_⟩;(try (walk_at "WP"));(try (refine ze hR_ ?_));(try (refine zi fun R_ hR_=>?_));(try (walk_at "WP"))
 intro q1 n1;refine ye n1 fun H2 s2 h2=>?_;intro q2 n2;refine ye n2 fun H3 s3 h3=>?_;intro q3 n3;refine ye n3 fun H4 s4 h4=>?_;intro q4 n4;refine ye n4 fun H5 s5 h5=>?_;intro q5 n5;refine ye n5 fun H6 s6 h6=>?_;have s16:=(((s2.trans s3).trans s4).trans s5).trans s6;have P6:=P1.same s16;have S6:=(hS.same s1).same s16;have p1:q1≠p:=P1.ne n1;have p2:q2≠p:=(P1.same s2).ne n2;have p3:q3≠p:=(P1.same (s2.trans s3)).ne n3;have p4:q4≠p:=(P1.same ((s2.trans s3).trans s4)).ne n4;have p5:q5≠p:=(P1.same (((s2.trans s3).trans s4).trans s5)).ne n5;refine jW P6 S6 h63 (by decide) (by decide) (by decide) fun y H7 y0 y1 P7 S7 C7=>?_;have g1:=C7 _ _ p1 (s6 _ _ (s5 _ _ (s4 _ _ (s3 _ _ h2))));have g2:=C7 _ _ p2 (s6 _ _ (s5 _ _ (s4 _ _ h3)));have g3:=C7 _ _ p3 (s6 _ _ (s5 _ _ h4));have g4:=C7 _ _ p4 (s6 _ _ h5);have g5:=C7 _ _ p5 h6;have pk:∃(t:Addr) (far:Int) (dm M:Nat),atI [V.ref q1,V.ref q2,V.ref q3,V.ref q4] y=some (.ref t)/\H7 t=some (.tup [.int far,.int (dm+1:Nat)])/\1<=far/\far<=31/\dm<=3/\(15<far->dm<=2)/\far+1<=2*(M:Int)/\1<=M/\M<=99/\M^dm<=1000:=by
  rcases r4 y0 y1 with rfl|rfl|rfl|rfl
  ·exact⟨q1,15,3,8,rfl,g1,by decide,by decide,by decide,by decide,by decide,by decide,by decide,by decide⟩
  ·exact⟨q2,15,2,8,rfl,g2,by decide,by decide,by decide,by decide,by decide,by decide,by decide,by decide⟩
  ·exact⟨q3,7,3,4,rfl,g3,by decide,by decide,by decide,by decide,by decide,by decide,by decide,by decide⟩
  ·exact⟨q4,31,2,16,rfl,g4,by decide,by decide,by decide,by decide,by decide,by decide,by decide,by decide⟩
 obtain⟨tq,far,dm,M,eq,ht,f1,f2,d3,fd,fM,M1,M99,fB⟩:=pk;refine⟨q5,_,y,_,rfl,rfl,g5,eq,?_⟩;clear g1 g2 g3 g4 g5 p1 p2 p3 p4 p5 n1 n2 n3 n4 n5 h2 h3 h4 h5 h6 s2 s3 s4 s5 s6 P6 S6 s16 C7 eq
 (iterate 5 ((try (walk_at "WP"));(try (simp only[ht,qJs,qJt,qJl,qJd,exists_eq_left',exists_eq_left]))));(try (walk_at "WP"))
 (try (walk_at "WP"));(try (refine ze hR_ ?_));(try (refine zi fun R_ hR_=>?_));(try (walk_at "WP"))
 refine jW P7 S7 h63 (by decide) (by omega) (by omega) fun top0 H8 u0 u1 P8 S8 C8=>?_;clear ht C8;have t1:1<=1+top0:=by omega
 have t31:1+top0<=far:=by omega
 (try (walk_at "WP"));(try (refine ze hR_ ?_));(try (refine zi fun R_ hR_=>?_));(try (walk_at "WP"))
 generalize 1+top0=top at t1 t31 ⊢;refine jW P8 S8 h63 (by decide) (by omega) (by omega) fun mo H9 m0 m1 P9 S9 C9=>?_;obtain⟨most,rfl⟩:=Int.eq_ofNat_of_zero_le m0;(try (walk_at "WP"));(try (refine ze hR_ ?_));(try (refine zi fun R_ hR_=>?_));(try (walk_at "WP"))
 refine jW P9 S9 h63 (by decide) (by decide) (by decide) fun n H10 n0 n1 P10 S10 C10=>?_
 try walk_at "WP"
 refine⟨by omega,by omega,?_⟩;refine comp_penI (n:=(1+n).toNat) (lo:=0) (d:=5) (by omega) P10 S10 (fun x=>x.natAbs<2^12) (fun i H' R hi P' S' C' hR=>?_) (fun l xs H11 nl xl xb hl P11 S11 C11=>?_)
 ·rw[show ∀o2 o3 o5 o6 o7 o8,yG [1,4] [some (V.ref a),some (V.ref p),o2,o3,some (V.int top),o5,o6,o7,o8]=[some (V.ref p),some (V.int top)] from fun _ _ _ _ _ _=>rfl]
  try walk_at "WP"
  exact⟨p,a,ns,_,top,rfl,P',S',h63,by omega,t1,by omega,fun z H5 z0 z1 P5 S5 C5=>hR z H5 (by omega) P5 S5 C5⟩
 have lp:l≠p:=P10.ne nl;have tM:top+1<=2*(M:Int):=by omega
 have mB:M^most<=1000:=zR (qN M1 (by omega)) fB;have l4:xs.length<=4:=by omega
 have xb3:∀x∈xs,x.natAbs<2^300:=fun x hx=>Nat.lt_trans (xb x hx) (Nat.pow_lt_pow_right (by decide) (by decide));have nf:¬ farB top most:=by unfold farB;omega
 have P12:=P11.mono (d:=1000) (by omega);clear P1 P7 S7 P8 S8 C9 P9 S9 C10 P10 S10 C11 P11;(try (walk_at "WP"));(try (refine ze hR_ ?_));(try (refine zi fun R_ hR_=>?_));(try (walk_at "WP"))
 refine mid_of (M35 K p a l far (dm+1:Nat) top most xs ns) (fun N hN=>?_) ?_
 ·try walk_at "WP"
  refine⟨_,.inl (SqL.of hl),fun l1 nl1=>?_⟩;refine ye nl1 fun H12 s12 h12=>?_;have M0:∀r H14,Same H12 H14->Told35 top most xs H14 r->N [some (.ref a),some (.ref p),some (.int far),some (.int (dm+1:Nat)),some (.int top),some (.int most),some (.ref l),some (.ref r),none] H14:=fun r H14 s14 h=>hN _ _ ⟨r,rfl,s14 _ _ (s12 _ _ hl),(P12.same s12).same s14,(S11.same s12).same s14,h⟩;refine⟨l1,xs,top,most,rfl,h12,by omega,xb3,t1,by omega,by omega,nf,fun r lv lvs Ls H14 s14 hr14 PP LV ll ane fi=>?_,fun r w0 dl gl us os ds gs cs pv H14 s14 hr14 hw hd hds _ _ _ _ _ _ dle fi pp=>?_⟩
  ·exact M0 r H14 s14 (.inl ⟨lv,lvs,Ls,hr14,PP,LV,ll,ane⟩)
  ·exact M0 r H14 s14 (.inr ⟨w0,dl,gl,us,ds.length,pv,hr14,hw,hd,hds.len,dle,fun z=>z _ dle ((Jk fi).2 _ rfl).2,pp⟩)
 clear hl P12 S11;rintro σ H15 MM;refine mid_of (M35 K p a l far (dm+1:Nat) top most xs ns) (fun N hN=>?_) ?_
 ·obtain⟨r,rfl,hl,P15,S15,TD⟩:=id MM;rcases TD with⟨lv,lvs,Ls,hr15,PP,LV,ll,ane⟩|⟨w0,dl,gl,us,n,pv,hr15,hw,hd,ul,dle,no,pp⟩
  ·refine ifs_yes (fun Q hQ=>?_) ?_
   ·(iterate 5 ((try (walk_at "WP"));(try (simp only[hr15,qJs,qJt,qJl,qJd,exists_eq_left',exists_eq_left]))));(try (walk_at "WP"))
    exact hQ
   (iterate 5 ((try (walk_at "WP"));(try (simp only[hr15,qJs,qJt,qJl,qJd,exists_eq_left',exists_eq_left]))));(try (walk_at "WP"))
   refine⟨_,.inl (SqL.of hl),fun l1 nl1=>?_⟩;refine ye nl1 fun H16 s16 h16=>?_;refine⟨lv,l1,lvs,Ls,xs,top,by rw[ll],PP.same s16,lvs_pap LV PP (by omega),by omega,by rw[ll];exact nf,t1,by omega,h16,by omega,fun b H17 s17 hb=>?_⟩;obtain rfl:b=true:=hb.mpr (lvs_shows LV ane);refine⟨true,rfl,?_⟩;rw[if_neg (by decide)];exact hN _ _ (MM.same (s16.trans s17))
  ·refine ifs_no (fun Q hQ=>?_) (hN _ _ MM)
   (iterate 5 ((try (walk_at "WP"));(try (simp only[hr15,qJs,qJt,qJl,qJd,exists_eq_left',exists_eq_left]))));(try (walk_at "WP"))
   exact hQ
 clear MM H15;rintro σ H15 MM;refine mid_of (M35 K p a l far (dm+1:Nat) top most xs ns) (fun N hN=>?_) ?_
 ·obtain⟨r,rfl,hl,P15,S15,TD⟩:=id MM;rcases TD with⟨lv,lvs,Ls,hr15,PP,LV,ll,ane⟩|⟨w0,dl,gl,us,n,pv,hr15,hw,hd,ul,dle,no,pp⟩
  ·refine ifs_no (fun Q hQ=>?_) (hN _ _ MM)
   (iterate 5 ((try (walk_at "WP"));(try (simp only[hr15,qJs,qJt,qJl,qJd,exists_eq_left',exists_eq_left]))));(try (walk_at "WP"))
   exact hQ
  ·refine ifs_yes (fun Q hQ=>?_) ?_
   ·(iterate 5 ((try (walk_at "WP"));(try (simp only[hr15,qJs,qJt,qJl,qJd,exists_eq_left',exists_eq_left]))));(try (walk_at "WP"))
    exact hQ
   rcases pp with⟨rfl,rfl⟩|⟨lv,lvs,Ls,rfl,PP,LV,ll,ane⟩
   ·refine ifs_no (fun Q hQ=>?_) (hN _ _ MM)
    (iterate 5 ((try (walk_at "WP"));(try (simp only[hr15,qJs,qJt,qJl,qJd,exists_eq_left',exists_eq_left]))));(try (walk_at "WP"))
    exact hQ
   ·refine ifs_yes (fun Q hQ=>?_) ?_
    ·(iterate 5 ((try (walk_at "WP"));(try (simp only[hr15,qJs,qJt,qJl,qJd,exists_eq_left',exists_eq_left]))));(try (walk_at "WP"))
     exact hQ
    (iterate 5 ((try (walk_at "WP"));(try (simp only[hr15,qJs,qJt,qJl,qJd,exists_eq_left',exists_eq_left]))));(try (walk_at "WP"))
    refine⟨_,.inl (SqL.of hl),fun l1 nl1=>?_⟩;refine ye nl1 fun H16 s16 h16=>?_;refine⟨_,s16 _ _ hr15,_,rfl,?_⟩;rw[w_ixU];refine⟨_,s16 _ _ hw,_,rfl,_,rfl,_,s16 _ _ hd,?_⟩;rw[show((us.length:Nat):Int)-1=(Ls.length:Nat) by omega];refine⟨lv,l1,lvs,Ls,xs,top,rfl,PP.same s16,lvs_pap LV PP (by omega),by omega,by unfold farB;omega,t1,by omega,h16,by omega,fun b H17 s17 hb=>?_⟩;obtain rfl:b=true:=hb.mpr (lvs_shows LV ane);refine⟨true,rfl,?_⟩;rw[if_neg (by decide)];exact hN _ _ (MM.same (s16.trans s17))
 clear MM H15;rintro σ H15 MM;refine mid_of (M35 K p a l far (dm+1:Nat) top most xs ns) (fun N hN=>?_) ?_
 ·obtain⟨r,rfl,hl,P15,S15,TD⟩:=id MM;rcases TD with⟨lv,lvs,Ls,hr15,PP,LV,ll,ane⟩|⟨w0,dl,gl,us,n,pv,hr15,hw,hd,ul,dle,no,pp⟩
  ·refine ifs_no (fun Q hQ=>?_) (hN _ _ MM)
   (iterate 5 ((try (walk_at "WP"));(try (simp only[hr15,qJs,qJt,qJl,qJd,exists_eq_left',exists_eq_left]))));(try (walk_at "WP"))
   exact hQ
  ·refine ifs_yes (fun Q hQ=>?_) ?_
   ·(iterate 5 ((try (walk_at "WP"));(try (simp only[hr15,qJs,qJt,qJl,qJd,exists_eq_left',exists_eq_left]))));(try (walk_at "WP"))
    exact hQ
   have pz:pv=V.non↔us.length=0:=by
    rcases pp with⟨h1,rfl⟩|⟨lv,lvs,Ls,rfl,_,_,ll,_⟩
    ·exact⟨fun _=>by omega,fun _=>rfl⟩
    ·exact⟨fun h=>(by cases h),fun h=>by omega⟩
   (iterate 5 ((try (walk_at "WP"));(try (simp only[hr15,qJs,qJt,qJl,qJd,exists_eq_left',exists_eq_left]))));(try (walk_at "WP"))
   refine⟨_,hw,_,rfl,_,rfl,_,hd,?_⟩;rw[if_neg (by
    by_cases z:us.length=0
    ·rw[decide_eq_true (pz.mpr z),decide_eq_true (by omega)];simp
    ·rw[decide_eq_false (fun h=>z (pz.mp h)),decide_eq_false (by omega)];simp)]
   exact hN _ _ MM
 clear MM H15;rintro σ H15 ⟨r,rfl,hl,P15,S15,TD⟩;obtain⟨sw,rest,hr15,hs⟩:∃(sw:Str) (rest:List V),H15 r=some (.tup (.str sw::rest))/\((sw = "none")\/sw = "web" /\ ¬ NoneP top most xs):=by
  rcases TD with⟨_,_,_,h,_⟩|⟨_,_,_,_,_,_,h,_,_,_,_,no,_⟩
  ·exact⟨_,_,h,.inl rfl⟩
  ·exact⟨_,_,h,.inr ⟨rfl,no⟩⟩
 clear TD;have rp:r≠p:=by
  obtain⟨_,hp⟩:=P15.lst;exact xt hr15 hp (by intro y;cases y)
 try walk_at "WP"
 refine forR (fun i σ H'=>∃o8:Option V,σ=[some (.ref a),some (.ref p),some (.int far),some (.int (dm+1:Nat)),some (.int top),some (.int most),some (.ref l),some (.ref r),o8]/\H' r=some (.tup (.str sw::rest))/\H' l=some (.lst (xs.map V.int))/\PPen H' p a (1000+20000*i)/\Scr K H' a ns) ⟨_,rfl,hr15,hl,P15.mono (by omega),S15⟩ ?_ ?_
 ·rintro i σ H16 N hi ⟨o8,rfl,hr16,hl16,P16,S16⟩ hN
  try walk_at "WP"
  refine⟨p,a,ns,_,top,most,M,rfl,P16,S16,h63,by omega,t1,by omega,tM,M1,M99,mB,by omega,fun lv lvs Ls H17 _ C17 P17 S17 PP _ PO ll=>?_⟩;refine⟨p,a,lv,l,ns,_,lvs,Ls,xs,top,by rw[ll],P17,S17,h63,by omega,PP,PO,C17 _ _ lp hl16,lp,l4,xb,t1,by omega,by omega,by omega,fun H18 C18 P18 S18=>?_⟩;have C:=C17.trans C18
  try walk_at "WP"
  exact hN _ _ ⟨_,rfl,C _ _ rp hr16,C _ _ lp hl16,P18.mono (by omega),S18⟩
 ·rintro σ H16 ⟨o8,rfl,hr16,hl16,P16,S16⟩
  (iterate 5 ((try (walk_at "WP"));(try (simp only[hr16,qJs,qJt,qJl,qJd,exists_eq_left',exists_eq_left]))));(try (walk_at "WP"))
  rcases hs with rfl|⟨rfl,no⟩
  ·rw[if_pos rfl];exact q _
  ·rw[if_neg (by decide)];refine⟨p,a,ns,_,top,most,M,rfl,P16,S16,h63,by omega,t1,by omega,tM,M1,M99,mB,by omega,fun lv lvs Ls H17 _ C17 P17 S17 PP _ PO ll=>?_⟩;refine⟨_,.inl (SqL.of (C17 _ _ lp hl16)),fun l1 nl1=>?_⟩;refine ye nl1 fun H18 s18 h18=>?_;refine⟨lv,l1,lvs,Ls,xs,top,by rw[ll],PP.same s18,PO,by omega,by rw[ll];exact nf,t1,by omega,h18,by omega,fun b H19 s19 hb=>⟨b,rfl,?_⟩⟩;cases b with
   |false=>exact q _
   |true =>
    have:=shows_all t1 (ask_nd xs) (fun x hx=>(mem_ask.mp hx).1) (hb.mp rfl);rw[ll]at this;exact absurd this no
end
theorem ln1 {B:Type}{us:List B}(h:us.length=1):∃z,us=[z]:=match us,h with|[z],_=>⟨z,rfl⟩
theorem ln2 {G:Type}{us:List G}(h:us.length=2):∃B z,us=[B,z]:=match us,h with|[B,z],_=>⟨B,z,rfl⟩
theorem ln3 {H:Type}{us:List H}(h:us.length=3):∃z G B,us=[z,G,B]:=match us,h with|[z,G,B],_=>⟨z,G,B,rfl⟩
theorem ln4 {J:Type}{us:List J}(h:us.length=4):∃z H B G,us=[z,H,B,G]:=match us,h with|[z,H,B,G],_=>⟨z,H,B,G,rfl⟩
theorem ln5 {M:Type}{us:List M}(h:us.length=5):∃B J G H z,us=[B,J,G,H,z]:=match us,h with|[B,J,G,H,z],_=>⟨B,J,G,H,z,rfl⟩
theorem all_mk {l:PySem.W.OpenLaw} {w:World} {K:zA} {h:Heap} {U:Str->Option Value} {fa:Addr} (X:K.In h) (G:h.Ns mainGlobals U) (hfa:U "law" = some (.ref fa))
  {M:Addr} {oe1:Option Addr} {sm1:Array (Option Value)} {nc1:Nat} {ta1 tb1 td1:Tok} {ad:Tok} {aa:Tok} {ac:Tok} {z:Addr}
  (D:DL K tb) (Z:NL K ["abs","all","any","bool","enumerate","int","isinstance","len","list","range","set","sorted","sum","tuple","zip"])
  (ac1:xS K mainGlobals "NO_OUT" = some (some (.ref M))) (lc1:K.lookup M=some ⟨.type "tuple",oe1,.seq #[.int 0 ta1,.int 0 tb1,.int 0 td1] nc1,sm1⟩)
  (ai1:xS K mainGlobals "TOP_AT_MOST" = some (some (.int 99 ad)))
  (ai2:xS K mainGlobals "DEEDS_AT_MOST" = some (some (.int 4 aa)))
  (ai3:xS K mainGlobals "TOP_WITH_ALL_DEEDS" = some (some (.int 31 ac)))
  (ak1:xS K mainGlobals "TooMany" = some (some (.ref z)))
  (fk1:PySem.W.excIn K z [.type "ValueError",.type "Exception",.type "BaseException",.type "object"] "ValueError.__new__" = true)
  : ∃fd:FuncData,(∀(s:Shared) (v:Value),BindsTo s fd ⟨[v],[]⟩ [("_law_script",v)])/\∀base:Heap,K.In base->base.Ns mainGlobals U->FnOk l.prog w K U base CX0 20 fa fd ["_law_script"] (spLaw K):=by
 have hb:BL tb:=by
  repeat (refine⟨fun _ _ _ _ _ _ B Y=>?_,?_⟩;skip;· first|(obtain⟨H,rfl⟩:=ln1 (us:=B) Y;rfl)|(obtain⟨H,J,rfl⟩:=ln2 (us:=B) Y;rfl)|(obtain⟨H,J,O,rfl⟩:=ln3 (us:=B) Y;rfl)|(obtain⟨H,J,O,a3_,rfl⟩:=ln4 (us:=B) Y;rfl)|(obtain⟨H,J,O,a3_,a4_,rfl⟩:=ln5 (us:=B) Y;rfl))
  exact trivial
 have T:Txt K U:=⟨(by constructor<;>exact nl_at X G Z (by decide)),fun i x e=>tx_of X G D hb e,⟨M,PySem.W.mg_of X G ac1,_,_,_,lc1,rfl,rfl,zm (by show 3<=1000;decide),.cons ⟨_,rfl⟩ (.cons ⟨_,rfl⟩ (.cons ⟨_,rfl⟩ .nil))⟩,⟨ad,PySem.W.mg_of X G ai1⟩,⟨aa,PySem.W.mg_of X G ai2⟩,⟨ac,PySem.W.mg_of X G ai3⟩,⟨z,PySem.W.mg_of X G ak1,fk1⟩⟩;obtain⟨fd,F,b⟩:=law_tx (T.t 35 _ rfl) (bx_at (i:=35) hb rfl) hfa;exact⟨fd,b,fun base _ _=>ok_law T F⟩
theorem walk {l:PySem.W.OpenLaw}{q:Program}{loose:List Str}{XP:(Str->Option Value)->Heap->Prop}{M:World->Heap->Prop}{d:DefRec}{K:Params->zA}(hn:l.most=some 63)(G:d.params.defaults=[])
  (hY:∀(w:World) (h:Heap),M w h->(K w.params).In h)
  (F:∀(w:World) (B:Str->Option Value) (J:Addr) (h:Heap),(K w.params).In h->h.Ns mainGlobals B->B d.name=some (.ref J) ->
   ∃H:FuncData,(∀(s:Shared) (u:Value),BindsTo s H ⟨[u],[]⟩ [("_law_script",u)])/\∀base:Heap,(K w.params).In base->base.Ns mainGlobals B->FnOk l.prog w (K w.params) B base CX0 20 J H ["_law_script"] (spLaw (K w.params))) :
  PySem.W.WalkO q loose XP M l.row.toRowW d [] (fun f Y=>PySem.call f Y) :=
 L2.walk_of (n:=63) (k:=20) (x:="_law_script") (CX:=fun _=>CX0) (sp:=fun w=>spLaw (K w.params)) hn (by decide) G ⟨rfl,by decide,by decide⟩ hY F (fun _ _ a ns U O hS=>⟨a,ns,rfl,scr_of O hS,U,fun _=>rfl⟩) fun _ _ _ _ _ z=>z
end Law
def PySem.W.Fast.tw11813680842558433624:Unit:=()
def PySem.W.Fast.tw17707394384206875950:Unit:=()
def PySem.W.Fast.tw16555126061058592219:Unit:=()
def PySem.W.Fast.tw701150916608807137:Unit:=()
def PySem.W.Fast.tw861864335664230187:Unit:=()
def PySem.W.Fast.tw7801708126494186209:Unit:=()
def PySem.W.Fast.tw7684665375121005585:Unit:=()
def PySem.W.Fast.tw8110608836403385183:Unit:=()
def PySem.W.Fast.tw2313189099930854701:Unit:=()
def PySem.W.Fast.tw15382710087173925596:Unit:=()
def PySem.W.Fast.tw4320445510233973202:Unit:=()
def PySem.W.Fast.tw2978724225047122547:Unit:=()
def PySem.W.Fast.tw2519951761945830844:Unit:=()
def PySem.W.Fast.tw9720814547922706951:Unit:=()
def PySem.W.Fast.tw3478848159182241913:Unit:=()
def PySem.W.Fast.tw9763298784953847147:Unit:=()
def PySem.W.Fast.tw10331526014072787301:Unit:=()
def PySem.W.Fast.tw1293792382507608061:Unit:=()
def PySem.W.Fast.tw2091022255068603169:Unit:=()
def PySem.W.Fast.tw2205870247661878967:Unit:=()
def PySem.W.Fast.tw1808890896834711214:Unit:=()
def PySem.W.Fast.tw5129369713768405055:Unit:=()
def PySem.W.Fast.tw7989863270506745463:Unit:=()
def PySem.W.Fast.tw16002620573520096568:Unit:=()
def PySem.W.Fast.tw8173980058394961984:Unit:=()
def PySem.W.Fast.tw4694784088057872665:Unit:=()
def PySem.W.Fast.tw15143920778444016305:Unit:=()
def PySem.W.Fast.tw4212392907549381292:Unit:=()
def PySem.W.Fast.tw2436611872863239880:Unit:=()
def PySem.W.Fast.tw2613234497691223153:Unit:=()
def PySem.W.Fast.tw4864126603588689309:Unit:=()
def PySem.W.Fast.tw17501047419615628435:Unit:=()
def PySem.W.Fast.tw14836222791816247062:Unit:=()
def PySem.W.Fast.tw2000285960048062741:Unit:=()
def PySem.W.Fast.tw5376426439008897026:Unit:=()
def PySem.W.Fast.tw2643968261180684437:Unit:=()
def PySem.W.Fast.tw17229052619681648054:Unit:=()
def PySem.W.Fast.tw14462983101796073930:Unit:=()
def PySem.W.Fast.tw18282493298659170786:Unit:=()
def PySem.W.Fast.tw1024359786496442380:Unit:=()
def PySem.W.Fast.tw16974333008131951931:Unit:=()
def PySem.W.Fast.tw8802525396175941608:Unit:=()
def PySem.W.Fast.tw16357850433610910222:Unit:=()
def PySem.W.Fast.tw11161304058021249963:Unit:=()
def PySem.W.Fast.tw14216213893899901332:Unit:=()
def PySem.W.Fast.tw12429254805921516903:Unit:=()
def PySem.W.Fast.tw16704196918794232701:Unit:=()
def PySem.W.Fast.tw456314995200421220:Unit:=()
def PySem.W.Fast.tw18317195308632966163:Unit:=()
def PySem.W.Fast.tw7114499223832378335:Unit:=()
def PySem.W.Fast.tw4188899929954914085:Unit:=()
def PySem.W.Fast.tw6722722190021759341:Unit:=()
def PySem.W.Fast.tw2566302686326533354:Unit:=()
def PySem.W.Fast.tw11530807815728317619:Unit:=()
def PySem.W.Fast.tw1590537889205784647:Unit:=()
def PySem.W.Fast.tw7386202966601156004:Unit:=()
def PySem.W.Fast.tw12534550082604690328:Unit:=()
def PySem.W.Fast.tw1218742214556579900:Unit:=()
def PySem.W.Fast.tw1264342414156251215:Unit:=()
def PySem.W.Fast.tw6033688670043118976:Unit:=()
def PySem.W.Fast.tw15715518806645813961:Unit:=()
def PySem.W.Fast.tw11416482919490909616:Unit:=()
def PySem.W.Fast.tw14625809630128516547:Unit:=()
def PySem.W.Fast.tw14246024896681966361:Unit:=()
def PySem.W.Fast.tw12262102440537548892:Unit:=()
def PySem.W.Fast.tw13432120305005679994:Unit:=()
def PySem.W.Fast.tw11251963215002804730:Unit:=()
def PySem.W.Fast.tw5334940683954586976:Unit:=()
def PySem.W.Fast.tw11694036512817823831:Unit:=()
def PySem.W.Fast.tw227039664422846606:Unit:=()
def PySem.W.Fast.tw13959179861466652540:Unit:=()
def PySem.W.Fast.tw3750355293262496991:Unit:=()
def PySem.W.Fast.tw2787634843584933489:Unit:=()
def PySem.W.Fast.tw4590733164876271048:Unit:=()
def PySem.W.Fast.tw9461891577182966773:Unit:=()
def PySem.W.Fast.tw10078390740222400367:Unit:=()
def PySem.W.Fast.tw4432941500332308736:Unit:=()
def PySem.W.Fast.tw10400884219426591463:Unit:=()
def PySem.W.Fast.tw13782994677838282203:Unit:=()
def PySem.W.Fast.tw3616263890595368808:Unit:=()
def PySem.W.Fast.tw12667145203927762522:Unit:=()
def PySem.W.Fast.tw9217849739549737257:Unit:=()
def PySem.W.Fast.tw12157207599610869540:Unit:=()
def PySem.W.Fast.tw2359228212467212433:Unit:=()
def PySem.W.Fast.tw9803478373250850807:Unit:=()
def PySem.W.Fast.tw15724250434433239473:Unit:=()
def PySem.W.Fast.tw6502982408801295802:Unit:=()
def PySem.W.Fast.tw18424265504805450330:Unit:=()
def PySem.W.Fast.tw3636333395947575582:Unit:=()
def PySem.W.Fast.tw10565599304837403634:Unit:=()
def PySem.W.Fast.tw12009852323830433365:Unit:=()
def PySem.W.Fast.tw8380465887240340165:Unit:=()
def PySem.W.Fast.tw7088633306249103956:Unit:=()
def PySem.W.Fast.tw212215286139691945:Unit:=()
def PySem.W.Fast.tw9329133472776147537:Unit:=()
def PySem.W.Fast.tw3783118209943406491:Unit:=()
def PySem.W.Fast.tw11652145186410728971:Unit:=()
def PySem.W.Fast.tw15111198922610262499:Unit:=()
def PySem.W.Fast.tw5123226062051727861:Unit:=()
def PySem.W.Fast.tw6843638343741409934:Unit:=()
def PySem.W.Fast.tw3667880480206664133:Unit:=()
def PySem.W.Fast.tw9788374962629544912:Unit:=()
def PySem.W.Fast.tw1568218044918777209:Unit:=()
def PySem.W.Fast.tw2790257182969486253:Unit:=()
def PySem.W.Fast.tw15800323004759013570:Unit:=()
def PySem.W.Fast.tw2752918497293715:Unit:=()
def PySem.W.Fast.tw6285950648211374029:Unit:=()
def PySem.W.Fast.tw5745084043268096997:Unit:=()
def PySem.W.Fast.tw14557405055654626753:Unit:=()
def PySem.W.Fast.tw6179312504489183488:Unit:=()
def PySem.W.Fast.tw16920267364687348376:Unit:=()
def PySem.W.Fast.tw13197649119572145428:Unit:=()
def PySem.W.Fast.tw13428652812604687849:Unit:=()
def PySem.W.Fast.tw6876596207337276601:Unit:=()
def PySem.W.Fast.tw775169305561585308:Unit:=()
def PySem.W.Fast.tw253978227457514632:Unit:=()
def PySem.W.Fast.tw4926088907736154755:Unit:=()
def PySem.W.Fast.tw12459789534917687739:Unit:=()
def PySem.W.Fast.tw17207703104023304550:Unit:=()
def PySem.W.Fast.tw11924908034280067600:Unit:=()
def PySem.W.Fast.tw4332501065730837832:Unit:=()
def PySem.W.Fast.tw11822690860857674422:Unit:=()
def PySem.W.Fast.tw13033699555659819729:Unit:=()
def PySem.W.Fast.tw7225349575856964854:Unit:=()
def PySem.W.Fast.tw3982023540036112486:Unit:=()
def PySem.W.Fast.tw6621344686185037801:Unit:=()
def PySem.W.Fast.tw2745498175553429128:Unit:=()
def PySem.W.Fast.tw15994527568759535228:Unit:=()
def PySem.W.Fast.tw10285880897915523759:Unit:=()
def PySem.W.Fast.tw15417178441840941293:Unit:=()
def PySem.W.Fast.tw7841407566753067642:Unit:=()
def PySem.W.Fast.tw16415834642995894443:Unit:=()
def PySem.W.Fast.tw17692203918957379687:Unit:=()
def PySem.W.Fast.tw3798839503802584060:Unit:=()
def PySem.W.Fast.tw40921505342135963:Unit:=()
def PySem.W.Fast.tw9237662785472612280:Unit:=()
def PySem.W.Fast.tw8938009399223475176:Unit:=()
def PySem.W.Fast.tw508060199154941985:Unit:=()
def PySem.W.Fast.tw5919452029385687791:Unit:=()
def PySem.W.Fast.tw10289734192183341921:Unit:=()
def PySem.W.Fast.tw18397954925002266185:Unit:=()
def PySem.W.Fast.tw14952470611924118562:Unit:=()
def PySem.W.Fast.tw5483199074374690242:Unit:=()
def PySem.W.Fast.tw13560768762658725702:Unit:=()
def PySem.W.Fast.tw7893407261786889968:Unit:=()
def PySem.W.Fast.tw10379429620581010502:Unit:=()
def PySem.W.Fast.tw7518686927169040890:Unit:=()
def PySem.W.Fast.tw16227729683969814395:Unit:=()
def PySem.W.Fast.tw13252761597892743166:Unit:=()
def PySem.W.Fast.tw8773317536926343286:Unit:=()
def PySem.W.Fast.tw17562598261385589481:Unit:=()
def PySem.W.Fast.tw122440798726562747:Unit:=()
def PySem.W.Fast.tw7142764543090161675:Unit:=()
def PySem.W.Fast.tw1003199606854377884:Unit:=()
def PySem.W.Fast.tw1069061257277539394:Unit:=()
def PySem.W.Fast.tw10042033023731611177:Unit:=()
def PySem.W.Fast.tw9942904295283937884:Unit:=()
def PySem.W.Fast.tw8291397606494071912:Unit:=()
def PySem.W.Fast.tw2252263299471667454:Unit:=()
def PySem.W.Fast.tw9952198452566593853:Unit:=()
def PySem.W.Fast.tw9841374394727980333:Unit:=()
def PySem.W.Fast.tw3090119807185468364:Unit:=()
def PySem.W.Fast.tw1219610865472591485:Unit:=()
def PySem.W.Fast.tw18435737662156401728:Unit:=()
def PySem.W.Fast.tw8695312454928366767:Unit:=()
def PySem.W.Fast.tw15530035000126924144:Unit:=()
def PySem.W.Fast.tw11673595431628262465:Unit:=()
def PySem.W.Fast.tw16539917359650350675:Unit:=()
def PySem.W.Fast.tw12192030894884418549:Unit:=()
def PySem.W.Fast.tw15924979908600797686:Unit:=()
def PySem.W.Fast.tw541531791182564398:Unit:=()
def PySem.W.Fast.tw8027245775913986233:Unit:=()
def PySem.W.Fast.tw500622163047594351:Unit:=()
def PySem.W.Fast.tw5531160798465591781:Unit:=()
def PySem.W.Fast.tw17304047146156456927:Unit:=()
def PySem.W.Fast.tw14173382899258446246:Unit:=()
def PySem.W.Fast.tw7942485185832920220:Unit:=()
def PySem.W.Fast.tw15981150051191748051:Unit:=()
def PySem.W.Fast.tw13317114386557653732:Unit:=()
def PySem.W.Fast.tw8057642871061662106:Unit:=()
def PySem.W.Fast.tw18241164115310157749:Unit:=()
def PySem.W.Fast.tw13550502823755720679:Unit:=()
def PySem.W.Fast.tw10917735411545458519:Unit:=()
def PySem.W.Fast.tw17763359362665600490:Unit:=()
def PySem.W.Fast.tw8322044206123102058:Unit:=()
def PySem.W.Fast.tw7001985291294603276:Unit:=()
def PySem.W.Fast.tw6397417253234100733:Unit:=()
def PySem.W.Fast.tw8148225086429555295:Unit:=()
def PySem.W.Fast.tw3499618083795133577:Unit:=()
def PySem.W.Fast.tw9837907927076773616:Unit:=()
def PySem.W.Fast.tw12406505707531329181:Unit:=()
def PySem.W.Fast.tw10175970749002695698:Unit:=()
def PySem.W.Fast.tw784611895962033049:Unit:=()
def PySem.W.Fast.tw9638832093688150418:Unit:=()
def PySem.W.Fast.tw2530749556245953431:Unit:=()
def PySem.W.Fast.tw4529956778596528270:Unit:=()
def PySem.W.Fast.tw9463891870394458016:Unit:=()
def PySem.W.Fast.tw8978538934010986886:Unit:=()
def PySem.W.Fast.tw1121053289772049232:Unit:=()
def PySem.W.Fast.tw17993198658816570445:Unit:=()
def PySem.W.Fast.tw8210811258241372409:Unit:=()
def PySem.W.Fast.tw12321259436897280430:Unit:=()
def PySem.W.Fast.tw320964587396750155:Unit:=()
def PySem.W.Fast.tw7884283273790187272:Unit:=()
def PySem.W.Fast.tw17727101211534267939:Unit:=()
def PySem.W.Fast.tw9687757364915796279:Unit:=()
def PySem.W.Fast.tw10703296236409249133:Unit:=()
def PySem.W.Fast.tw13866779907914702462:Unit:=()
def PySem.W.Fast.tw727722301414345996:Unit:=()
def PySem.W.Fast.tw16527777296167040040:Unit:=()
def PySem.W.Fast.tw18420221007575363004:Unit:=()
def PySem.W.Fast.tw12243412147082950193:Unit:=()
def PySem.W.Fast.tw1444329268255989529:Unit:=()
def PySem.W.Fast.tw10396072655056606783:Unit:=()
def PySem.W.Fast.tw12414402080003854417:Unit:=()
def PySem.W.Fast.tw11164523070706652694:Unit:=()
def PySem.W.Fast.tw2021108101670649462:Unit:=()
def PySem.W.Fast.tw923398448741877789:Unit:=()
def PySem.W.Fast.tw3062756560074753368:Unit:=()
def PySem.W.Fast.tw730676853933553185:Unit:=()
def PySem.W.Fast.tw1231362170519549334:Unit:=()
def PySem.W.Fast.tw7586466399725611725:Unit:=()
def PySem.W.Fast.tw8723201997604529936:Unit:=()
def PySem.W.Fast.tw4687140097116453413:Unit:=()
def PySem.W.Fast.tw961305807558679699:Unit:=()
def PySem.W.Fast.tw14063826323384094535:Unit:=()
def PySem.W.Fast.tw12019891953947179067:Unit:=()
def PySem.W.Fast.tw9141879752002522658:Unit:=()
def PySem.W.Fast.tw14648180550964379274:Unit:=()
def PySem.W.Fast.tw3263912603763473442:Unit:=()
def PySem.W.Fast.tw1226041870515892059:Unit:=()
def PySem.W.Fast.tw1337428310796526742:Unit:=()
def PySem.W.Fast.tw16568197262012759430:Unit:=()
def PySem.W.Fast.tw1104119547307455496:Unit:=()
def PySem.W.Fast.tw6953835361047815131:Unit:=()
def PySem.W.Fast.tw15370865785999771357:Unit:=()
def PySem.W.Fast.tw9475534743094502730:Unit:=()
open PySem PySem.W PyProof.Rows
local macro_rules | `(tactic| walk_at "D")=>`(tactic| (repeat (refine' L2.dl_cons ?a ?l ?c ?k ?_; (case a=>k_is); (case l=>k_is); (case c=>k_is); (case k=>k_is))); exact trivial)
local macro_rules | `(tactic| walk_at "Z")=>`(tactic| (repeat (refine' L2.nl_cons ?a ?_; (case a=>k_is))); exact trivial)
set_option maxRecDepth 100000 in
set_option maxHeartbeats 0 in
theorem PySem.Challenge.cw_shiftsums_k35_whole_papers_are_so_holds : PySem.Challenge.rw_shiftsums_k35_whole_papers_are_so.Holds := by
 w_on;o_law;k_head;(case hw=>w_witness2)
 k_fill
 refine Law.walk (l:=PySem.Challenge.rw_shiftsums_k35_whole_papers_are_so) rfl rfl (fun w h Y=>PySem.W.kIn_of Y) ?F
 case F =>
  intro w mg fa h KX G hmg;refine' Law.all_mk KX G hmg ?D ?Z ?ac1 ?lc1 ?ai1 ?ai2 ?ai3 ?ak1 ?fk1
  (case D=>walk_at "D");(case Z=>walk_at "Z");(case ac1=>k_is);(case lc1=>k_is)
  (case ai1=>k_is);(case ai2=>k_is);(case ai3=>k_is);(case ak1=>k_is)
  (case fk1=>first|kernel_rfl|k_exc)
end
