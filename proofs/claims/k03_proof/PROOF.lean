import PyProof.Rows.All
import Wide.All
import OpenK.AllK
import Wide.FinOn
import Lean
import PyProof.EqAt
import PyProof.EqKinds
import PyProof.TupleCall
import KE.KDictList
import KE.KDictLaws
import KE.KDictSum
import KE.KRevSl
import PyProof.DictWalks
import PyProof.ExcInit
import PyProof.ExcClass2
import PyProof.StationsW
import PyProof.InstStore
import PyProof.InstStoreFacts
import PyProof.ExcBaseAll.ValueError
import PyProof.RulesAs
import PyProof.NsDelKeeps
import PyProof.ExcAttrAll.ValueError
import KE.KIsAll
import PySem.Challenge.RW_linkorcut_k03_places_names_ends
set_option Elab.async false
set_option compiler.extract_closed false
set_option linter.all false
set_option maxRecDepth 100000
set_option maxHeartbeats 4000000
set_option genSizeOf false
set_option backward.eqns.nonrecursive false
set_option backward.eqns.deepRecursiveSplit false
set_option bootstrap.genMatcherCode false
set_option hygiene false
local macro_rules
|`(def $n:declId $s:optDeclSig $v:declVal)=>`(noncomputable def $n:declId $s:optDeclSig $v:declVal)
|`(abbrev $n:declId $s:optDeclSig $v:declVal)=>`(noncomputable abbrev $n:declId $s:optDeclSig $v:declVal)
local macro_rules
|`(#[$a])=>`(.cons $a .nil)
|`(#[$a,$as,*])=>`(.cons $a #[$as,*])
local macro_rules
|`(!$n:num)=>`(.var $n)
local macro_rules
|`(¬$n:num)=>`(.cst (.int $n))
set_option hygiene true
open Array(toList)
open Bool(and_eq_true false_eq_true not_eq_true' or_eq_true)
open Int(not_lt)
open List(all_eq_true find?_cons length length_append length_cons length_map length_nil lookup_cons map_append map_cons map_id map_nil mem_append mem_cons not_mem_nil range' replicate size_toArray toArray zip_cons_cons)
open Nat(lt_trans mod_lt)
open Option(bind_some getD_none map_some)
open PySem.W(bind_fn callWith_K0 cellsFrom_some codeIn emptyDict findIn findObj handedIn hasDictIn hideAll instObj kat_lt keepIn kitAny kitOne kitx_list lookIn looks_clsIn looks_find looks_mroIn makesIn methodObj notCls osa_eq specialIn takesIn typeIn)
def Tw:=@PySem.wpAny_bind
def Tz:=@Option.bind_eq_some_iff
def TF:=@PySem.Heap.get?_push_of_some
def TH:=@Bool.false_ne_true
def TJ:=@List.getElem?_eq_some_iff
def TL:=@PySem.wpAny_pure
def TM:=@List.mem_cons_of_mem
def TN:=@List.getElem?_set_ne
def TQ:=@List.length_map
def TR:=@PySem.Heap.lt_size
def TU:=@List.mem_cons_self
def TV:=@Nat.le_refl
def TX:=@if_neg
def TY:=@Nat.lt_of_lt_of_le
def TZ:=@List.size_toArray
def T4:=@if_pos
def T5:=@List.getElem?_set_self
def T6:=@List.map_cons
def T7:=@PySem.Heap.get?_push_size
def T8:=@List.mem_cons
def T9:=@Nat.ne_of_lt
def Ua:=@List.getElem?_append_left
def Ub:=@List.mem_of_getElem?
def Uc:=@List.prefix_refl
def Ud:=@of_decide_eq_true
def Ue:=@List.mem_singleton
def Ug:=@List.getElem?_map
def Uh:=@Option.some.inj
def Ui:=@List.getElem?_eq_getElem
def Uj:=@Option.map_eq_some_iff
def Uk:=@List.getElem?_append_right
def Ul:=@List.length_append
def Um:=@Array.length_toList
def Uo:=@PySem.W.mg_of
def Uq:=@List.mem_append_right
def Ur:=@PySem.wpAny_mono
def Us:=@PySem.Heap.get?_update_self
def Ut:=@Nat.le_trans
def Uu:=@PySem.wpAny_newObj_type
def Uv:=@PySem.wpAny_Call_Name_kw
def Uw:=@Array.getElem?_eq_getElem
def Ux:=@PySem.Obj.data_mapFields
def Uy:=@PySem.wpAny_holding
def Uz:=@Nat.lt_succ_self
def UA:=@List.length_cons
def UB:=@True.intro
def UC:=@Nat.lt_irrefl
def UD:=@List.nodup_cons
def UE:=@Bool.and_eq_true
def UG:=@List.map_map
def UH:=@PySem.Heap.SameBut.update
def UI:=@PySem.sizeLine_eq
def UJ:=@Nat.le_succ
def UK:=@List.pairwise_cons
def UL:=@PyProof.Rows.callWith_type1
def UM:=@congrArg
def UN:=@PySem.Heap.size_push
def UO:=@PySem.Heap.get?_update_other
def UP:=@beq_eq_false_iff_ne
def UQ:=@PySem.mem_of_lookup
def US:=@List.append_nil
def UT:=@PySem.W.kia_one
def UU:=@Classical.choose_spec
def UW:=@PyProof.Rows.callWith_builtin1
def UX:=@List.prefix_append
def UY:=@Nat.lt_succ_of_lt
def UZ:=@PySem.wpAny_setState_of
def U0:=@List.mem_append
def U3:=@PyProof.Rows.KeyOrd.kle_refl
def U4:=@List.filterMap_cons
def U5:=@List.map_congr_left
def U6:=@PyProof.Rows.F.plain_set_update_loop
def U7:=@PySem.wpAny_standAt
def U8:=@Nat.zero_le
def U9:=@Array.getElem?_eq_some_iff
def Va:=@PySem.Obj.isFreed_of_fields
def Vb:=@List.pairwise_iff_getElem
def Vc:=@List.getElem?_eq_none_iff
def Vd:=@PySem.W.hideAll_none
def Ve:=@Nat.le_of_lt
def Vf:=@List.mem_append_left
def Vg:=@PySem.wpAny_truthy_bool
def Vh:=@PySem.W.looks_findIn
def Vi:=@PySem.Around.under_plainId
def Vj:=@List.mem_map
def Vk:=@Bool.true_and
def Vl:=@PySem.W.hideAll_get
def Vm:=@PySem.wpAny_call_entry
def Vn:=@List.eq_nil_of_length_eq_zero
def Vo:=@Nat.ne_of_gt
def Vp:=@PySem.Calls.spliced_cons
def Vq:=@PySem.codeAny_mono
def Vr:=@PySem.W.sortI_perm
def Vs:=@Int.emod_lt_of_pos
def Vt:=@PySem.codeAny_builtin
def Vu:=@PySem.Calls.spliced_nil
def Vv:=@List.pairwise_map
def Vw:=@PySem.wpAny_loadPart_at
def Vx:=@List.mem_iff_getElem
def Vy:=@PySem.wpAny_setField
def Vz:=@List.getElem_map
def VA:=@List.getElem?_zip_eq_some
def VC:=@PySem.Heap.get?_update_ne
def VD:=@PySem.wpAny_execs_nil
def VE:=@PySem.wpAny_passesOwn
def VF:=@Array.Perm.refl
def VG:=@PySem.W.KasT.kasWp_bind
def VH:=@List.map_append
def VI:=@Int.emod_nonneg
def VJ:=@PySem.wpAny_call
def VL:=@PySem.W.callWith_K
def VM:=@List.mem_replicate
def VN:=@PySem.wpAny_callSpecial?_slot
def VO:=@PySem.F.plainAttrs_list
def VP:=@Int.eq_ofNat_of_zero_le
def VQ:=@PySem.wpAny_pyIter_list
def VS:=@List.map_nil
def VT:=@PyProof.Rows.KeyOrd.kle_of_klt
def VU:=@List.Perm.refl
def VW:=@PySem.fits_of_scanBound
def VX:=@List.length_replicate
def VY:=@List.mem_iff_getElem?
def VZ:=@Array.getElem?_toList
def V0:=@List.length_take
def V1:=@PyProof.Rows.KeyOrd.kle_trans
def V3:=@List.ext_getElem
def V4:=@PySem.W.eq_sortI
def V5:=@List.any_cons
def V6:=@PySem.plainId_quiet
def V7:=@PySem.Heap.get?_none_of_le
def V8:=@PySem.codeAny_call_builtin
def V9:=@List.drop_eq_nil_iff
def Wa:=@List.getElem_of_mem
def Wb:=@List.mem_map_of_mem
def Wc:=@PySem.W.of_hideAll
def Wd:=@PySem.Code.quiet_builtin
def We:=@of_decide_eq_false
def Wf:=@PySem.W.mg_none_of
def Wg:=@PySem.Value.isInt_shape
def Wh:=@List.length_range
def Wi:=@List.nodup_append
def Wj:=@PySem.Obj.cls_mapFields
def Wk:=@List.Pairwise.imp
def Wl:=@PySem.Paired.length
def Wm:=@PySem.wpAny_attempt
def Wn:=@List.length_drop
def Wo:=@beq_self_eq_true
def Wq:=@List.getElem_mem
def Wr:=@PySem.W.any_some
def Ws:=@List.all_eq_true
def Wt:=@List.cons_append
def Wu:=@List.of_mem_zip
def Wv:=@List.length_nil
def Ww:=@Bool.or_eq_true
def Wx:=@List.nil_append
def Wy:=@List.Perm.cons
def Wz:=@List.drop_drop
def WA:=@beq_iff_eq
open PySem.W(Frag sortI nsIn fnOf isFn)
section
namespace L2
open PySem PySem.Spec PyProof.Rows
abbrev Key:=Sum Int Str
def mh:Key->Value->Bool
 |.inl k,v=>Value.isInt k v
 |.inr x,v=>Value.isStrOf x v
def NU(w:World):Key->Int
 |.inl k=>hashInt k
 |.inr x=>hashStr w x
theorem bh:∀{k:Key} {v:Value},mh k v=true->(∃i t,k=Sum.inl i/\v=Value.int i t)\/(∃x t,k=Sum.inr x/\v=Value.str x t)
 | .inl i,v,h=>by
  obtain⟨t,e⟩:=Wg (k:=i) (v:=v) h;exact .inl ⟨i,t,rfl,e⟩
 | .inr x,v,h=>by
  obtain⟨t,e⟩:=Value.isStrOf_shape (x:=x) (v:=v) h;exact .inr ⟨x,t,rfl,e⟩
theorem wX(i:Int)(t:Tok):mh (.inl i) (.int i t)=true:=by simp[mh,Value.isInt]
theorem wY(x:Str)(t:Tok):mh (.inr x) (.str x t)=true:=by simp[mh,Value.isStrOf]
theorem E7(a b:Int):decide ((Sum.inl a:Key)=Sum.inl b)=(a==b):=by
 by_cases e:a=b
 ·subst e;simp
 ·have h:¬ (Sum.inl a:Key)=Sum.inl b:=λq=>e (Sum.inl.inj q);rw[decide_eq_false h];exact(UP.mpr e).symm
theorem E8(a b:Str):decide ((Sum.inr a:Key)=Sum.inr b)=decide (a=b):=by
 by_cases e:a=b
 ·subst e;simp
 ·have h:¬ (Sum.inr a:Key)=Sum.inr b:=λq=>e (Sum.inr.inj q);rw[decide_eq_false h,decide_eq_false e]
theorem E9(a:Int)(b:Str):decide ((Sum.inl a:Key)=Sum.inr b)=false:=decide_eq_false (λq=>nomatch q)
theorem Fb(a:Str)(b:Int):decide ((Sum.inr a:Key)=Sum.inl b)=false:=decide_eq_false (λq=>nomatch q)
def aP(prog:Program)(w:World):PySem.KeyKind prog w Key where
 is:=mh
 hash:=NU w
 inj:=λv a b ha hb=>by
  rcases bh ha with ⟨i,t,rfl,rfl⟩|⟨x,t,rfl,rfl⟩
  ·rcases bh hb with ⟨j,u,rfl,e⟩|⟨y,u,rfl,e⟩
   ·injection e with e1 _;rw[e1]
   ·exact nomatch e
  ·rcases bh hb with ⟨j,u,rfl,e⟩|⟨y,u,rfl,e⟩
   ·exact nomatch e
   ·injection e with e1 _;rw[e1]
 byValue:=λk v h=>by
  rcases bh h with ⟨i,t,rfl,rfl⟩|⟨x,t,rfl,rfl⟩<;>rfl
 pyHash:=λhv h=>by
  rcases bh hv with ⟨i,t,rfl,rfl⟩|⟨x,t,rfl,rfl⟩
  ·exact wpAny_pyHash_int h
  ·exact wpAny_pyHash_str h
 eqBool:=λhu hv h=>by
  rcases bh hu with ⟨i,t,rfl,rfl⟩|⟨x,t,rfl,rfl⟩
  ·rcases bh hv with ⟨j,u,rfl,rfl⟩|⟨y,u,rfl,rfl⟩
   ·rw[E7]at h;exact wpAny_eqBool_int h
   ·rw[E9]at h;exact SeqAt.EqAt.int_str i t y u _ _ _ _ h
  ·rcases bh hv with ⟨j,u,rfl,rfl⟩|⟨y,u,rfl,rfl⟩
   ·rw[Fb]at h;exact SeqAt.EqAt.str_int x t j u _ _ _ _ h
   ·rw[E8]at h;exact wpAny_eqBool_str h
 «strs»:=λk x t v h=>by
  rcases bh h with ⟨i,u,rfl,e⟩|⟨y,u,rfl,e⟩
  ·exact nomatch e
  ·injection e with e1 _
   subst e1;cases v<;>rfl
theorem tO(prog:Program)(w:World)(k:Key)(v:Value):(aP prog w).is k v=mh k v:=rfl
theorem qL(prog:Program)(w:World)(i:Int)(t:Tok):(aP prog w).is (.inl i) (.int i t)=true:=wX i t
theorem qM(prog:Program)(w:World)(x:Str)(t:Tok):(aP prog w).is (.inr x) (.str x t)=true:=wY x t
inductive V where
 |non|bl (b:Bool)|int (i:Int)|str (x:Str)|byt (b:Array UInt8)|flt (b:UInt64)|ref (a:Addr)|ty (n:String)
 deriving DecidableEq
def RelV:V->Value->Prop
 |.non,u=>u=Value.none
 |.bl b,u=>u=Value.bool b
 |.int i,u=>∃t,u=Value.int i t
 |.str x,u=>∃t,u=Value.str x t
 |.byt b,u=>∃t,u=Value.bytes b t
 |.flt b,u=>∃t,u=Value.float b t
 |.ref a,u=>u=Value.ref a
 |.ty n,u=>u=Value.type n
abbrev Vals:List V->List Value->Prop:=Paired RelV
theorem Vals.length(r:Vals xs us):xs.length=us.length:=Wl r
theorem Vals.get:∀{xs:List V} {us:List Value} {i:Nat} {x:V},Vals xs us->xs[i]?=some x->∃u,us[i]?=some u/\RelV x u
 |_,_,_,_,.nil,e=>by simp at e
 |_,_,0,_,.cons r _,e=>by simp at e;subst e;exact⟨_,rfl,r⟩
 | _,_,i+1,x,.cons _ t,e=>by
  obtain⟨u,h1,h2⟩:=Vals.get (i:=i) (x:=x) t (by simpa using e);exact⟨u,by simpa using h1,h2⟩
theorem Vals.set(r:RelV x u):∀{xs:List V} {us:List Value} (i:Nat),Vals xs us->Vals (xs.set i x) (us.set i u)
 |_,_,_,.nil=>.nil
 |_,_,0,.cons _ t=>.cons r t
 |_,_,i+1,.cons q t=>.cons q (Vals.set r i t)
theorem Vals.append:∀{xs ys:List V} {us ws:List Value},Vals xs us->Vals ys ws->Vals (xs++ys) (us++ws)
 |_,_,_,_,.nil,s=>s
 |_,_,_,_,.cons r t,s=>.cons r (Vals.append t s)
theorem Vals.take:∀{xs:List V} {us:List Value} (n:Nat),Vals xs us->Vals (xs.take n) (us.take n)
 |_,_,0,_=>.nil
 |_,_,_+1,.nil=>.nil
 |_,_,n+1,.cons r t=>.cons r (Vals.take n t)
theorem Vals.drop:∀{xs:List V} {us:List Value} (n:Nat),Vals xs us->Vals (xs.drop n) (us.drop n)
 |_,_,0,r=>r
 |_,_,_+1,.nil=>.nil
 |_,_,n+1,.cons _ t=>Vals.drop n t
def lG:Option V->Option Value->Prop
 |some v,some u=>RelV v u
 |none,none=>True
 |_,_=>False
def KV{κ:Type}:List (κ × V)->List (κ × Value)->Prop:=Paired λ(p:κ × V) (q:κ × Value)=>p.1=q.1/\RelV p.2 q.2
def kV:Key->V
 |.inl i=>.int i
 |.inr x=>.str x
inductive HO where
  |lst (xs:List V)
  |tup (xs:List V)
  |dK (kvs:List (Key×V))|dT (kvs:List (List Key×V))
  |set (S:Int->Bool) (n:Nat)
  |ins (C dx:Addr) (fs:List (Str×V))
  |own (x:Addr)
  |xd (fs:List (Str×V))
  |met (f x:Addr)
  |rng (lo hi:Int)
  |oz (o:Obj) (u:HO)
  |tbl (ps:Array Value)
  |ext (φ:Heap->Prop)
abbrev Hp:=Addr->Option HO
def upd(H:Hp)(a:Addr)(o:HO):Hp:=λb=>if b=a then some o else H b
theorem av:upd H a o a=some o:=by unfold upd;rw[T4 rfl]
theorem aj(h:b≠a):upd H a o b=H b:=by unfold upd;rw[TX h]
theorem J2{H:Hp}{a b:Addr}{o u:HO}(h:H a=some o)(h':H b=some u)(d:o≠u):a≠b:=by
 intro e;subst e;rw[h]at h';exact d (Uh h')
theorem ay{H:Hp}{a b:Addr}{o:HO}(h:H a=some o)(h':H b=none):a≠b:=by
 intro e;subst e;rw[h]at h';cases h'
section
variable (P:Program) (w:World)
def aV(H:Hp)(h:Heap)(a:Addr):HO->Prop
 |.lst xs=>xs.length<=sizeLine/\∃(its:List Value) (n:Nat),Vals xs its/\h.get? a=some { cls:=.type "list",data:=.seq its.toArray n }
 |.tup xs=>xs.length<=sizeLine/\∃its:List Value,Vals xs its/\IsTup h a its.toArray
 |.dK kvs=>kvs.length<=sizeLine/\(a==sysModules)=false/\∃vs,KV kvs vs/\h.DictOf (aP P w) a vs
 | .dT kvs=>kvs.length<=sizeLine/\(a==sysModules)=false/\∃xs:List (List Key×Addr×Value),
   Paired (λ(p:List Key×V) (q:List Key×Addr×Value)=>p.1=q.1/\H q.2.1=some (.tup (p.1.map kV))/\RelV p.2 q.2.2) kvs xs /\
   ∃o es ep,h.get? a=some o/\o.ExactDict/\o.data=.dict es ep/\es.toList=xs.map (entryOfKey (tupleKind (aP P w)))/\(xs.map (·.1)).Nodup
 |.set S n=>h.SetOf (intKind P w) a S n
 | .ins C dx fs=>H dx=some (.own a)/\fs.length<=1000/\dx≠a/\h.get? a=some (instObj C dx) /\
   ∃mA,h.Ns1 dx mA/\(∀f,lG (fs.lookup f) (mA f))/\PySem.Within mA (fs.map (·.1))
 |.own _=>∃o,h.get? a=some o
 |.xd fs=>∃mA,h.Ns1 a mA/\∀f,lG (fs.lookup f) (mA f)
 |.rng lo hi=>∃t u v,h.get? a=some { cls:=.type "range",data:=.fields [.int lo t,.int hi u,.int 1 v].toArray }
 |.oz o u=>h.get? a=some o/\aV H h a u
 |.tbl ps=>h.get? a=some { cls:=.none,data:=.fields ps }
 |.met f x=>h.get? a=some (methodObj (.ref f) (.ref x))
 |.ext φ=>φ h/\(∃o,h.get? a=some o)/\∀h1 h2:Heap,φ h1->(∀o,h1.get? a=some o->h2.get? a=some o) -> φ h2
def gP(H:Hp)(h:Heap):Prop:=∀a o,H a=some o->aV P w H h a o
end
section
variable {P:Program} {w:World} {H H':Hp} {h h':Heap} {a:Addr} {o:HO}
theorem aV.lt(x:aV P w H h a o):a<h.objs.size:=by
 cases o with
 |lst xs=>obtain⟨_,_,_,_,e⟩:=x;exact TR e
 |tup xs=>obtain⟨_,_,_,p⟩:=x;exact p.lt
 |dK kvs=>obtain⟨_,_,_,_,o,_,_,e,_⟩:=x;exact TR e
 |dT kvs=>obtain⟨_,_,_,_,o,_,_,e,_⟩:=x;exact TR e
 |set S n=>obtain⟨o,_,_,_,e,_⟩:=x;exact TR e
 |ins C dx fs=>obtain⟨_,_,_,e,_⟩:=x;exact TR e
 |own y=>obtain⟨_,e⟩:=x;exact TR e
 |xd fs=>obtain⟨_,⟨_,_,_,e,_⟩,_⟩:=x;exact TR e
 |rng lo hi=>obtain⟨_,_,_,e⟩:=x;exact TR e
 |oz ob u=>obtain⟨e,_⟩:=x;exact TR e
 |tbl ps=>exact TR (show h.get? a=some _ from x)
 |met f y=>exact TR (show h.get? a=some _ from x)
 |ext φ=>obtain⟨_,⟨_,e⟩,_⟩:=x;exact TR e
theorem Paired.Fc{α β:Type}{F G:α -> β -> Prop}:∀{l₁:List α} {l₂:List β},Paired F l₁ l₂->(∀a b,F a b->G a b)->Paired G l₁ l₂
 |_,_,.nil,_=>.nil
 |_,_,.cons r t,f=>.cons (f _ _ r) (Paired.Fc t f)
theorem aV.stay(x:aV P w H h a o)(k:∀b u,(b=a\/H b=some (.own a))->h.get? b=some u->h'.get? b=some u)
  (ho:∀b,H b=some (.own a)->H' b=some (.own a)) (ht:∀b xs,H b=some (.tup xs)->H' b=some (.tup xs)):aV P w H' h' a o:=by
 induction o with
 |lst xs=>obtain⟨z,its,n,r,e⟩:=x;exact⟨z,its,n,r,k _ _ (.inl rfl) e⟩
 |tup xs=>obtain⟨z,its,r,ob,e,c⟩:=x;exact⟨z,its,r,ob,k _ _ (.inl rfl) e,c⟩
 |dK kvs=>obtain⟨z,y,vs,r,ob,es,ep,e,c⟩:=x;exact⟨z,y,vs,r,ob,es,ep,k _ _ (.inl rfl) e,c⟩
 |dT kvs=>obtain⟨z,y,xs,r,ob,es,ep,e,c⟩:=x;exact⟨z,y,xs,Paired.Fc r λp q z=>⟨z.1,ht _ _ z.2.1,z.2.2⟩,ob,es,ep,k _ _ (.inl rfl) e,c⟩
 |set S n=>obtain⟨ob,es,ep,t,e,c⟩:=x;exact⟨ob,es,ep,t,k _ _ (.inl rfl) e,c⟩
 |ins C dx fs=>obtain⟨d,z,ne,e,mA,⟨od,es,ep,e2,c⟩,r⟩:=x;exact⟨ho _ d,z,ne,k _ _ (.inl rfl) e,mA,⟨od,es,ep,k _ _ (.inr d) e2,c⟩,r⟩
 |own y=>obtain⟨ob,e⟩:=x;exact⟨ob,k _ _ (.inl rfl) e⟩
 |xd fs=>obtain⟨mA,⟨od,es,ep,e,c⟩,r⟩:=x;exact⟨mA,⟨od,es,ep,k _ _ (.inl rfl) e,c⟩,r⟩
 |rng lo hi=>obtain⟨t,u,v,e⟩:=x;exact⟨t,u,v,k _ _ (.inl rfl) e⟩
 |oz ob u ih=>obtain⟨e,q⟩:=x;exact⟨k _ _ (.inl rfl) e,ih q⟩
 |tbl ps=>have e:h.get? a=some { cls:=.none,data:=.fields ps }:=x;show h'.get? a=some { cls:=.none,data:=.fields ps };exact k a _ (.inl rfl) e
 |met f y=>have e:h.get? a=some (methodObj (.ref f) (.ref y)):=x;show h'.get? a=some (methodObj (.ref f) (.ref y));exact k a _ (.inl rfl) e
 |ext φ=>obtain⟨p,⟨o,e⟩,st⟩:=x;exact⟨st _ _ p λo q=>k _ _ (.inl rfl) q,⟨o,k _ _ (.inl rfl) e⟩,st⟩
theorem gP.lt(x:gP P w H h)(e:H a=some o):a<h.objs.size:=(x a o e).lt
theorem gP.fresh(x:gP P w H h)(e:h.objs.size<=a):H a=none:=by
 cases q:H a with
 |none=>rfl
 |some u=>exact absurd (TY (x.lt q) e) (UC _)
theorem gP.kept(x:gP P w H h)(k:∀b u,h.get? b=some u->h'.get? b=some u):gP P w H h':=λa o e=>
 (x a o e).stay (λb u _ q=>k b u q) (λ_ q=>q) λ_ _ q=>q
theorem gP.laid(x:gP P w H h)(k:∀b u,h.get? b=some u->h'.get? b=some u)(hp:h.objs.size<=a)(new:aV P w (upd H a o) h' a o):gP P w (upd H a o) h':=λb u e=>by
 have hn:=x.fresh hp
 by_cases hb:b=a
 ·subst hb;rw[av]at e;cases e;exact new
 ·rw[aj hb]at e;exact(x b u e).stay (λc v _ q=>k c v q) (λc q=>by rw[aj (ay q hn)];exact q) λc xs q=>by rw[aj (ay q hn)];exact q
end
def Rd(H:Hp)(a:Addr)(u:HO):Prop:=H a=some u\/∃o,H a=some (.oz o u)
theorem Rd.ok(r:Rd H a u)(x:gP P w H h):aV P w H h a u:=by
 rcases r with r|⟨o,r⟩
 ·exact x a u r
 ·obtain⟨_,q⟩:=x a _ r;exact q
def J6:Option HO->Prop
 |some (.lst _)=>True
 |some (.dK _)=>True
 |some (.dT _)=>True
 |some (.set _ _)=>True
 |some (.ins _ _ _)=>True
 |some (.ext _)=>True
 |_=>False
section
variable {P:Program} {w:World} {H:Hp} {h h':Heap} {x e:Addr} {o':HO}
theorem gP.write(ok:gP P w H h)(mu:J6 (H x))(he:e=x\/H e=some (.own x))(k:∀b u,b≠e->h.get? b=some u->h'.get? b=some u)(JL:∃u,h'.get? e=some u)
  (new:aV P w (upd H x o') h' x o'):gP P w (upd H x o') h':=λb u q=>by
 have nown:∀c y,H c=some (.own y)->c≠x:=λc y r z=>by subst z;rw[r]at mu;exact mu
 have ntup:∀c xs,H c=some (.tup xs)->c≠x:=λc xs r z=>by subst z;rw[r]at mu;exact mu
 by_cases hb:b=x
 ·subst hb;rw[av]at q;cases q;exact new
 ·rw[aj hb]at q
  by_cases Fd:b=e
  ·have q':H b=some (.own x):=by
    rcases he with z|z
    ·exact absurd (Fd.trans z) hb
    ·rw[Fd];exact z
   rw[q]at q';cases q';obtain⟨v,hv⟩:=JL;exact⟨v,by rw[Fd];exact hv⟩
  ·refine(ok b u q).stay (λc v hc r=>k c v ?_ r) (λc r=>by rw[aj (nown c b r)];exact r) λc xs r=>by rw[aj (ntup c xs r)];exact r
   rcases hc with rfl|hc
   ·exact Fd
   ·rintro rfl
    rcases he with z|z
    ·exact nown c b hc z
    ·rw[hc]at z;cases z;exact hb rfl
end
structure Un (fs ex:List Addr) (H H':Hp) (h h':Heap):Prop where
 keep:∀b o,h.get? b=some o->H b=none->b∉fs->b∉ex->h'.get? b=some o
 slot:∀b o,h.get? b=some o->H b=none->b∈fs->b∉ex->∃sl,h'.get? b=some { o with slots:=sl }
 free:∀b o,h.get? b=some o->H b=none->b∉ex->H' b=none
 there:∀b o,h.get? b=some o->b∉ex->∃o',h'.get? b=some o'
 tups:∀b xs,H b=some (.tup xs)->H' b=some (.tup xs)
 frzs:∀b o u,H b=some (.oz o u)->H' b=some (.oz o u)
 lH:∀b ps,H b=some (.tbl ps)->∃more,H' b=some (.tbl (ps++more))
section
variable {fs fs' ex ex':List Addr} {H H1 H2:Hp} {h h1 h2 h':Heap} {a x e:Addr} {o:HO}
theorem Un.any(u:Un fs ex H H1 h h1)(q:h.get? b=some ob)(n:H b=none)(hx:b∉ex):∃sl,h1.get? b=some { ob with slots:=sl }:=by
 by_cases hb:b∈fs
 ·exact u.slot b ob q n hb hx
 ·exact⟨ob.slots,u.keep b ob q n hb hx⟩
theorem Un.kept(k:∀b u,h.get? b=some u->h'.get? b=some u):Un fs ex H H h h' :=
 ⟨λb ob q _ _ _=>k b ob q,λb ob q _ _ _=>⟨ob.slots,k b ob q⟩,λ_ _ _ n _=>n,λb ob q _=>⟨ob,k b ob q⟩,λ_ _ q=>q,λ_ _ _ q=>q,λ_ ps q=>⟨#[],by rw[q];simp⟩⟩
theorem Un.refl:Un fs ex H H h h:=Un.kept λ_ _ q=>q
theorem Un.laid(k:∀b u,h.get? b=some u->h'.get? b=some u)(hp:h.objs.size<=a)(hn:H a=none):Un fs ex H (upd H a o) h h' where
 keep:=λb u q _ _ _=>k b u q
 slot:=λb u q _ _ _=>⟨u.slots,k b u q⟩
 free:=λb u q n _=>by rw[aj (T9 (TY (TR q) hp))];exact n
 there:=λb u q _=>⟨u,k b u q⟩
 tups:=λb xs q=>by rw[aj (ay q hn)];exact q
 frzs:=λb u xs q=>by rw[aj (ay q hn)];exact q
 lH:=λb ps q=>⟨#[],by rw[aj (ay q hn),q];simp⟩
theorem Un.write(mu:J6 (H x))(he:e=x\/H e=some (.own x))(k:∀b u,b≠e->h.get? b=some u->h'.get? b=some u)(JL:∃u,h'.get? e=some u):Un fs ex H (upd H x o) h h':=by
 have hx:∀b,H b=none->b≠x:=λb n z=>by subst z;rw[n]at mu;exact mu
 have hb:∀b,H b=none->b≠e:=λb n z=>by
  subst z
  rcases he with r|r
  ·exact hx b n r
  ·rw[n]at r;cases r
 have hm:∀b u,H b=some u->¬ J6 (some u)->b≠x:=λb u q nm z=>by subst z;rw[q]at mu;exact nm mu
 refine⟨λb u q n _ _=>k b u (hb b n) q,λb u q n _ _=>⟨u.slots,k b u (hb b n) q⟩,λb u q n _=>by rw[aj (hx b n)];exact n,λb u q _=>?_,
  λb xs q=>by rw[aj (hm b _ q λz=>z)];exact q,λb u xs q=>by rw[aj (hm b _ q λz=>z)];exact q,λb ps q=>⟨#[],by rw[aj (hm b _ q λz=>z),q];simp⟩⟩
 by_cases Fd:b=e
 ·subst Fd;exact JL
 ·exact⟨u,k b u Fd q⟩
end
def Nh(h:Heap)(H:Hp):List Addr:=(List.range h.objs.size).filter λa=>(H a).isSome
def pP(h:Heap)(H:Hp):Heap:=hideAll h (Nh h H)
theorem wZ(h:Heap)(H:Hp):(pP h H).objs.size=h.objs.size:=PySem.W.hideAll_size _ _
theorem yM(e:h.get? b=some o)(n:H b=none):(pP h H).get? b=some o :=
 Vl _ e λhm=>by
  have q:(H b).isSome=true:=(List.mem_filter.mp hm).2;rw[n]at q;simp at q
theorem BJ(e:(pP h H).get? b=some o):h.get? b=some o/\H b=none:=by
 have e':h.get? b=some o:=Wc (Nh h H) e;refine⟨e',?_⟩;cases q:H b with
 |none=>rfl
 |some x=>have hm:b∈Nh h H:=List.mem_filter.mpr ⟨List.mem_range.mpr (TR e'),by simp[q]⟩;have z:(pP h H).get? b=none:=Vd (Nh h H) hm;rw[z]at e;cases e
def BK(g h:Heap)(L:Addr):List (Addr×Obj):=(List.range h.objs.size).filterMap λa=>if a=L\/(g.get? a).isSome=true then none else (h.get? a).map λo=>(a,o)
def rest(g h:Heap)(L d:Addr):List (Addr×Obj):=(BK g h L).filter λp=>decide (p.1≠d)
structure Mod (K:Frag) (mg:Str->Option Value) (base:Heap):Prop where
 JM:K.In base
 glob:base.Ns mainGlobals mg
 blt:∃mb,base.Ns builtinsNs mb/\∀x:Str,x ≠ "__name__" -> mb x=bootBuiltins x
 nolimit:base.NoLimit
structure Cx where
 prog:Program
 w:World
 K:Frag
 mg:Str->Option Value
 base:Heap
 A:Around
 N:List Str
 s₀:Shared
 H₀:Hp
 env:Env
 outer:List Env
 stack:List Env
 ex:List Addr
 fn:Str->Bool
 calm:Bool
 pn:List (Addr×Obj)
 xe:Value->Shared->Prop
def frs(l:List Env):List Addr:=l.filterMap (·.frame)
abbrev Cx.fs(X:Cx):List Addr:=frs X.outer
def JN(sc:Scope)(x:Str):Prop:=sc.names.lookup x=some .local\/sc.names.lookup x=some .cell\/sc.names.lookup x=some .free
def Loc(sc:Scope)(x:Str):Prop:=sc.names.lookup x=some .local\/sc.names.lookup x=some .cell
def Look(env:Env)(h:Heap)(m:Str->Option Value)(x:Str)(u:Value):Prop :=
 (env.kindOf x=some .local/\m x=some u)\/((env.kindOf x=some .cell\/env.kindOf x=some .free)/\∃c,env.cells.lookup x=some c/\h.IsCell c (some u))
structure Cx.Ok (X:Cx):Prop where
 mod:Mod X.K X.mg X.base
 kind:X.env.scope.kind=.function
 glob:X.env.globals=mainGlobals
 blt:X.env.builtins=builtinsNs
 above:X.s₀.heap.objs.size<=X.env.locals
 inj:∀x y c,X.env.cells.lookup x=some c->X.env.cells.lookup y=some c->x=y
 has:∀x,(X.env.kindOf x=some .cell\/X.env.kindOf x=some .free)->∃c,X.env.cells.lookup x=some c
 JO:∀x c,X.fn x=true->X.env.cells.lookup x=some c->X.s₀.heap.objs.size<=c
 hd:X.calm=true->X.A.handled=none
 frames:X.A.frames=some X.stack
 stk:X.stack=X.outer\/(X.stack=X.env::X.outer/\X.env.frame=some X.env.locals)
 Ni:∀b∈X.ex,b≠X.env.locals/\∀x c,X.env.cells.lookup x=some c->c≠b
 bs:∀b o,X.base.get? b=some o->X.s₀.heap.get? b=some o/\X.H₀ b=none
 BL:X.base.objs.size<=X.s₀.heap.objs.size
 jC:∀b o,X.base.get? b=some o->b∉X.ex
 xg:∀b∈X.ex,b∉X.fs
 kr:X.s₀.heap.FunFrames X.base X.outer
 D9:∀b∈X.fs,X.H₀ b=none
structure Inv (X:Cx) (pins:List (Addr×Obj)) (σ:List (Option V)) (H:Hp) (s:Shared):Prop where
 ok:X.Ok
 os:s.os=X.s₀.os
 bare:AllBare s.gens
 base:Un X.fs X.ex X.H₀ H X.s₀.heap s.heap
 loc:∃m,s.heap.Ns X.env.locals m/\∀(i:Nat) (x:Str) (v:V),X.N[i]?=some x -> σ[i]?=some (some v)->JN X.env.scope x->∃u,RelV v u/\Look X.env s.heap m x u
 cell:∀x c,X.env.cells.lookup x=some c->∃v,s.heap.IsCell c v
 free:H X.env.locals=none
 eT:∀x c,X.env.cells.lookup x=some c->H c=none
 pin:∀p∈X.pn++pins,s.heap.get? p.1=some p.2/\H p.1=none/\p.1≠X.env.locals/\p.1∉X.fs/\∀v,p.2.data≠.cell v
 hok:gP X.prog X.w H s.heap
 len:σ.length=X.N.length
section
variable {X:Cx} {pins:List (Addr×Obj)} {σ:List (Option V)} {H H':Hp} {s:Shared} {h':Heap}
theorem Cx.Ok.NV(ok:X.Ok)(e:X.base.get? b=some o):b∉X.fs:=λhb=>by
 have:=(ok.kr.mem hb).1;rw[e]at this;cases this
theorem Inv.bs(I:Inv X pins σ H s):∀b o,X.base.get? b=some o->s.heap.get? b=some o/\H b=none:=λb o e=>
 ⟨I.base.keep b o (I.ok.bs b o e).1 (I.ok.bs b o e).2 (I.ok.NV e) (I.ok.jC b o e),I.base.free b o (I.ok.bs b o e).1 (I.ok.bs b o e).2 (I.ok.jC b o e)⟩
theorem Inv.bk(I:Inv X pins σ H s):∀b o,X.base.get? b=some o->s.heap.get? b=some o:=λb o e=>(I.bs b o e).1
theorem Inv.mod(I:Inv X pins σ H s):Mod X.K X.mg X.base:=I.ok.mod
theorem Inv.iZ(I:Inv X pins σ H s):X.K.In s.heap:=I.ok.mod.JM.keeps I.bk
theorem Inv.lt(I:Inv X pins σ H s):X.env.locals<s.heap.objs.size:=let ⟨_,hn,_⟩:=I.loc;hn.lt
theorem Inv.sz(I:Inv X pins σ H s):X.s₀.heap.objs.size<=s.heap.objs.size:=Ut I.ok.above (Ve I.lt)
theorem Inv.NW(I:Inv X pins σ H s)(h:s.heap.objs.size<=a):a∉X.fs:=λhb=>by
 obtain⟨_,o,ho,_⟩:=I.ok.kr.mem hb;exact absurd (TY (TR ho) (Ut I.sz h)) (UC _)
theorem Inv.cne(I:Inv X pins σ H s):∀x c,X.env.cells.lookup x=some c->c≠X.env.locals:=λx c e z=>by
 obtain⟨v,o,ho,hd⟩:=I.cell x c e;obtain⟨m,⟨o',es,ep,ho',hd',_⟩,_⟩:=I.loc;rw[z,ho']at ho;cases ho;rw[hd']at hd;cases hd
theorem Inv.kr(I:Inv X pins σ H s):s.heap.FunFrames X.base X.outer:=by
 have all:∀(l:List Env),(∀b∈frs l,b∈X.fs)->X.s₀.heap.FunFrames X.base l->s.heap.FunFrames X.base l:=by
  intro l
  induction l with
  |nil=>intro _ _;trivial
  |cons env r ih=>intro hs hl;obtain⟨hk,⟨L,o,hf,hn,ho,hd⟩,hr⟩:=hl;have hL:L∈X.fs:=hs L (by unfold frs;rw[U4,hf];exact TU);obtain⟨sl,e⟩:=I.base.slot L o ho (I.ok.D9 L hL) hL λz=>I.ok.xg L z hL;exact⟨hk,⟨L,_,hf,hn,e,hd⟩,ih (λb hb=>hs b (by unfold frs;rw[U4,hf];exact TM _ hb)) hr⟩
 exact all X.outer (λ_ hb=>hb) I.ok.kr
theorem Inv.stack(I:Inv X pins σ H s):s.heap.FunFrames X.base X.stack:=by
 rcases I.ok.stk with e|⟨e,hf⟩
 ·rw[e];exact I.kr
 ·rw[e];obtain⟨m,hn,_⟩:=I.loc;refine .cons (by rw[I.ok.kind];decide) hf hn ?_ I.kr;exact V7 (Ut I.ok.BL I.ok.above)
theorem Inv.tQ(I:Inv X pins σ H s):∀b∈frs X.stack,b∈X.env.locals::X.fs:=λb hb=>by
 rcases I.ok.stk with e|⟨e,hf⟩
 ·rw[e]at hb;exact TM _ hb
 ·rw[e]at hb;unfold frs at hb;rw[U4,hf]at hb;exact hb
theorem Inv.lU(I:Inv X pins σ H s):∀b∈frs X.stack,H b=none:=λb hb=>by
 rcases T8.mp (I.tQ b hb) with e|hb
 ·rw[e];exact I.free
 ·obtain⟨_,o,ho,_⟩:=I.ok.kr.mem hb;exact I.base.free b o ho (I.ok.D9 b hb) λz=>I.ok.xg b z hb
theorem Inv.step{g':Array GenState}{t':Nat}{d':Drawn}{ch:List Addr}(I:Inv X pins σ H s)
  (hch:∀b∈ch,(b∈X.ex\/X.s₀.heap.objs.size<=b)/\b≠X.env.locals/\(∀x c,X.env.cells.lookup x=some c->c≠b)/\∀p∈X.pn++pins,p.1≠b)
  (keep:∀b o,b≠X.env.locals->b∉X.fs->b∉ch->s.heap.get? b=some o->H b=none->h'.get? b=some o)
  (slot:∀b o,b≠X.env.locals->b∈X.fs->b∉ch->s.heap.get? b=some o->H b=none->∃sl,h'.get? b=some { o with slots:=sl }) (free:∀b o,b∉ch->s.heap.get? b=some o->H b=none->H' b=none)
  (there:∀b o,b∉ch->s.heap.get? b=some o->∃o',h'.get? b=some o')
  (tups:∀b xs,H b=some (.tup xs)->H' b=some (.tup xs)) (frzs:∀b o u,H b=some (.oz o u)->H' b=some (.oz o u)) (lH:∀b ps,H b=some (.tbl ps)->∃more,H' b=some (.tbl (ps++more)))
  (ns:∀m,s.heap.Ns X.env.locals m->h'.Ns X.env.locals m) (hok:gP X.prog X.w H' h') (hg:AllBare g') :
  Inv X pins σ H' { s with heap:=h',gens:=g',drawn:=d',toks:=t' }:=by
 have neL:∀b o,X.s₀.heap.get? b=some o->b≠X.env.locals:=λb o e=>T9 (TY (TR e) I.ok.above);have neC:∀b o,X.s₀.heap.get? b=some o->b∉X.ex->b∉ch:=λb o e hx hb=>by
  rcases(hch b hb).1 with z|z
  ·exact hx z
  ·exact absurd (TY (TR e) z) (UC _)
 have cellK:∀x c,X.env.cells.lookup x=some c->∀v,s.heap.IsCell c v->h'.IsCell c v:=λx c e v ⟨o,ho,hd⟩=>by
  have J7:c∉ch:=λz=>(hch c z).2.2.1 x c e rfl
  by_cases hc:c∈X.fs
  ·obtain⟨sl,q⟩:=slot c o (I.cne x c e) hc J7 ho (I.eT x c e);exact⟨_,q,hd⟩
  ·exact⟨o,keep c o (I.cne x c e) hc J7 ho (I.eT x c e),hd⟩
 refine⟨I.ok,I.os,hg,⟨λb o e n hb hx=>?_,λb o e n hb hx=>?_,λb o e n hx=>?_,λb o e hx=>?_,λb xs e=>tups b xs (I.base.tups b xs e),λb o xs e=>frzs b o xs (I.base.frzs b o xs e),λb ps e=>?_⟩,?_,λx c e=>?_,?_,λx c e=>?_,λp hp=>?_,hok,I.len⟩
 ·exact keep b o (neL b o e) hb (neC b o e hx) (I.base.keep b o e n hb hx) (I.base.free b o e n hx)
 ·obtain⟨sl,e1⟩:=I.base.slot b o e n hb hx;obtain⟨J8,e2⟩:=slot b _ (neL b o e) hb (neC b o e hx) e1 (I.base.free b o e n hx);exact⟨J8,e2⟩
 ·obtain⟨o',e1⟩:=I.base.there b o e hx;exact free b o' (neC b o e hx) e1 (I.base.free b o e n hx)
 ·obtain⟨o',e1⟩:=I.base.there b o e hx;exact there b o' (neC b o e hx) e1
 ·obtain⟨m1,e1⟩:=I.base.lH b ps e;obtain⟨m2,e2⟩:=lH b _ e1;exact⟨m1++m2,by rw[e2,Array.append_assoc]⟩
 ·obtain⟨m,hn,hl⟩:=I.loc
  refine⟨m,ns m hn,λi x v e1 e2 e3=>?_⟩;obtain⟨u,r,l⟩:=hl i x v e1 e2 e3;refine⟨u,r,?_⟩
  rcases l with l|⟨k,c,e,z⟩
  ·exact .inl l
  ·exact .inr ⟨k,c,e,cellK x c e _ z⟩
 ·obtain⟨v,z⟩:=I.cell x c e;exact⟨v,cellK x c e v z⟩
 ·obtain⟨m,⟨o,_,_,ho,_⟩,_⟩:=I.loc;exact free _ o (λz=>(hch _ z).2.1 rfl) ho I.free
 ·obtain⟨v,o,ho,hd⟩:=I.cell x c e;exact free c o (λz=>(hch c z).2.2.1 x c e rfl) ho (I.eT x c e)
 ·obtain⟨e,n,ne,nf,d⟩:=I.pin p hp;have J7:p.1∉ch:=λz=>(hch p.1 z).2.2.2 p hp rfl;exact⟨keep p.1 p.2 ne nf J7 e n,free p.1 p.2 J7 e n,ne,nf,d⟩
theorem Inv.un{t':Nat}(I:Inv X pins σ H s)(u:Un X.fs [] H H' s.heap h')(hok:gP X.prog X.w H' h'):Inv X pins σ H' { s with heap:=h',toks:=t' }:=by
 obtain⟨m,⟨o,es,ep,ho,r⟩,_⟩:=id I.loc;obtain⟨sl,hL⟩:=u.any ho I.free (by simp);exact I.step (g':=s.gens) (d':=s.drawn) (ch:=[]) (λ_ z=>nomatch z) (λb o _ hb _ e n=>u.keep b o e n hb (by simp)) (λb o _ hb _ e n=>u.slot b o e n hb (by simp)) (λb o _ e n=>u.free b o e n (by simp)) (λb o _ e=>u.there b o e (by simp)) u.tups u.frzs u.lH (λm' hm=>by
  obtain⟨o',es',NX,ho',r'⟩:=hm;rw[ho]at ho';cases ho';exact⟨_,es',NX,hL,r'⟩) hok I.bare
theorem Inv.call{t':Nat}(I:Inv X pins σ H s)(u:Un (frs X.stack) ch H H' s.heap h')(hok:gP X.prog X.w H' h')(hg:AllBare g')
  (hch:∀b∈ch,(b∈X.ex\/X.s₀.heap.objs.size<=b)/\b≠X.env.locals/\(∀x c,X.env.cells.lookup x=some c->c≠b)/\∀p∈X.pn++pins,p.1≠b) :
  Inv X pins σ H' { s with heap:=h',gens:=g',drawn:=d',toks:=t' }:=by
 obtain⟨m,⟨o,es,ep,ho,r⟩,_⟩:=id I.loc;obtain⟨sl,hL⟩:=u.any ho I.free λz=>(hch _ z).2.1 rfl;exact I.step (ch:=ch) hch (λb o hL hb hc e n=>u.keep b o e n (λz=>(T8.mp (I.tQ b z)).elim hL hb) hc) (λb o _ _ hc e n=>u.any e n hc) (λb o hc e n=>u.free b o e n hc) (λb o hc e=>u.there b o e hc) u.tups u.frzs u.lH (λm' hm=>by
  obtain⟨o',es',NX,ho',r'⟩:=hm;rw[ho]at ho';cases ho';exact⟨_,es',NX,hL,r'⟩) hok hg
theorem Inv.turned{t':Nat}(I:Inv X pins σ H s)(k:∀b o,b≠it->s.heap.get? b=some o->h'.get? b=some o)(hn:H it=none)(hL:it≠X.env.locals)
  (h1:it∈X.ex\/X.s₀.heap.objs.size<=it) (h2:∀x c,X.env.cells.lookup x=some c->c≠it) (h3:∀p∈X.pn++pins,p.1≠it):Inv X pins σ H { s with heap:=h',toks:=t' }:=by
 have J9:∀b u,H b=some u->b≠it:=λb u e z=>by rw[z,hn]at e;cases e
 refine I.step (g':=s.gens) (d':=s.drawn) (ch:=[it]) (λb hb=>?_) (λb o _ _ hc e _=>k b o (λz=>hc (by simp[z])) e) (λb o _ _ hc e _=>⟨o.slots,k b o (λz=>hc (by simp[z])) e⟩) (λ_ _ _ _ n=>n)
  (λb o hc e=>⟨o,k b o (λz=>hc (by simp[z])) e⟩) (λ_ _ e=>e) (λ_ _ _ e=>e) (λb ps e=>⟨#[],by rw[e];simp⟩) (λm hm=>?_) (λb u e=>?_) I.bare
 ·have e:b=it:=by simpa using hb
  subst e;exact⟨h1,hL,h2,h3⟩
 ·obtain⟨o,es,ep,ho,r⟩:=hm;exact⟨o,es,ep,k _ o (Ne.symm hL) ho,r⟩
 ·refine(I.hok b u e).stay (λc v hc q=>k c v ?_ q) (λ_ q=>q) λ_ _ q=>q
  rcases hc with z|z
  ·rw[z];exact J9 b u e
  ·exact J9 c _ z
theorem Inv.tok(I:Inv X pins σ H s)(t:Nat):Inv X pins σ H { s with toks:=t }:=I.un (h':=s.heap) (t':=t) Un.refl I.hok
theorem Inv.kept{t':Nat}(I:Inv X pins σ H s)(k:∀b u,s.heap.get? b=some u->h'.get? b=some u):Inv X pins σ H { s with heap:=h',toks:=t' }:=I.un (Un.kept k) (I.hok.kept k)
theorem Inv.laid{t':Nat}(I:Inv X pins σ H s)(k:∀b u,s.heap.get? b=some u->h'.get? b=some u)(hp:s.heap.objs.size<=a)(new:aV X.prog X.w (upd H a o) h' a o) :
  Inv X pins σ (upd H a o) { s with heap:=h',toks:=t' }:=I.un (Un.laid k hp (I.hok.fresh hp)) (I.hok.laid k hp new)
theorem Inv.write{t':Nat}(I:Inv X pins σ H s)(mu:J6 (H x))(he:e=x\/H e=some (.own x))(k:∀b u,b≠e->s.heap.get? b=some u->h'.get? b=some u)(JL:∃u,h'.get? e=some u)
  (new:aV X.prog X.w (upd H x o) h' x o):Inv X pins σ (upd H x o) { s with heap:=h',toks:=t' }:=I.un (Un.write mu he k JL) (I.hok.write mu he k JL new)
theorem Inv.vc(I:Inv X pins σ H s)(h:∀p∈Ka,s.heap.get? p.1=some p.2/\H p.1=none/\p.1≠X.env.locals/\p.1∉X.fs/\∀v,p.2.data≠.cell v):Inv X Ka σ H s :=
 ⟨I.ok,I.os,I.bare,I.base,I.loc,I.cell,I.free,I.eT,λp hp=>(U0.mp hp).elim (λz=>I.pin p (Vf _ z)) (h p),I.hok,I.len⟩
theorem mj{N:List Str}(hN:N.Nodup){i j:Nat}{x:Str}(a:N[i]?=some x)(b:N[j]?=some x):i=j:=by
 obtain⟨h1,e1⟩:=TJ.mp a;obtain⟨h2,e2⟩:=TJ.mp b;exact(List.getElem_inj hN).mp (e1.trans e2.symm)
theorem oA{i:Nat}(I:Inv X pins σ H s)(hN:X.N.Nodup)(hi:X.N[i]?=some x)(hx:Loc X.env.scope x)(r:RelV v u)
  (h:∀s',Inv X pins (σ.set i (some v)) H s'->(∃a,Heap.SameBut a s.heap s'.heap/\(a=X.env.locals\/X.env.cells.lookup x=some a))->Q () s') (hf:X.fn x=true\/X.env.scope.names.lookup x=some .local):wpAny M A (storeName X.env x u) Q E s:=by
 obtain⟨m,hn,hl⟩:=id I.loc;have hcls:(X.env.scope.kind==.class||(X.env.scope.kind==.module&&X.env.locals != X.env.globals))=false:=by rw[I.ok.kind];rfl
 have Nj:i < σ.length:=by rw[I.len];exact(TJ.mp hi).1
 have cne:=I.cne;have tracked:∀{a:Addr} {h':Heap},(∃o,s.heap.get? a=some o/\H a=none)->Heap.SameBut a s.heap h'->gP X.prog X.w H h':=λ{a h'} ha hs b ob e=>by
  obtain⟨_,_,hfree⟩:=ha;refine(I.hok b ob e).stay (λc w' hc q=>(hs.2 c ?_).trans q) (λ_ q=>q) λ_ _ q=>q;rintro rfl
  rcases hc with rfl|hc
  ·rw[hfree]at e;cases e
  ·rw[hfree]at hc;cases hc
 rcases hx with hk|hk
 ·refine wpAny_storeName_local hk hn (λh' hn' hs=>?_) hcls
  obtain⟨oL,_,_,P9,_⟩:=id hn;refine h _ ⟨I.ok,I.os,I.bare,⟨λb o e n hb hx=>?_,λb o e n hb hx=>?_,I.base.free,λb o e hx=>?_,I.base.tups,I.base.frzs,I.base.lH⟩,⟨_,hn',λj y v' e1 e2 e3=>?_⟩,λy c e=>?_,I.free,I.eT,λp hp=>?_,tracked ⟨oL,P9,I.free⟩ hs,by simpa using I.len⟩ ⟨_,hs,.inl rfl⟩
  ·exact(hs.2 b (T9 (TY (TR e) I.ok.above))).trans (I.base.keep b o e n hb hx)
  ·obtain⟨sl,e1⟩:=I.base.slot b o e n hb hx;exact⟨sl,(hs.2 b (T9 (TY (TR e) I.ok.above))).trans e1⟩
  ·obtain⟨o',e1⟩:=I.base.there b o e hx;exact⟨o',(hs.2 b (T9 (TY (TR e) I.ok.above))).trans e1⟩
  ·by_cases hj:j=i
   ·subst hj;rw[hi]at e1;cases e1;rw[T5 Nj]at e2;cases e2;exact⟨u,r,.inl ⟨hk,by simp⟩⟩
   ·rw[TN (Ne.symm hj)]at e2
    obtain⟨u',r',q⟩:=hl j y v' e1 e2 e3;refine⟨u',r',?_⟩
    rcases q with ⟨k,e⟩|⟨k,c,e,z⟩
    ·refine .inl ⟨k,?_⟩;have:y≠x:=λe=>hj (mj hN e1 (e▸hi));simp[this,e]
    ·exact .inr ⟨k,c,e,z.sameBut hs (cne y c e)⟩
  ·obtain⟨w',z⟩:=I.cell y c e;exact⟨w',z.sameBut hs (cne y c e)⟩
  ·obtain⟨e,n,ne,nf,d⟩:=I.pin p hp;exact⟨(hs.2 p.1 ne).trans e,n,ne,nf,d⟩
 ·have hfn:X.fn x=true:=by
   rcases hf with z|z
   ·exact z
   ·rw[z]at hk;cases hk
  obtain⟨c,hc⟩:=I.ok.has x (.inl hk);obtain⟨w',z⟩:=I.cell x c hc;refine wpAny_storeName_cell I.ok.kind hk hc z (λh' hc' hs=>?_);obtain⟨oc,hoc,yN⟩:=id z;refine h { s with heap:=h' } ⟨I.ok,I.os,I.bare,⟨λb o e n hb hx=>?_,λb o e n hb hx=>?_,I.base.free,λb o e hx=>?_,I.base.tups,I.base.frzs,I.base.lH⟩,⟨m,hn.sameBut hs (Ne.symm (cne x c hc)),λj y v' e1 e2 e3=>?_⟩,λy c' e=>?_,I.free,I.eT,λp hp=>?_,tracked ⟨oc,hoc,I.eT x c hc⟩ hs,by simpa using I.len⟩ ⟨c,hs,.inr hc⟩
  ·exact(hs.2 b (T9 (TY (TR e) (I.ok.JO x c hfn hc)))).trans (I.base.keep b o e n hb hx)
  ·obtain⟨sl,e1⟩:=I.base.slot b o e n hb hx;exact⟨sl,(hs.2 b (T9 (TY (TR e) (I.ok.JO x c hfn hc)))).trans e1⟩
  ·obtain⟨o',e1⟩:=I.base.there b o e hx;exact⟨o',(hs.2 b (T9 (TY (TR e) (I.ok.JO x c hfn hc)))).trans e1⟩
  ·by_cases hj:j=i
   ·subst hj;rw[hi]at e1;cases e1;rw[T5 Nj]at e2;cases e2;exact⟨u,r,.inr ⟨.inl hk,c,hc,hc'⟩⟩
   ·rw[TN (Ne.symm hj)]at e2
    obtain⟨u',r',q⟩:=hl j y v' e1 e2 e3;refine⟨u',r',?_⟩
    rcases q with q|⟨k,c',e,z'⟩
    ·exact .inl q
    ·refine .inr ⟨k,c',e,z'.sameBut hs ?_⟩;rintro rfl;exact hj (mj hN e1 (I.ok.inj _ _ _ e hc▸hi))
  ·by_cases hcc:c'=c
   ·subst hcc;exact⟨_,hc'⟩
   ·obtain⟨w2,z2⟩:=I.cell y c' e;exact⟨w2,z2.sameBut hs hcc⟩
  ·obtain⟨e,n,ne,nf,d⟩:=I.pin p hp;refine⟨(hs.2 p.1 ?_).trans e,n,ne,nf,d⟩;intro q;rw[q,hoc]at e;have q':oc=p.2:=Uh e;exact d w' (by rw[<-q'];exact yN)
theorem mq{i:Nat}(I:Inv X pins σ H s)(hN:X.N.Nodup)(hi:X.N[i]?=some x)(hx:Loc X.env.scope x)(r:RelV v u)
  (h:∀s',Inv X pins (σ.set i (some v)) H s'->Q () s') (hf:X.fn x=true\/X.env.scope.names.lookup x=some .local):wpAny M A (storeName X.env x u) Q E s :=
 oA I hN hi hx r (λs' I' _=>h s' I') hf
theorem Inv.Ea(I:Inv X pins σ H s)(ho:s'.os=s.os)(u:Un (frs X.stack) ch H H' s.heap s'.heap)(hok:gP X.prog X.w H' s'.heap)(hg:AllBare s'.gens)
  (hch:∀b∈ch,(b∈X.ex\/X.s₀.heap.objs.size<=b)/\b≠X.env.locals/\(∀x c,X.env.cells.lookup x=some c->c≠b)/\∀p∈X.pn++pins,p.1≠b):Inv X pins σ H' s':=by
 obtain⟨h',g',d',t',o'⟩:=s';have e:o'=s.os:=ho;subst e;exact I.call (g':=g') (t':=t') (d':=d') u hok hg hch
end
abbrev XK:=Value->Option Addr->Hp->Prop
abbrev St:=List (Option V)
abbrev VK:=V->Hp->Prop
abbrev TE:=St->Hp->VK->Prop
abbrev TT:=St->Hp->(Bool->Hp->Prop)->Prop
abbrev TA:=St->Hp->(List V->Hp->Prop)->Prop
structure Ends where
 nx:St->Hp->Prop
 rt:VK
 bk:St->Hp->Prop:=λ_ _=>False
 ct:St->Hp->Prop:=λ_ _=>False
abbrev TS:=Ends->St->Hp->Prop
def EP(X:Cx)(pins:List (Addr×Obj))(σ:St)(Q:VK)(u:Value)(s':Shared):Prop:=∃v H',Inv X pins σ H' s'/\RelV v u/\Q v H'
def TP(X:Cx)(pins:List (Addr×Obj))(σ:St)(Q:Bool->Hp->Prop)(b:Bool)(s':Shared):Prop:=∃H',Inv X pins σ H' s'/\Q b H'
def AP(X:Cx)(pins:List (Addr×Obj))(σ:St)(Q:List V->Hp->Prop)(us:List Value)(s':Shared):Prop:=∃vs H',Inv X pins σ H' s'/\Vals vs us/\Q vs H'
def SP(X:Cx)(pins:List (Addr×Obj))(D:Ends)(f:Flow)(s':Shared):Prop :=
 match f with
 |.next=>∃σ' H',Inv X pins σ' H' s'/\D.nx σ' H'
 |.brk=>∃σ' H',Inv X pins σ' H' s'/\D.bk σ' H'
 |.cont=>∃σ' H',Inv X pins σ' H' s'/\D.ct σ' H'
 |.ret u=>∃v σ' H',Inv X pins σ' H' s'/\RelV v u/\D.rt v H'
def PE(X:Cx)(e:Expr)(t:TE):Prop :=
 ∀(pins:List (Addr×Obj)) (s:Shared) (σ:St) (H:Hp) (Q:VK),Inv X pins σ H s->t σ H Q->wpAny (model X.prog X.w) X.A (eval e X.env) (EP X pins σ Q) X.xe s
def PT(X:Cx)(e:Expr)(t:TT):Prop :=
 ∀(pins:List (Addr×Obj)) (s:Shared) (σ:St) (H:Hp) (Q:Bool->Hp->Prop),Inv X pins σ H s->t σ H Q->wpAny (model X.prog X.w) X.A (isTrue e X.env (eval e X.env)) (TP X pins σ Q) X.xe s
def PW(X:Cx)(e:Expr)(t:TT):Prop :=
 ∀(whole:Sem Value) (pins:List (Addr×Obj)) (s:Shared) (σ:St) (H:Hp) (Q:Bool->Hp->Prop),Inv X pins σ H s->t σ H Q->wpAny (model X.prog X.w) X.A (isTrue e X.env whole) (TP X pins σ Q) X.xe s
theorem PW.pt(h:PW X e t):PT X e t:=h _
def PA(X:Cx)(es:List Expr)(t:TA):Prop :=
 ∀(pos:Pos) (pins:List (Addr×Obj)) (s:Shared) (σ:St) (H:Hp) (Q:List V->Hp->Prop),Inv X pins σ H s->t σ H Q->wpAny (model X.prog X.w) X.A (spliced (backTo pos (starEach es X.env))) (AP X pins σ Q) X.xe s
def PS(X:Cx)(st:Stmt)(t:TS):Prop :=
 ∀(pins:List (Addr×Obj)) (s:Shared) (σ:St) (H:Hp) (D:Ends),Inv X pins σ H s->t D σ H->wpAny (model X.prog X.w) X.A (exec st X.env) (SP X pins D) X.xe s
def pQ(X:Cx)(st:List Stmt)(t:TS):Prop :=
 ∀(pins:List (Addr×Obj)) (s:Shared) (σ:St) (H:Hp) (D:Ends),Inv X pins σ H s->t D σ H->wpAny (model X.prog X.w) X.A (execs st X.env) (SP X pins D) X.xe s
theorem bY{α:Type}{t:Sem α}{Q Q':α -> Shared->Prop}(h:wpAny M A t Q E s)(hQ:∀a s,Q a s->Q' a s):wpAny M A t Q' E s:=Ur h hQ λ_ _ x=>x
section
variable {X:Cx}
theorem bin{a b:Expr}{ta tb:TE}(ha:PE X a ta)(hb:PE X b tb){pins:List (Addr×Obj)}{s:Shared}{σ:St}{H:Hp}{R:V->V->Hp->Prop}(I:Inv X pins σ H s)(h:ta σ H λx H1=>tb σ H1 λy H2=>R x y H2)
  {α:Type} {Q:α -> Shared->Prop} {f:Value->Value->Sem α}
  (hf:∀v u s2 x y H2,Inv X pins σ H2 s2->RelV x v->RelV y u->R x y H2->wpAny (model X.prog X.w) X.A (f v u) Q X.xe s2) :
  wpAny (model X.prog X.w) X.A (eval a X.env) (λv s₁=>wpAny (model X.prog X.w) X.A (eval b X.env) (λu s₂=>wpAny (model X.prog X.w) X.A (f v u) Q X.xe s₂) X.xe s₁) X.xe s:=by
 refine bY (ha pins s σ H _ I h) λv s1 aE=>?_;obtain⟨x,H1,I1,r1,q1⟩:=aE;refine bY (hb pins s1 σ H1 _ I1 q1) λu s2 aE=>?_;obtain⟨y,H2,I2,r2,q2⟩:=aE;exact hf v u s2 x y H2 I2 r1 r2 q2
def Kc(i:Nat):TE:=λσ H Q=>∃v,σ[i]?=some (some v)/\Q v H
def tC(v:V):TE:=λ_ H Q=>Q v H
theorem jk{i:Nat}(hN:X.N[i]?=some x)(hv:JN X.env.scope x)(hd:(x==("__debug__":Str))=false)(hcd:(x==("__classdict__":Str))=false):PE X (.Name x pos) (Kc i):=by
 intro pins s σ H Q I h;obtain⟨v,e,h⟩:=h;obtain⟨m,hn,hl⟩:=I.loc;obtain⟨u,r,l⟩:=hl i x v hN e hv;have fin:EP X pins σ Q u s:=⟨v,H,I,r,h⟩
 rcases l with ⟨hk,hm⟩|⟨hk,c,hc,hcell⟩
 ·exact wpAny_Name (wpAny_loadName_local I.ok.kind hk hn hm fin) hd
 ·rcases hk with hk|hk
  ·exact wpAny_Name (wpAny_loadName_cell I.ok.kind hk hc hcell fin) hd
  ·exact wpAny_Name (wpAny_loadName_free I.ok.kind hk hc hcell fin hcd) hd
theorem Fe{i j pos}:PE X (.Constant (.int i) j pos) (tC (.int i)):=λ_ _ _ H _ I h=>wpAny_Constant_int ⟨.int i,H,I.tok _,⟨_,rfl⟩,h⟩
theorem vd{b j pos}:PE X (.Constant (.bool b) j pos) (tC (.bl b)):=λ_ _ _ H _ I h=>Constant_bool ⟨.bl b,H,I,rfl,h⟩
theorem yO{j pos}:PE X (.Constant .none j pos) (tC .non):=λ_ _ _ H _ I h=>Constant_none ⟨.non,H,I,rfl,h⟩
theorem Ff{x j pos}:PE X (.Constant (.str x) j pos) (tC (.str x)):=λ_ _ _ H _ I h=>Calls.Constant_str ⟨.str x,H,I.tok _,⟨_,rfl⟩,h⟩
def Gl(X:Cx)(x:Str):Prop:=X.env.kindOf x=some .globalImplicit
theorem fH(I:Inv X pins σ H s)(hg:Gl X x)(hm:X.mg x=some u)(h:Q u s)
  (hd:(x==("__debug__":Str))=false):wpAny (model X.prog X.w) X.A (eval (.Name x pos) X.env) Q E s :=
 Calls.Name_function_global I.ok.kind hg (Calls.loadGlobal_global (by rw[I.ok.glob];exact I.mod.glob.keeps I.bk) hm h) hd
theorem fP(I:Inv X pins σ H s)(hg:Gl X x)(hm:X.mg x=none)(hv:bootBuiltins x=some u)(h:Q u s)
  (hn:x ≠ "__name__":=by decide) (hd:(x==("__debug__":Str))=false:=by decide):wpAny (model X.prog X.w) X.A (eval (.Name x pos) X.env) Q E s:=by
 obtain⟨mb,h1,h2⟩:=I.mod.blt;exact Calls.Name_function_global I.ok.kind hg (Calls.loadGlobal_builtin (by rw[I.ok.glob];exact I.mod.glob.keeps I.bk) hm (by rw[I.ok.blt];exact h1.keeps I.bk) ((h2 x hn).trans hv) h) hd
theorem jD(hg:Gl X x)(hm:X.mg x=some u)(r:RelV v u)(hd:(x==("__debug__":Str))=false):PE X (.Name x pos) (tC v) :=
 λ_ _ _ H _ I h=>fH I hg hm ⟨v,H,I,r,h⟩ hd
theorem ve(hg:Gl X x)(hm:X.mg x=none)(hv:bootBuiltins x=some u)(r:RelV v u)(hn:x ≠ "__name__")(hd:(x==("__debug__":Str))=false):PE X (.Name x pos) (tC v) :=
 λ_ _ _ H _ I h=>fP I hg hm hv ⟨v,H,I,r,h⟩ hn hd
variable {a b:Expr} {ta tb:TE} {pos:Pos}
variable {tA Nk:TT} {rest:List Expr}
def NY(t u:TT):TT:=λσ H Q=>t σ H λc H1=>if c=true then u σ H1 Q else Q false H1
def QY(t u:TT):TT:=λσ H Q=>t σ H λc H1=>if c=true then Q true H1 else u σ H1 Q
def NZ(t:TT):TT:=λσ H Q=>t σ H λc H1=>Q (!c) H1
theorem BN(ha:PT X a tA):PW X (.BoolOp .And [a] pos) tA:=by
 intro wh pins s σ H Q I h;refine isTrue_and (bY (ha pins s σ H Q I h) λc s1 e=>?_);cases c with
 |true=>exact isTrue_and_nil e
 |false=>exact e
theorem Fg(ha:PT X a tA):PW X (.BoolOp .Or [a] pos) tA:=by
 intro wh pins s σ H Q I h;refine isTrue_or (bY (ha pins s σ H Q I h) λc s1 e=>?_);cases c with
 |false=>exact isTrue_or_nil e
 |true=>exact e
theorem Fi(ha:PT X a tA)(hb:PW X (.BoolOp .And (b::rest) pos) Nk):PW X (.BoolOp .And (a::b::rest) pos) (NY tA Nk):=by
 intro wh pins s σ H Q I h;refine isTrue_and (bY (ha pins s σ H _ I h) λc s1 aE=>?_);obtain⟨H1,I1,q1⟩:=aE;cases c with
 |true=>exact hb wh pins s1 σ H1 Q I1 q1
 |false=>exact⟨H1,I1,q1⟩
theorem Kd(ha:PT X a tA)(hb:PW X (.BoolOp .Or (b::rest) pos) Nk):PW X (.BoolOp .Or (a::b::rest) pos) (QY tA Nk):=by
 intro wh pins s σ H Q I h;refine isTrue_or (bY (ha pins s σ H _ I h) λc s1 aE=>?_);obtain⟨H1,I1,q1⟩:=aE;cases c with
 |true=>exact⟨H1,I1,q1⟩
 |false=>exact hb wh pins s1 σ H1 Q I1 q1
theorem Fj(ha:PT X a tA):PT X (.UnaryOp .Not a pos) (NZ tA):=by
 intro pins s σ H Q I h;exact isTrue_not (ha pins s σ H (λc H1=>Q (!c) H1) I h)
def Ke(ta tb:TE):TE:=λσ H Q=>ta σ H λx H1=>∃c,x=.bl c/\if c=true then tb σ H1 Q else Q (.bl false) H1
def N1(ta tb:TE):TE:=λσ H Q=>ta σ H λx H1=>∃c,x=.bl c/\if c=true then Q (.bl true) H1 else tb σ H1 Q
def Kf(ta:TE):TE:=λσ H Q=>ta σ H λx H1=>∃c,x=.bl c/\Q (.bl (!c)) H1
theorem tR{op}(h:PE X a t):PE X (.BoolOp op [a] pos) t:=λpins s σ H Q I hw=>BoolOp_one (h pins s σ H Q I hw)
theorem tU(ha:PE X a ta)(hb:PE X (.BoolOp .And (b::rest) pos) tb):PE X (.BoolOp .And (a::b::rest) pos) (Ke ta tb):=by
 intro pins s σ H Q I h;refine BoolOp_and (bY (ha pins s σ H _ I h) λv s1 aE=>?_);obtain⟨x,H1,I1,r1,q1⟩:=aE;obtain⟨c,rfl,q1⟩:=q1;cases r1;refine Vg ?_;cases c with
 |true=>exact hb pins s1 σ H1 Q I1 q1
 |false=>exact⟨.bl false,H1,I1,rfl,q1⟩
theorem Kg(ha:PE X a ta)(hb:PE X (.BoolOp .Or (b::rest) pos) tb):PE X (.BoolOp .Or (a::b::rest) pos) (N1 ta tb):=by
 intro pins s σ H Q I h;refine BoolOp_or (bY (ha pins s σ H _ I h) λv s1 aE=>?_);obtain⟨x,H1,I1,r1,q1⟩:=aE;obtain⟨c,rfl,q1⟩:=q1;cases r1;refine Vg ?_;cases c with
 |false=>exact hb pins s1 σ H1 Q I1 q1
 |true=>exact⟨.bl true,H1,I1,rfl,q1⟩
theorem yP(ha:PE X a ta):PE X (.UnaryOp .Not a pos) (Kf ta):=by
 intro pins s σ H Q I h;refine UnaryOp_ (bY (ha pins s σ H _ I h) λv s1 aE=>?_);obtain⟨x,H1,I1,r1,q1⟩:=aE;obtain⟨c,rfl,q1⟩:=q1;cases r1;exact not_of (Vg ⟨.bl (!c),H1,I1,rfl,q1⟩)
end
def fJ(K:Frag)(H:Hp)(a:Addr)(xs:List V):Prop :=
 Rd H a (.lst xs) \/
  ∃(o:Obj) (its:Array Value) (n:Nat),K.lookup a=some o/\o.cls=.type "list" /\ o.dict=none/\o.data=.seq its n/\its.size<=sizeLine/\Vals xs its.toList
def gQ(K:Frag)(H:Hp)(a:Addr)(xs:List V):Prop :=
 Rd H a (.tup xs) \/
  ∃(o:Obj) (its:Array Value) (n:Nat),K.lookup a=some o/\o.cls=.type "tuple" /\ o.data=.seq its n/\its.size<=sizeLine/\Vals xs its.toList
def N2:Value->Option V
 |.none=>some .non
 |.bool b=>some (.bl b)
 |.int i _=>some (.int i)
 |.str x _=>some (.str x)
 |.bytes b _=>some (.byt b)
 |.float b _=>some (.flt b)
 |.ref a=>some (.ref a)
 |.type n=>some (.ty n)
 |_=>none
theorem RelV.abs(r:RelV x u):N2 u=some x:=by
 cases x with
 |non=>cases r;rfl
 |bl _=>cases r;rfl
 |int _=>obtain⟨t,rfl⟩:=r;rfl
 |str _=>obtain⟨t,rfl⟩:=r;rfl
 |byt _=>obtain⟨t,rfl⟩:=r;rfl
 |flt _=>obtain⟨t,rfl⟩:=r;rfl
 |ref _=>cases r;rfl
 |ty _=>cases r;rfl
theorem RelV.inj(r:RelV x u)(q:RelV y u):x=y:=Uh (r.abs.symm.trans q.abs)
theorem Vals.inj:∀{xs ys:List V} {us:List Value},Vals xs us->Vals ys us->xs=ys
 |_,_,_,.nil,.nil=>rfl
 |_,_,_,.cons r t,.cons r' t'=>by rw[r.inj r',Vals.inj t t']
section
variable {X:Cx} {pins:List (Addr×Obj)} {σ:St} {H:Hp} {s:Shared} {a:Addr} {xs ys:List V}
theorem gQ.of{K:Frag}(h:H a=some (.tup xs)):gQ K H a xs:=.inl (.inl h)
theorem Inv.list(I:Inv X pins σ H s)(h:fJ X.K H a xs):∃its:List Value,Vals xs its/\PlainL s.heap a its.toArray/\xs.length<=sizeLine:=by
 rcases h with h|⟨o,its,n,hk,hc,hd,hs,hz,r⟩
 ·obtain⟨z,its,n,r,e⟩:=h.ok I.hok;exact⟨its,r,⟨_,n,e,rfl,rfl,rfl⟩,z⟩
 ·refine⟨its.toList,r,⟨o,n,I.iZ a o hk,hc,hd,by simpa using hs⟩,?_⟩;have e:=r.length;simp only[Array.length_toList]at e;omega
theorem Inv.tuple(I:Inv X pins σ H s)(h:gQ X.K H a xs):∃its:List Value,Vals xs its/\IsTup s.heap a its.toArray/\xs.length<=sizeLine:=by
 rcases h with h|⟨o,its,n,hk,hc,hs,hz,r⟩
 ·obtain⟨z,its,r,p⟩:=h.ok I.hok;exact⟨its,r,p,z⟩
 ·refine⟨its.toList,r,⟨o,I.iZ a o hk,hc,n,by simpa using hs⟩,?_⟩;have e:=r.length;simp only[Array.length_toList]at e;omega
theorem Inv.qN(I:Inv X pins σ H s)(h:fJ X.K H a xs)(h':fJ X.K H a ys):xs=ys:=by
 obtain⟨its,r,⟨o,n,e,_,_,d⟩,_⟩:=I.list h;obtain⟨its',r',⟨o',n',e',_,_,d'⟩,_⟩:=I.list h';rw[e]at e';cases e';rw[d]at d';injection d' with d1 _
 have:its=its':=by simpa using UM toList d1
 subst this;exact r.inj r'
theorem Inv.xh(I:Inv X pins σ H s)(h:gQ X.K H a xs)(h':gQ X.K H a ys):xs=ys:=by
 obtain⟨its,r,⟨o,e,_,n,d⟩,_⟩:=I.tuple h;obtain⟨its',r',⟨o',e',_,n',d'⟩,_⟩:=I.tuple h';rw[e]at e';cases e';rw[d]at d';injection d' with d1 _
 have:its=its':=by simpa using UM toList d1
 subst this;exact r.inj r'
end
abbrev Cx.ku(X:Cx)(E:Value->Shared->Prop):Cx:={ X with xe:=E }
abbrev Cx.yH(X:Cx):Cx:=X.ku λ_ _=>False
theorem Cx.Ok.ku{X:Cx}(ok:X.Ok)(E:Value->Shared->Prop):(X.ku E).Ok :=
 ⟨ok.mod,ok.kind,ok.glob,ok.blt,ok.above,ok.inj,ok.has,ok.JO,ok.hd,ok.frames,ok.stk,ok.Ni,ok.bs,ok.BL,ok.jC,ok.xg,ok.kr,ok.D9⟩
theorem Cx.Ok.eV{X:Cx}{E:Value->Shared->Prop}(ok:(X.ku E).Ok):X.Ok :=
 ⟨ok.mod,ok.kind,ok.glob,ok.blt,ok.above,ok.inj,ok.has,ok.JO,ok.hd,ok.frames,ok.stk,ok.Ni,ok.bs,ok.BL,ok.jC,ok.xg,ok.kr,ok.D9⟩
section
variable {X:Cx} {pins:List (Addr×Obj)} {σ:St} {H:Hp} {s:Shared} {E:Value->Shared->Prop}
theorem Inv.ku(I:Inv X pins σ H s)(E:Value->Shared->Prop):Inv (X.ku E) pins σ H s:=⟨I.ok.ku E,I.os,I.bare,I.base,I.loc,I.cell,I.free,I.eT,I.pin,I.hok,I.len⟩
theorem Inv.eV(I:Inv (X.ku E) pins σ H s):Inv X pins σ H s:=⟨I.ok.eV,I.os,I.bare,I.base,I.loc,I.cell,I.free,I.eT,I.pin,I.hok,I.len⟩
theorem SP.eV(h:SP (X.ku E) pins D f s'):SP X pins D f s':=by
 cases f with
 |next=>obtain⟨σ',H',I,q⟩:=h;exact⟨σ',H',I.eV,q⟩
 |brk=>obtain⟨σ',H',I,q⟩:=h;exact⟨σ',H',I.eV,q⟩
 |cont=>obtain⟨σ',H',I,q⟩:=h;exact⟨σ',H',I.eV,q⟩
 |ret u=>obtain⟨v,σ',H',I,r,q⟩:=h;exact⟨v,σ',H',I.eV,r,q⟩
theorem pQ.yH{st:List Stmt}{t:TS}(h:pQ X.yH st t):pQ X st t:=λpins s σ H D I hw=>
 Ur (h pins s σ H D (I.ku _) hw) (λ_ _ q=>q.eV) λ_ _ z=>False.elim z
end
section
variable {X:Cx} {st:Stmt} {rest:List Stmt} {t u:TS} {e:Expr} {te:TE} {pos:Pos}
def yQ:TS:=λD σ H=>D.nx σ H
def N3(t u:TS):TS:=λD σ H=>t { D with nx:=u D } σ H
theorem BO:pQ X [] yQ:=λ_ _ σ H _ I h=>VD ⟨σ,H,I,h⟩
theorem gb(h1:PS X st t)(h2:pQ X rest u):pQ X (st::rest) (N3 t u):=by
 intro pins s σ H D I h;refine wpAny_execs_cons (bY (h1 pins s σ H { D with nx:=u D } I h) λf s1 q=>?_);cases f with
 |next=>obtain⟨σ',H',I',q⟩:=q;exact h2 pins s1 σ' H' D I' q
 |ret v=>exact q
 |brk=>exact q
 |cont=>exact q
theorem lV(h1:PS X st t):pQ X [st] t:=by
 intro pins s σ H D I h;refine wpAny_execs_cons (bY (h1 pins s σ H D I h) λf s1 q=>?_);cases f with
 |next=>exact VD q
 |ret v=>exact q
 |brk=>exact q
 |cont=>exact q
def Fo:TS:=λD σ H=>D.bk σ H
def Kh:TS:=λD σ H=>D.ct σ H
theorem BP:PS X (.Pass pos) yQ:=λ_ _ σ H _ I h=>wpAny_Pass ⟨σ,H,I,h⟩
theorem yR:PS X (.Break pos) Fo:=λ_ _ σ H _ I h=>wpAny_Break ⟨σ,H,I,h⟩
theorem qO:PS X (.Continue pos) Kh:=λ_ _ σ H _ I h=>wpAny_Continue ⟨σ,H,I,h⟩
theorem Inv.quiet(I:Inv X pins σ H s):interactive X.env=false:=by simp[interactive,I.ok.kind]
theorem Fp{x j pos pos'}:PS X (.Expr (.Constant (.str x) j pos) pos') yQ:=λ_ s σ H _ I h=>wpAny_Expr (Calls.Constant_str (show SP X _ _ .next { s with toks:=s.toks+1 } from⟨σ,H,I.tok _,h⟩)) I.quiet
def Kl(te:TE):TS:=λD σ H=>te σ H λ_ H1=>D.nx σ H1
theorem BQ(he:PE X e te)(hs:swapsWith e none pos.line X.env=pure false):PS X (.Expr e pos) (Kl te):=by
 intro pins s σ H D I h;exact wpAny_Expr_any (bY (he pins s σ H _ I h) λv s1 ⟨x,H1,I1,r1,q1⟩=>⟨σ,H1,I1,q1⟩) I.quiet hs
def N4(te:TE):TS:=λD σ H=>te σ H D.rt
theorem Fq(he:PE X e te):PS X (.Return (some e) pos) (N4 te):=by
 intro pins s σ H D I h;exact wpAny_Return_some (bY (he pins s σ H _ I h) λv s1 ⟨x,H1,I1,r1,q1⟩=>⟨x,σ,H1,I1,r1,q1⟩)
def Km:TS:=λD _ H=>D.rt .non H
theorem BR:PS X (.Return none pos) Km:=λ_ _ σ H _ I h=>wpAny_Return_none ⟨.non,σ,H,I,rfl,h⟩
def N5(c:TT)(t u:TS):TS:=λD σ H=>c σ H λb H1=>if b=true then t D σ H1 else u D σ H1
theorem Kn(hc:PT X c tc)(ha:pQ X a t)(hb:pQ X b u):PS X (.If c a b pos) (N5 tc t u):=by
 intro pins s σ H D I h;refine wpAny_If (bY (hc pins s σ H _ I h) λd s1 aE=>?_);obtain⟨H1,I1,q1⟩:=aE;cases d with
 |true=>exact ha pins s1 σ H1 D I1 q1
 |false=>exact hb pins s1 σ H1 D I1 q1
def Ft:TS:=λ_ _ _=>False
theorem mw:PS X st Ft:=λ_ _ _ _ _ _ h=>h.elim
end
abbrev TG:=V->St->Hp->(St->Hp->Prop)->Prop
abbrev JP:=List V->St->Hp->(St->Hp->Prop)->Prop
def PG(X:Cx)(target:Expr)(t:TG):Prop :=
 ∀(pins:List (Addr×Obj)) (s:Shared) (σ:St) (H:Hp) (v:V) (u:Value) (Q:St->Hp->Prop),Inv X pins σ H s->RelV v u->t v σ H Q ->
  wpAny (model X.prog X.w) X.A (assign target X.env u) (λ_ s'=>∃σ' H',Inv X pins σ' H' s'/\Q σ' H') X.xe s
def JQ(X:Cx)(ts:List Expr)(t:JP):Prop :=
 ∀(pins:List (Addr×Obj)) (s:Shared) (σ:St) (H:Hp) (vs:List V) (us:List Value) (Q:St->Hp->Prop),Inv X pins σ H s->Vals vs us->t vs σ H Q ->
  wpAny (model X.prog X.w) X.A (assignInOrder ((assignEach ts X.env).map (·.2)) us) (λ_ s'=>∃σ' H',Inv X pins σ' H' s'/\Q σ' H') X.xe s
abbrev Fv:=V->V->V->Hp->(Hp->Prop)->Prop
def Fw(X:Cx)(t:Fv):Prop :=
 ∀(pins:List (Addr×Obj)) (s:Shared) (σ:St) (H:Hp) (o i v:V) (ov iv u:Value) (Q:Hp->Prop),Inv X pins σ H s->RelV o ov->RelV i iv->RelV v u->t o i v H Q ->
  wpAny (model X.prog X.w) X.A (setItem ov iv u) (λ_ s'=>∃H',Inv X pins σ H' s'/\Q H') X.xe s
section
variable {X:Cx} {pos:Pos}
def oB(i:Nat):TG:=λv σ H Q=>Q (σ.set i (some v)) H
theorem fK{i:Nat}(hN:X.N.Nodup)(hi:X.N[i]?=some x)(hx:Loc X.env.scope x)(hf:X.fn x=true\/X.env.scope.names.lookup x=some .local):PG X (.Name x pos) (oB i):=by
 intro pins s σ H v u Q I r h;exact wpAny_assign_Name (mq I hN hi hx r (λs' I'=>⟨_,H,I',h⟩) hf)
def Ko:JP:=λvs σ H Q=>vs=[]/\Q σ H
def Eb(t:TG)(u:JP):JP:=λvs σ H Q=>∃v r,vs=v::r/\t v σ H λσ' H'=>u r σ' H' Q
theorem vf:JQ X [] Ko:=by
 intro pins s σ H vs us Q I r h;obtain⟨e,h⟩:=h;subst e;cases r;exact assignInOrder_nil ⟨σ,H,I,h⟩
theorem qP(h1:PG X e t)(h2:JQ X es u)
  (hs:(assignEach (e::es) X.env).map (·.2)=assign e X.env::(assignEach es X.env).map (·.2):=by rfl):JQ X (e::es) (Eb t u):=by
 intro pins s σ H vs us Q I r h;obtain⟨v,vr,e1,h⟩:=h;subst e1;cases r with
 |cons r rr=>rw[hs];refine assignInOrder_cons (bY (h1 pins s σ H _ _ _ I r h) λ_ s1 aE=>?_);obtain⟨σ1,H1,I1,q1⟩:=aE;exact h2 pins s1 σ1 H1 _ _ Q I1 rr q1
def Kp(K:Frag)(n:Nat)(t:JP):TG:=λv σ H Q=>∃a xs,v=.ref a/\gQ K H a xs/\xs.length=n/\t xs σ H Q
theorem yS{k:Nat}{n:Nat}(hc:X.calm=true)(h:JQ X es t)
  (hn:(assignEach es X.env).length=n) (hst:(assignEach es X.env).findIdx? (·.1)=none):PG X (.Tuple es k pos) (Kp X.K n t):=by
 intro pins s σ H v u Q I r hw;obtain⟨a,xs,e1,hq,hl,hw⟩:=hw;subst e1;cases r;obtain⟨its,rv,ht,hz⟩:=I.tuple hq;refine assign_Tuple_tuple (I.ok.hd hc) ht (by simp[hn,<-hl,rv.length]) hst λh' hx=>?_;have I1:Inv X pins σ H { s with heap:=h' }:=I.kept (t':=s.toks) λb o e=>hx b o (T9 (TR e)) e;exact h pins _ σ H xs _ Q I1 (by simpa using rv) hw
def Kq(to ti:TE)(t:Fv):TG:=λv σ H Q=>to σ H λo H1=>ti σ H1 λi H2=>t o i v H2 λH3=>Q σ H3
theorem Fx(ho:PE X o to)(hi:PE X i ti)(hs:Fw X t)
  (ha:∀v,assign (.Subscript o i pos) X.env v=(do
   let ov <-holding [v] (eval o X.env)
   let iv <-holding [v,ov] (eval i X.env)
   standAt pos
   holding [v,ov,iv] (setItem ov iv v)
   release [v,ov,iv] [])):PG X (.Subscript o i pos) (Kq to ti t):=by
 intro pins s σ H v u Q I r h;rw[ha];refine Tw (Uy (bY (ho pins s σ H _ I h) λov s1 aE=>?_));obtain⟨x,H1,I1,r1,q1⟩:=aE;refine Tw (Uy (bY (hi pins s1 σ H1 _ I1 q1) λiv s2 aE=>?_));obtain⟨y,H2,I2,r2,q2⟩:=aE;refine Tw (U7 (Tw (Uy (bY (hs pins s2 σ H2 x y v ov iv u _ I2 r1 r2 r q2) λ_ s3 aE=>?_))));obtain⟨H3,I3,q3⟩:=aE;exact wpAny_release ⟨σ,H3,I3,q3⟩
def BS(te:TE)(g:TG):TS:=λD σ H=>te σ H λx H1=>g x σ H1 D.nx
theorem kB(he:PE X e te)(hg:PG X tg g)(hs:swapsWithSole [tg] e pos.line X.env=pure false)(hw:swappedStores [tg] e X.env=pure none)
  (h1:(assignEach [tg] X.env).map (·.2)=[assign tg X.env]):PS X (.Assign [tg] e pos) (BS te g):=by
 intro pins s σ H D I h;refine wpAny_Assign_stores (bY (he pins s σ H _ I h) λv s1 ⟨x,H1,I1,r1,q1⟩=>?_) hs hw;rw[h1];exact bY (hg pins s1 σ H1 x v _ I1 r1 q1) λ_ s2 q=>q
theorem yT{i:Nat}(hN:X.N.Nodup)(hi:X.N[i]?=some x)(hx:Loc X.env.scope x)(he:PE X e te)(hs:swapsWith e (some (.Name x pos')) pos.line X.env=pure false)(hf:X.fn x=true\/X.env.scope.names.lookup x=some .local) :
  PS X (.Assign [.Name x pos'] e pos) (BS te (oB i)):=by
 intro pins s σ H D I h;refine wpAny_Assign_Name (bY (he pins s σ H _ I h) λv s1 ⟨y,H1,I1,r1,q1⟩=>?_) hs;exact mq I1 hN hi hx r1 (λs2 I2=>⟨_,H1,I2,q1⟩) hf
end
structure It where
 go:Nat->Hp->Prop
 tW:Nat->Hp->V->Hp->Prop
 stop:Nat->Hp->Prop
def lI(X:Cx)(pins:List (Addr×Obj))(H:Hp)(b:Addr):Prop :=
 H b=none/\b≠X.env.locals/\b∉X.fs/\(b∈X.ex\/X.s₀.heap.objs.size<=b)/\(∀x c,X.env.cells.lookup x=some c->c≠b)/\∀p∈X.pn++pins,p.1≠b
theorem Inv.BU(I:Inv X pins σ H s)(hb:s.heap.objs.size<=b)(hn:H' b=none):lI X pins H' b:=by
 refine⟨hn,Vo (TY I.lt hb),I.NW hb,.inr (Ut I.sz hb),λx c e z=>?_,λp hp z=>?_⟩
 ·obtain⟨v,q⟩:=I.cell x c e;exact absurd (TY q.lt (by rw[z];exact hb)) (UC _)
 ·exact absurd (TY (TR (I.pin p hp).1) (by rw[z];exact hb)) (UC _)
structure Turn (P:Program) (w:World) (K:Frag) (tg:Expr) (J:It) (fp:List Addr) (it:Addr) (tn:Nat->Heap->Prop):Prop where
 mem:it∈fp
 obj:∀i h,tn i h->∀b∈fp,∃o,h.get? b=some o/\∀v,o.data≠.cell v
 keep:∀i h h',tn i h->(∀b∈fp,∀o,h.get? b=some o->h'.get? b=some o)->tn i h'
 item:∀(X:Cx),X.prog=P->X.w=w->X.K=K->X.calm=true->∀(i:Nat) (pins:List (Addr×Obj)) (s:Shared) (σ:St) (H:Hp) (E:Value->Shared->Prop),Inv X pins σ H s->(∀b∈fp,lI X pins H b)->tn i s.heap->J.go i H ->
  wpAny (model P w) X.A (pyNext (.ref it)) (λr s1=>∃u,r=some u /\
   wpAny (model P w) X.A (letOwnedTupleGo tg (.ref it) u) (λ_ s2=>∃x H',Inv X pins σ H' s2/\RelV x u/\J.tW i H x H'/\tn (i+1) s2.heap/\∀b∈fp,H' b=none) E s1) E s
 done:∀(X:Cx),X.prog=P->X.w=w->X.K=K->X.calm=true->∀(i:Nat) (pins:List (Addr×Obj)) (s:Shared) (σ:St) (H:Hp) (E:Value->Shared->Prop),Inv X pins σ H s->(∀b∈fp,lI X pins H b)->tn i s.heap->J.stop i H ->
  wpAny (model P w) X.A (pyNext (.ref it)) (λr s1=>r=none/\Inv X pins σ H s1) E s
 self:∀(A:Around) (i:Nat) (s:Shared) (Q:Value->Shared->Prop) (E:Value->Shared->Prop),tn i s.heap->Q (.ref it) s->wpAny (model P w) A (pyIter (.ref it)) Q E s
abbrev TI:=St->Hp->(It->Hp->Prop)->Prop
def Qa(X:Cx)(pins:List (Addr×Obj))(σ:St)(tg:Expr)(R:It->Hp->Prop)(itv:Value)(s2:Shared):Prop :=
 ∃(it:Addr) (fp:List Addr) (tn:Nat->Heap->Prop) (J:It) (H':Hp),itv=.ref it/\Inv X pins σ H' s2/\Turn X.prog X.w X.K tg J fp it tn/\tn 0 s2.heap/\(∀b∈fp,lI X pins H' b)/\R J H'
def PI(X:Cx)(tg iter:Expr)(wi:TI):Prop :=
 ∀(pins:List (Addr×Obj)) (s:Shared) (σ:St) (H:Hp) (R:It->Hp->Prop),Inv X pins σ H s->wi σ H R ->
  wpAny (model X.prog X.w) X.A (eval iter X.env) (λv s1=>wpAny (model X.prog X.w) X.A (pyIter v) (Qa X pins σ tg R) X.xe s1) X.xe s
theorem yU{n:String}(ho:s.heap.get? it=some o)(hc:o.cls=.type n)(hd:o.data=.fields vs)
  (hn:["enumerate","zip","dict_itemiterator","dict_reverseitemiterator","odict_iterator","itertools.zip_longest","itertools.pairwise"].contains n=false) (hQ:Q () s):wpAny M A (letOwnedTupleGo tg (.ref it) u) Q E s:=by
 unfold letOwnedTupleGo;cases tg<;>first
  |exact TL hQ
  | (cases u<;>first
    |exact TL hQ
    | (refine Tw (wpAny_load ho ?_)
       rw[hc,hd];show wpAny M A (if (["enumerate","zip","dict_itemiterator","dict_reverseitemiterator","odict_iterator","itertools.zip_longest","itertools.pairwise"].contains n&&vs[0]?==some (rawInt _))=true then _ else _) Q E s;rw[TX (by intro h;rw[hn,Bool.false_and]at h;cases h)];exact TL hQ))
def Nl(K:Frag)(a:Addr):It :=
 ⟨λi H=>∃xs x,fJ K H a xs/\xs[i]?=some x,λi H x H'=>H'=H/\∀xs,fJ K H a xs->xs[i]?=some x,λi H=>∃xs,fJ K H a xs/\xs.length<=i⟩
def N6(K:Frag)(a:Addr):It :=
 ⟨λi H=>∃xs x,gQ K H a xs/\xs[i]?=some x,λi H x H'=>H'=H/\∀xs,gQ K H a xs->xs[i]?=some x,λi H=>∃xs,gQ K H a xs/\xs.length<=i⟩
def Kr(lo:Int)(n:Nat):It:=⟨λi _=>i<n,λi H x H'=>H'=H/\x=.int (lo+i),λi _=>n<=i⟩
theorem xj{P:Program}{w:World}{K:Frag}{tg:Expr}(a it:Addr):Turn P w K tg (Nl K a) [it] it (λi h=>h.IsListIter it a i) where
 mem:=by simp
 obj:=λi h st b hb=>by
  have e:b=it:=by simpa using hb
  subst e;obtain⟨o,e,c,d⟩:=st;exact⟨o,e,λv z=>by rw[d]at z;cases z⟩
 keep:=λi h h' st k=>st.at λo e=>k it (by simp) o e
 item:=by intro X hP hw hK hc i pins s σ H E I hf st hg;subst hP hw hK;obtain⟨xs,x,hq,hx⟩:=hg;obtain⟨its,rv,p,hz⟩:=I.list hq;obtain⟨u,hu,ru⟩:=rv.get hx;obtain⟨f0,f1,f2,f3,f4,f5⟩:=hf it (by simp);refine wpAny_pyNext_list_item st p.isList (x:=u) (by simpa using hu) λh' st' sb=>?_;have I1:Inv X pins σ H { s with heap:=h' }:=I.turned (t':=s.toks) (λb o hb e=>(sb.2 b hb).trans e) f0 f1 f3 f4 f5;obtain⟨o,e,c,d⟩:=id st';exact⟨u,rfl,yU (s:={ s with heap:=h' }) e c d (by decide) ⟨x,H,I1,ru,⟨rfl,λys hy=>by rw[I.qN hy hq];exact hx⟩,st',λb hb=>(hf b hb).1⟩⟩
 done:=by intro X hP hw hK hc i pins s σ H E I hf st hg;subst hP hw hK;obtain⟨xs,hq,hx⟩:=hg;obtain⟨its,rv,p,hz⟩:=I.list hq;obtain⟨f0,f1,f2,f3,f4,f5⟩:=hf it (by simp);have hl:=rv.length;exact wpAny_pyNext_list_end (I.ok.hd hc) st p.isList (by simp;omega) λh' eb=>⟨rfl,I.turned (t':=s.toks) (λb o hb e=>eb b o hb e) f0 f1 f3 f4 f5⟩
 self:=λ_ _ _ _ _ st h=>wpAny_pyIter_listiter st h
theorem tX{P:Program}{w:World}{K:Frag}{tg:Expr}(a it:Addr):Turn P w K tg (N6 K a) [it] it (λi h=>h.IsTupleIter it a i) where
 mem:=by simp
 obj:=λi h st b hb=>by
  have e:b=it:=by simpa using hb
  subst e;obtain⟨o,e,c,d⟩:=st;exact⟨o,e,λv z=>by rw[d]at z;cases z⟩
 keep:=λi h h' st k=>st.at λo e=>k it (by simp) o e
 item:=by intro X hP hw hK hc i pins s σ H E I hf st hg;subst hP hw hK;obtain⟨xs,x,hq,hx⟩:=hg;obtain⟨its,rv,p,hz⟩:=I.tuple hq;obtain⟨u,hu,ru⟩:=rv.get hx;obtain⟨f0,f1,f2,f3,f4,f5⟩:=hf it (by simp);refine wpAny_pyNext_tuple_item st (show s.heap.IsTuple a its.toArray from p) (x:=u) (by simpa using hu) λh' st' sb=>?_;have I1:Inv X pins σ H { s with heap:=h' }:=I.turned (t':=s.toks) (λb o hb e=>(sb.2 b hb).trans e) f0 f1 f3 f4 f5;obtain⟨o,e,c,d⟩:=id st';exact⟨u,rfl,yU (s:={ s with heap:=h' }) e c d (by decide) ⟨x,H,I1,ru,⟨rfl,λys hy=>by rw[I.xh hy hq];exact hx⟩,st',λb hb=>(hf b hb).1⟩⟩
 done:=by intro X hP hw hK hc i pins s σ H E I hf st hg;subst hP hw hK;obtain⟨xs,hq,hx⟩:=hg;obtain⟨its,rv,p,hz⟩:=I.tuple hq;obtain⟨f0,f1,f2,f3,f4,f5⟩:=hf it (by simp);have hl:=rv.length;exact wpAny_pyNext_tuple_end (I.ok.hd hc) st (show s.heap.IsTuple a its.toArray from p) (by simp;omega) λh' eb=>⟨rfl,I.turned (t':=s.toks) (λb o hb e=>eb b o hb e) f0 f1 f3 f4 f5⟩
 self:=λ_ _ _ _ _ st h=>wpAny_pyIter_tupleiter st h
theorem tY{P:Program}{w:World}{K:Frag}{tg:Expr}(it:Addr)(lo:Int)(n:Nat):Turn P w K tg (Kr lo n) [it] it (λi h=>IsRangeIter h it (lo+(i:Nat)*1) ((n:Int)-(i:Nat)) 1) where
 mem:=by simp
 obj:=λi h st b hb=>by
  have e:b=it:=by simpa using hb
  subst e;exact⟨_,st,λv z=>by
   have z':Data.fields _=Data.cell v:=z;cases z'⟩
 keep:=λi h h' st k=>k it (by simp) _ st
 item:=by intro X hP hw hK hc i pins s σ H E I hf st hg;subst hP hw hK;obtain⟨f0,f1,f2,f3,f4,f5⟩:=hf it (by simp);have W:=Walks.range (prog:=X.prog) (w:=X.w) (I.ok.hd hc) it lo 1 n;refine W.item i s _ _ hg st λv h' tk hv st' kk=>?_;obtain⟨t,rfl⟩:=hv;have I1:Inv X pins σ H { s with heap:=h',toks:=tk }:=I.turned (λb o hb e=>kk b o (by simpa using hb) e) f0 f1 f3 f4 f5;refine⟨_,rfl,yU (s:={ s with heap:=h',toks:=tk }) (n:="range_iterator") st' rfl rfl (by decide) ⟨.int (lo+i),H,I1,⟨t,?_⟩,⟨rfl,rfl⟩,st',λb hb=>(hf b hb).1⟩⟩;rw[Int.mul_one]
 done:=by intro X hP hw hK hc i pins s σ H E I hf st hg;subst hP hw hK;obtain⟨f0,f1,f2,f3,f4,f5⟩:=hf it (by simp);exact wpAny_pyNext_range_end (I.ok.hd hc) st (by have:n<=i:=hg;omega) λh' eb=>⟨rfl,I.turned (t':=s.toks) (λb o hb e=>eb b o hb e) f0 f1 f3 f4 f5⟩
 self:=λ_ _ _ _ _ st h=>wpAny_pyIter_rangeiter st h
section
variable {X:Cx} {tg:Expr}
def Ks(K:Frag)(tl:TE):TI:=λσ H R=>tl σ H λx H1=>∃a,x=.ref a/\(∃xs,fJ K H1 a xs)/\R (Nl K a) H1
def N7(K:Frag)(tl:TE):TI:=λσ H R=>tl σ H λx H1=>∃a,x=.ref a/\(∃xs,gQ K H1 a xs)/\R (N6 K a) H1
theorem BV(hl:PE X l tl):PI X tg l (Ks X.K tl):=by
 intro pins s σ H R I h;refine bY (hl pins s σ H _ I h) λv s1 aE=>?_;obtain⟨x,H1,I1,r1,q1⟩:=aE;obtain⟨a,e,⟨xs,hq⟩,q⟩:=q1;subst e;cases r1;obtain⟨its,rv,p,hz⟩:=I1.list hq;refine VQ p.isList ?_;refine⟨s1.heap.objs.size,[s1.heap.objs.size],_,_,H1,rfl,I1.kept (t':=s1.toks) λb o e=>TF _ e,xj a _,⟨_,T7 _ rfl,rfl,rfl⟩,λb hb=>?_,q⟩;have e:b=s1.heap.objs.size:=by simpa using hb
 subst e;exact I1.BU (TV _) (I1.hok.fresh (TV _))
theorem Fy(hl:PE X l tl):PI X tg l (N7 X.K tl):=by
 intro pins s σ H R I h;refine bY (hl pins s σ H _ I h) λv s1 aE=>?_;obtain⟨x,H1,I1,r1,q1⟩:=aE;obtain⟨a,e,⟨xs,hq⟩,q⟩:=q1;subst e;cases r1;obtain⟨its,rv,p,hz⟩:=I1.tuple hq;refine wpAny_pyIter_tuple (show s1.heap.IsTuple a its.toArray from p) ?_;refine⟨s1.heap.objs.size,[s1.heap.objs.size],_,_,H1,rfl,I1.kept (t':=s1.toks) λb o e=>TF _ e,tX a _,⟨_,T7 _ rfl,rfl,rfl⟩,λb hb=>?_,q⟩;have e:b=s1.heap.objs.size:=by simpa using hb
 subst e;exact I1.BU (TV _) (I1.hok.fresh (TV _))
theorem qQ{lo hi:Int}{tk:Nat}(I:Inv X pins σ H s)(h1:-(2 ^ 62)<=lo)(h2:lo<2 ^ 62)(h3:-(2 ^ 62)<=hi)(h4:hi<2 ^ 62)
  (q:R (Kr lo (hi-lo).toNat) H):wpAny (model X.prog X.w) X.A (pyIter (.ref s.heap.objs.size)) (Qa X pins σ tg R) E { s with heap:=s.heap.push { cls:=.type "range",data:=.fields [.int lo t,.int hi u,.int 1 v].toArray },toks:=tk }:=by
 refine wpAny_pyIter_range (IsRange.new ..) (small_one h1 h2 h3 h4) ?_;have I1:Inv X pins σ H { s with heap:=s.heap.push { cls:=.type "range",data:=.fields [.int lo t,.int hi u,.int 1 v].toArray },toks:=tk }:=I.kept λb o e=>TF _ e;refine⟨(s.heap.push { cls:=.type "range",data:=.fields [.int lo t,.int hi u,.int 1 v].toArray }).objs.size,[(s.heap.push { cls:=.type "range",data:=.fields [.int lo t,.int hi u,.int 1 v].toArray }).objs.size],_,_,H,rfl,
  I1.kept (t':=tk) λb o e=>TF _ e,tY _ lo (hi-lo).toNat,?_,λb hb=>?_,q⟩
 ·have e1:lo+((0:Nat):Int)*1=lo:=by simp
  have e2:(((hi-lo).toNat:Nat):Int)-((0:Nat):Int)=Builtin.Range.rangeSize lo hi 1:=by rw[rangeSize_one];split<;>omega
  show IsRangeIter _ _ (lo+((0:Nat):Int)*1) ((((hi-lo).toNat:Nat):Int)-((0:Nat):Int)) 1;rw[e1,e2];exact T7 _ rfl
 ·have e:b=(s.heap.push { cls:=.type "range",data:=.fields [.int lo t,.int hi u,.int 1 v].toArray }).objs.size:=by simpa using hb
  subst e;exact I1.BU (TV _) (I1.hok.fresh (TV _))
def Ku(ta:TA):TI:=λσ H R=>ta σ H λvs H1=>∃j:Int,vs=[.int j] /\ -(2 ^ 62)<=j/\j<2 ^ 62/\R (Kr 0 j.toNat) H1
def Kv(ta:TA):TI:=λσ H R=>ta σ H λvs H1=>∃i j:Int,vs=[.int i,.int j]/\(-(2 ^ 62)<=i/\i<2 ^ 62 /\ -(2 ^ 62)<=j/\j<2 ^ 62)/\R (Kr i (j-i).toNat) H1
theorem xm(hg:Gl X "range")(hm:X.mg "range" = none)(ha:PA X [a] ta)(hs:starEach [a] X.env=[(false,eval a X.env)]):PI X tg (.Call (.Name "range" p) [a] [] pos) (Ku ta):=by
 intro pins s σ H R I h;refine Call_ (fP I hg hm boot_range (UL (bY (ha pos pins s σ H _ I h) λus s1 aE=>?_) hs rfl));obtain⟨vs,H1,I1,r1,q1⟩:=aE;obtain⟨j,e,q1,q2,q⟩:=q1;subst e;cases r1 with
 |cons r rr=>cases rr;obtain⟨t,rfl⟩:=r;exact call_range_1 (qQ I1 (by omega) (by omega) q1 q2 (by simpa using q))
theorem xq(hg:Gl X "range")(hm:X.mg "range" = none)(ha:PA X [a,b] ta)(hs:starEach [a,b] X.env=[(false,eval a X.env),(false,eval b X.env)])(hs2:starEach [b] X.env=[(false,eval b X.env)]) :
  PI X tg (.Call (.Name "range" p) [a,b] [] pos) (Kv ta):=by
 intro pins s σ H R I h;refine Call_ (fP I hg hm boot_range (UL (bY (ha pos pins s σ H _ I h) λus s1 ⟨vs,H1,I1,r1,q1⟩=>?_) (by rw[hs,hs2]) (by rw[hs2];rfl)));obtain⟨i,j,e,⟨q1,q2,q3,q4⟩,q⟩:=q1;subst e;cases r1 with
 |cons r rr=>
  cases rr with
  |cons r' rr=>cases rr;obtain⟨t,rfl⟩:=r;obtain⟨t',rfl⟩:=r';exact call_range_2 (qQ I1 q1 q2 q3 q4 q)
def N8(wi:TI)(g:TG)(tb:TS):TS:=λD σ H=>wi σ H λJ H1=>∃W:Nat->Nat->St->Hp->Prop,(∃m,W 0 m σ H1)/\∀i m σ H,W i m σ H ->
 (J.stop i H/\D.nx σ H)\/(J.go i H/\∃N:St->Hp->Prop,(∀σ' H',N σ' H'->∃m',m'<m/\W (i+1) m' σ' H')/\∀x H',J.tW i H x H'->g x σ H' λσ2 H2=>tb { D with nx:=N,ct:=N,bk:=D.nx } σ2 H2)
def mz(fp:List Addr)(h:Heap):List (Addr×Obj):=fp.filterMap λb=>(h.get? b).map λo=>(b,o)
theorem gD(hb:b∈fp)(e:h.get? b=some o):(b,o)∈mz fp h:=List.mem_filterMap.mpr ⟨b,hb,by rw[e];rfl⟩
theorem xr(hp:p∈mz fp h):p.1∈fp/\h.get? p.1=some p.2:=by
 obtain⟨b,hb,e⟩:=List.mem_filterMap.mp hp;cases q:h.get? b with
 |none=>rw[q]at e;cases e
 |some o=>rw[q]at e;have e':(b,o)=p:=Uh e;subst e';exact⟨hb,q⟩
theorem Inv.pinned(I:Inv X pins σ H s)(hf:∀b∈fp,lI X pins H b)(ho:∀b∈fp,∃o,s.heap.get? b=some o/\∀v,o.data≠.cell v):Inv X (pins++mz fp s.heap) σ H s :=
 I.vc λp hp=>(U0.mp hp).elim (λz=>I.pin p (Uq _ z)) λz=>by
  obtain⟨hb,e⟩:=xr z;obtain⟨f0,f1,f2,_⟩:=hf p.1 hb;obtain⟨o,e',d⟩:=ho p.1 hb;rw[e]at e';cases e';exact⟨e,f0,f1,f2,d⟩
theorem Inv.jE(I:Inv X (pins++pl) σ H s):Inv X pins σ H s:=I.vc λp hp=>I.pin p (Uq _ (Vf _ hp))
theorem Fz(hp:PassesOwn (model X.prog X.w) X.A X.env X.xe)(hc:X.calm=true)(hi:PI X tg iter wi)(hg:PG X tg g)(hb:pQ X body tb)
  (hs:∀x,foldedSetIterable iter X.env x=pure x):PS X (.For tg iter body [] pos) (N8 wi g tb):=by
 intro pins s σ H D I h;refine wpAny_For (bY (hi pins s σ H _ I h) λv s1 h1=>bY h1 λitv s2 h2=>?_) hs;obtain⟨it,fp,tn,J,H2,e,I2,T,st2,f2,W,⟨m0,w0⟩,turn⟩:=h2;subst e;have stat:∀{H':Hp},(∀b∈fp,H' b=none)->∀b∈fp,lI X pins H' b:=λhn b hb=>⟨hn b hb,(f2 b hb).2⟩;refine codeAny_forLoop_any (λn s'=>∃i σ' H',Inv X pins σ' H' s'/\tn i s'.heap/\(∀b∈fp,H' b=none)/\W i n σ' H') ?_ m0 ⟨0,σ,H2,I2,st2,λb hb=>(f2 b hb).1,w0⟩;rintro n s3 ⟨i,σ3,H3,I3,st3,Qc,w3⟩
 rcases turn i n σ3 H3 w3 with ⟨stop,qn⟩|⟨go,N,hN,step⟩
 ·refine VE hp (bY (T.done X rfl rfl rfl hc i pins s3 σ3 H3 X.xe I3 (stat Qc) st3 stop) λr s4 aE=>?_);obtain⟨hr,I4⟩:=aE;subst hr;exact VD ⟨σ3,H3,I4,qn⟩
 ·refine VE hp (bY (T.item X rfl rfl rfl hc i pins s3 σ3 H3 X.xe I3 (stat Qc) st3 go) λr s4 aE=>?_)
  obtain⟨u,hr,h4⟩:=aE;subst hr;refine VE hp (bY h4 λ_ s5 aE=>?_);obtain⟨x,H5,I5,r5,y5,JR,Nm⟩:=aE;have QZ:=I5.pinned (stat Nm) (T.obj _ _ JR);refine VE hp (bY (hg _ s5 σ3 H5 x u _ QZ r5 (step x H5 y5)) λ_ s6 aE=>?_);obtain⟨σ6,H6,I6,q6⟩:=aE;refine VE hp (bY (hb _ s6 σ6 H6 _ I6 q6) λf s7 q7=>?_);have again:∀{σ7:St} {H7:Hp},Inv X (pins++mz fp s5.heap) σ7 H7 s7->N σ7 H7->∃m,m<n/\∃i σ' H',Inv X pins σ' H' s7/\tn i s7.heap/\(∀b∈fp,H' b=none)/\W i m σ' H':=λ{σ7 H7} I7 n7=>by
   obtain⟨m',hm,w7⟩:=hN σ7 H7 n7;refine⟨m',hm,i+1,σ7,H7,I7.jE,T.keep _ _ _ JR λb hb o e=>(I7.pin (b,o) (Uq _ (Uq _ (gD hb e)))).1,λb hb=>?_,w7⟩;obtain⟨o,e,d⟩:=T.obj _ _ JR b hb;exact(I7.pin (b,o) (Uq _ (Uq _ (gD hb e)))).2.1
  cases f with
  |next=>obtain⟨σ7,H7,I7,n7⟩:=q7;exact again I7 n7
  |cont=>obtain⟨σ7,H7,I7,n7⟩:=q7;exact again I7 n7
  |brk=>obtain⟨σ7,H7,I7,q7⟩:=q7;exact⟨σ7,H7,I7.jE,q7⟩
  |ret v=>obtain⟨x7,σ7,H7,I7,r7,q7⟩:=q7;exact⟨x7,σ7,H7,I7.jE,r7,q7⟩
end
abbrev R2:=V->V->Hp->VK->Prop
def kq(X:Cx)(f:Value->Value->Sem Value)(r:R2):Prop :=
 ∀(pins:List (Addr×Obj)) (s:Shared) (σ:St) (H:Hp) (x y:V) (v u:Value) (Q:VK),Inv X pins σ H s->RelV x v->RelV y u->r x y H Q ->
  wpAny (model X.prog X.w) X.A (f v u) (EP X pins σ Q) X.xe s
def Nn(X:Cx)(f:Value->Sem Value)(r:V->Hp->VK->Prop):Prop :=
 ∀(pins:List (Addr×Obj)) (s:Shared) (σ:St) (H:Hp) (x:V) (v:Value) (Q:VK),Inv X pins σ H s->RelV x v->r x H Q ->
  wpAny (model X.prog X.w) X.A (f v) (EP X pins σ Q) X.xe s
def bK(X:Cx)(f:Value)(r:List V->Hp->VK->Prop):Prop :=
 ∀(pins:List (Addr×Obj)) (s:Shared) (σ:St) (H:Hp) (xs:List V) (us:List Value) (Q:VK),Inv X pins σ H s->Vals xs us->r xs H Q ->
  wpAny (model X.prog X.w) X.A (call f us) (EP X pins σ Q) X.xe s
def N9(X:Cx)(r:V->Hp->(Bool->Hp->Prop)->Prop):Prop :=
 ∀(pins:List (Addr×Obj)) (s:Shared) (σ:St) (H:Hp) (x:V) (v:Value) (Q:Bool->Hp->Prop),Inv X pins σ H s->RelV x v->r x H Q ->
  wpAny (model X.prog X.w) X.A (truthy v) (TP X pins σ Q) X.xe s
def Np(r:R2)(ta tb:TE):TE:=λσ H Q=>ta σ H λx H1=>tb σ H1 λy H2=>r x y H2 Q
def Q0(r:V->Hp->VK->Prop)(ta:TE):TE:=λσ H Q=>ta σ H λx H1=>r x H1 Q
def rI(C:Int->Int->Prop)(g:Int->Int->V):R2:=λx y H Q=>∃i j,x=.int i/\y=.int j/\C i j/\Q (g i j) H
def Ec(g:Int->Int->V):R2:=λx y H Q=>∃i j,x=.int i/\y=.int j/\Q (g i j) H
def rU(g:Int->V):V->Hp->VK->Prop:=λx H Q=>∃i,x=.int i/\Q (g i) H
section
variable {X:Cx} {a b c:Expr} {ta tb tc:TE} {pos:Pos}
theorem FA(ha:PE X a ta)(hb:PE X b tb){pins:List (Addr×Obj)}{s:Shared}{σ:St}{H:Hp}{R:V->V->Hp->Prop}(I:Inv X pins σ H s)
  (h:ta σ H λx H1=>tb σ H1 λy H2=>R x y H2) {Q:Value->Shared->Prop} {f:Value->Value->Sem Value}
  (hf:∀v u s2 x y H2,Inv X pins σ H2 s2->RelV x v->RelV y u->R x y H2->wpAny (model X.prog X.w) X.A (f v u) Q X.xe s2) :
  wpAny (model X.prog X.w) X.A (eval a X.env) (λv s₁=>wpAny (model X.prog X.w) X.A (eval b X.env) (λu s₂=>wpAny (model X.prog X.w) X.A (f v u) Q X.xe s₂) X.xe s₁) X.xe s:=by
 refine bY (ha pins s σ H _ I h) λv s1 aE=>?_;obtain⟨x,H1,I1,r1,q1⟩:=aE;refine bY (hb pins s1 σ H1 _ I1 q1) λu s2 aE=>?_;obtain⟨y,H2,I2,r2,q2⟩:=aE;exact hf v u s2 x y H2 I2 r1 r2 q2
theorem Kw(ho:kq X (binaryOp op) r)(ha:PE X a ta)(hb:PE X b tb):PE X (.BinOp a op b pos) (Np r ta tb):=by
 intro pins s σ H Q I h;exact wpAny_BinOp (FA ha hb I h λv u s2 x y H2 I2 rx ry q=>ho pins s2 σ H2 x y v u Q I2 rx ry q)
theorem Ky(ho:Nn X (unaryOp op) r)(ha:PE X a ta):PE X (.UnaryOp op a pos) (Q0 r ta):=by
 intro pins s σ H Q I h;exact UnaryOp_ (bY (ha pins s σ H _ I h) λv s1 ⟨x,H1,I1,r1,q1⟩=>ho pins s1 σ H1 x v Q I1 r1 q1)
theorem Nq{f:Value->Value->Sem Value}{C:Int->Int->Prop}{g:Int->Int->Int}
  (rule:∀(i j:Int) (t u:Tok) (s:Shared) (Q:Value->Shared->Prop) (E:Value->Shared->Prop),C i j->Q (.int (g i j) s.toks) { s with toks:=s.toks+1 }->wpAny (model X.prog X.w) X.A (f (.int i t) (.int j u)) Q E s) :
  kq X f (rI C λi j=>.int (g i j)):=by
 intro pins s σ H x y v u Q I rx ry h;obtain⟨i,j,rfl,rfl,hc,q⟩:=h;obtain⟨t,rfl⟩:=rx;obtain⟨t',rfl⟩:=ry;exact rule i j t t' s _ _ hc ⟨.int (g i j),H,I.tok _,⟨_,rfl⟩,q⟩
theorem Kz{f:Value->Value->Sem Value}{g:Int->Int->Int}
  (rule:∀(i j:Int) (t u:Tok) (s:Shared) (Q:Value->Shared->Prop) (E:Value->Shared->Prop),Q (.int (g i j) s.toks) { s with toks:=s.toks+1 }->wpAny (model X.prog X.w) X.A (f (.int i t) (.int j u)) Q E s) :
  kq X f (Ec λi j=>.int (g i j)):=by
 intro pins s σ H x y v u Q I rx ry h;obtain⟨i,j,rfl,rfl,q⟩:=h;obtain⟨t,rfl⟩:=rx;obtain⟨t',rfl⟩:=ry;exact rule i j t t' s _ _ ⟨.int (g i j),H,I.tok _,⟨_,rfl⟩,q⟩
theorem BW{f:Value->Value->Sem Value}{g:Int->Int->Bool}
  (rule:∀(i j:Int) (t u:Tok) (s:Shared) (Q:Value->Shared->Prop) (E:Value->Shared->Prop),Q (.bool (g i j)) s->wpAny (model X.prog X.w) X.A (f (.int i t) (.int j u)) Q E s) :
  kq X f (Ec λi j=>.bl (g i j)):=by
 intro pins s σ H x y v u Q I rx ry h;obtain⟨i,j,rfl,rfl,q⟩:=h;obtain⟨t,rfl⟩:=rx;obtain⟨t',rfl⟩:=ry;exact rule i j t t' s _ _ ⟨.bl (g i j),H,I,rfl,q⟩
def Oa(i j:Int):Prop:=0<=j/\j<=1000000/\i.natAbs<2 ^ 64
def FD(i j:Int):Prop:=(-(2 ^ 64)<i/\i<2 ^ 64)\/(-(2 ^ 64)<j/\j<2 ^ 64)
theorem FD.ok{i j:Int}(h:FD i j):IntMulOk i j:=by
 rcases h with ⟨h1,h2⟩|⟨h1,h2⟩
 ·exact .of_left (intBits_le_64 h1 h2)
 ·exact .of_right (intBits_le_64 h1 h2)
theorem FF:kq X (binaryOp .Add) (Ec λi j=>.int (i+j)):=Kz λ_ _ _ _ _ _ _ q=>add_int q
theorem FG:kq X (binaryOp .Sub) (Ec λi j=>.int (i-j)):=Kz λ_ _ _ _ _ _ _ q=>sub_int q
theorem FH:kq X (binaryOp .Mult) (rI FD λi j=>.int (i*j)):=Nq λ_ _ _ _ _ _ _ hc q=>mul_int q hc.ok
theorem FJ:kq X (binaryOp .Mod) (rI (λ_ j=>0<j) λi j=>.int (i%j)):=Nq λi j _ _ _ _ _ hc q=>by
 have h1:(0:Int)<j:=hc;exact mod_int' (by omega) (by rw[Int.fmod_eq_emod_of_nonneg i (by omega)];exact q)
theorem FL:kq X (binaryOp .Pow) (rI Oa λi j=>.int (i ^ j.toNat)):=Nq λ_ _ _ _ _ _ _ hc q=>pow_int_small hc.1 hc.2.1 hc.2.2 q
theorem Q2{f:Value->Sem Value}{g:Int->Int}
  (rule:∀(i:Int) (t:Tok) (s:Shared) (Q:Value->Shared->Prop) (E:Value->Shared->Prop),Q (.int (g i) s.toks) { s with toks:=s.toks+1 }->wpAny (model X.prog X.w) X.A (f (.int i t)) Q E s) :
  Nn X f (rU λi=>.int (g i)):=by
 intro pins s σ H x v Q I rx h;obtain⟨i,rfl,q⟩:=h;obtain⟨t,rfl⟩:=rx;exact rule i t s _ _ ⟨.int (g i),H,I.tok _,⟨_,rfl⟩,q⟩
theorem yV:Nn X (unaryOp .USub) (rU λi=>.int (-i)):=Q2 λ_ _ _ _ _ q=>neg_int q
end
section
variable {X:Cx} {a b c:Expr} {ta tb tc:TE} {pos:Pos}
theorem pR{k k':Bool}(I:Inv X pins σ H s)(q:Q (.bl k) H)(e:k=k'):EP X pins σ Q (.bool k') s:=by
 subst e;exact⟨.bl k,H,I,rfl,q⟩
theorem KA:kq X (compareOp .Lt) (Ec λi j=>.bl (decide (i<j))):=BW λ_ _ _ _ _ _ _ q=>lt_int q
theorem KC:kq X (compareOp .LtE) (Ec λi j=>.bl (decide (i<=j))):=BW λ_ _ _ _ _ _ _ q=>le_int q
theorem KG:kq X (compareOp .Gt) (Ec λi j=>.bl (decide (j<i))):=BW λ_ _ _ _ _ _ _ q=>gt_int q
theorem KH:kq X (compareOp .GtE) (Ec λi j=>.bl (decide (j<=i))):=BW λ_ _ _ _ _ _ _ q=>ge_int q
theorem FN:kq X (compareOp .Is) (λx y H Q=>y=.non/\Q (.bl (decide (x=.non))) H):=by
 intro pins s σ H x y v u Q I rx ry h;obtain⟨rfl,q⟩:=h;cases ry;refine is_none_gen (pR I q ?_);cases x<;>first
  |(cases rx;rfl)
  |(obtain⟨t,rfl⟩:=rx;rfl)
theorem BX:kq X (compareOp .IsNot) (λx y H Q=>y=.non/\Q (.bl (!decide (x=.non))) H):=by
 intro pins s σ H x y v u Q I rx ry h;obtain⟨rfl,q⟩:=h;cases ry;refine isnot_none_gen (pR I q ?_);cases x<;>first
  |(cases rx;rfl)
  |(obtain⟨t,rfl⟩:=rx;rfl)
theorem BY(ho:kq X (compareOp op) r)(ha:PE X a ta)(hb:PE X b tb)(hm:behindInMarks op b=false):PE X (.Compare a [op] [b] pos) (Np r ta tb):=by
 intro pins s σ H Q I h;exact wpAny_Compare1 (FA ha hb I h λv u s2 x y H2 I2 rx ry q=>ho pins s2 σ H2 x y v u Q I2 rx ry q) hm
def KI(t:TE):TT:=λσ H Q=>t σ H λx H'=>∃k,x=.bl k/\Q k H'
theorem BZ(ho:kq X (compareOp op) r)(ha:PE X a ta)(hb:PE X b tb)(hm:behindInMarks op b=false):PT X (.Compare a [op] [b] pos) (KI (Np r ta tb)):=by
 intro pins s σ H Q I h;refine wpAny_isTrue_Compare1 (bY (ha pins s σ H _ I h) λv s1 ⟨x,H1,I1,r1,q1⟩=>bY (hb pins s1 σ H1 _ I1 q1) λu s2 ⟨y,H2,I2,r2,q2⟩=>
  bY (ho pins s2 σ H2 x y v u _ I2 r1 r2 q2) λc s3 ⟨z,H3,I3,r3,k,e,q3⟩=>?_) hm
 subst e;cases r3;exact Vg ⟨H3,I3,q3⟩
def FO(K:Frag)(x:V)(H:Hp)(k:Bool):Prop :=
 match x with
 |.non=>k=false
 |.bl b=>k=b
 |.int i=>k=(i != 0)
 |.str y=>y.length<=sizeLine/\k=((y.length:Int) != 0)
 |.byt y=>y.size<=sizeLine/\k=((y.size:Int) != 0)
 |.ref p=>(∃xs,fJ K H p xs/\k = !xs.isEmpty)\/(∃xs,gQ K H p xs/\k = !xs.isEmpty)\/∃kvs,H p=some (.dK kvs)/\k = !kvs.isEmpty
 |_=>False
theorem tZ{κ:Type}{kvs:List (κ × V)}{vs:List (κ × Value)}(r:KV kvs vs):(!vs.isEmpty) = !kvs.isEmpty:=by
 cases r<;>rfl
theorem mC(r:Vals xs its):(!its.toArray.isEmpty) = !xs.isEmpty:=by
 cases r<;>simp
theorem kD:(sizeLine:Nat)<2 ^ 63:=by rw[UI];decide
theorem FP:N9 X (λx H Q=>∃k,FO X.K x H k/\Q k H):=by
 intro pins s σ H x v Q I rx h;obtain⟨k,e,q⟩:=h;have hl:=kD;have hs:sizeLine=16777216:=UI;cases x with
 |non=>cases rx;have e':k=false:=e;subst e';exact truthy_none ⟨H,I,q⟩
 |bl b=>cases rx;have e':k=b:=e;subst e';exact Vg ⟨H,I,q⟩
 |int i=>obtain⟨t,rfl⟩:=rx;have e':k=(i != 0):=e;subst e';exact PySem.P.truthy_int ⟨H,I,q⟩
 |str y=>obtain⟨t,rfl⟩:=rx;obtain⟨hy,e'⟩:y.length<=sizeLine/\k=((y.length:Int) != 0):=e;subst e';exact PySem.P.truthy_str (by omega) ⟨H,I.tok _,q⟩
 |byt y=>obtain⟨t,rfl⟩:=rx;obtain⟨hy,e'⟩:y.size<=sizeLine/\k=((y.size:Int) != 0):=e;subst e';exact PySem.W.truthy_bytes (by omega) ⟨H,I.tok _,q⟩
 |ref p=>
  cases rx;have e':(∃xs,fJ X.K H p xs/\k = !xs.isEmpty)\/(∃xs,gQ X.K H p xs/\k = !xs.isEmpty)\/∃kvs,H p=some (.dK kvs)/\k = !kvs.isEmpty:=e
  rcases e' with ⟨xs,hx,e'⟩|⟨xs,hx,e'⟩|⟨kvs,hx,e'⟩
  ·subst e';obtain⟨its,r,pl,hz⟩:=I.list hx;have hlen:=r.length;exact wpAny_truthy_list pl.isList (by simp only[size_toArray];omega) ⟨H,I.tok _,by rw[mC r];exact q⟩
  ·subst e';obtain⟨its,r,pl,hz⟩:=I.tuple hx;have hlen:=r.length;exact truthy_tuple pl (by simp only[size_toArray];omega) ⟨H,I.tok _,by rw[mC r];exact q⟩
  ·subst e';obtain⟨hz,hS,vs,r,m⟩:kvs.length<=sizeLine/\(p==sysModules)=false/\∃vs,KV kvs vs/\s.heap.DictOf (aP X.prog X.w) p vs:=I.hok p _ hx;have hlen:kvs.length=vs.length:=Wl r;exact wpAny_truthy_dict hS m (by omega) ⟨H,I.tok _,by rw[tZ r];exact q⟩
 |_=>exact(show False from e).elim
theorem yW(ha:PE X a ta)(he:∀whole,isTrue a X.env whole=(do let v <-whole;standAt a.pos;holding [v] (truthy v))) :
  PT X a (λσ H Q=>ta σ H λx H'=>∃k,FO X.K x H' k/\Q k H'):=by
 intro pins s σ H Q I h;exact isTrue_plain (bY (ha pins s σ H _ I h) λv s1 ⟨x,H1,I1,r1,q1⟩=>FP pins s1 σ H1 x v Q I1 r1 q1) (he _)
theorem t6:kq X (binaryOp .Add) (λx y H Q=>∃i j,x=.str i/\y=.str j/\i.length+j.length<=sizeLine/\Q (.str (i++j)) H):=by
 intro pins s σ H x y v u Q I rx ry h;obtain⟨i,j,rfl,rfl,hz,q⟩:=h;obtain⟨t,rfl⟩:=rx;obtain⟨t',rfl⟩:=ry;exact add_str (λt' tk=>⟨.str (i++j),H,I.tok _,⟨_,rfl⟩,q⟩) hz
theorem vals1(r:Vals [x] us):∃u,us=[u]/\RelV x u:=by
 cases r with
 |cons r1 r2=>cases r2;exact⟨_,rfl,r1⟩
theorem vals2(r:Vals [x,y] us):∃u w',us=[u,w']/\RelV x u/\RelV y w':=by
 cases r with
 |cons r1 r2=>
  cases r2 with
  |cons r3 r4=>cases r4;exact⟨_,_,rfl,r1,r3⟩
theorem xu(hc:X.calm=true):bK X (.builtin "max") (λxs H Q=>∃i j,xs=[.int i,.int j]/\Q (.int (if j>i then j else i)) H):=by
 intro pins s σ H xs us Q I r h;obtain⟨i,j,rfl,q⟩:=h;obtain⟨u,w',rfl,⟨t,rfl⟩,⟨t',rfl⟩⟩:=vals2 r;refine max_two_ints (I.ok.hd hc) λh' tk k=>⟨_,H,I.kept k,?_,q⟩
 by_cases hj:j>i
 ·rw[T4 hj,T4 hj];exact⟨_,rfl⟩
 ·rw[TX hj,TX hj];exact⟨_,rfl⟩
theorem xw(hc:X.calm=true):bK X (.builtin "min") (λxs H Q=>∃i j,xs=[.int i,.int j]/\Q (.int (if j<i then j else i)) H):=by
 intro pins s σ H xs us Q I r h;obtain⟨i,j,rfl,q⟩:=h;obtain⟨u,w',rfl,⟨t,rfl⟩,⟨t',rfl⟩⟩:=vals2 r;refine min_two_ints (I.ok.hd hc) λh' tk k=>⟨_,H,I.kept k,?_,q⟩
 by_cases hj:j<i
 ·rw[T4 hj,T4 hj];exact⟨_,rfl⟩
 ·rw[TX hj,TX hj];exact⟨_,rfl⟩
theorem oE:bK X (.type "int") (λxs H Q=>(∃i,xs=[.int i]/\Q (.int i) H)\/∃k,xs=[.bl k]/\Q (.int (if k then 1 else 0)) H):=by
 intro pins s σ H xs us Q I r h
 rcases h with ⟨i,rfl,q⟩|⟨k,rfl,q⟩
 ·obtain⟨u,rfl,t,rfl⟩:=vals1 r;exact call_int_int ⟨.int i,H,I,⟨_,rfl⟩,q⟩
 ·obtain⟨u,rfl,r1⟩:=vals1 r;cases r1;exact call_int_bool ⟨.int (if k then 1 else 0),H,I.tok _,⟨_,rfl⟩,q⟩
def Oc(K:Frag)(x:V)(H:Hp)(n:Nat):Prop :=
 match x with
 |.str y=>y.length<=sizeLine/\n=y.length
 |.byt y=>y.size<=sizeLine/\n=y.size
 |.ref p=>(∃xs,fJ K H p xs/\n=xs.length)\/∃xs,gQ K H p xs/\n=xs.length
 |_=>False
theorem jF:bK X (.builtin "len") (λxs H Q=>∃x n,xs=[x]/\Oc X.K x H n/\Q (.int n) H):=by
 intro pins s σ H xs us Q I r h;obtain⟨x,n,rfl,e,q⟩:=h;obtain⟨u,rfl,rx⟩:=vals1 r;have hl:=kD;have hs:sizeLine=16777216:=UI;cases x with
 |str y=>obtain⟨t,rfl⟩:=rx;obtain⟨hy,e'⟩:y.length<=sizeLine/\n=y.length:=e;subst e';exact len_str (by omega) ⟨.int _,H,I.tok _,⟨_,rfl⟩,q⟩
 |byt y=>obtain⟨t,rfl⟩:=rx;obtain⟨hy,e'⟩:y.size<=sizeLine/\n=y.size:=e;subst e';exact PySem.W.len_bytes (by omega) ⟨.int _,H,I.tok _,⟨_,rfl⟩,q⟩
 |ref p=>
  cases rx;have e':(∃xs,fJ X.K H p xs/\n=xs.length)\/∃xs,gQ X.K H p xs/\n=xs.length:=e
  rcases e' with ⟨xs,hx,e'⟩|⟨xs,hx,e'⟩
  ·subst e';obtain⟨its,r',pl,hz⟩:=I.list hx;have hlen:=r'.length;exact Calls.call_len_list pl.isList (by simp only[size_toArray];omega) ⟨.int xs.length,H,I.tok _,⟨_,by simp only[size_toArray];rw[hlen]⟩,q⟩
  ·subst e';obtain⟨its,r',pl,hz⟩:=I.tuple hx;have hlen:=r'.length;exact len_tuple pl (by simp only[size_toArray];omega) ⟨.int xs.length,H,I.tok _,⟨_,by simp only[size_toArray];rw[hlen]⟩,q⟩
 |_=>exact(show False from e).elim
end
theorem xx{h:Heap}{dx:Addr}{mA:Str->Option Value}(n:h.Ns1 dx mA):∃od,h.get? dx=some od/\∀name,lookIn name od=some (mA name):=by
 obtain⟨o,es,ep,ho,hd,hk,_,hm⟩:=n;refine⟨o,ho,λname=>?_⟩;have e:=hm name;unfold nsFind findBy at e;rw[<-Array.find?_toList]at e;unfold lookIn;rw[hd];dsimp only
 split
 ·rename_i y q;rw[q]at e;exact UM some e
 ·rename_i q
  rw[q]at e;have a:es.toList.any (·.refKey)=false:=by rw[List.any_eq_false];intro y hy;obtain⟨z,t,hkey⟩:=hk y (Array.mem_toList_iff.mp hy);simp[DictEntry.refKey,hkey]
  have a':¬ es.toList.any (·.refKey)=true:=by rw[a];exact TH
  rw[TX a'];exact UM some e
section
variable {prog:Program} {w:World} {A:Around} {E:Value->Shared->Prop} {s:Shared} {K:Frag} {x dx C f:Addr} {mA:Str->Option Value} {name:Str} {v:Value}
theorem yX(X:K.In s.heap)(hm:makesIn K C=true)
  (hi:findIn K (.ref C) "__init__" = some (some (.ref f))) (hf:typeIn K (.ref f)=some (.type "function"))
  (h:codeAny (model prog w) (A.under (.builtin "type.__call__" ⟨.ref C::vs,kw⟩)) (.call (.ref f) ⟨.ref (s.heap.objs.size+1)::vs,kw⟩) (PySem.W.InitBack (s.heap.objs.size+1) R)
   { s with heap:=(s.heap.push emptyDict).push (instObj C s.heap.objs.size) }) :
  codeAny (model prog w) A (.call (.ref C) ⟨vs,kw⟩) R s:=by
 obtain⟨hh,g,d,t,os⟩:=s;exact PySem.W.make_core (PySem.W.makes_of X hm) (Vh X hi) (λself=>bind_fn X self hf) (.inl rfl) h
end
theorem lG.some_of(r:lG (some v) o):∃u,o=some u/\RelV v u:=by
 cases o with
 |none=>exact(show False from r).elim
 |some u=>exact⟨u,rfl,r⟩
theorem xy(r:RelV v u):handedIn u=true:=by
 cases v with
 |non=>cases (show u=Value.none from r);rfl
 |bl b=>cases (show u=Value.bool b from r);rfl
 |int i=>obtain⟨t,e⟩:=(show ∃t,u=Value.int i t from r);cases e;rfl
 |str x=>obtain⟨t,e⟩:=(show ∃t,u=Value.str x t from r);cases e;rfl
 |byt b=>obtain⟨t,e⟩:=(show ∃t,u=Value.bytes b t from r);cases e;rfl
 |flt b=>obtain⟨t,e⟩:=(show ∃t,u=Value.float b t from r);cases e;rfl
 |ref a=>cases (show u=Value.ref a from r);rfl
 |ty n=>cases (show u=Value.type n from r);rfl
structure Qd (K:Frag) (C:Addr):Prop where
 pg:PySem.W.plainGet K C Str.empty=true
 hd:hasDictIn K C=true
 po:PySem.W.plainOver K C=true
 sa:findIn K (.ref C) "__setattr__" = some (some (.builtin "object.__setattr__"))
def yY(K:Frag)(C:Addr)(f:Str):Prop:=findIn K (.ref C) f=some none
structure Meth (K:Frag) (C:Addr) (m:Str) (f:Addr):Prop where
 at_:findIn K (.ref C) m=some (some (.ref f))
 fn:isFn K (.ref f)=true
 kp:keepIn K (.ref f)=true
section
variable {X:Cx} {pins:List (Addr×Obj)} {σ:St} {H:Hp} {s:Shared} {a C dx:Addr} {fs:List (Str×V)} {f:Str} {v:V} {A:Around} {E:Value->Shared->Prop}
theorem Inv.made(I:Inv X pins σ H s):Inv X pins σ (upd (upd H s.heap.objs.size (.own (s.heap.objs.size+1))) (s.heap.objs.size+1) (.ins C s.heap.objs.size []))
  { s with heap:=(s.heap.push emptyDict).push (instObj C s.heap.objs.size) }:=by
 have e1:(s.heap.push emptyDict).get? s.heap.objs.size=some emptyDict:=T7 s.heap rfl;have e2:((s.heap.push emptyDict).push (instObj C s.heap.objs.size)).get? (s.heap.objs.size+1)=some (instObj C s.heap.objs.size):=by have:=T7 (s.heap.push emptyDict) (o:=instObj C s.heap.objs.size) rfl;rwa [UN]at this
 have e3:(s.heap.push emptyDict).Ns s.heap.objs.size (λ_=>none):=⟨emptyDict,#[],_,e1,rfl,(λe he=>absurd he (by simp)),λ_=>rfl⟩;have I1:=I.laid (a:=s.heap.objs.size) (o:=.own (s.heap.objs.size+1)) (h':=s.heap.push emptyDict) (t':=s.toks) (λb u q=>TF _ q) (TV _) ⟨_,e1⟩;refine I1.laid (a:=s.heap.objs.size+1) (o:=.ins C s.heap.objs.size []) (t':=s.toks) (λb u q=>TF _ q) (Nat.le_of_eq (UN _ _)) ?_;have ne:s.heap.objs.size≠s.heap.objs.size+1:=T9 (Uz _);refine⟨by rw[aj ne,av],U8 _,ne,e2,λ_=>none,(Heap.Ns1.of_empty e3).at λo q=>TF _ q,λ_=>UB,λy hy=>absurd rfl hy⟩
theorem attr_of(hb:attributeBase e f env (eval e env)=eval e env)
  (h:wpAny (model prog w) A (eval e env) (λo s₁=>wpAny (model prog w) A (getAttr o f true) Q E s₁) E s):wpAny (model prog w) A (eval (.Attribute e f pos) env) Q E s :=
 Attribute_any_ h (by rw[arm_eval_Attribute,hb])
end
structure cD (k:Nat) (A:Around):Prop where
 hd:A.handled=none
 dp:A.depth+3*k+5<recursionLimit
 un:A.units+16*k+200<cLine
theorem cD.mono{j k:Nat}(r:cD k A)(h:j<=k):cD j A:=⟨r.hd,by have:=r.dp;omega,by have:=r.un;omega⟩
theorem cD.deeper{k:Nat}(r:cD (k+1) A)(env:Env):cD k (A.deeper env) :=
 ⟨r.hd,by have:=r.dp;show A.depth+1+3*k+5<_;omega,by have:=r.un;show A.units+3+16*k+200<_;omega⟩
theorem t7{A:Around}{C:Addr}{us:List Value}{kw:List (Str×Value)}:(A.under (.builtin "type.__call__" ⟨.ref C::us,kw⟩)).depth=A.depth+1:=by
 first|rfl|simp[Around.under,Code.weight,Code.isCreation,Code.isGuard,Code.isCaller,Code.frames,Code.isFrame,guardIds]
theorem t8{A:Around}{C:Addr}{us:List Value}{kw:List (Str×Value)}:(A.under (.builtin "type.__call__" ⟨.ref C::us,kw⟩)).units=A.units+1:=by
 first|rfl|simp[Around.under,Code.cUnits,Code.frames,Code.isFrame]
theorem cD.make{k:Nat}(r:cD (k+1) A)(C:Addr)(us:List Value)(kw:List (Str×Value)):cD k (A.under (.builtin "type.__call__" ⟨.ref C::us,kw⟩)) :=
 ⟨r.hd,by have:=r.dp;rw[t7];omega,by have:=r.un;rw[t8];omega⟩
theorem cD.depth{k:Nat}(r:cD k A):A.depth<recursionLimit:=by have:=r.dp;omega
theorem cD.units{k:Nat}(r:cD k A):A.units+64<cLine:=by have:=r.un;omega
def FQ:TA:=λ_ H Q=>Q [] H
def KJ(ta:TE)(tr:TA):TA:=λσ H Q=>ta σ H λx H1=>tr σ H1 λxs H2=>Q (x::xs) H2
section
variable {X:Cx} {e:Expr} {es:List Expr} {te:TE} {t:TA} {pos:Pos}
theorem gZ:PA X [] FQ:=λ_ _ _ _ H Q I h=>Vu ⟨[],H,I,.nil,h⟩
theorem bL(ha:PE X e te)(hr:PA X es t)(hs:starEach (e::es) X.env=(false,eval e X.env)::starEach es X.env:=by rfl):PA X (e::es) (KJ te t):=by
 intro pos pins s σ H Q I h;rw[hs];show wpAny _ _ (spliced ((false,eval e X.env)::backTo pos (starEach es X.env))) _ _ s;refine Vp (bY (ha pins s σ H _ I h) λu s1 aE=>?_);obtain⟨x,H1,I1,r1,q1⟩:=aE;exact bY (hr pos pins s1 σ H1 _ I1 q1) λus s2 ⟨xs,H2,I2,r2,q2⟩=>⟨x::xs,H2,I2,.cons r1 r2,q2⟩
def Od(t:TA):TE:=λσ H Q=>t σ H λxs H1=>xs.length<=sizeLine/\∀p,H1 p=none->Q (.ref p) (upd H1 p (.tup xs))
def Oe(t:TA):TE:=λσ H Q=>t σ H λxs H1=>xs.length<=sizeLine/\∀p,H1 p=none->Q (.ref p) (upd H1 p (.lst xs))
theorem yZ{x1}(h:PA X es t):PE X (.Tuple es x1 pos) (Od t):=by
 intro pins s σ H Q I hq;refine wpAny_Tuple_spliced (bY (h pos pins s σ H _ I hq) λus s1 ⟨xs,H1,I1,r,z,q⟩=>⟨by rw[<-r.length];exact z,?_⟩);have hf:H1 s1.heap.objs.size=none:=I1.hok.fresh (TV _);refine⟨.ref s1.heap.objs.size,upd H1 s1.heap.objs.size (.tup xs),I1.laid (t':=s1.toks) (λb u e=>TF _ e) (TV _) ?_,rfl,q _ hf⟩;exact⟨z,us,r,⟨_,T7 _ rfl,rfl,_,rfl⟩⟩
theorem FT(h:PA X es t):PE X (.List es pos) (Oe t):=by
 intro pins s σ H Q I hq;refine wpAny_List_spliced (bY (h pos pins s σ H _ I hq) λus s1 ⟨xs,H1,I1,r,z,q⟩=>⟨by rw[<-r.length];exact z,?_⟩);have hf:H1 s1.heap.objs.size=none:=I1.hok.fresh (TV _);refine⟨.ref s1.heap.objs.size,upd H1 s1.heap.objs.size (.lst xs),I1.laid (t':=s1.toks) (λb u e=>TF _ e) (TV _) ?_,rfl,q _ hf⟩;exact⟨z,us,0,r,T7 _ rfl⟩
end
abbrev Sp:=List V->Hp->VK->XK->Prop
abbrev t9:=List Env->Hp->Shared->XK->Value->Shared->Prop
structure ua (P:Program) (w:World) (K:Frag) (mg:Str->Option Value) (base:Heap) (A:Around) (outer:List Env) (s:Shared) (H:Hp):Prop where
 frames:A.frames=some outer
 mod:Mod K mg base
 bs:∀b o,base.get? b=some o->s.heap.get? b=some o/\H b=none
 BL:base.objs.size<=s.heap.objs.size
 kr:s.heap.FunFrames base outer
 D9:∀b∈frs outer,H b=none
 hok:gP P w H s.heap
 bare:AllBare s.gens
def CE(outer:List Env)(P:Program)(w:World)(H:Hp)(s:Shared)(Q:VK)(u:Value)(s':Shared):Prop :=
 ∃v H',s'.os=s.os/\AllBare s'.gens/\Un (frs outer) [] H H' s.heap s'.heap/\gP P w H' s'.heap/\RelV v u/\Q v H'
def CR(CX:t9)(outer:List Env)(P:Program)(w:World)(H:Hp)(s:Shared)(Q:VK)(E:XK)(r:Result)(s':Shared):Prop :=
 match r with
 |.ok (.ret u)=>CE outer P w H s Q u s'
 |.ok _=>False
 |.error e=>CX outer H s E e s'
structure cE (P:Program) (w:World) (K:Frag) (mg:Str->Option Value) (base:Heap) (CX:t9) (k:Nat) (f:Addr) (fd:FuncData) (ps:List Str) (sp:Sp):Prop where
 len:∀vs H Q E,sp vs H Q E->vs.length=ps.length
 run:∀(A:Around) (outer:List Env) (s:Shared) (H:Hp) (args:Args) (us:List Value) (vs:List V) (Q:VK) (E:XK),cD k A->ua P w K mg base A outer s H->BindsTo s fd args (ps.zip us)->Vals vs us->sp vs H Q E ->
  codeAny (model P w) A (.call (.ref f) args) (CR CX outer P w H s Q E) s
theorem cE.mono{P:Program}{w:World}{K:Frag}{mg:Str->Option Value}{base:Heap}{CX:t9}{j k:Nat}{f:Addr}{fd:FuncData}{ps:List Str}{sp:Sp}(F:cE P w K mg base CX j f fd ps sp)(h:j<=k) :
  cE P w K mg base CX k f fd ps sp:=⟨F.len,λA outer s H args us vs Q E hr=>F.run A outer s H args us vs Q E (hr.mono h)⟩
theorem cE.imp{P:Program}{w:World}{K:Frag}{mg:Str->Option Value}{base:Heap}{CX:t9}{k:Nat}{f:Addr}{fd:FuncData}{ps:List Str}{sp Qe:Sp}(F:cE P w K mg base CX k f fd ps sp)
  (h:∀vs H Q E,Qe vs H Q E->sp vs H Q E):cE P w K mg base CX k f fd ps Qe :=
 ⟨λvs H Q E q=>F.len vs H Q E (h _ _ _ _ q),λA outer s H args us vs Q E hr he hb hv hs=>F.run A outer s H args us vs Q E hr he hb hv (h _ _ _ _ hs)⟩
theorem ua.make{P:Program}{w:World}{K:Frag}{mg:Str->Option Value}{base:Heap}{A:Around}{outer:List Env}{s:Shared}{H:Hp}(e:ua P w K mg base A outer s H)(C:Addr)(us:List Value)(kw:List (Str×Value)) :
  ua P w K mg base (A.under (.builtin "type.__call__" ⟨.ref C::us,kw⟩)) outer s H:=⟨by first|exact e.frames|(simpa [Around.under,Code.envs,Code.isFrame,pushEnvs] using e.frames),e.mod,e.bs,e.BL,e.kr,e.D9,e.hok,e.bare⟩
section
variable {X:Cx} {pins:List (Addr×Obj)} {σ:St} {H:Hp} {s s':Shared}
theorem Inv.jl(I:Inv X pins σ H s):ua X.prog X.w X.K X.mg X.base X.A X.stack s H :=
 ⟨I.ok.frames,I.ok.mod,I.bs,Ut I.ok.BL I.sz,I.stack,I.lU,I.hok,I.bare⟩
theorem Inv.after(I:Inv X pins σ H s)(h:CE X.stack X.prog X.w H s Q u s'):EP X pins σ Q u s':=by
 obtain⟨v,H',os,bare,un,hok,r,q⟩:=h;obtain⟨hh,g,d,t,os'⟩:=s';obtain rfl:os'=s.os:=os;exact⟨v,H',I.call (h':=hh) (g':=g) (d':=d) (t':=t) (ch:=[]) un hok bare (λb z=>absurd z (by simp)),r,q⟩
end
def Ed(sp:Sp)(pS:List V)(E:XK)(t:TA):TE:=λσ H Q=>t σ H λvs H1=>sp (vs++pS) H1 Q E
def Ef(C:Addr)(sp:Sp)(pS:List V)(E:XK)(t:TA):TE:=λσ H Q=>t σ H λvs H1=>∀x dx,H1 x=none->H1 dx=none->dx≠x ->
 sp (.ref x::(vs++pS)) (upd (upd H1 dx (.own x)) x (.ins C dx [])) (λv H2=>v=.non/\Q (.ref x) H2) E
def Binds(K:Frag)(fd:FuncData)(ps:List Str)(ds:List Value):Prop :=
 ∀(s:Shared) (us:List Value),K.In s.heap->(us++ds).length=ps.length->BindsTo s fd ⟨us,[]⟩ (ps.zip (us++ds))
theorem Binds.all{K:Frag}{fd:FuncData}{ps:List Str}(h:∀us:List Value,us.length=ps.length->bindArgs fd ⟨us,[]⟩=pure (ps.zip us)):Binds K fd ps []:=λs us _ hl=>by
 rw[US]at hl |-;exact .of_eq (h us hl)
def Passes(CX:t9)(X:Cx)(E:XK):Prop:=∀(pins:List (Addr×Obj)) (σ:St) (H:Hp) (s:Shared) (e:Value) (s':Shared),Inv X pins σ H s->CX X.stack H s E e s'->X.xe e s'
section
variable {X:Cx} {CX:t9} {k:Nat} {f C:Addr} {fd:FuncData} {ps:List Str} {sp:Sp} {pS:List V} {ds:List Value} {E:XK} {x m:Str} {p pos apos:Pos} {e o:Expr} {es:List Expr} {ta:TE} {t:TA}
theorem y9(F:cE X.prog X.w X.K X.mg X.base CX k f fd ps sp)(hr:cD k X.A)(hb:Binds X.K fd ps ds)(hd:Vals pS ds)(hx:Passes CX X E)
  (I:Inv X pins σ H s) (r:Vals vs us) (h:sp (vs++pS) H Q E):wpAny (model X.prog X.w) X.A (call (.ref f) us) (EP X pins σ Q) X.xe s:=by
 have r2:Vals (vs++pS) (us++ds):=r.append hd;have hl:(us++ds).length=ps.length:=by rw[<-r2.length];exact F.len _ _ _ _ h
 refine VJ (Vq (F.run X.A X.stack s H ⟨us,[]⟩ (us++ds) (vs++pS) Q E hr I.jl (hb s us I.iZ hl) r2 h) λr s' hq=>?_);cases r with
 |error e=>exact hx pins σ H s e s' I hq
 |ok fl=>
  cases fl with
  |ret u=>exact I.after hq
  |next=>exact False.elim hq
  |brk=>exact False.elim hq
  |cont=>exact False.elim hq
theorem B0(F:cE X.prog X.w X.K X.mg X.base CX k f fd ps sp)(hr:cD k X.A)(hg:Gl X x)(hm:X.mg x=some (.ref f))(hk:keepIn X.K (.ref f)=true)(hb:Binds X.K fd ps ds)(hd:Vals pS ds)(hx:Passes CX X E)
  (ha:PA X (e::es) t) (hdb:(x==("__debug__":Str))=false) (he:starEach (e::es) X.env=(false,eval e X.env)::starEach es X.env) (hpl:(backTo pos (starEach es X.env)).any (·.1)=false) :
  PE X (.Call (.Name x p) (e::es) [] pos) (Ed sp pS E t):=by
 intro pins s σ H Q I h;refine Uv (fH I hg hm ?_ hdb);refine VL (h₀:=X.base) I.ok.mod.JM hk (bY (ha pos pins s σ H _ I h) λus s1 ⟨vs,H1,I1,r,q⟩=>⟨I1.iZ,?_⟩) he hpl;exact y9 F hr hb hd hx I1 r q
theorem za(F:cE X.prog X.w X.K X.mg X.base CX k f fd ps sp)(hr:cD k X.A)(hg:Gl X x)(hm:X.mg x=some (.ref f))(hk:keepIn X.K (.ref f)=true)(hb:Binds X.K fd ps ds)(hd:Vals pS ds)(hx:Passes CX X E)
  (hdb:(x==("__debug__":Str))=false):PE X (.Call (.Name x p) [] [] pos) (Ed sp pS E FQ):=by
 intro pins s σ H Q I h;refine Uv (fH I hg hm ?_ hdb);exact callWith_K0 I.iZ hk (y9 (us:=[]) F hr hb hd hx I .nil h)
structure Mk (K:Frag) (C f:Addr):Prop where
 makes:makesIn K C=true
 init:findIn K (.ref C) "__init__" = some (some (.ref f))
 fn:isFn K (.ref f)=true
 kp:keepIn K (.ref C)=true
theorem qR(M:Mk X.K C f)(F:cE X.prog X.w X.K X.mg X.base CX k f fd ps sp)(hr:cD (k+1) X.A)(hb:Binds X.K fd ps ds)(hd:Vals pS ds)
  (hx:Passes CX X E) (I:Inv X pins σ H s) (r:Vals vs us)
  (h:∀x dx,H x=none->H dx=none->dx≠x->sp (.ref x::(vs++pS)) (upd (upd H dx (.own x)) x (.ins C dx [])) (λv H2=>v=.non/\Q (.ref x) H2) E) :
  wpAny (model X.prog X.w) X.A (call (.ref C) us) (EP X pins σ Q) X.xe s:=by
 have hq:=h (s.heap.objs.size+1) s.heap.objs.size (I.hok.fresh (UJ _)) (I.hok.fresh (TV _)) (T9 (Uz _));have I2:=Inv.made (C:=C) I;have r2:Vals (V.ref (s.heap.objs.size+1)::(vs++pS)) (Value.ref (s.heap.objs.size+1)::(us++ds)):=.cons rfl (r.append hd);have hl:(Value.ref (s.heap.objs.size+1)::us++ds).length=ps.length:=by have e:=r2.length;rw[F.len _ _ _ _ hq]at e;exact e.symm
 refine VJ (yX (f:=f) I.iZ M.makes M.init (WA.mp M.fn) (Vq (F.run _ X.stack _ _ ⟨Value.ref (s.heap.objs.size+1)::us,[]⟩ (Value.ref (s.heap.objs.size+1)::(us++ds)) _ _ E (hr.make C us [])
  (I2.jl.make C us []) (hb _ (Value.ref (s.heap.objs.size+1)::us) I2.iZ hl) r2 hq) λr s' hq'=>?_))
 cases r with
 |error e=>exact hx pins σ _ _ e s' I2 hq'
 |ok fl=>
  cases fl with
  |ret u=>obtain⟨v,H',I3,rv,ev,q3⟩:=I2.after hq';subst ev;exact⟨rv,⟨V.ref (s.heap.objs.size+1),H',I3,rfl,q3⟩⟩
  |next=>exact False.elim hq'
  |brk=>exact False.elim hq'
  |cont=>exact False.elim hq'
theorem B3(M:Mk X.K C f)(F:cE X.prog X.w X.K X.mg X.base CX k f fd ps sp)(hr:cD (k+1) X.A)(hg:Gl X x)(hm:X.mg x=some (.ref C))(hb:Binds X.K fd ps ds)(hd:Vals pS ds)(hx:Passes CX X E)
  (ha:PA X (e::es) t) (hdb:(x==("__debug__":Str))=false) (he:starEach (e::es) X.env=(false,eval e X.env)::starEach es X.env) (hpl:(backTo pos (starEach es X.env)).any (·.1)=false) :
  PE X (.Call (.Name x p) (e::es) [] pos) (Ef C sp pS E t):=by
 intro pins s σ H Q I h;refine Uv (fH I hg hm ?_ hdb);refine VL (h₀:=X.base) I.ok.mod.JM M.kp (bY (ha pos pins s σ H _ I h) λus s1 ⟨vs,H1,I1,r,q⟩=>⟨I1.iZ,?_⟩) he hpl;exact qR M F hr hb hd hx I1 r q
theorem zb(M:Mk X.K C f)(F:cE X.prog X.w X.K X.mg X.base CX k f fd ps sp)(hr:cD (k+1) X.A)(hg:Gl X x)(hm:X.mg x=some (.ref C))(hb:Binds X.K fd ps ds)(hd:Vals pS ds)(hx:Passes CX X E)
  (hdb:(x==("__debug__":Str))=false):PE X (.Call (.Name x p) [] [] pos) (Ef C sp pS E FQ):=by
 intro pins s σ H Q I h;refine Uv (fH I hg hm ?_ hdb);exact callWith_K0 I.iZ M.kp (qR (us:=[]) M F hr hb hd hx I .nil h)
end
structure jG (N P:List Str) (sc:Scope):Prop where
 kind:sc.kind=.function
 co:sc.isCoroutine=false
 gen:sc.isGenerator=false
 nd:N.Nodup
 pre:N.take P.length=P
 par:∀x∈P,sc.names.lookup x=some .local\/sc.names.lookup x=some .cell
 FU:∀y∈sc.names,y.2≠.free
theorem oF{kindOf:Str->Option NameKind}{x:Str}:∀{binds:List (Str×Value)} {m:Str->Option Value},(∀v,(x,v)∉binds)->bindL kindOf binds m x=m x
 |[],_,_=>rfl
 | (n,v)::r,m,h=>by
  unfold bindL;rw[oF λw hw=>h w (TM _ hw)]
  split
  ·have:x≠n:=by rintro rfl;exact h v TU
   simp[this]
  ·rfl
theorem oG{kindOf:Str->Option NameKind}{x:Str}:∀{binds:List (Str×Value)} {m:Str->Option Value},(∀v,(x,v)∉binds)->bindC kindOf binds m x=m x
 |[],_,_=>rfl
 | (n,v)::r,m,h=>by
  unfold bindC;rw[oG λw hw=>h w (TM _ hw)]
  split
  ·rfl
  ·have:x≠n:=by rintro rfl;exact h v TU
   simp[this]
theorem oH{kindOf:Str->Option NameKind}{x:Str}{v:Value}:∀{P:List Str} {vs:List Value} {i:Nat} {m:Str->Option Value},P.Nodup->P[i]?=some x->vs[i]?=some v->kindOf x=some .local ->
  bindL kindOf (P.zip vs) m x=some v
 |[],_,_,_,_,h,_,_=>by simp at h
 |_::_,[],_,_,_,_,h,_=>by simp at h
 | p::P,w::vs,0,m,nd,h1,h2,hk=>by
  simp at h1 h2;subst h1;subst h2;show bindL kindOf ((p,w)::P.zip vs) m p=_;unfold bindL;rw[oF λv hv=>(UD.mp nd).1 (Wu hv).1,T4 hk];simp
 | p::P,w::vs,i+1,m,nd,h1,h2,hk=>by
  show bindL kindOf ((p,w)::P.zip vs) m x=_;unfold bindL;exact oH (i:=i) (UD.mp nd).2 (by simpa using h1) (by simpa using h2) hk
theorem oJ{kindOf:Str->Option NameKind}{x:Str}{v:Value}:∀{P:List Str} {vs:List Value} {i:Nat} {m:Str->Option Value},P.Nodup->P[i]?=some x->vs[i]?=some v->kindOf x≠some .local ->
  bindC kindOf (P.zip vs) m x=some v
 |[],_,_,_,_,h,_,_=>by simp at h
 |_::_,[],_,_,_,_,h,_=>by simp at h
 | p::P,w::vs,0,m,nd,h1,h2,hk=>by
  simp at h1 h2;subst h1;subst h2;show bindC kindOf ((p,w)::P.zip vs) m p=_;unfold bindC;rw[oG λv hv=>(UD.mp nd).1 (Wu hv).1,TX hk];simp
 | p::P,w::vs,i+1,m,nd,h1,h2,hk=>by
  show bindC kindOf ((p,w)::P.zip vs) m x=_;unfold bindC;exact oJ (i:=i) (UD.mp nd).2 (by simpa using h1) (by simpa using h2) hk
def start(N:List Str)(vs:List V):St:=vs.map some++replicate (N.length-vs.length) none
def fQ(CX:t9)(P:Program)(w:World)(K:Frag)(mg:Str->Option Value)(base:Heap)(N:List Str)(qual:Str)(scope:Scope)(f:Addr)(cd:Value)(A:Around)(outer:List Env)(s:Shared)(H:Hp)(E:XK):Cx where
 prog:=P
 w:=w
 K:=K
 mg:=mg
 base:=base
 A:=A.deeper (envOfC qual scope s.heap.objs.size f cd)
 N:=N
 s₀:=s
 H₀:=H
 env:=envOfC qual scope s.heap.objs.size f cd
 outer:=outer
 stack:=envOfC qual scope s.heap.objs.size f cd::outer
 ex:=[]
 calm:=true
 fn:=λ_=>true
 pn:=[]
 xe:=λe s'=>wpAny (model P w) (A.deeper (envOfC qual scope s.heap.objs.size f cd)) (leaving (envOfC qual scope s.heap.objs.size f cd) e) (λ_ s''=>CX outer H s E e s'') (λe' s''=>CX outer H s E e' s'') s'
theorem qS{sc:Scope}{n:Nat}{x:Str}(h:sc.names.lookup x=some .cell):∃c,(cellsFrom n sc.names []).lookup x=some c:=by
 have q:=cellsFrom_some sc.names n [] (.inl h);exact Option.isSome_iff_exists.mp q
theorem xA{CX:t9}{P:Program}{w:World}{K:Frag}{mg:Str->Option Value}{base:Heap}{N ps:List Str}{qual:Str}{scope:Scope}{f:Addr}{cd:Value}{A:Around}{outer:List Env}{s s1:Shared}{H:Hp}{E:XK}{us:List Value}{vs:List V}
  (S:jG N ps scope) (hd:A.handled=none) (e0:ua P w K mg base A outer s H) (hl:vs.length=ps.length) (r:Vals vs us)
  (x:InCallC s s.heap.objs.size (bindL (envOfC qual scope s.heap.objs.size f cd).kindOf (ps.zip us) λ_=>none) (cellsFrom (s.heap.objs.size+1) scope.names []) (bindC (envOfC qual scope s.heap.objs.size f cd).kindOf (ps.zip us) λ_=>none) s1) :
  Inv (fQ CX P w K mg base N qual scope f cd A outer s H E) [] (start N vs) H s1:=by
 have hpl:ps.length<=N.length:=by have:=UM length S.pre;rw[V0]at this;omega
 obtain⟨h1,tk,rfl,hk⟩:=x.done;have noA:∀b:Addr,b∉(fQ CX P w K mg base N qual scope f cd A outer s H E).ex:=λb z=>absurd (show b∈([]:List Addr) from z) (by simp);refine⟨⟨e0.mod,S.kind,rfl,rfl,TV _,λy z c h1 h2=>?_,λy hy=>?_,λy c _ h=>?_,λ_=>hd,Around.frames_deeper e0.frames,.inr ⟨rfl,rfl⟩,λb z=>absurd z (noA b),e0.bs,e0.BL,λb _ _=>noA b,λb z=>absurd z (noA b),e0.kr,e0.D9⟩,
  rfl,e0.bare,Un.kept hk,⟨_,x.toInCall.ns,λi y v h1 h2 h3=>?_⟩,λy c h=>⟨_,x.cell y c h⟩,e0.hok.fresh (TV _),λy c h=>?_,λp hp=>absurd (show p∈([]:List (Addr×Obj)) from hp) (by simp),e0.hok.kept hk,?_⟩
 ·exact name_of_addr x.apart (UQ h1) (UQ h2)
 ·have hy:scope.names.lookup y=some .cell\/scope.names.lookup y=some .free:=hy
  rcases hy with hy|hy
  ·exact qS hy
  ·exact absurd rfl (S.FU _ (UQ hy))
 ·exact Ve (x.above y c (UQ h))
 ·have hi:i<vs.length:=by
   unfold start at h2
   by_cases hi:i<vs.length
   ·exact hi
   ·rw[Uk (by simpa using hi)]at h2;rw[List.getElem?_replicate]at h2;split at h2<;>cases h2
  have ha:vs[i]?=some v:=by
   unfold start at h2;rw[Ua (by simpa using hi),Ug]at h2;cases e:vs[i]? with
   |none=>rw[e]at h2;cases h2
   |some a=>rw[e]at h2;cases h2;rfl
  obtain⟨u,hu,rv⟩:=r.get ha;have hp:ps[i]?=some y:=by rw[<-S.pre,List.getElem?_take_of_lt (by omega)];exact h1
  have Qf:ps.Nodup:=by rw[<-S.pre];exact S.nd.sublist (List.take_sublist _ _)
  refine⟨u,rv,?_⟩
  rcases S.par y (Ub hp) with k|k
  ·exact .inl ⟨k,oH Qf hp hu k⟩
  ·obtain⟨c,e⟩:=qS (n:=s.heap.objs.size+1) k;refine .inr ⟨.inl k,c,e,?_⟩;have q:=x.cell y c e;rw[oJ Qf hp hu (by show scope.names.lookup y≠_;rw[k];decide)]at q;exact q
 ·exact e0.hok.fresh (Ve (x.above y c (UQ h)))
 ·unfold start;show _=N.length;rw[Ul,TQ,VX];omega
theorem Eg{CX:t9}{P:Program}{w:World}{K:Frag}{mg:Str->Option Value}{base:Heap}{k:Nat}{f:Addr}{name qual:Str}{params:Arguments}{body:List Stmt}{scope:Scope}{dV kV doc pm cdv ct oc:Value}{an od:Option Addr}
  {osl:Array (Option Value)} {N ps:List Str} {sp:Sp} (lk:K.lookup f=some ⟨oc,od,.func (fnOf name qual params body scope dV kV doc pm an cdv ct),osl⟩) (hcd:codeIn K cdv qual=true) (S:jG N ps scope)
  (len:∀vs H Q E,sp vs H Q E->vs.length=ps.length)
  (hbody:∀(A:Around) (outer:List Env) (s:Shared) (H:Hp) (vs:List V) (Q:VK) (E:XK),cD k (A.deeper (envOfC qual scope s.heap.objs.size f cdv))->sp vs H Q E ->
   ∃t,pQ (fQ CX P w K mg base N qual scope f cdv A outer s H E) body t/\t { nx:=λ_ H'=>Q .non H',rt:=Q } (start N vs) H) :
  cE P w K mg base CX (k+1) f (fnOf name qual params body scope dV kV doc pm an cdv ct) ps sp:=by
 refine⟨len,λA outer s H args us vs Q E hr e0 hb r hsp=>?_⟩;have hl:=len _ _ _ _ hsp;have KX:K.In s.heap:=e0.mod.JM.keeps λb o e=>(e0.bs b o e).1;have lim:s.heap.NoLimit:=e0.mod.nolimit.keeps λb o e=>(e0.bs b o e).1;have hkind:∀y∈ps.zip us,scope.names.lookup y.1=some .local\/(scope.names.lookup y.1=some .cell/\((cellsFrom (s.heap.objs.size+1) scope.names []).lookup y.1).isSome=true):=λ⟨n,v⟩ hy=>by
  rcases S.par n (Wu hy).1 with q|q
  ·exact .inl q
  ·exact .inr ⟨q,cellsFrom_some _ _ _ (.inl q)⟩
 refine codeAny_call_function hr.depth (KX _ _ lk) rfl S.co S.gen rfl (PySem.W.codeRec_of KX hcd) (hb _ _ _ _ ?_);refine wpAny_newFunctionEnv_cells S.kind hkind λenv he s1 x=>?_;subst he;refine⟨lim.keeps x.toInCall.keep,codeAny_func ?_⟩;obtain⟨t,ht,hq⟩:=hbody A outer s H vs Q E (hr.deeper _) hsp;have I:Inv (fQ CX P w K mg base N qual scope f cdv A outer s H E) [] (start N vs) H s1:=xA S hr.hd e0 hl r x;refine Ur (ht [] s1 (start N vs) H _ I hq) (λfl s' hs=>?_) λe s' hs=>hs;have fin:∀{σ':St} {H':Hp} {v:V} {u:Value},Inv (fQ CX P w K mg base N qual scope f cdv A outer s H E) [] σ' H' s'->RelV v u->Q v H'->CE outer P w H s Q u s' :=
  λ{σ' H' v u} J rv q=>⟨v,H',J.os,J.bare,J.base,J.hok,rv,q⟩
 cases fl with
 |ret u=>obtain⟨v,σ',H',J,rv,q⟩:=hs;exact fin J rv q
 |next=>obtain⟨σ',H',J,q⟩:=hs;exact fin (v:=V.non) (u:=Value.none) J rfl q
 |brk=>obtain⟨_,_,_,q⟩:=hs;exact False.elim q
 |cont=>obtain⟨_,_,_,q⟩:=hs;exact False.elim q
section
variable {X:Cx} {x:Str} {p pos:Pos} {e:Expr} {es:List Expr} {t:TA} {id T:String} {r:List V->Hp->VK->Prop}
def Qg(r:List V->Hp->VK->Prop)(t:TA):TE:=λσ H Q=>t σ H λvs H1=>r vs H1 Q
theorem cu(hc:bK X (.builtin id) r)(hg:Gl X x)(hm:X.mg x=none)(hv:bootBuiltins x=some (.builtin id))(ha:PA X (e::es) t)(hn:x ≠ "__name__":=by decide)(hdb:(x==("__debug__":Str))=false:=by decide)
  (he:starEach (e::es) X.env=(false,eval e X.env)::starEach es X.env:=by rfl) (hpl:(backTo pos (starEach es X.env)).any (·.1)=false:=by rfl):PE X (.Call (.Name x p) (e::es) [] pos) (Qg r t):=by
 intro pins s σ H Q I h;refine Uv (fP I hg hm hv ?_ hn hdb);exact UW (bY (ha pos pins s σ H _ I h) λus s1 ⟨vs,H1,I1,r1,q1⟩=>hc pins s1 σ H1 vs us Q I1 r1 q1) he hpl
theorem iK(hc:bK X (.type T) r)(hg:Gl X x)(hm:X.mg x=none)(hv:bootBuiltins x=some (.type T))(ha:PA X (e::es) t)(hn:x ≠ "__name__")(hdb:(x==("__debug__":Str))=false)
  (he:starEach (e::es) X.env=(false,eval e X.env)::starEach es X.env) (hpl:(backTo pos (starEach es X.env)).any (·.1)=false):PE X (.Call (.Name x p) (e::es) [] pos) (Qg r t):=by
 intro pins s σ H Q I h;refine Uv (fP I hg hm hv ?_ hn hdb);exact UL (bY (ha pos pins s σ H _ I h) λus s1 ⟨vs,H1,I1,r1,q1⟩=>hc pins s1 σ H1 vs us Q I1 r1 q1) he hpl
end
end L2
namespace HT
open PySem PyProof.Rows
def lexLt:List Int->List Int->Bool
 |[],[]=>false
 |[],_::_=>true
 |_::_,[]=>false
 |x::xs,y::ys=>if x=y then lexLt xs ys else decide (x<y)
theorem eW(x y:Int)(xs ys:List Int):lexLt (x::xs) (y::ys)=if x=y then lexLt xs ys else decide (x<y):=rfl
theorem nW:lexLt [] []=false:=rfl
theorem eX(y:Int)(ys:List Int):lexLt [] (y::ys)=true:=rfl
theorem cO(x:Int)(xs:List Int):lexLt (x::xs) []=false:=rfl
section
variable {prog:Program} {w:World} {A:Around} {E:Value->Shared->Prop} {s:Shared}
theorem B4(ht:IsTup s.heap t vs.toArray)(hb:IsTup s.heap b ws.toArray)(hv:vs≠[])
  (h1:ws=[]->Q (.ref t) s) (h2:ws≠[]->Q (.ref s.heap.objs.size) { s with heap:=s.heap.push { cls:=.type "tuple",data:=.seq (vs++ws).toArray } })
  (hsz:vs.length+ws.length<=sizeLine):wpAny (model prog w) A (binaryOp .Add (.ref t) (.ref b)) Q E s:=by
 obtain⟨⟨cls,dd,data,sl⟩,ho,hc,n,hd⟩:=id ht;obtain⟨⟨Q3,dd2,data2,sl2⟩,ho2,hc2,n2,hd2⟩:=id hb;simp only at hc hd hc2 hd2;subst hc hd hc2 hd2;have e:vs.toArray++ws.toArray=(vs++ws).toArray:=by simp
 by_cases hw:ws=[]
 ·exact concat_meets ⟨_,ho,rfl⟩ ⟨_,ho2,rfl⟩ noFill_tuple_add seq_tuple_add PySem.F.slot_tuple_add PySem.F.entry_tuple_add (PySem.F.args_tuple_add_2 _ _)
   (tuple_addW1 t b vs.toArray ws.toArray n n2 dd dd2 sl sl2 (by simpa using hv) (by simp[hw])) ⟨ho,ho2,h1 hw⟩
 ·refine concat_meets ⟨_,ho,rfl⟩ ⟨_,ho2,rfl⟩ noFill_tuple_add seq_tuple_add PySem.F.slot_tuple_add PySem.F.entry_tuple_add (PySem.F.args_tuple_add_2 _ _)
   (tuple_addW2 t b vs.toArray ws.toArray n n2 dd dd2 sl sl2 (by simpa using hv) (by simpa using hw) (by rw[TZ,TZ];exact hsz)) ⟨ho,ho2,?_⟩
  rw[e];exact h2 hw
def cP(n d:Nat):Option Int->Nat
 |none=>d
 |some v=>if v<0 then (v+(n:Int)).toNat else min v.toNat n
theorem FW(n d:Nat)(hd:d<=n)(o:Option Int):cP n d o<=n:=by
 cases o with
 |none=>exact hd
 |some v=>
  show (if v<0 then (v+(n:Int)).toNat else min v.toNat n)<=n
  by_cases hv:v<0
  ·rw[T4 hv];omega
  ·rw[TX hv];exact Nat.min_le_right _ _
theorem vg(v:Int)(n d:Nat):(if v<0 then max (v+(n:Int)) 0 else min v (n:Int))=((cP n d (some v):Nat):Int):=by
 show (if v<0 then max (v+(n:Int)) 0 else min v (n:Int))=(((if v<0 then (v+(n:Int)).toNat else min v.toNat n):Nat):Int)
 by_cases hv:v<0
 ·simp only[if_pos hv];omega
 ·simp only[if_neg hv];omega
theorem uc(lo hi:Option Int)(n:Nat):Builtin.Slice.sliceAdjust lo hi 1 (n:Int)=(((cP n 0 lo:Nat):Int),((cP n n hi:Nat):Int)):=by
 have h1:¬ ((1:Int)<0):=by omega
 unfold Builtin.Slice.sliceAdjust;simp only[h1,if_false];refine Prod.ext ?_ ?_
 ·cases lo with
  |none=>rfl
  |some v=>exact vg v n 0
 ·cases hi with
  |none=>rfl
  |some v=>exact vg v n n
theorem ud(i j:Nat):Builtin.Slice.slicePlaces (i:Int) (j:Int) 1=j-i:=by
 unfold Builtin.Slice.slicePlaces;have h1:(1:Int)>0:=by omega
 simp only[h1,if_true,Int.ediv_one]
 split<;>omega
theorem mD{o:Option Int}(p:IsPart v o)(h:Q o s):wpAny (model prog w) A (Builtin.Slice.slicePartIndex v) Q E s:=by
 cases p with
 |none=>exact slicePart_none h
 |int i t=>exact slicePart_int h
theorem kE{lo hi:Option Int}{n:Nat}(hs:s.heap.IsSliceOf sl vl vu .none)(pl:IsPart vl lo)(pu:IsPart vu hi)
  (h:Q (((cP n 0 lo:Nat):Int),1,cP n n hi-cP n 0 lo) s):wpAny (model prog w) A (Builtin.Slice.sliceApplied (.ref sl) (pure (n:Int))) Q E s:=by
 obtain⟨os,hos,hcs,hds⟩:=id hs;unfold Builtin.Slice.sliceApplied Builtin.Slice.sliceFields;refine Tw (Tw (wpAny_field hos hds (x:=vl) rfl (Tw (wpAny_field hos hds (x:=vu) rfl (Tw (wpAny_field hos hds (x:=.none) rfl (TL ?_)))))));refine Tw (slicePart_none ?_);show wpAny _ _ (if ((1:Int)==0)=true then _ else _) _ _ s;rw[TX (by decide)];refine Tw (mD pl (Tw (mD pu (Tw (TL ?_)))));show wpAny _ _ (match Builtin.Slice.sliceAdjust lo hi 1 (n:Int) with|(lo,hi)=>pure (lo,(1:Int),Builtin.Slice.slicePlaces lo hi 1)) _ _ s;rw[uc lo hi n];show wpAny _ _ (pure (((cP n 0 lo:Nat):Int),(1:Int),Builtin.Slice.slicePlaces ((cP n 0 lo:Nat):Int) ((cP n n hi:Nat):Int) 1)) _ _ s;rw[ud];exact TL h
theorem zc(xs:Array Value)(i k:Nat):((List.range k).filterMap λ(m:Nat)=>xs[((i:Int)+(m:Int)*1).toNat]?).toArray=((xs.toList.drop i).take k).toArray:=by
 have e:(λ(m:Nat)=>xs[((i:Int)+(m:Int)*1).toNat]?)=λm=>xs[i+m]?:=by
  funext m;have:((i:Int)+(m:Int)*1).toNat=i+m:=by omega
  rw[this]
 rw[e];have:=pick_run xs i k;rw[List.filterMap_map]at this;have e2:((λx=>xs[x]?)∘λx=>i+x)=λm=>xs[i+m]?:=rfl;rw[e2]at this;rw[this]
theorem jH{lo hi:Option Int}(ht:IsTup s.heap t items)(hs:s.heap.IsSliceOf sl vl vu .none)(pl:IsPart vl lo)(pu:IsPart vu hi)
  (hw:¬ (cP items.size 0 lo=0/\cP items.size items.size hi=items.size))
  (h:Q (.ref s.heap.objs.size) { s with heap:=s.heap.push { cls:=.type "tuple",data:=.seq ((items.toList.drop (cP items.size 0 lo)).take (cP items.size items.size hi-cP items.size 0 lo)).toArray } })
  (hsz:items.size<=sizeLine):wpAny (model prog w) A (getItem (.ref t) (.ref sl)) Q E s:=by
 have vh:sizeOk (.seq ((items.toList.drop (cP items.size 0 lo)).take (cP items.size items.size hi-cP items.size 0 lo)).toArray):=by show ((items.toList.drop (cP items.size 0 lo)).take (cP items.size items.size hi-cP items.size 0 lo)).toArray.size<=sizeLine;rw[TZ,V0,Wn,Um];omega
 have hj:cP items.size items.size hi<=items.size:=FW _ _ (TV _) hi;obtain⟨os,hos,hcs,hds⟩:=id hs;have Of:s.TypeIs (.ref sl) "slice":=⟨os,hos,hcs⟩;unfold getItem
 try with_reducible refine Uy ?_
 first|refine Tw (TL ?_)|skip
 refine Tw (wpAny_sequenceKey ht.typeIs (by decide) ?_);refine Tw (VN (name:=Str.ofString "__getitem__") ht.typeIs PyProof.Rows.slot_tuple_getitem
  (Vm PyProof.Rows.slot_tuple_getitem ht.typeIs entry_tuple_getitem ?_ (args_tuple_getitem _ _)))
 show wpAny _ _ (Builtin.Tuple.tupleItemsOf (.ref t) >>= _) _ _ s;refine Tw (tupleItemsOf_ ht ?_);refine Tw (wpAny_typeOf Of ?_);rw[T4 (by decide)];refine Tw (kE hs pl pu ?_);have hno:¬ ((((cP items.size 0 lo:Nat):Int)==0&&(1:Int)==1&&(cP items.size items.size hi-cP items.size 0 lo)==items.size)=true):=by intro q;rw[UE,UE]at q;have q1:((cP items.size 0 lo:Nat):Int)=0:=eq_of_beq q.1.1;have q2:cP items.size items.size hi-cP items.size 0 lo=items.size:=eq_of_beq q.2;exact hw ⟨by omega,by omega⟩
 show wpAny _ _ (if (((cP items.size 0 lo:Nat):Int)==0&&(1:Int)==1&&(cP items.size items.size hi-cP items.size 0 lo)==items.size)=true then _ else _) _ _ s;rw[TX hno,zc]
 first
  |exact Tw (m:=Builtin.Tuple.tupleExact _) (Uu (TL ⟨_,rfl,TL h⟩) vh)
  |exact Tw (m:=Builtin.Tuple.tupleExact _) (Uu (Tw (TL (TL ⟨_,rfl,TL h⟩))) vh)
  |exact Tw (Tw (m:=Builtin.Tuple.tupleExact _) (Uu (TL (TL ⟨_,rfl,TL h⟩)) vh))
  |exact Tw (Tw (m:=Builtin.Tuple.tupleExact _) (Uu (TL ⟨_,rfl,TL h⟩) vh))
end
end HT
namespace L2
open PySem PySem.Spec PyProof.Rows
abbrev TO:=St->Hp->(Option Int->Hp->Prop)->Prop
def PO(X:Cx)(e:Option Expr)(t:TO):Prop :=
 ∀(pins:List (Addr×Obj)) (s:Shared) (σ:St) (H:Hp) (Q:Option Int->Hp->Prop),Inv X pins σ H s->t σ H Q ->
  wpAny (model X.prog X.w) X.A (evalPart e X.env) (λu s'=>∃o H',Inv X pins σ H' s'/\IsPart u o/\Q o H') X.xe s
def B5:TO:=λ_ H Q=>Q none H
def KL(t:TE):TO:=λσ H Q=>t σ H λx H1=>∃i,x=.int i/\Q (some i) H1
theorem intsAre_of{ns:List Int}:∀{us:List Value},Vals (ns.map V.int) us->IntsAre us ns:=by
 induction ns with
 |nil=>intro us r;rw[VS]at r;cases r;exact .nil
 |cons n ns ih=>
  intro us r;rw[T6]at r;cases r with
  |cons r1 r2=>obtain⟨t,e⟩:=r1;subst e;exact .cons n t (ih r2)
section
variable {X:Cx} {e:Expr} {te:TE} {lo hi:Option Expr} {tl th:TO} {pos p2:Pos}
theorem B6:PO X none B5:=by
 intro pins s σ H Q I h;rw[evalPart_none];exact TL ⟨none,H,I,.none,h⟩
theorem B7(h:PE X e te):PO X (some e) (KL te):=by
 intro pins s σ H Q I hw;rw[evalPart_some];refine bY (h pins s σ H _ I hw) λu s1 aE=>?_;obtain⟨x,H1,I1,r1,q1⟩:=aE;obtain⟨i,rfl,q⟩:=q1;obtain⟨t,rfl⟩:=r1;exact⟨some i,H1,I1,.int i t,q⟩
def Nr(X:Cx)(r:V->Option Int->Option Int->Hp->VK->Prop):Prop :=
 ∀(pins:List (Addr×Obj)) (s:Shared) (σ:St) (H:Hp) (x:V) (v vl vu:Value) (lo hi:Option Int) (sl:Addr) (Q:VK),Inv X pins σ H s->RelV x v->s.heap.IsSliceOf sl vl vu .none->IsPart vl lo->IsPart vu hi->r x lo hi H Q ->
  ∃T id,typeLookup (.type T) "__getitem__" = pure (some (.builtin id))/\s.TypeIs v T/\wpAny (model X.prog X.w) X.A (getItem v (.ref sl)) (EP X pins σ Q) X.xe s
def Q4(r:V->Option Int->Option Int->Hp->VK->Prop)(te:TE)(tl th:TO):TE:=λσ H Q=>te σ H λx H1=>tl σ H1 λl H2=>th σ H2 λu H3=>r x l u H3 Q
theorem zd(hr:Nr X r)(he:PE X e te)(hl:PO X lo tl)(hu:PO X hi th):PE X (.Subscript e (.Slice lo hi none p2) pos) (Q4 r te tl th):=by
 intro pins s σ H Q I h;refine Subscript_ (bY (he pins s σ H _ I h) λv s1 aE=>?_);obtain⟨x,H1,I1,r1,q1⟩:=aE;refine wpAny_Slice (bY (hl pins s1 σ H1 _ I1 q1) λvl s2 ⟨l,H2,I2,pl,q2⟩=>bY (hu pins s2 σ H2 _ I2 q2) λvu s3 aE=>?_);obtain⟨u,H3,I3,pu,q3⟩:=aE;rw[evalPart_none];refine TL ?_;have I4:Inv X pins σ H3 { s3 with heap:=s3.heap.push { cls:=.type "slice",data:=.fields [vl,vu,.none].toArray } }:=I3.kept (t':=s3.toks) λb ob q=>TF _ q;obtain⟨T,id,hT,ht,hg⟩:=hr pins { s3 with heap:=s3.heap.push { cls:=.type "slice",data:=.fields [vl,vu,.none].toArray } } σ H3 x v vl vu l u s3.heap.objs.size Q I4 r1 (Heap.IsSliceOf.new ..) pl pu q3;show wpAny (model X.prog X.w) X.A (subscriptTail e (.Slice lo hi none p2) v (.ref s3.heap.objs.size)) (EP X pins σ Q) X.xe { s3 with heap:=s3.heap.push { cls:=.type "slice",data:=.fields [vl,vu,.none].toArray } };exact tail_any (ops:=[.ref s3.heap.objs.size,v]) ht hT hg (by with_unfolding_all rfl)
def qT(xs:List V)(lo hi:Option Int):List V:=(xs.drop (HT.cP xs.length 0 lo)).take (HT.cP xs.length xs.length hi-HT.cP xs.length 0 lo)
theorem k9(xs:List V)(lo hi:Option Int):(qT xs lo hi).length<=xs.length:=by
 unfold qT;rw[V0,Wn];omega
def Og(K:Frag):V->Option Int->Option Int->Hp->VK->Prop:=λx lo hi H Q=>∃a xs,x=.ref a/\gQ K H a xs /\
 ¬ (HT.cP xs.length 0 lo=0/\HT.cP xs.length xs.length hi=xs.length)/\∀p,H p=none->Q (.ref p) (upd H p (.tup (qT xs lo hi)))
theorem FY:Nr X (Og X.K):=by
 intro pins s σ H x v vl vu lo hi sl Q I rx hs pl pu h;obtain⟨a,xs,rfl,hx,hw,q⟩:=h;cases rx;obtain⟨its,r,ht,hz⟩:=I.tuple hx;have hlen:its.toArray.size=xs.length:=by rw[TZ];exact r.length.symm
 refine⟨"tuple",_,PyProof.Rows.slot_tuple_getitem.lookup,ht.typeIs,?_⟩;refine HT.jH ht hs pl pu (by rw[hlen];exact hw) ?_ (by rw[hlen];exact hz);rw[hlen];refine⟨.ref s.heap.objs.size,_,I.laid (t':=s.toks) (o:=.tup (qT xs lo hi)) (λb ob q=>TF _ q) (TV _) ?_,rfl,q _ (I.hok.fresh (TV _))⟩;exact⟨Ut (k9 xs lo hi) hz,_,(r.drop (HT.cP xs.length 0 lo)).take (HT.cP xs.length xs.length hi-HT.cP xs.length 0 lo),IsTup.new _ _⟩
def KN(K:Frag):R2:=λx y H Q=>∃a b xs ys,x=.ref a/\y=.ref b/\gQ K H a xs/\gQ K H b ys/\xs≠[]/\xs.length+ys.length<=sizeLine /\
 (ys=[]->Q (.ref a) H)/\(ys≠[]->∀p,H p=none->Q (.ref p) (upd H p (.tup (xs++ys))))
theorem Vals.pT(r:Vals xs us):us=[]↔xs=[]:=by
 cases r with
 |nil=>simp
 |cons _ _=>simp
theorem B8:kq X (binaryOp .Add) (KN X.K):=by
 intro pins s σ H x y v u Q I rx ry h;obtain⟨a,b,xs,ys,rfl,rfl,ha,hb,hx,hz,q1,q2⟩:=h;cases rx;cases ry;obtain⟨its,r1,p1,_⟩:=I.tuple ha;obtain⟨its2,r2,p2,_⟩:=I.tuple hb;refine HT.B4 p1 p2 (λz=>hx (r1.pT.mp z)) (λz=>⟨.ref a,H,I,rfl,q1 (r2.pT.mp z)⟩) (λz=>?_) (by rw[<-r1.length,<-r2.length];exact hz);refine⟨.ref s.heap.objs.size,_,I.laid (t':=s.toks) (o:=.tup (xs++ys)) (λb ob q=>TF _ q) (TV _) ?_,rfl,q2 (λw=>z (r2.pT.mpr w)) _ (I.hok.fresh (TV _))⟩;exact⟨by rw[Ul];exact hz,_,r1.append r2,IsTup.new _ _⟩
end
def xB(n:Nat)(i:Int):Option Nat:=if 0<=i then (if i<n then some i.toNat else none) else if -(n:Int)<=i then some (i+n).toNat else none
def gY{α:Type}(xs:List α)(i:Int):Option α:=(xB xs.length i).bind λj=>xs[j]?
theorem vj{n:Nat}{i:Int}{j:Nat}(h:xB n i=some j):seqIndex? i n=some j/\j<n /\ -(n:Int)<=i/\i<n:=by
 unfold xB at h
 by_cases h0:0<=i
 ·rw[T4 h0]at h
  by_cases h1:i<n
  ·rw[T4 h1]at h;have e:i.toNat=j:=Uh h;exact⟨by rw[seqIndex_of h0 h1,e],by omega,by omega,h1⟩
  ·rw[TX h1]at h;cases h
 ·rw[TX h0]at h
  by_cases h1:-(n:Int)<=i
  ·rw[T4 h1]at h;have e:(i+n).toNat=j:=Uh h;exact⟨by rw[seqIndex_neg (by omega) h1,e],by omega,h1,by omega⟩
  ·rw[TX h1]at h;cases h
theorem pU{α:Type}{xs:List α}{i:Int}{v:α}(h:gY xs i=some v):∃j,seqIndex? i xs.length=some j/\xs[j]?=some v/\j<xs.length /\ -(xs.length:Int)<=i/\i<xs.length:=by
 unfold gY at h;cases e:xB xs.length i with
 |none=>rw[e]at h;cases h
 |some j=>rw[e]at h;obtain⟨h1,h2,h3,h4⟩:=vj e;exact⟨j,h1,h,h2,h3,h4⟩
theorem lW{α:Type}{xs:List α}{j:Nat}{v:α}(h:xs[j]?=some v):gY xs (j:Int)=some v:=by
 have hj:j<xs.length:=(TJ.mp h).1;have e:xB xs.length (j:Int)=some j:=by unfold xB;rw[T4 (by omega),T4 (by omega)];simp
 unfold gY;rw[e];exact h
def vm(b:Expr):Prop:=∀o i,subscripted b false o i=operate [o,i] (getItem o i)
def JS(X:Cx)(r:R2):Prop :=
 ∀(value slice:Expr) (pins:List (Addr×Obj)) (s:Shared) (σ:St) (H:Hp) (x y:V) (v u:Value) (Q:VK),Inv X pins σ H s->RelV x v->RelV y u->r x y H Q ->
  subscripted slice false v u=operate [v,u] (getItem v u)->wpAny (model X.prog X.w) X.A (subscriptTail value slice v u) (EP X pins σ Q) X.xe s
def JT(X:Cx)(id:String)(r:V->List V->Hp->VK->Prop):Prop :=
 ∀(pins:List (Addr×Obj)) (s:Shared) (σ:St) (H:Hp) (x:V) (xs:List V) (v:Value) (us:List Value) (Q:VK),Inv X pins σ H s->RelV x v->Vals xs us->r x xs H Q ->
  wpAny (model X.prog X.w) X.A (call (.builtin id) (v::us)) (EP X pins σ Q) X.xe s
section
variable {X:Cx} {a b:Expr} {ta tb:TE} {pos:Pos}
theorem KO(hr:JS X r)(ha:PE X a ta)(hb:PE X b tb)(hs:vm b):PE X (.Subscript a b pos) (Np r ta tb):=by
 intro pins s σ H Q I h;exact Subscript_ (FA ha hb I h λv u s2 x y H2 I2 rx ry q=>hr a b pins s2 σ H2 x y v u Q I2 rx ry q (hs _ _))
def Oh(K:Frag):R2:=λx y H Q=>∃p xs i v,x=.ref p/\y=.int i/\fJ K H p xs/\gY xs i=some v/\Q v H
def Oi(K:Frag):R2:=λx y H Q=>∃p xs i v,x=.ref p/\y=.int i/\gQ K H p xs/\gY xs i=some v/\Q v H
def Oj:R2:=λx y H Q=>∃z i c,x=.str z/\y=.int i/\z.length<=sizeLine/\gY z.cps.toList i=some c/\Q (.str ⟨[c].toArray⟩) H
theorem vn:JS X (Oh X.K):=by
 intro value slice pins s σ H x y v u Q I rx ry h hs;obtain⟨p,xs,i,z,rfl,rfl,hq,he,q⟩:=h;cases rx;obtain⟨t,rfl⟩:=ry;obtain⟨its,r,pl,hz⟩:=I.list hq;obtain⟨j,h1,h2,h3,h4,h5⟩:=pU he;obtain⟨w,ew,rw'⟩:=r.get h2;have hl:=r.length;have hn:=kD;have fin:EP X pins σ Q w s:=⟨z,H,I,rw',q⟩
 by_cases h0:0<=i
 ·have hj:i.toNat=j:=by
   rw[seqIndex_of h0 h5]at h1;exact Uh h1
  exact item_listR pl.isList h0 (by omega) (by rw[hj];simpa using ew) fin hs
 ·have hj:(i+(its.toArray.size:Int)).toNat=j:=by
   rw[seqIndex_neg (by omega) h4]at h1;rw[TZ,<-hl];exact Uh h1
  exact subscriptTail_builtinR (x:=w) pl.isList.typeIs slot_list_getitem.lookup
   (wpAny_getItem_list_neg (Q:=λr s'=>r=w/\EP X pins σ Q r s') pl.isList (by omega) (by rw[TZ]<;>omega) (by omega) (by rw[hj];simpa using ew) ⟨rfl,fin⟩) hs
theorem FZ:JS X (Oi X.K):=by
 intro value slice pins s σ H x y v u Q I rx ry h hs;obtain⟨p,xs,i,z,rfl,rfl,hq,he,q⟩:=h;cases rx;obtain⟨t,rfl⟩:=ry;obtain⟨its,r,pl,hz⟩:=I.tuple hq;obtain⟨j,h1,h2,h3,h4,h5⟩:=pU he;obtain⟨w,ew,rw'⟩:=r.get h2;have hl:=r.length;have hn:=kD;have fin:EP X pins σ Q w s:=⟨z,H,I,rw',q⟩;exact subscriptTail_builtinR (x:=w) pl.typeIs slot_tuple_getitem.lookup
  (getItem_tuple (j:=j) (Q:=λr s'=>r=w/\EP X pins σ Q r s') pl (by omega) (by omega) (by rw[TZ,<-hl];exact h1) (by simpa using ew) ⟨rfl,fin⟩) hs
theorem Ga:JS X Oj:=by
 intro value slice pins s σ H x y v u Q I rx ry h hs;obtain⟨z,i,c,rfl,rfl,hz,he,q⟩:=h;obtain⟨t,rfl⟩:=rx;obtain⟨t',rfl⟩:=ry;obtain⟨j,h1,h2,h3,h4,h5⟩:=pU he;have hl:z.cps.toList.length=z.length:=by simp[Str.length]
 rw[hl]at h1 h4 h5;have hn:=kD;exact tail_any (typeIs_str s z t) slot_str_getitem.lookup (getItem_str (c:=c) (by
  have e1:decide (i < -(2 ^ 63:Int))=false:=decide_eq_false (by omega);have e2:decide (i≥2 ^ 63)=false:=decide_eq_false (by omega);rw[e1,e2,Bool.or_false]) (by rw[h1];simpa using h2) ⟨.str ⟨[c].toArray⟩,H,I.tok _,⟨_,rfl⟩,q⟩) hs
theorem ue(its:List Value)(n j:Nat)(u:Value):Obj.mapSeq (·.setIfInBounds j u) { cls:=.type "list",data:=.seq its.toArray n }={ cls:=.type "list",data:=.seq (its.set j u).toArray n }:=by
 simp[Obj.mapSeq]
theorem Inv.lst(I:Inv X pins σ H s)(h:H p=some (.lst xs)) :
  ∃(its:List Value) (n:Nat),Vals xs its/\s.heap.get? p=some { cls:=.type "list",data:=.seq its.toArray n }/\xs.length<=sizeLine:=by
 obtain⟨z,its,n,r,e⟩:=I.hok p _ h;exact⟨its,n,r,e,z⟩
theorem Inv.Gb{pins:List (Addr×Obj)}{σ:St}{H:Hp}{s:Shared}{p:Addr}{xs ys:List V}{its its':List Value}{n n':Nat}{f:Obj->Obj}(I:Inv X pins σ H s)(h:H p=some (.lst xs))
  (ho:s.heap.get? p=some { cls:=.type "list",data:=.seq its.toArray n }) (hf:f { cls:=.type "list",data:=.seq its.toArray n }={ cls:=.type "list",data:=.seq its'.toArray n' }) (r:Vals ys its') (hz:ys.length<=sizeLine) (t:Nat) :
  Inv X pins σ (upd H p (.lst ys)) { s with heap:=s.heap.update p f,toks:=t }:=by
 have e:(s.heap.update p f).get? p=some { cls:=.type "list",data:=.seq its'.toArray n' }:=by rw[Us f ho (by rw[hf]<;>rfl),hf]
 refine I.write (x:=p) (e:=p) (by rw[h];trivial) (.inl rfl) (λb u hb q=>(UO _ _ (Ne.symm hb)).trans q) ⟨_,e⟩ ?_;exact⟨hz,its',n',r,e⟩
def KP:V->V->V->Hp->(Hp->Prop)->Prop:=λo i v H Q=>∃p xs k j,o=.ref p/\i=.int k/\H p=some (.lst xs)/\xB xs.length k=some j/\Q (upd H p (.lst (xs.set j v)))
theorem set_list:Fw X KP:=by
 intro pins s σ H o i v ov iv u Q I ro ri rv h;obtain⟨p,xs,k,j,rfl,rfl,hp,hj,q⟩:=h;cases ro;obtain⟨t,rfl⟩:=ri;obtain⟨its,n,r,ho,hz⟩:=I.lst hp;obtain⟨h1,h2,h3,h4⟩:=vj hj;have hl:=r.length;have hn:=kD;have I':Inv X pins σ (upd H p (.lst (xs.set j v))) { s with heap:=s.heap.update p (Obj.mapSeq (·.setIfInBounds j u)) } :=
  I.Gb hp ho (ue its n j u) (r.set rv j) (by rw[List.length_set];exact hz) s.toks
 by_cases h0:0<=k
 ·have hk:k.toNat=j:=by
   rw[seqIndex_of h0 h4]at h1;exact Uh h1
  exact PySem.W.ki_setAt ho h0 (by omega) (by rw[TZ,<-hl];exact h4) (by rw[hk];exact⟨_,I',q⟩)
 ·have hk:(k+(its.toArray.size:Int)).toNat=j:=by
   rw[seqIndex_neg (by omega) h3]at h1;rw[TZ,<-hl];exact Uh h1
  exact PySem.W.ki_setBack ho (by omega) (by rw[TZ,<-hl];exact h3) (by omega) (by rw[hk];exact⟨_,I',q⟩)
theorem pV(lo hi:Option Int)(n:Nat):(sliceBounds lo hi none n).1=((HT.cP n 0 lo:Nat):Int)/\(sliceBounds lo hi none n).2.1=((HT.cP n n hi:Nat):Int)/\(sliceBounds lo hi none n).2.2=1:=by
 refine⟨?_,?_,rfl⟩
 ·cases lo with
  |none=>simp[sliceBounds,HT.cP]
  |some i=>
   simp only[sliceBounds,HT.cP,getD_none,show (1:Int)>0 by decide,if_true]
   by_cases h:i<0
   ·simp only[h,if_true]<;>omega
   ·simp only[h,if_false]<;>omega
 ·cases hi with
  |none=>simp[sliceBounds,HT.cP]
  |some i=>
   simp only[sliceBounds,HT.cP,getD_none,show (1:Int)>0 by decide,if_true]
   by_cases h:i<0
   ·simp only[h,if_true]<;>omega
   ·simp only[h,if_false]<;>omega
theorem nX(its:List Value)(lo hi:Option Int):slicePick its.toArray lo hi none=((its.drop (HT.cP its.length 0 lo)).take (HT.cP its.length its.length hi-HT.cP its.length 0 lo)).toArray:=by
 obtain⟨h1,h2,h3⟩:=pV lo hi its.toArray.size;unfold slicePick;rw[h1,h2,h3];simp only[sliceRange_one,pick_run,size_toArray]<;>rfl
def Ol(K:Frag):V->Option Int->Option Int->Hp->VK->Prop:=λx lo hi H Q=>∃a xs,x=.ref a/\fJ K H a xs/\∀p,H p=none->Q (.ref p) (upd H p (.lst (qT xs lo hi)))
theorem B9:Nr X (Ol X.K):=by
 intro pins s σ H x v vl vu lo hi sl Q I rx hs pl pu h;obtain⟨a,xs,rfl,hx,q⟩:=h;cases rx;obtain⟨its,r,ht,hz⟩:=I.list hx;have hlen:=r.length;refine⟨"list",_,slot_list_getitem.lookup,ht.isList.typeIs,?_⟩;refine wpAny_getItem_list_slice ht.isList hs pl pu .none (by simp) ?_ (by rw[TZ]<;>omega);rw[nX,<-hlen];refine⟨.ref s.heap.objs.size,_,I.laid (t':=s.toks) (o:=.lst (qT xs lo hi)) (λb ob q=>TF _ q) (TV _) ?_,rfl,q _ (I.hok.fresh (TV _))⟩;exact⟨Ut (k9 xs lo hi) hz,_,0,(r.drop (HT.cP xs.length 0 lo)).take (HT.cP xs.length xs.length hi-HT.cP xs.length 0 lo),T7 _ rfl⟩
def bS:V->Bool
 |.non=>true
 |.bl _=>true
 |.int _=>true
 |.str _=>true
 |_=>false
theorem pW:bK X (.type "list") (λxs H Q=>∃p ys,xs=[.ref p]/\(fJ X.K H p ys\/gQ X.K H p ys)/\∀l,H l=none->Q (.ref l) (upd H l (.lst ys))):=by
 intro pins s σ H xs us Q I r h;obtain⟨p,ys,rfl,hq,q⟩:=h;obtain⟨u,rfl,rx⟩:=vals1 r;cases rx;have fin:∀(its:List Value),Vals ys its->ys.length<=sizeLine->∀(h':Heap) (c':Nat),(∀b o',s.heap.get? b=some o'->h'.get? b=some o') ->
   h'.get? s.heap.objs.size=some { cls:=.type "list",dict:=none,data:=.seq its.toArray c',slots:=#[] }->EP X pins σ Q (.ref s.heap.objs.size) { s with heap:=h' }:=λits r' hz h' c' kp e=>
  ⟨.ref s.heap.objs.size,_,I.laid (t':=s.toks) kp (TV _) (show aV X.prog X.w _ h' _ (.lst ys) from⟨hz,its,c',r',e⟩),rfl,q _ (I.hok.fresh (TV _))⟩
 rcases hq with hq|hq
 ·obtain⟨its,r',pl,hz⟩:=I.list hq;have hlen:=r'.length;obtain⟨o,ho,hc,n,hd⟩:=pl.isList;exact call_list_seq p (.inl rfl) ho hc hd (λh' c' kp e=>fin its r' hz h' c' kp e) (by simp only[size_toArray]<;>omega)
 ·obtain⟨its,r',pl,hz⟩:=I.tuple hq;have hlen:=r'.length;obtain⟨o,ho,hc,n,hd⟩:=pl;exact call_list_seq p (.inr rfl) ho hc hd (λh' c' kp e=>fin its r' hz h' c' kp e) (by simp only[size_toArray]<;>omega)
def Om(K:Frag)(T:String)(x:V)(H:Hp):Prop:=match x with
 |.str _=>T = "str"
 |.int _=>T = "int"
 | .ref p=>(T = "list" /\ ∃xs,fJ K H p xs)\/(T = "tuple" /\ ∃o,K.lookup p=some o/\o.cls=.type "tuple" /\ o.dict=none) \/
   (T = "dict" /\ ((∃kvs,H p=some (.dK kvs))\/∃kvs,H p=some (.dT kvs)))\/(T = "set" /\ ∃S n,H p=some (.set S n))
 |_=>False
theorem Gd{T:String}(I:Inv X pins σ H s)(r:RelV x v)(ty:Om X.K T x H) :
  s.TypeIs v T/\∀a,v=.ref a->∃ob,s.heap.get? a=some ob/\ob.dict=none:=by
 cases x with
 |str z=>obtain⟨t,rfl⟩:=r;cases (show T = "str" from ty);exact⟨typeIs_str s z t,λ_ e=>nomatch e⟩
 |int i=>obtain⟨t,rfl⟩:=r;cases (show T = "int" from ty);exact⟨typeIs_int s i t,λ_ e=>nomatch e⟩
 |ref p=>
  cases r
  rcases ty with ⟨rfl,xs,hq⟩|⟨rfl,o,hk,hc,hd⟩|⟨rfl,hk⟩|⟨rfl,S,n,hk⟩
  ·obtain⟨its,_,pl,_⟩:=I.list hq;refine⟨pl.isList.typeIs,λa e=>?_⟩;cases e;obtain⟨o,n,e,c,hd,_⟩:=pl;exact⟨o,e,hd⟩
  ·refine⟨⟨o,I.iZ p o hk,hc⟩,λa e=>?_⟩;cases e;exact⟨o,I.iZ _ o hk,hd⟩
  ·have z:∃o,s.heap.get? p=some o/\o.ExactDict:=by
    rcases hk with ⟨kvs,hk⟩|⟨kvs,hk⟩
    ·obtain⟨_,_,_,_,o,_,_,e,ex,_⟩:=I.hok p _ hk;exact⟨o,e,ex⟩
    ·obtain⟨_,_,_,_,o,_,_,e,ex,_⟩:=I.hok p _ hk;exact⟨o,e,ex⟩
   obtain⟨o,e,ex⟩:=z;refine⟨⟨o,e,ex.1⟩,λa e2=>?_⟩;cases e2;exact⟨o,e,ex.2.1⟩
  ·obtain⟨o,_,_,_,e,ex,_⟩:=I.hok p _ hk;refine⟨⟨o,e,ex.1⟩,λa e2=>?_⟩;cases e2;exact⟨o,e,ex.2.1⟩
 |_=>exact False.elim ty
def Qh(K:Frag)(T:String)(r:V->List V->Hp->VK->Prop)(to:TE)(t:TA):TE:=λσ H Q=>to σ H λx H1=>Om K T x H1/\t σ H1 λxs H2=>r x xs H2 Q
variable {o e:Expr} {es:List Expr} {to:TE} {t:TA} {name:Str} {apos cpos:Pos} {T id:String} {r:V->List V->Hp->VK->Prop}
theorem vo(pa:PlainAttrs T)(slot:Slot T name id)(hty:typeOf (.builtin id)=pure (.type "method_descriptor"))(hm:JT X id r)(ho:PE X o to)(ha:PA X (e::es) t)
  (hbase:attributeBase o name X.env (eval o X.env)=eval o X.env)
  (hfew:((backTo cpos (starEach (e::es) X.env)).all (λx=>!x.1)&&(backToKw cpos (keywordEach [] X.env)).all (λx=>x.1.isSome)
   && decide ((e::es).length+([]:List Keyword).length+(if ([]:List Keyword).isEmpty then 0 else 1)<30))=true)
  (hline:(apos.endLine==cpos.line)=true) (hs:starEach (e::es) X.env=(false,eval e X.env)::starEach es X.env) (hplain:(backTo cpos (starEach es X.env)).any (·.1)=false) :
  PE X (.Call (.Attribute o name apos) (e::es) [] cpos) (Qh X.K T r to t):=by
 intro pins s σ H Q I h;refine wpAny_Call_method_late hbase hfew hline rfl (bY (ho pins s σ H _ I h) λv s1 aE=>?_);obtain⟨x,H1,I1,r1,ty,q1⟩:=aE;obtain⟨h1,h2⟩:=Gd I1 r1 ty;refine⟨T,id,pa,slot,hty,h1,h2,?_⟩;have hA:=ha cpos pins s1 σ H1 _ I1 q1;rw[hs]at hA |-;refine Calls.callWith_builtin (by show (false||(backTo cpos (starEach es X.env)).any (·.1))=false;rw[hplain]<;>rfl) (Calls.evalArgs_plain ?_);exact bY hA λus s2 ⟨vs,H2,I2,r2,q2⟩=>hm pins s2 σ H2 x vs v us Q I2 r1 r2 q2
/- xs.append(e),list.index on a KQ tuple .. are JT facts of 06m -/
end
def Nt(X:Cx)(id:String)(r:V->List V->Hp->VK->Prop):Prop :=
 ∀(pins:List (Addr×Obj)) (s:Shared) (σ:St) (H:Hp) (x:V) (xs:List V) (v:Value) (us:List Value) (Q:VK),Inv X pins σ H s->RelV x v->Vals xs us->r x xs H Q ->
  wpAny (model X.prog X.w) X.A (call (.builtin id) (v::us)) (EP X pins σ Q) X.xe s
theorem Vals.one:∀{x:V} {us:List Value},Vals [x] us->∃u,us=[u]/\RelV x u
 |_,_,.cons r .nil=>⟨_,rfl,r⟩
theorem Vals.eraseIdx:∀{xs:List V} {us:List Value} (i:Nat),Vals xs us->Vals (xs.eraseIdx i) (us.eraseIdx i)
 |_,_,_,.nil=>.nil
 |_,_,0,.cons _ t=>t
 |_,_,i+1,.cons r t=>.cons r (Vals.eraseIdx i t)
theorem oK{α:Type}:∀(l:List α) (i:Nat),(l.eraseIdx i).length<=l.length
 |[],_=>TV _
 |_::_,0=>UJ _
 |_::r,i+1=>Nat.succ_le_succ (oK r i)
section
variable {X:Cx} {pins:List (Addr×Obj)} {σ:St} {H:Hp} {s:Shared} {l b:Addr} {xs ys zs:List V}
theorem Inv.Ca{its its':List Value}{n:Nat}{f:Array Value->Array Value}{t':Nat}(I:Inv X pins σ H s)(hH:H l=some (.lst xs))
  (e:s.heap.get? l=some { cls:=.type "list",data:=.seq its.toArray n }) (hf:f its.toArray=its'.toArray) (hv:Vals ys its') (hz:ys.length<=sizeLine) :
  Inv X pins σ (upd H l (.lst ys)) { s with heap:=s.heap.update l (Obj.mapSeq f),toks:=t' }:=by
 have q:=PySem.IsL.update e f;rw[hf]at q;refine I.write (x:=l) (e:=l) (by rw[hH];exact trivial) (.inl rfl) (λb' u hb hu=>(UO s.heap (Obj.mapSeq f) (Ne.symm hb)).trans hu) ⟨_,q⟩ ?_;exact⟨hz,its',_,hv,q⟩
theorem Inv.Oo{t':Nat}(I:Inv X pins σ H s)(hv:Vals ys its)(hz:ys.length<=sizeLine) :
  Inv X pins σ (upd H s.heap.objs.size (.lst ys)) { s with heap:=s.heap.push { cls:=.type "list",data:=.seq its.toArray },toks:=t' } :=
 I.laid (λ_ _ q=>TF _ q) (TV _) ⟨hz,its,0,hv,T7 _ rfl⟩
theorem Inv.ze(I:Inv X pins σ H s)(hH:H l=some (.lst xs)):xs.length<=sizeLine/\∃(its:List Value) (n:Nat),Vals xs its/\xs.length=its.length/\s.heap.get? l=some { cls:=.type "list",data:=.seq its.toArray n }:=by
 obtain⟨z,its,n,r,e⟩:=I.hok l _ hH;exact⟨z,its,n,r,r.length,e⟩
theorem qU{n:Nat}(h:n<=sizeLine):Builtin.List.listTooLong n=false:=by
 unfold Builtin.List.listTooLong;exact decide_eq_false (by omega)
end
section
variable {X:Cx}
def Cb:V->List V->Hp->VK->Prop:=λx vs H Q=>∃l xs y,x=.ref l/\vs=[y]/\H l=some (.lst xs)/\xs.length<sizeLine/\Q .non (upd H l (.lst (xs++[y])))
theorem oM:Nt X "list.append" Cb:=by
 intro pins s σ H x vs v us Q I rx rv h;obtain⟨l,xs,y,rfl,rfl,hH,hz,q⟩:=h;cases rx;obtain⟨u,rfl,ru⟩:=rv.one;obtain⟨z,its,n,r,hl,e⟩:=I.ze hH;refine call_meets F.slot_list_append ⟨_,e,rfl⟩ F.entry_list_append (F.args_list_append_2 _ _) (PySem.list_append l its.toArray n u (by rw[TZ];omega)) ⟨e,?_⟩;refine⟨.non,_,I.Ca (its':=its++[u]) hH e (by simp) (r.append #[ru]) ?_,rfl,q⟩;rw[Ul,List.length_singleton];omega
def Cc:V->List V->Hp->VK->Prop:=λx vs H Q=>∃l b xs zs,x=.ref l/\vs=[.ref b]/\H l=some (.lst xs)/\H b=some (.lst zs)/\xs.length+zs.length<=sizeLine/\Q .non (upd H l (.lst (xs++zs)))
theorem xC:Nt X "list.extend" Cc:=by
 intro pins s σ H x vs v us Q I rx rv h;obtain⟨l,b,xs,zs,rfl,rfl,hH,hB,hz,q⟩:=h;cases rx;obtain⟨u,rfl,ru⟩:=rv.one;cases ru;obtain⟨z,its,n,r,hl,e⟩:=I.ze hH;obtain⟨z2,its2,n2,r2,hl2,e2⟩:=I.ze hB;have hsz:its.toArray.size+its2.toArray.size<=sizeLine:=by rw[TZ,TZ];omega
 have zf:¬ (!its.toArray.isEmpty&&Builtin.List.listTooLong (its.toArray.size+its2.toArray.size))=true:=by rw[qU hsz,Bool.and_false];exact TH
 refine call_meets F.slot_list_extend ⟨_,e,rfl⟩ F.entry_list_extend (F.args_list_extend_2 _ _)
  (AutoSeq1.list_extend_list_list_0 l its.toArray n b its2.toArray n2 zf (by rw[TZ];omega) (by omega)) ⟨e,e2,?_⟩
 refine⟨.non,_,I.Ca (its':=its++its2) hH e (by simp) (r.append r2) ?_,rfl,q⟩;rw[Ul];omega
end
section
variable {κ:Type} [DecidableEq κ]
def gE(kvs:List (κ × V))(k:κ):Option V:=(kvs.find? λkv=>decide (kv.1=k)).map (·.2)
def putK(kvs:List (κ × V))(k:κ)(v:V):List (κ × V) :=
 if (kvs.any λkv=>decide (kv.1=k))=true then kvs.map (λkv=>if kv.1=k then (kv.1,v) else kv) else kvs++[(k,v)]
theorem mE{p:κ × V}{r:List (κ × V)}{k:κ}(e:p.1=k):gE (p::r) k=some p.2:=by simp[gE,find?_cons,e]
theorem mF{p:κ × V}{r:List (κ × V)}{k:κ}(e:¬ p.1=k):gE (p::r) k=gE r k:=by simp[gE,find?_cons,e]
theorem qV(k:κ):∀kvs:List (κ × V),(kvs.any λkv=>decide (kv.1=k))=(gE kvs k).isSome
 |[]=>rfl
 | p::r=>by
  rw[V5]
  by_cases e:p.1=k
  ·simp only[mE e,decide_eq_true e,Bool.true_or,Option.isSome_some]
  ·rw[mF e,decide_eq_false e,Bool.false_or];exact qV k r
theorem g9(kvs:List (κ × V))(k:κ)(v:V):(putK kvs k v).length<=kvs.length+1:=by
 unfold putK
 split
 ·rw[TQ];omega
 ·rw[Ul,UA,Wv];omega
theorem lG.xD(r:lG o u):o.isSome=u.isSome:=by
 cases o with
 | none=>cases u with
  |none=>rfl
  |some _=>exact(show False from r).elim
 | some _=>cases u with
  |none=>exact(show False from r).elim
  |some _=>rfl
theorem KV.val(r:KV kvs vs)(k:κ):lG (gE kvs k) (valueAt vs k):=by
 unfold KV at r
 induction r with
 |nil=>exact UB
 |@cons p q ps qs h t ih=>
  obtain⟨h1,h2⟩:=h
  by_cases e:p.1=k
  ·have e':q.1=k:=h1.symm.trans e
   have b:valueAt (q::qs) k=some q.2:=by simp[valueAt,find?_cons,e']
   rw[mE e,b];exact h2
  ·have e':¬ q.1=k:=λz=>e (h1.trans z)
   have b:valueAt (q::qs) k=valueAt qs k:=by simp[valueAt,find?_cons,e']
   rw[mF e,b];exact ih
theorem KV.any(r:KV kvs vs)(k:κ):(kvs.any λkv=>decide (kv.1=k))=vs.any λkv=>decide (kv.1=k):=by
 unfold KV at r
 induction r with
 |nil=>rfl
 |cons h t ih=>rw[V5,V5,ih,h.1]
theorem KV.repl(r:KV kvs vs)(k:κ)(ry:RelV y u) :
  KV (kvs.map λkv=>if kv.1=k then (kv.1,y) else kv) (vs.map λkv=>if kv.1=k then (kv.1,u) else kv):=by
 unfold KV at r |-
 induction r with
 |nil=>exact .nil
 |@cons p q ps qs h t ih=>
  rw[T6,T6];refine .cons ?_ ih;obtain⟨h1,h2⟩:=h
  by_cases e:p.1=k
  ·rw[T4 e,T4 (h1.symm.trans e)];exact⟨h1,ry⟩
  ·rw[TX e,TX (λz=>e (h1.trans z))];exact⟨h1,h2⟩
theorem KV.put(r:KV kvs vs)(k:κ)(ry:RelV y u):KV (putK kvs k y) (stored vs k u):=by
 unfold putK stored;rw[r.any k]
 by_cases e:(vs.any λkv=>decide (kv.1=k))=true
 ·rw[T4 e,T4 e];exact r.repl k ry
 ·rw[TX e,TX e];exact Paired.snoc r ⟨rfl,ry⟩
theorem KV.length(r:KV kvs vs):kvs.length=vs.length:=Wl r
end
theorem vp(r:RelV (kV k) u):(aP P w).is k u=true:=by
 cases k with
 |inl i=>obtain⟨t,e⟩:=(show ∃t,u=Value.int i t from r);subst e;exact qL P w i t
 |inr x=>obtain⟨t,e⟩:=(show ∃t,u=Value.str x t from r);subst e;exact qM P w x t
theorem oN:∀{ks:List Key} {us:List Value},Vals (ks.map kV) us->ItemsAre (aP P w) ks us
 |[],_,r=>by rw[VS]at r;cases r;exact .nil
 | k::ks,_,r=>by
  rw[T6]at r;cases r with
  |cons h t=>exact .cons (vp h) (oN t)
abbrev KT(H:Hp):List (List Key×V)->List (List Key×Addr×Value)->Prop:=Paired λp q=>p.1=q.1/\H q.2.1=some (.tup (p.1.map kV))/\RelV p.2 q.2.2
theorem KT.val(r:KT H kvs xs)(k:List Key):lG (gE kvs k) ((atKey xs k).map (·.2)):=by
 induction r with
 |nil=>exact UB
 |@cons p q ps qs h t ih=>
  obtain⟨h1,_,h2⟩:=h
  by_cases e:p.1=k
  ·have e':q.1=k:=h1.symm.trans e
   have b:atKey (q::qs) k=some q.2:=by simp[atKey,find?_cons,e']
   rw[mE e,b];exact h2
  ·have e':¬ q.1=k:=λz=>e (h1.trans z)
   have b:atKey (q::qs) k=atKey qs k:=by simp[atKey,find?_cons,e']
   rw[mF e,b];exact ih
theorem KT.repl(r:KT H kvs xs)(k:List Key)(ry:RelV y u) :
  KT H (kvs.map λkv=>if kv.1=k then (kv.1,y) else kv) (xs.map (putAt k u)):=by
 induction r with
 |nil=>exact .nil
 |@cons p q ps qs h t ih=>
  rw[T6,T6];refine .cons ?_ ih;obtain⟨h1,h2,h3⟩:=h;unfold putAt
  by_cases e:p.1=k
  ·rw[T4 e,T4 (h1.symm.trans e)];exact⟨h1,h2,ry⟩
  ·rw[TX e,TX (λz=>e (h1.trans z))];exact⟨h1,h2,h3⟩
theorem KT.put(r:KT H kvs xs)(k:List Key)(hb:H b=some (.tup (k.map kV)))(ry:RelV y u) :
  KT H (putK kvs k y) (storedH xs k b u):=by
 have e:(kvs.any λkv=>decide (kv.1=k))=(atKey xs k).isSome:=by rw[qV,(r.val k).xD,Option.isSome_map]
 unfold putK storedH;rw[e]
 by_cases q:(atKey xs k).isSome=true
 ·rw[T4 q,T4 q];exact r.repl k ry
 ·rw[TX q,TX q];exact Paired.snoc r ⟨rfl,hb,ry⟩
theorem KT.keeps(r:KT H kvs xs)(ht:∀b ys,H b=some (.tup ys)->H' b=some (.tup ys)):KT H' kvs xs :=
 Paired.Fc r λ_ _ z=>⟨z.1,ht _ _ z.2.1,z.2.2⟩
section
variable {P:Program} {w:World} {H:Hp} {h:Heap} {a:Addr}
theorem Eh(ok:gP P w H h)(e:Rd H a u):aV P w H h a u:=e.ok ok
theorem qW(ok:gP P w H h)(e:Rd H a (.dK kvs)):kvs.length<=sizeLine/\(a==sysModules)=false/\∃vs,KV kvs vs/\h.DictOf (aP P w) a vs :=
 show aV P w H h a (.dK kvs) from Eh ok e
theorem vq(ok:gP P w H h)(e:H a=some (.dK kvs)):kvs.length<=sizeLine/\(a==sysModules)=false/\∃vs,KV kvs vs/\h.DictOf (aP P w) a vs:=qW ok (.inl e)
theorem uf(ok:gP P w H h)(e:H a=some (.tup (ks.map kV))):(tupleKind (aP P w)).is h ks a:=by
 obtain⟨_,its,r,o,h1,h2,n,h3⟩:=(show aV P w H h a (.tup (ks.map kV)) from ok a _ e);exact⟨o,its.toArray,n,h1,h2,h3,by simpa using oN r⟩
theorem vt(ok:gP P w H h)(e:Rd H a (.dT kvs)):kvs.length<=sizeLine/\(a==sysModules)=false /\
  ∃xs,KT H kvs xs/\h.DictOfH (tupleKind (aP P w)) a xs:=by
 obtain⟨z,y,xs,r,o,es,ep,h1,h2,h3,h4,h5⟩:=(show aV P w H h a (.dT kvs) from Eh ok e);refine⟨z,y,xs,r,o,es,ep,h1,h2,h3,h4,λx hx=>?_,h5⟩;have all:∀{l:List (List Key×V)} {m:List (List Key×Addr×Value)},KT H l m->∀x∈m,(tupleKind (aP P w)).is h x.1 x.2.1:=by
  intro l m q
  induction q with
  |nil=>intro x hx;exact nomatch hx
  |@cons p q ps qs hq t ih=>
   intro x hx
   rcases T8.mp hx with e|hx
   ·subst e;exact uf ok (by rw[<-hq.1];exact hq.2.1)
   ·exact ih x hx
 exact all r x hx
theorem KR(ok:gP P w H h)(e:H a=some (.dT kvs)):kvs.length<=sizeLine/\(a==sysModules)=false /\
  ∃xs,KT H kvs xs/\h.DictOfH (tupleKind (aP P w)) a xs:=vt ok (.inl e)
end
def pX(H:Hp)(a:Addr)(y:V)(r:Option V):Prop :=
 (∃kvs k,Rd H a (.dK kvs)/\y=kV k/\r=gE kvs k)\/∃kvs k b,Rd H a (.dT kvs)/\y=.ref b/\H b=some (.tup (k.map kV))/\r=gE kvs k
def Cd(H:Hp)(a:Addr)(y v:V)(H':Hp):Prop :=
 (∃kvs k,H a=some (.dK kvs)/\y=kV k/\kvs.length<sizeLine/\H'=upd H a (.dK (putK kvs k v))) \/
 ∃kvs k b,H a=some (.dT kvs)/\y=.ref b/\H b=some (.tup (k.map kV))/\kvs.length<sizeLine/\H'=upd H a (.dT (putK kvs k v))
theorem pX.k{H:Hp}{a:Addr}{kvs:List (Key×V)}{k:Key}(e:H a=some (.dK kvs)):pX H a (kV k) (gE kvs k):=.inl ⟨kvs,k,.inl e,rfl,rfl⟩
theorem Cd.k{H:Hp}{a:Addr}{kvs:List (Key×V)}{k:Key}{v:V}(e:H a=some (.dK kvs))(hl:kvs.length<sizeLine):Cd H a (kV k) v (upd H a (.dK (putK kvs k v))):=.inl ⟨kvs,k,e,rfl,hl,rfl⟩
section
variable {X:Cx} {pins:List (Addr×Obj)} {σ:St} {H:Hp} {s:Shared} {a:Addr} {y v:V} {u r:Value} {o:Option V} {A:Around} {E:Value->Shared->Prop}
theorem Inv.big(I:Inv X pins σ H s):sysModules<s.heap.objs.size:=by
 have h:mainGlobals<s.heap.objs.size:=(I.mod.glob.keeps I.bk).lt;exact lt_trans (by decide) h
theorem xE(hu:A.units+1<cLine)(I:Inv X pins σ H s)(g:pX H a y (some v))(ry:RelV y u)(h:∀w' s',Inv X pins σ H s'->RelV v w'->Q w' s') :
  wpAny (model X.prog X.w) A (getItem (.ref a) u) Q E s:=by
 rcases g with ⟨kvs,k,e,ey,l⟩|⟨kvs,k,b,e,ey,eb,l⟩
 ·subst ey;obtain⟨z,hd,vs,rel,dd⟩:=qW I.hok e;obtain⟨w',hw,rw'⟩:=lG.some_of (v:=v) (o:=valueAt vs k) (by rw[l];exact rel.val k);exact wpAny_getItem_of (vp ry) dd.mapOf hw (h w' _ (I.tok _) rw')
 ·subst ey;cases (show u=Value.ref b from ry);obtain⟨z,hd,xs,rel,dd⟩:=vt I.hok e;obtain⟨w',hw,rw'⟩:=lG.some_of (v:=v) (o:=(atKey xs k).map (·.2)) (by rw[l];exact rel.val k);obtain⟨p,hp,hp2⟩:=Uj.mp hw;refine wpAny_getItem_heap (tupleKind_room_in1 hu) (uf I.hok eb) dd hp ?_;rw[hp2];exact h w' _ (I.tok _) rw'
theorem pY{t':Nat}(I:Inv X pins σ H s)(mu:J6 (H a))(hs:Heap.SameBut a s.heap h')(he:∃q,h'.get? a=some q)(new:aV X.prog X.w (upd H a ob) h' a ob) :
  Inv X pins σ (upd H a ob) { s with heap:=h',toks:=t' } :=
 I.write (x:=a) (e:=a) mu (.inl rfl) (λb q hb z=>(hs.2 b hb).trans z) he new
theorem zg(z:kvs.length<=sizeLine)(hd:(a==sysModules)=false)(rel:KV kvs vs)(dd:h'.DictOf (aP P w) a vs) :
  aV P w H' h' a (.dK kvs):=⟨z,hd,vs,rel,dd⟩
theorem xF(hu:A.units+1<cLine)(I:Inv X pins σ H s)(g:Cd H a y v H')(ry:RelV y u)(rv:RelV v r)(h:∀s',Inv X pins σ H' s'->Q () s') :
  wpAny (model X.prog X.w) A (setItem (.ref a) u r) Q E s:=by
 rcases g with ⟨kvs,k,e,ey,l,eH⟩|⟨kvs,k,b,e,ey,eb,l,eH⟩
 ·subst ey eH
  obtain⟨z,hd,vs,rel,dd⟩:=vq I.hok e;have hz:vs.length<=sizeLine:=by rw[<-rel.length];exact z
  have hl:(putK kvs k v).length<=sizeLine:=by have:=g9 kvs k v;omega
  refine wpAny_setItem_pairs (hsz:=hz) (vp ry) dd λh' Ge hs=>h _ ?_;have he:∃q,h'.get? a=some q:=let ⟨q,_,_,hq,_⟩:=Ge;⟨q,hq⟩
  exact pY I (by rw[e];exact UB) hs he (zg hl hd (rel.put k rv) Ge)
 ·subst ey eH
  cases (show u=Value.ref b from ry);obtain⟨z,hd,xs,rel,dd⟩:=KR I.hok e;have hz:xs.length<=sizeLine:=by rw[<-Wl rel];exact z
  have hl:(putK kvs k v).length<=sizeLine:=by have:=g9 kvs k v;omega
  refine wpAny_setItem_heap (hsz:=hz) (tupleKind_room_in1 hu) (uf I.hok eb) dd λh' Ge hs=>h _ ?_;obtain⟨q,es,ep,hq,h2,h3,h4,_,h5⟩:=Ge;refine pY I (by rw[e];exact UB) hs ⟨q,hq⟩ ⟨hl,hd,_,(rel.put k eb rv).keeps λc ys ec=>?_,q,es,ep,hq,h2,h3,h4,h5⟩;rw[aj (J2 ec e (λz=>nomatch z))];exact ec
end
section
variable {X:Cx} {pins:List (Addr×Obj)} {σ:St} {H:Hp} {s:Shared} {a:Addr} {kvs:List (Key×V)} {k:Key} {u:Value} {A:Around} {E:Value->Shared->Prop}
theorem KS(I:Inv X pins σ H s)(e:Rd H a (.dK kvs))(h:∀t s',Inv X pins σ H s'->Q (.int kvs.length t) s'):wpAny (model X.prog X.w) A (call (.builtin "len") [.ref a]) Q E s:=by
 obtain⟨z,hd,vs,rel,dd⟩:=qW I.hok e;refine call_len_dict hd dd (by rw[<-rel.length];rw[UI]at z;omega) ?_;rw[<-rel.length];exact h _ _ (I.tok _)
end
theorem qX(I:Inv X pins σ H s)(g:pX H a y o):s.TypeIs (.ref a) "dict":=by
 rcases g with ⟨kvs,k,e,_,_⟩|⟨kvs,k,b,e,_,_,_⟩
 ·obtain⟨_,_,vs,_,dd⟩:=qW I.hok e;exact dd.typeIs
 ·obtain⟨_,_,xs,_,dd⟩:=vt I.hok e;exact dd.typeIs
theorem qY(h:Heap)(hb:sysModules<h.objs.size):aV P w H (h.push { cls:=.type "dict",data:=.dict #[] }) h.objs.size (.dK []) :=
 ⟨U8 _,UP.mpr (Ne.symm (T9 hb)),[],.nil,Heap.DictOf.new h⟩
def Gf:TE:=λ_ H Q=>∀p,H p=none->Q (.ref p) (upd H p (.dK []))
section
variable {X:Cx} {pos:Pos}
theorem zh:PE X (.Dict [] [] pos) Gf:=λpins s σ H Q I h=>
 wpAny_Dict_empty ⟨.ref s.heap.objs.size,_,I.laid (a:=s.heap.objs.size) (o:=.dK []) (t':=s.toks) (λ_ _ q=>TF _ q) (TV _) (qY s.heap I.big),rfl,h _ (I.hok.fresh (TV _))⟩
end
def ug:List (TE×TE)->St->Hp->(List (V×V)->Hp->Prop)->Prop
 |[],_,H,Q=>Q [] H
 |(tk,tv)::r,σ,H,Q=>tk σ H λx H1=>tv σ H1 λy H2=>ug r σ H2 λps H3=>Q ((x,y)::ps) H3
abbrev VV:List (V×V)->List (Value×Value)->Prop:=Paired λp q=>RelV p.1 q.1/\RelV p.2 q.2
def Nu(X:Cx)(pos:Pos)(keys:List (Option Expr))(values:List Expr)(Gg:List (TE×TE)):Prop :=
 ∀(pins:List (Addr×Obj)) (s:Shared) (σ:St) (H:Hp) (Q:List (V×V)->Hp->Prop),Inv X pins σ H s->ug Gg σ H Q ->
  wpAny (model X.prog X.w) X.A (evalPairs (pairTrees keys values X.env pos)) (λvs s'=>∃ps H',Inv X pins σ H' s'/\VV ps vs/\Q ps H') X.xe s
theorem Ce:Nu X pos [] [] []:=λpins s σ H Q I h=>pairTrees_nil_walk ⟨[],H,I,.nil,h⟩
theorem qZ(hk:PE X k tk)(hv:PE X v tv)(hr:Nu X pos ks vs Gg) :
  Nu X pos (some k::ks) (v::vs) ((tk,tv)::Gg):=λpins s σ H Q I h=>
 pairTrees_cons_walk (bY (hk pins s σ H _ I h) λu s1 ⟨x,H1,I1,rx,q1⟩=>bY (hv pins s1 σ H1 _ I1 q1) λw2 s2 ⟨y,H2,I2,ry,q2⟩=>
  bY (hr pins s2 σ H2 _ I2 q2) λws s3 ⟨ps,H3,I3,rel,q3⟩=>⟨(x,y)::ps,H3,I3,.cons ⟨rx,ry⟩ rel,q3⟩)
def gF(kvs more:List (Key×V)):List (Key×V):=more.foldl (λacc kv=>putK acc kv.1 kv.2) kvs
theorem KV.merge:∀{more:List (Key×V)} {rs:List (Key×Value)} {kvs:List (Key×V)} {vs:List (Key×Value)},KV more rs->KV kvs vs->KV (gF kvs more) (merged vs rs):=by
 intro more rs kvs vs r;unfold KV at r
 induction r generalizing kvs vs with
 |nil=>intro q;exact q
 |@cons p q ps qs h t ih=>
  intro r0;have e:KV (putK kvs p.1 p.2) (stored vs q.1 q.2):=by have:=r0.put p.1 h.2;rw[<-h.1];exact this
  exact ih e
theorem ja:∀(more kvs:List (Key×V)),(gF kvs more).length<=kvs.length+more.length
 |[],kvs=>by show kvs.length<=kvs.length+0;omega
 | p::r,kvs=>by
  have h1:=ja r (putK kvs p.1 p.2);have h2:=g9 kvs p.1 p.2;show (gF (putK kvs p.1 p.2) r).length<=_;rw[UA];omega
theorem mG:∀{kvs:List (Key×V)} {ws:List (Value×Value)},VV (kvs.map λkv=>(kV kv.1,kv.2)) ws->∃rs,Carries (aP P w) ws rs/\KV kvs rs
 |[],_,r=>by rw[VS]at r;cases r;exact⟨[],UB,.nil⟩
 | p::kvs,_,r=>by
  rw[T6]at r;cases r with
  |@cons a b as bs h t=>obtain⟨rs,c,q⟩:=mG (P:=P) (w:=w) t;obtain⟨b1,b2⟩:=b;exact⟨(p.1,b2)::rs,⟨vp h.1,rfl,c⟩,.cons ⟨rfl,h.2⟩ q⟩
def KW(Gg:List (TE×TE)):TE:=λσ H Q=>∀p,H p=none->ug Gg σ (upd H p (.dK [])) λps H2=>H2 p=some (.dK [])/\∃kvs:List (Key×V),ps=kvs.map (λkv=>(kV kv.1,kv.2))/\kvs.length<=15/\Q (.ref p) (upd H2 p (.dK (gF [] kvs)))
theorem Cf(h:Nu X pos keys values Gg)(hall:keys.all (·.isSome)=true)(hl:keys.length=values.length)(h0:keys≠[])
  (Q5:keys.length<=15):PE X (.Dict keys values pos) (KW Gg):=by
 intro pins s σ H Q I q;have hn:=I.hok.fresh (TV s.heap.objs.size);have I1:=I.laid (a:=s.heap.objs.size) (o:=.dK []) (h':=s.heap.push { cls:=.type "dict",data:=.dict #[] }) (t':=s.toks) (λ_ _ q=>TF _ q) (TV _) (qY s.heap I.big);refine wpAny_Dict_walk (knd:=aP X.prog X.w) hall hl h0 Q5 (bY (h pins _ σ _ _ I1 (q _ hn)) λws s2 aE=>?_);obtain⟨ps,H2,I2,rel,e,kvs,ep,lk,q2⟩:=aE;subst ep;obtain⟨rs,c,rk⟩:=mG (P:=X.prog) (w:=X.w) rel;obtain⟨z,hd,Tg,r0,dd⟩:=vq I2.hok e;cases r0;refine⟨rs,c,dd,λh' Ge hs=>⟨.ref s.heap.objs.size,_,?_,rfl,q2⟩⟩;have hz:(gF [] kvs).length<=sizeLine:=by have h1:=ja kvs [];rw[Wv]at h1;rw[UI];omega
 have he:∃q,h'.get? s.heap.objs.size=some q:=let ⟨q,_,_,hq,_⟩:=Ge;⟨q,hq⟩
 exact pY I2 (by rw[e];exact UB) hs he (zg hz hd (rk.merge .nil) Ge)
def Q6(H:Hp)(a:Addr):Prop:=(∃kvs,Rd H a (.dK kvs))\/∃kvs,Rd H a (.dT kvs)
theorem zj(I:Inv X pins σ H s)(d:Q6 H a) :
  s.TypeIs (.ref a) "dict" /\ (∀b,Value.ref a=.ref b->∃ob,s.heap.get? b=some ob/\ob.dict=none)/\(a==sysModules)=false:=by
 rcases d with ⟨kvs,e⟩|⟨kvs,e⟩
 ·obtain⟨_,hd,vs,_,dd⟩:=qW I.hok e;refine⟨dd.typeIs,λb q=>?_,hd⟩;cases q;obtain⟨ob,_,_,h1,h2,_⟩:=dd;exact⟨ob,h1,h2.2.1⟩
 ·obtain⟨_,hd,xs,_,dd⟩:=vt I.hok e;refine⟨dd.typeIs,λb q=>?_,hd⟩;cases q;obtain⟨ob,_,_,h1,h2,_⟩:=dd;exact⟨ob,h1,h2.2.1⟩
end L2
namespace Qi
open PySem PySem.W PySem.Calls PyProof.Rows
theorem lJ:∀(ns:List Int) (vs:List Value),WellAll P h vs (ns.map WData.int)->IntsAre vs ns:=by
 intro ns
 induction ns with
 |nil=>intro vs w;rw[VS]at w;cases w;exact .nil
 |cons n ns ih=>
  intro vs w;rw[T6]at w;cases w with
  |cons a b=>cases a;exact .cons _ _ (ih _ b)
theorem xG{l:OpenLaw}{n:Nat}(hn:l.most=some n){P:Params}{h:Heap}{args:List WData}{vals:List Value}
  (hpre:l.row.toRowW.claim.pre args=true) (hwl:WellAll P h vals args) :
  ∃a vs ns,vals=[Value.ref a]/\args=[WData.list (ns.map WData.int)]/\h.get? a=some { cls:=.type "list",data:=.seq vs.toArray }/\IntsAre vs ns/\ns.length<=n:=by
 have hsh:WShape.hasAll [] args [.list .int]=true:=(pre_splitW hpre).1;have hc:l.pre.holds [] { args:=args }=true:=(pre_splitW hpre).2;obtain⟨d,r,rfl,h1,h2⟩:=hasAllW_cons hsh;obtain rfl:=hasAllW_nil h2;obtain⟨xs,rfl,h3⟩:=hasW_list h1;obtain⟨ns,rfl⟩:=items_int h3;have hlen:ns.length<=n:=by
  unfold OpenLaw.pre at hc;have h4:(WTm.not (.lt (.lit (.int (n:Int))) (.len (.arg 0)))).holds [] { args:=[.list (ns.map .int)] }=true:=by have h4:=(holds_andW hc).1;rw[hn]at h4;exact h4
  have h5:=condW_of h4 (w_not (w_lt w_lit (w_len_list (w_arg rfl))));rw[TQ]at h5;refine Nat.le_of_not_lt λq=>?_;have q':(n:Int)<((ns.length:Nat):Int):=by omega
  first
   |(rw[decide_eq_true q']at h5;exact absurd h5 (by decide))
   |(simp at h5;omega)
 cases hwl with
 |cons w1 w2=>
  cases w2;cases w1 with
  |list ho hall=>exact⟨_,_,ns,rfl,rfl,ho,lJ ns _ hall,hlen⟩
theorem xH(l:OpenLaw)(args:List WData):l.row.toRowW.claim.post args (.bool true) args=true :=
 postW_of (r:=l.row.toRowW) (X:=(true==true))
  (show WShape.has [] (.bool true) .bool=true by first|rfl|decide|simp[WShape.has,WShape.arms,WShape.armsAll])
  (show (WTm.eq .res (.lit (.bool true))).value [] { args:=args,res:=some (.bool true),after:=args }=some (.bool (true==true)) from w_eq_bool (w_res rfl) w_lit) rfl
theorem rj{l:OpenLaw}{n:Nat}{q:Program}{loose:List Str}{XP:(Str->Option Value)->Heap->Prop}{YP:World->Heap->Prop}{d:DefRec}
  (hn:l.most=some n) (hdf:d.params.defaults=[])
  (call:∀(w:World) (s₀ s₁:Shared) (mg mb:Str->Option Value) (fa:Addr) (o:Obj) (pm cd doc:Value) (a:Addr) (vs:List Value) (ns:List Int),
   Ground q loose [] XP w s₀ mg mb s₁.heap->YP w s₁.heap ->
   s₁.heap.get? fa=some o->o.data=.func (docDef d.name d.params d.body d.scope pm cd doc)->s₁.heap.CodeRec cd d.name->mg d.name=some (.ref fa) ->
   s₁.heap.get? a=some { cls:=.type "list",data:=.seq vs.toArray }->IntsAre vs ns->ns.length<=n->s₁.gens = #[] ->
   codeAny (model l.prog w) callerA (.call (.ref fa) ⟨[.ref a],[]⟩) (λr s'=>r=.ok (.ret (.bool true))/\OldK s₁.heap s'.heap/\s'.os=s₁.os/\AllBare s'.gens) s₁) :
  WalkO q loose XP YP l.row.toRowW d [] (λf vs=>PySem.call f vs):=by
 intro w s₀ s₁ mg mb G Y fa o pm cd doc dV kV ho hd hcd hD hmg hg args vals as hpre hlay hrd hwl hlo;obtain rfl:dV=.none:=Dflts.none hD hdf;obtain rfl:kV=.none:=Dflts.noKw hD;obtain⟨a,vs,ns,rfl,rfl,hobj,hints,hlen⟩:=xG hn hpre hwl;refine enter_call (Vq (call w s₀ s₁ mg mb fa o pm cd doc a vs ns G Y ho (fd_plain hd) hcd hmg hobj hints hlen hg) λr s' hq=>?_);obtain⟨rfl,h2,h3,h4⟩:=hq;exact⟨.inl ⟨.bool true,.bool true,[],rfl,λ_=>rfl,.bool true,xH l _,λ_=>⟨List.Pairwise.nil,λ_ hm=>(nomatch hm)⟩⟩,h2,h3,h4⟩
end Qi
namespace L2
open PySem PySem.Spec PyProof.Rows
theorem eG:∀{vs:List Value} {ns:List Int},IntsAre vs ns->Vals (ns.map V.int) vs
 |_,_,.nil=>.nil
 |_,_,.cons n t h=>.cons ⟨t,rfl⟩ (eG h)
def zk(H:Hp):Prop:=∀b,H b=none\/∃o xs,H b=some (.oz o (.lst xs))
theorem zl{P:Program}{w:World}{K:Frag}{mg mb:Str->Option Value}{CX:t9}{k:Nat}{fa a:Addr}{fd:FuncData}{x:Str}{sp:Sp}{s₁:Shared}{vs:List Value}{ns:List Int}
  (KX:K.In s₁.heap) (hns:s₁.heap.Ns mainGlobals mg) (hb:s₁.heap.Ns builtinsNs mb) (Nv:∀x:Str,x ≠ "__name__" -> mb x=bootBuiltins x) (hlim:s₁.heap.NoLimit) (hg:s₁.gens = #[])
  (ha:s₁.heap.get? a=some { cls:=.type "list",data:=.seq vs.toArray }) (hi:IntsAre vs ns) (hl:ns.length<=sizeLine) (hr:cD k callerA)
  (F:∀base:Heap,K.In base->base.Ns mainGlobals mg->cE P w K mg base CX k fa fd [x] sp) (hbind:∀(s:Shared) (u:Value),BindsTo s fd ⟨[u],[]⟩ [(x,u)])
  (hsp:∀H:Hp,zk H->fJ K H a (ns.map V.int)->sp [.ref a] H (λv _=>v=.bl true) λ_ _ _=>False)
  (hCX:∀H e s',CX [] H s₁ (λ_ _ _=>False) e s'->False) :
  codeAny (model P w) callerA (.call (.ref fa) ⟨[.ref a],[]⟩) (λr s'=>r=.ok (.ret (.bool true))/\OldK s₁.heap s'.heap/\s'.os=s₁.os/\AllBare s'.gens) s₁:=by
 have rv:=eG hi;have Oq:=hi.length;have core:∀H:Hp,zk H->fJ K H a (ns.map V.int)->gP P w H s₁.heap->(∀b,H b≠none->b=a)->(H a≠none->K.lookup a=none) ->
   codeAny (model P w) callerA (.call (.ref fa) ⟨[.ref a],[]⟩) (λr s'=>r=.ok (.ret (.bool true))/\OldK s₁.heap s'.heap/\s'.os=s₁.os/\AllBare s'.gens) s₁:=by
  intro H hO hS hok hA hK;have base_of:∀{b:Addr} {o:Obj},s₁.heap.get? b=some o->H b=none->(pP s₁.heap H).get? b=some o:=λe n=>yM e n;have noA:∀{b:Addr} {o:Obj} {es:Array DictEntry} {ep:Nat},s₁.heap.get? b=some o->o.data=.dict es ep->H b=none:=λ{b o es ep} e d=>by
   cases q:H b with
   |none=>rfl
   |some u=>have e':b=a:=hA b (by rw[q];simp);subst e';rw[ha]at e;cases e;have d':Data.seq vs.toArray _=Data.dict es ep:=d;cases d'
  have nsK:∀{b:Addr} {m:Str->Option Value},s₁.heap.Ns b m->(pP s₁.heap H).Ns b m:=λ{b m} ⟨o,es,ep,e,d,r⟩=>⟨o,es,ep,base_of e (noA e d),d,r⟩;have Qj:K.In (pP s₁.heap H):=λb o e=>base_of (KX b o e) (by
   cases q:H b with
   |none=>rfl
   |some u=>have e':b=a:=hA b (by rw[q];simp);subst e';rw[hK (by rw[q];simp)]at e;cases e)
  have hM:Mod K mg (pP s₁.heap H):=⟨Qj,nsK hns,⟨mb,nsK hb,Nv⟩,let ⟨mc,h1,h2⟩:=hlim;⟨mc,nsK h1,h2⟩⟩;have e0:ua P w K mg (pP s₁.heap H) callerA [] s₁ H:=⟨rfl,hM,λb o e=>BJ e,Nat.le_of_eq (wZ _ _),trivial,λb hb=>absurd (show b∈([]:List Addr) from hb) (by simp),hok,.of_eq hg⟩;refine Vq ((F _ Qj (nsK hns)).run callerA [] s₁ H ⟨[.ref a],[]⟩ [.ref a] [.ref a] _ _ hr e0 (hbind s₁ (.ref a)) #[rfl] (hsp H hO hS)) λr s' h=>?_;cases r with
  |error e=>exact(hCX H e s' h).elim
  |ok fl=>
   cases fl with
   |next=>exact False.elim h
   |brk=>exact False.elim h
   |cont=>exact False.elim h
   |ret u=>
    obtain⟨v,H',os,bare,un,Ot,r',q⟩:=h;have q':v=.bl true:=q;subst q';obtain rfl:u=Value.bool true:=r';refine⟨rfl,OldK.of_keep λb o e=>?_,os,bare⟩;cases q:H b with
    |none=>exact un.keep b o e q (by intro z;exact absurd (show b∈([]:List Addr) from z) (by simp)) (by simp)
    |some u=>
     rcases hO b with z|⟨ob,xs,z⟩
     ·rw[q]at z;cases z
     ·have z2:=un.frzs b ob _ z;obtain⟨e1,_⟩:=hok b _ z;obtain⟨e2,_⟩:=Ot b _ z2;rw[e]at e1;cases e1;exact e2
 cases hk:K.lookup a with
 |some o=>have e:=KX a o hk;rw[ha]at e;cases e;refine core (λ_=>none) (λ_=>.inl rfl) (.inr ⟨_,vs.toArray,_,hk,rfl,rfl,rfl,by rw[TZ,Oq];exact hl,by simpa using rv⟩) (λb u z=>by have z':(none:Option HO)=some u:=z;cases z') (λb z=>absurd rfl z) λz=>absurd rfl z
 |none=>
  refine core (λb=>if b=a then some (.oz { cls:=.type "list",data:=.seq vs.toArray } (.lst (ns.map V.int))) else none) (λb=>?_) (.inl (.inr ⟨{ cls:=.type "list",data:=.seq vs.toArray },T4 rfl⟩)) (λb u z=>?_) (λb z=>?_) λ_=>hk
  ·by_cases hb:b=a
   ·exact .inr ⟨_,_,T4 hb⟩
   ·exact .inl (TX hb)
  ·by_cases hb:b=a
   ·have z':=(T4 hb).symm.trans z;cases z';subst hb;exact⟨ha,by rw[TQ];exact hl,vs,_,rv,ha⟩
   ·have z':=(TX hb).symm.trans z;cases z'
  ·by_cases hb:b=a
   ·exact hb
   ·exact absurd (TX hb) z
theorem Cg{l:PySem.W.OpenLaw}{n k:Nat}{q:Program}{loose:List Str}{XP:(Str->Option Value)->Heap->Prop}{YP:World->Heap->Prop}{d:DefRec}{K:Params->Frag}{CX:World->t9}{sp:World->Sp}{x:Str}
  (hn:l.most=some n) (hn2:n<=sizeLine) (hdf:d.params.defaults=[]) (hr:cD k callerA)
  (hY:∀(w:World) (h:Heap),YP w h->(K w.params).In h)
  (F:∀(w:World) (mg:Str->Option Value) (fa:Addr) (h:Heap),(K w.params).In h->h.Ns mainGlobals mg->mg d.name=some (.ref fa) ->
   ∃fd:FuncData,(∀(s:Shared) (u:Value),BindsTo s fd ⟨[u],[]⟩ [(x,u)]) /\
    ∀base:Heap,(K w.params).In base->base.Ns mainGlobals mg->cE l.prog w (K w.params) mg base (CX w) k fa fd [x] (sp w))
  (hsp:∀(w:World) (H:Hp) (a:Addr) (ns:List Int),ns.length<=n->zk H->fJ (K w.params) H a (ns.map V.int)->sp w [.ref a] H (λv _=>v=.bl true) λ_ _ _=>False)
  (hCX:∀(w:World) (H:Hp) (s:Shared) (e:Value) (s':Shared),CX w [] H s (λ_ _ _=>False) e s'->False) :
  PySem.W.WalkO q loose XP YP l.row.toRowW d [] (λf vs=>PySem.call f vs):=by
 refine Qi.rj hn hdf λw s₀ s₁ mg mb fa o pm cd doc a vs ns G Y ho hd hcd hmg hobj hints hlen hg=>?_;have KX:=hY w _ Y;obtain⟨fd,hb,hF⟩:=F w mg fa _ KX G.T.g hmg;exact zl KX G.T.g G.T.b G.T.builtins G.T.nolimit hg hobj hints (Ut hlen hn2) hr hF hb (λH hO hS=>hsp w H a ns hlen hO hS) λH e s'=>hCX w H s₁ e s'
def jI(s:Stmt):Arguments:=match s with
 |.FunctionDef _ a _ _ _ _ _ _ _ _=>a
 |_=>{ posonlyargs:=[],args:=[],vararg:=none,kwonlyargs:=[],kw_defaults:=[],kwarg:=none,defaults:=[] }
def aC(s:Stmt):List Stmt:=match s with
 |.FunctionDef _ _ b _ _ _ _ _ _ _=>b
 |_=>[]
def af(s:Stmt):Scope:=match s with
 |.FunctionDef _ _ _ _ _ _ sc _ _ _=>sc
 |_=>{ kind:=.function,names:=[],isGenerator:=false,isCoroutine:=false }
abbrev rm:t9:=λ_ _ _ _ _ _=>False
abbrev E0:XK:=λ_ _ _=>False
theorem rq:Passes rm X E0:=λ_ _ _ _ _ _ _ h=>h.elim
structure zm (K:Frag) (x qual:Str) (st:Stmt) (f:Addr) (fd:FuncData):Prop where
 ex:∃(oc:Value) (od:Option Addr) (kV doc pm:Value) (an:Option Addr) (cdv ct:Value) (osl:Array (Option Value)),
  fd=fnOf x qual (jI st) (aC st) (af st) .none kV doc pm an cdv ct/\K.lookup f=some ⟨oc,od,.func fd,osl⟩/\codeIn K cdv qual=true
 kp:keepIn K (.ref f)=true
section
variable {P:Program} {w:World} {K:Frag} {mg:Str->Option Value} {base:Heap}
theorem zm.ok{x qual:Str}{st:Stmt}{f:Addr}{fd:FuncData}{N ps:List Str}{k:Nat}{sp:Sp}(F:zm K x qual st f fd)(S:jG N ps (af st))(len:∀vs H Q E,sp vs H Q E->vs.length=ps.length)
  (hbody:∀(cdv:Value) (A:Around) (outer:List Env) (s:Shared) (H:Hp) (vs:List V) (Q:VK) (E:XK),cD k (A.deeper (envOfC qual (af st) s.heap.objs.size f cdv))->sp vs H Q E ->
   ∃t,pQ (fQ rm P w K mg base N qual (af st) f cdv A outer s H E).yH (aC st) t/\t { nx:=λ_ H'=>Q .non H',rt:=Q } (start N vs) H):cE P w K mg base rm (k+1) f fd ps sp:=by
 obtain⟨oc,od,kV,doc,pm,an,cdv,ct,osl,rfl,lk,hcd⟩:=F.ex;refine Eg lk hcd S len λA outer s H vs Q E hr hsp=>?_;obtain⟨t,h,q⟩:=hbody cdv A outer s H vs Q E hr hsp;exact⟨t,h.yH,q⟩
theorem zm.binds{x qual:Str}{st:Stmt}{f:Addr}{fd:FuncData}{ps:List Str}(F:zm K x qual st f fd)
  (h:∀(kV doc pm:Value) (an:Option Addr) (cdv ct:Value) (us:List Value),us.length=ps.length->bindArgs (fnOf x qual (jI st) (aC st) (af st) .none kV doc pm an cdv ct) ⟨us,[]⟩=pure (ps.zip us)):Binds K fd ps []:=by
 obtain⟨oc,od,kV,doc,pm,an,cdv,ct,osl,rfl,lk,hcd⟩:=F.ex;exact .all (h kV doc pm an cdv ct)
theorem fun_mk{x qual:Str}{st:Stmt}{f:Addr}{oc:Value}{od an:Option Addr}{osl:Array (Option Value)}{kV doc pm cdv ct:Value}(l:K.lookup f=some ⟨oc,od,.func (fnOf x qual (jI st) (aC st) (af st) .none kV doc pm an cdv ct),osl⟩)
  (c:codeIn K cdv qual=true) (k:keepIn K (.ref f)=true):zm K x qual st f (fnOf x qual (jI st) (aC st) (af st) .none kV doc pm an cdv ct):=⟨⟨oc,od,kV,doc,pm,an,cdv,ct,osl,rfl,l,c⟩,k⟩
end
section
variable {X:Cx}
theorem xK:bK X (.builtin "len") (λxs H Q=>∃a kvs,xs=[V.ref a]/\H a=some (.dK kvs)/\Q (.int kvs.length) H):=by
 intro pins s σ H xs us Q I r h;obtain⟨a,kvs,rfl,ha,q⟩:=h;obtain⟨u,rfl,ru⟩:=vals1 r;cases ru;exact KS I (.inl ha) λt s' I'=>⟨.int kvs.length,H,I',⟨t,rfl⟩,q⟩
end
def uh(H H':Hp):Prop:=∀b o,H b=some o->H' b=some o
theorem uh.seq{K:Frag}{H H':Hp}{a:Addr}{xs:List V}(e:uh H H')(h:fJ K H a xs):fJ K H' a xs:=by
 rcases h with (h|⟨o,h⟩)|h
 ·exact .inl (.inl (e _ _ h))
 ·exact .inl (.inr ⟨o,e _ _ h⟩)
 ·exact .inr h
theorem jm(env:Env):∀(names:List (Str×NameKind)) (acc:List (Str×Addr)),(∀y∈names,y.2=.free->∃c,env.cells.lookup y.1=some c) ->
  (∀x c,acc.lookup x=some c->env.cells.lookup x=some c) ->
  ∃cl,(forIn names acc λx r=>if (x.snd==NameKind.free)=true then do let c <-cellOf env x.fst;pure (ForInStep.yield ((x.fst,c)::r)) else pure (ForInStep.yield r))=(pure cl:Sem (List (Str×Addr))) /\
   (∀x c,cl.lookup x=some c->env.cells.lookup x=some c)/\∀x,((x,NameKind.free)∈names\/∃c,acc.lookup x=some c)->∃c,cl.lookup x=some c
 |[],acc,_,ha=>⟨acc,rfl,ha,λx h=>h.elim (λz=>nomatch z) λz=>z⟩
 | (n,k)::r,acc,hn,ha=>by
  have hr:∀y∈r,y.2=NameKind.free->∃c,env.cells.lookup y.1=some c:=λy hy=>hn y (TM _ hy)
  by_cases hk:k=.free
  ·subst hk
   obtain⟨c,hc⟩:=hn (n,.free) TU rfl;have ha':∀x d,((n,c)::acc).lookup x=some d->env.cells.lookup x=some d:=λx d h=>by
    rw[lookup_cons]at h;cases e:x==n with
    |true=>rw[e]at h;have e':x=n:=eq_of_beq e;cases h;rw[e'];exact hc
    |false=>rw[e]at h;exact ha x d h
   obtain⟨cl,e1,e2,e3⟩:=jm env r ((n,c)::acc) hr ha';refine⟨cl,?_,e2,λx h=>?_⟩
   ·rw[List.forIn_cons]
    have hco:cellOf env n=pure c:=by unfold cellOf;rw[hc]
    simp only[beq_self_eq_true,if_true,hco];exact e1
   ·by_cases hx:x=n
    ·subst hx;exact e3 x (.inr ⟨c,by simp[lookup_cons]⟩)
    ·rcases h with h|⟨d,h⟩
     ·rcases T8.mp h with z|z
      ·exact absurd (UM Prod.fst z) hx
      ·exact e3 x (.inl z)
     ·refine e3 x (.inr ⟨d,?_⟩);rw[lookup_cons];have:(x==n)=false:=UP.mpr hx;rw[this];exact h
  ·have hb:(k==NameKind.free)=false:=UP.mpr hk
   obtain⟨cl,e1,e2,e3⟩:=jm env r acc hr ha;refine⟨cl,?_,e2,λx h=>e3 x ?_⟩
   ·rw[List.forIn_cons];simp only[hb,false_eq_true,if_false];exact e1
   ·rcases h with h|h
    ·rcases T8.mp h with z|z
     ·cases z;exact absurd rfl hk
     ·exact .inl z
    ·exact .inr h
theorem mH(h:∀y∈scope.names,y.2=.free->∃c,env.cells.lookup y.1=some c) :
  ∃cl,closureFor scope env=pure cl/\(∀x c,cl.lookup x=some c->env.cells.lookup x=some c)/\∀x,(x,NameKind.free)∈scope.names->∃c,cl.lookup x=some c:=by
 obtain⟨cl,e1,e2,e3⟩:=jm env scope.names [] h (λx c z=>by simp at z);refine⟨cl,?_,e2,λx hx=>e3 x (.inl hx)⟩;unfold closureFor;simp only[bind_pure];exact e1
def bz(X:Cx)(scope:Scope)(N':List Str)(cl:List (Str×Addr))(C:Addr)(s:Shared)(H:Hp)(fp:List Addr):Cx :=
 { prog:=X.prog,w:=X.w,K:=X.K,mg:=X.mg,base:=X.base,A:=X.A,N:=N',s₀:=s,H₀:=H,env:=compEnvC scope cl C X.env,outer:=X.stack,stack:=X.stack,ex:=fp,fn:=λ_=>false,calm:=X.calm,pn:=[],xe:=λ_ _=>False }
def gG(js:List (Option Nat))(σ:St):St:=js.map λo=>match o with
 |none=>none
 | some j=>match σ[j]? with
  |some (some v)=>some v
  |_=>none
def pZ(sc:Scope)(x:Str):Bool:=sc.names.lookup x==some .cell||sc.names.lookup x==some .free
def iL(XN:List Str)(xsc scope:Scope)(N':List Str)(js:List (Option Nat)):Bool :=
 scope.kind==.function&&(scope.names.all λy=>y.2 != .local||scope.names.lookup y.1==some .local)&&(scope.names.all λy=>y.2 != .cell) &&
 (scope.names.all λy=>y.2 != .free||(pZ xsc y.1&&scope.names.lookup y.1==some .free))&&js.length==N'.length &&
 ((N'.zip js).all λp=>match p.2 with|none=>true|some j=>XN[j]?==some p.1&&scope.names.lookup p.1==some .free)
structure p7 (X:Cx) (scope:Scope) (N':List Str) (js:List (Option Nat)):Prop where
 kind:scope.kind=.function
 names:∀y∈scope.names,y.2=.local->scope.names.lookup y.1=some .local
 zo:∀y∈scope.names,y.2≠.cell
 free:∀y∈scope.names,y.2=.free->pZ X.env.scope y.1=true/\scope.names.lookup y.1=some .free
 len:js.length=N'.length
 src:∀(i:Nat) (x:Str) (j:Nat),N'[i]?=some x->js[i]?=some (some j)->X.N[j]?=some x/\scope.names.lookup x=some .free
theorem oO(h:iL X.N X.env.scope scope N' js=true):p7 X scope N' js:=by
 unfold iL at h;simp only[and_eq_true,all_eq_true]at h;obtain⟨⟨⟨⟨⟨h1,h2⟩,h3⟩,h4⟩,h5⟩,h6⟩:=h;refine⟨eq_of_beq h1,λy hy e=>?_,λy hy e=>?_,λy hy e=>?_,eq_of_beq h5,λi x j e1 e2=>?_⟩
 ·have:=h2 y hy;rw[e]at this;simpa using this
 ·have:=h3 y hy;rw[e]at this;simp at this
 ·have:=h4 y hy;rw[e]at this;simpa using this
 ·have hm:(x,some j)∈N'.zip js:=by
   refine VY.mpr ⟨i,?_⟩;rw[VA];exact⟨e1,e2⟩
  have:=h6 _ hm;simpa using this
theorem jb(js:List (Option Nat))(σ:St):(gG js σ).length=js.length:=by unfold gG;rw[TQ]
def Ci(X:Cx)(ifs:List Expr)(t:TT):Prop :=
 ∀(pins:List (Addr×Obj)) (s:Shared) (σ:St) (H:Hp) (Q:Bool->Hp->Prop),Inv X pins σ H s->t σ H Q ->
  wpAny (model X.prog X.w) X.A (forIn ifs true λc r=>if r=true then do let ok <-isTrue c X.env (eval c X.env);pure (ForInStep.yield ok) else pure (ForInStep.yield r)) (TP X pins σ Q) X.xe s
def rA:TT:=λ_ H Q=>Q true H
theorem Cj:Ci X [] rA:=λ_ _ _ H _ I h=>wpAny_tests_nil ⟨H,I,h⟩
theorem Ck(h:PT X c t):Ci X [c] t:=λpins s σ H Q I hw=>wpAny_tests_one (h pins s σ H Q I hw)
def zp(wi:TI)(js:List (Option Nat))(g:TG)(tt:TT)(te:TE):TE:=λσ H Q=>wi σ H λJ H1=>∀D,H1 D=none->∃W:Nat->Nat->St->Hp->Prop,(∃m,W 0 m (gG js σ) (upd H1 D (.lst []))) /\
 ∀i m σ' H,W i m σ' H->(J.stop i H/\Q (.ref D) H)\/(J.go i H/\∃N:St->Hp->Prop,(∀yI H',N yI H'->∃m',m'<m/\W (i+1) m' yI H') /\
  ∀x H',J.tW i H x H'->g x σ' H' λσ2 H2=>tt σ2 H2 λb H3=>if b=true then te σ2 H3 λy H4=>∃ys,H4 D=some (.lst ys)/\ys.length<sizeLine/\N σ2 (upd H4 D (.lst (ys++[y]))) else N σ2 H3)
theorem nY(hc:∀y∈scope.names,y.2≠.cell)
  (h:(relabel scope env).names.lookup x=some .cell\/(relabel scope env).names.lookup x=some .free):(x,NameKind.free)∈scope.names:=by
 unfold relabel at h;simp only at h;generalize scope.names=ns at hc h
 induction ns with
 |nil=>simp at h
 |cons p r ih=>
  obtain⟨n,k⟩:=p;have hc':∀y∈r,y.2≠.cell:=λy hy=>hc y (TM _ hy);simp only[map_cons]at h;cases hx:x==n with
  |true=>
   have e':x=n:=eq_of_beq hx;subst e'
   by_cases hk:k=.free
   ·subst hk;exact TU
   ·have hk2:=hc (x,k) TU
    have hb:(k==NameKind.free)=false:=UP.mpr hk;rw[hb]at h;simp only[Bool.false_and,false_eq_true,if_false,lookup_cons,beq_self_eq_true]at h
    rcases h with h|h
    ·exact absurd (Uh h) hk2
    ·exact absurd (Uh h) hk
  |false=>
   refine TM _ (ih hc' ?_)
   by_cases hk:(k==NameKind.free&&env.scope.kind==.function&&env.kindOf n==some .cell)=true
   ·rw[T4 hk]at h;simp only[lookup_cons,hx]at h;exact h
   ·rw[TX hk]at h;simp only[lookup_cons,hx]at h;exact h
theorem p8(h:scope.names.lookup x=some .free) :
  (relabel scope env).names.lookup x=some .cell\/(relabel scope env).names.lookup x=some .free:=by
 unfold relabel;simp only;generalize scope.names=ns at h
 induction ns with
 |nil=>simp at h
 |cons p r ih=>
  obtain⟨n,k⟩:=p;simp only[map_cons];cases hx:x==n with
  |true=>
   simp only[lookup_cons,hx]at h;have hk:=Uh h;subst hk
   by_cases hk:(NameKind.free==NameKind.free&&env.scope.kind==.function&&env.kindOf n==some .cell)=true
   ·rw[T4 hk];simp[lookup_cons,hx]
   ·rw[TX hk];simp[lookup_cons,hx]
  |false=>
   simp only[lookup_cons,hx]at h
   by_cases hk:(k==NameKind.free&&env.scope.kind==.function&&env.kindOf n==some .cell)=true
   ·rw[T4 hk];simp only[lookup_cons,hx];exact ih h
   ·rw[TX hk];simp only[lookup_cons,hx];exact ih h
section
variable {X:Cx} {pins:List (Addr×Obj)} {σ:St} {scope:Scope} {N':List Str} {js:List (Option Nat)}
theorem mJ(ok:p7 X scope N' js)(xo:X.Ok):∀y∈scope.names,y.2=.free->∃c,X.env.cells.lookup y.1=some c:=λy hy e=>by
 have:=(ok.free y hy e).1;unfold pZ at this;rw[Ww]at this;refine xo.has y.1 ?_
 rcases this with z|z
 ·exact .inl (eq_of_beq z)
 ·exact .inr (eq_of_beq z)
theorem um{tk:Nat}(ok:p7 X scope N' js)(I:Inv X pins σ H s)
  (hcl1:∀x c,cl.lookup x=some c->X.env.cells.lookup x=some c) (hcl2:∀x,(x,NameKind.free)∈scope.names->∃c,cl.lookup x=some c)
  (hfp:∀b∈fp,lI X pins H b) (hlt:∀b∈fp,b<s.heap.objs.size)
  (hns:h'.Ns s.heap.objs.size (λ_=>none)) (hk:∀b o,s.heap.get? b=some o->h'.get? b=some o) :
  Inv (bz X scope N' cl s.heap.objs.size s H fp) [] (gG js σ) H { s with heap:=h',toks:=tk }:=by
 have cellK:∀x c,cl.lookup x=some c->∃v,s.heap.IsCell c v:=λx c e=>I.cell x c (hcl1 x c e);have hCf:H s.heap.objs.size=none:=I.hok.fresh (TV _);refine⟨⟨I.ok.mod,ok.kind,I.ok.glob,I.ok.blt,TV _,λx y c e1 e2=>I.ok.inj x y c (hcl1 x c e1) (hcl1 y c e2),λx hx=>hcl2 x (nY ok.zo hx),λx c hf _=>absurd hf (by intro z;cases z),I.ok.hd,I.ok.frames,.inl rfl,
   λb hb=>⟨T9 (hlt b hb),λx c e z=>?_⟩,I.bs,Ut I.ok.BL I.sz,λb o e hb=>?_,λb hb hs=>?_,I.stack,I.lU⟩,rfl,I.bare,Un.kept hk,⟨_,hns,λi x v e1 e2 e3=>?_⟩,λx c e=>?_,hCf,λx c e=>I.eT x c (hcl1 x c e),
   λp hp=>absurd (show p∈([]:List (Addr×Obj)) from hp) (by simp),I.hok.kept hk,?_⟩
 ·exact(hfp b hb).2.2.2.2.1 x c (hcl1 x c e) z
 ·rcases(hfp b hb).2.2.2.1 with z|z
  ·exact I.ok.jC b o e z
  ·exact absurd (TY (TR (I.ok.bs b o e).1) z) (UC _)
 ·rcases T8.mp (I.tQ b hs) with z|z
  ·exact(hfp b hb).2.1 z
  ·exact(hfp b hb).2.2.1 z
 ·-- a name Q7 has a value: one of the def around
  have yJ:(gG js σ)[i]?=some (some v):=e2;unfold gG at yJ;rw[Ug]at yJ;cases hj:js[i]? with
  |none=>rw[hj]at yJ;cases yJ
  |some o=>
   rw[hj]at yJ;cases o with
   |none=>simp at yJ
   |some j=>
    obtain⟨hN,hf⟩:=ok.src i x j e1 hj;cases hs:σ[j]? with
    |none=>simp[hs]at yJ
    |some ov=>
     cases ov with
     |none=>simp[hs]at yJ
     |some v'=>
      simp[hs]at yJ;subst yJ;have hfr:=(ok.free (x,.free) (UQ hf) rfl).1;unfold pZ at hfr;rw[Ww]at hfr;have KY:X.env.scope.names.lookup x=some .cell\/X.env.scope.names.lookup x=some .free:=hfr.imp eq_of_beq eq_of_beq;obtain⟨m,_,hl⟩:=I.loc;obtain⟨u,r,l⟩:=hl j x v' hN hs (.inr KY);refine⟨u,r,.inr ⟨p8 hf,?_⟩⟩
      rcases l with ⟨k,_⟩|⟨_,c,e,z⟩
      ·have k':X.env.scope.names.lookup x=some .local:=k
       rcases KY with q|q<;>(rw[q]at k';cases k')
      ·obtain⟨d,hd⟩:=hcl2 x (UQ hf);have e':=hcl1 x d hd;rw[e]at e';cases e';obtain⟨oc,hoc,yN⟩:=z;exact⟨c,hd,oc,hk _ _ hoc,yN⟩
 ·obtain⟨v,oc,hoc,yN⟩:=cellK x c e;exact⟨v,oc,hk _ _ hoc,yN⟩
 ·rw[jb];exact ok.len
theorem xN(I:Inv X pins σ H s)(hfp:∀b∈fp,lI X pins H b)
  (J:Inv (bz X scope N' cl C s H fp) [] σ' H' s'):Inv X pins σ H' s' :=
 I.Ea (ch:=fp) J.os J.base J.hok J.bare λb hb=>⟨(hfp b hb).2.2.2.1,(hfp b hb).2.1,(hfp b hb).2.2.2.2.1,(hfp b hb).2.2.2.2.2⟩
end
section
variable {X:Cx} {scope:Scope} {N':List Str} {js:List (Option Nat)} {tg elt iter:Expr} {ifs:List Expr} {pos:Pos} {wi:TI} {g:TG} {tt:TT} {te:TE}
theorem rD{pins:List (Addr×Obj)}{σ:St}{H2:Hp}{s2:Shared}{it:Addr}{fp:List Addr}{tn:Nat->Heap->Prop}{J:It}{cl:List (Str×Addr)}{E:Value->Shared->Prop}{RR:Value->Addr->Result->Shared->Prop}{Q:VK}
  (ok:p7 X scope N' js) (hc:X.calm=true) (I2:Inv X pins σ H2 s2) (T:Turn X.prog X.w X.K tg J fp it tn) (st2:tn 0 s2.heap) (f2:∀b∈fp,lI X pins H2 b)
  (hcl1:∀x c,cl.lookup x=some c->X.env.cells.lookup x=some c) (hcl2:∀x,(x,NameKind.free)∈scope.names->∃c,cl.lookup x=some c)
  (hg:∀cl C s H fp,PG (bz X scope N' cl C s H fp) tg g) (ht:∀cl C s H fp,Ci (bz X scope N' cl C s H fp) ifs tt) (he:∀cl C s H fp,PE (bz X scope N' cl C s H fp) elt te)
  (rd:∀D,H2 D=none->∃W:Nat->Nat->St->Hp->Prop,(∃m,W 0 m (gG js σ) (upd H2 D (.lst []))) /\
   ∀i m σ' H,W i m σ' H->(J.stop i H/\Q (.ref D) H)\/(J.go i H/\∃N:St->Hp->Prop,(∀yI H',N yI H'->∃m',m'<m/\W (i+1) m' yI H') /\
    ∀x H',J.tW i H x H'->g x σ' H' λσ2 H2=>tt σ2 H2 λb H3=>if b=true then te σ2 H3 λy H4=>∃ys,H4 D=some (.lst ys)/\ys.length<sizeLine/\N σ2 (upd H4 D (.lst (ys++[y]))) else N σ2 H3))
  (hRR:∀(D C:Addr) (s':Shared) (H':Hp) (m:Str->Option Value),s2.heap.objs.size<=C->Inv X pins σ H' s'->H' C=none->s'.heap.Ns C m->Q (.ref D) H'->RR (.ref D) C (.ok .next) s') :
  wpAny (model X.prog X.w) X.A (newList []) (λacc s₃=>wpAny (model X.prog X.w) X.A (newFunctionEnv scope X.env.globals cl [] X.env.qual none .none (some X.env)) (λcenv s₄=>
   codeAny (model X.prog X.w) X.A (.compStart (.ListComp elt [⟨tg,iter,ifs,0⟩] scope pos) 0 (.ref it) acc { cenv with scope:=relabel scope X.env }) (RR acc cenv.locals) s₄) E s₃) E s2:=by
 have hD:H2 s2.heap.objs.size=none:=I2.hok.fresh (TV _);refine Uu (wpAny_newFunctionEnv ok.zo (by intro y hy;simp at hy) (λh₁ KZ K0=>?_) ok.kind);dsimp only at KZ K0 |-;have I3:Inv X pins σ (upd H2 s2.heap.objs.size (.lst [])) { s2 with heap:=s2.heap.push { cls:=.type "list",dict:=none,data:=.seq ([]:List Value).toArray },toks:=s2.toks } :=
  I2.laid (t':=s2.toks) (λb u e=>TF _ e) (TV _) ⟨by simp,[],0,.nil,T7 _ rfl⟩
 generalize K1:({ s2 with heap:=s2.heap.push { cls:=.type "list",dict:=none,data:=.seq ([]:List Value).toArray },toks:=s2.toks }:Shared)=s3 at I3;have hsz:s3.heap.objs.size=s2.heap.objs.size+1:=by rw[<-K1];exact UN ..
 have eC:(s2.heap.push { cls:=.type "list",dict:=none,data:=.seq ([]:List Value).toArray }).objs.size=s3.heap.objs.size:=by rw[<-K1]
 have f3:∀b∈fp,lI X pins (upd H2 s2.heap.objs.size (.lst [])) b:=λb hb=>by
  obtain⟨o,e,_⟩:=T.obj _ _ st2 b hb;refine⟨?_,(f2 b hb).2⟩;rw[aj (T9 (TR e))];exact(f2 b hb).1
 have hlt:∀b∈fp,b<s3.heap.objs.size:=λb hb=>by
  obtain⟨o,e,_⟩:=T.obj _ _ st2 b hb;have hb2:b<s2.heap.objs.size:=TR e;rw[hsz];exact UY hb2
 have keep:∀b o,s3.heap.get? b=some o->h₁.get? b=some o:=λb o e=>by
  have e':(s2.heap.push { cls:=.type "list",dict:=none,data:=.seq ([]:List Value).toArray }).get? b=some o:=by rw[<-K1]at e;exact e
  exact K0.extBut b o (T9 (TR e')) (TF _ e')
 have I4:=um (tk:=s2.toks+([]:List (Str×Value)).length) ok I3 hcl1 hcl2 f3 hlt (h':=h₁) (by rw[<-eC];simpa using KZ) keep;have Qk:tn 0 h₁:=T.keep _ _ _ st2 λb hb o e=>keep b o (by rw[<-K1];exact TF _ e);obtain⟨W,⟨m0,w0⟩,turn⟩:=rd _ hD;have stat:∀{H':Hp},(∀b∈fp,H' b=none)->∀b∈fp,lI (bz X scope N' cl s3.heap.objs.size s3 (upd H2 s2.heap.objs.size (.lst [])) fp) [] H' b:=λ{H'} hn b hb=>
  ⟨hn b hb,T9 (hlt b hb),I4.ok.xg b hb,.inl hb,(I4.ok.Ni b hb).2,λp hp=>absurd (show p∈([]:List (Addr×Obj)) from hp) (by simp)⟩
 have Q8:∀tk,({ s2 with heap:=h₁,toks:=tk }:Shared)={ s3 with heap:=h₁,toks:=tk }:=λtk=>by rw[<-K1]
 have loop:codeAny (model X.prog X.w) X.A (.compLoop (.ListComp elt [⟨tg,iter,ifs,0⟩] scope pos) 0 (.ref it) (.ref s2.heap.objs.size) (compEnvC scope cl s3.heap.objs.size X.env)) (RR (.ref s2.heap.objs.size) s3.heap.objs.size)
   { s3 with heap:=h₁,toks:=s2.toks+([]:List (Str×Value)).length }:=by
  refine codeAny_loop rfl (λn s'=>∃i σ' H',Inv (bz X scope N' cl s3.heap.objs.size s3 (upd H2 s2.heap.objs.size (.lst [])) fp) [] σ' H' s'/\tn i s'.heap/\(∀b∈fp,H' b=none)/\W i n σ' H') ?_ m0 ⟨0,_,_,I4,Qk,λb hb=>(f3 b hb).1,w0⟩;rintro n s5 ⟨i,σ5,H5,I5,JR,Nm,w5⟩;show wpAny _ X.A ((compTurn (.ListComp elt [⟨tg,iter,ifs,0⟩] scope pos) 0 (.ref it) (.ref s2.heap.objs.size) (compEnvC scope cl s3.heap.objs.size X.env)).onRaise (λx=>do noteFrame x (compEnvC scope cl s3.heap.objs.size X.env);theTreesLotGoes x)) _ _ s5;refine wpAny_noted ?_;rw[compTurn_list];refine Tw (U7 (Tw ?_))
  rcases turn i n σ5 H5 w5 with ⟨stop,qn⟩|⟨go,N,hN,step⟩
  ·refine Ur (T.done (bz X scope N' cl s3.heap.objs.size s3 (upd H2 s2.heap.objs.size (.lst [])) fp) rfl rfl rfl hc i [] s5 σ5 H5 (λ_ _=>False) I5 (stat Nm) JR stop) (λr s6 ⟨hr,I6⟩=>?_) λ_ _ z=>z.elim;subst hr;refine TL ?_;obtain⟨m,hm,_⟩:=id I6.loc;exact hRR _ _ s6 H5 m (by rw[hsz];exact UJ _) (xN I3 f3 I6) I6.free hm qn
  ·refine Ur (T.item (bz X scope N' cl s3.heap.objs.size s3 (upd H2 s2.heap.objs.size (.lst [])) fp) rfl rfl rfl hc i [] s5 σ5 H5 (λ_ _=>False) I5 (stat Nm) JR go) (λr s6 ⟨u,hr,h6⟩=>?_) λ_ _ z=>z.elim
   subst hr;refine Tw (Ur h6 (λ_ s7 ⟨x,H7,I7,r7,y7,Ou,Q9⟩=>?_) λ_ _ z=>z.elim);have Ra:=I7.pinned (stat Q9) (T.obj _ _ Ou);refine Tw (Ur (hg _ _ _ _ _ _ s7 σ5 H7 x u _ Ra r7 (step x H7 y7)) (λ_ s8 ⟨σ8,H8,I8,q8⟩=>?_) λ_ _ z=>z.elim);refine Tw (Ur (ht _ _ _ _ _ _ s8 σ8 H8 _ I8 q8) (λb s9 ⟨H9,I9,q9⟩=>?_) λ_ _ z=>z.elim);have zq:∀{sA:Shared} {σA:St} {HA:Hp},Inv (bz X scope N' cl s3.heap.objs.size s3 (upd H2 s2.heap.objs.size (.lst [])) fp) ([]++mz fp s7.heap) σA HA sA->N σA HA ->
     ∃m,m<n/\∃i σ' H',Inv (bz X scope N' cl s3.heap.objs.size s3 (upd H2 s2.heap.objs.size (.lst [])) fp) [] σ' H' sA/\tn i sA.heap/\(∀b∈fp,H' b=none)/\W i m σ' H':=λ{sA σA HA} IA nA=>by
    obtain⟨m',hm,wA⟩:=hN σA HA nA;refine⟨m',hm,i+1,σA,HA,IA.jE,T.keep _ _ _ Ou λb hb o e=>(IA.pin (b,o) (Uq _ (Uq _ (gD hb e)))).1,λb hb=>?_,wA⟩;obtain⟨o,e,d⟩:=T.obj _ _ Ou b hb;exact(IA.pin (b,o) (Uq _ (Uq _ (gD hb e)))).2.1
   cases b with
   |false=>exact TL ⟨rfl,zq I9 (by simpa using q9)⟩
   |true=>rw[T4 rfl]at q9;refine Tw (Tw (Ur (he _ _ _ _ _ _ s9 σ8 H9 _ I9 q9) (λv sB ⟨y,HB,IB,rB,ys,hys,hlen,nB⟩=>?_) λ_ _ z=>z.elim));refine Tw (Ur (oM (X:=bz X scope N' cl s3.heap.objs.size s3 (upd H2 s2.heap.objs.size (.lst [])) fp) _ sB σ8 HB (.ref s2.heap.objs.size) [y] _ [v] (λ_ HC=>HC=upd HB s2.heap.objs.size (.lst (ys++[y]))) IB rfl #[rB] ⟨_,ys,y,rfl,rfl,hys,hlen,rfl⟩) (λv' sC ⟨_,HC,IC,_,Rb⟩=>?_) λ_ _ z=>z.elim);subst Rb;exact TL (TL ⟨rfl,zq IC nB⟩)
 rw[Q8];have Ov:({ newEnv scope (s2.heap.push { cls:=.type "list",dict:=none,data:=.seq ([]:List Value).toArray }).objs.size X.env.globals cl X.env.qual none Value.none (some X.env) builtinsNs with scope:=relabel scope X.env }:Env)=compEnvC scope cl s3.heap.objs.size X.env:=by rw[eC];rfl
 have Ow:(newEnv scope (s2.heap.push { cls:=.type "list",dict:=none,data:=.seq ([]:List Value).toArray }).objs.size X.env.globals cl X.env.qual none Value.none (some X.env) builtinsNs).locals=s3.heap.objs.size:=by rw[eC];rfl
 rw[Ov,Ow];exact codeAny_compStart_list loop (T.self _ _ _ _ _ Qk loop)
theorem Cm(hok:iL X.N X.env.scope scope N' js=true)(hc:X.calm=true)(hi:PI X tg iter wi)(hg:∀cl C s H fp,PG (bz X scope N' cl C s H fp) tg g)
  (ht:∀cl C s H fp,Ci (bz X scope N' cl C s H fp) ifs tt) (he:∀cl C s H fp,PE (bz X scope N' cl C s H fp) elt te)
  (hs:∀x,foldedSetIterable iter X.env x=pure x):PE X (.ListComp elt [⟨tg,iter,ifs,0⟩] scope pos) (zp wi js g tt te):=by
 intro pins s σ H Q I h;have ok:=oO hok;obtain⟨cl,Ox,hcl1,hcl2⟩:=mH (mJ ok I.ok);rw[eval_ListComp];refine wpAny_comprehension_free (use:=none) rfl hs Ox ok.kind ok.names (bY (hi pins s σ H _ I h) λxv s1 h1=>bY h1 λitv s2 h2=>?_);obtain⟨it,fp,tn,J,H2,rfl,I2,T,st2,f2,rd⟩:=h2;refine rD (RR:=λacc C=>compPost (model X.prog X.w) X.A X.xe none (EP X pins σ Q) acc C) ok hc I2 T st2 f2 hcl1 hcl2 hg ht he rd ?_;intro D C s' H' m hC J' fC hm q;refine⟨m,hm,λh' hs'=>⟨.ref D,H',?_,rfl,q⟩⟩;refine J'.turned (t':=s'.toks) (λb o hb e=>hs'.extBut b o hb e) fC (Vo (TY I2.lt hC)) (.inr (Ut I2.sz hC)) (λx c e z=>?_) λp hp z=>?_
 ·obtain⟨v,q'⟩:=I2.cell x c e;exact absurd (TY q'.lt (by rw[z];exact hC)) (UC _)
 ·exact absurd (TY (TR (I2.pin p hp).1) (by rw[z];exact hC)) (UC _)
theorem Cn{i:Nat}(hN:X.N.Nodup)(hx:X.N[i]?=some x)(hl:Loc X.env.scope x)(hok:iL X.N X.env.scope scope N' js=true)(hc:X.calm=true)(hi:PI X tg iter wi)(hg:∀cl C s H fp,PG (bz X scope N' cl C s H fp) tg g)
  (ht:∀cl C s H fp,Ci (bz X scope N' cl C s H fp) ifs tt) (he:∀cl C s H fp,PE (bz X scope N' cl C s H fp) elt te)
  (hsw:swapsWith (.ListComp elt [⟨tg,iter,ifs,0⟩] scope pos) (some (.Name x pos')) spos.line X.env=pure true)
  (hf:X.fn x=true\/X.env.scope.names.lookup x=some .local)
  (hs:∀x,foldedSetIterable iter X.env x=pure x):PS X (.Assign [.Name x pos'] (.ListComp elt [⟨tg,iter,ifs,0⟩] scope pos) spos) (BS (zp wi js g tt te) (oB i)):=by
 intro pins s σ H D I h;have ok:=oO hok;obtain⟨cl,Ox,hcl1,hcl2⟩:=mH (mJ ok I.ok);rw[exec_Assign_Name_used _ _ _ _ hsw];refine Tw (U7 (Tw ?_));show wpAny _ X.A (do let _ <-comprehension (.ListComp elt [⟨tg,iter,ifs,0⟩] scope pos) scope X.env _ (newList []) false (eval iter X.env) (some (assign (.Name x pos') X.env))) _ _ s;refine Tw (Ur (wpAny_comprehension_free (use:=some (assign (.Name x pos') X.env)) (Q:=λ_ s'=>SP X pins D .next s') rfl hs Ox ok.kind ok.names
  (bY (hi pins s σ H _ I h) λxv s1 h1=>bY h1 λitv s2 h2=>?_)) (λ_ s' hq=>TL (TL hq)) λ_ _ e=>e)
 obtain⟨it,fp,tn,J,H2,rfl,I2,T,st2,f2,rd⟩:=h2;refine rD (RR:=λacc C=>compPost (model X.prog X.w) X.A X.xe (some (assign (.Name x pos') X.env)) (λ_ s'=>SP X pins D .next s') acc C) (Q:=λx H1=>oB i x σ H1 D.nx) ok hc I2 T st2 f2 hcl1 hcl2 hg ht he rd ?_;intro E C s' H' m hC J' fC hm q;have Ql:C≠X.env.locals:=Vo (TY I2.lt hC);have hCc:∀x c,X.env.cells.lookup x=some c->c≠C:=λx c e z=>by
  obtain⟨v,q'⟩:=I2.cell x c e;exact absurd (TY q'.lt (by rw[z];exact hC)) (UC _)
 refine bY (show wpAny _ X.A (assign (.Name x pos') X.env (.ref E)) (λ_ s''=>(∃yI Gh,Inv X pins yI Gh s''/\D.nx yI Gh/\Gh C=none)/\∃m,s''.heap.Ns C m) X.xe s' from ?_) λ_ s'' ⟨⟨yI,Gh,Oz,Rc,OA⟩,Rf,Gi⟩=>?_
 ·refine wpAny_assign_Name (oA J' hN hx hl (show RelV (.ref E) (.ref E) from rfl) (λs'' Oz ⟨a,Rg,ha⟩=>⟨⟨_,H',Oz,q,fC⟩,m,?_⟩) hf)
  refine hm.sameBut Rg ?_
  rcases ha with z|z
  ·rw[z];exact Ql
  ·exact λw=>hCc _ _ z w.symm
 ·refine⟨Rf,Gi,λh' hs'=>⟨yI,Gh,?_,Rc⟩⟩;refine Oz.turned (t':=s''.toks) (λb o hb e=>hs'.extBut b o hb e) OA Ql (.inr (Ut I2.sz hC)) hCc λp hp z=>?_;exact absurd (TY (TR (I2.pin p hp).1) (by rw[z];exact hC)) (UC _)
end
theorem Inv.vv{X:Cx}{pins:List (Addr×Obj)}{σ:St}{H:Hp}{s:Shared}{h':Heap}{t':Nat}{ch:List Addr}(I:Inv X pins σ H s)(hf:∀b∈ch,lI X pins H b)
  (k:∀b o,b∉ch->s.heap.get? b=some o->h'.get? b=some o):Inv X pins σ H { s with heap:=h',toks:=t' }:=by
 have J9:∀b u,H b=some u->b∉ch:=λb u e z=>by rw[(hf b z).1]at e;cases e
 refine I.step (g':=s.gens) (d':=s.drawn) (ch:=ch) (λb hb=>?_) (λb o _ _ hc e _=>k b o hc e) (λb o _ _ hc e _=>⟨o.slots,k b o hc e⟩) (λ_ _ _ _ n=>n)
  (λb o hc e=>⟨o,k b o hc e⟩) (λ_ _ e=>e) (λ_ _ _ e=>e) (λb ps e=>⟨#[],by rw[e];simp⟩) (λm hm=>?_) (λb u e=>?_) I.bare
 ·exact⟨(hf b hb).2.2.2.1,(hf b hb).2.1,(hf b hb).2.2.2.2.1,(hf b hb).2.2.2.2.2⟩
 ·obtain⟨o,es,ep,ho,r⟩:=hm;exact⟨o,es,ep,k _ o (λz=>(hf _ z).2.1 rfl) ho,r⟩
 ·refine(I.hok b u e).stay (λc v hc q=>k c v ?_ q) (λ_ q=>q) λ_ _ q=>q
  rcases hc with z|z
  ·rw[z];exact J9 b u e
  ·exact J9 c _ z
def K2(K:Frag)(a:Addr):It :=
 ⟨λi H=>∃xs x,fJ K H a xs/\xs[i]?=some x,λi H x H'=>∃p v,H p=none/\x=.ref p/\H'=upd H p (.tup [.int i,v])/\∀xs,fJ K H a xs->xs[i]?=some v,λi H=>∃xs,fJ K H a xs/\xs.length<=i⟩
theorem xP{P:Program}{w:World}{K:Frag}{es:List Expr}{k:Nat}{pos:Pos}(a e it:Addr)(hne:e≠it) :
  Turn P w K (.Tuple es k pos) (K2 K a) [e,it] e (λi h=>(∃old,IsEnum h e it i old)/\h.IsListIter it a i) where
 mem:=by simp
 obj:=λi h st b hb=>by
  obtain⟨⟨old,he⟩,⟨o,e2,c,d⟩⟩:=st
  rcases T8.mp hb with z|z
  ·subst z;exact⟨_,he,λv z=>nomatch z⟩
  ·rw[Ue.mp z];exact⟨o,e2,λv z=>by rw[d]at z;cases z⟩
 keep:=λi h h' st k=>⟨let ⟨old,he⟩:=st.1;⟨old,k e (by simp) _ he⟩,st.2.at λo e=>k it (by simp) o e⟩
 item:=by
  intro X hP hw hK hc i pins s σ H E I hf st hg;subst hP hw hK;obtain⟨xs,x,hq,hx⟩:=hg;obtain⟨its,rv,p,hz⟩:=I.list hq;obtain⟨u,hu,ru⟩:=rv.get hx;obtain⟨⟨old,he⟩,hit⟩:=st;have hei:e<s.heap.objs.size:=TR he;have Rh:it<s.heap.objs.size:=by obtain⟨_,y,_⟩:=hit;exact TR y
  refine wpAny_pyNext_enum_item he hit p.isList (x:=u) (by simpa using hu) hne λh' ho OC hT hsz hk=>?_;refine⟨_,rfl,?_⟩;refine wpAny_letOwnedTupleGo_enum ho λh2 Ri hs2=>?_;have hT2:h2.get? s.heap.objs.size=some { cls:=.type "tuple",data:=.seq [.int i s.toks,u].toArray }:=hs2.extBut _ _ (Vo hei) hT;have I1:Inv X pins σ H { s with heap:=h2,toks:=s.toks+1 }:=I.vv (ch:=[e,it]) hf λb o hb q=>by
   have h1:b≠e:=λz=>hb (by simp[z]);have h2:b≠it:=λz=>hb (by simp[z]);exact hs2.extBut b o h1 (hk b o h1 h2 q)
  have hn:H s.heap.objs.size=none:=I.hok.fresh (TV _);have I2:Inv X pins σ (upd H s.heap.objs.size (.tup [.int i,x])) { s with heap:=h2,toks:=s.toks+1 }:=by
   have un:Un X.fs [] H (upd H s.heap.objs.size (.tup [.int i,x])) s.heap s.heap:=Un.laid (λb u q=>q) (TV _) hn;refine⟨I1.ok,I1.os,I1.bare,?_,I1.loc,I1.cell,?_,λy c q=>?_,λp hp=>?_,λb o q=>?_,I1.len⟩
   ·refine⟨I1.base.keep,I1.base.slot,λb o q n hx=>?_,I1.base.there,λb ys q=>?_,λb o ys q=>?_,λb ps q=>?_⟩
    ·have hlt:b<s.heap.objs.size:=TY (TR q) I.sz;rw[aj (T9 hlt)];exact I1.base.free b o q n hx
    ·rw[aj (ay (I1.base.tups b ys q) hn)];exact I1.base.tups b ys q
    ·rw[aj (ay (I1.base.frzs b o ys q) hn)];exact I1.base.frzs b o ys q
    ·obtain⟨more,z⟩:=I1.base.lH b ps q;exact⟨more,by rw[aj (ay z hn)];exact z⟩
   ·rw[aj (T9 I.lt)];exact I1.free
   ·obtain⟨v,z⟩:=I.cell y c q;rw[aj (T9 z.lt)];exact I1.eT y c q
   ·obtain⟨q1,q2,q3⟩:=I1.pin p hp;refine⟨q1,?_,q3⟩;rw[aj (T9 (TR (I.pin p hp).1))];exact q2
   ·by_cases hb:b=s.heap.objs.size
    ·subst hb;rw[av]at q;cases q;exact⟨by show 2<=sizeLine;decide,[.int i s.toks,u],.cons ⟨_,rfl⟩ #[ru],_,hT2,rfl,_,rfl⟩
    ·rw[aj hb]at q;exact(I1.hok b o q).stay (λc v _ z=>z) (λc z=>by rw[aj (ay z hn)];exact z) λc ys z=>by rw[aj (ay z hn)];exact z
  refine⟨.ref s.heap.objs.size,_,I2,rfl,⟨s.heap.objs.size,x,hn,rfl,rfl,λys hy=>by rw[I.qN hy hq];exact hx⟩,⟨⟨_,by simpa using Ri⟩,?_⟩,λb hb=>?_⟩
  ·exact OC.at λo y=>(hs2.2 it hne.symm).trans y
  ·have hlt:b<s.heap.objs.size:=by
    rcases T8.mp hb with z|z
    ·rw[z];exact hei
    ·rw[Ue.mp z];exact Rh
   rw[aj (T9 hlt)];exact(hf b hb).1
 done:=by intro X hP hw hK hc i pins s σ H E I hf st hg;subst hP hw hK;obtain⟨xs,hq,hx⟩:=hg;obtain⟨its,rv,p,hz⟩:=I.list hq;obtain⟨⟨old,he⟩,hit⟩:=st;have hl:=rv.length;exact wpAny_pyNext_enum_end (I.ok.hd hc) he hit p.isList (by simp;omega) λh' eb=>⟨rfl,I.vv (t':=s.toks) (ch:=[e,it]) hf λb o hb q=>eb b o (λz=>hb (by simp[z])) q⟩
 self:=λ_ _ _ _ _ st h=>let ⟨_,he⟩:=st.1;wpAny_pyIter_enum he h
def K3(K:Frag)(ta:TA):TI:=λσ H R=>ta σ H λvs H1=>∃a,vs=[.ref a]/\(∃xs,fJ K H1 a xs)/\R (K2 K a) H1
theorem Co{k:Nat}(hg:Gl X "enumerate")(hm:X.mg "enumerate" = none)(ha:PA X [a] ta)(hs:starEach [a] X.env=[(false,eval a X.env)]) :
  PI X (.Tuple es k tpos) (.Call (.Name "enumerate" p) [a] [] pos) (K3 X.K ta):=by
 intro pins s σ H R I h;refine Call_ (fP I hg hm boot_enumerate (UL (bY (ha pos pins s σ H _ I h) λus s1 aE=>?_) hs rfl));obtain⟨vs,H1,I1,r1,q1⟩:=aE;obtain⟨l,e,⟨xs,hq⟩,q⟩:=q1;subst e;cases r1 with
 |cons r rr=>
  cases rr;cases r;obtain⟨its,rv,pl,hz⟩:=I1.list hq;refine call_enumerate_list pl.isList λh' he hit hsz hk=>?_;have I2:Inv X pins σ H1 { s1 with heap:=h' }:=I1.kept (t':=s1.toks) hk;refine wpAny_pyIter_enum (s:={ s1 with heap:=h' }) he ?_;refine⟨_,[s1.heap.objs.size+1,s1.heap.objs.size],_,_,H1,rfl,I2,xP l _ _ (Vo (Uz _)),⟨⟨_,by simpa using he⟩,hit⟩,λb hb=>?_,q⟩;have hb':s1.heap.objs.size<=b:=by
   rcases T8.mp hb with z|z
   ·rw[z];exact UJ _
   ·rw[Ue.mp z];exact TV _
  exact I1.BU hb' (I1.hok.fresh hb')
end L2
end
section
namespace L2
open PySem PySem.W PyProof.Rows
namespace jB
section
variable {O:KeyOrd} {key:Nat->O.α} {N:Nat} {cmp:Nat->Nat->(Bool->Shared->Prop)->Shared->Prop} {s:Shared}
def K(O:KeyOrd)(key:Nat->O.α)(p:Array Nat)(i:Nat):O.α:=key (p.getD i 0)
def Up(O:KeyOrd)(key:Nat->O.α)(p:Array Nat)(k:Nat):Prop:=∀i j,i<=j->j<k->O.kle (K O key p i) (K O key p j)
def Down(O:KeyOrd)(key:Nat->O.α)(p:Array Nat)(k:Nat):Prop:=∀i j,i<=j->j<k->O.kle (K O key p j) (K O key p i)
def Cp(O:KeyOrd)(key:Nat->O.α)(N:Nat)(cmp:Nat->Nat->(Bool->Shared->Prop)->Shared->Prop)(s:Shared):Prop :=
 ∀i j (C:Bool->Shared->Prop),i<N->j<N->C (O.blt (key i) (key j)) s->cmp i j C s
def Ent(N:Nat)(p:Array Nat):Prop:=p.size=N/\0<N/\∀x∈p.toList,x<N
theorem Ent.at{p:Array Nat}(h:Ent N p)(i:Nat):p.getD i 0<N:=by
 by_cases hi:i<p.size
 ·have e:p.getD i 0=p[i]:=by simp[Array.getD,hi]
  rw[e];exact h.2.2 _ (by simp)
 ·have e:p.getD i 0=0:=by simp[Array.getD,hi]
  rw[e];exact h.2.1
theorem Ent.perm{p q:Array Nat}(h:Ent N p)(e:q.Perm p):Ent N q :=
 ⟨e.size_eq.trans h.1,h.2.1,λx hx=>h.2.2 x ((Array.perm_iff_toList_perm.mp e).mem_iff.mp hx)⟩
theorem K_congr{p q:Array Nat}{i j:Nat}(h:p[i]?=q[j]?):K O key p i=K O key q j:=by
 unfold K;rw[Array.getD_eq_getD_getElem?,Array.getD_eq_getD_getElem?,h]
theorem K_bubble{p:Array Nat}{src d:Nat}(hs:src<p.size)(hd:d<=src)(k:Nat) :
  K O key (bubble p src d) k=if k=src-d then K O key p src else if src-d<k/\k<=src then K O key p (k-1) else K O key p k:=by
 have e:=getElem?_bubble hs d hd k
 by_cases h1:k=src-d
 ·rw[T4 h1]at e |-;exact K_congr e
 ·rw[TX h1]at e |-
  by_cases h2:src-d<k/\k<=src
  ·rw[T4 h2]at e |-;exact K_congr e
  ·rw[TX h2]at e |-;exact K_congr e
theorem zu{p:Array Nat}{i j:Nat}(hj:j<=p.size)(k:Nat):K O key (kas_rev p i j) k=if i<=k/\k<j then K O key p (i+j-1-k) else K O key p k:=by
 have e:=getElem?_mirror_all (i:=i) hj k
 by_cases h1:i<=k/\k<j
 ·rw[T4 h1]at e |-;exact K_congr e
 ·rw[TX h1]at e |-;exact K_congr e
theorem mK{p:Array Nat}{i j:Nat}(hj:j<=p.size)(h:∀k,i<=k->k<j->K O key p k=K O key p (j-1))(k:Nat):K O key (kas_rev p i j) k=K O key p k:=by
 rw[zu hj]
 split
 ·rw[h _ (by omega) (by omega),h k (by omega) (by omega)]
 ·rfl
theorem rE{p:Array Nat}{m:Nat}(h:∀t,1<=t->t<m->O.kle (K O key p (t-1)) (K O key p t)):Up O key p m:=by
 intro i j hij hj
 induction j with
 |zero=>
  have:i=0:=by omega
  subst this;exact U3 _
 |succ j ih=>
  by_cases e:i=j+1
  ·subst e;exact U3 _
  ·exact V1 (ih (by omega) (by omega)) (h (j+1) (by omega) hj)
theorem Gj(hA:Cp O key N cmp s){p:Array Nat}(he:Ent N p):∀(f n:Nat) {Q:Nat->Shared->Prop},1<=n ->
  (∀m,n<=m->m<=n+f->(∀t,n<=t->t<m->O.kle (K O key p (t-1)) (K O key p t))->(m<n+f->O.klt (K O key p m) (K O key p (m-1)))->Q m s)->(kas_asc p f n).kasWp cmp Q s
 |0,n,Q,hn,h=>h n (TV _) (TV _) (λt h1 h2=>by omega) λq=>by omega
 | f+1,n,Q,hn,h=>by
  show cmp _ _ _ s;refine hA _ _ _ (he.at _) (he.at _) ?_;cases hb:O.blt (key (p.getD n 0)) (key (p.getD (n-1) 0)) with
  |true=>exact h n (TV _) (by omega) (λt h1 h2=>by omega) λ_=>hb
  |false=>
   show (kas_asc p f (n+1)).kasWp cmp Q s;refine Gj hA he f (n+1) (by omega) λm h1 h2 h3 h4=>h m (by omega) (by omega) (λt t1 t2=>?_) λq=>h4 (by omega)
   by_cases e:t=n
   ·subst e;exact hb
   ·exact h3 t (by omega) t2
theorem vz(hA:Cp O key N cmp s):∀(f:Nat) (p:Array Nat) (n q:Nat) {Q:Array Nat×Nat×Nat->Shared->Prop},Ent N p->1<=n->n+f<=N->q+1<=n->Down O key p n->(∀i,n-(q+1)<=i->i<n->K O key p i=K O key p (n-1)) ->
  (∀p' n' q',p'.Perm p->Ent N p'->1<=n'->n<=n'->n'<=n+f->q'+1<=n'->Down O key p' n'->(∀i,n'-(q'+1)<=i->i<n'->K O key p' i=K O key p' (n'-1))->Q (p',n',q') s)->(kas_desc f p n q).kasWp cmp Q s
 |0,p,n,q,Q,he,hn,hN,hq,hd,hl,h=>h p n q (VF _) he hn (TV _) (TV _) hq hd hl
 | f+1,p,n,q,Q,he,hn,hN,hq,hd,hl,h=>by
  show cmp _ _ _ s;refine hA _ _ _ (he.at _) (he.at _) ?_;cases hb:O.blt (key (p.getD n 0)) (key (p.getD (n-1) 0)) with
  |true=>
   have hlt:O.klt (K O key p n) (K O key p (n-1)):=hb;have hd1:Down O key p (n+1):=λi j hij hj=>by
    by_cases e:j=n
    ·subst e
     by_cases e2:i=j
     ·subst e2;exact U3 _
     ·exact V1 (VT hlt) (hd i (j-1) (by omega) (by omega))
    ·exact hd i j hij (by omega)
   show (if q>0 then kas_desc f (kas_rev p (n-(q+1)) n) (n+1) 0 else kas_desc f p (n+1) 0).kasWp cmp Q s
   by_cases Qm:q>0
   ·rw[T4 Qm]
    have ep:(kas_rev p (n-(q+1)) n).Perm p:=mirror_perm _ _ _ _;have eK:∀k,K O key (kas_rev p (n-(q+1)) n) k=K O key p k:=λk=>mK (by rw[he.1];omega) hl k;refine vz hA f _ (n+1) 0 (he.perm ep) (by omega) (by omega) (by omega) (λi j hij hj=>by rw[eK,eK];exact hd1 i j hij hj) (λi h1 h2=>?_) λp' n' q' g1 g2 g3 g4 g5 g6 g7 g8=>h p' n' q' (g1.trans ep) g2 g3 (by omega) (by omega) g6 g7 g8;have:i=n:=by omega
    subst this;rfl
   ·rw[TX Qm]
    refine vz hA f p (n+1) 0 he (by omega) (by omega) (by omega) hd1 (λi h1 h2=>?_) λp' n' q' g1 g2 g3 g4 g5 g6 g7 g8=>h p' n' q' g1 g2 g3 (by omega) (by omega) g6 g7 g8;have:i=n:=by omega
    subst this;rfl
  |false=>
   show cmp _ _ _ s;refine hA _ _ _ (he.at _) (he.at _) ?_;cases hc:O.blt (key (p.getD (n-1) 0)) (key (p.getD n 0)) with
   |true=>exact h p n q (VF _) he hn (TV _) (by omega) hq hd hl
   |false=>
    have heq:K O key p n=K O key p (n-1):=O.total _ _ hb hc;show (kas_desc f p (n+1) (q+1)).kasWp cmp Q s;refine vz hA f p (n+1) (q+1) he (by omega) (by omega) (by omega) (λi j hij hj=>?_) (λi h1 h2=>?_) λp' n' q' g1 g2 g3 g4 g5 g6 g7 g8=>h p' n' q' g1 g2 g3 (by omega) (by omega) g6 g7 g8
    ·by_cases e:j=n
     ·subst e
      by_cases e2:i=j
      ·subst e2;exact U3 _
      ·rw[heq];exact hd i (j-1) (by omega) (by omega)
     ·exact hd i j hij (by omega)
    ·show K O key p i=K O key p (n+1-1)
     rw[Nat.add_sub_cancel]
     by_cases e:i=n
     ·subst e;rfl
     ·rw[heq];exact hl i (by omega) (by omega)
theorem zv(hA:Cp O key N cmp s){p:Array Nat}{n nrem:Nat}(he:Ent N p)(h1:1<=n)(hn:n<=nrem)(hr:nrem<=N)(hd:Down O key p n)
  (h:∀m p',p'.Perm p->Ent N p'->1<=m->m<=nrem->Up O key p' m->Q (m,p') s):(kas_tail3 n nrem p).kasWp cmp Q s:=by
 unfold kas_tail3;rw[VG];have ep:(kas_rev p 0 n).Perm p:=mirror_perm _ _ _ _;have hz:n<=p.size:=by rw[he.1];omega
 refine Gj hA (he.perm ep) _ _ h1 λm a1 a2 a3 _=>h m _ ep (he.perm ep) (by omega) (by omega) (rE λt t1 t2=>?_)
 by_cases e:t<n
 ·rw[zu hz,zu hz,T4 (by omega),T4 (by omega)];exact hd _ _ (by omega) (by omega)
 ·exact a3 t (by omega) t2
theorem oQ(hA:Cp O key N cmp s){p:Array Nat}{n nrem:Nat}(he:Ent N p)(hn:n+1<=nrem)(hr:nrem<=N)(hd:Down O key p (n+1))
  (h:∀m p',p'.Perm p->Ent N p'->1<=m->m<=nrem->Up O key p' m->Q (m,p') s):(kas_descPart n nrem p).kasWp cmp Q s:=by
 unfold kas_descPart;rw[VG];have K4:∀i,n+1-(0+1)<=i->i<n+1->K O key p i=K O key p (n+1-1):=λi h1 h2=>by
  have e:i=n:=by omega
  subst e;rfl
 refine vz hA (nrem-(n+1)) p (n+1) 0 he (by omega) (by omega) (by omega) hd K4 λp' n' q' g1 g2 g3 g4 g5 g6 g7 g8=>?_;show (if q'>0 then kas_tail3 n' nrem (kas_rev p' (n'-(q'+1)) n') else kas_tail3 n' nrem p').kasWp cmp Q s
 by_cases hq:q'>0
 ·rw[T4 hq];have ep:(kas_rev p' (n'-(q'+1)) n').Perm p':=mirror_perm _ _ _ _;have eK:∀k,K O key (kas_rev p' (n'-(q'+1)) n') k=K O key p' k:=λk=>mK (by rw[g2.1];omega) g8 k;exact zv hA (g2.perm ep) g3 (by omega) hr (λi j hij hj=>by rw[eK,eK];exact g7 i j hij hj) λm p'' a1 a2 a3 a4 a5=>h m p'' ((a1.trans ep).trans g1) a2 a3 a4 a5
 ·rw[TX hq];exact zv hA g2 g3 (by omega) hr g7 λm p'' a1 a2 a3 a4 a5=>h m p'' (a1.trans g1) a2 a3 a4 a5
theorem Gk(hA:Cp O key N cmp s){p:Array Nat}{nrem:Nat}(he:Ent N p)(h1:1<=nrem)(hr:nrem<=N)
  (h:∀m p',p'.Perm p->Ent N p'->1<=m->m<=nrem->Up O key p' m->Q (m,p') s):(kas_count nrem p).kasWp cmp Q s:=by
 unfold kas_count;rw[VG];refine Gj hA he _ _ (TV _) λn a1 a2 a3 a4=>?_;have hup:Up O key p n:=rE λt t1 t2=>a3 t t1 t2
 by_cases e1:(n==nrem)=true
 ·rw[T4 e1];exact h n p (VF _) he a1 (by omega) hup
 ·rw[TX e1]
  have Th:n≠nrem:=λz=>e1 (by simp[z]);have hlt:O.klt (K O key p n) (K O key p (n-1)):=a4 (by omega)
  by_cases e2:n>1
  ·rw[T4 e2]
   show cmp _ _ _ s;refine hA _ _ _ (he.at _) (he.at _) ?_;cases hc:O.blt (key (p.getD 0 0)) (key (p.getD (n-1) 0)) with
   |true=>exact h n p (VF _) he a1 (by omega) hup
   |false=>
    have hle:O.kle (K O key p (n-1)) (K O key p 0):=hc;have ep:(kas_rev p 0 n).Perm p:=mirror_perm _ _ _ _;have hall:∀k,0<=k->k<n->K O key p k=K O key p (n-1):=λk _ hk=>
     KeyOrd.kle_antisymm (hup k (n-1) (by omega) (by omega)) (V1 hle (hup 0 k (by omega) hk))
    have eK:∀k,K O key (kas_rev p 0 n) k=K O key p k:=λk=>mK (by rw[he.1];omega) hall k;show (kas_descPart n nrem (kas_rev p 0 n)).kasWp cmp Q s;refine oQ hA (he.perm ep) (by omega) hr (λi j hij hj=>?_) λm p' b1 b2 b3 b4 b5=>h m p' (b1.trans ep) b2 b3 b4 b5;rw[eK,eK]
    by_cases ej:j=n
    ·subst ej
     by_cases ei:i=j
     ·subst ei;exact U3 _
     ·rw[hall i (by omega) (by omega)];exact VT hlt
    ·rw[hall i (by omega) (by omega),hall j (by omega) (by omega)];exact U3 _
  ·rw[TX e2]
   have en:n=1:=by omega
   subst en;refine oQ hA he (by omega) hr (λi j hij hj=>?_) λm p' b1 b2 b3 b4 b5=>h m p' b1 b2 b3 b4 b5
   by_cases ei:i=j
   ·subst ei;exact U3 _
   ·have:i=0/\j=1:=by omega
    obtain⟨rfl,rfl⟩:=this;exact VT hlt
theorem uo(hA:Cp O key N cmp s){p:Array Nat}{k:Nat}(he:Ent N p)(hs:Up O key p k):∀(f l r:Nat) {Q:Nat->Shared->Prop},l<=r->r<=k->r-l<=f ->
  (∀i,i<l->O.kle (K O key p i) (K O key p k))->(∀i,r<=i->i<k->O.klt (K O key p k) (K O key p i)) ->
  (∀l',l'<=k->(∀i,i<l'->O.kle (K O key p i) (K O key p k))->(∀i,l'<=i->i<k->O.klt (K O key p k) (K O key p i))->Q l' s)->(kas_place p k f l r).kasWp cmp Q s
 | 0,l,r,Q,hlr,hrk,hf,hlo,hhi,h=>by
  have:l=r:=by omega
  subst this;exact h l hrk hlo hhi
 | f+1,l,r,Q,hlr,hrk,hf,hlo,hhi,h=>by
  show (if l≥r then KasT.ret l else _).kasWp cmp Q s
  by_cases hge:l≥r
  ·rw[T4 hge]
   have:l=r:=by omega
   subst this;exact h l hrk hlo hhi
  ·rw[TX hge]
   show cmp _ _ _ s;refine hA _ _ _ (he.at _) (he.at _) ?_;cases hb:O.blt (key (p.getD k 0)) (key (p.getD ((l+r)/2) 0)) with
   |true=>show (kas_place p k f l ((l+r)/2)).kasWp cmp Q s;exact uo hA he hs f l ((l+r)/2) (by omega) (by omega) (by omega) hlo (λi h1 h2=>KeyOrd.klt_of_klt_of_kle hb (hs _ _ h1 h2)) h
   |false=>show (kas_place p k f ((l+r)/2+1) r).kasWp cmp Q s;exact uo hA he hs f ((l+r)/2+1) r (by omega) (by omega) (by omega) (λi h1=>V1 (hs i ((l+r)/2) (by omega) (by omega)) hb) hhi h
theorem K5(hA:Cp O key N cmp s):∀(f:Nat) (p:Array Nat) (k:Nat) {Q:Array Nat->Shared->Prop},Ent N p->k+f<=N->Up O key p k->(∀p',p'.Perm p->Up O key p' (k+f)->Q p' s)->(kas_bin f p k).kasWp cmp Q s
 |0,p,k,Q,he,hk,hs,h=>h p (VF _) hs
 | f+1,p,k,Q,he,hk,hs,h=>by
  show ((kas_place p k k 0 k).bind λl=>kas_bin f (bubble p k (k-l)) (k+1)).kasWp cmp Q s;rw[VG];refine uo hA he hs k 0 k (by omega) (by omega) (by omega) (λi hi=>by omega) (λi h1 h2=>by omega) λl hl hlo hhi=>?_;have ep:(bubble p k (k-l)).Perm p:=bubble_perm _ _ _;have hks:k<p.size:=by rw[he.1];omega
  refine K5 hA f _ (k+1) (he.perm ep) (by omega) (λi j hij hj=>?_) λp' a1 a2=>h p' (a1.trans ep) (by rwa [show k+(f+1)=k+1+f by omega]);rw[K_bubble hks (by omega),K_bubble hks (by omega),show k-(k-l)=l by omega]
  repeat' split
  all_goals first
   |(exfalso;omega)
   |exact U3 _
   |exact hlo _ (by omega)
   |exact VT (hhi _ (by omega) (by omega))
   |exact hs _ _ (by omega) (by omega)
theorem K6(hA:Cp O key N cmp s)(h1:1<=N)(h:∀p,p.Perm (toArray (List.range N))->Up O key p N->Q p s):(kas_sort N).kasWp cmp Q s:=by
 unfold kas_sort;rw[VG];have he:Ent N (toArray (List.range N)):=⟨by simp,h1,λx hx=>by simpa using hx⟩;refine Gk hA he h1 (TV _) λm p a1 a2 a3 a4 a5=>?_;show (if m<N then kas_bin (N-max m 1) p (max m 1) else KasT.ret p).kasWp cmp Q s;have em:max m 1=m:=by omega
 by_cases hlt:m<N
 ·rw[T4 hlt,em];exact K5 hA _ p m a2 (by omega) a5 λp' b1 b2=>h p' (b1.trans a1) (by rwa [show m+(N-m)=N by omega]at b2)
 ·rw[TX hlt]
  have:m=N:=by omega
  subst this;exact h p a1 a5
end
end jB
namespace jB
theorem bH{α:Type}(l:List α)(d:α):(List.range l.length).map (λi=>l.getD i d)=l:=by
 refine V3 (by simp) λi h1 h2=>?_;simp[h2]
section
variable {prog:Program} {w:World} {A:Around} {E:Value->Shared->Prop} {s:Shared}
def oR(prog:Program)(w:World)(A:Around)(O:KeyOrd)(key:Nat->O.α)(vs:List Value)(s6:Shared):Prop :=
 wpAny (model prog w) A (keyKind' vs.toArray) (λκ s'=>s'=s6/\Cp O key vs.length (kas_ask prog w A κ vs) s6) (λ_ _=>False) s6
structure zw (O:KeyOrd) (key:Nat->O.α) (n:Nat) (p:List Nat):Prop where
 perm:p.Perm (List.range n)
 up:(p.map key).Pairwise O.kle
theorem Cq{n:Nat}{p:Array Nat}(h1:p.Perm (toArray (List.range n)))(h2:Up O key p n):zw O key n p.toList:=by
 have hp:p.toList.Perm (List.range n):=by simpa using Array.perm_iff_toList_perm.mp h1
 refine⟨hp,Vb.mpr λi j hi hj hij=>?_⟩;have hz:p.toList.length=n:=by rw[hp.length_eq,Wh]
 rw[TQ]at hi hj;have q:=h2 i j (Ve hij) (by omega);have ei:p.getD i 0=p.toList[i]:=by simp at hi;simp[Array.getD,hi]
 have ej:p.getD j 0=p.toList[j]:=by simp at hj;simp[Array.getD,hj]
 unfold K at q;rw[ei,ej]at q;rw[Vz,Vz];exact q
theorem zx{n:Nat}(ho:s.heap.get? a=some (seqObj "list" vs.toArray n))(h64:vs.length<64)
  (hk:2<=vs.length->∀h6:Heap,(∀b o,b≠a->s.heap.get? b=some o->h6.get? b=some o)->oR prog w A O key vs { s with heap:=h6 })
  (h:∀p,zw O key vs.length p->P (.done (.ret .none)) { s with heap:=sortedHeap s.heap a vs (p.map λi=>vs.getD i Value.none).toArray }) :
  wpAny (model prog w) A (Builtin.«list.sort» ⟨[.ref a],[]⟩) P E s:=by
 have alt:a<s.heap.objs.size:=TR ho;have big:vs.length<=sizeLine:=by rw[UI];omega
 rw[list_sort_plain];apply Tw;apply listItems_at ho rfl;apply Tw;refine listUpdate_at ho rfl ?_ (by rw[TZ];exact big) (U8 _);have q1:=get?_update_seq ho (λ_=>(#[]:Array Value));apply Tw;apply seqEpoch_at q1 rfl;apply Tw;refine wpAny_newTuple ?_ (by show vs.length<=sizeLine;exact big);apply Tw;refine wpAny_newList ?_ (U8 _);apply Uy;generalize hN:((s.heap.update a (Obj.mapSeq λ_=>(#[]:Array Value))).push (seqObj "tuple" vs.toArray 0)).push (seqObj "list" #[] 0)=h6;have K7:∀b o,b≠a->s.heap.get? b=some o->h6.get? b=some o:=λb o hb e=>by
  rw[<-hN];refine TF _ (TF _ ?_);rw[VC _ _ _ _ hb];exact e
 have q6:h6.get? a=some (seqObj "list" #[] (if (#[]:Array Value).size==vs.toArray.size then n else n+1)):=by rw[<-hN];exact TF _ (TF _ q1)
 have eS:∀out,h6.update a (Obj.mapSeq λ_=>out)=sortedHeap s.heap a vs out:=λout=>by rw[<-hN];rfl
 show wpAny (model prog w) A _ P E { s with heap:=h6 };dsimp only
 by_cases h2:vs.toArray.size<2
 ·rw[T4 h2,T4 h2]
  apply Tw;apply TL;rw[StateT.run_pure];apply Tw;apply TL;dsimp only;have eo:(arrOf (SortSt.mk' general' (vs.toArray.zip vs.toArray) #[] 7 none)).map (·.2)=vs.toArray:=by show (vs.toArray.zip vs.toArray).map (·.2)=vs.toArray;apply Array.toList_inj.mp;simp[List.map_snd_zip]
  rw[eo];apply Tw;apply seqEpoch_at q6 rfl;apply Tw;refine listUpdate_at q6 rfl ?_ (U8 _) (by show vs.toArray.size<=_;rw[TZ];omega);have hb:((if (#[]:Array Value).size==vs.toArray.size then n else n+1) != (if (#[]:Array Value).size==vs.toArray.size then n else n+1))=false:=by simp
  rw[eS];simp only[hb,false_eq_true,if_false];apply TL;have g:=h (List.range vs.length) ⟨VU _,?_⟩
  ·rw[bH]at g;exact g
  ·rw[TZ]at h2;refine Vb.mpr λi j hi hj hij=>?_;simp at hi hj;omega
 ·rw[TX h2,TX h2]
  rw[TZ]at h2;have ask:=hk (by omega) h6 K7;apply Tw;refine Ur ask (λκ s0 hκ=>?_) λ_ _ x=>x.elim;obtain⟨rfl,Rj⟩:=hκ;apply Tw;refine Ur (kat_run (Q:=λst' s'=>s'={ s with heap:=h6 }/\∃p:Array Nat,zw O key vs.length p.toList/\p.size=vs.length/\(arrOf st').map (·.2)=(p.toList.map λi=>vs.getD i Value.none).toArray/\failedOf st'=none)
   (G:=λp s'=>s'={ s with heap:=h6 }/\zw O key vs.length p.toList) rfl (by omega) h64 (λp st' s' a1 a2 a3 a4=>⟨a4.1,p,a4.2,a1,kat_snds rfl a2,a3⟩)
   (K6 Rj (by omega) λp b1 b2=>⟨rfl,Cq b1 b2⟩)) ?_ λ_ _ x=>x
  rintro⟨⟨⟩,st'⟩ s' ⟨rfl,p,op,pz,er,ef⟩;dsimp only;rw[er];apply Tw;apply seqEpoch_at q6 rfl;apply Tw;refine listUpdate_at q6 rfl ?_ (U8 _) (by show (toArray _).size<=_;rw[TZ,TQ,Um,pz];omega);have hb:((if (#[]:Array Value).size==vs.toArray.size then n else n+1) != (if (#[]:Array Value).size==vs.toArray.size then n else n+1))=false:=by simp
  rw[eS,ef];simp only[hb,false_eq_true,if_false];exact TL (h p.toList op)
theorem cQ
  (h:wpAny (model prog w) A.in1 (collect x) (λvs s1=>vs.length<64/\∃key:Nat->O.α,(2<=vs.length->∀h6:Heap,(∀b o,s1.heap.get? b=some o->h6.get? b=some o)->oR prog w A.in1.in1 O key vs { s1 with heap:=h6 }) /\
   ∀p h',zw O key vs.length p->(∀b o,s1.heap.get? b=some o->h'.get? b=some o)->(∃e,h'.get? s1.heap.objs.size=some (seqObj "list" (p.map λi=>vs.getD i Value.none).toArray e))->Q (.ref s1.heap.objs.size) { s1 with heap:=h' }) E s) :
  wpAny (model prog w) A (call (.builtin "sorted") [x]) Q E s:=by
 refine Calls.call_function_entry kind_sorted plain_sorted entry_sorted (args_sorted1 _) ?_;unfold Builtin.«sorted»;refine Tw (m:=checkCount "sorted" 1 1 _) (TL ?_);apply Tw;refine Ur h (λvs s1 ⟨h64,key,hk,hq⟩=>?_) λ_ _ z=>z;have big:vs.length<=sizeLine:=by rw[UI];omega
 apply Tw;refine wpAny_newList ?_ big;have q:(s1.heap.push (seqObj "list" vs.toArray 0)).get? s1.heap.objs.size=some (seqObj "list" vs.toArray 0):=T7 _ rfl;apply Tw;apply Uy;refine Vm (s:={ s1 with heap:=s1.heap.push (seqObj "list" vs.toArray 0) }) slot_list_sort ⟨_,q,rfl⟩ entry_list_sort ?_ (args_list_sort _);refine zx (key:=key) (s:={ s1 with heap:=s1.heap.push (seqObj "list" vs.toArray 0) }) q h64 (λh2 h6 k6=>?_) λp op=>⟨_,rfl,TL ⟨_,rfl,?_⟩⟩
 ·exact hk h2 h6 λb o e=>k6 b o (T9 (TR e)) (TF _ e)
 ·refine hq p _ op (λb o e=>?_) (sortedHeap_at q);rw[sortedHeap_old (T9 (TR e)) (by rw[size_push'];exact UY (TR e))];exact TF _ e
end
def jn:KeyOrd where
 α:=Int
 blt:=λa b=>decide (a<b)
 irrefl:=λa=>by simp
 trans:=λa b c h1 h2=>by simp at *;omega
 negTrans:=λa b c h=>by simp at *;omega
 total:=λa b h1 h2=>by simp at *;omega
theorem jo{s6:Shared}{ns:List Int}(hI:IntsAre vs ns)(h2:2<=vs.length):oR prog w A jn (λi=>ns.getD i 0) vs s6:=by
 have at_:∀i,i<vs.length->∃t,vs.getD i Value.none=.int (ns.getD i 0) t:=by
  intro i hi
  induction hI generalizing i with
  |nil=>simp at hi
  |cons z t r ih=>
   cases i with
   |zero=>exact⟨t,by simp⟩
   |succ i=>
    by_cases hr:2<=1
    ·omega
    ·simp only[length_cons]at hi
     have aux:∀{vs:List Value} {ns:List Int},IntsAre vs ns->∀i,i<vs.length->∃t,vs.getD i Value.none=.int (ns.getD i 0) t:=by
      intro vs ns q
      induction q with
      |nil=>intro i hi;simp at hi
      |cons z t r ih=>
       intro i hi;cases i with
       |zero=>exact⟨t,by simp⟩
       |succ i=>simp only[length_cons]at hi;obtain⟨u,e⟩:=ih i (by omega);exact⟨u,by simpa using e⟩
     obtain⟨u,e⟩:=aux r i (by omega);exact⟨u,by simpa using e⟩
 obtain⟨v₁,v₂,rest,rfl⟩:∃v₁ v₂ rest,vs=v₁::v₂::rest:=by
  match vs,h2 with
  |v₁::v₂::rest,_=>exact⟨v₁,v₂,rest,rfl⟩
 unfold oR;rw[keyKind_ints hI];refine TL ⟨rfl,λi j C hi hj hc=>?_⟩;obtain⟨t,e1⟩:=at_ i hi;obtain⟨u,e2⟩:=at_ j hj;unfold kas_ask;rw[e1,e2,keyLt'_oneType];exact oneLt_int hc
theorem gH:∀a,HT.lexLt a a=false
 |[]=>rfl
 |x::xs=>by rw[HT.eW,T4 rfl];exact gH xs
theorem fL:∀a b,HT.lexLt a b=false->HT.lexLt b a=false->a=b
 |[],[],_,_=>rfl
 |[],_::_,h,_=>by rw[HT.eX]at h;cases h
 |_::_,[],_,h=>by rw[HT.eX]at h;cases h
 | x::xs,y::ys,h1,h2=>by
  rw[HT.eW]at h1 h2
  by_cases e:x=y
  ·subst e;rw[T4 rfl]at h1 h2;rw[fL xs ys h1 h2]
  ·rw[TX e]at h1;rw[TX (λz=>e z.symm)]at h2;simp at h1 h2;omega
theorem fM:∀a b c,HT.lexLt a b=true->HT.lexLt b c=true->HT.lexLt a c=true
 |[],[],c,h,_=>by rw[HT.nW]at h;cases h
 |[],_::_,[],_,h=>by rw[HT.cO]at h;cases h
 |[],_::_,_::_,_,_=>rfl
 |_::_,[],_,h,_=>by rw[HT.cO]at h;cases h
 |_::_,_::_,[],_,h=>by rw[HT.cO]at h;cases h
 | x::xs,y::ys,z::zs,h1,h2=>by
  rw[HT.eW]at h1 h2 |-
  by_cases e1:x=y
  ·subst e1
   rw[T4 rfl]at h1
   by_cases e2:x=z
   ·subst e2;rw[T4 rfl]at h2 |-;exact fM xs ys zs h1 h2
   ·rw[TX e2]at h2 |-;exact h2
  ·rw[TX e1]at h1
   by_cases e2:y=z
   ·subst e2;rw[TX e1];exact h1
   ·rw[TX e2]at h2;simp at h1 h2;rw[TX (by omega)];simp;omega
theorem oS(a b c:List Int)(h:HT.lexLt a c=true):HT.lexLt a b=true\/HT.lexLt b c=true:=by
 cases h1:HT.lexLt a b with
 |true=>exact .inl rfl
 |false=>
  cases h2:HT.lexLt b c with
  |true=>exact .inr rfl
  |false=>
   cases h3:HT.lexLt b a with
   |true=>have:=fM _ _ _ h3 h;rw[h2]at this;cases this
   |false=>rw[fL _ _ h1 h3]at h;rw[h2]at h;cases h
def lexOrd:KeyOrd where
 α:=List Int
 blt:=HT.lexLt
 irrefl:=gH
 trans:=fM
 negTrans:=oS
 total:=fL
section
variable {prog:Program} {w:World} {A:Around} {s:Shared}
theorem lg{b fin:Bool}:∀{us vs:List Value} {ns ms:List Int} (i:Nat),IntsAre us ns->IntsAre vs ms->(ns.length<ms.length↔fin=true)->us.length=ns.length ->
  Q (HT.lexLt ns ms) s->(ns.length=ms.length\/i=i)->(∀k,k<ns.length->k<ms.length->True)->(ns.length≠ms.length->True)->(fin=decide (ns.length<ms.length))->KatLex prog w A b fin Q (us.zip vs) i s
 | _,_,_,_,i,.nil,.nil,_,_,hq,_,_,_,hf=>by
  refine kat_nil ?_;rw[hf];exact hq
 | _,_,_,_,i,.nil,.cons _ _ _,_,_,hq,_,_,_,hf=>by
  refine kat_nil ?_;rw[hf];simpa [HT.eX] using hq
 | _,_,_,_,i,.cons _ _ _,.nil,_,_,hq,_,_,_,hf=>by
  refine kat_nil ?_;rw[hf];simpa [HT.cO] using hq
 | _,_,_,_,i,.cons x t r,.cons y u r',h1,h2,hq,_,_,_,hf=>by
  refine kat_cons (wpAny_eqBool_int ?_);rw[HT.eW]at hq
  by_cases e:x=y
  ·subst e
   rw[T4 rfl]at hq;rw[Wo];refine kat_yes (lg (i+1) r r' ?_ ?_ hq (.inr rfl) (λ_ _ _=>trivial) (λ_=>trivial) ?_)
   ·simpa using h1
   ·simpa using h2
   ·rw[hf];simp
  ·rw[TX e]at hq
   rw[show (x==y)=false from UP.mpr e];refine kat_no ?_;cases hb:(b&&i==0) with
   |true=>exact oneLt_int hq
   |false=>exact kat_one _ _ (PyProof.Rows.lt_int hq)
end
end jB
end L2
end
section
namespace L2
open PySem PySem.Spec PyProof.Rows
def OE:Key->PyData
 |.inl i=>.int i
 |.inr x=>.str x
mutual
noncomputable def Den(K:Frag)(H:Hp):PyData->V->Prop
 |.none,v=>v=.non
 |.bool b,v=>v=.bl b
 |.int i,v=>v=.int i
 |.str x,v=>v=.str x
 |.list ds,v=>∃a xs,v=.ref a/\fJ K H a xs/\cN K H ds xs
 |.tuple ds,v=>∃a xs,v=.ref a/\gQ K H a xs/\cN K H ds xs
 |.dict kvs,v=>∃a ks,v=.ref a/\H a=some (.dK ks)/\jJ K H kvs ks
noncomputable def cN(K:Frag)(H:Hp):List PyData->List V->Prop
 |[],xs=>xs=[]
 |d::ds,xs=>∃x r,xs=x::r/\Den K H d x/\cN K H ds r
noncomputable def jJ(K:Frag)(H:Hp):List (PyData×PyData)->List (Key×V)->Prop
 |[],ks=>ks=[]
 |(k,d)::r,ks=>∃key x rest,ks=(key,x)::rest/\k=OE key/\Den K H d x/\jJ K H r rest
end
theorem uh.tup{K:Frag}{H H':Hp}{a:Addr}{xs:List V}(e:uh H H')(h:gQ K H a xs):gQ K H' a xs:=by
 rcases h with (h|⟨o,h⟩)|h
 ·exact .inl (.inl (e _ _ h))
 ·exact .inl (.inr ⟨o,e _ _ h⟩)
 ·exact .inr h
section
variable {K:Frag} {H H':Hp}
mutual
theorem Den.same(e:uh H H'):∀(d:PyData) (v:V),Den K H d v->Den K H' d v
 |.none,_,h=>by rw[Den]at h |-;exact h
 |.bool _,_,h=>by rw[Den]at h |-;exact h
 |.int _,_,h=>by rw[Den]at h |-;exact h
 |.str _,_,h=>by rw[Den]at h |-;exact h
 | .list ds,v,h=>by
  rw[Den]at h |-;obtain⟨a,xs,q1,q2,q3⟩:=h;exact⟨a,xs,q1,e.seq q2,cN.same e ds xs q3⟩
 | .tuple ds,v,h=>by
  rw[Den]at h |-;obtain⟨a,xs,q1,q2,q3⟩:=h;exact⟨a,xs,q1,e.tup q2,cN.same e ds xs q3⟩
 | .dict kvs,v,h=>by
  rw[Den]at h |-;obtain⟨a,ks,q1,q2,q3⟩:=h;exact⟨a,ks,q1,e _ _ q2,jJ.same e kvs ks q3⟩
theorem cN.same(e:uh H H'):∀(ds:List PyData) (xs:List V),cN K H ds xs->cN K H' ds xs
 |[],_,h=>by rw[cN]at h |-;exact h
 | d::ds,xs,h=>by
  rw[cN]at h |-;obtain⟨x,r,q1,q2,q3⟩:=h;exact⟨x,r,q1,Den.same e d x q2,cN.same e ds r q3⟩
theorem jJ.same(e:uh H H'):∀(kvs:List (PyData×PyData)) (ks:List (Key×V)),jJ K H kvs ks->jJ K H' kvs ks
 |[],_,h=>by rw[jJ]at h |-;exact h
 | (k,d)::r,ks,h=>by
  rw[jJ]at h |-;obtain⟨key,x,rest,q1,q2,q3,q4⟩:=h;exact⟨key,x,rest,q1,q2,Den.same e d x q3,jJ.same e r rest q4⟩
end
theorem cN.nil:cN K H [] []:=by rw[cN]
theorem cN.cons{d:PyData}{ds:List PyData}{x:V}{r:List V}(h1:Den K H d x)(h2:cN K H ds r):cN K H (d::ds) (x::r):=by rw[cN];exact⟨x,r,rfl,h1,h2⟩
theorem Den.int{i:Int}:Den K H (.int i) (.int i):=by rw[Den]
theorem Den.str:Den K H (.str x) (.str x):=by rw[Den]
theorem Den.bool{b:Bool}:Den K H (.bool b) (.bl b):=by rw[Den]
theorem Den.none:Den K H .none .non:=by rw[Den]
theorem Den.list(h:fJ K H a xs)(q:cN K H ds xs):Den K H (.list ds) (.ref a):=by rw[Den];exact⟨a,xs,rfl,h,q⟩
theorem Den.tuple(h:gQ K H a xs)(q:cN K H ds xs):Den K H (.tuple ds) (.ref a):=by rw[Den];exact⟨a,xs,rfl,h,q⟩
end
section
variable {X:Cx} {pins:List (Addr×Obj)} {σ:St} {H:Hp} {s:Shared}
mutual
theorem Den.reads(I:Inv X pins σ H s):∀(d:PyData) (v:V) (u:Value),d.canLay0=true->Den X.K H d v->RelV v u->∃as,Reads s.heap u d as
 |.none,v,u,_,h,r=>by rw[Den]at h;subst h;cases r;exact⟨_,.none⟩
 |.bool b,v,u,_,h,r=>by rw[Den]at h;subst h;cases r;exact⟨_,.bool b⟩
 |.int i,v,u,_,h,r=>by rw[Den]at h;subst h;obtain⟨t,rfl⟩:=r;exact⟨_,.int i t⟩
 |.str x,v,u,_,h,r=>by rw[Den]at h;subst h;obtain⟨t,rfl⟩:=r;exact⟨_,.str x t⟩
 | .list ds,v,u,c,h,r=>by
  rw[Den]at h;obtain⟨a,xs,rfl,q1,q2⟩:=h;cases r;obtain⟨its,rv,⟨o,n,e1,e2,_,e3⟩,_⟩:=I.list q1;obtain⟨as,ra⟩:=cN.reads I ds xs its (by simpa [PyData.canLay0] using c) q2 rv;exact⟨_,.list e1 e2 e3 (by simpa using ra)⟩
 | .tuple ds,v,u,c,h,r=>by
  rw[Den]at h;obtain⟨a,xs,rfl,q1,q2⟩:=h;cases r;obtain⟨its,rv,⟨o,e1,e2,n,e3⟩,_⟩:=I.tuple q1;obtain⟨as,ra⟩:=cN.reads I ds xs its (by simpa [PyData.canLay0] using c) q2 rv;exact⟨_,.tuple e1 e2 e3 (by simpa using ra)⟩
 |.dict _,_,_,c,_,_=>by simp[PyData.canLay0]at c
theorem cN.reads(I:Inv X pins σ H s):∀(ds:List PyData) (xs:List V) (us:List Value),PyData.canLayAll0 ds=true->cN X.K H ds xs->Vals xs us->∃as,ReadsAll s.heap us ds as
 |[],xs,us,_,h,r=>by rw[cN]at h;subst h;cases r;exact⟨_,.nil⟩
 | d::ds,xs,us,c,h,r=>by
  have c':d.canLay0=true/\PyData.canLayAll0 ds=true:=by simpa [PyData.canLayAll0] using c
  rw[cN]at h;obtain⟨x,rest,rfl,q1,q2⟩:=h;cases r with
  |cons r1 r2=>obtain⟨as,ra⟩:=Den.reads I d x _ c'.1 q1 r1;obtain⟨bs,rb⟩:=cN.reads I ds rest _ c'.2 q2 r2;exact⟨_,.cons ra rb⟩
end
end
section
variable {X:Cx}
def OF(K:Frag):R2:=λx y H Q=>∃d e,Den K H d x/\Den K H e y/\d.canLay0=true/\e.canLay0=true/\d.depth<=60/\Q (.bl (PyData.eqv d e)) H
def OG(K:Frag):R2:=λx y H Q=>∃d e,Den K H d x/\Den K H e y/\d.canLay0=true/\e.canLay0=true/\d.depth<=60/\Q (.bl (!PyData.eqv d e)) H
theorem Gm(hu:X.A.units+64<cLine):kq X (compareOp .Eq) (OF X.K):=by
 intro pins s σ H x y v u Q I rx ry h;obtain⟨d,e,hd,he,c1,c2,hz,q⟩:=h;obtain⟨as,ra⟩:=Den.reads I d x v c1 hd rx;obtain⟨bs,rb⟩:=Den.reads I e y u c2 he ry;exact SeqAt.compareEq_reads ra rb c1 c2 (by have:=Nat.min_le_left d.depth e.depth;omega) ⟨.bl _,H,I,rfl,q⟩
theorem Gn(hu:X.A.units+64<cLine):kq X (compareOp .NotEq) (OG X.K):=by
 intro pins s σ H x y v u Q I rx ry h;obtain⟨d,e,hd,he,c1,c2,hz,q⟩:=h;obtain⟨as,ra⟩:=Den.reads I d x v c1 hd rx;obtain⟨bs,rb⟩:=Den.reads I e y u c2 he ry;exact SeqAt.compareNe_reads ra rb c1 c2 (by have:=Nat.min_le_left d.depth e.depth;omega) ⟨.bl _,H,I,rfl,q⟩
theorem mL{ns:List Int}(I:Inv X pins σ H s)(hq:fJ X.K H p (ns.map V.int))(h64:ns.length<64)
  (q:∀l,H l=none->Q (.ref l) (upd H l (.lst ((sortI ns).map V.int)))):wpAny (model X.prog X.w) X.A (call (.builtin "sorted") [.ref p]) (EP X pins σ Q) X.xe s:=by
 obtain⟨its,rv,pl,hz⟩:=I.list hq;have hi:=intsAre_of rv;have hl:=hi.length;refine sorted_ints pl.isList hi (by omega) λout ns' a1 a2 a3=>?_;obtain⟨e,he⟩:=sortedAll_at s.heap its out;have es:ns'=sortI ns:=V4 a2 a3;subst es;have hn:H (s.heap.objs.size+1)=none:=I.hok.fresh (UJ _);refine⟨.ref (s.heap.objs.size+1),_,I.laid (t':=s.toks) (λb o z=>sortedAll_old z) (UJ _) (show aV X.prog X.w _ _ _ (.lst ((sortI ns).map V.int)) from⟨?_,out.toList,e,eG a1,by simpa using he⟩),rfl,q _ hn⟩;rw[TQ,(Vr ns).length_eq,UI];omega
theorem kF:bK X (.builtin "sorted") (λxs H Q=>∃p ns,xs=[.ref p]/\fJ X.K H p (ns.map V.int)/\ns.length<64/\∀l,H l=none->Q (.ref l) (upd H l (.lst ((sortI ns).map V.int)))):=by
 intro pins s σ H xs us Q I r h;obtain⟨p,ns,rfl,hq,h64,q⟩:=h;obtain⟨u,rfl,ru⟩:=vals1 r;cases ru;exact mL I hq h64 q
def K8(K:Frag)(H:Hp)(r:Addr×List Int):Prop:=gQ K H r.1 (r.2.map V.int)/\r.2≠[]
theorem uq{pins:List (Addr×Obj)}{σ:St}{H:Hp}{s:Shared}{A:Around}{rs:List (Addr×List Int)}{h6:Heap}{s6:Shared}(I:Inv X pins σ H s)(ht:∀r∈rs,K8 X.K H r)(h2:2<=rs.length)(k:∀b o,s.heap.get? b=some o->s6.heap.get? b=some o) :
  jB.oR X.prog X.w A jB.lexOrd (λi=>(rs.getD i (0,[])).2) (rs.map λr=>Value.ref r.1) s6:=by
 have tup:∀r∈rs,∃its o n,s6.heap.get? r.1=some o/\o.cls=.type "tuple" /\ o.data=.seq (toArray its) n/\IntsAre its r.2:=λr hr=>by
  obtain⟨its,rv,⟨o,e1,e2,n,e3⟩,_⟩:=I.tuple (ht r hr).1;exact⟨its,o,n,k _ _ e1,e2,e3,intsAre_of rv⟩
 have kt:∀rs:List (Addr×List Int),(∀r∈rs,∃its o n,s6.heap.get? r.1=some o/\o.cls=.type "tuple" /\ o.data=.seq (toArray its) n/\IntsAre its r.2)->(∀r∈rs,r.2≠[]) ->
   ∃fs,PySem.W.KatTups s6.heap (rs.map λr=>Value.ref r.1) fs/\fs.length=rs.length/\∀v∈fs,∃i t,v=Value.int i t:=by
  intro rs
  induction rs with
  |nil=>intro _ _;exact⟨[],PySem.W.KatTups.nil,rfl,λv hv=>nomatch hv⟩
  |cons r rs ih=>
   intro g1 g2;obtain⟨fs,q1,q2,q3⟩:=ih (λr' hr'=>g1 r' (TM _ hr')) λr' hr'=>g2 r' (TM _ hr');obtain⟨its,o,n,e1,e2,e3,hi⟩:=g1 r TU;have hne:=g2 r TU;cases hr:r.2 with
   |nil=>exact absurd hr hne
   |cons i is=>
    rw[hr]at hi;cases hi with
    |cons _ t hi'=>
     refine⟨.int i t::fs,PySem.W.KatTups.cons e1 e2 e3 (by simp) q1,by simp[q2],λv hv=>?_⟩
     rcases T8.mp hv with z|z
     ·exact⟨i,t,z⟩
     ·exact q3 v z
 obtain⟨fs,q1,q2,q3⟩:=kt rs tup λr hr=>(ht r hr).2;unfold jB.oR;refine PySem.W.kat_kind q1 (by omega) (T:=Value.type "int") (λv hv=>?_) rfl ⟨rfl,λi j C hi hj hc=>?_⟩
 ·obtain⟨i,t,rfl⟩:=q3 v hv;exact PySem.W.Looks.of_pure rfl
 ·rw[TQ]at hi hj
  unfold PySem.W.kas_ask;have e1:(rs.map λr=>Value.ref r.1).getD i Value.none=Value.ref rs[i].1:=by simp[hi]
  have e2:(rs.map λr=>Value.ref r.1).getD j Value.none=Value.ref rs[j].1:=by simp[hj]
  have e3:rs.getD i (0,[])=rs[i]:=by simp[hi]
  have e4:rs.getD j (0,[])=rs[j]:=by simp[hj]
  rw[e1,e2];simp only[e3,e4]at hc;obtain⟨its,o,n,a1,a2,a3,a4⟩:=tup rs[i] (Wq hi);obtain⟨its',o',n',b1,b2,b3,b4⟩:=tup rs[j] (Wq hj);have l1:=a4.length;have l2:=b4.length;refine kat_lt a1 a3 b1 b3 (jB.lg 0 a4 b4 ?_ l1 hc (.inr rfl) (λ_ _ _=>trivial) (λ_=>trivial) ?_)
  ·rw[TZ,TZ,l1,l2];simp
  ·rw[TZ,TZ,l1,l2]
theorem xQ{rs:List (Addr×List Int)}:∀{us:List Value},Vals (rs.map λr=>V.ref r.1) us->us=rs.map λr=>Value.ref r.1:=by
 induction rs with
 |nil=>intro us r;cases r;rfl
 |cons a rs ih=>
  intro us r;cases r with
  |cons r1 r2=>cases r1;rw[ih r2];rfl
theorem kG:bK X (.builtin "sorted") (λxs H Q=>∃(p:Addr) (rs:List (Addr×List Int)),xs=[.ref p]/\fJ X.K H p (rs.map λr=>V.ref r.1)/\rs.length<64/\(∀r∈rs,K8 X.K H r) /\
  ∀(l:Addr) (qs:List (Addr×List Int)),H l=none->qs.Perm rs->qs.Pairwise (λa b=>HT.lexLt b.2 a.2=false)->Q (.ref l) (upd H l (.lst (qs.map λr=>V.ref r.1)))):=by
 intro pins s σ H xs us Q I r h;obtain⟨p,rs,rfl,hq,h64,ht,q⟩:=h;obtain⟨u,rfl,ru⟩:=vals1 r;cases ru;obtain⟨its,rv,pl,hz⟩:=I.list hq;have ev:=xQ rv;subst ev;refine jB.cQ (O:=jB.lexOrd) (collect_list pl.isList ?_ (by rw[TQ,UI];omega));have k1:∀b o,s.heap.get? b=some o->((s.heap.push (seqObj "list" #[] 0)).update s.heap.objs.size (Obj.mapSeq (· ++ (rs.map λr=>Value.ref r.1).toArray))).get? b=some o:=λb o e=>by
  rw[VC _ _ _ _ (T9 (TR e))];exact TF _ e
 have Rk:((s.heap.push (seqObj "list" #[] 0)).update s.heap.objs.size (Obj.mapSeq (· ++ (rs.map λr=>Value.ref r.1).toArray))).objs.size=s.heap.objs.size+1:=by rw[Heap.size_update,size_push']
 refine⟨by rw[TQ];exact h64,λi=>(rs.getD i (0,[])).2,λh2 h6 k6=>?_,λpp h' op k' he=>?_⟩
 ·rw[TQ]at h2;exact uq (h6:=h6) I ht h2 λb o e=>k6 b o (k1 b o e)
 ·rw[TQ]at op
  dsimp only at k' he |-;rw[Rk]at he |-;obtain⟨e,he⟩:=he;have hn:H (s.heap.objs.size+1)=none:=I.hok.fresh (UJ _);have lp:pp.length=rs.length:=by rw[op.perm.length_eq,Wh]
  have mem:∀i∈pp,i<rs.length:=λi hi=>by simpa using op.perm.mem_iff.mp hi
  have OH:(pp.map λi=>(rs.map λr=>Value.ref r.1).getD i Value.none)=(pp.map λi=>rs.getD i (0,[])).map λr=>Value.ref r.1:=by rw[UG];refine U5 λi hi=>?_;simp[mem i hi]
  have qp:(pp.map λi=>rs.getD i (0,[])).Perm rs:=by have:=op.perm.map λi=>rs.getD i (0,[]);rwa [jB.bH]at this
  have qs:(pp.map λi=>rs.getD i (0,[])).Pairwise (λa b=>HT.lexLt b.2 a.2=false):=by have up1:=Vv.mp op.up;exact Vv.mpr up1
  refine⟨.ref (s.heap.objs.size+1),_,I.laid (t':=s.toks) (λb o z=>k' b o (k1 b o z)) (UJ _) (show aV X.prog X.w _ _ _ (.lst ((pp.map λi=>rs.getD i (0,[])).map λr=>V.ref r.1)) from⟨?_,_,e,?_,he⟩),rfl,q _ _ hn qp qs⟩
  ·rw[TQ,TQ,lp,UI];omega
  ·rw[OH]
   generalize (pp.map λi=>rs.getD i (0,[]))=zs
   induction zs with
   |nil=>exact .nil
   |cons z zs ih=>exact .cons rfl ih
theorem vA{ns:List Int}(h:IntsAre us ns):∀(i:Nat) (v:Value),us[i]?=some v->∃t,v=.int (ns.getD i 0) t:=by
 induction h with
 |nil=>intro i v e;simp at e
 |cons z t r ih=>
  intro i v e;cases i with
  |zero=>simp at e;exact⟨t,by simp[<-e]⟩
  |succ i=>obtain⟨u,q⟩:=ih i v (by simpa using e);exact⟨u,by simpa using q⟩
theorem oU{pins:List (Addr×Obj)}{σ:St}{H:Hp}{s:Shared}{p:Addr}{ns:List Int}(I:Inv X pins σ H s)(hc:X.calm=true)(hq:fJ X.K H p (ns.map V.int)\/gQ X.K H p (ns.map V.int))(hne:0<ns.length){Q:Value->Shared->Prop}{f:String}{bt:Int->Int->Bool}{op:CmpOp}
  (hf:∀{Q:Value->Shared->Prop},wpAny (model X.prog X.w) X.A.in1 (pyIter (.ref p)) (λit s₂=>∃I fp wr n P St bt,it=.ref I/\Walks X.prog X.w X.A.in1 I fp wr n P St/\St 0 s₂.heap/\(∀b∈fp,b<s₂.heap.objs.size)/\0<n/\CmpOf X.prog X.w X.A.in1 op P bt /\
   ∀v h' tk,P (argBest bt (n-1)) v->(∀b o,b∉wr->s₂.heap.get? b=some o->h'.get? b=some o)->Q v { s₂ with heap:=h',toks:=tk }) X.xe s->wpAny (model X.prog X.w) X.A (call (.builtin f) [.ref p]) Q X.xe s)
  (hcmp:∀(P:Nat->Value->Prop),(∀i v,P i v->∃t,v=.int (ns.getD i 0) t)->CmpOf X.prog X.w X.A.in1 op P λi j=>bt (ns.getD i 0) (ns.getD j 0))
  (h:∀t h' tk,(∀b o,s.heap.get? b=some o->h'.get? b=some o)->argBest (λi j=>bt (ns.getD i 0) (ns.getD j 0)) (ns.length-1)<ns.length->Q (.int (ns.getD (argBest (λi j=>bt (ns.getD i 0) (ns.getD j 0)) (ns.length-1)) 0) t) { s with heap:=h',toks:=tk }) :
  wpAny (model X.prog X.w) X.A (call (.builtin f) [.ref p]) Q X.xe s:=by
 have hh:X.A.in1.handled=none:=I.ok.hd hc;have up:∀{us:List Value} (P:Nat->Value->Prop) (hi:IntsAre us ns),(∀i v,P i v->us.toArray[i]?=some v)->∀i v,P i v->∃t,v=.int (ns.getD i 0) t:=λP hi hP i v q=>vA hi i v (by simpa using hP i v q);have best:∀{us:List Value} (hi:IntsAre us ns) (v:Value) (h':Heap) (tk:Nat),us.toArray[argBest (λi j=>bt (ns.getD i 0) (ns.getD j 0)) (us.toArray.size-1)]?=some v->(∀b o,s.heap.get? b=some o->h'.get? b=some o)->Q v { s with heap:=h',toks:=tk }:=λ{us} hi v h' tk e k=>by
  have hl:=hi.length;rw[TZ,hl]at e;have e':us[argBest (λi j=>bt (ns.getD i 0) (ns.getD j 0)) (ns.length-1)]?=some v:=by simpa using e
  obtain⟨t,rfl⟩:=vA hi _ v e';exact h t h' tk k (by have:=(TJ.mp e').1;omega)
 rcases hq with hq|hq
 ·obtain⟨its,rv,pl,hz⟩:=I.list hq
  have hi:=intsAre_of rv;have hl:=hi.length;have hpl:=pl.isList;have hlt:p<s.heap.objs.size:=by obtain⟨_,e,_⟩:=hpl;exact TR e
  refine hf (VQ hpl ⟨s.heap.objs.size,[s.heap.objs.size,p],[s.heap.objs.size],its.toArray.size,_,_,λi j=>bt (ns.getD i 0) (ns.getD j 0),rfl,Walks.list hh _ p (T9 hlt) its.toArray,⟨⟨_,T7 _ rfl,rfl,rfl⟩,hpl.push _⟩,λb hb=>?_,by rw[TZ];omega,
   hcmp _ (up _ hi λi v q=>q),λv h' tk e k=>?_⟩)
  ·simp only[size_push']
   rcases T8.mp hb with z|z
   ·rw[z];exact Uz _
   ·rw[Ue.mp z];exact UY hlt
  ·exact best hi v h' tk e λb o z=>k b o (by simp;exact T9 (TR z)) (TF _ z)
 ·obtain⟨its,rv,pl,hz⟩:=I.tuple hq
  have hi:=intsAre_of rv;have hl:=hi.length;have hpl:s.heap.IsTuple p its.toArray:=pl;have hlt:p<s.heap.objs.size:=by obtain⟨_,e,_⟩:=hpl;exact TR e
  refine hf (wpAny_pyIter_tuple hpl ⟨s.heap.objs.size,[s.heap.objs.size,p],[s.heap.objs.size],its.toArray.size,_,_,λi j=>bt (ns.getD i 0) (ns.getD j 0),rfl,Walks.tuple hh _ p (T9 hlt) its.toArray,⟨⟨_,T7 _ rfl,rfl,rfl⟩,?_⟩,λb hb=>?_,by rw[TZ];omega,
   hcmp _ (up _ hi λi v q=>q),λv h' tk e k=>?_⟩)
  ·obtain⟨o,e,c⟩:=hpl;exact⟨o,TF _ e,c⟩
  ·simp only[size_push']
   rcases T8.mp hb with z|z
   ·rw[z];exact Uz _
   ·rw[Ue.mp z];exact UY hlt
  ·exact best hi v h' tk e λb o z=>k b o (by simp;exact T9 (TR z)) (TF _ z)
theorem p9(hc:X.calm=true):bK X (.builtin "min") (λxs H Q=>∃(p:Addr) (ns:List Int),xs=[.ref p]/\(fJ X.K H p (ns.map V.int)\/gQ X.K H p (ns.map V.int))/\0<ns.length/\∀m,m∈ns->(∀a∈ns,m<=a)->Q (.int m) H):=by
 intro pins s σ H xs us Q I r h;obtain⟨p,ns,rfl,hq,hne,q⟩:=h;obtain⟨u,rfl,ru⟩:=vals1 r;cases ru;refine oU (bt:=λa b=>decide (a<b)) (op:=.Lt) I hc hq hne (λ{Q} h=>call_min_walk h) (λP hP=>?_) λt h' tk k hb=>⟨.int _,H,I.kept k,⟨t,rfl⟩,q _ ?_ λa ha=>?_⟩
 ·intro i j x y s' Q' E' hx hy hQ;obtain⟨t,rfl⟩:=hP i x hx;obtain⟨t',rfl⟩:=hP j y hy;exact lt_int (by simpa using hQ)
 ·exact getD_mem hb
 ·obtain⟨j,hj,rfl⟩:=mem_getD ha;exact(argBest_lt (λi=>ns.getD i 0) (ns.length-1)).2 j (by omega)
theorem qa(hc:X.calm=true):bK X (.builtin "max") (λxs H Q=>∃(p:Addr) (ns:List Int),xs=[.ref p]/\(fJ X.K H p (ns.map V.int)\/gQ X.K H p (ns.map V.int))/\0<ns.length/\∀m,m∈ns->(∀a∈ns,a<=m)->Q (.int m) H):=by
 intro pins s σ H xs us Q I r h;obtain⟨p,ns,rfl,hq,hne,q⟩:=h;obtain⟨u,rfl,ru⟩:=vals1 r;cases ru;refine oU (bt:=λa b=>decide (a>b)) (op:=.Gt) I hc hq hne (λ{Q} h=>call_max_walk h) (λP hP=>?_) λt h' tk k hb=>⟨.int _,H,I.kept k,⟨t,rfl⟩,q _ ?_ λa ha=>?_⟩
 ·intro i j x y s' Q' E' hx hy hQ;obtain⟨t,rfl⟩:=hP i x hx;obtain⟨t',rfl⟩:=hP j y hy;exact gt_int (by simpa using hQ)
 ·exact getD_mem hb
 ·obtain⟨j,hj,rfl⟩:=mem_getD ha;exact(argBest_gt (λi=>ns.getD i 0) (ns.length-1)).2 j (by omega)
end
section
variable {X:Cx}
theorem ur{bs:List Bool}:∀{us:List Value},Vals (bs.map V.bl) us->us=bs.map Value.bool:=by
 induction bs with
 |nil=>intro us r;cases r;rfl
 |cons a bs ih=>
  intro us r;cases r with
  |cons r1 r2=>cases r1;rw[ih r2];rfl
theorem mO(bs:List Bool):((List.range bs.length).all λi=>bs.getD i true)=bs.all id:=by
 conv=>rhs;rw[<-jB.bH bs true]
 rw[List.all_map];rfl
theorem nZ(hc:X.calm=true):bK X (.builtin "all") (λxs H Q=>∃(p:Addr) (bs:List Bool),xs=[.ref p]/\fJ X.K H p (bs.map V.bl)/\Q (.bl (bs.all id)) H):=by
 intro pins s σ H xs us Q I r h;obtain⟨p,bs,rfl,hq,q⟩:=h;obtain⟨u,rfl,ru⟩:=vals1 r;cases ru;obtain⟨its,rv,pl,hz⟩:=I.list hq;have ev:=ur rv;subst ev;have hpl:=pl.isList;have hlt:p<s.heap.objs.size:=by obtain⟨_,e,_⟩:=hpl;exact TR e
 refine call_all_walk (VQ hpl ⟨s.heap.objs.size,[s.heap.objs.size,p],[s.heap.objs.size],_,_,_,λi=>bs.getD i true,rfl,Walks.list (A:=X.A.in1) (I.ok.hd hc) _ p (T9 hlt) (bs.map Value.bool).toArray,
  ⟨⟨_,T7 _ rfl,rfl,rfl⟩,hpl.push _⟩,λi v s' Q' E' hP hQ=>?_,λh' tk hk=>?_⟩)
 ·have hi:i<bs.length:=by simpa using (U9.mp hP).1
  have e:v=Value.bool (bs.getD i true):=by
   have:(bs.map Value.bool)[i]?=some v:=by simpa using hP
   simp[hi]at this;simp[hi,this]
  subst e;exact Vg hQ
 ·have e:((List.range (bs.map Value.bool).toArray.size).all λi=>bs.getD i true)=bs.all id:=by rw[TZ,TQ];exact mO bs
  rw[e];exact⟨.bl _,H,I.kept λb o z=>hk b o (by simp;exact T9 (TR z)) (TF _ z),rfl,q⟩
section
open PySem.AutoSeq1 (wpAny_loadPart')
theorem qb(l b:Addr)(items items2:Array Value)(n n2:Nat)(dd2:Option Addr)(sl2:Array (Option Value))(hs0:¬(!items.isEmpty&&Builtin.List.listTooLong (items.size+items2.size))=true)(hs1:items.size<=sizeLine)(hs2:items.size+items2.size<=sizeLine+1) :
  Meets (Builtin.«list.extend» ⟨[.ref l,.ref b],[]⟩) (λ_ R s=>s.heap.get? l=some { cls:=.type "list",data:=.seq items n }/\s.heap.get? b=some { cls:=.type "tuple",dict:=dd2,data:=.seq items2 n2,slots:=sl2 } /\
   R (.ok (.ret Value.none)) { s with heap:=s.heap.update l (Obj.mapSeq λx=>x++items2) }) :=
 .of_wp λprog w A R s h=>by
  obtain⟨hp,g,d,tk,os⟩:=s;obtain⟨hl,hb,h⟩:=h;have f2:=AutoSeq1.sub_tuple_tuple;have f3:=AutoSeq1.sub_list_list;have f4:=AutoSeq1.sub_tuple_list;have f5:=AutoSeq1.sub_list_tuple;have hz':(items++items2).size<=sizeLine+1:=by rw[Array.size_append];exact hs2
  wp_walk using (wpAny_updateSeq hl rfl (hz:=hs1) (_hz':=hz')),wpAny_loadPart' hl,wpAny_loadPart' hb
  exact⟨_,rfl,h⟩
end
def zy(K:Frag):V->List V->Hp->VK->Prop:=λx vs H Q=>∃l b xs zs,x=.ref l/\vs=[.ref b]/\H l=some (.lst xs)/\gQ K H b zs/\xs.length+zs.length<=sizeLine/\Q .non (upd H l (.lst (xs++zs)))
theorem uu:Nt X "list.extend" (zy X.K):=by
 intro pins s σ H x vs v us Q I rx rv h;obtain⟨l,b,xs,zs,rfl,rfl,hH,hB,hz,q⟩:=h;cases rx;obtain⟨u,rfl,ru⟩:=rv.one;cases ru;obtain⟨z,its,n,r,hl,e⟩:=I.ze hH;obtain⟨its2,r2,⟨⟨oc,od,Nx,osl⟩,e2,ec,n2,ed⟩,z2⟩:=I.tuple hB;cases ec;cases ed;have l2:=r2.length;have hsz:its.toArray.size+its2.toArray.size<=sizeLine:=by rw[TZ,TZ];omega
 have zf:¬ (!its.toArray.isEmpty&&Builtin.List.listTooLong (its.toArray.size+its2.toArray.size))=true:=by rw[qU hsz,Bool.and_false];exact TH
 refine call_meets F.slot_list_extend ⟨_,e,rfl⟩ F.entry_list_extend (F.args_list_extend_2 _ _)
  (qb l b its.toArray its2.toArray n n2 od osl zf (by rw[TZ];omega) (by omega)) ⟨e,e2,?_⟩
 refine⟨.non,_,I.Ca (its':=its++its2) hH e (by simp) (r.append r2) ?_,rfl,q⟩;rw[Ul];omega
end
end L2
end
section
namespace L2
open PySem
def oV(xs:Array Nat):Prop:=xs.toList.Pairwise (· < ·)
structure Cut (xs:Array Nat) (j p:Nat):Prop where
 le:p<=xs.size
 lo:∀(i:Nat) (hi:i<xs.size),i<p->xs[i]<j
 hi:∀(i:Nat) (hi:i<xs.size),p<=i->j<=xs[i]
theorem Cut.one{xs:Array Nat}{j p q:Nat}(a:Cut xs j p)(b:Cut xs j q):p=q:=by
 rcases Nat.lt_trichotomy p q with h|h|h
 ·have hp:p<xs.size:=TY h b.le;have:=a.hi p hp (TV _);have:=b.lo p hp h;omega
 ·exact h
 ·have hq:q<xs.size:=TY h a.le;have:=b.hi q hq (TV _);have:=a.lo q hq h;omega
theorem oV.get{xs:Array Nat}(r:oV xs){a b:Nat}(ha:a<xs.size)(hb:b<xs.size)(h:a<b):xs[a]<xs[b]:=by
 have:=Vb.mp r a b (by simpa using ha) (by simpa using hb) h;simpa using this
theorem uv{xs:Array Nat}(r:oV xs)(j:Nat):∀(fuel lo hi:Nat),lo<=hi->hi<=xs.size->hi-lo<=fuel->(∀(i:Nat) (hi:i<xs.size),i<lo->xs[i]<j)->(∀(i:Nat) (h:i<xs.size),hi<=i->j<=xs[i])->Cut xs j (SetTable.below.go xs j fuel lo hi)
 | 0,lo,hi,h1,h2,h3,a,b=>by
  have:lo=hi:=by omega
  subst this;exact⟨h2,a,b⟩
 | fuel+1,lo,hi,h1,h2,h3,a,b=>by
  unfold SetTable.below.go
  by_cases hlt:lo<hi
  ·rw[T4 hlt]
   dsimp only;have hm:(lo+hi)/2<xs.size:=by omega
   have eg:xs.getD ((lo+hi)/2) j=xs[(lo+hi)/2]:=by simp[Array.getD,hm]
   rw[eg]
   by_cases hc:xs[(lo+hi)/2]<j
   ·rw[T4 hc]
    refine uv r j fuel _ hi (by omega) h2 (by omega) (λi hi' hl=>?_) b
    by_cases e:i=(lo+hi)/2
    ·subst e;exact hc
    ·exact lt_trans (r.get hi' hm (by omega)) hc
   ·rw[TX hc]
    refine uv r j fuel lo _ (by omega) (by omega) (by omega) a (λi hi' hl=>?_)
    by_cases e:i=(lo+hi)/2
    ·subst e;omega
    ·have:=r.get hm hi' (by omega);omega
  ·rw[TX hlt]
   have:lo=hi:=by omega
   subst this;exact⟨h2,a,b⟩
theorem iM{xs:Array Nat}(r:oV xs)(j:Nat):Cut xs j (SetTable.below xs j) :=
 uv r j xs.size 0 xs.size (U8 _) (TV _) (by omega) (λi _ h=>by omega) (λi h hl=>by omega)
theorem uw{xs:Array Nat}(r:oV xs):SetTable.below xs 0=0:=(iM r 0).one ⟨U8 _,λi _ h=>by omega,λi _ _=>U8 _⟩
theorem ux{xs:Array Nat}(r:oV xs){i:Nat}(hi:i<xs.size):SetTable.below xs (xs[i]+1)=i+1:=by
 refine(iM r _).one ⟨hi,λk hk h=>?_,λk hk h=>?_⟩
 ·by_cases e:k=i
  ·subst e;omega
  ·have:=r.get hk hi (by omega);omega
 ·have:=r.get hi hk (by omega);omega
theorem xR{xs:Array Nat}(r:oV xs){j:Nat}(h:j∈xs):xs[SetTable.below xs j]?=some j:=by
 obtain⟨k,hk,e⟩:=Array.mem_iff_getElem.mp h;have:SetTable.below xs j=k:=by
  refine(iM r j).one ⟨Ve hk,λi hi h=>?_,λi hi h=>?_⟩
  ·have:=r.get hi hk h;omega
  ·by_cases e':i=k
   ·subst e';omega
   ·have:=r.get hk hi (by omega);omega
 rw[this,Uw hk,e]
theorem xS{xs:Array Nat}(r:oV xs){j:Nat}(h:j∉xs):oV (SetTable.insertAt xs (SetTable.below xs j) j):=by
 have c:=iM r j;unfold oV;rw[SetTable.toList_insertAt];have rl:xs.toList.Pairwise (· < ·):=r;have lo:∀a∈xs.toList.take (SetTable.below xs j),a<j:=λa ha=>by
  obtain⟨i,hi,e⟩:=Vx.mp ha;rw[V0,Um]at hi;rw[List.getElem_take]at e;have:=c.lo i (by omega) (by omega);rw[<-e];simpa using this
 have up:∀a∈xs.toList.drop (SetTable.below xs j),j<a:=λa ha=>by
  obtain⟨i,hi,e⟩:=Vx.mp ha;rw[Wn,Um]at hi;rw[List.getElem_drop]at e;have h1:=c.hi (SetTable.below xs j+i) (by omega) (by omega);have e':xs[SetTable.below xs j+i]'(by omega)=a:=by rw[<-e];simp
  rw[e']at h1;have:a≠j:=λz=>h (by rw[<-z,<-e'];exact Array.getElem_mem _);omega
 rw[List.pairwise_append];refine⟨rl.sublist (List.take_sublist _ _),UK.mpr ⟨up,rl.sublist (List.drop_sublist _ _)⟩,λa ha b hb=>?_⟩
 rcases T8.mp hb with e|hb
 ·rw[e];exact lo a ha
 ·exact lt_trans (lo a ha) (up b hb)
theorem jK(n:Nat):oV (Array.range n):=by
 unfold oV;rw[Array.toList_range];exact List.pairwise_lt_range
theorem oW{t:SetTable}(r:oV t.place){j:Nat}(h:t.slot j=.empty\/t.slot j=.dummy):j∉t.place:=λhm=>by
 have e:=xR r hm;unfold SetTable.slot at h;dsimp only at h;rw[e]at h;simp at h
theorem jq{h:Int}:∀(fuel:Nat) (p:SetTable.Probe) (j:Nat) (d:Option Nat),(∀k,p.dummy=some k->t.slot k=.dummy)->SetTable.probe.go t f h fuel p=some (.empty j d)->t.slot j=.empty/\∀k,d=some k->t.slot k=.dummy
 |0,p,j,d,hd,e=>by simp[SetTable.probe.go]at e
 | fuel+1,p,j,d,hd,e=>by
  have ad:∀q:SetTable.Probe,(t.advance q).dummy=q.dummy:=λq=>by unfold SetTable.advance;split<;>rfl
  unfold SetTable.probe.go at e;split at e
  ·rename_i hs;cases e;exact⟨hs,hd⟩
  ·rename_i hs;refine jq fuel _ j d (λk hk=>?_) e;rw[ad]at hk;cases hk;exact hs
  ·split at e
   ·cases e
   ·exact jq fuel _ j d (λk hk=>hd k (by rw[<-ad];exact hk)) e
theorem zA{t:SetTable}(r:oV t.place){h:Int}{s:Nat}{b:Bool}(e:t.freeSlot h=some (s,b)):s∉t.place:=by
 unfold SetTable.freeSlot at e;split at e
 ·rename_i j d hp
  cases e;obtain⟨h1,h2⟩:=jq _ _ _ _ (λk hk=>by simp[SetTable.probeStart]at hk) hp;cases d with
  |none=>exact oW r (.inl h1)
  |some k=>exact oW r (.inr (h2 k rfl))
 ·cases e
theorem xT(r:oV t.place)(es:Array (Int×Value))(h:Int)(x:Value):oV (layNew t es h x).2.1.place/\(layNew t es h x).2.1.led=t.led:=by
 unfold layNew
 split
 ·rename_i s b e
  have fr:=zA r e;dsimp only;unfold SetTable.orStandIn
  split
  ·exact⟨xS r fr,rfl⟩
  ·exact⟨jK _,rfl⟩
 ·exact⟨jK _,rfl⟩
theorem zB(r:oV t.place)(es:Array (Int×Value))(n:Nat):oV (relayAll t es n).2.1.place/\(relayAll t es n).2.1.led=t.led:=by
 unfold relayAll
 split
 ·rename_i t' order e
  dsimp only
  split
  ·unfold SetTable.relaid SetTable.laid at e;obtain⟨ow,e1,e⟩:=Tz.mp e;cases e;refine⟨?_,rfl⟩;show List.Pairwise _ (List.map _ _).toArray.toList;rw[List.toList_toArray,Vv];refine List.Pairwise.filterMap _ (R:=(· < ·)) (λa a' hl b hb b' hb'=>?_) List.pairwise_lt_range;obtain⟨x,_,rfl⟩:=Uj.mp hb;obtain⟨y,_,rfl⟩:=Uj.mp hb';exact hl
  ·exact⟨jK _,rfl⟩
 ·exact⟨jK _,rfl⟩
end L2
end
section
namespace L2
open PySem PyProof.Rows
def n5(w:World):Bool:=w.params.followText "set-order"
structure Ei (w:World) (es:Array (Int×Value)) (t:SetTable):Prop where
 few:es.size<scanBound
 fit:t.fits es.size=true
 rs:oV t.place
 led:t.led = !n5 w
structure cR (prog:Program) (w:World) (h:Heap) (a:Addr) (o:Obj) (es:Array (Int×Value)) (ep:Nat) (t:SetTable) (ks:List Int):Prop where
 at_:h.get? a=some o
 ex:o.ExactSet
 dat:o.data=.set es ep t
 el:ElemsOf (intKind prog w) es.toList
 tab:Ei w es t
 Qn:ks.Nodup
 mem:∀k,k∈ks↔∃e∈es.toList,(intKind prog w).is k e.2=true
 num:es.size=ks.length
def lK(prog:Program)(w:World)(h:Heap)(a:Addr)(ks:List Int):Prop:=∃o es ep t,cR prog w h a o es ep t ks
def fF(ks:List Int)(k:Int):List Int:=if k∈ks then ks else ks++[k]
section
variable {prog:Program} {w:World} {A:Around} {E:Value->Shared->Prop} {s:Shared}
theorem zC{h:Heap}{a:Addr}{o:Obj}{es es':Array (Int×Value)}{ep:Nat}{t t':SetTable}(ho:h.get? a=some o)(hd:o.data=.set es ep t):(h.update a (Obj.putSet es' t')).get? a=some { o with data:=.set es' (ep+1) t' }:=by
 have q:=Us (Obj.putSet es' t') ho (by rw[putSet_of es' t' hd];rfl);rw[putSet_of es' t' hd]at q;exact q
theorem lK.frame{ks:List Int}(S:lK prog w h a ks)(k:∀o,h.get? a=some o->h'.get? a=some o):lK prog w h' a ks:=by
 obtain⟨o,es,ep,t,i⟩:=S;exact⟨o,es,ep,t,{ i with at_:=k o i.at_ }⟩
theorem mem_push{es es1:List (Int×Value)}{ks:List Int}{k:Int}(hx:(intKind prog w).is k x=true)(hm:∀j,j∈ks↔∃e∈es,(intKind prog w).is j e.2=true)(p:es1.Perm (es++[((intKind prog w).hash k,x)]))(j:Int) :
  j∈ks++[k]↔∃e∈es1,(intKind prog w).is j e.2=true:=by
 rw[U0,Ue,hm];constructor
 ·rintro(⟨e,he,q⟩|rfl)
  ·exact⟨e,p.mem_iff.mpr (Vf _ he),q⟩
  ·exact⟨_,p.mem_iff.mpr (Uq _ TU),hx⟩
 ·rintro⟨e,he,q⟩
  rcases U0.mp (p.mem_iff.mp he) with z|z
  ·exact .inl ⟨e,z,q⟩
  ·rw[Ue]at z;subst z;exact .inr ((intKind prog w).inj x j k q hx)
theorem rF{g:Bool->Sem Unit}(hg:∀(b:Bool) (s₁:Shared) (Q':Unit->Shared->Prop),Q' () s₁->wpAny (model prog w) A (g b) Q' E s₁)
  {a:Addr} {o:Obj} {es es1:Array (Int×Value)} {ep:Nat} {t t2:SetTable} {ks:List Int} (ho:s.heap.get? a=some o) (hex:o.ExactSet) (hd:o.data=.set es ep t)
  (hel:ElemsOf (intKind prog w) es1.toList) (hm:∀k,k∈ks↔∃e∈es1.toList,(intKind prog w).is k e.2=true) (hnd:ks.Nodup) (hn:es1.size=ks.length) (ht:Ei w es1 t2) {b:Bool} {R:Option Bool->Shared->Prop}
  (h:∀h',Heap.SameBut a s.heap h'->lK prog w h' a ks->R (some true) { s with heap:=h' }) :
  wpAny (model prog w) A (do
    storeSet a es1 t2
    if (!b&&t2.tooFull)=true then do
      g (relayAll t2 es1 (SetTable.grown es1.size)).2.2
      storeSet a (relayAll t2 es1 (SetTable.grown es1.size)).1 (relayAll t2 es1 (SetTable.grown es1.size)).2.1
      pure (some true)
     else pure (some true)) R E s:=by
 refine Tw (wpAny_storeSet_of ho hd ?_ (VW ht.few));have h1:=zC (es':=es1) (t':=t2) ho hd;have b1:=UH s.heap a (Obj.putSet es1 t2)
 split
 ·have p:=relayAll_perm t2 es1 (SetTable.grown es1.size)
  have f:=relayAll_fits t2 es1 (SetTable.grown es1.size);have rr:=zB ht.rs es1 (SetTable.grown es1.size);generalize relayAll t2 es1 (SetTable.grown es1.size)=Rl at p f rr |-;obtain⟨OI,t3,gv⟩:=Rl;dsimp only at p f rr |-;have z:OI.size=es1.size:=by rw[<-Um,p.length_eq,Um]
  have few:OI.size<scanBound:=by rw[z];exact ht.few
  refine Tw (hg _ _ _ ?_);refine Tw (wpAny_storeSet_of h1 rfl ?_ (VW few));refine TL (h _ (b1.trans (UH _ a _)) ⟨_,OI,_,t3,zC h1 rfl,hex,rfl,hel.perm p,⟨few,f,rr.1,rr.2.trans ht.led⟩,hnd,λk=>(hm k).trans ⟨λ⟨e,he,q⟩=>⟨e,p.mem_iff.mpr he,q⟩,λ⟨e,he,q⟩=>⟨e,p.mem_iff.mp he,q⟩⟩,z.trans hn⟩)
 ·exact TL (h _ b1 ⟨_,es1,_,t2,h1,hex,rfl,hel,ht,hnd,hm,hn⟩)
theorem add_int{ks:List Int}{k:Int}(S:lK prog w s.heap a ks)(room:ks.length+1<scanBound)
  (h:∀h' b,Heap.SameBut a s.heap h'->lK prog w h' a (fF ks k)->Q b { s with heap:=h' }) :
  wpAny (model prog w) A (setAddHashed a (.int k tk) ((intKind prog w).hash k)) Q E s:=by
 obtain⟨o,es,ep,t,I⟩:=S;have hx:(intKind prog w).is k (.int k tk)=true:=intKind_is _ _ _ _;have sc:(Value.int k tk).scannable=true:=rfl;unfold setAddHashed setAddHashedIn;refine Uy (Tw (UZ I.at_ I.dat I.tab.fit ?_));dsimp only;rw[byScan_of sc I.tab.few I.el];simp only[↓reduceIte];unfold setAddByScan;refine Tw (Tw (wpAny_rule (Tw (wpAny_setScan_of hx I.at_ I.dat I.tab.fit I.el ?_))));cases hr:List.findIdx? (λe=>(intKind prog w).is k e.2) es.toList with
 |some j=>
  dsimp only;obtain⟨hj,pj,_⟩:=List.findIdx?_eq_some_iff_getElem.mp hr;have hk:k∈ks:=(I.mem k).mpr ⟨es.toList[j],Wq hj,pj⟩;refine TL (TL ?_);have e:s={ s with heap:=s.heap }:=by cases s;rfl
  rw[e];exact h s.heap _ (Heap.SameBut.refl a s.heap) (by unfold fF;rw[T4 hk];exact⟨o,es,ep,t,I⟩)
 |none=>
  dsimp only;have hk:k∉ks:=λz=>by
   obtain⟨e,he,p⟩:=(I.mem k).mp z;have:=List.findIdx?_eq_none_iff.mp hr e he;rw[p]at this;cases this
  have gw:∀(b:Bool) (s₁:Shared) (Q':Unit->Shared->Prop),Q' () s₁->wpAny (model prog w) A (match b with|true=>rule "set.scan.the-table-gave-way" | false=>pure ()) Q' E s₁:=λb s₁ Q' q=>by
   cases b
   ·exact TL q
   ·exact wpAny_rule q
  have p:=layNew_perm t es ((intKind prog w).hash k) (.int k tk);have f:=layNew_fits t es ((intKind prog w).hash k) (.int k tk);have rr:=xT I.tab.rs es ((intKind prog w).hash k) (.int k tk);generalize layNew t es ((intKind prog w).hash k) (.int k tk)=Ln at p f rr |-;obtain⟨es1,t1,wd,gv⟩:=Ln;dsimp only at p f rr |-;rw[Array.toList_push]at p;have z:es1.size=(ks++[k]).length:=by rw[<-Um,p.length_eq,Ul,Ul,Um,I.num];rfl
  have few:es1.size<scanBound:=by rw[z,Ul];simpa using room
  have nd:(ks++[k]).Nodup:=by rw[Wi];exact⟨I.Qn,by simp,λx hx' y hy e=>hk (by rw[Ue]at hy;rw[<-hy,<-e];exact hx')⟩
  have Qo:ElemsOf (intKind prog w) es1.toList:=(I.el.push hx sc).perm p;have m1:=mem_push hx I.mem p;have fin:∀h',Heap.SameBut a s.heap h'->lK prog w h' a (ks++[k])->Q true { s with heap:=h' }:=λh' sb S'=>h h' true sb (by unfold fF;rw[TX hk];exact S');refine Tw (gw _ _ _ ?_)
  split
  ·refine Tw ?_
   rw[hashByValue_scannable 8 sc];refine TL ?_;refine rF gw I.at_ I.ex I.dat Qo m1 nd z ⟨few,?_,?_,?_⟩ λh' sb S'=>TL (fin h' sb S')
   ·split
    ·exact f
    ·exact SetTable.fits_plain_off f
   ·split
    ·exact rr.1
    ·exact rr.1
   ·split
    ·exact rr.2.trans I.tab.led
    ·exact rr.2.trans I.tab.led
  ·refine Tw (TL ?_);simp only[↓reduceIte];exact rF gw I.at_ I.ex I.dat Qo m1 nd z ⟨few,f,rr.1,rr.2.trans I.tab.led⟩ λh' sb S'=>TL (fin h' sb S')
end
def bA:List Int->List Int->List Int
 |ks,[]=>ks
 |ks,k::r=>bA (fF ks k) r
theorem jL(ks:List Int)(k:Int):(fF ks k).length<=ks.length+1:=by unfold fF;split<;>simp
section
variable {prog:Program} {w:World} {A:Around} {E:Value->Shared->Prop} {s:Shared}
theorem zE{R:Result->Shared->Prop}{I:Addr}{fp wr:List Addr}{G:Array GenState->Array GenState->Prop}{n:Nat}{P:Nat->Value->Prop}{St:Nat->Shared->Prop}(W:WalksS prog w A.in1 I fp wr G n P St)(S:Addr)(hSf:S∉fp)(val:Nat->Int)(hval:∀i v,P i v->∃t,v=.int (val i) t) :
  ∀(k i:Nat) (s:Shared) (ks:List Int),n-i=k->i<=n->ks.length+k+1<scanBound->St i s->lK prog w s.heap S ks ->
   (∀s',Moved (S::wr) G s s'->lK prog w s'.heap S (bA ks ((range' i k).map val))->R (.ok (.ret .none)) s') ->
   codeAny (model prog w) A (.builtin "set.update.loop" ⟨[.ref S,.ref I],[]⟩) R s:=by
 have Qp:S∉wr:=λh=>hSf (W.sub _ h);have sub:∀b∈wr,b∈S::wr:=λb hb=>TM _ hb;intro k
 induction k with
 |zero=>
  intro i s ks hk hi _ hst hS hR;have:i=n:=by omega
  subst this;refine Vt PyProof.Rows.F.entry_set_update_loop ?_;rw[Vi U6 _];show wpAny _ A.in1 (pyNext (.ref I) >>= _) _ _ s;refine Tw (W.done s _ _ hst λs' hm=>?_);show wpAny _ A.in1 (ret Value.none) _ _ s';exact TL (hR s' (hm.mono sub) (hS.frame λo e=>hm.heap S _ Qp e))
 |succ k ih=>
  intro i s ks hk hi hl hst hS hR;have hlt:i<n:=by omega
  refine Vt PyProof.Rows.F.entry_set_update_loop ?_;rw[Vi U6 _];show wpAny _ A.in1 (pyNext (.ref I) >>= _) _ _ s;refine Tw (W.item i s _ _ hlt hst λv s' hP OJ hm=>?_);obtain⟨t,rfl⟩:=hval i v hP;have hS':=hS.frame (h':=s'.heap) λo e=>hm.heap S _ Qp e;show wpAny _ A.in1 (holding [Value.int (val i) t] (setAdd S (.int (val i) t)) >>= _) _ _ s';refine Tw (Uy ?_);unfold setAdd;refine Uy (Tw ((intKind prog w).pyHash (k:=val i) (intKind_is _ _ _ _) ?_));refine add_int (s:={ s' with toks:=s'.toks+1 }) hS' (by omega) λh' b sb S2=>?_;have hl2:=jL ks (val i);refine TL ⟨V6 U6 _,ih (i+1) _ (fF ks (val i)) (by omega) hlt (by omega) (W.frame _ s' _ _ OJ (UJ _) λb hb o e=>?_) S2 λs'' Gi S3=>?_⟩
  ·rw[sb.2 b λz=>hSf (by rw[<-z];exact hb)];exact e
  ·refine hR s'' (Moved.trans W.gtrans ((hm.mono sub).then_heap (UJ _) λb o hb e=>?_) Gi) ?_
   ·rw[sb.2 b λz=>hb (by rw[z];exact TU)];exact e
   ·rw[List.range'_succ,T6,bA];exact S3
abbrev mP(w:World):Obj:={ cls:=.type "set",dict:=none,data:=.set #[] 0 (.fresh 0 0 (!n5 w)) }
theorem Cr(e:h.get? a=some (mP w)):lK prog w h a [] :=
 ⟨_,#[],0,_,e,⟨rfl,rfl,rfl⟩,rfl,λx hx=>by simp at hx,⟨by show 0<4096;decide,rfl,List.Pairwise.nil,rfl⟩,List.nodup_nil,λk=>by simp,rfl⟩
theorem zF(a:Value)(h:Q₁ (.ref s.heap.objs.size) { s with heap:=s.heap.push (mP w) }) :
  codeAny (model prog w) A (.call (.builtin "set.__new__") ⟨[.type "set",a],[]⟩) (wants Q₁ E) s:=by
 refine codeAny_of_tree ?_;show wpAny _ A.in1 (do checkBuiltinCall "set.__new__" ⟨[.type "set",a],[]⟩;again (.builtin "set.__new__" ⟨[.type "set",a],[]⟩)) _ _ s;refine Tw (wpAny_of_eq (PySem.F.newCall_set_1 a) (TL ⟨V6 PySem.F.plain_set_new _,Vt PySem.F.entry_set_new ?_⟩));rw[Vi PySem.F.plain_set_new _];unfold Builtin.«set.__new__» Builtin.Frozenset.newClass;have hsub:=sub_set_self;obtain⟨hp,g,d,tk,os⟩:=s;dsimp only
 wp_walk
 refine wpAny_askSetting (TL ?_);dsimp only;simp only[newObj];refine Tw (wpAny_alloc (TL ?_));exact TL h
end
section
variable {prog:Program} {w:World} {A:Around} {E:Value->Shared->Prop} {s:Shared}
theorem uy{ns:List Int}(hi:IntsAre vs ns):(range' 0 vs.length).map (λi=>ns.getD i 0)=ns:=by
 have hl:=IntsAre.length hi;apply V3
 ·rw[TQ,List.length_range',hl]
 ·intro i h1 h2;simp[List.getD,h2]
theorem rG{ns:List Int}(hh:A.handled=none)(hl:s.heap.IsList l items)(hi:IntsAre items.toList ns)(hb:items.size+1<scanBound)
  (h:∀(h':Heap) (tk:Nat),lK prog w h' s.heap.objs.size (bA [] ns)->(∀b o,b<s.heap.objs.size->s.heap.get? b=some o->h'.get? b=some o)->Q (.ref s.heap.objs.size) { s with heap:=h',toks:=tk }) :
  wpAny (model prog w) A (call (.type "set") [.ref l]) Q E s:=by
 obtain⟨c,tl,mro⟩:=PySem.F.called_set.mro;have made:=PySem.F.called_set.made;have sub:=PySem.F.called_set.sub;refine VJ (codeAny_of_tree ?_);show wpAny _ _ (callAny (.type "set") _) _ _ _;refine TL ⟨Wd _ (by decide +kernel),Vt PySem.F.entry_type_call ?_⟩;rw[Around.under_plain (weight_type_call_type "set" [.ref l] []) rfl];have n1:=PySem.F.called_set.notType;have n2:=PySem.F.called_set.canCreate;have n3:=PySem.F.typeCall_set_1 (.ref l)
 repeat (any_goals (first|assumption|wp_step))
 refine Vq (zF (.ref l) (E:=E) (Q₁:=λobj s₁=>obj=.ref s.heap.objs.size/\s₁={ s with heap:=s.heap.push (mP w) }) ⟨rfl,rfl⟩) λr s₁ hr=>?_;cases r with
 |error e=>exact hr
 |ok fl=>
  cases fl with
  |ret obj=>
   obtain⟨rfl,rfl⟩:=hr;have Qq:(s.heap.push (mP w)).get? s.heap.objs.size=some (mP w):=T7 _ rfl;have hT:Shared.TypeIs { s with heap:=s.heap.push (mP w) } (.ref s.heap.objs.size) "set":=⟨_,Qq,rfl⟩;have look:=PySem.F.called_set.init.lookup;have bind:=PySem.F.called_set.init.bind (.ref s.heap.objs.size)
   repeat (any_goals (first|assumption|wp_step))
   refine Vq (V8 (R:=wants (λr s₂=>r=.none/\∃h' tk,s₂={ s with heap:=h',toks:=tk }/\lK prog w h' s.heap.objs.size (bA [] ns) /\
     (∀b o,b<s.heap.objs.size->s.heap.get? b=some o->h'.get? b=some o)) E) PySem.F.called_set.init.plain PySem.F.entry_set_init (check_set_init_1 hT ?_)) λr₂ s₂ OL=>?_
   ·obtain⟨ol,Qs,cl,nl,dl⟩:=hl
    obtain⟨oc,od,Ti,os⟩:=ol;simp only at cl dl;subst cl;subst dl;have OM:(s.heap.push (mP w)).get? l=some { cls:=.type "list",dict:=od,data:=.seq items nl,slots:=os }:=TF _ Qs;have q1:=PySem.F.sub_list_set;have q2:=PySem.F.sub_list_frozenset;have q3:(Value.type "list" == Value.type "dict")=false:=by decide
    have hl1:(s.heap.push (mP w)).IsList l items:=⟨_,OM,rfl,nl,rfl⟩;unfold Builtin.«set.__init__» noKeywords Builtin.Frozenset.updateFrom;generalize Rm:pyIter=PI
    wp_walk
    subst Rm;refine VQ hl1 (Tw (wpAny_runValue ?_));have lS:l<s.heap.objs.size:=TR Qs;have h3:A.in1.in1.in1.handled=none:=by simp[hh]
    have Rn:l≠(s.heap.push (mP w)).objs.size:=by rw[UN];exact T9 (UY lS)
    have sF:s.heap.objs.size∉[(s.heap.push (mP w)).objs.size,l]:=by rw[UN];simp only[mem_cons,not_mem_nil,or_false,not_or];exact⟨T9 (Uz _),Vo lS⟩
    have val:∀(i:Nat) (v:Value),items[i]?=some v->∃t,v=.int ((λi=>ns.getD i 0) i) t:=λi v hv=>IntsAre.int_at hi i v (by rw[VZ];exact hv);refine zE ((Walks.list h3 _ l Rn items).toS) s.heap.objs.size sF (λi=>ns.getD i 0) val (items.size-0) 0 _ [] (by omega) (U8 _) (by simpa using hb) ⟨⟨_,T7 _ rfl,rfl,rfl⟩,hl1.push _⟩ ?s0 ?sR
    case s0=>exact Cr (TF _ Qq)
    case sR=>
     intro s' hm S';obtain⟨h',g',d',tk',os'⟩:=s';have eg:g'=s.gens:=hm.gens;have ed:d'=s.drawn:=hm.drawn;have eo:os'=s.os:=hm.os;subst eg;subst ed;subst eo;refine TL ?_;show wpAny _ _ (ret Value.none) _ _ _;have e0:(range' 0 (items.size-0)).map (λi=>ns.getD i 0)=ns:=by have:=uy hi;rw[Um]at this;exact this
     rw[e0] at S';refine TL ⟨rfl,h',tk',rfl,S',λb o hb e=>?_⟩;have b1:b≠s.heap.objs.size:=T9 hb;have b2:b≠(s.heap.push (mP w)).objs.size:=by rw[UN];exact T9 (UY hb)
     exact hm.heap b o (by simp only[mem_cons,not_mem_nil,or_false,not_or];exact⟨b1,b2⟩) (TF _ (TF _ e))
   ·cases r₂ with
    |error e=>exact OL
    |ok Ro=>
     cases Ro with
     |ret r=>
      obtain⟨rfl,h',tk,rfl,S',hk⟩:=OL
      repeat (any_goals (first|assumption|wp_step))
      exact h _ _ S' hk
     |_=>exact OL.elim
  |_=>exact hr.elim
end
namespace SI
theorem uz:entryFor table "set.__iter__" = some Builtin.«frozenset.__iter__» :=
 entryFor_alias (id':="frozenset.__iter__") (by kernel_rfl) rfl (by decide +kernel) (by kernel_rfl)
theorem owner:Manifest.owners.lookup (String.ofList ['r','o','t','a','r','e','t','i','_','t','e','s'].reverse)=some Manifest.sig_set_iterator:=by kernel_rfl
theorem slot_next:Slot "set_iterator" "__next__" "set_iterator.__next__" :=
 .of (owner:="set_iterator") (n:="__next__") (by rw[typeLookup_type,builtinLookup_eq_fast];kernel_rfl) (by decide +kernel) (by decide +kernel) (by decide +kernel) (by first|exact .inl (by decide +kernel)|exact .inr (by decide +kernel)) (by rw[isSubtype_type];kernel_rfl)
theorem entry_next:entryFor table "set_iterator.__next__" = some Builtin.«set_iterator.__next__»:=entryFor_of_tree (by kernel_rfl)
theorem args_next(a:Value):argsOk "set_iterator.__next__" ⟨[a],[]⟩:=by
 unfold argsOk;rw[signature?_of (id:="set_iterator.__next__") (n:=['_','_','t','x','e','n','_','_']) (o:=['r','o','t','a','r','e','t','i','_','t','e','s']) (by kernel_rfl) owner];kernel_rfl
theorem oX:Slot "set_iterator" "__iter__" "set_iterator.__iter__" :=
 .of (owner:="set_iterator") (n:="__iter__") (by rw[typeLookup_type,builtinLookup_eq_fast];kernel_rfl) (by decide +kernel) (by decide +kernel) (by decide +kernel) (by first|exact .inl (by decide +kernel)|exact .inr (by decide +kernel)) (by rw[isSubtype_type];kernel_rfl)
theorem entry_self:entryFor table "set_iterator.__iter__" = some Builtin.«dict_keyiterator.__iter__» :=
 entryFor_alias (id':="dict_keyiterator.__iter__") (by kernel_rfl) rfl (by decide +kernel) (by kernel_rfl)
theorem xU(a:Value):argsOk "set_iterator.__iter__" ⟨[a],[]⟩:=by
 unfold argsOk;rw[signature?_of (id:="set_iterator.__iter__") (n:=['_','_','r','e','t','i','_','_']) (o:=['r','o','t','a','r','e','t','i','_','t','e','s']) (by kernel_rfl) owner];kernel_rfl
end SI
section
variable {prog:Program} {w:World} {A:Around} {E:Value->Shared->Prop} {s:Shared}
def dj(h:Heap)(it:Addr)(f:Value)(i:Nat)(a:Addr)(n ep:Nat):Prop:=∃o,h.get? it=some o/\o.cls=.type "set_iterator" /\ o.data=.fields [f,.int i 0,.ref a,.int n 0,.int ep 0].toArray
theorem dj.typeIs{i:Nat}{n ep:Nat}(x:dj s.heap it f i a n ep):s.TypeIs (.ref it) "set_iterator":=let ⟨o,ho,hc,_⟩:=x;⟨o,ho,hc⟩
theorem kH{i:Nat}{n ep:Nat}(x:dj s.heap it f i a n ep)(h:Q (.ref it) s):wpAny (model prog w) A (pyIter (.ref it)) Q E s:=by
 refine wpAny_pyIter_slot x.typeIs SI.oX (Vm SI.oX x.typeIs SI.entry_self ?_ (SI.xU _));exact TL ⟨_,rfl,"set_iterator",_,x.typeIs,SI.slot_next.lookup,h⟩
end
section
variable {prog:Program} {w:World} {A:Around} {E:Value->Shared->Prop} {s:Shared}
theorem fR{ep:Nat}(ho:s.heap.get? a=some o)(hd:o.data=.set es ep t)(hf:t.fits es.size=true)(h:Q es s):wpAny (model prog w) A (setEntries a) Q E s:=by
 unfold setEntries;exact Tw (UZ ho hd hf (TL h))
theorem iN(h:Q (n5 w) s):wpAny (model prog w) A setsByText Q E s:=by
 unfold setsByText;exact Tw (wpAny_askSetting (TL h))
theorem oY{ep sl g:Nat}{ks:List Int}(S:cR prog w s.heap a o es ep t ks)(hb:n5 w=false)(hp:(!t.plain&&decide (es.size>1))=false)
  (hQ:Q (match es[SetTable.below t.place sl]?,t.place[SetTable.below t.place sl]? with|some (_,x),some j=>some (x,j+1)|_,_=>none) s):wpAny (model prog w) A (setNext a sl g ep) Q E s:=by
 have led:t.led=true:=by rw[S.tab.led,hb];rfl
 unfold setNext;refine Tw (UZ S.at_ S.dat S.tab.fit ?_);dsimp only;refine Tw (iN ?_);rw[hb];simp only[false_eq_true,↓reduceIte];rw[TX (λz=>by
  have z':(!t.plain&&decide (es.size>1))=true:=z;rw[hp]at z';cases z')]
 refine Tw ?_;show wpAny _ _ (if (!t.led && !es.isEmpty)=true then Sem.unsupported "set:maker-not-led" else pure ()) _ _ _;rw[TX (by rw[led];simp)];exact TL (TL hQ)
theorem oZ{ep sl g:Nat}{ks:List Int}(S:cR prog w s.heap a o es ep t ks)(hb:n5 w=true)
  (hQ:Q (((pickOrder (w.params.setOrder a ep) es)[g]?).map λe=>(e.2,sl)) s):wpAny (model prog w) A (setNext a sl g ep) Q E s:=by
 unfold setNext;refine Tw (UZ S.at_ S.dat S.tab.fit ?_);dsimp only;refine Tw (iN ?_);rw[hb];simp only[bne_self_eq_false,false_eq_true,↓reduceIte];unfold setWalk;refine Tw (Tw (UZ S.at_ S.dat S.tab.fit ?_));dsimp only;refine Tw (iN ?_);rw[hb];simp only[↓reduceIte];exact Tw (wpAny_askSetting (TL (TL hQ)))
theorem jM{ep:Nat}{ks:List Int}{i sl:Nat}(hh:A.handled=none)(x:dj s.heap it (.int sl 0) i a es.size ep)(S:cR prog w s.heap a o es ep t ks)
  (hn:∀(A:Around) (E:Value->Shared->Prop) (Q:Option (Value×Nat)->Shared->Prop),Q r s->wpAny (model prog w) A (setNext a sl i ep) Q E s)
  (hQ:∀v nx,r=some (v,nx)->∀h',dj h' it (.int (nx:Nat) 0) (i+1) a es.size ep->Heap.SameBut it s.heap h'->Q (some v) { s with heap:=h' })
  (hE:r=none->∀h',Heap.ExtBut it s.heap h'->Q none { s with heap:=h' }):wpAny (model prog w) A (pyNext (.ref it)) Q E s:=by
 obtain⟨oi,BF,ON,hdi⟩:=id x;unfold pyNext;refine Tw (Wm (VN (name:=Str.ofString "__next__") x.typeIs SI.slot_next (Vm SI.slot_next x.typeIs SI.entry_next ?_ (SI.args_next _))));unfold Builtin.«set_iterator.__next__»;refine Tw (TL ?_);refine Tw (wpAny_fieldsOf BF hdi ?_);dsimp only;refine Tw (fR S.at_ S.dat S.tab.fit ?_);rw[TX (by simp)];refine Tw (hn _ _ _ ?_);cases r with
 |some p=>
  obtain⟨v,nx⟩:=p;dsimp only;refine Tw (Vy BF hdi (by simp) ?_);have h1:=Us (Obj.mapFields (·.setIfInBounds 0 (rawInt nx))) BF (Va (Ux hdi _));have d1:=Ux hdi (·.setIfInBounds 0 (rawInt nx));refine Tw (Vy h1 d1 (by simp) ?_);have h2:=Us (Obj.mapFields (·.setIfInBounds 1 (rawInt ((i:Int)+1)))) h1 (Va (Ux d1 _));refine TL ⟨_,rfl,TL (hQ v nx rfl _ ⟨_,h2,?_,?_⟩ ((UH ..).trans (UH ..)))⟩
  ·rw[Wj,Wj];exact ON
  ·rw[Ux d1];simp[rawInt]
 |none=>dsimp only;refine Tw (Vy BF hdi (by simp) ?_);refine Tw ?_;simp only[newExc,newTuple];refine Tw (Uu ?_ (by size_fits));refine Tw (m:=firstArgMember _ _) (wpAny_of_eq (a:=Value.none) (by first|rfl|(simp only[firstArgMember];rfl)) ?_);refine Uu ?_ (by size_fits);simp only[raiseNew];refine Tw (wpAny_handled ?_);rw[show A.in1.handled=none from hh];refine Tw (TL (wpAny_throw ?_));refine Tw (wpAny_isInstance (T:="StopIteration") (b:=true) ⟨_,T7 _ rfl,rfl⟩ isSubtype_stop ?_);exact TL (hE rfl _ (((UH ..).extBut.push _).push _))
end
theorem jr{α:Type}:∀(l:List α) (i:Nat) (h:i<l.length),(l[i]::l.eraseIdx i).Perm l
 |x::l,0,_=>VU _
 | x::l,i+1,h=>by
  simp only[List.getElem_cons_succ,List.eraseIdx_cons_succ];exact(List.Perm.swap _ _ _).trans (Wy x (jr l i (by simpa using h)))
section
variable {prog:Program} {w:World} {A:Around} {E:Value->Shared->Prop} {s:Shared}
theorem xW{n:Nat}(hn:n≠0)(h:∀i d,i<n->Q i { s with drawn:=d }):wpAny (model prog w) A (choose src n) Q E s:=fun Γ p hΓ=>by
 show Sem.wp _ _ (Sem.choose src n Sem.pure) _ _ _ _;rw[Sem.wp];exact⟨hn,h _ _ (mod_lt _ (Nat.pos_of_ne_zero hn))⟩
theorem vB{α:Type}:∀(n:Nat) (xs:List α) (s:Shared) (Q:List α -> Shared->Prop),xs.length=n->(∀ys d,ys.Perm xs->Q ys { s with drawn:=d })->wpAny (model prog w) A (drawOrder n xs) Q E s
 | 0,xs,s,Q,hl,h=>by
  have:xs=[]:=Vn hl;subst this;unfold drawOrder;exact TL (h [] s.drawn (VU _))
 |n+1,[],s,Q,hl,h=>by simp at hl
 | n+1,x::xs,s,Q,hl,h=>by
  unfold drawOrder;refine Tw (xW (by simp) λi d hi=>?_);have hx:(x::xs)[i]?=some ((x::xs)[i]):=Ui hi;rw[hx];dsimp only;refine Tw (vB n ((x::xs).eraseIdx i) _ _ (by rw[List.length_eraseIdx,T4 hi];simp at hl |-;omega) λys d' p=>TL ?_);exact h _ d' (((Wy _ p).trans (jr _ i hi)))
theorem mQ{ep c:Nat}{ks:List Int}{i:Nat}{ps:List Nat}(hh:A.handled=none)(x:dj s.heap it (.ref td) i a es.size ep)(S:cR prog w s.heap a o es ep t ks)
  (hT:s.heap.get? td=some oT) (Ny:oT.data=.seq (ps.map λ(j:Nat)=>rawInt j).toArray c) (hlt:∀j∈ps,j<es.size)
  (hQ:∀j e,ps[i]?=some j->es[j]?=some e->∀h',dj h' it (.ref td) (i+1) a es.size ep->Heap.SameBut it s.heap h'->Q (some e.2) { s with heap:=h' })
  (hE:ps[i]?=none->∀h',Heap.ExtBut it s.heap h'->Q none { s with heap:=h' }):wpAny (model prog w) A (pyNext (.ref it)) Q E s:=by
 obtain⟨oi,BF,ON,hdi⟩:=id x;unfold pyNext;refine Tw (Wm (VN (name:=Str.ofString "__next__") x.typeIs SI.slot_next (Vm SI.slot_next x.typeIs SI.entry_next ?_ (SI.args_next _))));unfold Builtin.«set_iterator.__next__»;refine Tw (TL ?_);refine Tw (wpAny_fieldsOf BF hdi ?_);dsimp only;refine Tw (fR S.at_ S.dat S.tab.fit ?_);rw[TX (by simp)];refine Tw (wpAny_seqItems hT Ny ?_);dsimp only;have hg:((ps.map λ(j:Nat)=>rawInt j).toArray)[((i:Nat):Int).toNat]?=(ps[i]?).map λ(j:Nat)=>rawInt j:=by simp
 rw[hg];cases hp:ps[i]? with
 |some j=>
  have hj:j<es.size:=hlt j (Ub hp);simp only[map_some,rawInt];refine Tw ?_;unfold setNextDrawn;refine Tw (UZ S.at_ S.dat S.tab.fit ?_);dsimp only;rw[TX (by simp)];have Rp:es[((j:Nat):Int).toNat]?=some es[j]:=by simp[hj]
  rw[Rp];refine TL ?_;refine Tw (Vy BF hdi (by simp) ?_);have h2:=Us (Obj.mapFields (·.setIfInBounds 1 (.int ((i:Int)+1) 0))) BF (Va (Ux hdi _));refine TL ⟨_,rfl,TL (hQ j _ hp (Uw hj) _ ⟨_,h2,?_,?_⟩ (UH ..))⟩
  ·rw[Wj];exact ON
  ·rw[Ux hdi];simp
 |none=>simp only[Option.map_none];refine Tw (Vy BF hdi (by simp) ?_);have h1:=Us (Obj.mapFields (·.setIfInBounds 0 (rawInt 0))) BF (Va (Ux hdi _));have d1:=Ux hdi (·.setIfInBounds 0 (rawInt 0));refine Tw (Vy h1 d1 (by simp) ?_);refine Tw ?_;simp only[newExc,newTuple];refine Tw (Uu ?_ (by size_fits));refine Tw (m:=firstArgMember _ _) (wpAny_of_eq (a:=Value.none) (by first|rfl|(simp only[firstArgMember];rfl)) ?_);refine Uu ?_ (by size_fits);simp only[raiseNew];refine Tw (wpAny_handled ?_);rw[show A.in1.handled=none from hh];refine Tw (TL (wpAny_throw ?_));refine Tw (wpAny_isInstance (T:="StopIteration") (b:=true) ⟨_,T7 _ rfl,rfl⟩ isSubtype_stop ?_);exact TL (hE hp _ ((((UH ..).trans (UH ..)).extBut.push _).push _))
end
theorem o4{α:Type}(f:Nat->Nat):∀(n k:Nat) (l:List α) (out:Array α),l.length=n->(pickOrder.go f n k l out).toList.Perm (out.toList++l)
 | 0,k,l,out,h=>by
  have:l=[]:=Vn h;subst this;unfold pickOrder.go;simp
 | n+1,k,l,out,h=>by
  unfold pickOrder.go;have hl:0<l.length:=by omega
  have hi:f k%l.length<l.length:=mod_lt _ hl;rw[Ui hi];dsimp only;refine(o4 f n (k+1) _ _ (by rw[List.length_eraseIdx,T4 hi];omega)).trans ?_;rw[Array.toList_push,List.append_assoc];exact List.Perm.append_left _ (jr l _ hi)
theorem o5{t:SetTable}{n:Nat}(h:t.fits n=true):t.place.size=n:=by
 simp only[SetTable.fits,and_eq_true,beq_iff_eq]at h;exact h.1
def Nz(t:SetTable):Nat->Nat
 |0=>0
 |i+1=>t.place.getD i 0+1
theorem o6(r:oV t.place):∀i,i<=t.place.size->SetTable.below t.place (Nz t i)=i
 |0,_=>uw r
 | i+1,h=>by
  have hi:i<t.place.size:=h;have e:Nz t (i+1)=t.place[i]+1:=by simp[Nz,Array.getD,hi]
  rw[e];exact ux r hi
section
variable {prog:Program} {w:World} {A:Around} {E:Value->Shared->Prop} {s:Shared}
theorem cR.keep{ep:Nat}{ks:List Int}(S:cR prog w h a o es ep t ks)(k:∀o,h.get? a=some o->h'.get? a=some o):cR prog w h' a o es ep t ks:={ S with at_:=k o S.at_ }
theorem dj.keep{i:Nat}{n ep:Nat}(x:dj h it f i a n ep)(k:∀o,h.get? it=some o->h'.get? it=some o):dj h' it f i a n ep:=by
 obtain⟨o,ho,r⟩:=x;exact⟨o,k o ho,r⟩
def PL(L:List (Int×Value))(i:Nat)(v:Value):Prop:=∃e,L[i]?=some e/\v=e.2
theorem xY(hh:A.handled=none){ep:Nat}{ks:List Int}(hne:a≠I)(hb:n5 w=false)(hp:(!t.plain&&decide (es.size>1))=false) :
  Walks prog w A I [I,a] [I] es.toList.length (PL es.toList) (λi h=>cR prog w h a o es ep t ks/\dj h I (.int (Nz t i) 0) i a es.size ep) where
 sub:=λb hb=>by simp at hb;simp[hb]
 frame:=λ_ _ _ st hk=>⟨st.1.keep λo e=>hk a (by simp) o e,st.2.keep λo e=>hk I (by simp) o e⟩
 item:=λi s Q E hi st hQ=>by
  have hi:i<es.size:=by simpa using hi
  have hz:=o5 st.1.tab.fit;have hb':=o6 st.1.tab.rs i (by rw[hz];exact Ve hi);refine jM (r:=some (es[i].2,t.place.getD i 0+1)) hh st.2 st.1 (λA E Q q=>oY st.1 hb hp ?_) (λv nx e h' x' sb=>?_) (λe=>nomatch e)
  ·rw[hb',Uw hi,Uw (by rw[hz];exact hi)]
   have e1:t.place[i]'(by rw[hz];exact hi)=t.place.getD i 0:=by simp[Array.getD,hz,hi]
   dsimp only;rw[e1];exact q
  ·cases e;exact hQ _ h' s.toks ⟨es[i],by simp[hi],rfl⟩ ⟨st.1.keep λo e=>sb.extBut a o hne e,x'⟩ λb o hb e=>sb.extBut b o (λz=>hb (by simp[z])) e
 done:=λs Q E st hQ=>by
  have hz:=o5 st.1.tab.fit;have hb':=o6 st.1.tab.rs es.toList.length (by rw[hz];simp);refine jM (r:=none) hh st.2 st.1 (λA E Q q=>oY st.1 hb hp ?_) (λv nx e=>nomatch e) (λ_ h' sb=>hQ h' s.toks λb o hb e=>sb b o (λz=>hb (by simp[z])) e);rw[hb',Array.getElem?_eq_none (by simp)];exact q
 self:=λ_ _ _ _ st hQ=>kH st.2 hQ
theorem xZ(hh:A.handled=none){ep:Nat}{ks:List Int}(hne:a≠I)(hb:n5 w=true) :
  Walks prog w A I [I,a] [I] (pickOrder (w.params.setOrder a ep) es).toList.length (PL (pickOrder (w.params.setOrder a ep) es).toList) (λi h=>cR prog w h a o es ep t ks/\dj h I (.int (0:Nat) 0) i a es.size ep) where
 sub:=λb hb=>by simp at hb;simp[hb]
 frame:=λ_ _ _ st hk=>⟨st.1.keep λo e=>hk a (by simp) o e,st.2.keep λo e=>hk I (by simp) o e⟩
 item:=λi s Q E hi st hQ=>by
  have hi:i<(pickOrder (w.params.setOrder a ep) es).size:=by simpa using hi
  refine jM (r:=some ((pickOrder (w.params.setOrder a ep) es)[i].2,0)) hh st.2 st.1 (λA E Q q=>oZ st.1 hb ?_) (λv nx e h' x' sb=>?_) (λe=>nomatch e)
  ·rw[Uw hi];exact q
  ·cases e;exact hQ _ h' s.toks ⟨(pickOrder (w.params.setOrder a ep) es)[i],by simp[hi],rfl⟩ ⟨st.1.keep λo e=>sb.extBut a o hne e,x'⟩ λb o hb e=>sb.extBut b o (λz=>hb (by simp[z])) e
 done:=λs Q E st hQ=>by
  refine jM (r:=none) hh st.2 st.1 (λA E Q q=>oZ st.1 hb ?_) (λv nx e=>nomatch e) (λ_ h' sb=>hQ h' s.toks λb o hb e=>sb b o (λz=>hb (by simp[z])) e);rw[Array.getElem?_eq_none (by simp)];exact q
 self:=λ_ _ _ _ st hQ=>kH st.2 hQ
theorem uA(hh:A.handled=none){ep c:Nat}{ks:List Int}{ps:List Nat}(hne:a≠I)(hnt:td≠I)(hlt:∀j∈ps,j<es.size)(Ny:oT.data=.seq (ps.map λ(j:Nat)=>rawInt j).toArray c) :
  Walks prog w A I [I,a,td] [I] ps.length (PL (ps.map λj=>es.getD j (0,.none))) (λi h=>cR prog w h a o es ep t ks/\dj h I (.ref td) i a es.size ep/\h.get? td=some oT) where
 sub:=λb hb=>by simp at hb;simp[hb]
 frame:=λ_ _ _ st hk=>⟨st.1.keep λo e=>hk a (by simp) o e,st.2.1.keep λo e=>hk I (by simp) o e,hk td (by simp) _ st.2.2⟩
 item:=λi s Q E hi st hQ=>by
  refine mQ hh st.2.1 st.1 st.2.2 Ny hlt (λj e hj he h' x' sb=>?_) (λhn=>absurd hn (by rw[Ui hi];simp));refine hQ _ h' s.toks ⟨e,?_,rfl⟩ ⟨st.1.keep λo e=>sb.extBut a o hne e,x',sb.extBut td _ hnt st.2.2⟩ λb o hb e=>sb.extBut b o (λz=>hb (by simp[z])) e;rw[Ug,hj];have hjl:j<es.size:=(U9.mp he).1;have:=(U9.mp he).2;simp[Array.getD,hjl,this]
 done:=λs Q E st hQ=>mQ hh st.2.1 st.1 st.2.2 Ny hlt (λj e hj=>absurd hj (by simp)) (λ_ h' sb=>hQ h' s.toks λb o hb e=>sb b o (λz=>hb (by simp[z])) e)
 self:=λ_ _ _ _ st hQ=>kH st.2.1 hQ
end
section
variable {prog:Program} {w:World} {A:Around} {E:Value->Shared->Prop} {s:Shared}
theorem zG{ep:Nat}{ks:List Int}(S:cR prog w s.heap a o es ep t ks)(h:Q (!n5 w&&(!t.plain&&decide (es.size>1))) s):wpAny (model prog w) A (setDrawn a) Q E s:=by
 unfold setDrawn;refine Tw (UZ S.at_ S.dat S.tab.fit ?_);dsimp only;exact Tw (iN (TL h))
theorem rH{ep:Nat}{ks:List Int}(S:cR prog w s.heap a o es ep t ks)(h:Q ep s):wpAny (model prog w) A (setEpoch a) Q E s:=wpAny_setEpoch_of S.at_ S.dat S.tab.fit h
theorem zH(hh:A.handled=none){ep:Nat}{ks:List Int}(S:cR prog w s.heap a o es ep t ks)
  (hQ:∀(h':Heap) d (I:Addr) (fp:List Addr) (L:List (Int×Value)) (St:Nat->Heap->Prop),L.Perm es.toList->Walks prog w A I fp [I] L.length (PL L) St->St 0 h'->s.heap.objs.size<=I->I<h'.objs.size->(∀b∈fp,b=a\/s.heap.objs.size<=b)->(∀b o,s.heap.get? b=some o->h'.get? b=some o)->Q (.ref I) { s with heap:=h',drawn:=d }) :
  wpAny (model prog w) A (pyIter (.ref a)) Q E s:=by
 have hT:s.TypeIs (.ref a) "set":=⟨o,S.at_,S.ex.1⟩;have hlt:a<s.heap.objs.size:=TR S.at_;refine wpAny_pyIter_slot hT PySem.F.slot_set_iter (Vm PySem.F.slot_set_iter hT SI.uz ?_ (PySem.F.args_set_iter_1 _));unfold Builtin.«frozenset.__iter__» Builtin.Frozenset.slot0 Builtin.Frozenset.sizeOf;refine Tw (Tw (TL (TL ?_)));refine Tw (Tw (fR S.at_ S.dat S.tab.fit (TL ?_)));refine Tw (zG S ?_);cases hd:(!n5 w&&(!t.plain&&decide (es.size>1))) with
 |false=>
  simp only[false_eq_true,↓reduceIte];refine Tw (TL ?_);refine Tw (rH S ?_);refine Tw (Uu (TL ⟨_,rfl,"set_iterator",_,⟨_,T7 _ rfl,rfl⟩,SI.slot_next.lookup,?_⟩));have e:s={ s with drawn:=s.drawn }:=by cases s;rfl
  have Qt:∀b∈[s.heap.objs.size,a],b=a\/s.heap.objs.size<=b:=λb hb=>by
   simp only[mem_cons,not_mem_nil,or_false]at hb
   rcases hb with rfl|rfl
   ·exact .inr (TV _)
   ·exact .inl rfl
  have sz:s.heap.objs.size<(s.heap.push { cls:=.type "set_iterator",data:=.fields ([rawInt 0,rawInt 0,.ref a,rawInt es.size,rawInt ep]:List Value).toArray }).objs.size:=by rw[UN];exact Uz _
  cases hb:n5 w with
  |true=>exact hQ _ s.drawn _ _ _ _ (o4 _ _ 0 es.toList #[] (by simp)) (xZ hh (T9 hlt) hb) ⟨S.keep λo e=>TF _ e,⟨_,T7 _ rfl,rfl,rfl⟩⟩ (TV _) sz Qt λb o e=>TF _ e
  |false=>rw[hb]at hd;exact hQ _ s.drawn _ _ _ _ (VU _) (xY hh (T9 hlt) hb (by simpa using hd)) ⟨S.keep λo e=>TF _ e,⟨_,T7 _ rfl,rfl,rfl⟩⟩ (TV _) sz Qt λb o e=>TF _ e
 |true=>
  simp only[↓reduceIte];refine Tw (vB es.size (List.range es.size) s _ (by simp) λps d pp=>?_);refine Tw ?_;simp only[newTuple];refine Uu ?_ (by show (toArray _).size<=sizeLine;rw[TZ,TQ,pp.length_eq,Wh];exact VW S.tab.few);have S1:cR prog w (s.heap.push { cls:=.type "tuple",data:=.seq (ps.map λ(i:Nat)=>rawInt i).toArray }) a o es ep t ks:=S.keep λo e=>TF _ e;refine Tw (rH S1 ?_);refine Tw (Uu (TL ⟨_,rfl,"set_iterator",_,⟨_,T7 _ rfl,rfl⟩,SI.slot_next.lookup,?_⟩));have hpl:∀j∈ps,j<es.size:=λj hj=>by simpa using pp.mem_iff.mp hj
  have perm:(ps.map λj=>es.getD j (0,Value.none)).Perm es.toList:=by
   have e2:(List.range es.size).map (λj=>es.getD j (0,Value.none))=es.toList:=by
    apply V3
    ·simp
    ·intro i h1 h2
     have hi:i<es.size:=by simpa using h2
     simp[Array.getD,hi]
   rw[<-e2];exact pp.map _
  have z1:(s.heap.push { cls:=.type "tuple",data:=.seq (ps.map λ(i:Nat)=>rawInt i).toArray }).objs.size=s.heap.objs.size+1:=UN _ _;have W:=uA (prog:=prog) (w:=w) (A:=A) (o:=o) (ep:=ep) (t:=t) (ks:=ks) hh (I:=s.heap.objs.size+1) (a:=a) (td:=s.heap.objs.size) (oT:={ cls:=.type "tuple",data:=.seq (ps.map λ(i:Nat)=>rawInt i).toArray }) (es:=es) (c:=0) (ps:=ps) (T9 (UY hlt)) (T9 (Uz _)) hpl rfl;rw[show ps.length=(ps.map λj=>es.getD j (0,Value.none)).length by simp] at W;rw[z1];refine hQ _ d _ _ _ _ perm W ⟨S1.keep λo e=>TF _ e,⟨{ cls:=.type "set_iterator",data:=.fields ([.ref s.heap.objs.size,rawInt 0,.ref a,rawInt es.size,rawInt ep]:List Value).toArray },?_,rfl,rfl⟩,TF _ (T7 _ rfl)⟩ (UJ _) ?_ ?_ λb o e=>TF _ (TF _ e)
  ·rw[<-z1];exact T7 _ rfl
  ·rw[UN,z1];exact Uz _
  ·intro b hb
   simp only[mem_cons,not_mem_nil,or_false]at hb
   rcases hb with rfl|rfl|rfl
   ·exact .inr (UJ _)
   ·exact .inl rfl
   ·exact .inr (TV _)
end
section
variable {prog:Program} {w:World} {A:Around} {E:Value->Shared->Prop} {s:Shared}
theorem zJ(hT:s.TypeIs (.ref r) "set")(h:Q false s):wpAny (model prog w) A (Builtin.List.listLengthHint (.ref r)) Q E s:=by
 unfold Builtin.List.listLengthHint;refine Tw (wpAny_specialOf hT PySem.F.slot_set_len.lookup ?_);generalize hid:("set.__len__":String)=Rq
 wp_delta
 rw[show splitId Rq=some ("set","__len__") from by subst hid;decide +kernel];subst hid;refine Tw (wpAny_isInstance (T:="set") (b:=true) hT sub_set_self ?_);refine wpAny_ite_split (λz=>absurd z (by decide)) (λ_=>?_);refine wpAny_ite_split (λ_=>?_) (λz=>absurd (by decide +kernel) z);exact Tw (wpAny_typeOf hT (TL h))
theorem rJ(hh:A.handled=none){ep:Nat}{ks:List Int}(S:cR prog w s.heap a o es ep t ks)
  (h:∀(h':Heap) (tk:Nat) d (L:List (Int×Value)),(∀b o,s.heap.get? b=some o->h'.get? b=some o)->s.heap.objs.size<h'.objs.size->L.Perm es.toList->R (L.map (·.2)) { s with heap:=h',toks:=tk,drawn:=d }) :
  wpAny (model prog w) A (collect (.ref a)) R E s:=by
 have hlt:a<s.heap.objs.size:=TR S.at_;unfold collect;refine Tw (wpAny_runValue (Vt entry_proto_collect' ?_));rw[Vi PySem.F.plain_proto_collect _];show wpAny _ A.in1 (newList [] >>= λl=>again (.builtin "list.__iadd__" ⟨[l,.ref a],[]⟩)) _ _ s;refine Tw (Uu ?_);refine TL ⟨V6 PySem.F.plain_list_iadd _,Vt entry_list_iadd' ?_⟩;rw[Vi PySem.F.plain_list_iadd _]
 let s1:Shared:={ s with heap:=s.heap.push { cls:=.type "list",data:=.seq ([]:List Value).toArray } }
 have l1:s1.heap.get? s.heap.objs.size=some { cls:=.type "list",data:=.seq #[] }:=T7 _ rfl;have S1:cR prog w s1.heap a o es ep t ks:=S.keep λo e=>TF _ e;have z1:s1.heap.objs.size=s.heap.objs.size+1:=UN _ _;have hT:s1.TypeIs (.ref a) "set":=⟨o,S1.at_,S1.ex.1⟩;show wpAny _ A.in1 (Builtin.List.listExtendWith (.ref s.heap.objs.size) (.ref a) (.ref s.heap.objs.size)) _ _ s1;unfold Builtin.List.listExtendWith;refine Tw (wpAny_typeOf hT ?_);have n1:Builtin.List.listSameRef (.ref s.heap.objs.size) (.ref a)=false:=by simp[Builtin.List.listSameRef,Nat.ne_of_gt hlt]
 simp only[n1,show (Value.type "set" == Value.type "list")=false by decide,show (Value.type "set" == Value.type "tuple")=false by decide,Bool.or_false,false_eq_true,if_false];refine Tw (zH (A:=A.in1) (by simp[hh]) S1 λh2 d I fp L St perm W st zI Tj hfp k2=>?_);have l2:h2.get? s.heap.objs.size=some { cls:=.type "list",data:=.seq #[] }:=k2 _ _ l1;have nfp:s.heap.objs.size∉fp:=λz=>by
  rcases hfp _ z with e|e
  ·exact absurd e (Vo hlt)
  ·rw[z1]at e;exact absurd e (Nat.not_succ_le_self _)
 have hl:L.length<=sizeLine:=by rw[perm.length_eq,Um];exact VW S.tab.few
 have key:∀(hp:Heap) (c₁:Nat) (Rr:Result->Shared->Prop),St 0 hp->(∀b o,b≠s.heap.objs.size->h2.get? b=some o->hp.get? b=some o)->hp.get? s.heap.objs.size=some { cls:=.type "list",data:=.seq #[] c₁ } ->
   (∀(s':Shared) (acc:Array Value) (c:Nat),s'.heap.get? s.heap.objs.size=some { cls:=.type "list",dict:=none,data:=.seq acc c,slots:=#[] }->R acc.toList s'->Rr (.ok (.ret (.ref s.heap.objs.size))) s') ->
   codeAny (model prog w) A (.builtin "list.extend.loop" ⟨[.ref s.heap.objs.size,.ref I,.ref s.heap.objs.size],[]⟩) Rr { s1 with heap:=hp,drawn:=d }:=by
  intro hp c₁ Rr hst hk hS hR;refine codeAny_extend_loopS W.toS hl s.heap.objs.size nfp (.ref s.heap.objs.size) L.length 0 _ #[] c₁ rfl (U8 _) hst hS (ItemsOf.nil _) λs' acc c hm hS' hacc=>?_;refine hR s' acc c hS' ?_;have ea:acc.toList=L.map (·.2):=by
   apply V3
   ·rw[Um,hacc.1,TQ]
   ·intro j h1 h2
    have hj:j<acc.size:=by simpa using h1
    obtain⟨e,he,hv⟩:=hacc.2 j acc[j] (Uw hj);rw[Array.getElem_toList,hv,Vz];obtain⟨hj2,e2⟩:=TJ.mp he;rw[e2]
  rw[ea,Moved.eq_with hm];refine h s'.heap s'.toks d L (λb o e=>?_) (TR hS') perm;have hb:b<s.heap.objs.size:=TR e;refine hm.heap b o (λz=>?_) (hk b o (T9 hb) (k2 b o (TF _ e)))
  rcases T8.mp z with z|z
  ·exact absurd z (T9 hb)
  ·rw[Ue]at z;rw[z]at hb;rw[z1]at zI;exact absurd (TY hb (Nat.le_of_succ_le zI)) (UC _)
 have fin:∀(s':Shared) (acc:Array Value) (c:Nat),s'.heap.get? s.heap.objs.size=some { cls:=.type "list",dict:=none,data:=.seq acc c,slots:=#[] }->R acc.toList s'->wpAny (model prog w) A (load s.heap.objs.size >>= λob=>(match ob.data with|.seq xs _=>pure xs.toList|_=>unsupported "internal:collect")) R E s':=λs' acc c e q=>Tw (wpAny_load e (TL q));refine Tw (Uy (zJ ⟨o,k2 _ _ S1.at_,S1.ex.1⟩ ?_));refine wpAny_ite_split (λ_=>?_) (λ_=>TL ⟨V6 PySem.F.plain_extend_loop _,key _ 0 _ st (λb o _ e=>e) l2 fin⟩);refine Tw (wpAny_rule ?_);refine Tw ?_;show wpAny _ _ (updateSeq s.heap.objs.size (·.push .none) >>= λ_=>updateSeq s.heap.objs.size (·.pop)) _ _ _;refine Tw (wpAny_updateSeq l2 rfl ?_);have l3:=Us (Obj.mapSeq (·.push Value.none)) l2 rfl;refine wpAny_updateSeq (hz:=by seq_fits) l3 rfl ?_;have l4:=Us (Obj.mapSeq (·.pop)) l3 rfl;have oth:∀b o,b≠s.heap.objs.size->h2.get? b=some o->((h2.update s.heap.objs.size (Obj.mapSeq (·.push Value.none))).update s.heap.objs.size (Obj.mapSeq (·.pop))).get? b=some o:=λb o hb e=>(UO _ _ (Ne.symm hb)).trans ((UO _ _ (Ne.symm hb)).trans e);exact TL ⟨V6 PySem.F.plain_extend_loop _,key _ _ _ (W.frame 0 _ _ st λb hb o e=>oth b o (λz=>nfp (z▸hb)) e) oth l4 fin⟩
end
theorem rK:∀(ks ns:List Int),ks.Nodup->(∀k∈ks,k∈ns)->ks.length=ns.length->ks.Perm ns
 | [],ns,_,_,h=>by
  have:ns=[]:=Vn h.symm;subst this;exact VU _
 | k::ks,ns,nd,hs,hl=>by
  have hk:=hs k TU;have Qu:=UD.mp nd;have p:=List.perm_cons_erase hk;refine(Wy k (rK ks (ns.erase k) Qu.2 (λx hx=>?_) ?_)).trans p.symm
  ·exact(List.mem_erase_of_ne λz=>Qu.1 (by rw[<-z];exact hx)).mpr (hs x (TM _ hx))
  ·rw[List.length_erase_of_mem hk];simp only[length_cons]at hl;omega
def rL:Value->Int
 |.int i _=>i
 |_=>0
section
variable {prog:Program} {w:World} {A:Around} {E:Value->Shared->Prop} {s:Shared}
theorem mT:∀{L:List (Int×Value)},ElemsOf (intKind prog w) L->IntsAre (L.map (·.2)) (L.map λe=>rL e.2)
 |[],_=>.nil
 | (h,v)::L,el=>by
  obtain⟨⟨k,hk,_⟩,_⟩:=el _ TU;obtain⟨t,e⟩:=Wg (k:=k) (v:=v) hk;subst e;exact .cons k t (mT λx hx=>el x (TM _ hx))
theorem zK{h:Heap}{a:Addr}{o:Obj}{es:Array (Int×Value)}{ep:Nat}{t:SetTable}{ks:List Int}(S:cR prog w h a o es ep t ks){L:List (Int×Value)}(p:L.Perm es.toList):(L.map λe=>rL e.2).Perm ks:=by
 refine(rK ks _ S.Qn (λk hk=>?_) ?_).symm
 ·obtain⟨e,he,q⟩:=(S.mem k).mp hk;obtain⟨t',ev⟩:=Wg (k:=k) (v:=e.2) q;exact Vj.mpr ⟨e,p.mem_iff.mpr he,by rw[ev];rfl⟩
 ·have:=S.num;rw[TQ,p.length_eq,Um];exact this.symm
theorem uB(hh:A.handled=none){ep:Nat}{ks:List Int}(S:cR prog w s.heap a o es ep t ks)(h64:ks.length<64)
  (hQ:∀(h':Heap) (tk:Nat) d (D:Addr) (out:List Value) (e:Nat),(∀b o,s.heap.get? b=some o->h'.get? b=some o)->s.heap.objs.size<=D->h'.get? D=some (seqObj "list" out.toArray e)->IntsAre out (sortI ks)->Q (.ref D) { s with heap:=h',toks:=tk,drawn:=d }) :
  wpAny (model prog w) A (call (.builtin "sorted") [.ref a]) Q E s:=by
 refine jB.cQ (O:=jB.jn) (rJ (A:=A.in1) (by simp[hh]) S λh' tk d L hk hz perm=>?_);have el:ElemsOf (intKind prog w) L:=S.el.perm perm;have hI:=mT el;have pk:=zK S perm;have hl:(L.map (·.2)).length<64:=by rw[TQ];have:=pk.length_eq;rw[TQ]at this;omega
 refine⟨hl,λi=>(L.map λe=>rL e.2).getD i 0,λh2 h6 _=>jB.jo hI h2,λp h'' outs k2 he=>?_⟩;obtain⟨e,he⟩:=he;have lv:(L.map (·.2)).length=(L.map λe=>rL e.2).length:=by rw[TQ,TQ]
 have mem:∀i∈p,i<L.length:=λi hi=>by have:=outs.perm.mem_iff.mp hi;simpa using this
 have pn:(p.map λi=>(L.map λe=>rL e.2).getD i 0).Perm ks:=by have:=outs.perm.map λi=>(L.map λe=>rL e.2).getD i 0;rw[lv,jB.bH]at this;exact this.trans pk
 have up:(p.map λi=>(L.map λe=>rL e.2).getD i 0).Pairwise (· <= ·):=by refine Wk (R:=jB.jn.kle) (λ{x y:Int} hxy=>?_) outs.up;have hxy:(decide (y<x):Bool)=false:=hxy;exact not_lt.mp (We hxy)
 have es:=V4 pn up;refine hQ h'' tk d h'.objs.size _ e (λb o z=>k2 b o (hk b o z)) (Ve hz) he ?_;rw[<-es];clear he es up pn outs
 induction p with
 |nil=>exact .nil
 |cons i r ih=>
  have hi:=mem i TU;have hi2:i<(L.map (·.2)).length:=by simpa using hi
  obtain⟨t',ev⟩:=IntsAre.int_at hI i _ (Ui hi2);rw[T6,T6];have e1:(L.map (·.2)).getD i Value.none=.int ((L.map λe=>rL e.2).getD i 0) t':=by rw[<-ev];simp[List.getD,List.getElem?_eq_getElem hi]
  rw[e1];exact .cons _ t' (ih λj hj=>mem j (TM _ hj))
end
end L2
end
section
namespace L2
open PySem PySem.Spec PyProof.Rows
section
variable {X:Cx}
theorem Inv.draws(I:Inv X pins σ H s)(d:Drawn):Inv X pins σ H { s with drawn:=d }:=⟨I.ok,I.os,I.bare,I.base,I.loc,I.cell,I.free,I.eT,I.pin,I.hok,I.len⟩
def Rt(K:Frag)(te:TE):TE:=λσ H Q=>te σ H λx H1=>∃p ns,x=.ref p/\fJ K H1 p (ns.map V.int)/\ns.length<64/\∀l,H1 l=none->Q (.ref l) (upd H1 l (.lst ((sortI (bA [] ns)).map V.int)))
theorem rM:∀(ns ks:List Int),(bA ks ns).length<=ks.length+ns.length
 |[],ks=>by simp[bA]
 | n::ns,ks=>by
  rw[bA,UA];have:=rM ns (fF ks n);have:=jL ks n;omega
theorem Cs{p1 p2 pos1 pos2:Pos}(hh:X.A.handled=none)(hg:Gl X "sorted")(hm:X.mg "sorted" = none)(Ru:Gl X "set")(hm2:X.mg "set" = none)(hv:bootBuiltins "sorted" = some (.builtin "sorted"))(hv2:bootBuiltins "set" = some (.type "set"))(he:PE X e te)
  (hs:starEach [e] X.env=[(false,eval e X.env)]):PE X (.Call (.Name "sorted" p1) [.Call (.Name "set" p2) [e] [] pos2] [] pos1) (Rt X.K te):=by
 intro pins s σ H Q I h;refine Uv (fP I hg hm hv ?_ (by decide) (by decide));refine UW ?_ rfl rfl;show wpAny _ _ (spliced [(false,eval (.Call (.Name "set" p2) [e] [] pos2) X.env)]) _ _ s;refine Vp ?_;refine Uv (fP I Ru hm2 hv2 ?_ (by decide) (by decide));refine UL ?_ hs rfl;show wpAny _ _ (spliced (backTo pos2 (starEach [e] X.env))) _ _ s;rw[hs];show wpAny _ _ (spliced [(false,eval e X.env)]) _ _ s;refine Vp (bY (he pins s σ H _ I h) λu s1 ⟨x,H1,I1,r1,p,ns,ex,hq,h64,q⟩=>Vu ?_);subst ex;cases r1;obtain⟨its,rv,pl,hz⟩:=I1.list hq;have hi:=intsAre_of rv;have hl:=hi.length;refine rG hh pl.isList (by simpa using hi) (by show its.toArray.size+1<4096;rw[TZ,hl];omega) λh2 tk S k2=>?_;obtain⟨o,es,ep,t,S⟩:=S;refine Vu ?_;have hk:=rM ns [];have OO:(bA [] ns).length<64:=by simp at hk;omega
 refine uB (s:={ s1 with heap:=h2,toks:=tk }) hh S OO λh3 Rv d D out e k3 zD eD hout=>?_;have hD:s1.heap.objs.size<=D:=Ut (Ve (TR S.at_)) zD;have hn:H1 D=none:=I1.hok.fresh hD;refine⟨.ref D,_,(I1.draws d).laid (t':=Rv) (λb o z=>k3 b o (k2 b o (TR z) z)) hD (show aV X.prog X.w _ _ _ (.lst ((sortI (bA [] ns)).map V.int)) from⟨?_,out,e,eG hout,eD⟩),rfl,q _ hn⟩;rw[TQ,(Vr _).length_eq,UI];omega
end
end L2
end
section
namespace L2
open PySem PySem.Spec PyProof.Rows PySem.W
section
variable {X:Cx}
theorem Gp(e:(aP P w).is k u=true):RelV (kV k) u:=by
 rw[tO]at e
 rcases bh e with ⟨i,t,rfl,rfl⟩|⟨x,t,rfl,rfl⟩
 ·exact⟨t,rfl⟩
 ·exact⟨t,rfl⟩
theorem kI:∀{kvs:List (Key×V)} {vs:List (Key×Value)} {out:List Value},KV kvs vs->out.length=vs.length->(∀(j:Nat) (v:Value),out[j]?=some v->∃(k:Key) (x:Value),vs[j]?=some (k,x)/\(aP P w).is k v=true)->Vals (kvs.map λkv=>kV kv.1) out
 | [],vs,out,r,hl,h=>by
  cases r;cases out with
  |nil=>exact .nil
  |cons _ _=>simp at hl
 | p::kvs,vs,out,r,hl,h=>by
  cases r with
  |@cons _ q _ qs hq t=>
   cases out with
   |nil=>simp at hl
   |cons v out=>
    obtain⟨k,x,e1,e2⟩:=h 0 v rfl;simp at e1;refine .cons ?_ (kI t (by simpa using hl) λj u hu=>h (j+1) u hu);have:p.1=k:=by rw[hq.1,e1]
    show RelV (kV p.1) v;rw[this];exact Gp e2
end
end L2
end
section
namespace L2
open PySem PySem.Spec PyProof.Rows
end L2
end
section
namespace L2
open PySem PySem.Spec PyProof.Rows PySem.W
section
variable {X:Cx}
def tSK(to:TE):TE:=λσ H Q=>to σ H λx H1=>∃(a:Addr) (kvs:List (Key×V)) (ns:List Int),x=.ref a/\H1 a=some (.dK kvs)/\kvs.map (·.1)=ns.map Sum.inl/\ns.length<64/\∀l,H1 l=none->Q (.ref l) (upd H1 l (.lst ((sortI ns).map V.int)))
theorem kJ{ns:List Int}(hI:IntsAre vs ns):∀(p:List Nat),(∀i∈p,i<ns.length)->IntsAre (p.map λi=>vs.getD i Value.none) (p.map λi=>ns.getD i 0)
 |[],_=>.nil
 | i::r,mem=>by
  have hi:=mem i TU;have hi2:i<vs.length:=by rw[hI.length];exact hi
  obtain⟨t',ev⟩:=IntsAre.int_at hI i _ (Ui hi2);rw[T6,T6];have e1:vs.getD i Value.none=.int (ns.getD i 0) t':=by rw[<-ev];simp[List.getD,List.getElem?_eq_getElem hi2]
  rw[e1];exact .cons _ t' (kJ hI r λj hj=>mem j (TM _ hj))
theorem zL(hh:X.A.handled=none)(hg:Gl X "sorted")(hm:X.mg "sorted" = none)(hv:bootBuiltins "sorted" = some (.builtin "sorted"))(ho:PE X o to)
  (hbase:attributeBase o "keys" X.env (eval o X.env)=eval o X.env) (hline:(ap.endLine==cp.line)=true):PE X (.Call (.Name "sorted" p) [.Call (.Attribute o "keys" ap) [] [] cp] [] pos) (tSK to):=by
 intro pins s σ H Q I h;refine Uv (fP I hg hm hv ?_ (by decide) (by decide));refine UW ?_ rfl rfl;show wpAny _ _ (spliced [(false,eval (.Call (.Attribute o "keys" ap) [] [] cp) X.env)]) _ _ s;refine Vp ?_;refine wpAny_Call_method0_late hbase hline (bY (ho pins s σ H _ I h) λu s1 aE=>?_);obtain⟨x,H1,I1,r1,a,kvs,ns,ex,ea,ens,h64,q⟩:=aE;subst ex;cases r1;obtain⟨t1,t2,hd⟩:=zj I1 (.inl ⟨kvs,.inl ea⟩);obtain⟨hz,_,vs,rel,dd⟩:=vq I1.hok ea;refine⟨"dict","dict.keys",PySem.F.plainAttrs_dict,PySem.F.slot_dict_keys,PySem.F.type_dict_keys,t1,t2,Calls.callWith_builtin rfl (PySem.evalArgs_none ?_)⟩;refine call_meetsIn PySem.F.slot_dict_keys dd.typeIs PySem.F.entry_dict_keys (PySem.F.args_dict_keys_1 _) (kdl_meets_keys (aP X.prog X.w) a hd) ⟨⟨vs,dd⟩,?_⟩;refine Vu ?_;obtain⟨ep,da⟩:=dd.dictAt;have hlen:=rel.length;have view:(s1.heap.push { cls:=.type "dict_keys",data:=.fields [.ref a].toArray }).get? s1.heap.objs.size=some { cls:=.type "dict_keys",data:=.fields [.ref a].toArray }:=T7 _ rfl;refine jB.cQ (O:=jB.jn) (kdu_collect (A:=X.A.in1) (kdl_keys (knd:=aP X.prog X.w) (kvs:=vs) (ep:=ep) (d:=a) (r:=s1.heap.objs.size)) (by simp[hh]) ⟨⟨_,view,rfl,rfl⟩,da.push _⟩ (by rw[<-hlen];exact hz) λh' tk acc k2 hacc=>?_);have hV:Vals (kvs.map λkv=>kV kv.1) acc.toList:=kI (P:=X.prog) (w:=X.w) rel (by rw[Um];exact hacc.1) λj v e=>hacc.2 j v (by rw[<-VZ];exact e);have hk:(kvs.map λkv=>kV kv.1)=ns.map V.int:=by have:=UM (List.map kV) ens;rw[UG,UG]at this;exact this
 rw[hk]at hV;have hI:=intsAre_of hV;have lv:=hI.length;have k1:∀b o,s1.heap.get? b=some o->h'.get? b=some o:=λb o e=>k2 b o (TF _ e);have hD:s1.heap.objs.size<=h'.objs.size:=Ve (TR (k2 _ _ view));refine⟨by rw[lv];exact h64,λi=>ns.getD i 0,λh2 h6 _=>jB.jo hI h2,λpp h'' outs k' he=>?_⟩;obtain⟨e,he⟩:=he;have mem:∀i∈pp,i<ns.length:=λi hi=>by have:=outs.perm.mem_iff.mp hi;rw[lv]at this;simpa using this
 have pn:(pp.map λi=>ns.getD i 0).Perm ns:=by have:=outs.perm.map λi=>ns.getD i 0;rw[lv,jB.bH]at this;exact this
 have up:(pp.map λi=>ns.getD i 0).Pairwise (· <= ·):=by refine Wk (R:=jB.jn.kle) (λ{x y:Int} hxy=>?_) outs.up;have hxy:(decide (y<x):Bool)=false:=hxy;exact not_lt.mp (We hxy)
 have es:=V4 pn up;have hout:=kJ hI pp mem;rw[es]at hout;dsimp only at k' he |-;have hn:H1 h'.objs.size=none:=I1.hok.fresh hD;refine⟨.ref h'.objs.size,_,I1.laid (t':=tk) (λb o z=>k' b o (k1 b o z)) hD (show aV X.prog X.w _ _ _ (.lst ((sortI ns).map V.int)) from⟨?_,_,e,eG hout,he⟩),rfl,q _ hn⟩;rw[TQ,(Vr _).length_eq,UI];omega
end
end L2
end
section
namespace L2
open PySem PySem.Spec PyProof.Rows
section
variable {X:Cx}
theorem Gq:kq X (compareOp .Is) (λx y H Q=>∃b c,x=.bl b/\y=.bl c/\Q (.bl (b==c)) H):=by
 intro pins s σ H x y v u Q I rx ry h;obtain⟨b,c,rfl,rfl,q⟩:=h;cases rx;cases ry;refine wpAny_is_plain rfl (pR I q ?_);cases b<;>cases c<;>rfl
theorem Ct:kq X (compareOp .IsNot) (λx y H Q=>∃b c,x=.bl b/\y=.bl c/\Q (.bl (!(b==c))) H):=by
 intro pins s σ H x y v u Q I rx ry h;obtain⟨b,c,rfl,rfl,q⟩:=h;cases rx;cases ry;refine wpAny_isNot_plain rfl (pR I q ?_);cases b<;>cases c<;>rfl
end
end L2
end
section
namespace L2
open PySem PySem.Spec PyProof.Rows PySem.W
section
variable {X:Cx}
theorem K9{t':Nat}(I:Inv X pins σ H s)(k:∀b u,s.heap.get? b=some u->h'.get? b=some u)(hp:s.heap.get? a=none)(hn:H a=none)(new:aV X.prog X.w (upd H a o) h' a o) :
  Inv X pins σ (upd H a o) { s with heap:=h',toks:=t' }:=by
 refine I.un ⟨λb u q _ _ _=>k b u q,λb u q _ _ _=>⟨u.slots,k b u q⟩,λb u q n _=>?_,λb u q _=>⟨u,k b u q⟩,λb xs q=>by rw[aj (ay q hn)];exact q,λb u xs q=>by rw[aj (ay q hn)];exact q,λb ps q=>⟨#[],by rw[aj (ay q hn),q];simp⟩⟩ λb u e=>?_
 ·rw[aj λz=>by rw[z,hp]at q;cases q];exact n
 ·by_cases hb:b=a
  ·subst hb;rw[av]at e;cases e;exact new
  ·rw[aj hb]at e;exact(I.hok b u e).stay (λc v _ q=>k c v q) (λc q=>by rw[aj (ay q hn)];exact q) λc xs q=>by rw[aj (ay q hn)];exact q
theorem x6(hh:X.A.handled=none)(hst:starEach [o] X.env=[(false,eval o X.env)])(hg:Gl X "sorted")(hm:X.mg "sorted" = none)(hv:bootBuiltins "sorted" = some (.builtin "sorted"))(ho:PE X o to):PE X (.Call (.Name "sorted" p) [o] [] pos) (tSK to):=by
 intro pins s σ H Q I h;refine Uv (fP I hg hm hv ?_ (by decide) (by decide));refine UW ?_ hst rfl;rw[hst];show wpAny _ _ (spliced [(false,eval o X.env)]) _ _ s;refine Vp ?_;refine bY (ho pins s σ H _ I h) λu s1 aE=>?_;obtain⟨x,H1,I1,r1,a,kvs,ns,ex,ea,ens,h64,q⟩:=aE;subst ex;cases r1;obtain⟨t1,t2,hd⟩:=zj I1 (.inl ⟨kvs,.inl ea⟩);obtain⟨hz,_,vs,rel,dd⟩:=vq I1.hok ea;refine Vu ?_;obtain⟨ep,da⟩:=dd.dictAt;have hlen:=rel.length;refine jB.cQ (O:=jB.jn) (kdu_collect (A:=X.A.in1) (kdl_dict (knd:=aP X.prog X.w) (kvs:=vs) (ep:=ep) (d:=a) hd) (by simp[hh]) da (by rw[<-hlen];exact hz) λh' tk acc k1 hacc=>?_);have hV:Vals (kvs.map λkv=>kV kv.1) acc.toList:=kI (P:=X.prog) (w:=X.w) rel (by rw[Um];exact hacc.1) λj v e=>hacc.2 j v (by rw[<-VZ];exact e);have hk:(kvs.map λkv=>kV kv.1)=ns.map V.int:=by have:=UM (List.map kV) ens;rw[UG,UG]at this;exact this
 rw[hk]at hV;have hI:=intsAre_of hV;have lv:=hI.length;have hN:∀b o,s1.heap.get? b=some o->b≠h'.objs.size:=λb o e z=>by
  have q:=TR (k1 b o e);rw[z]at q;exact UC _ q
 refine⟨by rw[lv];exact h64,λi=>ns.getD i 0,λh2 h6 _=>jB.jo hI h2,λpp h'' outs k' he=>?_⟩;obtain⟨e,he⟩:=he;have mem:∀i∈pp,i<ns.length:=λi hi=>by have:=outs.perm.mem_iff.mp hi;rw[lv]at this;simpa using this
 have pn:(pp.map λi=>ns.getD i 0).Perm ns:=by have:=outs.perm.map λi=>ns.getD i 0;rw[lv,jB.bH]at this;exact this
 have up:(pp.map λi=>ns.getD i 0).Pairwise (· <= ·):=by refine Wk (R:=jB.jn.kle) (λ{x y:Int} hxy=>?_) outs.up;have hxy:(decide (y<x):Bool)=false:=hxy;exact not_lt.mp (We hxy)
 have es:=V4 pn up;have hout:=kJ hI pp mem;rw[es]at hout;dsimp only at k' he |-;have hl:s1.heap.get? h'.objs.size=none:=by
  cases e:s1.heap.get? h'.objs.size with
  |none=>rfl
  |some o=>exact absurd rfl (hN _ o e)
 have hn:H1 h'.objs.size=none:=(gP.kept I1.hok k1).fresh (TV _);refine⟨.ref h'.objs.size,_,K9 I1 (t':=tk) (λb o z=>k' b o (k1 b o z)) hl hn (show aV X.prog X.w _ _ _ (.lst ((sortI ns).map V.int)) from⟨?_,_,e,eG hout,he⟩),rfl,q _ hn⟩;rw[TQ,(Vr _).length_eq,UI];omega
end
section
variable {X:Cx}
structure La (K:Frag) (C:Addr) (m:Str) (f:Addr):Prop where
 ga:specialIn K (.ref C) "__getattribute__" = some (some (.builtin "type.__getattribute__"))
 rd:PySem.W.readsIn K C (.type "type")=true
 at_:PySem.W.findCls K (.ref C) (.type "type") m=some (.val (.ref f))
 kp:keepIn K (.ref f)=true
structure Qv (K:Frag) (C:Addr):Prop where
 ha:findIn K (.ref C) "__class__" = some (some (.builtin "object.__class__"))
 hn:specialIn K (.builtin "object.__class__") "__get__" = some (some (.builtin "getset_descriptor.__get__"))
 htk:takesIn K (.builtin "object.__class__")=some true
 hm:PySem.W.mroIn K C (.type "object")=some true
end
end L2
end
section
namespace L2
open PySem PySem.Spec PyProof.Rows
section
variable {X:Cx}
def zM(k:Int):Value->Bool
 |.int a _=>a==k
 |_=>false
def Cu:V->List V->Hp->VK->Prop:=λx vs H Q=>∃(l:Addr) (ks:List Int) (i:Int),x=.ref l/\vs=[.int i]/\H l=some (.lst (ks.map V.int))/\i∈ks/\Q .non (upd H l (.lst ((ks.map V.int).eraseIdx (ks.idxOf i))))
theorem x8:Nt X "list.remove" Cu:=by
 intro pins s σ H x vs v us Q I rx rv h;obtain⟨l,ks,i,rfl,rfl,hH,hi,q⟩:=h;cases rx;obtain⟨u,rfl,ru⟩:=rv.one;obtain⟨t,rfl⟩:=ru;obtain⟨z,its,n,r,hl,e⟩:=I.ze hH;have hk:ks.length=its.length:=by rw[<-hl,TQ]
 have at':∀m (hm:m<ks.length),∃t,its[m]?=some (.int ks[m] t):=λm hm=>by
  obtain⟨w,hw,t,rfl⟩:=r.get (i:=m) (x:=V.int ks[m]) (by rw[Ug,Ui hm];rfl);exact⟨t,hw⟩
 have hj:ks.idxOf i<ks.length:=List.idxOf_lt_length_of_mem hi;have sz:its.toArray.size=ks.length:=by rw[TZ,hk]
 have val:∀m (hm:m<its.toArray.size),zM i its.toArray[m]=(ks[m]'(sz▸hm)==i):=λm hm=>by
  obtain⟨t,q⟩:=at' m (sz▸hm);have q2:its.toArray[m]=.int (ks[m]'(sz▸hm)) t:=by have:=Uw hm;rw[List.getElem?_toArray,q]at this;exact(Uh this).symm
  rw[q2];rfl
 refine call_meets F.slot_list_remove ⟨_,e,rfl⟩ F.entry_list_remove (F.args_list_remove_2 _ _)
  (MeetsSeq.list_remove l its.toArray n (.int i t) (zM i) (λy hy=>?_) (ks.idxOf i) (by rw[sz];exact hj) ?_ ?_ (by rw[TZ];omega)) ⟨e,?_⟩
 ·obtain⟨m,hm,rfl⟩:=Vx.mp (List.mem_toArray.mp hy);obtain⟨t',q⟩:=at' m (by omega);rw[Ui hm]at q;rw[Uh q];exact MeetsSeq.EqGives.int _ _ _ _
 ·rw[val];exact WA.mpr (List.getElem_idxOf hj)
 ·intro m hm h2
  rw[val];exact UP.mpr λe=>by
   have:=List.not_of_lt_findIdx (p:=(· == i)) (xs:=ks) (i:=m) h2;exact nomatch this.symm.trans (WA.mpr e)
 refine⟨.non,_,I.Ca (its':=its.eraseIdx (ks.idxOf i)) hH e ?_ (r.eraseIdx _) ?_,rfl,q⟩
 ·show its.toArray.eraseIdxIfInBounds _=(its.eraseIdx _).toArray;rw[List.eraseIdxIfInBounds_toArray]
 ·have:=oK (ks.map V.int) (ks.idxOf i);omega
end
def KD(h h':Heap):Prop:=∀b o,h.get? b=some o->∃o',h'.get? b=some o'/\o'.dict=o.dict
theorem KD.refl:KD h h:=λ_ o e=>⟨o,e,rfl⟩
theorem KD.trans{h h1 h2:Heap}(a:KD h h1)(b:KD h1 h2):KD h h2:=λx o e=>by
 obtain⟨o1,e1,d1⟩:=a x o e;obtain⟨o2,e2,d2⟩:=b x o1 e1;exact⟨o2,e2,d2.trans d1⟩
theorem KD.push(o:Obj):KD h (h.push o):=λb ob e=>⟨ob,TF _ e,rfl⟩
def KF(f:Obj->Obj):Prop:=∀o,o.isFreed=false->(f o).dict=o.dict/\(f o).isFreed=false
theorem KD.update(hf:KF f):KD h (h.update a f):=λb o e=>by
 by_cases c:a=b
 ·subst c;have fr:=(Heap.get?_some_iff.mp e).2;exact⟨f o,Us f e (hf o fr).2,(hf o fr).1⟩
 ·exact⟨o,(UO _ _ c).trans e,rfl⟩
def Tame{α:Type}:Sem α -> Prop
 |.pure _=>True
 |.raise _=>True
 |.unsupported _=>True
 |.finish _=>True
 |.rule _ k=>Tame (k ())
 |.at _ k=>Tame (k ())
 |.load _ _ k=>∀o,Tame (k o)
 |.update _ _ f k=>KF f/\Tame (k ())
 |.loadIfAlive _ k=>∀o,Tame (k o)
 |.point _ k=>Tame (k ())
 |.register _ k=>Tame (k ())
 |.alloc _ k=>∀a,Tame (k a)
 |.fresh k=>∀a,Tame (k a)
 |.ask k=>∀a,Tame (k a)
 |.stack k=>∀a,Tame (k a)
 |.handled _ k=>∀a,Tame (k a)
 |_=>False
theorem Cv{α:Type}{Q:α -> Pos->Shared->Prop}(h0:Heap):∀(t:Sem α) (p:Pos) (s:Shared),Tame t->KD h0 s.heap->Sem.wp M Γ t Q E p s->Sem.wp M Γ t (λa p' s'=>Q a p' s'/\KD h0 s'.heap) (λe p' s'=>E e p' s'/\KD h0 s'.heap) p s:=by
 intro t
 induction t with
 |pure a=>intro p s _ k h;rw[Sem.wp]at h |-;exact⟨h,k⟩
 |raise e=>intro p s _ k h;rw[Sem.wp]at h |-;exact⟨h,k⟩
 |unsupported w=>intro p s _ k h;rw[Sem.wp]at h;exact h.elim
 |finish w=>intro p s _ k h;rw[Sem.wp]at h;exact h.elim
 |rule _ k ih=>intro p s t kd h;rw[Sem.wp]at h |-;exact ih () p s t kd h
 |«at» _ k ih=>intro p s t kd h;rw[Sem.wp]at h |-;exact ih () _ s t kd h
 |load a _ k ih=>intro p s t kd h;rw[Sem.wp]at h |-;obtain⟨o,e,h⟩:=h;exact⟨o,e,ih o p s (t o) kd h⟩
 |update a _ f k ih=>intro p s t kd h;rw[Sem.wp]at h |-;exact⟨h.1,ih () p _ t.2 (kd.trans (KD.update t.1)) h.2⟩
 |loadIfAlive a k ih=>intro p s t kd h;rw[Sem.wp]at h |-;exact ih _ p s (t _) kd h
 |point _ k ih=>intro p s t kd h;rw[Sem.wp]at h |-;exact ih () p s t kd h
 |register _ k ih=>intro p s t kd h;rw[Sem.wp]at h;exact h.elim
 |alloc o k ih=>intro p s t kd h;rw[Sem.wp]at h |-;exact ih _ p _ (t _) (kd.trans (KD.push o)) h
 |fresh k ih=>intro p s t kd h;rw[Sem.wp]at h |-;exact ih _ p _ (t _) kd h
 |ask k ih=>intro p s t kd h;rw[Sem.wp]at h |-;exact ih _ p s (t _) kd h
 |stack k ih=>intro p s t kd h;rw[Sem.wp]at h |-;exact ih _ p s (t _) kd h
 |handled _ k ih=>intro p s t kd h;rw[Sem.wp]at h |-;exact ih _ p s (t _) kd h
 |choose|os|call|genState|newGen|resume|yield|fork|thread|await=>intro p s t;exact t.elim
theorem Tame.bind{α β:Type}{m:Sem α}{f:α -> Sem β}(hm:Tame m)(hf:∀a,Tame (f a)):Tame (m.bind f):=by
 induction m with
 |pure a=>exact hf a
 |raise e=>trivial
 |unsupported w=>trivial
 |finish w=>trivial
 |rule _ k ih=>exact ih () hm
 |«at» _ k ih=>exact ih () hm
 |load a _ k ih=>exact λo=>ih o (hm o)
 |update a _ f k ih=>exact⟨hm.1,ih () hm.2⟩
 |loadIfAlive a k ih=>exact λo=>ih o (hm o)
 |point _ k ih=>exact ih () hm
 |register _ k ih=>exact ih () hm
 |alloc o k ih=>exact λa=>ih a (hm a)
 |fresh k ih=>exact λa=>ih a (hm a)
 |ask k ih=>exact λa=>ih a (hm a)
 |stack k ih=>exact λa=>ih a (hm a)
 |handled _ k ih=>exact λa=>ih a (hm a)
 |choose|os|call|genState|newGen|resume|yield|fork|thread|await=>exact hm.elim
theorem qc{α:Type}{t:Sem α}{Q:α -> Shared->Prop}(ht:Tame t)(h:wpAny M A t Q E s):wpAny M A t (λa s'=>Q a s'/\KD s.heap s'.heap) (λe s'=>E e s'/\KD s.heap s'.heap) s :=
 fun Γ p hΓ=>Cv s.heap t p s ht KD.refl (h Γ p hΓ)
theorem Tame.bind'{α β:Type}{m:Sem α}{f:α -> Sem β}(hm:Tame m)(hf:∀a,Tame (f a)):Tame (m >>= f):=Tame.bind hm hf
theorem kK(a:Addr):Tame (load a):=by
 unfold load
 first|exact λo=>trivial|trivial
theorem n6(v:Value):Tame (fieldsOf v):=by
 unfold fieldsOf
 split
 ·refine Tame.bind' (kK _) λo=>?_
  split<;>trivial
 ·trivial
theorem gI(v:Value)(i:Nat):Tame (field v i):=by
 unfold field;refine Tame.bind' (n6 v) λvs=>?_
 split<;>trivial
theorem lq(hf:KF f):Tame (update a f):=⟨hf,trivial⟩
theorem Gs(g:Array Value->Array Value):KF (Obj.mapFields g):=λo ho=>by
 obtain⟨c,d,dt,sl⟩:=o;cases dt<;>first|exact⟨rfl,rfl⟩|exact⟨rfl,ho⟩
theorem fS(v:Value)(i:Nat)(x:Value):Tame (setField v i x):=by
 unfold setField
 split
 ·unfold updateField
  refine Tame.bind' (kK _) λo=>?_
  split
  ·split
   ·exact lq (Gs _)
   ·trivial
  ·trivial
 ·trivial
theorem ic(e:Value)(f:Option Addr):Tame (setFlight e f):=by
 unfold setFlight;refine Tame.bind' (gI _ _) λtb=>?_
 split
 ·exact fS _ _ _
 ·trivial
theorem lM(f:Addr)(b:Bool):Tame (entryPlaceOf f b):=by
 unfold entryPlaceOf;refine Tame.bind' (by unfold stack;exact λ_=>trivial) λacts=>?_
 split<;>trivial
theorem rN(n:String)(d:Data)(x:Option Addr):Tame (newObj (.type n) d x):=by
 have as:Tame (newObjAsIs (.type n) d x):=by unfold newObjAsIs;exact Tame.bind' (by unfold alloc;exact λ_=>trivial) λ_=>trivial
 unfold newObj;dsimp only
 split<;>first
  |exact as
  |(split<;>first|exact as|trivial)
theorem n8(a b c d e:Value)(pl:List Value):Tame (EntryCells.newEntry a b c d e pl):=by
 unfold EntryCells.newEntry newFields;exact rN _ _ _
theorem mU:∀l:List Env,Tame (readyFrames l)
 |[]=>trivial
 | env::outer=>by
  unfold readyFrames
  split
  ·refine Tame.bind' (kK _) λo=>?_
   split
   ·trivial
   ·refine Tame.bind' ?_ λim=>Tame.bind' ?_ λback=>Tame.bind' (lq λo ho=>?_) λ_=>mU outer
    ·unfold behindIsImport
     split
     ·trivial
     ·split
      ·trivial
      ·exact Tame.bind' (gI _ _) λ_=>trivial
    ·unfold keptBack
     split
     ·split
      ·trivial
      ·refine Tame.bind' ?_ λ_=>trivial;unfold underTheClaimsCaller;exact Tame.bind' (by unfold stack;exact λ_=>trivial) λ_=>trivial
     ·trivial
    ·obtain⟨c,d,dt,sl⟩:=o;cases dt<;>exact⟨rfl,ho⟩
  ·trivial
theorem qd(env:Env):Tame (PySem.frameOf env):=by
 unfold PySem.frameOf;refine Tame.bind' ?_ λenvs=>Tame.bind' ?_ λf=>?_
 ·unfold frameEnvs;exact Tame.bind' (by unfold stack;exact λ_=>trivial) λ_=>trivial
 ·unfold frameObject
  split
  ·trivial
  ·exact Tame.bind' (mU _) λ_=>trivial
 ·split<;>trivial
theorem o7(e:Value)(env:Env):Tame (noteFrame e env):=by
 unfold noteFrame
 split
 ·refine Tame.bind' (gI _ _) λhead=>?_
  have jp:∀f:Addr,Tame (do
    let a <-PySem.frameOf env
    let pl <-entryPlaceOf f (head != Value.none)
    let b <-EntryCells.newEntry head a Value.none (rawInt f) Value.none pl
    setField e 1 b):=λf=>Tame.bind' (qd env) λ_=>Tame.bind' (lM _ _) λ_=>Tame.bind' (n8 _ _ _ _ _ _) λ_=>fS _ _ _
  dsimp only
  split
  ·refine Tame.bind' (gI _ _) λx=>?_
   split
   ·trivial
   ·exact Tame.bind' (fS _ _ _) λ_=>jp _
  ·exact jp _
 ·trivial
theorem qf(env:Env)(e:Value):Tame (leaving env e):=by
 unfold leaving;exact Tame.bind' (o7 _ _) λ_=>ic _ _
section
variable {K:Frag} {prog:Program} {w:World} {A:Around} {E:Value->Shared->Prop} {h:Heap} {g:Array GenState} {d:Drawn} {t:Nat} {os:OsState}
variable {nm q:Str} {C N:Addr} {bs bm bmB:List Value} {hdct:Bool} {sn:List Str} {sub:List Value} {ab:Bool} {col:Option Bool} {dd:Option Addr} {k0 k1 k2 k3 k5:Option Value} {B newId initId:String}
theorem mV(F:ExcBaseFacts B newId initId bmB)(T:OwnTail h bmB bm){rest:List Value}{fI:Addr}{Q:Fin->Shared->Prop}
  (hC:h.get? C=some (excClassObj nm q C N bs bm hdct sn sub ab col dd k0 k1 k2 k3 k5 newId)) (X:K.In h) (hi:findIn K (.ref C) "__init__" = some (some (.ref fI))) (hf:typeIn K (.ref fI)=some (.type "function"))
  (hq:∀h' e,Heap.MadeExcOf h h' e (.ref C) rest->h.objs.size<=e->wpAny (model prog w) A (call (.ref fI) (.ref e::rest)) (λr s'=>r=.none/\Q (.done (.ret (.ref e))) s') E ⟨h',g,d,t,os⟩) (hrest:rest.length<=sizeLine) :
  wpAny (model prog w) A (Builtin.«type.__call__» ⟨.ref C::rest,[]⟩) Q E ⟨h,g,d,t,os⟩:=by
 repeat (first|with_reducible refine Vw hC ?_|with_reducible refine wpAny_madeBy_exc hC ?_|wp_step)
 refine codeAny_call_builtin_code (Wd _ F.quiet) (wpAny_check_new_subT F T hC ?_);refine codeAny_exc_new_subT F T hC ?_ hrest;show wpAny _ _ _ _ _ _;have kp:∀b o,h.get? b=some o->((h.push { cls:=.type "tuple",data:=.seq rest.toArray }).push { cls:=.ref C,data:=.fields [.ref h.objs.size,.none,.none,.none,.bool false,.none].toArray }).get? b=some o:=λb o e=>TF _ (TF _ e);have hget:((h.push { cls:=.type "tuple",data:=.seq rest.toArray }).push { cls:=.ref C,data:=.fields [.ref h.objs.size,.none,.none,.none,.bool false,.none].toArray }).get? (h.objs.size+1)=some { cls:=.ref C,data:=.fields [.ref h.objs.size,.none,.none,.none,.bool false,.none].toArray }:=by heap_get
 have hcC:(Value.ref C::bm).contains (.ref C)=true:=by simp
 have Rw:=kp _ _ hC;unfold isInstance
 repeat (first|with_reducible refine Vw hget ?_|(with_reducible refine wpAny_isSubtype_exc Rw ?_;rw[hcC])|wp_step)
 show wpAny _ _ (typeLookup (.ref C) _) _ _ _;refine Vh (X.keeps kp) hi _ _ _ _ (λ_ _ e=>e) ?_;refine Uy (Tw ?_);refine bind_fn (X.keeps kp) (.ref (h.objs.size+1)) hf _ _ _ _ (λ_ _ e=>e) ?_;refine Tw (Ur (hq _ (h.objs.size+1) ⟨kp,V7 (UJ _),h.objs.size,hget,V7 (TV _),?_⟩ (UJ _)) (λr s' hr=>?_) λ_ _ x=>x)
 ·exact TF _ (Heap.get?_push_at rfl rfl)
 ·obtain⟨rfl,hQ⟩:=hr
  wp_walk
  exact hQ
theorem x9(F:ExcBaseFacts B newId initId bmB)(T:OwnTail h bmB bm){rest:List Value}{fI:Addr}{Q:Value->Shared->Prop}
  (hC:h.get? C=some (excClassObj nm q C N bs bm hdct sn sub ab col dd k0 k1 k2 k3 k5 newId)) (X:K.In h) (hi:findIn K (.ref C) "__init__" = some (some (.ref fI))) (hf:typeIn K (.ref fI)=some (.type "function"))
  (hq:∀h' e,Heap.MadeExcOf h h' e (.ref C) rest->h.objs.size<=e->wpAny (model prog w) (A.under (.builtin "type.__call__" ⟨.ref C::rest,[]⟩)) (call (.ref fI) (.ref e::rest)) (λr s'=>r=.none/\Q (.ref e) s') E ⟨h',g,d,t,os⟩) (hrest:rest.length<=sizeLine) :
  wpAny (model prog w) A (call (.ref C) rest) Q E ⟨h,g,d,t,os⟩:=by
 have f1:=tc_lookup;have f2:=tc_bind (.ref C);have hT:(⟨h,g,d,t,os⟩:Shared).TypeIs (.ref C) "type":=⟨_,hC,rfl⟩;refine VJ (codeAny_of_tree ?_);show wpAny _ _ (callAny (.ref C) _) _ _ _
 repeat (any_goals (first|assumption|with_reducible refine Vw hC ?_|wp_step))
 refine⟨rfl,?_⟩;exact codeAny_call_builtin_at (Wd _ (by decide +kernel)) entry_typeCall (wpAny_check_type_call_sub hC (mV F T hC X hi hf hq hrest))
end
structure zN (K:Frag) (C D:Addr) (cd:ClassData):Prop where
 cls:PySem.W.clsIn K C=some cd
 mro:cd.mro=[.ref C,.ref D,.type "ValueError",.type "Exception",.type "BaseException",.type "object"]
 hd:cd.hasDict=true
 sa:findIn K (.ref C) "__setattr__" = some (some (.builtin "object.__setattr__"))
 ob:PySem.W.mroIn K C (.type "object")=some true
section
variable {prog:Program} {w:World} {A:Around} {E:Value->Shared->Prop} {s:Shared} {K:Frag} {C D x:Addr} {cd:ClassData} {ox:Obj} {name:Str} {v:Value}
theorem Cw(X:K.In s.heap)(c:zN K C D cd)(hn:findIn K (.ref C) name=some none)(hx:s.heap.get? x=some ox)(hcl:ox.cls=.ref C)(hdn:ox.dict=none)(hdat:∃vs,ox.data=.fields vs)
  (h:∀h' tk,h'.get? x=some { ox with dict:=some s.heap.objs.size }->h'.Ns1 s.heap.objs.size (λy=>if y=name then some v else none)->(∀b o,b≠x->s.heap.get? b=some o->h'.get? b=some o)->Q () { s with heap:=h',toks:=tk }) :
  wpAny (model prog w) A (setAttr (.ref x) name v) Q E s:=by
 obtain⟨vs,hdat⟩:=hdat
 have I:PySem.W.InstAt s.heap x ox C none:=⟨hx,hcl,by unfold notCls;rw[hdat],by rw[hdn];trivial⟩;have SF:=PySem.F.store_ValueError;have sub:PySem.W.Looks (model prog w) s.heap (isInstance (.ref x) (.type "object")) true:=I.type.andThen (looks_mroIn X c.ob);have hmL:PySem.W.Looks (model prog w) s.heap (mroOf (.ref C)) cd.mro:=(looks_clsIn X c.cls).andThen .now;refine PySem.W.set_plain X I c.sa ?_;refine V8 SF.slot.plain SF.entry (@PySem.W.check_slot (model prog w) _ _ _ "object.__setattr__" "object" "__setattr__" (.ref x) [.str name s.toks,v] [] _ SF.kind SF.split sub (SF.args (.ref x) (.str name s.toks) v) ?_);rw[osa_eq,refuse_eq];refine Tw (Tw (I.type _ _ _ _ (λ_ _ e=>e) (Tw (hmL _ _ _ _ (λ_ _ e=>e) ?_))));rw[c.mro,refuseLoop_ref,refuseLoop_ref,SF.passes];refine TL (Tw (I.type _ _ _ _ (λ_ _ e=>e) (Tw (Vh X hn _ _ _ _ (λ_ _ e=>e) (Tw ?_)))));refine TL ?_;dsimp only;have hxs:x≠s.heap.objs.size:=T9 (TR hx);have hx1:(s.heap.push { cls:=.type "dict",data:=.dict #[] }).get? x=some ox:=TF _ hx;refine Tw (TL (Tw (Tw (wpAny_loadPart hx ?_))));rw[hcl];refine Tw (looks_clsIn X c.cls _ _ _ _ (λ_ _ e=>e) ?_);rw[c.hd,hdn,hdat];refine Tw (wpAny_alloc' ?_);refine Tw (wpAny_update' hx1 ?_);refine TL ?_;have hgd:((s.heap.push { cls:=.type "dict",data:=.dict #[] }).update x λo=>{ o with dict:=some s.heap.objs.size }).get? s.heap.objs.size=some { cls:=.type "dict",data:=.dict #[] } :=
  (VC _ _ _ _ hxs.symm).trans (Heap.get?_push_at rfl rfl)
 have hnd:((s.heap.push { cls:=.type "dict",data:=.dict #[] }).update x λo=>{ o with dict:=some s.heap.objs.size }).Ns s.heap.objs.size (λ_=>none) :=
  ⟨_,#[],_,hgd,rfl,λe he=>absurd he (by simp),λ_=>rfl⟩
 show wpAny _ _ (Builtin.ObjectAttr.storeInDict s.heap.objs.size (.str name _) name v) _ _ _;refine Tw (TL (Tw (wpAny_nsSet1 (Heap.Ns1.of_empty hnd) λh' hn' hs=>?_)));obtain⟨oD,esD,Tn,Rx,Ry,Cy⟩:=hn'.count (Within.cons name v Within.nil);refine Tw (wpAny_lookBehind Rx (by rw[Ry];exact pastItsLine_dict (Ut Cy (by rw[UA,Wv,UI];omega))) ?_);refine TL ?_;have hx':h'.get? x=some { ox with dict:=some s.heap.objs.size }:=by refine(hs.2 x hxs).trans (Us _ hx1 ?_);obtain⟨oc,od,Nx,osl⟩:=ox;cases hdat;rfl
 refine h h' _ hx' hn' λb o hb e=>?_;exact(hs.2 b (T9 (TR e))).trans ((VC _ _ _ _ hb).trans (TF _ e))
end
abbrev zO(C t:Addr)(d:Option Addr):Obj:={ cls:=.ref C,dict:=d,data:=.fields [.ref t,.none,.none,.none,.bool false,.none].toArray }
def ExcAt(e C t:Addr)(d:Option Addr):Heap->Prop:=λh=>h.get? e=some (zO C t d)
theorem zP(q:ExcAt e C t d h):aV P w H h e (.ext (ExcAt e C t d)) :=
 ⟨q,⟨_,q⟩,λh1 h2 a k=>k _ a⟩
section
variable {X:Cx} {o value:Expr} {f:Str} {pos pos':Pos} {ta tv:TE} {pins:List (Addr×Obj)} {σ:St} {H:Hp} {s:Shared} {e C D t dx:Addr} {cd:ClassData} {y:V} {u:Value}
def OP(K:Frag)(ta tv:TE)(f:Str):TS:=λEn σ H=>tv σ H λy H1=>ta σ H1 λx H2=>∃e C D t cd,x=.ref e/\H2 e=some (.ext (ExcAt e C t none))/\zN K C D cd/\findIn K (.ref C) f=some none /\
 ∀dx,H2 dx=none->dx≠e->En.nx σ (upd (upd H2 dx (.xd [(f,y)])) e (.ext (ExcAt e C t (some dx))))
theorem Cz(I:Inv X pins σ H s)(he:H e=some (.ext (ExcAt e C t none)))(c:zN X.K C D cd)(hn:findIn X.K (.ref C) f=some none)(ry:RelV y u)
  (h:∀dx s',H dx=none->dx≠e->Inv X pins σ (upd (upd H dx (.xd [(f,y)])) e (.ext (ExcAt e C t (some dx)))) s'->Q () s'):wpAny (model X.prog X.w) A (setAttr (.ref e) f u) Q E s:=by
 have q:s.heap.get? e=some (zO C t none):=(I.hok e _ he).1;refine Cw I.iZ c hn q rfl rfl ⟨_,rfl⟩ λh' tk hx hns hk=>?_;have nd:H s.heap.objs.size=none:=I.hok.fresh (TV _);have ne:s.heap.objs.size≠e:=Vo (TR q);obtain⟨od,es,ep,hod,r⟩:=id hns;have fr:od.isFreed=false:=(Heap.get?_some_iff.mp hod).2;have p1:(s.heap.push od).get? s.heap.objs.size=some od:=T7 s.heap fr;have I1:=I.laid (a:=s.heap.objs.size) (o:=.xd [(f,y)]) (h':=s.heap.push od) (t':=s.toks) (λb ob z=>TF _ z) (TV _) (by
  refine⟨_,hns.at λo z=>?_,λg=>?_⟩
  ·rw[hod]at z;cases z;exact p1
  ·show lG (List.lookup g [(f,y)]) (if g=f then some u else none)
   by_cases c:g=f
   ·subst c;rw[T4 rfl];simp only[List.lookup,beq_self_eq_true];exact ry
   ·rw[TX c]
    have:(g==f)=false:=by simpa using c
    simp only[List.lookup,this];trivial)
 have I2:=I1.write (x:=e) (e:=e) (o:=.ext (ExcAt e C t (some s.heap.objs.size))) (h':=h') (t':=tk) (by rw[aj (Ne.symm ne),he];exact UB) (.inl rfl) (λb ob hb z=>by
  by_cases cb:b=s.heap.objs.size
  ·subst cb;have z:(s.heap.push od).get? s.heap.objs.size=some ob:=z;rw[p1]at z;cases z;exact hod
  ·exact hk b ob hb (by
    have z:(s.heap.push od).get? b=some ob:=z;exact(Heap.get?_push_cases z).resolve_left λw=>cb w.1)) ⟨_,hx⟩ (zP hx)
 exact h _ _ nd ne I2
theorem Gu(ha:PE X o ta)(hv:PE X value tv)(hs:swapsWith value (some (.Attribute o f pos')) pos.line X.env=pure false):PS X (.Assign [.Attribute o f pos'] value pos) (OP X.K ta tv f):=by
 intro pins s σ H D I h;refine plainObj_wpAny_Assign_Attribute (bY (hv pins s σ H _ I h) λu s1 ⟨y,H1,I1,ry,q⟩=>bY (ha pins s1 σ H1 _ I1 q) λov s2 ⟨x,H2,I2,rx,e,C,D',t,cd,ex,ee,c,n,q2⟩=>?_) hs;subst ex;obtain rfl:ov=Value.ref e:=rx;exact Cz I2 ee c n ry λdx s3 nd ne I3=>⟨σ,_,I3,q2 dx nd ne⟩
end
theorem aV.there(x:aV P w H h a o):∃ob,h.get? a=some ob:=by
 cases o with
 |lst xs=>obtain⟨_,_,_,_,e⟩:=x;exact⟨_,e⟩
 |tup xs=>obtain⟨_,_,_,_,e,_⟩:=x;exact⟨_,e⟩
 |dK kvs=>obtain⟨_,_,_,_,o,_,_,e,_⟩:=x;exact⟨_,e⟩
 |dT kvs=>obtain⟨_,_,_,_,o,_,_,e,_⟩:=x;exact⟨_,e⟩
 |set S n=>obtain⟨o,_,_,_,e,_⟩:=x;exact⟨_,e⟩
 |ins C dx fs=>obtain⟨_,_,_,e,_⟩:=x;exact⟨_,e⟩
 |own y=>obtain⟨_,e⟩:=x;exact⟨_,e⟩
 |xd fs=>obtain⟨_,⟨_,_,_,e,_⟩,_⟩:=x;exact⟨_,e⟩
 |rng lo hi=>obtain⟨_,_,_,e⟩:=x;exact⟨_,e⟩
 |oz ob u=>obtain⟨e,_⟩:=x;exact⟨_,e⟩
 |tbl ps=>exact⟨_,(show h.get? a=some _ from x)⟩
 |met f y=>exact⟨_,(show h.get? a=some _ from x)⟩
 |ext φ=>obtain⟨_,⟨_,e⟩,_⟩:=x;exact⟨_,e⟩
theorem zQ(x:gP P w H h)(e:h.get? a=none):H a=none:=by
 cases q:H a with
 |none=>rfl
 |some u=>obtain⟨o,z⟩:=aV.there (x a u q);rw[e]at z;cases z
structure NB (H:Hp) (h:Heap) (a dx C T:Addr):Prop where
 ob:∃oe vs a0,h.get? a=some oe/\oe.cls=.ref C/\oe.dict=some dx/\oe.data=.fields vs/\vs[0]?=some a0/\vs[1]?=some (.ref T)
 tb:∃oT ts,h.get? T=some oT/\oT.data=.fields ts/\ts[3]?=some .none
 ne:T≠a
 fa:H a=none
 fT:H T=none
structure Lv (fs:List Addr) (a:Addr) (h h':Heap):Prop where
 keep:∀b o,b≠a->b∉fs->h.get? b=some o->h'.get? b=some o
 slot:∀b o,b∈fs->h.get? b=some o->∃sl,h'.get? b=some { o with slots:=sl }
 there:∀b o,h.get? b=some o->∃o',h'.get? b=some o'
section
variable {P:Program} {w:World} {M:Model} {A:Around} {E:Value->Shared->Prop} {s:Shared} {H:Hp} {base:Heap} {env:Env} {outer:List Env} {L a dx C T:Addr}
theorem dm{h:Heap}:∀{l:List Env},h.FunFrames base l->∀b∈frs l,∃o,h.get? b=some o/\∀vs,o.data≠.fields vs
 |[],_,b,hb=>by simp[frs]at hb
 | env::r,⟨_,⟨L,o,hf,_,ho,hd⟩,hr⟩,b,hb=>by
  unfold frs at hb;rw[U4,hf]at hb
  rcases T8.mp hb with rfl|hb
  ·exact⟨o,ho,hd⟩
  ·exact dm hr b hb
theorem ig{h:Heap}{as:List Addr}:∀{l:List Env},h.FunFrames base l->(∀b∈frs l,b∈as)->h.FunFrames (hideAll h as) l
 |[],_,_=>trivial
 | env::r,⟨hk,⟨L,o,hf,_,ho,hd⟩,hr⟩,hin=>by
  have e:frs (env::r)=L::frs r:=by unfold frs;rw[U4,hf]
  exact⟨hk,⟨L,o,hf,Vd _ (hin L (by rw[e];exact TU)),ho,hd⟩,ig hr λb hb=>hin b (by rw[e];exact TM _ hb)⟩
theorem ya(hok:gP P w H s.heap)(hfr:A.frames=some (env::outer))(hl:s.heap.FunFrames base (env::outer))(hf:env.frame=some L){a0:Value}(he:s.heap.get? a=some oe)(hc:oe.cls=.ref C)(hdx:oe.dict=some dx)(hd:oe.data=.fields vs)(h0:vs[0]?=some a0)(h1:vs[1]?=some .none)(ha:H a=none)
  (h:∀h' T,NB H h' a dx C T->s.heap.get? T=none->Lv (frs (env::outer)) a s.heap h'->Q () { s with heap:=h' }):wpAny M A (leaving env (.ref a)) Q E s:=by
 have hin:∀b∈frs (env::outer),b∈a::frs (env::outer):=λb hb=>TM _ hb;have key:=wpAny_leaving_firstW (M:=M) (A:=A) (E:=E) (base:=hideAll s.heap (a::frs (env::outer))) (Q:=λ_ s'=>∃h',s'={ s with heap:=h' }/\Heap.LeftW (hideAll s.heap (a::frs (env::outer))) (env::outer) a oe.cls a0 s.heap h') hfr (ig hl hin) hf he (λb o e=>Wc _ e) (Vd _ TU) hd h1 h0 λh' z=>⟨h',rfl,z⟩;refine Ur (qc (qf env (.ref a)) key) (λ_ s' zz=>?_) λ_ _ zz=>zz.1;obtain⟨⟨h',rfl,st,ff,⟨OQ,vs',T,oT,ts,e1,⟨e2,e3⟩,e4,e5,e6,e7,e8,e9,OS⟩,up⟩,kd⟩:=zz;have Lb:s.heap.get? T=none:=by
  cases q:s.heap.get? T with
  |none=>rfl
  |some o=>
   by_cases c:T∈a::frs (env::outer)
   ·rcases T8.mp c with c|c
    ·exact absurd c e7
    ·obtain⟨o',uC,h2'⟩:=dm hl T c;rw[q]at uC;cases uC;obtain⟨sl,hs⟩:=up T o q h2';rw[e8]at hs;cases hs;exact absurd e9 (h2' ts)
   ·have:=Vl _ q c;rw[e6]at this;cases this
 have hT:H T=none:=zQ hok Lb;refine h h' T ⟨⟨OQ,vs',a0,e1,e2.trans hc,?_,e4,e3,e5⟩,⟨oT,ts,e8,e9,OS⟩,e7,ha,hT⟩ Lb ⟨λb o hb hn e=>?_,λb o hb e=>?_,λb o e=>?_⟩
 ·obtain⟨o',z1,z2⟩:=kd a oe he;have z1:h'.get? a=some o':=z1;rw[e1]at z1;cases z1;rw[z2,hdx]
 ·exact st b o (Vl _ e λz=>(T8.mp z).elim hb hn)
 ·obtain⟨o',uC,h2'⟩:=dm hl b hb;rw[e]at uC;cases uC;exact up b o e h2'
 ·obtain⟨o',z,_⟩:=kd b o e;exact⟨o',z⟩
end
abbrev VB:List Value:=[.type "ValueError",.type "Exception",.type "BaseException",.type "object"]
structure yb (K:Frag) (C D f:Addr) (cd:ClassData):Prop where
 c:zN K C D cd
 ob:∃nm q N bs hdct sn sub ab col dd k0 k1 k2 k3 k5,K.lookup C=some (excClassObj nm q C N bs (.ref D::VB) hdct sn sub ab col dd k0 k1 k2 k3 k5 "ValueError.__new__")
 up:∃c0 dd cdD sl c1 d1 es ep Ej,K.lookup D=some ⟨c0,dd,.cls cdD,sl⟩/\K.lookup cdD.ns=some ⟨c1,d1,.dict es ep,Ej⟩/\StrKeys es/\nsFind es "__init__" = none
 init:findIn K (.ref C) "__init__" = some (some (.ref f))
 fn:typeIn K (.ref f)=some (.type "function")
 kp:keepIn K (.ref C)=true
theorem yb.tail{K:Frag}{C D f:Addr}{cd:ClassData}{h:Heap}(M:yb K C D f cd)(X:K.In h):OwnTail h VB (.ref D::VB):=by
 obtain⟨c0,dd,cdD,sl,c1,d1,es,ep,Ej,l1,l2,sk,ni⟩:=M.up;exact .own (X _ _ l1) ⟨_,es,ep,X _ _ l2,rfl,sk,λ_=>rfl⟩ ni .base
def vC(K:Frag)(f:Str):Sp:=λvs H Q _=>∃e y C D t cd,vs=[.ref e,y]/\H e=some (.ext (ExcAt e C t none))/\zN K C D cd/\findIn K (.ref C) f=some none /\
 ∀dx,H dx=none->dx≠e->Q .non (upd (upd H dx (.xd [(f,y)])) e (.ext (ExcAt e C t (some dx))))
section
variable {X:Cx} {CX:t9} {k:Nat} {f C D:Addr} {fd:FuncData} {ps:List Str} {cd:ClassData} {E:XK} {x g:Str} {pins:List (Addr×Obj)} {σ:St} {H:Hp} {s:Shared}
theorem CA(M:yb X.K C D f cd)(F:cE X.prog X.w X.K X.mg X.base CX k f fd ps (vC X.K g))(hr:cD (k+1) X.A)(hb:Binds X.K fd ps [])(hl:ps.length=2)(hx:Passes CX X E)(hn:findIn X.K (.ref C) g=some none)
  (I:Inv X pins σ H s) (ry:RelV y u)
  (h:∀e t dx s',H e=none->H dx=none->dx≠e->s.heap.get? e=none->Inv X pins σ (upd (upd (upd H e (.ext (ExcAt e C t none))) dx (.xd [(g,y)])) e (.ext (ExcAt e C t (some dx)))) s'->Q (.ref e) s') :
  wpAny (model X.prog X.w) X.A (call (.ref C) [u]) Q X.xe s:=by
 obtain⟨nm,q,N,bs,hdct,sn,sub,ab,col,dd,k0,k1,k2,k3,k5,lc⟩:=M.ob;obtain⟨hh,gn,dr,tk,os⟩:=s;refine x9 (K:=X.K) PySem.F.excBase_ValueError (M.tail I.iZ) (I.iZ _ _ lc) I.iZ M.init M.fn (λh' e me le=>?_) (by show 1<=sizeLine;decide);obtain⟨t,ht,_,_⟩:=me.there;have I2:Inv X pins σ (upd H e (.ext (ExcAt e C t none))) ⟨h',gn,dr,tk,os⟩:=I.laid (a:=e) (o:=.ext (ExcAt e C t none)) (h':=h') (t':=tk) me.keeps le (zP ht);have ne:H e=none:=I.hok.fresh le;refine VJ (Vq (F.run _ X.stack _ _ ⟨[.ref e,u],[]⟩ [.ref e,u] [.ref e,y] (λv H2=>v=.non/\∃dx,H dx=none/\dx≠e/\H2=upd (upd (upd H e (.ext (ExcAt e C t none))) dx (.xd [(g,y)])) e (.ext (ExcAt e C t (some dx)))) E (hr.make C [u] []) (I2.jl.make C [u] []) ?_ #[rfl,ry] ?_) λr s' hq=>?_)
 ·have:=hb _ [.ref e,u] I2.iZ (by rw[hl];rfl);rw[US]at this;exact this
 ·refine⟨e,y,C,D,t,cd,rfl,av,M.c,hn,λdx nd nx=>⟨rfl,dx,?_,nx,rfl⟩⟩;rw[aj nx]at nd;exact nd
 ·cases r with
  |error e'=>exact hx pins σ _ _ e' s' I2 hq
  |ok fl=>
   cases fl with
   |ret u'=>obtain⟨v,H',I3,rv,ev,dx,nd,nx,eH⟩:=I2.after hq;subst ev;subst eH;exact⟨rv,h e t dx s' ne nd nx me.new I3⟩
   |next=>exact False.elim hq
   |brk=>exact False.elim hq
   |cont=>exact False.elim hq
end
section
variable {M:Model} {A:Around} {E:Value->Shared->Prop} {env:Env} {nm q:Str} {C N:Addr} {bs bm:List Value} {hdct:Bool} {sn:List Str} {sub:List Value} {ab:Bool} {col:Option Bool} {dd:Option Addr} {k0 k1 k2 k3 k5:Option Value} {newId:String}
theorem uD(hbase:bm.contains (.type "BaseException")=true)(hh:A.handled=none)
  (h:wpAny M A x (λv s₁=>∃e t d,v=.ref e/\s₁.heap.get? C=some (excClassObj nm q C N bs bm hdct sn sub ab col dd k0 k1 k2 k3 k5 newId)/\s₁.heap.get? e=some (zO C t d)/\E (.ref e) s₁) E s) :
  wpAny M A (raiseStmt env (some x) none) Q E s:=by
 have Rz:(Value.ref C::bm).contains (.type "BaseException")=true:=by rw[List.contains_cons,hbase,Bool.or_true]
 unfold raiseStmt;refine Tw (Ur h (λv s₁ h₁=>?_) λ_ _ x=>x);obtain⟨e,t,d,rfl,hC,he,hE⟩:=h₁;obtain⟨hp,g,dr,tk,os⟩:=s₁
 repeat (first|with_reducible refine Vw he ?_|with_reducible refine Vw hC ?_|(with_reducible refine wpAny_isSubtype_exc hC ?_;rw[Rz])|wp_step)
 exact wpAny_raiseNew_none hh hE
theorem Gv(hbase:bm.contains (.type "BaseException")=true)(hh:A.handled=none)
  (h:wpAny M A (eval x env) (λv s₁=>∃e t d,v=.ref e/\s₁.heap.get? C=some (excClassObj nm q C N bs bm hdct sn sub ab col dd k0 k1 k2 k3 k5 newId)/\s₁.heap.get? e=some (zO C t d)/\E (.ref e) s₁) E s) :
  wpAny M A (exec (.Raise (some x) none pos) env) Q E s:=by
 rw[arm_exec_Raise]
 first
  |exact Tw (U7 (uD hbase hh (Tw (Ur h (λv s₁ h₁=>Tw (U7 (TL h₁))) λ_ _ x=>x))))
  |(simp only[evalOpt,Option.map];exact Tw (U7 (uD hbase hh (Tw (Ur h (λv s₁ h₁=>Tw (U7 (TL h₁))) λ_ _ x=>x)))))
  |(show wpAny M A (do standAt pos;raiseStmt env (some (do let v <-eval x env;standAt pos;pure v)) none) Q E s;exact Tw (U7 (uD hbase hh (Tw (Ur h (λv s₁ h₁=>Tw (U7 (TL h₁))) λ_ _ x=>x)))))
end
def BG(H:Hp)(a:Addr):Hp:=λb=>if b=a then none else H b
theorem gJ(h:b≠a):BG H a b=H b:=by unfold BG;rw[TX h]
theorem jN:BG H a a=none:=by unfold BG;rw[T4 rfl]
theorem vD(x:gP P w H h)(e:H a=some (.ext φ)):gP P w (BG H a) h:=λb o q=>by
 have nb:b≠a:=λz=>by rw[z,jN]at q;cases q
 rw[gJ nb]at q;refine(x b o q).stay (λ_ _ _ z=>z) (λc z=>?_) λc xs z=>?_
 ·rw[gJ λy=>by rw[y,e]at z;cases z];exact z
 ·rw[gJ λy=>by rw[y,e]at z;cases z];exact z
def rO(P:Program)(w:World):t9:=λouter H s E e s'=>∃a dx C T H',e=.ref a/\s'.os=s.os/\AllBare s'.gens/\Un (frs outer) [] H H' s.heap s'.heap/\gP P w H' s'.heap/\NB H' s'.heap a dx C T/\s.heap.get? a=none/\s.heap.get? T=none/\E (.ref C) (some dx) H'
section
variable {P:Program} {w:World} {K:Frag} {mg:Str->Option Value} {base:Heap} {N:List Str} {qual:Str} {scope:Scope} {f:Addr} {cd:Value} {A:Around} {outer:List Env} {s:Shared} {H:Hp} {E:XK} {pins:List (Addr×Obj)} {σ:St} {H3:Hp} {s3:Shared} {e C t dx:Addr}
theorem CB(I:Inv (fQ (rO P w) P w K mg base N qual scope f cd A outer s H E) pins σ H3 s3)(he:H3 e=some (.ext (ExcAt e C t (some dx))))(hn:s.heap.get? e=none)(q:E (.ref C) (some dx) (BG H3 e)) :
  (fQ (rO P w) P w K mg base N qual scope f cd A outer s H E).xe (.ref e) s3:=by
 have ho:s3.heap.get? e=some (zO C t (some dx)):=(I.hok e _ he).1;have st:s3.heap.FunFrames base (envOfC qual scope s.heap.objs.size f cd::outer):=I.stack;refine ya (P:=P) (w:=w) (H:=BG H3 e) (a0:=.ref t) (vD I.hok he) I.ok.frames st rfl ho rfl rfl rfl rfl rfl jN λh' T F nT L=>?_;have un:Un (frs outer) [] H H3 s.heap s3.heap:=I.base;have ne:∀b o,s.heap.get? b=some o->b≠e:=λb o z y=>by rw[y,hn]at z;cases z
 have nl:∀b o,s.heap.get? b=some o->b∉frs outer->b∉frs (envOfC qual scope s.heap.objs.size f cd::outer):=λb o z nb y=>by
  have y:b∈s.heap.objs.size::frs outer:=y
  rcases T8.mp y with y|y
  ·have:=TR z;rw[y]at this;exact absurd this (UC _)
  ·exact nb y
 have sT:s.heap.get? T=none:=by
  cases q:s.heap.get? T with
  |none=>rfl
  |some o=>obtain⟨o',z⟩:=un.there T o q (by simp);rw[nT]at z;cases z
 refine⟨e,dx,C,T,BG H3 e,rfl,I.os,I.bare,⟨λb o z nb nf _=>?_,λb o z nb nf _=>?_,λb o z nb _=>?_,λb o z _=>?_,λb xs z=>?_,λb o u z=>?_,λb ps z=>?_⟩,?_,F,hn,sT,q⟩
 ·exact L.keep b o (ne b o z) (nl b o z nf) (un.keep b o z nb nf (by simp))
 ·obtain⟨sl,z2⟩:=un.slot b o z nb nf (by simp);obtain⟨J8,z3⟩:=L.slot b _ (TM _ nf) z2;exact⟨J8,z3⟩
 ·rw[gJ (ne b o z)];exact un.free b o z nb (by simp)
 ·obtain⟨o',z2⟩:=un.there b o z (by simp);exact L.there b o' z2
 ·have:=un.tups b xs z;rw[gJ λy=>by rw[y,he]at this;cases this];exact this
 ·have:=un.frzs b o u z;rw[gJ λy=>by rw[y,he]at this;cases this];exact this
 ·obtain⟨more,this⟩:=un.lH b ps z;exact⟨more,by rw[gJ λy=>by rw[y,he]at this;cases this];exact this⟩
 ·have kp:∀c u ob,BG H3 e c=some u->s3.heap.get? c=some ob->h'.get? c=some ob:=λc u ob z z2=>by
   have nc:c≠e:=λy=>by rw[y,jN]at z;cases z
   rw[gJ nc]at z;refine L.keep c ob nc (λy=>?_) z2;have:=I.lU c y;rw[this]at z;cases z
  exact λb o z=>(vD I.hok he b o z).stay (λc u y z2=>by
   rcases y with rfl|y
   ·exact kp _ _ _ z z2
   ·exact kp _ _ _ y z2) (λ_ y=>y) λ_ _ y=>y
theorem lu(un:Un fs [] H H' h h'):∀{l:List Env},(∀b∈frs l,H b=none)->h.FunFrames base l->h'.FunFrames base l
 |[],_,_=>trivial
 | env::r,hf,⟨hk,⟨L,o,e1,e2,e3,e4⟩,hr⟩=>by
  have e:frs (env::r)=L::frs r:=by unfold frs;rw[U4,e1]
  obtain⟨sl,z⟩:=un.any e3 (hf L (by rw[e];exact TU)) (by simp);exact⟨hk,⟨L,_,e1,e2,z,e4⟩,lu un (λb hb=>hf b (by rw[e];exact TM _ hb)) hr⟩
end
def Gx(E:XK)(C:Addr)(g:Str)(t:TA):TS:=λ_ σ H=>t σ H λvs H1=>∃y,vs=[y]/\∀dx,H1 dx=none->E (.ref C) (some dx) (upd H1 dx (.xd [(g,y)]))
section
variable {P:Program} {w:World} {K:Frag} {mg:Str->Option Value} {base:Heap} {N:List Str} {qual:Str} {scope:Scope} {f:Addr} {cdv:Value} {A:Around} {outer:List Env} {s:Shared} {H:Hp} {E:XK} {k:Nat} {fI C D:Addr} {fd:FuncData} {ps:List Str} {cd:ClassData} {x g:Str} {arg:Expr} {p cpos pos:Pos} {t:TA}
theorem zR(M:yb K C D fI cd)(F:cE P w K mg base rm k fI fd ps (vC K g))(hr:cD (k+1) (A.deeper (envOfC qual scope s.heap.objs.size f cdv)))(hb:Binds K fd ps [])(hl:ps.length=2)(hn:findIn K (.ref C) g=some none)
  (hg:Gl (fQ (rO P w) P w K mg base N qual scope f cdv A outer s H E) x) (hm:mg x=some (.ref C)) (ha:PA (fQ (rO P w) P w K mg base N qual scope f cdv A outer s H E) [arg] t) (hdb:(x==("__debug__":Str))=false)
  (he:starEach [arg] (fQ (rO P w) P w K mg base N qual scope f cdv A outer s H E).env=(false,eval arg (fQ (rO P w) P w K mg base N qual scope f cdv A outer s H E).env)::starEach [] (fQ (rO P w) P w K mg base N qual scope f cdv A outer s H E).env) :
  PS (fQ (rO P w) P w K mg base N qual scope f cdv A outer s H E) (.Raise (some (.Call (.Name x p) [arg] [] cpos)) none pos) (Gx E C g t):=by
 intro pins s1 σ H1 En I h;obtain⟨nm,q,N',bs,hdct,sn,sub,ab,col,dd,k0,k1,k2,k3,k5,lc⟩:=M.ob;refine Gv (C:=C) (nm:=nm) (q:=q) (N:=N') (bs:=bs) (bm:=.ref D::VB) (hdct:=hdct) (sn:=sn) (sub:=sub) (ab:=ab) (col:=col) (dd:=dd) (k0:=k0) (k1:=k1) (k2:=k2) (k3:=k3) (k5:=k5) (newId:="ValueError.__new__") rfl (I.ok.hd rfl) ?_;refine Uv (fH I hg hm ?_ hdb);refine VL (h₀:=base) I.ok.mod.JM M.kp (bY (ha cpos pins s1 σ H1 _ I h) λus s2 ⟨vs,H2,I2,r,y,ev,qq⟩=>⟨I2.iZ,?_⟩) he rfl;subst ev;obtain⟨u,rfl,ru⟩:=vals1 r;refine CA (X:=fQ (rO P w) P w K mg base N qual scope f cdv A outer s H E) M F hr hb hl rq hn I2 ru λe t dx s3 ne nd nx RA I3=>?_;have eH:BG (upd (upd (upd H2 e (.ext (ExcAt e C t none))) dx (.xd [(g,y)])) e (.ext (ExcAt e C t (some dx)))) e=upd H2 dx (.xd [(g,y)]):=by
  funext b
  by_cases c:b=e
  ·subst c;rw[jN,aj (Ne.symm nx),ne]
  ·rw[gJ c,aj c]
   by_cases c2:b=dx
   ·subst c2;rw[av,av]
   ·rw[aj c2,aj c2,aj c]
 have sn:s.heap.get? e=none:=by
  cases z:s.heap.get? e with
  |none=>rfl
  |some o=>have un:Un (frs outer) [] H H2 s.heap s2.heap:=I2.base;obtain⟨o',z2⟩:=un.there e o z (by simp);rw[RA]at z2;cases z2
 exact⟨e,t,some dx,rfl,I3.iZ _ _ lc,(I3.hok e _ av).1,CB I3 av sn (by rw[eH];exact qq dx nd)⟩
end
section
variable {P:Program} {w:World} {M:Model} {A:Around} {E:Value->Shared->Prop} {s:Shared} {H:Hp} {base:Heap} {env:Env} {outer:List Env} {L a dx C T:Addr}
theorem zS(hok:gP P w H s.heap)(hfr:A.frames=some (env::outer))(hl:s.heap.FunFrames base (env::outer))(hf:env.frame=some L)(F:NB H s.heap a dx C T)
  (h:∀h' T',NB H h' a dx C T'->(T'=T\/s.heap.get? T'=none)->(∀b o,b≠T->b≠a->b∉frs (env::outer)->s.heap.get? b=some o->h'.get? b=some o)->(∀b o,b∈frs (env::outer)->s.heap.get? b=some o->∃sl,h'.get? b=some { o with slots:=sl })->(∀b o,s.heap.get? b=some o->∃o',h'.get? b=some o')->Q () { s with heap:=h' }) :
  wpAny M A (noteFrame (.ref a) env) (λ_ s2=>wpAny M A (setFlight (.ref a) none) Q E s2) E s:=by
 obtain⟨⟨oe,vs,a0,he,hc,hdx,hd,h0,h1⟩,⟨oT,ts,g1,g2,g3⟩,ne,fa,fT⟩:=F;have hin:∀b∈frs (env::outer),b∈T::a::frs (env::outer):=λb hb=>TM _ (TM _ hb);have hB:hideAll s.heap (T::a::frs (env::outer)) |>.StaysIn s.heap:=λb o e=>Wc _ e;have key:=wpAny_noteFrame_onW (M:=M) (A:=A) (E:=E) (base:=hideAll s.heap (T::a::frs (env::outer))) (cls:=.ref C) (a0:=a0) (Q:=λ_ s'=>∃h',s'={ s with heap:=h' }/\Heap.NotedW (hideAll s.heap (T::a::frs (env::outer))) (env::outer) a (.ref C) a0 (rawInt L) s.heap h') hfr (ig hl hin) hf
  ⟨oe,vs,T,oT,ts,he,⟨hc,h0⟩,hd,h1,Vd _ TU,ne,g1,g2,g3⟩ hB (Vd _ (TM _ TU)) λh' z=>⟨h',rfl,z⟩
 refine Ur (qc (o7 (.ref a) env) key) (λ_ s' zz=>?_) λ_ _ zz=>zz.1;obtain⟨⟨uC,rfl,st,ff,tr,up⟩,kd⟩:=zz;have OT:=wpAny_setFlight_noneW (M:=M) (A:=A) (E:=E) (s:={ s with heap:=uC }) (base:=hideAll s.heap (T::a::frs (env::outer))) (cls:=.ref C) (a0:=a0) (Q:=λ_ s'=>∃h',s'={ s with heap:=h' }/\Heap.LeftW (hideAll s.heap (T::a::frs (env::outer))) (env::outer) a (.ref C) a0 s.heap h') st ff tr λh' z1 z2 z3 z4=>⟨h',rfl,z1,z2,z3,λb o e hn=>by
  obtain⟨sl,e1⟩:=up b o e hn;exact⟨sl,z4 b _ e1 hn⟩⟩
 refine Ur (qc (ic (.ref a) none) OT) (λ_ s' zz=>?_) λ_ _ zz=>zz.1;obtain⟨⟨h',rfl,st,ff,⟨OQ,vs',T',RB,ts',e1,⟨e2,e3⟩,e4,e5,e6,e7,e8,e9,OS⟩,up⟩,RC⟩:=zz;have kd:KD s.heap h':=KD.trans kd RC;have Lb:T'=T\/s.heap.get? T'=none:=by
  cases q:s.heap.get? T' with
  |none=>exact .inr rfl
  |some o=>
   by_cases c:T'∈T::a::frs (env::outer)
   ·rcases T8.mp c with c|c
    ·exact .inl c
    rcases T8.mp c with c|c
    ·exact absurd c e7
    ·obtain⟨o',uC,h2'⟩:=dm hl T' c;rw[q]at uC;cases uC;obtain⟨sl,hs⟩:=up T' o q h2';rw[e8]at hs;cases hs;exact absurd e9 (h2' ts')
   ·have:=Vl _ q c;rw[e6]at this;cases this
 have hT:H T'=none:=by
  rcases Lb with z|z
  ·rw[z];exact fT
  ·exact zQ hok z
 refine h h' T' ⟨⟨OQ,vs',a0,e1,e2,?_,e4,e3,e5⟩,⟨RB,ts',e8,e9,OS⟩,e7,fa,hT⟩ Lb (λb o RD hb hn e=>?_) (λb o hb e=>?_) λb o e=>?_
 ·obtain⟨o',z1,z2⟩:=kd a oe he;rw[e1]at z1;cases z1;rw[z2,hdx]
 ·exact st b o (Vl _ e λz=>(T8.mp z).elim RD λz=>(T8.mp z).elim hb hn)
 ·obtain⟨o',uC,h2'⟩:=dm hl b hb;rw[e]at uC;cases uC;exact up b o e h2'
 ·obtain⟨o',z,_⟩:=kd b o e;exact⟨o',z⟩
end
def rP(a C T dx:Addr):Heap->Prop:=λh=>∃oe vs,h.get? a=some oe/\oe.cls=.ref C/\oe.dict=some dx/\oe.data=.fields vs/\vs[1]?=some (.ref T)
def yc(T:Addr):Heap->Prop:=λh=>∃oT ts,h.get? T=some oT/\oT.data=.fields ts/\3<ts.size
theorem Lc(q:rP a C T dx h):aV P w H h a (.ext (rP a C T dx)) :=
 ⟨q,(let ⟨oe,_,e,_⟩:=q;⟨oe,e⟩),λh1 h2 ⟨oe,vs,e,r⟩ k=>⟨oe,vs,k _ e,r⟩⟩
theorem Ek(q:yc T h):aV P w H h T (.ext (yc T)) :=
 ⟨q,(let ⟨oe,_,e,_⟩:=q;⟨oe,e⟩),λh1 h2 ⟨oe,vs,e,r⟩ k=>⟨oe,vs,k _ e,r⟩⟩
def o8(H:Hp)(a C T dx:Addr):Hp:=upd (upd H a (.ext (rP a C T dx))) T (.ext (yc T))
abbrev Cx.held(X:Cx)(v:Value):Cx:={ X with A:=X.A.mark (some v),calm:=false }
theorem Cx.Ok.held{X:Cx}(ok:X.Ok)(v:Value):(X.held v).Ok :=
 ⟨ok.mod,ok.kind,ok.glob,ok.blt,ok.above,ok.inj,ok.has,ok.JO,(λz=>by cases z),ok.frames,ok.stk,ok.Ni,ok.bs,ok.BL,ok.jC,ok.xg,ok.kr,ok.D9⟩
section
variable {X:Cx} {pins:List (Addr×Obj)} {σ:St} {H:Hp} {s:Shared} {v:Value}
theorem Inv.held(I:Inv X pins σ H s)(v:Value):Inv (X.held v) pins σ H s:=⟨I.ok.held v,I.os,I.bare,I.base,I.loc,I.cell,I.free,I.eT,I.pin,I.hok,I.len⟩
theorem Inv.Gy(ok:X.Ok)(I:Inv (X.held v) pins σ H s):Inv X pins σ H s:=⟨ok,I.os,I.bare,I.base,I.loc,I.cell,I.free,I.eT,I.pin,I.hok,I.len⟩
end
theorem lX(h1:b≠a)(h2:b≠T):o8 H a C T dx b=H b:=by unfold o8;rw[aj h2,aj h1]
theorem vE:o8 H a C T dx T=some (.ext (yc T)):=by unfold o8;exact av
theorem vF(h:T≠a):o8 H a C T dx a=some (.ext (rP a C T dx)):=by unfold o8;rw[aj (Ne.symm h),av]
section
variable {X:Cx} {pins:List (Addr×Obj)} {σ:St} {H:Hp} {s s':Shared} {E:XK} {M:Model} {Ex:Value->Shared->Prop}
theorem Gz{e:Value}{Q:Value->Shared->Prop}(hst:X.stack=X.env::X.outer)(hfm:X.env.frame=some X.env.locals)(I:Inv X pins σ H s)(c:rO X.prog X.w X.stack H s E e s')
  (h:∀a C T dx H' s3,E (.ref C) (some dx) H'->H' a=none->H' T=none->T≠a->Inv X pins σ (o8 H' a C T dx) s3->Q (.ref a) s3) :
  wpAny M X.A (noteFrame e X.env) (λ_ s2=>wpAny M X.A (setFlight e none) (λ_ s3=>Q e s3) Ex s2) Ex s':=by
 obtain⟨a,dx,C,T,H',rfl,hos,hbare,un,hok,F,na,nT,q⟩:=c;have st:s.heap.FunFrames X.base (X.env::X.outer):=by rw[<-hst];exact I.stack
 have un':Un (frs (X.env::X.outer)) [] H H' s.heap s'.heap:=by rw[<-hst];exact un
 have fre:∀b∈frs (X.env::X.outer),H b=none:=by rw[<-hst];exact I.lU
 have ne:∀b o,s.heap.get? b=some o->b≠a/\b≠T:=λb o z=>⟨(λy=>by rw[y,na]at z;cases z),(λy=>by rw[y,nT]at z;cases z)⟩;refine zS (P:=X.prog) (w:=X.w) (H:=H') hok (by rw[I.ok.frames,hst]) (lu un' fre st) hfm F λh' T' F' RE kp sl th=>?_;have neT:∀b o,s.heap.get? b=some o->b≠T':=λb o z y=>by
  rcases RE with w|w
  ·exact(ne b o z).2 (y.trans w)
  ·obtain⟨o',z2⟩:=un'.there b o z (by simp);rw[y,w]at z2;cases z2
 have out:∀b u,H' b=some u->o8 H' a C T' dx b=some u:=λb u z=>by
  rw[lX (λy=>by rw[y,F'.fa]at z;cases z) λy=>by rw[y,F'.fT]at z;cases z];exact z
 have nf:∀b u,H' b=some u->b∉frs (X.env::X.outer):=λb u z y=>by
  obtain⟨o,z1,_⟩:=dm st b y;have:=un'.free b o z1 (fre b y) (by simp);rw[this]at z;cases z
 have kk:∀c u ob,H' c=some u->s'.heap.get? c=some ob->h'.get? c=some ob:=λc u ob z z2=>
  kp c ob (λy=>by rw[y,F.fT]at z;cases z) (λy=>by rw[y,F.fa]at z;cases z) (nf c u z) z2
 have OU:gP X.prog X.w (o8 H' a C T' dx) h':=λb o z=>by
  by_cases cT:b=T'
  ·subst cT;rw[vE]at z;cases z;obtain⟨oT,ts,g1,g2,g3⟩:=F'.tb;exact Ek ⟨oT,ts,g1,g2,(U9.mp g3).1⟩
  by_cases ca:b=a
  ·subst ca;rw[vF F'.ne]at z;cases z;obtain⟨oe,vs,a0,e1,e2,e3,e4,e5,e6⟩:=F'.ob;exact Lc ⟨oe,vs,e1,e2,e3,e4,e6⟩
  rw[lX ca cT]at z;exact(hok b o z).stay (λc u y z2=>by
   rcases y with rfl|y
   ·exact kk _ _ _ z z2
   ·exact kk _ _ _ y z2) (λ_ y=>out _ _ y) λ_ _ y=>out _ _ y
 refine h a C T' dx H' _ q F'.fa F'.fT F'.ne (I.Ea (ch:=[]) (s':={ s' with heap:=h' }) hos ?_ OU hbare λb z=>absurd z (by simp));rw[hst];refine⟨λb o z nb nf _=>?_,λb o z nb nf _=>?_,λb o z nb _=>?_,λb o z _=>?_,λb xs z=>out _ _ (un'.tups b xs z),λb o u z=>out _ _ (un'.frzs b o u z),λb ps z=>?_⟩
 ·exact kp b o (ne b o z).2 (ne b o z).1 nf (un'.keep b o z nb nf (by simp))
 ·obtain⟨Ej,z1⟩:=un'.slot b o z nb nf (by simp);obtain⟨sl2,z2⟩:=sl b _ nf z1;exact⟨sl2,z2⟩
 ·rw[lX (ne b o z).1 (neT b o z)];exact un'.free b o z nb (by simp)
 ·obtain⟨o1,z1⟩:=un'.there b o z (by simp);exact th b o1 z1
 ·obtain⟨m1,z1⟩:=un'.lH b ps z;exact⟨m1,out _ _ z1⟩
theorem again(ne:T≠a)(I:Inv X pins σ (o8 H a C T dx) s)(h:∀s',Inv X pins σ (o8 H a C T dx) s'->Q () s'):wpAny M A (setFlight (.ref a) none) Q Ex s:=by
 obtain⟨⟨oe,vs,e1,e2,e3,e4,e5⟩,_⟩:=I.hok a _ (vF ne);obtain⟨⟨oT,ts,g1,g2,g3⟩,_⟩:=I.hok T _ vE;refine wpAny_setFlight_none e1 e4 e5 g1 g2 g3 (h _ ?_);have gT:=Us (Obj.mapFields (·.setIfInBounds 3 Value.none)) g1 (Va (Ux g2 (·.setIfInBounds 3 Value.none)));have same:upd (o8 H a C T dx) T (.ext (yc T))=o8 H a C T dx:=by
  funext b
  by_cases c:b=T
  ·subst c;rw[av,vE]
  ·rw[aj c]
 have:=I.write (x:=T) (e:=T) (o:=.ext (yc T)) (h':=s.heap.update T (Obj.mapFields (·.setIfInBounds 3 Value.none))) (t':=s.toks) (by rw[vE];exact UB) (.inl rfl) (λb u hb z=>(UO _ _ (Ne.symm hb)).trans z) ⟨_,gT⟩
  (Ek ⟨_,_,gT,Ux g2 _,by rw[Array.size_setIfInBounds];exact g3⟩)
 rw[same]at this;exact this
theorem goes{i:Nat}(hN:X.N.Nodup)(hi:X.N[i]?=some n)(hk:X.env.scope.names.lookup n=some .local)(I:Inv X pins σ H s)(h:∀s',Inv X pins (σ.set i none) H s'->Q () s') :
  wpAny M A (do bindName X.env n .none;unbindBehindTheSuite X.env n pos) Q Ex s:=by
 obtain⟨m,hn,hl⟩:=id I.loc;have hcls:(X.env.scope.kind==.class||(X.env.scope.kind==.module&&X.env.locals != X.env.globals))=false:=by rw[I.ok.kind];rfl
 have Nj:i < σ.length:=by rw[I.len];exact(TJ.mp hi).1
 have cne:=I.cne;refine wpAny_nameGoes_keeps hk hn hcls λh' v hn' hs=>?_;obtain⟨oL,_,_,P9,_⟩:=id hn;have tracked:gP X.prog X.w H h':=λb ob e=>by
  refine(I.hok b ob e).stay (λc w' hc q=>(hs.2 c ?_).trans q) (λ_ q=>q) λ_ _ q=>q;rintro rfl
  rcases hc with hc|hc
  ·rw[<-hc,I.free]at e;cases e
  ·rw[I.free]at hc;cases hc
 refine h _ ⟨I.ok,I.os,I.bare,⟨λb o e n hb hx=>?_,λb o e n hb hx=>?_,I.base.free,λb o e hx=>?_,I.base.tups,I.base.frzs,I.base.lH⟩,⟨_,hn',λj y v' e1 e2 e3=>?_⟩,λy c e=>?_,I.free,I.eT,λp hp=>?_,tracked,by simpa using I.len⟩
 ·exact(hs.2 b (T9 (TY (TR e) I.ok.above))).trans (I.base.keep b o e n hb hx)
 ·obtain⟨sl,e1⟩:=I.base.slot b o e n hb hx;exact⟨sl,(hs.2 b (T9 (TY (TR e) I.ok.above))).trans e1⟩
 ·obtain⟨o',e1⟩:=I.base.there b o e hx;exact⟨o',(hs.2 b (T9 (TY (TR e) I.ok.above))).trans e1⟩
 ·by_cases hj:j=i
  ·subst hj;rw[T5 Nj]at e2;cases e2
  ·rw[TN (Ne.symm hj)]at e2
   obtain⟨u',r',q⟩:=hl j y v' e1 e2 e3;refine⟨u',r',?_⟩
   rcases q with ⟨k,e⟩|⟨k,c,e,z⟩
   ·refine .inl ⟨k,?_⟩;have:y≠n:=λe=>hj (mj hN e1 (e▸hi));simp[this,e]
   ·exact .inr ⟨k,c,e,z.sameBut hs (cne y c e)⟩
 ·obtain⟨w',z⟩:=I.cell y c e;exact⟨w',z.sameBut hs (cne y c e)⟩
 ·obtain⟨e,n,ne,nf,d⟩:=I.pin p hp;exact⟨(hs.2 p.1 ne).trans e,n,ne,nf,d⟩
end
def CC(K:Frag)(C:Addr):Prop:=∃nm q N bs bm hdct sn sub ab col dd k0 k1 k2 k3 k5 newId,K.lookup C=some (excClassObj nm q C N bs bm hdct sn sub ab col dd k0 k1 k2 k3 k5 newId)/\bm.contains (.type "BaseException")=true
def OV(sp:Sp)(C:Addr)(i:Nat)(t:TA)(u:TS):TS:=λD σ H=>t σ H λvs H1=>sp vs H1 (λ_ H2=>D.nx σ H2) λc d H'=>∃dx,c=.ref C/\d=some dx /\
 ∀a T,H' a=none->H' T=none->T≠a->u { nx:=λσ' H2=>D.nx (σ'.set i none) H2,rt:=λ_ _=>False } (σ.set i (some (.ref a))) (o8 H' a C T dx)
section
variable {X:Cx} {k:Nat} {f C:Addr} {fd:FuncData} {ps:List Str} {sp:Sp} {x cx n:Str} {p cpos epos cp hp pos:Pos} {e0:Expr} {es:List Expr} {t:TA} {u:TS} {i:Nat} {b0:Stmt} {suite:List Stmt}
theorem GA(hst:X.stack=X.env::X.outer)(hfm:X.env.frame=some X.env.locals)(F:cE X.prog X.w X.K X.mg X.base (rO X.prog X.w) k f fd ps sp)(hr:cD k X.A)(hg:Gl X x)(hm:X.mg x=some (.ref f))(hk:keepIn X.K (.ref f)=true)(hb:Binds X.K fd ps [])
  (ha:PA X.yH (e0::es) t) (hdb:(x==("__debug__":Str))=false) (he:starEach (e0::es) X.env=(false,eval e0 X.env)::starEach es X.env) (hpl:(backTo cpos (starEach es X.env)).any (·.1)=false)
  (hs:swapsWith (.Call (.Name x p) (e0::es) [] cpos) none epos.line X.env=pure false)
  (RG:Gl X cx) (RH:X.mg cx=some (.ref C)) (hdc:(cx==("__debug__":Str))=false) (hC:CC X.K C)
  (hN:X.N.Nodup) (hi:X.N[i]?=some n) (hn:X.env.scope.names.lookup n=some .local)
  (hu:∀a,pQ (X.held (.ref a)).yH (b0::suite) u) :
  PS X (.Try [.Expr (.Call (.Name x p) (e0::es) [] cpos) epos] [.ExceptHandler (some (.Name cx cp)) (some n) (b0::suite) hp] [] [] pos) (OV sp C i t u):=by
 intro pins s σ H D I h;refine wpAny_Try_except (wpAny_execs_cons (wpAny_Expr_any ?_ I.quiet hs));refine Uv (fH I hg hm ?_ hdb);refine VL (h₀:=X.base) I.ok.mod.JM hk (Ur (ha cpos pins s σ H _ (I.ku _) h) (λus s1 ⟨vs,H1,I1,r,q⟩=>⟨I1.iZ,?_⟩) λ_ _ z=>False.elim z) he hpl;have I1:=I1.eV;have hl:us.length=ps.length:=by rw[<-r.length];exact F.len _ _ _ _ q
 have Nv:=hb s1 us I1.iZ (by rw[US];exact hl);rw[US] at Nv;refine VJ (Vq (F.run X.A X.stack s1 H1 ⟨us,[]⟩ us vs _ _ hr I1.jl Nv r q) λrr s' hq=>?_);cases rr with
 |ok fl=>
  cases fl with
  |ret v=>obtain⟨y,H2,I2,_,q2⟩:=I1.after hq;exact VD (VD ⟨σ,H2,I2,q2⟩)
  |next=>exact False.elim hq
  |brk=>exact False.elim hq
  |cont=>exact False.elim hq
 |error ev=>
  unfold CR at hq;dsimp only at hq;refine Gz (Q:=λev s3=>wpAny (model X.prog X.w) X.A (handleBy ev X.env [.ExceptHandler (some (.Name cx cp)) (some n) (b0::suite) hp]) (SP X pins D) X.xe s3) hst hfm I1 hq ?_;rintro a C' T dx H' s3 ⟨To,ec,ed,q3⟩ fa fT ne I3;cases ec;cases ed;have q3:=q3 a T fa fT ne;obtain⟨nm,q,N,bs,bm,hdct,sn,sub,ab,col,dd,k0,k1,k2,k3,k5,newId,lc,hbase⟩:=hC;have J3:=I3.held (.ref a);refine wpAny_handleBy_cons (codeAny_handlers_test (fH J3 RG RH ?_ hdc)) (by intro q;cases q);obtain⟨⟨oe,vs',e1,e2,e3,e4,e5⟩,_⟩:=I3.hok a _ (vF ne);obtain⟨hh,g,d,tk,os⟩:=s3;refine wpAny_excMatches_sub_self (I3.iZ _ _ lc) e1 e2 hbase (codeAny_handlers_suite_as ?_);refine again ne J3 λs4 J4=>?_;refine mq (X:=X.held (.ref a)) J4 hN hi (.inl hn) (show RelV (.ref a) (.ref a) from rfl) (λs5 J5=>?_) (.inr hn);refine Ur (hu a pins s5 _ _ _ (J5.ku _) q3) (λfl s6 z=>?_) λ_ _ z=>False.elim z;cases fl with
  |next=>obtain⟨σ',H2,I6,q6⟩:=z;have I6:Inv X pins σ' H2 s6:=Inv.Gy I.ok I6.eV;exact goes hN hi hn I6 λs7 I7=>⟨_,H2,I7,q6⟩
  |ret v=>obtain⟨_,_,_,_,_,z⟩:=z;exact False.elim z
  |brk=>obtain⟨_,_,_,z⟩:=z;exact False.elim z
  |cont=>obtain⟨_,_,_,z⟩:=z;exact False.elim z
end
def gaOf(x:Addr)(name:Str)(tk:Tok):Sem Fin:=PySem.Builtin.«object.__getattribute__» (Args.mk [.ref x,.str name tk] [])
def vG(P:Value->Shared->Prop)(fin:Fin)(s:Shared):Prop:=match fin with|.done (.ret v)=>P v s|_=>False
section
variable {prog:Program} {w:World} {A:Around} {E:Value->Shared->Prop} {s:Shared} {K:Frag} {x C:Addr} {ox:Obj} {od:Option Obj} {name:Str}
theorem getx_by{fill expr:Bool}(X:K.In s.heap)(I:PySem.W.InstAt s.heap x ox C od)(hga:findIn K (.ref C) "__getattribute__" = some (some (.builtin "BaseException.__getattribute__")))
  (RI:findIn K (.ref C) "__getattr__" = some none) (hm:PySem.W.mroIn K C (.type "BaseException")=some true)
  (h:∀A',wpAny (model prog w) A' (gaOf x name tk) (vG λv s'=>wpAny (model prog w) A (handedOut v) Q E s') (λ_ _=>False) s) :
  wpAny (model prog w) A (getAttrBy (.ref x) (.str name tk) fill expr) Q E s:=by
 obtain⟨hh,g,d,t,os⟩:=s;have L0:=I.type (M:=model prog w);have L1:=Vh (M:=model prog w) X hga;have L2:=Vh (M:=model prog w) X RI;have sub:PySem.W.Looks (model prog w) hh (isInstance (.ref x) (.type "BaseException")) true:=I.type.andThen (looks_mroIn X hm);have hx2:(Value.builtin "BaseException.__getattribute__" == Value.builtin "object.__getattribute__")=false:=by decide +kernel
 have hx1:¬ ((onTheHeap (Value.ref C)&&Value.builtin "BaseException.__getattribute__" == Value.builtin "object.__getattribute__")=true):=by rw[hx2];simp
 have hx0:¬ ((expr&&onTheHeap (Value.builtin "BaseException.__getattribute__"))=true):=by cases expr<;>simp[onTheHeap]
 have f3:=(PySem.F.attr_ValueError).ga.bind (.ref x);unfold getAttrBy;refine Uy (Tw (L0.at (Tw (L1.at ?_))));dsimp only;rw[TX hx1];unfold getAttrByItsOwn hookBefore;refine Tw ?_;show wpAny _ _ (typeLookup (.ref C) "__getattr__") _ _ _;refine L2.at (Tw (Wm (Uy ?_)));unfold callGetattribute;rw[TX hx0];unfold boundAndCalled;rw[f3];refine Tw (TL (VJ ?_));have hk:builtinKind "BaseException.__getattribute__" = some .slot:=by decide +kernel
 have hsp:splitId "BaseException.__getattribute__" = some ("BaseException","__getattribute__"):=by decide +kernel
 refine V8 (PySem.F.attr_ValueError).ga.plain F.entry_bexc_ga (@PySem.W.check_slot (model prog w) _ _ _ "BaseException.__getattribute__" "BaseException" "__getattribute__" (.ref x) [.str name tk] [] _ hk hsp sub (F.args_bexc_ga _ _) ?_);refine Ur (show wpAny _ _ (PySem.Builtin.«object.__getattribute__» (Args.mk [.ref x,.str name tk] [])) _ _ _ from h _) (λfin s' z=>?_) λ_ _ z=>z.elim;unfold vG at z
 rcases fin with (_|_|_|_)|_<;>first|exact z|exact z.elim
theorem zT(X:K.In s.heap)(I:PySem.W.InstAt s.heap x ox C od)(hf:findObj K C od name=some (.value v))(h:P v s):wpAny (model prog w) A' (gaOf x name tk) (vG P) E s:=by
 obtain⟨hh,g,d,t,os⟩:=s;have L0:=I.type (M:=model prog w);have L1:=looks_find (M:=model prog w) X I hf;unfold gaOf Builtin.«object.__getattribute__»;refine Tw (TL ?_);refine Tw (TL ?_);refine Tw (L0.at (Tw (L1.at ?_)));exact TL h
theorem CD{g0 a0:Value}(X:K.In s.heap)(I:PySem.W.InstAt s.heap x ox C od)(hf:findObj K C od name=some (.bind g0 a0))(h:wpAny (model prog w) A' (call g0 [a0,.ref x,.ref C]) P E s):wpAny (model prog w) A' (gaOf x name tk) (vG P) E s:=by
 obtain⟨hh,g,d,t,os⟩:=s;have L0:=I.type (M:=model prog w);have L1:=looks_find (M:=model prog w) X I hf;unfold gaOf Builtin.«object.__getattribute__»;refine Tw (TL ?_);refine Tw (TL ?_);refine Tw (L0.at (Tw (L1.at ?_)));show wpAny _ _ (holding [a0] (call g0 [a0,.ref x,.ref C]) >>= ret) _ _ _;exact Tw (Uy (Ur h (λv s' z=>TL z) λ_ _ z=>z))
end
structure uE (K:Frag) (C:Addr):Prop where
 ga:findIn K (.ref C) "__getattribute__" = some (some (.builtin "BaseException.__getattribute__"))
 gn:findIn K (.ref C) "__getattr__" = some none
 mb:PySem.W.mroIn K C (.type "BaseException")=some true
 hd:hasDictIn K C=true
 ha:findIn K (.ref C) "__class__" = some (some (.builtin "object.__class__"))
 hn:specialIn K (.builtin "object.__class__") "__get__" = some (some (.builtin "getset_descriptor.__get__"))
 htk:takesIn K (.builtin "object.__class__")=some true
 hm:PySem.W.mroIn K C (.type "object")=some true
section
variable {prog:Program} {w:World} {A:Around} {E:Value->Shared->Prop} {s:Shared} {K:Frag} {x C:Addr} {ox od:Obj} {name:Str}
theorem OW{expr:Bool}(X:K.In s.heap)(I:PySem.W.InstAt s.heap x ox C (some od))(G:uE K C)(hn:findIn K (.ref C) name=some none)(hl:lookIn name od=some (some v))(hv:handedIn v=true)(h:Q v { s with toks:=s.toks+1 }) :
  wpAny (model prog w) A (getAttr (.ref x) name expr) Q E s:=by
 obtain⟨hh,g,d,t,os⟩:=s;unfold getAttr;refine Tw (wpAny_mkText (getx_by (K:=K) X I G.ga G.gn G.mb λA'=>zT X I (PySem.W.findObj_own G.hd hn rfl hl) ?_));rw[PySem.W.handedOut_of hv];exact TL h
theorem zU(X:K.In s.heap)(I:PySem.W.InstAt s.heap x ox C (some od))(G:uE K C)(h:Q (some (.ref C)) { s with toks:=s.toks+1 }) :
  wpAny (model prog w) A (getAttr? (.ref x) "__class__") Q E s:=by
 have hf:findObj K C (some od) "__class__" = some (.bind (.builtin "getset_descriptor.__get__") (.builtin "object.__class__")):=PySem.W.findObj_data (by obtain⟨cd,hc,_⟩:=Wr G.hd;rw[hc];rfl) G.ha G.hn G.htk;obtain⟨hh,g,d,t,os⟩:=s;unfold getAttr? getAttrBy?;refine Tw (wpAny_mkText (Tw (Wm (getx_by (K:=K) X I G.ga G.gn G.mb λA'=>CD X I hf ?_))));refine VJ (PySem.W.class_get (ox:=ox) (od:=some od) X I G.hm ?_);refine TL ?_;exact TL h
theorem rQ(G:uE K C):PySem.W.KitX K (.ref x) (.ref C) (λh=>∃ox od,PySem.W.InstAt h x ox C (some od)) where
 ty:=λ_ _ _ ⟨_,_,I⟩=>I.type
 it:=λ_ _ X _=>by
  obtain⟨cdD,Cy,_⟩:=Wr G.hd;unfold PySem.W.clsIn at Cy;split at Cy
  ·rename_i c' d' RJ J8 ho;intro A' Q' E' s' k q;unfold isType loadHead;exact Tw (wpAny_loadPart (k _ _ (X _ _ ho)) (TL q))
  ·cases Cy
 ne:=λh tp dd its n sl X htp=>by
  obtain⟨cdD,Cy,_⟩:=Wr G.hd;refine Bool.eq_false_iff.mpr λq=>?_;have e:C=tp:=Value.ref.inj (WA.mp q);subst e;unfold PySem.W.clsIn at Cy;split at Cy
  ·rename_i c' d' RJ J8 ho;have z:=(X _ _ ho).symm.trans htp;cases z
  ·cases Cy
 ca:=λX ⟨_,_,I⟩ k=>zU X I G k
end
section
variable {X:Cx} {pins:List (Addr×Obj)} {σ:St} {H:Hp} {s:Shared} {A:Around} {E:Value->Shared->Prop} {e:Expr} {f:Str} {pos:Pos} {ta:TE}
theorem qg(I:Inv X pins σ H s)(ha:H a=some (.ext (rP a C T dx)))(hd:H dx=some (.xd fs)) :
  ∃ox od,PySem.W.InstAt s.heap a ox C (some od)/\∀f v,fs.lookup f=some v->∃u,RelV v u/\lookIn f od=some (some u):=by
 obtain⟨⟨oe,vs,e1,e2,e3,e4,e5⟩,_⟩:=I.hok a _ ha;obtain⟨mA,n,r⟩:=I.hok dx _ hd;obtain⟨od,ho,hl⟩:=xx n;refine⟨oe,od,⟨e1,e2,by unfold notCls;rw[e4],by rw[e3];exact ho⟩,λf v z=>?_⟩;obtain⟨u,hu,ru⟩:=lG.some_of (v:=v) (o:=mA f) (by rw[<-z];exact r f);exact⟨u,ru,by rw[hl,hu]⟩
def tXf(K:Frag)(ta:TE)(f:Str):TE:=λσ H Q=>ta σ H λx H1=>∃a C T dx fs v,x=.ref a/\H1 a=some (.ext (rP a C T dx))/\H1 dx=some (.xd fs)/\uE K C/\findIn K (.ref C) f=some none/\fs.lookup f=some v/\Q v H1
theorem pe_xf(he:PE X e ta)(hb:attributeBase e f X.env (eval e X.env)=eval e X.env):PE X (.Attribute e f pos) (tXf X.K ta f):=by
 intro pins s σ H Q I h;refine attr_of hb (bY (he pins s σ H _ I h) λu s1 aE=>?_);obtain⟨x,H1,I1,rx,a,C,T,dx,fs,v,ex,ea,ed,G,n,l,q⟩:=aE;subst ex;obtain rfl:u=Value.ref a:=rx;obtain⟨ox,od,J,hv⟩:=qg I1 ea ed;obtain⟨u',ru,hl⟩:=hv f v l;exact OW I1.iZ J G n hl (xy ru) ⟨v,H1,I1.tok _,ru,q⟩
theorem rR:∀{cs:List Addr} {its:List Value},Vals (cs.map V.ref) its->its=cs.map Value.ref
 |[],_,.nil=>rfl
 |_::_,_,.cons a b=>by rw[rR b];cases (show _=Value.ref _ from a);rfl
def OX(K:Frag)(H:Hp)(x:V)(C:Addr):Prop:=∃a T dx fs,x=.ref a/\H a=some (.ext (rP a C T dx))/\H dx=some (.xd fs)/\uE K C
theorem rS:bK X (.builtin "isinstance") (λxs H Q=>∃(x c:V) (cv:Value) (C:Addr) (b:Bool),xs=[x,c]/\(∀u,RelV c u->u=cv)/\OX X.K H x C/\kitOne X.K (.ref C) cv=some b/\Q (.bl b) H):=by
 intro pins s σ H xs us Q I r h;obtain⟨x,c,cv,C,b,rfl,hc,⟨a,T,dx,fs,rfl,ea,ed,G⟩,e,q⟩:=h;obtain⟨u,w',rfl,r1,r2⟩:=vals2 r;obtain rfl:u=Value.ref a:=r1;obtain rfl:=hc _ r2;obtain⟨ox,od,J,_⟩:=qg I ea ed;exact UT (rQ G) I.iZ ⟨ox,od,J⟩ e (λz=>nomatch z) λtk=>⟨.bl b,H,I.tok _,rfl,q⟩
theorem zV:bK X (.builtin "isinstance") (λxs H Q=>∃(x:V) (tp:Addr) (cs:List Addr) (C:Addr) (b:Bool),xs=[x,.ref tp]/\H tp=some (.tup (cs.map V.ref))/\OX X.K H x C/\kitAny X.K (.ref C) (cs.map Value.ref)=some b/\Q (.bl b) H):=by
 intro pins s σ H xs us Q I r h;obtain⟨x,tp,cs,C,b,rfl,et,⟨a,T,dx,fs,rfl,ea,ed,G⟩,e,q⟩:=h;obtain⟨u,w',rfl,r1,r2⟩:=vals2 r;obtain rfl:u=Value.ref a:=r1;obtain rfl:w'=Value.ref tp:=r2;obtain⟨ox,od,J,_⟩:=qg I ea ed;obtain⟨_,its,hi,o,h1,h2,n,h3⟩:=(show aV X.prog X.w H s.heap tp (.tup (cs.map V.ref)) from I.hok tp _ et);have ei:=rR hi;subst ei;obtain⟨oc,odd,Nx,osl⟩:=o;obtain rfl:oc=_:=h2;obtain rfl:Nx=_:=h3;exact PySem.W.kia_tup (rQ G) I.iZ ⟨ox,od,J⟩ h1 e (λz=>nomatch z) λtk=>⟨.bl b,H,I.tok _,rfl,q⟩
end
section
variable {K:Frag} {C D:Addr} {o:Obj} {nm q:Str} {N:Addr} {bs bm:List Value} {hdct:Bool} {sn:List Str} {sub:List Value} {ab:Bool} {col:Option Bool} {dd:Option Addr} {k0 k1 k2 k3 k5:Option Value} {newId:String}
theorem excOb(h:K.lookup C=some o)(e:o=excClassObj nm q C N bs (.ref D::VB) hdct sn sub ab col dd k0 k1 k2 k3 k5 "ValueError.__new__"):∃nm q N bs hdct sn sub ab col dd k0 k1 k2 k3 k5,K.lookup C=some (excClassObj nm q C N bs (.ref D::VB) hdct sn sub ab col dd k0 k1 k2 k3 k5 "ValueError.__new__") :=
 ⟨nm,q,N,bs,hdct,sn,sub,ab,col,dd,k0,k1,k2,k3,k5,by rw[h,e]⟩
theorem excNe(h:K.lookup C=some o)(e:o=excClassObj nm q C N bs bm hdct sn sub ab col dd k0 k1 k2 k3 k5 newId)(b:bm.contains (.type "BaseException")=true):CC K C :=
 ⟨nm,q,N,bs,bm,hdct,sn,sub,ab,col,dd,k0,k1,k2,k3,k5,newId,by rw[h,e],b⟩
def Ld(es:Array DictEntry):Bool:=es.toList.all λe=>match e.key with|.str _ _=>true|_=>false
theorem excUp{c0 c1:Value}{d0 d1:Option Addr}{sl Ej:Array (Option Value)}{ep:Nat}{o1 o2:Obj}(h1:K.lookup D=some o1)(e1:o1=⟨c0,d0,.cls cdD,sl⟩)(h2:K.lookup cdD.ns=some o2)(e2:o2=⟨c1,d1,.dict es ep,Ej⟩)(h3:Ld es=true)(h4:nsFind es "__init__" = none) :
  ∃c0 dd cdD sl c1 d1 es ep Ej,K.lookup D=some ⟨c0,dd,.cls cdD,sl⟩/\K.lookup cdD.ns=some ⟨c1,d1,.dict es ep,Ej⟩/\StrKeys es/\nsFind es "__init__" = none:=by
 refine⟨c0,d0,cdD,sl,c1,d1,es,ep,Ej,by rw[h1,e1],by rw[h2,e2],λe he=>?_,h4⟩;unfold Ld at h3;rw[Ws]at h3;have:=h3 e (by simpa using he);split at this
 ·rename_i x t hk;first|exact⟨x,t,hk⟩|exact⟨x,hk⟩|(rw[hk];rfl)|simp[hk]
 ·cases this
end
end L2
end
section
namespace Hv
open PySem L2 PyProof.Rows
inductive Val
 |non|bl (b:Bool)|int (i:Int)|str (x:Str)|tup (vs:List Val)|rl (vs:List Val)|dc (ks:List Key) (vs:List Val)|ob (c:Nat) (xs:List Str) (vs:List Val)|ref (i:Nat)
inductive Ob
 |lst (xs:List Val)|dct (kvs:List (Key×Val))|ins (c:Nat) (fs:List (Str×Val))
abbrev Hs:=List Ob
inductive Out (α:Type)
 |ok (a:α) (h:Hs)|exc (c:Nat) (vs:List Val) (h:Hs)|no
abbrev M(α:Type):=Hs->Out α
def ret{α:Type}(a:α):M α:=λh=>.ok a h
def bnd{α β:Type}(m:M α)(f:α -> M β):M β:=λh=>match m h with
 |.ok a h'=>f a h'
 |.exc c vs h'=>.exc c vs h'
 |.no=>.no
def aN{α:Type}(o:Option α):M α:=λh=>match o with
 |some a=>.ok a h
 |none=>.no
def ask{α:Type}(f:Hs->Option α):M α:=λh=>aN (f h) h
def new(o:Ob):M Val:=λh=>.ok (.ref h.length) (h++[o])
def put(i:Nat)(o:Ob):M Unit:=λh=>.ok () (h.set i o)
def bM{α β:Type}(f:α -> Option β):List α -> Option (List β)
 |[]=>some []
 |a::r=>(f a).bind λb=>(bM f r).bind λbs=>some (b::bs)
inductive El|add|sub|mul|fdiv|mod|pow
 deriving DecidableEq
inductive GB|eq|ne|lt|le|gt|ge|isn|ntn|GC|nin
 deriving DecidableEq
inductive Bl|len|min|max|sorted|list|tuple|str|int|all|any|isin (T:String)
 deriving DecidableEq
inductive Me|join|append|extend|remove
 deriving DecidableEq
inductive uF|one (i:Nat)|tup (is:List Nat)
 deriving DecidableEq
inductive Ik|seq|range|enum|zip
 deriving DecidableEq
mutual
inductive IE
 |var (i:Nat)|cst (d:Val)|con (x:Str) (d:Val)|no
 |bin (o:El) (a b:IE)|neg (a:IE)|cmp (o:GB) (a b:IE)|chn (o p:GB) (a b c:IE)
 |and (a b:IE)|or (a b:IE)|not (a:IE)|ite (c a b:IE)
 |tup (es:jt)|lst (es:jt)|idx (a b:IE)|slc (a lo hi:IE)
 |call (j:Nat) (es:jt)|blt (b:Bl) (es:jt)|met (m:Me) (a:IE) (es:jt)
 |comp (N:List Str) (js:List (Option Nat)) (pat:uF) (k:Ik) (it:jt) (c elt:IE)
 |dct0
 |sset (a:IE)
 |dget (d k x:IE)
 |dct1 (k v:IE)
 |lkeys (d:IE)
 |sdef (d k x:IE)
 |svals (d:IE)
 |skeys (d:IE)
 |fld (n:Nat) (a:IE) (x:Str)
 |mth (a:IE) (m:Str) (js:List (Nat×Nat)) (es:jt)
 |rev (a s:IE)
 |dflt (N:List Str) (js:List (Option Nat)) (p q:Nat) (d w:IE)
 |isc (a:IE) (x:Str) (bs:List Bool)
inductive jt|nil|cons (e:IE) (es:jt)
end
abbrev Env:=List (Option Val)
mutual
inductive IS
 |expr (e:IE)|asg (p:uF) (e:IE)|aug (i:Nat) (o:El) (e:IE)|iu (o i v:IE)
 |iff (c:IE) (a b:gc)|for (p:uF) (k:Ik) (it:jt) (body:gc)|whl (n:Nat) (c:IE) (body:gc)
 |ret (e:IE)|zW|brk|cnt|pass|never|setF (n:Nat) (a:IE) (x:Str) (v:IE)
inductive gc|nil|cons (s:IS) (r:gc)
end
def az(h:Hs):Val->Option (List Val)
 |.rl vs=>some vs
 | .ref i=>match h[i]? with
  |some (.lst xs)=>some xs
  |_=>none
 |_=>none
def cg(h:Hs):Val->Option (List Val)
 |.tup vs=>some vs
 |v=>az h v
def rT(h:Hs):Val->Option (List Val)
 |.tup vs=>some vs
 |.ref i=>az h (.ref i)
 |_=>none
def aM:List Val->Option (List Int):=bM λv=>match v with
 |.int i=>some i
 |_=>none
def dw:List Val->Option (List Bool):=bM λv=>match v with
 |.bl i=>some i
 |_=>none
def jc:List Val->Option (List (List Int)):=bM λv=>match v with
 |.tup vs=>if vs.isEmpty then none else aM vs
 |_=>none
def toD:Nat->Hs->Val->Option PyData
 |0,_,_=>none
 |_+1,_,.non=>some .none
 |_+1,_,.bl b=>some (.bool b)
 |_+1,_,.int i=>some (.int i)
 |_+1,_,.str x=>if PyData.strOk x=true then some (.str x) else none
 |n+1,h,.tup vs=>(bM (toD n h) vs).bind λds=>some (.tuple ds)
 |n+1,h,.rl vs=>(bM (toD n h) vs).bind λds=>some (.list ds)
 |_+1,_,.dc _ _=>none
 |_+1,_,.ob _ _ _=>none
 |n+1,h,.ref i=>(az h (.ref i)).bind λxs=>(bM (toD n h) xs).bind λds=>some (.list ds)
def yK(h:Hs)(v w:Val):Option Bool:=(toD 16 h v).bind λd=>(toD 16 h w).bind λe=>some (PyData.eqv d e)
def qh(x:List Int):List (List Int)->List (List Int)
 |[]=>[x]
 |y::r=>if HT.lexLt y x=true then y::qh x r else x::y::r
def jO:List (List Int)->List (List Int)
 |[]=>[]
 |x::r=>qh x (jO r)
def ju(ks:List Int):Val:=.tup (ks.map .int)
def eY(xs:List Val):Option (List Val) :=
 if xs.length<64 then
  match aM xs with
  |some ns=>some ((sortI ns).map .int)
  |none=>(jc xs).bind λlY=>some ((jO lY).map ju)
 else none
def qi:List Int->Option Val
 |[]=>none
 |a::r=>some (.int (r.foldl min a))
def qj:List Int->Option Val
 |[]=>none
 |a::r=>some (.int (r.foldl max a))
def fN(i j:Int):Bool:=(decide (-(2 ^ 64)<i)&&decide (i<2 ^ 64))||(decide (-(2 ^ 64)<j)&&decide (j<2 ^ 64))
def aF{α:Type}(c:Bool)(m:M α):M α:=λh=>if c=true then m h else .no
def kL(b:Int):Bool:=decide (0<b/\b<1606938044258990275541962092341162602522202993782792835301376)
def JU:El->Val->Val->M Val
 |.add,.int a,.int b=>ret (.int (a+b))
 |.add,.str a,.str b=>aF (decide (a.length+b.length<=sizeLine)) (ret (.str (a++b)))
 |.add,.tup a,.tup b=>aF (!a.isEmpty&&decide (a.length+b.length<=sizeLine)) (ret (.tup (a++b)))
 |.add,v,w=>bnd (ask λh=>az h v) λa=>bnd (ask λh=>az h w) λb=>aF (decide (a.length+b.length<=sizeLine)) (new (.lst (a++b)))
 |.sub,.int a,.int b=>ret (.int (a-b))
 |.mul,.int a,.int b=>aF (fN a b) (ret (.int (a*b)))
 |.fdiv,.int a,.int b=>aF (kL b) (ret (.int (a/b)))
 |.mod,.int a,.int b=>aF (decide (0<b)) (ret (.int (a%b)))
 |.pow,.int a,.int b=>aF (decide (0<=b/\b<=1000000/\a.natAbs<2 ^ 64)) (ret (.int (a ^ b.toNat)))
 |_,_,_=>aN none
def mW:Val->Bool
 |.non=>true
 |_=>false
def eZ(kvs:List (Key×Val))(k:Key):Option Val:=(kvs.find? λkv=>decide (kv.1=k)).map (·.2)
def cF(kvs:List (Key×Val))(k:Key)(v:Val):List (Key×Val) :=
 if (kvs.any λkv=>decide (kv.1=k))=true then kvs.map (λkv=>if kv.1=k then (kv.1,v) else kv) else kvs++[(k,v)]
def keyOf:Val->Option Key
 |.int i=>some (.inl i)
 |.str x=>some (.inr x)
 |_=>none
def Le(f d:PyData):Option Bool:=match f with
 |.list ds=>some (ds.any λy=>PyData.eqv y d)
 |.tuple ds=>some (ds.any λy=>PyData.eqv y d)
 |_=>none
def memD(h:Hs)(v w:Val):Option Bool:=(toD 16 h w).bind λf=>(toD 16 h v).bind λd=>Le f d
def rV(h:Hs)(v w:Val):Option Bool:=memD h v w
def Em(v w:Val):Option Bool:=match w with
 |.non=>some (mW v)
 | .bl b=>(match v with
  |.bl a=>some (a==b)
  |_=>none)
 |_=>none
def cop(h:Hs):GB->Val->Val->Option Bool
 |.eq,v,w=>yK h v w
 |.ne,v,w=>(yK h v w).map (!·)
 |.lt,.int a,.int b=>some (decide (a<b))
 |.le,.int a,.int b=>some (decide (a<=b))
 |.gt,.int a,.int b=>some (decide (b<a))
 |.ge,.int a,.int b=>some (decide (b<=a))
 |.isn,v,w=>Em v w
 |.ntn,v,w=>(Em v w).map (!·)
 |.GC,v,w=>rV h v w
 |.nin,v,w=>(rV h v w).map (!·)
 |_,_,_=>none
def cG(h:Hs):Val->Option Bool
 |.non=>some false
 |.bl b=>some b
 |.int i=>some (i != 0)
 |.str x=>if x.length<=sizeLine then some ((x.length:Int) != 0) else none
 |.tup vs=>some (!vs.isEmpty)
 |.rl vs=>some (!vs.isEmpty)
 |.dc ks _=>some (!ks.isEmpty)
 |.ob _ _ _=>none
 | .ref i=>match h[i]? with
  |some (.lst xs)=>some (!xs.isEmpty)
  |some (.dct xs)=>some (!xs.isEmpty)
  |_=>none
def rW(h:Hs):Val->Val->Option Val
 |.str x,.int i=>if x.length<=sizeLine then (gY x.cps.toList i).map λc=>.str ⟨[c].toArray⟩ else none
 |.tup vs,.int i=>gY vs i
 |.rl vs,.int i=>gY vs i
 | .ref j,.int i=>match h[j]? with
  |some (.dct kvs)=>eZ kvs (.inl i)
  |_=>(az h (.ref j)).bind λxs=>gY xs i
 | .ref j,.str x=>match h[j]? with
  |some (.dct kvs)=>eZ kvs (.inr x)
  |_=>none
 |.dc ks vs,.int i=>eZ (ks.zip vs) (.inl i)
 |.dc ks vs,.str x=>eZ (ks.zip vs) (.inr x)
 |_,_=>none
def zX(h:Hs)(o:Val):Option (List Key):=match o with
 | .ref i=>(match h[i]? with
  |some (.dct kvs)=>some (kvs.map (·.1))
  |_=>none)
 |.dc ks _=>some ks
 |_=>none
def o9:List Key->Option (List Int):=bM λk=>match k with
 |.inl i=>some i
 |.inr _=>none
def jv(h:Hs)(o:Val):Option (List Int):=(zX h o).bind λks=>(o9 ks).bind λns=>if ns.length<64 then some (sortI ns) else none
def eE{α:Type}(ds:List α)(lo hi:Option Int):List α:=(ds.drop (HT.cP ds.length 0 lo)).take (HT.cP ds.length ds.length hi-HT.cP ds.length 0 lo)
def n9(v:Val)(lo hi:Option Int):M Val:=match v with
 |.tup vs=>aF (!(decide (HT.cP vs.length 0 lo=0)&&decide (HT.cP vs.length vs.length hi=vs.length))) (ret (.tup (eE vs lo hi)))
 |v=>bnd (ask λh=>az h v) λxs=>new (.lst (eE xs lo hi))
def rX(h:Hs):Val->Option String
 |.non=>some "NoneType" | .bl _=>some "bool" | .int _=>some "int" | .str _=>some "str" | .tup _=>some "tuple" | .rl _=>some "list" | .dc _ _=>some "dict" | .ob _ _ _=>none
 | .ref i=>match h[i]? with
  |some (.lst _)=>some "list"
  |some (.dct _)=>some "dict"
  |_=>none
def rY(T:String)(t:String):Option Bool :=
 if ["list","tuple","str","bool","int","dict"].contains T=true then some (decide (T=t\/(T = "int" /\ t = "bool"))) else none
def jP(h:Hs):Val->Option Nat
 |.str x=>if x.length<=sizeLine then some x.length else none
 |.tup vs=>some vs.length
 |.rl vs=>some vs.length
 |.dc ks _=>some ks.length
 | .ref i=>match h[i]? with
  |some (.lst xs)=>some xs.length
  |some (.dct xs)=>some xs.length
  |_=>none
 |_=>none
def blt:Bl->List Val->M Val
 |.len,[v]=>bnd (ask λh=>jP h v) λn=>ret (.int n)
 |.min,[.int a,.int b]=>ret (.int (if b<a then b else a))
 |.max,[.int a,.int b]=>ret (.int (if b>a then b else a))
 |.min,[v]=>bnd (ask λh=>cg h v) λxs=>aN ((aM xs).bind qi)
 |.max,[v]=>bnd (ask λh=>cg h v) λxs=>aN ((aM xs).bind qj)
 |.sorted,[v]=>bnd (ask λh=>az h v) λxs=>bnd (aN (eY xs)) λys=>new (.lst ys)
 |.list,[v]=>bnd (ask λh=>cg h v) λxs=>new (.lst xs)
 |.int,[.bl b]=>ret (.int (if b=true then 1 else 0))
 |.int,[.int i]=>ret (.int i)
 |.all,[v]=>bnd (ask λh=>az h v) λxs=>bnd (aN (dw xs)) λbs=>ret (.bl (bs.all id))
 |.isin T,[v]=>bnd (ask λh=>rX h v) λt=>bnd (aN (rY T t)) λb=>ret (.bl b)
 |_,_=>aN none
def met:Me->Val->List Val->M Val
 |.append,.ref i,[v]=>bnd (ask λh=>match h[i]? with|some (.lst xs)=>some xs|_=>none) λxs=>aF (decide (xs.length<sizeLine)) (bnd (put i (.lst (xs++[v]))) λ_=>ret .non)
 |.extend,.ref i,[v]=>bnd (ask λh=>match h[i]? with|some (.lst xs)=>some xs|_=>none) λxs=>bnd (ask λh=>rT h v) λys=>aF (decide (xs.length+ys.length<=sizeLine)) (bnd (put i (.lst (xs++ys))) λ_=>ret .non)
 |.remove,.ref i,[.int k]=>bnd (ask λh=>match h[i]? with|some (.lst xs)=>some xs|_=>none) λxs=>bnd (aN (aM xs)) λks=>aF (decide (k∈ks)) (bnd (put i (.lst (xs.eraseIdx (ks.idxOf k)))) λ_=>ret .non)
 |_,_,_=>aN none
def recv(h:Hs):Me->Val->Option Unit
 |.join,.str _=>some ()
 |.append,.ref i=>match h[i]? with|some (.lst _)=>some ()|_=>none
 |.extend,.ref i=>match h[i]? with|some (.lst _)=>some ()|_=>none
 |.remove,.ref i=>match h[i]? with|some (.lst _)=>some ()|_=>none
 |_,_=>none
inductive Src
 |fix (xs:List Val)|live (i:Nat)|enum (i:Nat)|zip (v w:Val)
def bI:Nat->List Val->List Val
 |_,[]=>[]
 |i,d::r=>.tup [.int i,d]::bI (i+1) r
def Lf:List Val->List Val->List Val
 |a::r,b::t=>.tup [a,b]::Lf r t
 |_,_=>[]
def bN(lo:Int)(n:Nat):List Val:=(List.range n).map λ(i:Nat)=>Val.int (lo+(i:Int))
def inR(i:Int):Bool:=decide (-(2 ^ 62)<=i)&&decide (i<2 ^ 62)
def srcOf:Ik->List Val->Option Src
 |.seq,[.tup vs]=>some (.fix vs)
 |.seq,[.rl vs]=>some (.fix vs)
 |.seq,[.ref i]=>some (.live i)
 |.range,[.int n]=>if inR n then some (.fix (bN 0 n.toNat)) else none
 |.range,[.int a,.int b]=>if inR a&&inR b then some (.fix (bN a (b-a).toNat)) else none
 |.enum,[.rl vs]=>some (.fix (bI 0 vs))
 |.enum,[.ref i]=>some (.enum i)
 |.zip,[v,w]=>some (.zip v w)
 |_,_=>none
def Src.items(h:Hs):Src->Option (List Val)
 |.fix xs=>some xs
 |.live i=>az h (.ref i)
 |.enum i=>(az h (.ref i)).map (bI 0)
 |.zip v w=>(az h v).bind λxs=>(az h w).map λys=>Lf xs ys
def bindAll:List Nat->List Val->Env->Option Env
 |[],[],env=>some env
 |i::is,d::ds,env=>bindAll is ds (env.set i (some d))
 |_,_,_=>none
def fc:uF->Val->Env->Option Env
 |.one i,d,env=>some (env.set i (some d))
 |.tup is,.tup ds,env=>bindAll is ds env
 |_,_,_=>none
def iw(js:List (Option Nat))(env:Env):Env:=js.map λo=>match o with
 |none=>none
 | some j=>match env[j]? with
  |some (some d)=>some d
  |_=>none
def dJ(src:Src)(f:Val->M (Option Val)):Nat->Nat->List Val->M (List Val)
 |0,i,acc=>bnd (ask λh=>src.items h) λxs=>aF (decide (xs.length<=i)) (ret acc)
 | n+1,i,acc=>bnd (ask λh=>src.items h) λxs=>match xs[i]? with
  |none=>ret acc
  |some x=>bnd (f x) λo=>dJ src f n (i+1) (match o with|some e=>acc++[e]|none=>acc)
def cy:IE->Bool
 |.no=>true
 |_=>false
def iy:Val->Option Int
 |.int i=>some i
 |_=>none
def ly:Val->M Bool
 |.bl b=>ret b
 |_=>aN none
def Qw(c:Nat)(φ:List Val->M Val)(vs:List Val):M Val:=bnd (new (.ins c [])) λo=>bnd (φ (o::vs)) λr=>match r with
 |.non=>ret o
 |_=>aN none
mutual
noncomputable def aG(Φ:Nat->List Val->M Val):IE->Env->M Val
 | .var i,env=>aN (match env[i]? with
  |some (some d)=>some d
  |_=>none)
 |.cst d,_=>ret d
 |.con _ d,_=>ret d
 |.no,_=>aN none
 |.bin o a b,env=>bnd (aG Φ a env) λx=>bnd (aG Φ b env) λy=>JU o x y
 | .neg a,env=>bnd (aG Φ a env) λx=>match x with
  |.int i=>ret (.int (-i))
  |_=>aN none
 |.cmp o a b,env=>bnd (aG Φ a env) λx=>bnd (aG Φ b env) λy=>bnd (ask λh=>cop h o x y) λt=>ret (.bl t)
 |.chn _ _ _ _ _,_=>aN none
 |.and a b,env=>bnd (aG Φ a env) λx=>bnd (ly x) λt=>if t=true then bnd (aG Φ b env) λy=>bnd (ly y) λu=>ret (.bl u) else ret (.bl false)
 |.or a b,env=>bnd (aG Φ a env) λx=>bnd (ly x) λt=>if t=true then ret (.bl true) else bnd (aG Φ b env) λy=>bnd (ly y) λu=>ret (.bl u)
 |.not a,env=>bnd (aG Φ a env) λx=>bnd (ly x) λt=>ret (.bl (!t))
 |.ite _ _ _,_=>aN none
 |.tup es,env=>bnd (aZ Φ es env) λds=>aF (decide (ds.length<=sizeLine)) (ret (.tup ds))
 |.lst es,env=>bnd (aZ Φ es env) λds=>aF (decide (ds.length<=sizeLine)) (new (.lst ds))
 |.idx a b,env=>bnd (aG Φ a env) λx=>bnd (aG Φ b env) λy=>ask λh=>rW h x y
 |.slc a lo hi,env=>bnd (aG Φ a env) λx=>bnd (if cy lo=true then ret none else bnd (aG Φ lo env) λv=>bnd (aN (iy v)) λi=>ret (some i)) λl=>
   bnd (if cy hi=true then ret none else bnd (aG Φ hi env) λv=>bnd (aN (iy v)) λi=>ret (some i)) λu=>n9 x l u
 |.call j es,env=>bnd (aZ Φ es env) λds=>Φ j ds
 |.blt b es,env=>bnd (aZ Φ es env) λds=>blt b ds
 |.met m a es,env=>bnd (aG Φ a env) λx=>bnd (ask λh=>recv h m x) λ_=>bnd (aZ Φ es env) λds=>met m x ds
 | .comp _ js pat k it c elt,env=>bnd (aZ Φ it env) λits=>bnd (aN (srcOf k its)) λsrc=>bnd (ask λh=>src.items h) λxs=>aF (decide (xs.length<=100000))
   (bnd (dJ src (λd=>bnd (aN (fc pat d (iw js env))) λenv'=>bnd (if cy c=true then ret true else bnd (aG Φ c env') λv=>ask λh=>cG h v) λt=>
    if t=true then bnd (aG Φ elt env') λe=>ret (some e) else ret none) xs.length 0 []) λys=>new (.lst ys))
 |.dct0,_=>new (.dct [])
 |.sset a,env=>bnd (aG Φ a env) λv=>bnd (ask λh=>az h v) λxs=>bnd (aN (aM xs)) λns=>aF (decide (ns.length<64)) (new (.lst ((sortI (L2.bA [] ns)).map .int)))
 |.dget _ _ _,_=>aN none
 |.dct1 k v,env=>bnd (aG Φ k env) λx=>bnd (aN (keyOf x)) λkk=>bnd (aG Φ v env) λy=>bnd (aN (keyOf y)) λk2=>new (.dct (cF [(kk,.bl true)] k2 (.bl true)))
 |.lkeys _,_=>aN none
 |.sdef _ _ _,_=>aN none
 |.svals _,_=>aN none
 |.skeys d,env=>bnd (aG Φ d env) λo=>bnd (ask λh=>jv h o) λns=>new (.lst (ns.map .int))
 |.fld _ _ _,_=>aN none
 |.mth _ _ _ _,_=>aN none
 |.rev _ _,_=>aN none
 |.dflt _ _ _ _ _ _,_=>aN none
 |.isc _ _ _,_=>aN none
noncomputable def aZ(Φ:Nat->List Val->M Val):jt->Env->M (List Val)
 |.nil,_=>ret []
 |.cons e es,env=>bnd (aG Φ e env) λd=>bnd (aZ Φ es env) λds=>ret (d::ds)
end
inductive Fl
 |nx (env:Env)|rt (v:Val)|bk (env:Env)|ct (env:Env)
def forM(src:Src)(body:Val->Env->M Fl):Nat->Nat->Env->M Fl
 |0,i,env=>bnd (ask λh=>src.items h) λxs=>aF (decide (xs.length<=i)) (ret (.nx env))
 | n+1,i,env=>bnd (ask λh=>src.items h) λxs=>match xs[i]? with
  |none=>ret (.nx env)
  | some x=>bnd (body x env) λf=>match f with
   |.nx env'=>forM src body n (i+1) env'
   |.ct env'=>forM src body n (i+1) env'
   |.bk env'=>ret (.nx env')
   |.rt v=>ret (.rt v)
def mX(o i v:Val):M Unit:=match o with
 | .ref j=>bnd (ask λh=>h[j]?) λob=>match ob,i with
  |.lst xs,.int k=>bnd (aN (xB xs.length k)) λn=>put j (.lst (xs.set n v))
  |.dct kvs,i=>bnd (aN (keyOf i)) λk=>aF (decide (kvs.length<sizeLine)) (put j (.dct (cF kvs k v)))
  |_,_=>aN none
 |_=>aN none
mutual
noncomputable def dg(Φ:Nat->List Val->M Val):IS->Env->M Fl
 |.expr e,env=>bnd (aG Φ e env) λ_=>ret (.nx env)
 |.asg p e,env=>bnd (aG Φ e env) λv=>bnd (aN (fc p v env)) λenv'=>ret (.nx env')
 |.aug _ _ _,_=>aN none
 |.iu o i v,env=>bnd (aG Φ v env) λx=>bnd (aG Φ o env) λy=>bnd (aG Φ i env) λz=>bnd (mX y z x) λ_=>ret (.nx env)
 |.iff c a b,env=>bnd (aG Φ c env) λx=>bnd (ask λh=>cG h x) λt=>if t=true then gf Φ a env else gf Φ b env
 |.for p k it body,env=>bnd (aZ Φ it env) λits=>bnd (aN (srcOf k its)) λsrc=>bnd (ask λh=>src.items h) λxs=>
   forM src (λx env=>bnd (aN (fc p x env)) λenv'=>gf Φ body env') xs.length 0 env
 |.whl _ _ _,_=>aN none
 |.ret e,env=>bnd (aG Φ e env) λv=>ret (.rt v)
 |.zW,_=>ret (.rt .non)
 |.brk,env=>ret (.bk env)
 |.cnt,env=>ret (.ct env)
 |.pass,env=>ret (.nx env)
 |.never,_=>aN none
 |.setF _ _ _ _,_=>aN none
noncomputable def gf(Φ:Nat->List Val->M Val):gc->Env->M Fl
 |.nil,env=>ret (.nx env)
 | .cons s r,env=>bnd (dg Φ s env) λf=>match f with
  |.nx env'=>gf Φ r env'
  |f=>ret f
end
def pe(Φ:Nat->List Val->M Val)(n:Nat)(body:gc)(vs:List Val):M Val :=
 bnd (gf Φ body (vs.map some++replicate (n-vs.length) none)) λf=>match f with
  |.nx _=>ret .non
  |.rt v=>ret v
  |_=>aN none
theorem iz{b:Bool}(ho:o=.lt\/o=.le\/o=.gt\/o=.ge)(e:cop h o v w=some b):∃i j,v=.int i/\w=.int j:=by
 cases v with
 |int i=>
  cases w with
  |int j=>exact⟨i,j,rfl,rfl⟩
  |_=>rcases ho with rfl|rfl|rfl|rfl<;>cases e
 |_=>rcases ho with rfl|rfl|rfl|rfl<;>cases e
structure Bd where
 K:Frag
 cl:Nat->Addr
def Eo(K:Frag)(H:Hp)(a:Addr)(xs:List V):Prop :=
 (∃o,H a=some (.oz o (.lst xs)))\/fJ K (λ_=>none) a xs
theorem Eo.sq{K:Frag}{H:Hp}{a:Addr}{xs:List V}(h:Eo K H a xs):fJ K H a xs:=by
 rcases h with ⟨o,h⟩|(h|⟨o,h⟩)|h
 ·exact .inl (.inr ⟨o,h⟩)
 ·cases h
 ·cases h
 ·exact .inr h
mutual
noncomputable def VR(K:Frag)(ρ:List Addr)(H:Hp):Val->V->Prop
 |.non,x=>x=.non
 |.bl b,x=>x=.bl b
 |.int i,x=>x=.int i
 |.str s,x=>x=.str s
 |.tup vs,x=>∃a xs,x=.ref a/\gQ K H a xs/\aq K ρ H vs xs
 |.rl vs,x=>∃a xs,x=.ref a/\Eo K H a xs/\aq K ρ H vs xs
 |.dc _ _,_=>False
 |.ob _ _ _,_=>False
 |.ref i,x=>∃a,x=.ref a /\ ρ[i]?=some a
noncomputable def aq(K:Frag)(ρ:List Addr)(H:Hp):List Val->List V->Prop
 |[],xs=>xs=[]
 |v::vs,xs=>∃x r,xs=x::r/\VR K ρ H v x/\aq K ρ H vs r
end
def fU(K:Frag)(ρ:List Addr)(H:Hp):List (Key×Val)->List (Key×V)->Prop
 |[],xs=>xs=[]
 |(k,v)::vs,xs=>∃x r,xs=(k,x)::r/\VR K ρ H v x/\fU K ρ H vs r
def GD(K:Frag)(ρ:List Addr)(H:Hp):List (Str×Val)->List (Str×V)->Prop
 |[],xs=>xs=[]
 |(k,v)::vs,xs=>∃x r,xs=(k,x)::r/\VR K ρ H v x/\GD K ρ H vs r
def OR(B:Bd)(ρ:List Addr)(H:Hp)(a:Addr):Ob->Prop
 |.lst xs=>∃ys,H a=some (.lst ys)/\aq B.K ρ H xs ys
 |.dct kvs=>∃ks,H a=some (.dK ks)/\fU B.K ρ H kvs ks
 |.ins c fs=>∃dx gs,H a=some (.ins (B.cl c) dx gs)/\GD B.K ρ H fs gs
structure HR (B:Bd) (ρ:List Addr) (h:Hs) (H:Hp):Prop where
 len:ρ.length=h.length
 nd:ρ.Nodup
 ob:∀(i:Nat) (o:Ob) (a:Addr),h[i]?=some o -> ρ[i]?=some a->OR B ρ H a o
def Mu:HO->Bool
 |.lst _=>true|.dK _=>true|.ins ..=>true
 |_=>false
structure Gw (ρ:List Addr) (H:Hp) (ρ':List Addr) (H':Hp):Prop where
 pre:ρ <+: ρ'
 firm:∀a o,H a=some o->Mu o=false->H' a=some o
structure Gr (ρ:List Addr) (H:Hp) (ρ':List Addr) (H':Hp):Prop where
 pre:ρ <+: ρ'
 keep:∀a o,H a=some o->a ∉ ρ -> H' a=some o
 firm:∀a o,H a=some o->Mu o=false->H' a=some o
 fresh:∀a,a ∈ ρ'->a ∉ ρ -> H a=none
section
variable {K:Frag} {B:Bd} {ρ ρ' ρ1 ρ2:List Addr} {H H' H1 H2:Hp} {h h':Hs}
theorem Gr.w(g:Gr ρ H ρ' H'):Gw ρ H ρ' H':=⟨g.pre,g.firm⟩
theorem Gr.refl:Gr ρ H ρ H:=⟨Uc _,λ_ _ e _=>e,λ_ _ e _=>e,λ_ e n=>absurd e n⟩
theorem Gr.trans(g:Gr ρ H ρ1 H1)(k:Gr ρ1 H1 ρ2 H2):Gr ρ H ρ2 H2 where
 pre:=g.pre.trans k.pre
 keep a o e n:=k.keep a o (g.keep a o e n) λz=>by rw[g.fresh a z n]at e;cases e
 firm a o e n:=k.firm a o (g.firm a o e n) n
 fresh a z n:=by
  by_cases hb:a ∈ ρ1
  ·exact g.fresh a hb n
  ·cases e:H a with
   |none=>rfl
   |some o=>have e1:=g.keep a o e n;rw[k.fresh a z hb]at e1;cases e1
theorem qk{i:Nat}(p:ρ <+: ρ')(e:ρ[i]?=some a):ρ'[i]?=some a:=by
 obtain⟨t,rfl⟩:=p;have hi:i < ρ.length:=(TJ.mp e).1;rw[Ua hi];exact e
theorem Gw.NC(g:Gw ρ H ρ' H')(e:gQ K H a xs):gQ K H' a xs:=by
 rcases e with (e|⟨o,e⟩)|e
 ·exact .inl (.inl (g.firm _ _ e rfl))
 ·exact .inl (.inr ⟨o,g.firm _ _ e rfl⟩)
 ·exact .inr e
theorem Gw.GF(g:Gw ρ H ρ' H')(e:Eo K H a xs):Eo K H' a xs:=by
 rcases e with ⟨o,e⟩|e
 ·exact .inl ⟨o,g.firm _ _ e rfl⟩
 ·exact .inr e
mutual
theorem VR.jd(g:Gw ρ H ρ' H'):∀(v:Val) (x:V),VR K ρ H v x->VR K ρ' H' v x
 |.non,x,e=>by rw[VR]at e |-;exact e
 |.bl b,x,e=>by rw[VR]at e |-;exact e
 |.int b,x,e=>by rw[VR]at e |-;exact e
 |.str b,x,e=>by rw[VR]at e |-;exact e
 | .tup vs,x,e=>by
  rw[VR]at e |-;obtain⟨a,xs,rfl,q1,q2⟩:=e;exact⟨a,xs,rfl,g.NC q1,aq.jd g vs xs q2⟩
 | .rl vs,x,e=>by
  rw[VR]at e |-;obtain⟨a,xs,rfl,q1,q2⟩:=e;exact⟨a,xs,rfl,g.GF q1,aq.jd g vs xs q2⟩
 |.dc _ _,x,e=>by rw[VR]at e;exact e.elim
 |.ob _ _ _,x,e=>by rw[VR]at e;exact e.elim
 | .ref i,x,e=>by
  rw[VR]at e |-;obtain⟨a,rfl,q⟩:=e;exact⟨a,rfl,qk g.pre q⟩
theorem aq.jd(g:Gw ρ H ρ' H'):∀(vs:List Val) (xs:List V),aq K ρ H vs xs->aq K ρ' H' vs xs
 |[],xs,e=>by rw[aq]at e |-;exact e
 | v::vs,xs,e=>by
  rw[aq]at e |-;obtain⟨x,r,rfl,q1,q2⟩:=e;exact⟨x,r,rfl,VR.jd g v x q1,aq.jd g vs r q2⟩
end
theorem fU.jd(g:Gw ρ H ρ' H'):∀(vs:List (Key×Val)) (xs:List (Key×V)),fU K ρ H vs xs->fU K ρ' H' vs xs
 |[],xs,e=>e
 |(k,v)::vs,xs,⟨x,r,e,q1,q2⟩=>⟨x,r,e,VR.jd g v x q1,fU.jd g vs r q2⟩
theorem GD.jd(g:Gw ρ H ρ' H'):∀(vs:List (Str×Val)) (xs:List (Str×V)),GD K ρ H vs xs->GD K ρ' H' vs xs
 |[],xs,e=>e
 |(k,v)::vs,xs,⟨x,r,e,q1,q2⟩=>⟨x,r,e,VR.jd g v x q1,GD.jd g vs r q2⟩
theorem VR.up(g:Gr ρ H ρ' H')(v:Val)(x:V)(e:VR K ρ H v x):VR K ρ' H' v x:=VR.jd g.w v x e
theorem aq.up(g:Gr ρ H ρ' H')(v:List Val)(x:List V)(e:aq K ρ H v x):aq K ρ' H' v x:=aq.jd g.w v x e
theorem fU.up(g:Gr ρ H ρ' H')(v:List (Key×Val))(x:List (Key×V))(e:fU K ρ H v x):fU K ρ' H' v x:=fU.jd g.w v x e
theorem aq.nil:aq K ρ H [] []:=by rw[aq]
theorem aq.cons{v:Val}{vs:List Val}{x:V}{xs:List V}(a:VR K ρ H v x)(b:aq K ρ H vs xs):aq K ρ H (v::vs) (x::xs):=by rw[aq];exact⟨x,xs,rfl,a,b⟩
theorem aq.length:∀{vs:List Val} {xs:List V},aq K ρ H vs xs->vs.length=xs.length
 |[],xs,e=>by rw[aq]at e;subst e;rfl
 |v::vs,xs,e=>by rw[aq]at e;obtain⟨x,r,rfl,_,q⟩:=e;simp[aq.length q]
theorem aq.get:∀{vs:List Val} {xs:List V} {i:Nat} {v:Val},aq K ρ H vs xs->vs[i]?=some v->∃x,xs[i]?=some x/\VR K ρ H v x
 |[],xs,i,v,e,q=>by simp at q
 | w::vs,xs,0,v,e,q=>by
  rw[aq]at e;obtain⟨x,r,rfl,a,_⟩:=e;simp at q;subst q;exact⟨x,rfl,a⟩
 | w::vs,xs,i+1,v,e,q=>by
  rw[aq]at e;obtain⟨x,r,rfl,_,b⟩:=e;simp at q;obtain⟨y,q1,q2⟩:=aq.get b q;exact⟨y,by simpa using q1,q2⟩
theorem aq.append:∀{vs ws:List Val} {xs ys:List V},aq K ρ H vs xs->aq K ρ H ws ys->aq K ρ H (vs++ws) (xs++ys)
 |[],ws,xs,ys,e,q=>by rw[aq]at e;subst e;exact q
 | w::vs,ws,xs,ys,e,q=>by
  rw[aq]at e;obtain⟨x,r,rfl,a,b⟩:=e;exact aq.cons a (aq.append b q)
theorem aq.take:∀{vs:List Val} {xs:List V} (n:Nat),aq K ρ H vs xs->aq K ρ H (vs.take n) (xs.take n)
 |_,_,0,_=>by simp;exact aq.nil
 |[],xs,n+1,e=>by rw[aq]at e;subst e;simp;exact aq.nil
 | w::vs,xs,n+1,e=>by
  rw[aq]at e;obtain⟨x,r,rfl,a,b⟩:=e;exact aq.cons a (aq.take n b)
theorem aq.drop:∀{vs:List Val} {xs:List V} (n:Nat),aq K ρ H vs xs->aq K ρ H (vs.drop n) (xs.drop n)
 |_,_,0,e=>by simpa using e
 |[],xs,n+1,e=>by rw[aq]at e;subst e;simp;exact aq.nil
 | w::vs,xs,n+1,e=>by
  rw[aq]at e;obtain⟨x,r,rfl,a,b⟩:=e;exact aq.drop n b
theorem aq.cut(lo hi:Option Int)(e:aq K ρ H vs xs):aq K ρ H (eE vs lo hi) (qT xs lo hi):=by
 unfold eE qT;rw[e.length];exact aq.take _ (aq.drop _ e)
theorem aq.gY{i:Int}(e:aq K ρ H vs xs)(q:L2.gY vs i=some v):∃x,L2.gY xs i=some x/\VR K ρ H v x:=by
 unfold L2.gY at q |-;rw[e.length]at q;cases hi:L2.xB xs.length i with
 |none=>rw[hi]at q;cases q
 |some n=>rw[hi]at q;exact aq.get e q
theorem aq.set:∀{vs:List Val} {xs:List V} (n:Nat) {v:Val} {x:V},aq K ρ H vs xs->VR K ρ H v x->aq K ρ H (vs.set n v) (xs.set n x)
 |[],xs,n,v,x,e,q=>by rw[aq]at e;subst e;simp;exact aq.nil
 | w::vs,xs,0,v,x,e,q=>by
  rw[aq]at e;obtain⟨y,r,rfl,a,b⟩:=e;exact aq.cons q b
 | w::vs,xs,n+1,v,x,e,q=>by
  rw[aq]at e;obtain⟨y,r,rfl,a,b⟩:=e;exact aq.cons a (aq.set n b q)
theorem aq.one(e:aq K ρ H [v] xs):∃x,xs=[x]/\VR K ρ H v x:=by
 rw[aq]at e;obtain⟨x,r,rfl,a,b⟩:=e;rw[aq]at b;subst b;exact⟨x,rfl,a⟩
theorem aq.two(e:aq K ρ H [v,w] xs):∃x y,xs=[x,y]/\VR K ρ H v x/\VR K ρ H w y:=by
 rw[aq]at e;obtain⟨x,r,rfl,a,b⟩:=e;obtain⟨y,rfl,c⟩:=aq.one b;exact⟨x,y,rfl,a,c⟩
theorem VR.int{i:Int}:VR K ρ H (.int i) (.int i):=by rw[VR]
theorem VR.str:VR K ρ H (.str i) (.str i):=by rw[VR]
theorem VR.bl{i:Bool}:VR K ρ H (.bl i) (.bl i):=by rw[VR]
theorem VR.non:VR K ρ H .non .non:=by rw[VR]
theorem VR.tup(q:gQ K H a xs)(e:aq K ρ H vs xs):VR K ρ H (.tup vs) (.ref a):=by rw[VR];exact⟨a,xs,rfl,q,e⟩
theorem VR.ref{i:Nat}(q:ρ[i]?=some a):VR K ρ H (.ref i) (.ref a):=by rw[VR];exact⟨a,rfl,q⟩
theorem aq.ints:∀{ns:List Int} {xs:List V},aq K ρ H (ns.map Val.int) xs↔xs=ns.map V.int
 |[],xs=>by simp[aq]
 | n::ns,xs=>by
  simp only[map_cons];rw[aq];constructor
  ·rintro⟨x,r,rfl,a,b⟩;rw[VR]at a;subst a;rw[(aq.ints (ns:=ns)).mp b]
  ·rintro rfl;exact⟨_,_,rfl,VR.int,(aq.ints (ns:=ns)).mpr rfl⟩
theorem aq.bools:∀{ns:List Bool} {xs:List V},aq K ρ H (ns.map Val.bl) xs↔xs=ns.map V.bl
 |[],xs=>by simp[aq]
 | n::ns,xs=>by
  simp only[map_cons];rw[aq];constructor
  ·rintro⟨x,r,rfl,a,b⟩;rw[VR]at a;subst a;rw[(aq.bools (ns:=ns)).mp b]
  ·rintro rfl;exact⟨_,_,rfl,VR.bl,(aq.bools (ns:=ns)).mpr rfl⟩
theorem aq.tups:∀{lY:List (List Int)} {xs:List V},aq K ρ H (lY.map ju) xs->∃rs:List (Addr×List Int),xs=rs.map (λr=>V.ref r.1)/\lY=rs.map (·.2)/\∀r∈rs,gQ K H r.1 (r.2.map V.int)
 |[],xs,e=>by simp only[map_nil]at e;rw[aq]at e;exact⟨[],e,rfl,λ_ z=>nomatch z⟩
 | ks::lY,xs,e=>by
  simp only[map_cons]at e;rw[aq]at e;obtain⟨x,r,rfl,a,b⟩:=e;obtain⟨rs,e1,e2,e3⟩:=aq.tups b;unfold ju at a;rw[VR]at a;obtain⟨p,ys,rfl,g1,g2⟩:=a;rw[aq.ints.mp g2]at g1;refine⟨(p,ks)::rs,by rw[e1];rfl,by rw[e2];rfl,λr hr=>?_⟩
  rcases T8.mp hr with z|z
  ·rw[z];exact g1
  ·exact e3 r z
theorem aq.vH:∀{rs:List (Addr×List Int)},(∀r∈rs,gQ K H r.1 (r.2.map V.int))->aq K ρ H ((rs.map (·.2)).map ju) (rs.map λr=>V.ref r.1)
 |[],_=>aq.nil
 |r::rs,e=>aq.cons (VR.tup (e r TU) (aq.ints.mpr rfl)) (aq.vH λq hq=>e q (TM _ hq))
theorem OR.mu(q:OR B ρ H a o):∃u,H a=some u/\Mu u=true:=by
 cases o with
 |lst xs=>obtain⟨ys,e,_⟩:=q;exact⟨_,e,rfl⟩
 |dct xs=>obtain⟨ys,e,_⟩:=q;exact⟨_,e,rfl⟩
 |ins c fs=>obtain⟨dx,ys,e,_⟩:=q;exact⟨_,e,rfl⟩
theorem HR.mu(r:HR B ρ h H)(e:a ∈ ρ):∃u,H a=some u/\Mu u=true:=by
 obtain⟨i,hi,rfl⟩:=Wa e;have hi':i<h.length:=by rw[<-r.len];exact hi
 exact(r.ob i _ _ (Ui hi') (Ui hi)).mu
theorem HR.out(r:HR B ρ h H)(e:H p=none):p ∉ ρ:=λz=>by
 obtain⟨u,q,_⟩:=r.mu z;rw[e]at q;cases q
theorem OR.jd(g:Gw ρ H ρ' H')(e:H' a=H a)(q:OR B ρ H a o):OR B ρ' H' a o:=by
 cases o with
 |lst xs=>obtain⟨ys,e1,e2⟩:=q;exact⟨ys,e.trans e1,aq.jd g _ _ e2⟩
 |dct xs=>obtain⟨ys,e1,e2⟩:=q;exact⟨ys,e.trans e1,fU.jd g _ _ e2⟩
 |ins c fs=>obtain⟨dx,ys,e1,e2⟩:=q;exact⟨dx,ys,e.trans e1,GD.jd g _ _ e2⟩
theorem OR.up(g:Gr ρ H ρ' H')(e:H' a=H a)(q:OR B ρ H a o):OR B ρ' H' a o:=OR.jd g.w e q
theorem Gr.side(e:H p=none):Gr ρ H ρ (upd H p o) where
 pre:=Uc _
 keep a u q _:=by rw[aj (ay q e)];exact q
 firm a u q _:=by rw[aj (ay q e)];exact q
 fresh a z n:=absurd z n
theorem HR.side(r:HR B ρ h H)(e:H p=none):HR B ρ h (upd H p o) where
 len:=r.len
 nd:=r.nd
 ob i u a q1 q2:=by refine OR.up (Gr.side e) ?_ (r.ob i u a q1 q2);refine aj λz=>?_;subst z;exact r.out e (Ub q2)
theorem Gw.other(e:H p=some u)(hm:Mu u=true):Gw ρ H ρ (upd H p o) where
 pre:=Uc _
 firm a w q n:=by
  have:a≠p:=λz=>by subst z;rw[e]at q;cases q;rw[hm]at n;cases n
  rw[aj this];exact q
theorem HR.other(r:HR B ρ h H)(hp:p ∉ ρ)(e:H p=some u)(hm:Mu u=true):HR B ρ h (upd H p o) where
 len:=r.len
 nd:=r.nd
 ob i w a q1 q2:=OR.jd (Gw.other e hm) (aj λz=>by subst z;exact hp (Ub q2)) (r.ob i w a q1 q2)
theorem Gr.new(e:H p=none):Gr ρ H (ρ ++ [p]) (upd H p o) where
 pre:=UX _ _
 keep a u q _:=by rw[aj (ay q e)];exact q
 firm a u q _:=by rw[aj (ay q e)];exact q
 fresh a z n:=by
  rcases U0.mp z with z|z
  ·exact absurd z n
  ·rw[Ue.mp z];exact e
theorem HR.new(r:HR B ρ h H)(e:H p=none)(q:OR B (ρ ++ [p]) (upd H p o) p u):HR B (ρ ++ [p]) (h++[u]) (upd H p o) where
 len:=by simp[r.len]
 nd:=by rw[Wi];refine⟨r.nd,by simp,λa ha b hb=>?_⟩;rw[Ue.mp hb];rintro rfl;exact r.out e ha
 ob i v a q1 q2:=by
  by_cases hi:i<h.length
  ·rw[Ua hi]at q1;rw[Ua (by rw[r.len];exact hi)]at q2;refine OR.up (Gr.new e) (aj λz=>?_) (r.ob i v a q1 q2);subst z;exact r.out e (Ub q2)
  ·rw[Uk (by omega)]at q1
   rw[Uk (by rw[r.len];omega)]at q2;have hi0:i-h.length=0:=by have:=(TJ.mp q1).1;simp at this;omega
   rw[hi0]at q1;rw[r.len,hi0]at q2;simp at q1 q2;subst q1;subst q2;exact q
theorem vI(r:HR B ρ h H):VR K (ρ ++ [p]) H' (.ref h.length) (.ref p):=VR.ref (by rw[<-r.len];simp)
theorem Ep{α:Type}:∀{l:List α} {i j:Nat} {a:α},l.Nodup->l[i]?=some a->l[j]?=some a->i=j
 |[],i,j,a,_,e,_=>by simp at e
 |b::l,0,0,a,_,_,_=>rfl
 | b::l,0,j+1,a,n,e,f=>by
  simp at e f;subst e;exact absurd (Ub f) (UD.mp n).1
 | b::l,i+1,0,a,n,e,f=>by
  simp at e f;subst f;exact absurd (Ub e) (UD.mp n).1
 | b::l,i+1,j+1,a,n,e,f=>by
  simp at e f;rw[Ep (UD.mp n).2 e f]
theorem Gr.put(hp:p ∈ ρ)(e:H p=some u)(hm:Mu u=true):Gr ρ H ρ (upd H p o) where
 pre:=Uc _
 keep a w q n:=by rw[aj λz=>n (by rw[z];exact hp)];exact q
 firm a w q n:=by
  have:a≠p:=λz=>by subst z;rw[e]at q;cases q;rw[hm]at n;cases n
  rw[aj this];exact q
 fresh a z n:=absurd z n
theorem HR.put{i:Nat}(r:HR B ρ h H)(hi:ρ[i]?=some p)(e:h[i]?=some w)(q:OR B ρ (upd H p o) p u):HR B ρ (h.set i u) (upd H p o) where
 len:=by simp[r.len]
 nd:=r.nd
 ob j v a q1 q2:=by
  obtain⟨z,k1,k2⟩:=(r.ob i w p e hi).mu
  by_cases hj:j=i
  ·subst hj;rw[hi]at q2;cases q2;have hlt:j<h.length:=(TJ.mp e).1;rw[T5 hlt]at q1;cases q1;exact q
  ·rw[TN (λz=>hj z.symm)]at q1;refine OR.up (Gr.put (Ub hi) k1 k2) (aj λz=>?_) (r.ob j v a q1 q2);subst z;exact hj (Ep r.nd q2 hi)
theorem dz(r:HR B ρ h H)(q:VR B.K ρ H v x)(e:az h v=some xs):∃a ys,x=.ref a/\fJ B.K H a ys/\aq B.K ρ H xs ys:=by
 cases v with
 |rl vs=>simp only[az]at e;cases e;rw[VR]at q;obtain⟨a,ys,rfl,k1,k2⟩:=q;exact⟨a,ys,rfl,k1.sq,k2⟩
 |ref i=>
  simp only[az]at e;split at e
  ·rename_i zs e1;cases e;rw[VR]at q;obtain⟨a,rfl,k1⟩:=q;obtain⟨ys,k2,k3⟩:=r.ob i _ a e1 k1;exact⟨a,ys,rfl,.inl (.inl k2),k3⟩
  ·cases e
 |_=>cases e
theorem iO{i:Nat}(r:HR B ρ h H)(q:VR B.K ρ H (.ref i) x)(e:h[i]?=some (.lst xs)):∃a ys,x=.ref a /\ ρ[i]?=some a/\H a=some (.lst ys)/\aq B.K ρ H xs ys:=by
 rw[VR]at q;obtain⟨a,rfl,k1⟩:=q;obtain⟨ys,k2,k3⟩:=r.ob i _ a e k1;exact⟨a,ys,rfl,k1,k2,k3⟩
theorem uG(r:HR B ρ h H)(q:VR B.K ρ H v x)(e:cg h v=some xs):∃a ys,x=.ref a/\(fJ B.K H a ys\/gQ B.K H a ys)/\aq B.K ρ H xs ys:=by
 cases v with
 |tup vs=>simp only[cg]at e;cases e;rw[VR]at q;obtain⟨a,ys,rfl,k1,k2⟩:=q;exact⟨a,ys,rfl,.inr k1,k2⟩
 |rl vs=>obtain⟨a,ys,e1,k1,k2⟩:=dz r q (show az h (.rl vs)=some xs from e);exact⟨a,ys,e1,.inl k1,k2⟩
 |ref vs=>obtain⟨a,ys,e1,k1,k2⟩:=dz r q (show az h (.ref vs)=some xs from e);exact⟨a,ys,e1,.inl k1,k2⟩
 |_=>cases e
theorem kM(r:HR B ρ h H):∀(n:Nat) (v:Val) (x:V) (d:PyData),VR B.K ρ H v x->toD n h v=some d->Den B.K H d x/\d.canLay0=true/\d.depth<=n:=by
 intro n
 induction n with
 |zero=>intro v x d _ e;simp only[toD]at e;cases e
 |succ n ih=>
  have all:∀(vs:List Val) (xs:List V) (ds:List PyData),aq B.K ρ H vs xs->bM (toD n h) vs=some ds->cN B.K H ds xs/\PyData.canLayAll0 ds=true/\PyData.depthAll ds<=n:=by
   intro vs
   induction vs with
   |nil=>intro xs ds q e;simp only[bM]at e;cases e;rw[aq]at q;subst q;exact⟨cN.nil,rfl,by simp[PyData.depthAll]⟩
   |cons v vs RK=>intro xs ds q e;simp only[bM]at e;obtain⟨d,e1,e⟩:=Tz.mp e;obtain⟨ds',e2,e⟩:=Tz.mp e;cases e;rw[aq]at q;obtain⟨x,r,rfl,q1,q2⟩:=q;obtain⟨a1,a2,a3⟩:=ih v x d q1 e1;obtain⟨b1,b2,b3⟩:=RK r ds' q2 e2;refine⟨cN.cons a1 b1,by simp[PyData.canLayAll0,a2,b2],?_⟩;simp only[PyData.depthAll];omega
  intro v x d q e;cases v with
  |non=>simp only[toD]at e;cases e;rw[VR]at q;subst q;exact⟨Den.none,rfl,by simp[PyData.depth]⟩
  |bl b=>simp only[toD]at e;cases e;rw[VR]at q;subst q;exact⟨Den.bool,rfl,by simp[PyData.depth]⟩
  |int b=>simp only[toD]at e;cases e;rw[VR]at q;subst q;exact⟨Den.int,rfl,by simp[PyData.depth]⟩
  |str b=>
   simp only[toD]at e;split at e
   ·rename_i hs;cases e;rw[VR]at q;subst q;exact⟨Den.str,by simp[PyData.canLay0,hs],by simp[PyData.depth]⟩
   ·cases e
  |tup vs=>simp only[toD]at e;obtain⟨ds,e1,e⟩:=Tz.mp e;cases e;rw[VR]at q;obtain⟨a,xs,rfl,q1,q2⟩:=q;obtain⟨b1,b2,b3⟩:=all vs xs ds q2 e1;exact⟨Den.tuple q1 b1,by simp[PyData.canLay0,b2],by simp only[PyData.depth];omega⟩
  |rl vs=>simp only[toD]at e;obtain⟨ds,e1,e⟩:=Tz.mp e;cases e;rw[VR]at q;obtain⟨a,xs,rfl,q1,q2⟩:=q;obtain⟨b1,b2,b3⟩:=all vs xs ds q2 e1;exact⟨Den.list q1.sq b1,by simp[PyData.canLay0,b2],by simp only[PyData.depth];omega⟩
  |dc _ _=>rw[VR]at q;exact q.elim
  |ob _ _ _=>rw[VR]at q;exact q.elim
  |ref i=>simp only[toD]at e;obtain⟨vs,e0,e⟩:=Tz.mp e;obtain⟨ds,e1,e⟩:=Tz.mp e;cases e;obtain⟨a,xs,rfl,q1,q2⟩:=dz r q e0;obtain⟨b1,b2,b3⟩:=all vs xs ds q2 e1;exact⟨Den.list q1 b1,by simp[PyData.canLay0,b2],by simp only[PyData.depth];omega⟩
end
theorem kN(x:List Int):∀l,(qh x l).Perm (x::l)
 |[]=>.refl _
 | y::r=>by
  unfold qh;split
  ·exact((kN x r).cons y).trans (.swap _ _ _)
  ·exact .refl _
theorem mY:∀l,(jO l).Perm l
 |[]=>.refl _
 |x::r=>(kN x _).trans ((mY r).cons x)
theorem rZ{a b c:List Int}(h1:HT.lexLt b a=false)(h2:HT.lexLt c b=false):HT.lexLt c a=false:=by
 cases e:HT.lexLt c a with
 |false=>rfl
 |true=>
  rcases jB.oS c b a e with z|z
  ·rw[h2]at z;cases z
  ·rw[h1]at z;cases z
theorem r6{a b:List Int}(h:HT.lexLt a b=true):HT.lexLt b a=false:=by
 cases e:HT.lexLt b a with
 |false=>rfl
 |true=>have:=jB.fM _ _ _ h e;rw[jB.gH]at this;cases this
theorem vJ(x:List Int):∀l:List (List Int),l.Pairwise (λa b=>HT.lexLt b a=false)->(qh x l).Pairwise (λa b=>HT.lexLt b a=false)
 |[],_=>by simp[qh]
 | y::r,h=>by
  obtain⟨h1,h2⟩:=UK.mp h;unfold qh
  split
  ·rename_i hlt
   refine UK.mpr ⟨λz hz=>?_,vJ x r h2⟩
   rcases T8.mp ((kN x r).mem_iff.mp hz) with rfl|hz
   ·exact r6 hlt
   ·exact h1 z hz
  ·rename_i hlt
   refine UK.mpr ⟨λz hz=>?_,h⟩;have hxy:HT.lexLt y x=false:=by simpa using hlt
   rcases T8.mp hz with rfl|hz
   ·exact hxy
   ·exact rZ hxy (h1 z hz)
theorem r8:∀l,(jO l).Pairwise (λa b=>HT.lexLt b a=false)
 |[]=>.nil
 |x::r=>vJ x _ (r8 r)
theorem zY(hp:l.Perm lY)(hs:l.Pairwise (λa b=>HT.lexLt b a=false)):l=jO lY :=
 List.Perm.eq_of_pairwise (λa b _ _ h1 h2=>jB.fL a b h2 h1) hs (r8 lY) (hp.trans (mY lY).symm)
theorem yd{ns:List Int}{m:Int}(h:m∈ns)(h2:∀a∈ns,m<=a):qi ns=some (.int m):=by
 cases ns with
 |nil=>cases h
 |cons a r=>
  have key:∀(r:List Int) (a:Int),(r.foldl min a)∈a::r/\∀b∈a::r,r.foldl min a<=b:=by
   intro r
   induction r with
   |nil=>intro a;simp
   |cons c r ih=>
    intro a;obtain⟨q1,q2⟩:=ih (min a c);refine⟨?_,λb hb=>?_⟩
    ·show List.foldl min (min a c) r∈_
     rcases T8.mp q1 with z|z
     ·rw[z]
      rcases Int.le_total a c with hc|hc
      ·rw[Int.min_eq_left hc];exact TU
      ·rw[Int.min_eq_right hc];exact TM _ TU
     ·exact TM _ (TM _ z)
    ·show List.foldl min (min a c) r<=b
     have q3:=q2 (min a c) TU
     rcases T8.mp hb with z|z
     ·subst z;omega
     ·rcases T8.mp z with z|z
      ·subst z;omega
      ·exact q2 b (TM _ z)
  obtain⟨q1,q2⟩:=key r a;show some (Val.int (r.foldl min a))=_;rw[Int.le_antisymm (q2 m h) (h2 _ q1)]
theorem ye{ns:List Int}{m:Int}(h:m∈ns)(h2:∀a∈ns,a<=m):qj ns=some (.int m):=by
 cases ns with
 |nil=>cases h
 |cons a r=>
  have key:∀(r:List Int) (a:Int),(r.foldl max a)∈a::r/\∀b∈a::r,b<=r.foldl max a:=by
   intro r
   induction r with
   |nil=>intro a;simp
   |cons c r ih=>
    intro a;obtain⟨q1,q2⟩:=ih (max a c);refine⟨?_,λb hb=>?_⟩
    ·show List.foldl max (max a c) r∈_
     rcases T8.mp q1 with z|z
     ·rw[z]
      rcases Int.le_total a c with hc|hc
      ·rw[Int.max_eq_right hc];exact TM _ TU
      ·rw[Int.max_eq_left hc];exact TU
     ·exact TM _ (TM _ z)
    ·show b<=List.foldl max (max a c) r
     have q3:=q2 (max a c) TU
     rcases T8.mp hb with z|z
     ·subst z;omega
     ·rcases T8.mp z with z|z
      ·subst z;omega
      ·exact q2 b (TM _ z)
  obtain⟨q1,q2⟩:=key r a;show some (Val.int (r.foldl max a))=_;rw[Int.le_antisymm (h2 _ q1) (q2 m h)]
def Post(B:Bd)(EX:Nat->List V->Hp->Prop)(ρ:List Addr)(H:Hp){α:Type}(W:α -> Hs->List Addr->Hp->Prop):Out α -> Prop
 |.ok a h'=>∀ρ' H',Gr ρ H ρ' H'->HR B ρ' h' H'->W a h' ρ' H'
 |.exc c vs h'=>∀ρ' H' xs,Gr ρ H ρ' H'->HR B ρ' h' H'->aq B.K ρ' H' vs xs->EX c xs H'
 |.no=>False
def WV(K:Frag)(Q:VK):Val->Hs->List Addr->Hp->Prop:=λv _ ρ' H'=>∀x,VR K ρ' H' v x->Q x H'
section
variable {B:Bd} {EX:Nat->List V->Hp->Prop} {ρ ρ':List Addr} {H H':Hp} {α β:Type} {W:β -> Hs->List Addr->Hp->Prop} {h h':Hs} {Q:VK}
theorem Post.up(g:Gr ρ H ρ' H')(p:Post B EX ρ H W o):Post B EX ρ' H' W o:=by
 cases o with
 |ok a h'=>exact λρ2 H2 g2 r=>p ρ2 H2 (g.trans g2) r
 |exc c vs h'=>exact λρ2 H2 xs g2 r=>p ρ2 H2 xs (g.trans g2) r
 |no=>exact p
theorem aH{c:Bool}(p:Post B EX ρ H W (aF c m h)):c=true/\Post B EX ρ H W (m h):=by
 unfold aF at p;split at p
 ·rename_i e;exact⟨e,p⟩
 ·exact p.elim
theorem aB(p:Post B EX ρ H W (bnd (ask f) g h)):∃a,f h=some a/\Post B EX ρ H W (g a h):=by
 unfold bnd ask aN at p;cases e:f h with
 |none=>rw[e]at p;exact p.elim
 |some a=>rw[e]at p;exact⟨a,rfl,p⟩
theorem cH(r:HR B ρ h H)(p:Post B EX ρ H W (ask f h)):∃a,f h=some a/\W a h ρ H:=by
 unfold ask aN at p;cases e:f h with
 |none=>rw[e]at p;exact p.elim
 |some a=>rw[e]at p;exact⟨a,rfl,p ρ H Gr.refl r⟩
theorem bJ(p:Post B EX ρ H W (bnd (aN o) g h)):∃a,o=some a/\Post B EX ρ H W (g a h):=by
 unfold bnd aN at p;cases e:o with
 |none=>rw[e]at p;exact p.elim
 |some a=>rw[e]at p;exact⟨a,rfl,p⟩
theorem bQ(r:HR B ρ h H)(p:Post B EX ρ H W (aN o h)):∃a,o=some a/\W a h ρ H:=by
 unfold aN at p;cases e:o with
 |none=>rw[e]at p;exact p.elim
 |some a=>rw[e]at p;exact⟨a,rfl,p ρ H Gr.refl r⟩
theorem ai(r:HR B ρ h H)(p:Post B EX ρ H W (ret a h)):W a h ρ H:=p ρ H Gr.refl r
theorem r9(r:HR B ρ h H)(hp:H p=none)(q:OR B (ρ ++ [p]) (upd H p O) p o)(w:Post B EX ρ H (WV B.K Q) (new o h)):Q (.ref p) (upd H p O) :=
 w (ρ ++ [p]) (upd H p O) (Gr.new hp) (r.new hp q) _ (vI r)
theorem cJ(r:HR B ρ h H)(hp:H p=none)(q:aq B.K ρ H xs ys)(w:Post B EX ρ H (WV B.K Q) (new (.lst xs) h)):Q (.ref p) (upd H p (.lst ys)) :=
 r9 (o:=.lst xs) (O:=.lst ys) r hp ⟨ys,av,aq.up (Gr.new hp) _ _ q⟩ w
theorem mZ(r:HR B ρ h H)(hp:H p=none)(q:aq B.K ρ H xs ys)(w:Post B EX ρ H (WV B.K Q) (ret (Val.tup xs) h)):Q (.ref p) (upd H p (.tup ys)) :=
 w ρ (upd H p (.tup ys)) (Gr.side hp) (r.side hp) _ (VR.tup (gQ.of av) (aq.up (Gr.side hp) _ _ q))
theorem aA(p:Post B EX ρ H W (bnd m f h))(k:∀v h1 ρ1 x H1,Gr ρ H ρ1 H1->HR B ρ1 h1 H1->VR B.K ρ1 H1 v x->Post B EX ρ1 H1 W (f v h1)->Q x H1):Post B EX ρ H (WV B.K Q) (m h):=by
 unfold bnd at p;cases e:m h with
 |ok v h1=>rw[e]at p;exact λρ1 H1 g r x q=>k v h1 ρ1 x H1 g r q (Post.up g p)
 |exc c vs h1=>rw[e]at p;exact p
 |no=>rw[e]at p;exact p
theorem aW(p:Post B EX ρ H W (bnd m f h))(k:∀v h1 ρ1 H1,Gr ρ H ρ1 H1->HR B ρ1 h1 H1->Post B EX ρ1 H1 W (f v h1)->W' v h1 ρ1 H1):Post B EX ρ H W' (m h):=by
 unfold bnd at p;cases e:m h with
 |ok v h1=>rw[e]at p;exact λρ1 H1 g r=>k v h1 ρ1 H1 g r (Post.up g p)
 |exc c vs h1=>rw[e]at p;exact p
 |no=>rw[e]at p;exact p
end
theorem cK:∀{ds:List Val} {ns:List Int},aM ds=some ns->ds=ns.map .int
 |[],ns,e=>by simp only[aM,bM]at e;cases e;rfl
 | v::r,ns,e=>by
  simp only[aM,bM]at e;obtain⟨i,e1,e⟩:=Tz.mp e;obtain⟨is,e2,e⟩:=Tz.mp e;cases e;cases v<;>first|cases e1|skip
  rw[cK (show aM r=some is from e2)];rfl
theorem m5:∀{ds:List Val} {ns:List Bool},dw ds=some ns->ds=ns.map .bl
 |[],ns,e=>by simp only[dw,bM]at e;cases e;rfl
 | v::r,ns,e=>by
  simp only[dw,bM]at e;obtain⟨i,e1,e⟩:=Tz.mp e;obtain⟨is,e2,e⟩:=Tz.mp e;cases e;cases v<;>first|cases e1|skip
  rw[m5 (show dw r=some is from e2)];rfl
theorem pq:∀{ds:List Val} {lY:List (List Int)},jc ds=some lY->ds=lY.map ju/\∀ks∈lY,ks≠[]
 |[],ns,e=>by simp only[jc,bM]at e;cases e;exact⟨rfl,λ_ z=>nomatch z⟩
 | v::r,ns,e=>by
  simp only[jc,bM]at e;obtain⟨i,e1,e⟩:=Tz.mp e;obtain⟨is,e2,e⟩:=Tz.mp e;cases e;cases v<;>first|cases e1|skip
  rename_i vs;dsimp only at e1;split at e1
  ·cases e1
  ·rename_i hne
   obtain⟨q1,q2⟩:=pq (show jc r=some is from e2);have e3:=cK e1;subst e3;refine⟨by rw[q1];rfl,λks hk=>?_⟩
   rcases T8.mp hk with z|z
   ·subst z;intro z;subst z;exact hne rfl
   ·exact q2 ks z
section
variable {X:Cx} {cl:Nat->Addr} {EX:Nat->List V->Hp->Prop}
abbrev bd(X:Cx)(cl:Nat->Addr):Bd:=⟨X.K,cl⟩
theorem CF:kq X (binaryOp .Add) (λx y H Q=>∃a b xs ys,x=.ref a/\y=.ref b/\fJ X.K H a xs/\fJ X.K H b ys/\xs.length+ys.length<=sizeLine/\∀p,H p=none->Q (.ref p) (upd H p (.lst (xs++ys)))):=by
 intro pins s σ H x y v u Q I rx ry h;obtain⟨l,l',xs,ys,rfl,rfl,q1,q3,hl,q⟩:=h;cases rx;cases ry;obtain⟨its,r1,RM,z1⟩:=I.list q1;obtain⟨its',r2,RO,z2⟩:=I.list q3;have l1:=r1.length;have l2:=r2.length;obtain⟨⟨oc,od,Nx,osl⟩,n1,e1,e2,_,e4⟩:=RM;obtain⟨⟨Tp,od',RP,OY⟩,n2,f1,f2,_,f4⟩:=RO;cases e2;cases e4;cases f2;cases f4;refine concat_meets ⟨_,e1,rfl⟩ ⟨_,f1,rfl⟩ noFill_list_add seq_list_add PySem.F.slot_list_add PySem.F.entry_list_add (PySem.F.args_list_add_2 _ _) (list_addW l l' its.toArray its'.toArray n1 n2 od od' osl OY (by simp only[size_toArray];omega)) ⟨e1,f1,?_⟩;have ea:its.toArray++its'.toArray=(its++its').toArray:=by simp
 rw[ea];have hn:H s.heap.objs.size=none:=I.hok.fresh (TV _);exact⟨.ref s.heap.objs.size,_,I.Oo (t':=s.toks) (its:=its++its') (r1.append r2) (by rw[Ul];omega),rfl,q _ hn⟩
def zZ:El->Operator
 |.add=>.Add|.sub=>.Sub|.mul=>.Mult|.fdiv=>.FloorDiv|.mod=>.Mod|.pow=>.Pow
def vK:GB->CmpOp
 |.eq=>.Eq|.ne=>.NotEq|.lt=>.Lt|.le=>.LtE|.gt=>.Gt|.ge=>.GtE|.isn=>.Is|.ntn=>.IsNot|.GC=>.In|.nin=>.NotIn
def rB(B:Bd)(EX:Nat->List V->Hp->Prop)(o:El):R2:=λx y H Q=>∃ρ h v w,HR B ρ h H/\VR B.K ρ H v x/\VR B.K ρ H w y/\Post B EX ρ H (WV B.K Q) (JU o v w h)
theorem kL.log{j:Int}(h:kL j=true):0<j/\j.natAbs.log2<9000:=by
 have h:=Ud h;refine⟨h.1,(Nat.log2_lt (by omega)).mpr ?_⟩;have e:j.natAbs<2 ^ 200:=by
  have:(2:Nat) ^ 200=1606938044258990275541962092341162602522202993782792835301376:=by decide
  omega
 exact TY e (Nat.pow_le_pow_right (by decide) (by decide))
theorem z0:kq X (binaryOp .FloorDiv) (rI (λ_ j=>kL j=true) λi j=>.int (i/j)):=Nq λi j _ _ _ _ _ hc q=>by
 obtain⟨h1,h2⟩:=kL.log hc;exact PyProof.Rows.floordiv_int (by omega) (by rw[Int.fdiv_eq_ediv_of_nonneg i (by omega)];exact q) (.inl (PyProof.noPylong_of_log2 h2))
theorem m6(ho:o≠.add)(v w:Val)(h:Hs):(∃i j,v=.int i/\w=.int j)\/JU o v w h=.no:=by
 cases v with
 |int i=>
  cases w with
  |int j=>exact .inl ⟨i,j,rfl,rfl⟩
  |_=>right;cases o<;>first|rfl|exact absurd rfl ho
 |_=>right;cases o<;>first|rfl|exact absurd rfl ho
theorem GG(o:El):kq X (binaryOp (zZ o)) (rB (bd X cl) EX o):=by
 intro pins s σ H x y v' u' Q I rx ry hh;obtain⟨ρ,h,v,w,r,hv,hw,p⟩:=hh;have lists:Post (bd X cl) EX ρ H (WV X.K Q) (bnd (ask λh=>az h v) (λa=>bnd (ask λh=>az h w) λb=>aF (decide (a.length+b.length<=sizeLine)) (new (.lst (a++b)))) h)->wpAny (model X.prog X.w) X.A (binaryOp .Add v' u') (EP X pins σ Q) X.xe s:=by intro p;obtain⟨a,e1,p⟩:=aB p;obtain⟨b,e2,p⟩:=aB p;obtain⟨e3,p⟩:=aH p;have e3:=Ud e3;obtain⟨a1,Lg,rfl,k1,k2⟩:=dz r hv e1;obtain⟨a2,OZ,rfl,k3,k4⟩:=dz r hw e2;exact CF pins s σ H _ _ v' u' Q I rx ry ⟨a1,a2,Lg,OZ,rfl,rfl,k1,k3,by rw[<-k2.length,<-k4.length];exact e3,λq hq=>cJ r hq (aq.append k2 k4) p⟩
 cases o with
 |add=>
  cases v<;>cases w<;>first
   |exact lists p
   |skip
  ·rename_i a b;rw[VR]at hv hw;subst hv;subst hw;exact FF pins s σ H _ _ _ _ Q I rx ry ⟨a,b,rfl,rfl,ai r p _ VR.int⟩
  ·rename_i a b;rw[VR]at hv hw;subst hv;subst hw;obtain⟨e,p⟩:=aH p;exact t6 pins s σ H _ _ _ _ Q I rx ry ⟨a,b,rfl,rfl,Ud e,ai r p _ VR.str⟩
  ·rename_i a b
   rw[VR]at hv hw;obtain⟨a1,Lg,rfl,k1,k2⟩:=hv;obtain⟨a2,OZ,rfl,k3,k4⟩:=hw;obtain⟨e,p⟩:=aH p;simp only[and_eq_true,not_eq_true',decide_eq_true_eq]at e;refine B8 pins s σ H _ _ _ _ Q I rx ry ⟨a1,a2,Lg,OZ,rfl,rfl,k1,k3,?_,by rw[<-k2.length,<-k4.length];exact e.2,λz=>?_,λ_ q hq=>mZ r hq (aq.append k2 k4) p⟩
   ·intro z;subst z
    have:=k2.length;cases a with
    |nil=>simp at e
    |cons _ _=>simp at this
   ·subst z
    have hb:b=[]:=by cases b with|nil=>rfl|cons _ _=>have:=k4.length;simp at this
    subst hb;rw[US]at p;exact ai r p _ (VR.tup k1 k2)
 |sub=>
  rcases m6 (o:=.sub) (by intro z;cases z) v w h with ⟨i,j,rfl,rfl⟩|z
  case inr=>rw[z]at p;exact p.elim
  rw[VR]at hv hw;subst hv;subst hw;exact FG pins s σ H _ _ _ _ Q I rx ry ⟨_,_,rfl,rfl,ai r p _ VR.int⟩
 |mul=>
  rcases m6 (o:=.mul) (by intro z;cases z) v w h with ⟨i,j,rfl,rfl⟩|z
  case inr=>rw[z]at p;exact p.elim
  rw[VR]at hv hw;subst hv;subst hw;obtain⟨hm,p⟩:=aH p;refine FH pins s σ H _ _ _ _ Q I rx ry ⟨_,_,rfl,rfl,?_,ai r p _ VR.int⟩;unfold fN at hm;simp only[or_eq_true,and_eq_true,decide_eq_true_eq]at hm;exact hm
 |fdiv=>
  rcases m6 (o:=.fdiv) (by intro z;cases z) v w h with ⟨i,j,rfl,rfl⟩|z
  case inr=>rw[z]at p;exact p.elim
  rw[VR]at hv hw;subst hv;subst hw;obtain⟨hm,p⟩:=aH p;exact z0 pins s σ H _ _ _ _ Q I rx ry ⟨_,_,rfl,rfl,hm,ai r p _ VR.int⟩
 |mod=>
  rcases m6 (o:=.mod) (by intro z;cases z) v w h with ⟨i,j,rfl,rfl⟩|z
  case inr=>rw[z]at p;exact p.elim
  rw[VR]at hv hw;subst hv;subst hw;obtain⟨hm,p⟩:=aH p;exact FJ pins s σ H _ _ _ _ Q I rx ry ⟨_,_,rfl,rfl,Ud hm,ai r p _ VR.int⟩
 |pow=>
  rcases m6 (o:=.pow) (by intro z;cases z) v w h with ⟨i,j,rfl,rfl⟩|z
  case inr=>rw[z]at p;exact p.elim
  rw[VR]at hv hw;subst hv;subst hw;obtain⟨hm,p⟩:=aH p;have hm:=Ud hm;exact FL pins s σ H _ _ _ _ Q I rx ry ⟨_,_,rfl,rfl,hm,ai r p _ VR.int⟩
end
section
variable {X:Cx} {cl:Nat->Addr} {EX:Nat->List V->Hp->Prop}
theorem sd{b:Bool}(e:yK h v w=some b):∃d f,toD 16 h v=some d/\toD 16 h w=some f/\b=PyData.eqv d f:=by
 unfold yK at e;obtain⟨d,e1,e⟩:=Tz.mp e;obtain⟨f,e2,e⟩:=Tz.mp e;exact⟨d,f,e1,e2,(Uh e).symm⟩
theorem vL{K:Frag}{ρ:List Addr}{H:Hp}{v:Val}{x:V}(q:VR K ρ H v x):decide (x=.non)=mW v:=by
 cases v<;>rw[VR]at q
 ·subst q;rfl
 ·subst q;rfl
 ·subst q;rfl
 ·subst q;rfl
 ·obtain⟨a,xs,rfl,_⟩:=q;rfl
 ·obtain⟨a,xs,rfl,_⟩:=q;rfl
 ·exact q.elim
 ·exact q.elim
 ·obtain⟨a,rfl,_⟩:=q;rfl
theorem GH(hu:X.A.units+64<cLine)(neg:Bool):kq X (compareOp (if neg=true then .NotIn else .In)) (λx y H Q=>∃d f ds,Den X.K H d x/\Den X.K H f y/\d.canLay0=true/\f.canLay0=true/\d.depth<=16/\(f=.list ds\/f=.tuple ds)/\Q (.bl (if neg=true then !(ds.any λy=>PyData.eqv y d) else ds.any λy=>PyData.eqv y d)) H):=by
 intro pins s σ H x y v u Q I rx ry hh;obtain⟨d,f,ds,hd,hf,c1,c2,hz,e,q⟩:=hh;obtain⟨as,ra⟩:=Den.reads I d x v c1 hd rx;obtain⟨bs,rb⟩:=Den.reads I f y u c2 hf ry;have ND:X.A.units+1+min (PyData.depthAll ds) d.depth<cLine:=by have:=Nat.min_le_right (PyData.depthAll ds) d.depth;omega
 rcases e with rfl|rfl
 ·have c3:PyData.canLayAll0 ds=true:=by simpa [PyData.canLay0] using c2
  cases neg with
  |true=>exact SeqAt.notIn_list_reads rb ra c3 c1 ND ⟨.bl _,H,I,rfl,q⟩
  |false=>exact SeqAt.in_list_reads rb ra c3 c1 ND ⟨.bl _,H,I,rfl,q⟩
 ·have c3:PyData.canLayAll0 ds=true:=by simpa [PyData.canLay0] using c2
  cases neg with
  |true=>exact SeqAt.notIn_tuple_reads rb ra c3 c1 ND ⟨.bl _,H,I,rfl,q⟩
  |false=>exact SeqAt.in_tuple_reads rb ra c3 c1 ND ⟨.bl _,H,I,rfl,q⟩
theorem fU.val{K:Frag}{ρ:List Addr}{H:Hp}(k:Key):∀{kvs:List (Key×Val)} {ks:List (Key×V)},fU K ρ H kvs ks->(eZ kvs k=none->gE ks k=none)/\∀v,eZ kvs k=some v->∃x,gE ks k=some x/\VR K ρ H v x
 | [],ks,e=>by
  have:ks=[]:=e;subst this;exact⟨λ_=>rfl,λv z=>by simp[eZ]at z⟩
 | (k',v')::kvs,ks,⟨x,r,e,q1,q2⟩=>by
  subst e;obtain⟨a,b⟩:=fU.val k q2
  by_cases hk:k'=k
  ·subst hk;refine⟨λz=>by simp[eZ]at z,λv z=>⟨x,by simp[gE],?_⟩⟩;simp[eZ]at z;subst z;exact q1
  ·have e1:eZ ((k',v')::kvs) k=eZ kvs k:=by simp[eZ,hk]
   have e2:gE ((k',x)::r) k=gE r k:=by simp[gE,hk]
   rw[e1,e2];exact⟨a,b⟩
theorem fU.length{K:Frag}{ρ:List Addr}{H:Hp}:∀{kvs:List (Key×Val)} {ks:List (Key×V)},fU K ρ H kvs ks->kvs.length=ks.length
 |[],ks,e=>by have:ks=[]:=e;subst this;rfl
 |(k',v')::kvs,ks,⟨x,r,e,q1,q2⟩=>by subst e;simp[fU.length q2]
theorem fU.any{K:Frag}{ρ:List Addr}{H:Hp}(k:Key):∀{kvs:List (Key×Val)} {ks:List (Key×V)},fU K ρ H kvs ks->(kvs.any λkv=>decide (kv.1=k))=(ks.any λkv=>decide (kv.1=k))
 |[],ks,e=>by have:ks=[]:=e;subst this;rfl
 |(k',v')::kvs,ks,⟨x,r,e,q1,q2⟩=>by subst e;simp only[List.any_cons];rw[fU.any k q2]
theorem fU.repl{K:Frag}{ρ:List Addr}{H:Hp}(k:Key){v:Val}{y:V}(q:VR K ρ H v y):∀{kvs:List (Key×Val)} {ks:List (Key×V)},fU K ρ H kvs ks->fU K ρ H (kvs.map λkv=>if kv.1=k then (kv.1,v) else kv) (ks.map λkv=>if kv.1=k then (kv.1,y) else kv)
 |[],ks,e=>by have:ks=[]:=e;subst this;rfl
 | (k',v')::kvs,ks,⟨x,r,e,q1,q2⟩=>by
  subst e;simp only[map_cons]
  by_cases hk:k'=k
  ·rw[T4 hk,T4 hk];exact⟨y,_,rfl,q,fU.repl k q q2⟩
  ·rw[TX hk,TX hk];exact⟨x,_,rfl,q1,fU.repl k q q2⟩
theorem fU.snoc{K:Frag}{ρ:List Addr}{H:Hp}(k:Key){v:Val}{y:V}(q:VR K ρ H v y):∀{kvs:List (Key×Val)} {ks:List (Key×V)},fU K ρ H kvs ks->fU K ρ H (kvs++[(k,v)]) (ks++[(k,y)])
 |[],ks,e=>by have:ks=[]:=e;subst this;exact⟨y,[],rfl,q,rfl⟩
 |(k',v')::kvs,ks,⟨x,r,e,q1,q2⟩=>by subst e;exact⟨x,_,rfl,q1,fU.snoc k q q2⟩
theorem fU.put{K:Frag}{ρ:List Addr}{H:Hp}(k:Key){v:Val}{y:V}(q:VR K ρ H v y){kvs:List (Key×Val)}{ks:List (Key×V)}(e:fU K ρ H kvs ks):fU K ρ H (cF kvs k v) (putK ks k y):=by
 unfold cF putK;rw[fU.any k e]
 split
 ·exact fU.repl k q e
 ·exact fU.snoc k q e
theorem GI{K:Frag}{ρ:List Addr}{H:Hp}{v:Val}{x:V}{k:Key}(q:VR K ρ H v x)(e:keyOf v=some k):x=kV k:=by
 cases v<;>simp only[keyOf]at e<;>first|cases e|skip
 ·rw[VR]at q;exact q
 ·rw[VR]at q;exact q
theorem vM(hu:X.A.units+64<cLine):JS X (λx y H Q=>∃a v,x=.ref a/\pX H a y (some v)/\Q v H):=by
 intro value slice pins s σ H x y v u Q I rx ry h hs;obtain⟨a,z,rfl,g,q⟩:=h;cases rx;have hT:=qX I g;unfold subscriptTail;refine Tw ?_;rw[getitemInPython_of_ne hT.not_modules];refine Tw (wpAny_specialOf hT PySem.F.slot_dict_getitem.lookup ?_);have fin:wpAny (model X.prog X.w) X.A (subscripted slice false (.ref a) u) (λr s₃=>wpAny (model X.prog X.w) X.A (letTemporaryGo value (.ref a) r >>= λ_=>pure r) (EP X pins σ Q) X.xe s₃) X.xe s:=by rw[hs];exact wpAny_operating (xE (by omega) I g ry λw' s' I' r'=>Tw (wpAny_letTemporaryGo (TL ⟨z,H,I',r',q⟩)))
 first
  |exact TL (Tw fin)
  |exact Tw (TL (Tw fin))
  |exact Tw fin
def rC(B:Bd)(o:GB):R2:=λx y H Q=>∃ρ h v w b,HR B ρ h H/\VR B.K ρ H v x/\VR B.K ρ H w y/\cop h o v w=some b/\Q (.bl b) H
theorem z6{b:Bool}(e:memD h v w=some b):∃d f ds,toD 16 h v=some d/\toD 16 h w=some f/\(f=.list ds\/f=.tuple ds)/\b=ds.any λy=>PyData.eqv y d:=by
 unfold memD at e;obtain⟨f,e1,e⟩:=Tz.mp e;obtain⟨d,e2,e⟩:=Tz.mp e;cases f<;>simp only[Le]at e<;>first|cases e|skip
 ·exact⟨d,_,_,e2,e1,.inl rfl,rfl⟩
 ·exact⟨d,_,_,e2,e1,.inr rfl,rfl⟩
theorem z7(hu:X.A.units+64<cLine)(o:GB):kq X (compareOp (vK o)) (rC (bd X cl) o):=by
 intro pins s σ H x y v' u' Q I rx ry hh;obtain⟨ρ,h,v,w,b,r,hv,hw,e,q⟩:=hh;have mem:∀(neg:Bool),rV h v w=some (if neg=true then !b else b)->wpAny (model X.prog X.w) X.A (compareOp (if neg=true then .NotIn else .In) v' u') (EP X pins σ Q) X.xe s:=by
  intro neg e;obtain⟨d,f,ds,e1,e2,e3,eb⟩:=z6 e
  ·obtain⟨a1,a2,a3⟩:=kM r 16 v x d hv e1
   obtain⟨b1,b2,b3⟩:=kM r 16 w y f hw e2;refine GH hu neg pins s σ H x y v' u' Q I rx ry ⟨d,f,ds,a1,b1,a2,b2,a3,e3,?_⟩;cases neg with
   |true=>rw[T4 rfl]at eb |-;rw[<-eb,Bool.not_not];exact q
   |false=>rw[TX TH]at eb |-;rw[<-eb];exact q
 cases o with
 |eq=>obtain⟨d,f,e1,e2,rfl⟩:=sd (show yK h v w=some b by exact e);obtain⟨a1,a2,a3⟩:=kM r 16 v x d hv e1;obtain⟨b1,b2,b3⟩:=kM r 16 w y f hw e2;exact Gm hu pins s σ H x y v' u' Q I rx ry ⟨d,f,a1,b1,a2,b2,by omega,q⟩
 |ne=>have e':(yK h v w).map (!·)=some b:=e;obtain⟨c,e3,rfl⟩:=Uj.mp e';obtain⟨d,f,e1,e2,rfl⟩:=sd e3;obtain⟨a1,a2,a3⟩:=kM r 16 v x d hv e1;obtain⟨b1,b2,b3⟩:=kM r 16 w y f hw e2;exact Gn hu pins s σ H x y v' u' Q I rx ry ⟨d,f,a1,b1,a2,b2,by omega,q⟩
 |lt=>obtain⟨i,j,rfl,rfl⟩:=iz (.inl rfl) e;cases e;rw[VR]at hv;rw[VR]at hw;subst hv;subst hw;exact KA pins s σ H _ _ v' u' Q I rx ry ⟨_,_,rfl,rfl,q⟩
 |le=>obtain⟨i,j,rfl,rfl⟩:=iz (.inr (.inl rfl)) e;cases e;rw[VR]at hv;rw[VR]at hw;subst hv;subst hw;exact KC pins s σ H _ _ v' u' Q I rx ry ⟨_,_,rfl,rfl,q⟩
 |gt=>obtain⟨i,j,rfl,rfl⟩:=iz (.inr (.inr (.inl rfl))) e;cases e;rw[VR]at hv;rw[VR]at hw;subst hv;subst hw;exact KG pins s σ H _ _ v' u' Q I rx ry ⟨_,_,rfl,rfl,q⟩
 |ge=>obtain⟨i,j,rfl,rfl⟩:=iz (.inr (.inr (.inr rfl))) e;cases e;rw[VR]at hv;rw[VR]at hw;subst hv;subst hw;exact KH pins s σ H _ _ v' u' Q I rx ry ⟨_,_,rfl,rfl,q⟩
 |isn=>
  have e:Em v w=some b:=e;cases w<;>first|(cases e;done)|skip
  ·cases e;rw[VR]at hw;subst hw;refine FN pins s σ H x _ v' u' Q I rx ry ⟨rfl,?_⟩;rw[vL hv];exact q
  ·cases v<;>first|(cases e;done)|skip
   cases e;rw[VR]at hv;rw[VR]at hw;subst hv;subst hw;exact Gq pins s σ H _ _ v' u' Q I rx ry ⟨_,_,rfl,rfl,q⟩
 |ntn=>
  have e:(Em v w).map (!·)=some b:=e;cases w<;>first|(cases e;done)|skip
  ·cases e;rw[VR]at hw;subst hw;refine BX pins s σ H x _ v' u' Q I rx ry ⟨rfl,?_⟩;rw[vL hv];exact q
  ·cases v<;>first|(cases e;done)|skip
   cases e;rw[VR]at hv;rw[VR]at hw;subst hv;subst hw;exact Ct pins s σ H _ _ v' u' Q I rx ry ⟨_,_,rfl,rfl,q⟩
 |GC=>exact mem false (by rw[TX TH];exact e)
 |nin=>have e':(rV h v w).map (!·)=some b:=e;obtain⟨c,e3,rfl⟩:=Uj.mp e';exact mem true (by rw[e3];simp)
theorem GJ{b:Bool}(r:HR B ρ h H)(q:VR B.K ρ H v x)(e:cG h v=some b):FO B.K x H b:=by
 cases v with
 |non=>rw[VR]at q;subst q;exact(Uh e).symm
 |bl c=>rw[VR]at q;subst q;exact(Uh e).symm
 |int i=>rw[VR]at q;subst q;exact(Uh e).symm
 |str z=>
  rw[VR]at q;subst q;simp only[cG]at e;split at e
  ·rename_i hl;exact⟨hl,(Uh e).symm⟩
  ·cases e
 |tup vs=>rw[VR]at q;obtain⟨a,xs,rfl,q1,q2⟩:=q;refine .inr (.inl ⟨xs,q1,?_⟩);rw[<-Uh e];have:=q2.length;cases vs<;>cases xs<;>simp_all
 |rl vs=>rw[VR]at q;obtain⟨a,xs,rfl,q1,q2⟩:=q;refine .inl ⟨xs,q1.sq,?_⟩;rw[<-Uh e];have:=q2.length;cases vs<;>cases xs<;>simp_all
 |dc _ _=>rw[VR]at q;exact q.elim
 |ob _ _ _=>rw[VR]at q;exact q.elim
 |ref i=>
  rw[VR]at q;obtain⟨a,rfl,q1⟩:=q;simp only[cG]at e;split at e
  ·rename_i vs e1;obtain⟨xs,k1,k2⟩:=r.ob i _ a e1 q1;refine .inl ⟨xs,.inl (.inl k1),?_⟩;rw[<-Uh e];have:=k2.length;cases vs<;>cases xs<;>simp_all
  ·rename_i vs e1;obtain⟨xs,k1,k2⟩:=r.ob i _ a e1 q1;refine .inr (.inr ⟨xs,k1,?_⟩);rw[<-Uh e];have:=k2.length;cases vs<;>cases xs<;>simp_all
  ·cases e
def O0(B:Bd):R2:=λx y H Q=>∃ρ h v w z,HR B ρ h H/\VR B.K ρ H v x/\VR B.K ρ H w y/\rW h v w=some z/\∀u,VR B.K ρ H z u->Q u H
theorem GK(hu:X.A.units+64<cLine):JS X (O0 (bd X cl)):=by
 intro value slice pins s σ H x y v' u' Q I rx ry hh hs;obtain⟨ρ,h,v,w,z,r,hv,hw,e,q⟩:=hh;cases v with
 |str t=>
  cases w<;>first|cases e|skip
  rename_i i;change (if t.length<=sizeLine then (gY t.cps.toList i).map (λc=>Val.str ⟨[c].toArray⟩) else none)=some z at e;split at e
  ·rename_i hl;obtain⟨c,e1,rfl⟩:=Uj.mp e;rw[VR]at hv;rw[VR]at hw;subst hv;subst hw;exact Ga value slice pins s σ H _ _ v' u' Q I rx ry ⟨t,i,c,rfl,rfl,hl,e1,q _ VR.str⟩ hs
  ·cases e
 |tup vs=>
  cases w<;>first|cases e|skip
  rename_i i;rw[VR]at hv;rw[VR]at hw;subst hw;obtain⟨a,xs,rfl,q1,q2⟩:=hv;obtain⟨t,e2,q3⟩:=aq.gY q2 e;exact FZ value slice pins s σ H _ _ v' u' Q I rx ry ⟨a,xs,i,t,rfl,rfl,q1,e2,q _ q3⟩ hs
 |rl vs=>
  cases w<;>first|cases e|skip
  rename_i i;rw[VR]at hv;rw[VR]at hw;subst hw;obtain⟨a,xs,rfl,q1,q2⟩:=hv;obtain⟨t,e2,q3⟩:=aq.gY q2 e;exact vn value slice pins s σ H _ _ v' u' Q I rx ry ⟨a,xs,i,t,rfl,rfl,q1.sq,e2,q _ q3⟩ hs
 |ref j=>
  cases w with
  |int i=>
   change (match h[j]? with|some (.dct kvs)=>eZ kvs (.inl i)|_=>(az h (.ref j)).bind λxs=>gY xs i)=some z at e;split at e
   ·rename_i kvs e1;rw[VR]at hv;obtain⟨a,rfl,q1⟩:=hv;obtain⟨ks,k1,k2⟩:=r.ob j _ a e1 q1;obtain⟨t,e2,q3⟩:=(fU.val (.inl i) k2).2 z e;have g:pX H a (kV (.inl i)) (gE ks (.inl i)):=pX.k k1;rw[e2]at g;rw[VR]at hw;subst hw;exact vM hu value slice pins s σ H _ _ v' u' Q I rx ry ⟨a,t,rfl,g,q _ q3⟩ hs
   ·obtain⟨vs,e1,e⟩:=Tz.mp e;obtain⟨a,xs,rfl,q1,q2⟩:=dz r hv e1;rw[VR]at hw;subst hw;obtain⟨t,e2,q3⟩:=aq.gY q2 e;exact vn value slice pins s σ H _ _ v' u' Q I rx ry ⟨a,xs,i,t,rfl,rfl,q1,e2,q _ q3⟩ hs
  |str y=>
   change (match h[j]? with|some (.dct kvs)=>eZ kvs (.inr y)|_=>none)=some z at e;split at e
   ·rename_i kvs e1;rw[VR]at hv;obtain⟨a,rfl,q1⟩:=hv;obtain⟨ks,k1,k2⟩:=r.ob j _ a e1 q1;obtain⟨t,e2,q3⟩:=(fU.val (.inr y) k2).2 z e;have g:pX H a (kV (.inr y)) (gE ks (.inr y)):=pX.k k1;rw[e2]at g;rw[VR]at hw;subst hw;exact vM hu value slice pins s σ H _ _ v' u' Q I rx ry ⟨a,t,rfl,g,q _ q3⟩ hs
   ·cases e
  |_=>cases e
 |dc _ _=>rw[VR]at hv;exact hv.elim
 |_=>cases w<;>cases e
def RQ(B:Bd)(EX:Nat->List V->Hp->Prop):V->Option Int->Option Int->Hp->VK->Prop:=λx lo hi H Q=>∃ρ h v,HR B ρ h H/\VR B.K ρ H v x/\Post B EX ρ H (WV B.K Q) (n9 v lo hi h)
theorem GL:Nr X (RQ (bd X cl) EX):=by
 intro pins s σ H x v' vl vu lo hi sl Q I rx hs pl pu hh;obtain⟨ρ,h,v,r,hv,p⟩:=hh;have lists:Post (bd X cl) EX ρ H (WV X.K Q) (bnd (ask λh=>az h v) (λxs=>new (.lst (eE xs lo hi))) h)->∃T id,typeLookup (.type T) "__getitem__" = pure (some (.builtin id))/\s.TypeIs v' T/\wpAny (model X.prog X.w) X.A (getItem v' (.ref sl)) (EP X pins σ Q) X.xe s:=by intro p;obtain⟨a,e1,p⟩:=aB p;obtain⟨a1,Lg,rfl,k1,k2⟩:=dz r hv e1;exact B9 pins s σ H _ v' vl vu lo hi sl Q I rx hs pl pu ⟨a1,Lg,rfl,k1,λq hq=>cJ r hq (aq.cut lo hi k2) p⟩
 cases v with
 |tup vs=>simp only[n9]at p;rw[VR]at hv;obtain⟨a,xs,rfl,q1,q2⟩:=hv;obtain⟨e,p⟩:=aH p;refine FY pins s σ H _ v' vl vu lo hi sl Q I rx hs pl pu ⟨a,xs,rfl,q1,?_,λq hq=>mZ r hq (aq.cut lo hi q2) p⟩;rw[<-q2.length];simp only[not_eq_true',Bool.and_eq_false_iff,decide_eq_false_iff_not]at e;rintro⟨z1,z2⟩;exact e.elim (λk=>k z1) λk=>k z2
 |_=>exact lists p
end
end Hv
end
section
set_option backward.match.sparseCases false
namespace Hv
open PySem L2 PyProof.Rows
section
variable {X:Cx} {cl:Nat->Addr} {EX:Nat->List V->Hp->Prop}
def BH(B:Bd)(EX:Nat->List V->Hp->Prop)(b:Bl):List V->Hp->VK->Prop:=λxs H Q=>∃ρ h vs,HR B ρ h H/\aq B.K ρ H vs xs/\Post B EX ρ H (WV B.K Q) (blt b vs h)
theorem GN:bK X (.builtin "len") (BH (bd X cl) EX .len):=by
 intro pins s σ H xs us Q I rr hh;obtain⟨ρ,h,vs,r,hv,p⟩:=hh
 match vs,p with
 |[v],p=>
  obtain⟨n,e,p⟩:=aB p;obtain⟨x,rfl,hx⟩:=aq.one hv;have fin:=ai r p _ VR.int;cases v with
  |str z=>
   simp only[jP]at e;split at e
   ·rename_i hl;cases e;rw[VR]at hx;subst hx;exact L2.jF pins s σ H _ us Q I rr ⟨_,z.length,rfl,⟨hl,rfl⟩,fin⟩
   ·cases e
  |tup vs=>simp only[jP]at e;cases e;rw[VR]at hx;obtain⟨a,ys,rfl,q1,q2⟩:=hx;refine L2.jF pins s σ H _ us Q I rr ⟨_,ys.length,rfl,.inr ⟨ys,q1,rfl⟩,?_⟩;rw[<-q2.length];exact fin
  |rl vs=>simp only[jP]at e;cases e;rw[VR]at hx;obtain⟨a,ys,rfl,q1,q2⟩:=hx;refine L2.jF pins s σ H _ us Q I rr ⟨_,ys.length,rfl,.inl ⟨ys,q1.sq,rfl⟩,?_⟩;rw[<-q2.length];exact fin
  |dc _ _=>rw[VR]at hx;exact hx.elim
  |ob _ _ _=>rw[VR]at hx;exact hx.elim
  |ref i=>
   rw[VR]at hx;obtain⟨a,rfl,q1⟩:=hx;simp only[jP]at e;split at e
   ·rename_i vs e1;cases e;obtain⟨ys,k1,k2⟩:=r.ob i _ a e1 q1;refine L2.jF pins s σ H _ us Q I rr ⟨_,ys.length,rfl,.inl ⟨ys,.inl (.inl k1),rfl⟩,?_⟩;rw[<-k2.length];exact fin
   ·rename_i vs e1;cases e;obtain⟨ks,k1,k2⟩:=r.ob i _ a e1 q1;refine xK pins s σ H _ us Q I rr ⟨a,ks,rfl,k1,?_⟩;rw[<-k2.length];exact fin
   ·cases e
  |_=>simp only[jP]at e;cases e
theorem GO(hc:X.calm=true):bK X (.builtin "min") (BH (bd X cl) EX .min):=by
 intro pins s σ H xs us Q I rr hh;obtain⟨ρ,h,vs,r,hv,p⟩:=hh;have seq:∀v,vs=[v]->Post (bd X cl) EX ρ H (WV X.K Q) (bnd (ask λh=>cg h v) (λxs=>aN ((aM xs).bind qi)) h)->wpAny (model X.prog X.w) X.A (call (.builtin "min") us) (EP X pins σ Q) X.xe s:=by
  rintro v rfl p;obtain⟨zs,e,p⟩:=aB p;obtain⟨x,rfl,hx⟩:=aq.one hv;obtain⟨a,ys,rfl,q1,q2⟩:=uG r hx e;obtain⟨m,e1,p⟩:=bQ r p;obtain⟨ns,e2,e3⟩:=Tz.mp e1;rw[cK e2]at q2;rw[aq.ints.mp q2]at q1;have hne:0<ns.length:=by cases ns with|nil=>cases e3|cons _ _=>simp
  refine p9 hc pins s σ H _ us Q I rr ⟨a,ns,rfl,q1,hne,λm hm hmin=>?_⟩;rw[yd hm hmin]at e3;cases e3;exact p _ VR.int
 match vs,p with
 |[.int a,.int b],p=>obtain⟨x,y,rfl,hx,hy⟩:=aq.two hv;rw[VR]at hx;rw[VR]at hy;subst hx;subst hy;exact xw hc pins s σ H _ us Q I rr ⟨a,b,rfl,ai r p _ VR.int⟩
 |[v],p=>exact seq v rfl (by cases v<;>exact p)
theorem GP(hc:X.calm=true):bK X (.builtin "max") (BH (bd X cl) EX .max):=by
 intro pins s σ H xs us Q I rr hh;obtain⟨ρ,h,vs,r,hv,p⟩:=hh;have seq:∀v,vs=[v]->Post (bd X cl) EX ρ H (WV X.K Q) (bnd (ask λh=>cg h v) (λxs=>aN ((aM xs).bind qj)) h)->wpAny (model X.prog X.w) X.A (call (.builtin "max") us) (EP X pins σ Q) X.xe s:=by
  rintro v rfl p;obtain⟨zs,e,p⟩:=aB p;obtain⟨x,rfl,hx⟩:=aq.one hv;obtain⟨a,ys,rfl,q1,q2⟩:=uG r hx e;obtain⟨m,e1,p⟩:=bQ r p;obtain⟨ns,e2,e3⟩:=Tz.mp e1;rw[cK e2]at q2;rw[aq.ints.mp q2]at q1;have hne:0<ns.length:=by cases ns with|nil=>cases e3|cons _ _=>simp
  refine qa hc pins s σ H _ us Q I rr ⟨a,ns,rfl,q1,hne,λm hm hmin=>?_⟩;rw[ye hm hmin]at e3;cases e3;exact p _ VR.int
 match vs,p with
 |[.int a,.int b],p=>obtain⟨x,y,rfl,hx,hy⟩:=aq.two hv;rw[VR]at hx;rw[VR]at hy;subst hx;subst hy;exact xu hc pins s σ H _ us Q I rr ⟨a,b,rfl,ai r p _ VR.int⟩
 |[v],p=>exact seq v rfl (by cases v<;>exact p)
theorem yf:bK X (.builtin "sorted") (BH (bd X cl) EX .sorted):=by
 intro pins s σ H xs us Q I rr hh;obtain⟨ρ,h,vs,r,hv,p⟩:=hh
 match vs,p with
 |[v],p=>
  obtain⟨zs,e,p⟩:=aB p;obtain⟨out,e1,p⟩:=bJ p;obtain⟨x,rfl,hx⟩:=aq.one hv;obtain⟨a,ys,rfl,q1,q2⟩:=dz r hx e;unfold eY at e1;split at e1
  ·rename_i h64
   cases e2:aM zs with
   |some ns=>rw[e2]at e1;cases e1;rw[cK e2]at q2 h64;rw[aq.ints.mp q2]at q1;rw[TQ]at h64;exact kF pins s σ H _ us Q I rr ⟨a,ns,rfl,q1,h64,λl hl=>cJ r hl (aq.ints.mpr rfl) p⟩
   |none=>rw[e2]at e1;obtain⟨lY,e3,e4⟩:=Tz.mp e1;cases e4;obtain⟨g1,g2⟩:=pq e3;rw[g1]at q2 h64;obtain⟨rs,r1,r2,r3⟩:=aq.tups q2;rw[r1]at q1;rw[TQ,r2,TQ]at h64;refine kG pins s σ H _ us Q I rr ⟨a,rs,rfl,q1,h64,λp hp=>⟨r3 p hp,g2 _ (by rw[r2];exact Wb hp)⟩,λl qs hl hp hs=>?_⟩;have e4:qs.map (·.2)=jO lY:=zY (by rw[r2];exact hp.map _) (Vv.mpr hs);rw[<-e4]at p;exact cJ r hl (aq.vH λz hz=>r3 z (hp.mem_iff.mp hz)) p
  ·cases e1
theorem CG:bK X (.type "list") (BH (bd X cl) EX .list):=by
 intro pins s σ H xs us Q I rr hh;obtain⟨ρ,h,vs,r,hv,p⟩:=hh
 match vs,p with
 |[v],p=>obtain⟨zs,e,p⟩:=aB p;obtain⟨x,rfl,hx⟩:=aq.one hv;obtain⟨a,ys,rfl,q1,q2⟩:=uG r hx e;exact pW pins s σ H _ us Q I rr ⟨a,ys,rfl,q1,λl hl=>cJ r hl q2 p⟩
theorem z8:bK X (.type "tuple") (BH (bd X cl) EX .tuple):=by
 intro pins s σ H xs us Q I rr hh;obtain⟨ρ,h,vs,r,hv,p⟩:=hh;exact(show False from p).elim
theorem GQ:bK X (.type "str") (BH (bd X cl) EX .str):=by
 intro pins s σ H xs us Q I rr hh;obtain⟨ρ,h,vs,r,hv,p⟩:=hh;exact(show False from p).elim
theorem GR:bK X (.type "int") (BH (bd X cl) EX .int):=by
 intro pins s σ H xs us Q I rr hh;obtain⟨ρ,h,vs,r,hv,p⟩:=hh
 match vs,p with
 |[.int i],p=>obtain⟨x,rfl,hx⟩:=aq.one hv;rw[VR]at hx;subst hx;exact oE pins s σ H _ us Q I rr (.inl ⟨i,rfl,ai r p _ VR.int⟩)
 |[.bl i],p=>obtain⟨x,rfl,hx⟩:=aq.one hv;rw[VR]at hx;subst hx;exact oE pins s σ H _ us Q I rr (.inr ⟨i,rfl,ai r p _ VR.int⟩)
theorem GS(hc:X.calm=true):bK X (.builtin "all") (BH (bd X cl) EX .all):=by
 intro pins s σ H xs us Q I rr hh;obtain⟨ρ,h,vs,r,hv,p⟩:=hh
 match vs,p with
 |[v],p=>obtain⟨zs,e,p⟩:=aB p;obtain⟨bs,e1,p⟩:=bJ p;obtain⟨x,rfl,hx⟩:=aq.one hv;obtain⟨a,ys,rfl,q1,q2⟩:=dz r hx e;rw[m5 e1]at q2;rw[aq.bools.mp q2]at q1;exact nZ hc pins s σ H _ us Q I rr ⟨a,bs,rfl,q1,ai r p _ VR.bl⟩
theorem GU(hc:X.calm=true):bK X (.builtin "any") (BH (bd X cl) EX .any):=by
 intro pins s σ H xs us Q I rr hh;obtain⟨ρ,h,vs,r,hv,p⟩:=hh;exact(show False from p).elim
def RS(B:Bd)(EX:Nat->List V->Hp->Prop)(T:String):List V->Hp->VK->Prop:=λxs H Q=>∃ρ h v x,xs=[x,.ty T]/\HR B ρ h H/\VR B.K ρ H v x/\Post B EX ρ H (WV B.K Q) (blt (.isin T) [v] h)
theorem CH(K:Frag)(t T:String)(ht:t∈["NoneType","bool","int","str","list","tuple","dict"])(hT:T∈["list","tuple","str","bool","int","dict"]) :
  kitOne K (.type t) (.type T)=some (decide (T=t\/(T = "int" /\ t = "bool"))):=by
 simp only[mem_cons,not_mem_nil,or_false]at ht hT
 rcases ht with rfl|rfl|rfl|rfl|rfl|rfl|rfl<;>rcases hT with rfl|rfl|rfl|rfl|rfl|rfl<;>rfl
theorem CI{T:String}:bK X (.builtin "isinstance") (RS (bd X cl) EX T):=by
 intro pins s σ H xs us Q I rr hh;obtain⟨ρ,h,v,x,rfl,r,hx,p⟩:=hh;obtain⟨u,w',rfl,r1,r2⟩:=vals2 rr;cases r2;obtain⟨t,e,p⟩:=aB p;obtain⟨b,e1,p⟩:=bJ p;have q:=ai r p _ VR.bl;unfold rY at e1;split at e1
 ·rename_i RT
  have hT:T∈["list","tuple","str","bool","int","dict"]:=by simpa using RT
  cases e1;have fin:∀tk,EP X pins σ Q (.bool (decide (T=t\/(T = "int" /\ t = "bool")))) { s with toks:=tk }:=λtk=>⟨.bl _,H,I.tok _,rfl,q⟩;have tab:=λht=>CH X.K t T ht hT;cases v with
  |non=>rw[VR]at hx;subst hx;cases r1;simp only[rX]at e;cases e;exact UT PySem.W.kitx_none I.iZ UB (tab (by simp)) (λz=>nomatch z) fin
  |bl c=>rw[VR]at hx;subst hx;cases r1;simp only[rX]at e;cases e;exact UT PySem.W.kitx_bool I.iZ UB (tab (by simp)) (λz=>nomatch z) fin
  |int i=>rw[VR]at hx;subst hx;obtain⟨t',rfl⟩:=r1;simp only[rX]at e;cases e;exact UT PySem.W.kitx_int I.iZ UB (tab (by simp)) (λz=>nomatch z) fin
  |str i=>rw[VR]at hx;subst hx;obtain⟨t',rfl⟩:=r1;simp only[rX]at e;cases e;exact UT PySem.W.kitx_str I.iZ UB (tab (by simp)) (λz=>nomatch z) fin
  |tup vs=>rw[VR]at hx;obtain⟨a,ys,rfl,q1,_⟩:=hx;cases r1;simp only[rX]at e;cases e;obtain⟨_,_,⟨o,e1,e2,_⟩,_⟩:=I.tuple q1;exact UT PySem.W.kitx_tuple I.iZ ⟨o,e1,e2⟩ (tab (by simp)) (λz=>nomatch z) fin
  |rl vs=>rw[VR]at hx;obtain⟨a,ys,rfl,q1,_⟩:=hx;cases r1;simp only[rX]at e;cases e;obtain⟨_,_,⟨o,n,e1,e2,_⟩,_⟩:=I.list q1.sq;exact UT kitx_list I.iZ ⟨o,e1,e2⟩ (tab (by simp)) (λz=>nomatch z) fin
  |dc _ _=>rw[VR]at hx;exact hx.elim
  |ob _ _ _=>rw[VR]at hx;exact hx.elim
  |ref i=>
   rw[VR]at hx;obtain⟨a,rfl,q1⟩:=hx;cases r1;simp only[rX]at e;split at e
   ·rename_i vs e1;cases e;obtain⟨ys,k1,k2⟩:=r.ob i _ a e1 q1;obtain⟨_,_,⟨o,n,e1,e2,_⟩,_⟩:=I.list (xs:=ys) (.inl (.inl k1));exact UT kitx_list I.iZ ⟨o,e1,e2⟩ (tab (by simp)) (λz=>nomatch z) fin
   ·rename_i vs e1;cases e;obtain⟨ks,k1,k2⟩:=r.ob i _ a e1 q1;obtain⟨_,_,vs,_,p⟩:=(show aV X.prog X.w H s.heap a (.dK ks) from I.hok a _ k1);obtain⟨o,es,ep,h1,h2,_⟩:=p;exact UT PySem.W.kitx_dict I.iZ ⟨o,h1,h2.1⟩ (tab (by simp)) (λz=>nomatch z) fin
   ·cases e
 ·cases e1
def Lh(B:Bd)(EX:Nat->List V->Hp->Prop)(m:Me):V->List V->Hp->VK->Prop:=λx xs H Q=>∃ρ h v vs,HR B ρ h H/\VR B.K ρ H v x/\aq B.K ρ H vs xs/\Post B EX ρ H (WV B.K Q) (met m v vs h)
theorem CJ:JT X "str.join" (Lh (bd X cl) EX .join):=by
 intro pins s σ H x xs u us Q I ru rr hh;obtain⟨ρ,h,v,vs,r,hv,hvs,p⟩:=hh;exact(show False from p).elim
theorem m7{i:Nat}(r:HR B ρ h H)(hi:ρ[i]?=some a)(e:h[i]?=some u)(eU:H a=some U)(hm:Mu U=true)(q:OR B ρ (upd H a O) a o)
  (p:Post B EX ρ H (WV B.K Q) (bnd (put i o) (λ_=>ret Val.non) h)):Q .non (upd H a O) :=
 p ρ (upd H a O) (Gr.put (Ub hi) eU hm) (r.put hi e q) _ VR.non
theorem yg:JT X "list.append" (Lh (bd X cl) EX .append):=by
 intro pins s σ H x xs v' us Q I rx rv hh;obtain⟨ρ,h,v,vs,r,hv,hvs,p⟩:=hh
 match v,vs,p with
 |.ref i,[w],p=>
  obtain⟨zs,e,p⟩:=aB p;split at e
  ·rename_i zs' e1;cases e;obtain⟨e2,p⟩:=aH p;obtain⟨a,ys,rfl,q0,q1,q2⟩:=iO r hv e1;obtain⟨y,rfl,hy⟩:=aq.one hvs;refine oM pins s σ H _ _ v' us Q I rx rv ⟨a,ys,y,rfl,rfl,q1,by rw[<-q2.length];exact Ud e2,?_⟩;have g:Gr ρ H ρ (upd H a (.lst (ys++[y]))):=Gr.put (Ub q0) q1 rfl;exact m7 (o:=.lst (zs++[w])) r q0 e1 q1 rfl ⟨_,av,aq.append (aq.up g _ _ q2) (aq.up g _ _ (aq.cons hy aq.nil))⟩ p
  ·cases e
theorem yh:JT X "list.extend" (Lh (bd X cl) EX .extend):=by
 intro pins s σ H x xs v' us Q I rx rv hh;obtain⟨ρ,h,v,vs,r,hv,hvs,p⟩:=hh
 match v,vs,p with
 |.ref i,[w],p=>
  obtain⟨zs,e,p⟩:=aB p;split at e
  ·rename_i zs' e1;cases e
   obtain⟨ws,e3,p⟩:=aB p;obtain⟨e2,p⟩:=aH p;have e2:=Ud e2;obtain⟨a,ys,rfl,q0,q1,q2⟩:=iO r hv e1;obtain⟨y,rfl,hy⟩:=aq.one hvs;have fin:∀(bs:List V),aq X.K ρ H ws bs->Q .non (upd H a (.lst (ys++bs))):=λbs hb=>by
    have g:Gr ρ H ρ (upd H a (.lst (ys++bs))):=Gr.put (Ub q0) q1 rfl;exact m7 (o:=.lst (zs++ws)) r q0 e1 q1 rfl ⟨_,av,aq.append (aq.up g _ _ q2) (aq.up g _ _ hb)⟩ p
   cases w with
   |tup ts=>simp only[rT]at e3;cases e3;rw[VR]at hy;obtain⟨b,bs,rfl,k1,k2⟩:=hy;exact uu pins s σ H _ _ v' us Q I rx rv ⟨a,b,ys,bs,rfl,rfl,q1,k1,by rw[<-q2.length,<-k2.length];exact e2,fin bs k2⟩
   |ref j=>
    simp only[rT,az]at e3;split at e3
    ·rename_i ts e4;cases e3;obtain⟨b,bs,rfl,k0,k1,k2⟩:=iO r hy e4;exact xC pins s σ H _ _ v' us Q I rx rv ⟨a,b,ys,bs,rfl,rfl,q1,k1,by rw[<-q2.length,<-k2.length];exact e2,fin bs k2⟩
    ·cases e3
   |_=>simp only[rT]at e3;cases e3
  ·cases e
theorem aq.era{K:Frag}{ρ:List Addr}{H:Hp}:∀{vs:List Val} {xs:List V} (n:Nat),aq K ρ H vs xs->aq K ρ H (vs.eraseIdx n) (xs.eraseIdx n)
 |[],_,n,e=>by rw[aq]at e;subst e;exact aq.nil
 | _::_,_,n,e=>by
  rw[aq]at e;obtain⟨x,r,rfl,e1,e2⟩:=e;cases n with
  |zero=>exact e2
  |succ n=>exact aq.cons e1 (aq.era n e2)
theorem yi:JT X "list.remove" (Lh (bd X cl) EX .remove):=by
 intro pins s σ H x xs v' us Q I rx rv hh;obtain⟨ρ,h,v,vs,r,hv,hvs,p⟩:=hh
 match v,vs,p with
 |.ref i,[.int k],p=>
  obtain⟨zs,e,p⟩:=aB p;split at e
  ·rename_i zs' e1;cases e;obtain⟨ks,e3,p⟩:=bJ p;obtain⟨e2,p⟩:=aH p;have e3:=cK e3;subst e3;obtain⟨a,ys,rfl,q0,q1,q2⟩:=iO r hv e1;have hys:=aq.ints.mp q2;subst hys;obtain⟨y,rfl,hy⟩:=aq.one hvs;rw[VR]at hy;subst hy;refine x8 pins s σ H _ _ v' us Q I rx rv ⟨a,ks,k,rfl,rfl,q1,Ud e2,?_⟩;have g:Gr ρ H ρ (upd H a (.lst ((ks.map V.int).eraseIdx (ks.idxOf k)))):=Gr.put (Ub q0) q1 rfl;exact m7 (o:=.lst ((ks.map Val.int).eraseIdx (ks.idxOf k))) r q0 e1 q1 rfl ⟨_,av,aq.era _ (aq.up g _ _ q2)⟩ p
  ·cases e
end
def m8(f:Str->Pos->Bool):Expr->Bool
 |.Name a b=>f a b
 |_=>false
theorem lZ{f:Str->Pos->Bool}{P:Expr->Prop}{e:Expr}(h:m8 f e=true)(H:∀a b,f a b=true->P (.Name a b)):P e:=by
 cases e<;>first|exact H _ _ h|exact(TH h).elim
def uH(f:Const->Nat->Pos->Bool):Expr->Bool
 |.Constant a b c=>f a b c
 |_=>false
theorem se{f:Const->Nat->Pos->Bool}{P:Expr->Prop}{e:Expr}(h:uH f e=true)(H:∀a b c,f a b c=true->P (.Constant a b c)):P e:=by
 cases e<;>first|exact H _ _ _ h|exact(TH h).elim
def Li(f:Expr->Operator->Expr->Pos->Bool):Expr->Bool
 |.BinOp a b c d=>f a b c d
 |_=>false
theorem GV{f:Expr->Operator->Expr->Pos->Bool}{P:Expr->Prop}{e:Expr}(h:Li f e=true)(H:∀a b c d,f a b c d=true->P (.BinOp a b c d)):P e:=by
 cases e<;>first|exact H _ _ _ _ h|exact(TH h).elim
def O3(f:UnaryOp->Expr->Pos->Bool):Expr->Bool
 |.UnaryOp a b c=>f a b c
 |_=>false
theorem Er{f:UnaryOp->Expr->Pos->Bool}{P:Expr->Prop}{e:Expr}(h:O3 f e=true)(H:∀a b c,f a b c=true->P (.UnaryOp a b c)):P e:=by
 cases e<;>first|exact H _ _ _ h|exact(TH h).elim
def Lj(f:Expr->List CmpOp->List Expr->Pos->Bool):Expr->Bool
 |.Compare a b c d=>f a b c d
 |_=>false
theorem GW{f:Expr->List CmpOp->List Expr->Pos->Bool}{P:Expr->Prop}{e:Expr}(h:Lj f e=true)(H:∀a b c d,f a b c d=true->P (.Compare a b c d)):P e:=by
 cases e<;>first|exact H _ _ _ _ h|exact(TH h).elim
def ql(f:BoolOp->List Expr->Pos->Bool):Expr->Bool
 |.BoolOp a b c=>f a b c
 |_=>false
theorem pB{f:BoolOp->List Expr->Pos->Bool}{P:Expr->Prop}{e:Expr}(h:ql f e=true)(H:∀a b c,f a b c=true->P (.BoolOp a b c)):P e:=by
 cases e<;>first|exact H _ _ _ h|exact(TH h).elim
def Lk(f:List Expr->Nat->Pos->Bool):Expr->Bool
 |.Tuple a b c=>f a b c
 |_=>false
theorem GX{f:List Expr->Nat->Pos->Bool}{P:Expr->Prop}{e:Expr}(h:Lk f e=true)(H:∀a b c,f a b c=true->P (.Tuple a b c)):P e:=by
 cases e<;>first|exact H _ _ _ h|exact(TH h).elim
def Ll(f:List Expr->Pos->Bool):Expr->Bool
 |.List a b=>f a b
 |_=>false
theorem GY{f:List Expr->Pos->Bool}{P:Expr->Prop}{e:Expr}(h:Ll f e=true)(H:∀a b,f a b=true->P (.List a b)):P e:=by
 cases e<;>first|exact H _ _ h|exact(TH h).elim
def CK(f:Expr->Expr->Pos->Bool):Expr->Bool
 |.Subscript a b c=>f a b c
 |_=>false
theorem uI{f:Expr->Expr->Pos->Bool}{P:Expr->Prop}{e:Expr}(h:CK f e=true)(H:∀a b c,f a b c=true->P (.Subscript a b c)):P e:=by
 cases e<;>first|exact H _ _ _ h|exact(TH h).elim
def Lm(f:Option Expr->Option Expr->Option Expr->Pos->Bool):Expr->Bool
 |.Slice a b c d=>f a b c d
 |_=>false
theorem GZ{f:Option Expr->Option Expr->Option Expr->Pos->Bool}{P:Expr->Prop}{e:Expr}(h:Lm f e=true)(H:∀a b c d,f a b c d=true->P (.Slice a b c d)):P e:=by
 cases e<;>first|exact H _ _ _ _ h|exact(TH h).elim
def z9(f:Expr->List Expr->List Keyword->Pos->Bool):Expr->Bool
 |.Call a b c d=>f a b c d
 |_=>false
theorem vN{f:Expr->List Expr->List Keyword->Pos->Bool}{P:Expr->Prop}{e:Expr}(h:z9 f e=true)(H:∀a b c d,f a b c d=true->P (.Call a b c d)):P e:=by
 cases e<;>first|exact H _ _ _ _ h|exact(TH h).elim
def Es(f:Expr->Str->Pos->Bool):Expr->Bool
 |.Attribute a b c=>f a b c
 |_=>false
theorem CL{f:Expr->Str->Pos->Bool}{P:Expr->Prop}{e:Expr}(h:Es f e=true)(H:∀a b c,f a b c=true->P (.Attribute a b c)):P e:=by
 cases e<;>first|exact H _ _ _ h|exact(TH h).elim
def Et(f:Expr->List Comprehension->Scope->Pos->Bool):Expr->Bool
 |.ListComp a b c d=>f a b c d
 |_=>false
theorem CM{f:Expr->List Comprehension->Scope->Pos->Bool}{P:Expr->Prop}{e:Expr}(h:Et f e=true)(H:∀a b c d,f a b c d=true->P (.ListComp a b c d)):P e:=by
 cases e<;>first|exact H _ _ _ _ h|exact(TH h).elim
def Aa(f:List (Option Expr)->List Expr->Pos->Bool):Expr->Bool
 |.Dict a b c=>f a b c
 |_=>false
theorem vO{f:List (Option Expr)->List Expr->Pos->Bool}{P:Expr->Prop}{e:Expr}(h:Aa f e=true)(H:∀a b c,f a b c=true->P (.Dict a b c)):P e:=by
 cases e<;>first|exact H _ _ _ h|exact(TH h).elim
section
variable {α:Type} {f:α -> Bool} {g:α -> List α -> Bool} {P:List α -> Prop} {Q:Option α -> Prop} {l:List α} {b:Bool} {o:Option α}
def oh(l:List α)(b:Bool):Bool:=l.isEmpty&&b
theorem jw(h:oh l b=true)(H:b=true->P []):P l:=by
 cases l with
 |nil=>exact H h
 |cons _ _=>cases h
def kC(f:α -> List α -> Bool):List α -> Bool
 |a::r=>f a r
 |[]=>false
theorem uJ(h:kC g l=true)(H:∀a r,g a r=true->P (a::r)):P l:=by
 cases l with
 |nil=>cases h
 |cons a r=>exact H a r h
def k1(f:α -> Bool):List α -> Bool:=kC λa r=>oh r (f a)
theorem m9(h:k1 f l=true)(H:∀a,f a=true->P [a]):P l:=by
 apply uJ h;intro a r h;apply jw h;intro h;exact H a h
def k2(f:α -> α -> Bool):List α -> Bool:=kC λa r=>k1 (f a) r
theorem Lo{f:α -> α -> Bool}(h:k2 f l=true)(H:∀a b,f a b=true->P [a,b]):P l:=by
 apply uJ h;intro a r h;apply m9 h;intro b h;exact H a b h
def Ab(l:Option α)(b:Bool):Bool:=l.isNone&&b
theorem vP(h:Ab o b=true)(H:b=true->Q none):Q o:=by
 cases o with
 |none=>exact H h
 |some _=>cases h
def vQ(f:α -> Bool)(l:Option α):Bool:=l.any f
theorem qm(h:vQ f o=true)(H:∀a,f a=true->Q (some a)):Q o:=by
 cases o with
 |none=>cases h
 |some a=>exact H a h
def Hf[DecidableEq α](a b:α)(c:Bool):Bool:=decide (a=b)&&c
theorem sf[DecidableEq α]{P:α -> Prop}{a d:α}(h:Hf a d b=true)(H:b=true->P d):P a:=by
 rw[Hf,UE,decide_eq_true_eq]at h;rw[h.1];exact H h.2
end
def Ac(f:Str->Pos->List Expr->Pos->Bool):Expr->Bool:=z9 λg l k p=>m8 (λx q=>oh k (f x q l p)) g
theorem jQ{f:Str->Pos->List Expr->Pos->Bool}{P:Expr->Prop}{e:Expr}(h:Ac f e=true)(H:∀x q l p,f x q l p=true->P (.Call (.Name x q) l [] p)):P e:=by
 apply vN h;intro g l k p h;apply lZ h;intro x q h;apply jw h;intro h;exact H x q l p h
def Lp(f:Expr->Str->Pos->List Expr->Pos->Bool):Expr->Bool:=z9 λg l k p=>Es (λo x q=>oh k (f o x q l p)) g
theorem Eu{f:Expr->Str->Pos->List Expr->Pos->Bool}{P:Expr->Prop}{e:Expr}(h:Lp f e=true)(H:∀o x q l p,f o x q l p=true->P (.Call (.Attribute o x q) l [] p)):P e:=by
 apply vN h;intro g l k p h;apply CL h;intro o x q h;apply jw h;intro h;exact H o x q l p h
def Lq(f:Expr->Expr->List Expr->Int->Bool)(c:Comprehension):Bool:=f c.target c.iter c.ifs c.is_async
theorem Hg{f:Expr->Expr->List Expr->Int->Bool}{P:Comprehension->Prop}{c:Comprehension}(h:Lq f c=true)(H:∀a b d i,f a b d i=true->P ⟨a,b,d,i⟩):P c:=by
 cases c;exact H _ _ _ _ h
def Lr(f:Str->Bool):Const->Bool
 |.str s=>f s
 |_=>false
theorem Hh{f:Str->Bool}{P:Const->Prop}{e:Const}(h:Lr f e=true)(H:∀s,f s=true->P (.str s)):P e:=by
 cases e<;>first|exact H _ h|exact(TH h).elim
theorem Qx{a b:Bool}(h:(a||b)=true):a=true\/b=true:=by
 cases a with
 |true=>exact .inl rfl
 |false=>exact .inr h
def Ad(f:Expr->Pos->Bool):Stmt->Bool
 |.Expr a b=>f a b
 |_=>false
theorem vR{f:Expr->Pos->Bool}{P:Stmt->Prop}{e:Stmt}(h:Ad f e=true)(H:∀a b,f a b=true->P (.Expr a b)):P e:=by
 cases e<;>first|exact H _ _ h|exact(TH h).elim
def Hi(f:List Expr->Expr->Pos->Bool):Stmt->Bool
 |.Assign a b c=>f a b c
 |_=>false
theorem Ae{f:List Expr->Expr->Pos->Bool}{P:Stmt->Prop}{e:Stmt}(h:Hi f e=true)(H:∀a b c,f a b c=true->P (.Assign a b c)):P e:=by
 cases e<;>first|exact H _ _ _ h|exact(TH h).elim
def O4(f:Expr->Operator->Expr->Pos->Bool):Stmt->Bool
 |.AugAssign a b c d=>f a b c d
 |_=>false
def Qy(f:Expr->List Stmt->List Stmt->Pos->Bool):Stmt->Bool
 |.If a b c d=>f a b c d
 |_=>false
theorem Ls{f:Expr->List Stmt->List Stmt->Pos->Bool}{P:Stmt->Prop}{e:Stmt}(h:Qy f e=true)(H:∀a b c d,f a b c d=true->P (.If a b c d)):P e:=by
 cases e<;>first|exact H _ _ _ _ h|exact(TH h).elim
def Lu(f:Expr->Expr->List Stmt->List Stmt->Pos->Bool):Stmt->Bool
 |.For a b c d i=>f a b c d i
 |_=>false
theorem Hj{f:Expr->Expr->List Stmt->List Stmt->Pos->Bool}{P:Stmt->Prop}{e:Stmt}(h:Lu f e=true)(H:∀a b c d i,f a b c d i=true->P (.For a b c d i)):P e:=by
 cases e<;>first|exact H _ _ _ _ _ h|exact(TH h).elim
def Hl(f:Expr->List Stmt->List Stmt->Pos->Bool):Stmt->Bool
 |.While a b c d=>f a b c d
 |_=>false
def Ho(f:Option Expr->Pos->Bool):Stmt->Bool
 |.Return a b=>f a b
 |_=>false
theorem Af{f:Option Expr->Pos->Bool}{P:Stmt->Prop}{e:Stmt}(h:Ho f e=true)(H:∀a b,f a b=true->P (.Return a b)):P e:=by
 cases e<;>first|exact H _ _ h|exact(TH h).elim
def Lw(f:Pos->Bool):Stmt->Bool
 |.Break a=>f a
 |_=>false
theorem Hq{f:Pos->Bool}{P:Stmt->Prop}{e:Stmt}(h:Lw f e=true)(H:∀a,f a=true->P (.Break a)):P e:=by
 cases e<;>first|exact H _ h|exact(TH h).elim
def Lx(f:Pos->Bool):Stmt->Bool
 |.Continue a=>f a
 |_=>false
theorem Hr{f:Pos->Bool}{P:Stmt->Prop}{e:Stmt}(h:Lx f e=true)(H:∀a,f a=true->P (.Continue a)):P e:=by
 cases e<;>first|exact H _ h|exact(TH h).elim
def Ew(f:Pos->Bool):Stmt->Bool
 |.Pass a=>f a
 |_=>false
theorem CN{f:Pos->Bool}{P:Stmt->Prop}{e:Stmt}(h:Ew f e=true)(H:∀a,f a=true->P (.Pass a)):P e:=by
 cases e<;>first|exact H _ h|exact(TH h).elim
end Hv
end
section
namespace Hv
open PySem L2 PyProof.Rows
structure Tb where
 nc:Nat
 Ly:List Str
 CO:List (Nat×Str×Nat)
 CP:List (Str×Str×Nat)
 isc:List (Str×List Bool)
structure nV where
 N:List Str
 sc:Scope
 fns:List (Str×Nat)
 cons:List (Str×Val)
 tb:Tb
def Ht(sc:Scope)(x:Str):Bool:=(sc.names.lookup x==some .local||sc.names.lookup x==some .cell||sc.names.lookup x==some .free) && !(x==("__debug__":Str)) && !(x==("__classdict__":Str))
def uK(sc:Scope)(x:Str):Bool:=sc.names.lookup x==some .globalImplicit && !(x==("__debug__":Str)) && !(x==("__name__":Str))
def Ag:Const->Val->Bool
 |.none,.non=>true
 |.bool a,.bl b=>a==b
 |.int a,.int b=>a==b
 |.str a,.str b=>a==b
 |_,_=>false
def Hu(o:El)(op:Operator):Bool:=decide (op=zZ o)
def Lz(o:GB)(op:CmpOp):Bool:=decide (op=vK o)
def LA:Bl->Str
 |.len=>"len" | .min=>"min" | .max=>"max" | .sorted=>"sorted" | .list=>"list" | .tuple=>"tuple" | .str=>"str" | .int=>"int" | .all=>"all" | .any=>"any" | .isin _=>"isinstance"
def noStar:Expr->Bool
 |.Starred ..=>false
 |_=>true
def l6:Expr->Bool
 |.Slice ..=>false
 |_=>true
def CQ:Expr->Bool
 |.Name ..=>true|.Call ..=>true|.Subscript ..=>true|.List ..=>true|.Tuple ..=>true|.ListComp ..=>true|.Attribute ..=>true|.BinOp ..=>true
 |_=>false
def superB:Expr->Bool
 |.Call (.Name _ _) [] [] _=>false
 |_=>true
def Ey(scope xsc:Scope):Scope :=
 { scope with names:=scope.names.map λ(n,k)=>if (k==.free&&xsc.kind==.function&&xsc.names.lookup n==some .cell) then (n,.cell) else (n,k) }
def nV.Ez(Γ:nV)(scope:Scope)(N':List Str):nV:={ Γ with N:=N',sc:=Ey scope Γ.sc }
def yj(Γ:nV):uF->Expr->Bool
 |.one i,.Name x _=>Γ.N[i]?==some x && Γ.sc.names.lookup x==some .local
 | .tup is,.Tuple es _ _=>es.length==is.length&&(is.zip es).all λp=>match p.2 with
  |.Name x _=>Γ.N[p.1]?==some x && Γ.sc.names.lookup x==some .local
  |_=>false
 |_,_=>false
def sj:uF->List Nat
 |.one i=>[i]
 |.tup is=>is
def RW:Me->Str
 |.join=>"join" | .append=>"append" | .extend=>"extend" | .remove=>"remove"
def uL:Val->Val->Bool
 |.non,.non=>true
 |.bl a,.bl b=>a==b
 |.int a,.int b=>a==b
 |.str a,.str b=>a==b
 |_,_=>false
def Hw:jt->Bool
 |.nil=>true
 |.cons ..=>false
theorem Ah{b:Bool}(h:(Hw es&&b)=true):es=.nil/\b=true:=by
 cases es with
 |nil=>exact⟨rfl,h⟩
 |cons _ _=>cases h
def vS(e:Expr):Bool:=match e with
 |.Constant (.bool true) _ _=>true
 |_=>false
theorem vU(h:vS e=true):∃j p,e=.Constant (.bool true) j p:=by
 unfold vS at h;split at h
 ·exact⟨_,_,rfl⟩
 ·cases h
mutual
noncomputable def bf(Γ:nV):IE->Expr->Bool
 |.var i,e=>m8 (λx _=>Γ.N[i]?==some x&&Ht Γ.sc x) e
 |.cst d,e=>uH (λc _ _=>Ag c d) e
 |.con x d,e=>m8 (λy _=>x==y&&uK Γ.sc x && Γ.cons.any λp=>p.1==x&&uL p.2 d) e
 |.no,_=>false
 |.bin o a b,e=>Li (λl op r _=>Hu o op&&bf Γ a l&&bf Γ b r) e
 |.neg a,e=>O3 (λq1 l _=>Hf q1 .USub (bf Γ a l)) e
 |.cmp o a b,e=>Lj (λl q1 q2 _=>k1 (λop=>k1 (λr=>Lz o op && !behindInMarks op r&&bf Γ a l&&bf Γ b r) q2) q1) e
 |.chn _ _ _ _ _,_=>false
 |.and a b,e=>ql (λq1 q2 pos=>Hf q1 .And (kC (λl q3=>kC (λm r=>bf Γ a l&&(match r with|[]=>bf Γ b m|n::r'=>bf Γ b (.BoolOp .And (m::n::r') pos))) q3) q2)) e
 |.or a b,e=>ql (λq1 q2 pos=>Hf q1 .Or (kC (λl q3=>kC (λm r=>bf Γ a l&&(match r with|[]=>bf Γ b m|n::r'=>bf Γ b (.BoolOp .Or (m::n::r') pos))) q3) q2)) e
 |.not a,e=>O3 (λq1 l _=>Hf q1 .Not (bf Γ a l)) e
 |.ite _ _ _,_=>false
 |.tup es,e=>Lk (λls _ _=>aJ Γ es ls) e
 |.lst es,e=>Ll (λls _=>aJ Γ es ls) e
 |.idx a b,e=>CK (λl r _=>l6 r&&bf Γ a l&&bf Γ b r) e
 |.slc a lo hi,e=>CK (λl q1 _=>Lm (λl' h' q2 _=>Ab q2 (bf Γ a l&&(match l' with|none=>cy lo|some e=>!cy lo&&bf Γ lo e)&&(match h' with|none=>cy hi|some e=>!cy hi&&bf Γ hi e))) q1) e
 |.call j es,e=>Ac (λx _ args _=>uK Γ.sc x && Γ.fns[j]?==some (x,args.length)&&decide (args.length<1000)&&aJ Γ es args) e
 | .blt b es,e=>Ac (λx _ args _=>uK Γ.sc x&&x==LA b&&(match b with
   |.isin T=>(match args with|[a,.Name y _]=>uK Γ.sc y&&y==(T:Str)&&["list","tuple","str","bool","int","dict"].contains T&&aJ Γ es [a]|_=>false)
   |_=>!args.isEmpty&&aJ Γ es args)) e
 |.met m a es,e=>Lp (λo x ap args cp=>x==RW m&&superB o && !args.isEmpty&&decide (args.length<29)&&ap.endLine==cp.line&&bf Γ a o&&aJ Γ es args) e
 | .comp N' js pat k it c elt,e=>Et (λe q1 scope _=>k1 (λq2=>Lq (λtg iter ifs q3=>Hf q3 0 (iL Γ.N Γ.sc scope N' js&&vV Γ k it iter&&decide (N'.Nodup)&&yj (Γ.Ez scope N') pat tg&&((sj pat).all λi=>js[i]?==some none)&&(match k,pat with|.enum,.one _=>false|.zip,.one _=>false|_,_=>true) &&
   (match ifs with|[]=>cy c|[t]=>!cy c&&bf (Γ.Ez scope N') c t|_=>false)&&bf (Γ.Ez scope N') elt e)) q2) q1) e
 |.dct0,e=>Aa (λq1 q2 _=>oh q1 (oh q2 (true))) e
 |.sset a,e=>Ac (λx _ q1 _=>k1 (λq2=>Ac (λy _ q3 _=>k1 (λl=>x==("sorted":Str)&&y==("set":Str)&&uK Γ.sc x&&uK Γ.sc y&&noStar l&&bf Γ a l) q3) q2) q1) e
 |.dget d k x,e=>Lp (λo m ap q1 cp=>k2 (λa b=>m==("get":Str)&&superB o&&noStar a&&noStar b&&ap.endLine==cp.line&&bf Γ d o&&bf Γ k a&&bf Γ x b) q1) e
 |.dct1 k v,e=>Aa (λq1 q2 _=>k2 (λq3 q4=>vQ (λa=>vQ (λb=>k2 (λva vb=>bf Γ k a&&bf Γ v b&&vS va&&vS vb) q2) q4) q3) q1) e
 |.lkeys d,e=>Ac (λx _ q1 _=>k1 (λq2=>Lp (λo m ap q3 cp=>oh q3 (x==("list":Str)&&m==("keys":Str)&&uK Γ.sc x&&superB o&&ap.endLine==cp.line&&bf Γ d o)) q2) q1) e||Ac (λx _ q1 _=>k1 (λq2=>m8 (λy q=>x==("list":Str)&&uK Γ.sc x&&bf Γ d (.Name y q)) q2) q1) e
 |.sdef _ _ _,_=>false
 |.svals _,_=>false
 |.skeys d,e=>Ac (λx _ q1 _=>k1 (λq2=>Lp (λo m ap q3 cp=>oh q3 (x==("sorted":Str)&&m==("keys":Str)&&uK Γ.sc x&&superB o&&ap.endLine==cp.line&&bf Γ d o)) q2) q1) e||Ac (λx _ q1 _=>k1 (λq2=>m8 (λy q=>x==("sorted":Str)&&uK Γ.sc x&&bf Γ d (.Name y q)) q2) q1) e
 |.fld _ _ _,_=>false
 |.rev _ _,_=>false
 |.dflt _ _ _ _ _ _,_=>false
 |.isc _ _ _,_=>false
 |.mth _ _ _ _,_=>false
noncomputable def aJ(Γ:nV):jt->List Expr->Bool
 |.nil,ls=>ls.isEmpty
 | .cons e es,ls=>match ls with
  |l::ls=>noStar l&&bf Γ e l&&aJ Γ es ls
  |[]=>false
noncomputable def vV(Γ:nV)(k:Ik):jt->Expr->Bool
 |.nil,_=>false
 | .cons e es,l=>match k with
  |.seq=>Hw es&&(CQ l&&bf Γ e l)
  |.range=>Ac (λx _ as _=>kC (λa args=>x==("range":Str)&&uK Γ.sc x&&noStar a&&bf Γ e a&&aJ Γ es args&&decide (args.length<2)) as) l
  |.enum=>Hw es&&Ac (λx _ as _=>k1 (λa=>x==("enumerate":Str)&&uK Γ.sc x&&noStar a&&bf Γ e a) as) l
  |.zip=>false
end
abbrev Fn:=Nat->List Val->M Val
def bZ(K:Frag)(ρ:List Addr)(env:Env)(σ:L2.St)(H:Hp):Prop:=∀(i:Nat) (v:Val),env[i]?=some (some v)->∃x,σ[i]?=some (some x)/\VR K ρ H v x
theorem bZ.jd{K:Frag}{ρ ρ':List Addr}{env:Env}{σ:L2.St}{H H':Hp}(e:bZ K ρ env σ H)(g:Gw ρ H ρ' H'):bZ K ρ' env σ H':=λi v q=>by
 obtain⟨x,q1,q2⟩:=e i v q;exact⟨x,q1,VR.jd g v x q2⟩
theorem bZ.up{K:Frag}{ρ ρ':List Addr}{env:Env}{σ:L2.St}{H H':Hp}(e:bZ K ρ env σ H)(g:Gr ρ H ρ' H'):bZ K ρ' env σ H':=e.jd g.w
def RX(K:Frag)(Q:List V->Hp->Prop):List Val->Hs->List Addr->Hp->Prop:=λvs _ ρ' H'=>∀xs,aq K ρ' H' vs xs->Q xs H'
def WT(Q:Bool->Hp->Prop):Bool->Hs->List Addr->Hp->Prop:=λb _ _ H'=>Q b H'
def JV(Φ:Fn)(ir:IE)(env:Env):M Bool:=bnd (aG Φ ir env) λx=>ask λh=>cG h x
def tV(Φ:Fn)(B:Bd)(EX:Nat->List V->Hp->Prop)(ir:IE):TE:=λσ H Q=>∃ρ env h,bZ B.K ρ env σ H/\HR B ρ h H/\Post B EX ρ H (WV B.K Q) (aG Φ ir env h)
def Qz(Φ:Fn)(B:Bd)(EX:Nat->List V->Hp->Prop)(dh:jt):TA:=λσ H Q=>∃ρ env h,bZ B.K ρ env σ H/\HR B ρ h H/\Post B EX ρ H (RX B.K Q) (aZ Φ dh env h)
def tT(Φ:Fn)(B:Bd)(EX:Nat->List V->Hp->Prop)(ir:IE):TT:=λσ H Q=>∃ρ env h,bZ B.K ρ env σ H/\HR B ρ h H/\Post B EX ρ H (WT Q) (JV Φ ir env h)
theorem _root_.L2.PE.imp(h:PE X e t)(i:∀σ H Q,t' σ H Q->t σ H Q):PE X e t':=λpins s σ H Q I hw=>h pins s σ H Q I (i σ H Q hw)
theorem _root_.L2.PT.imp(h:PT X e t)(i:∀σ H Q,t' σ H Q->t σ H Q):PT X e t':=λpins s σ H Q I hw=>h pins s σ H Q I (i σ H Q hw)
theorem _root_.L2.PA.imp(h:PA X es t)(i:∀σ H Q,t' σ H Q->t σ H Q):PA X es t':=λpos pins s σ H Q I hw=>h pos pins s σ H Q I (i σ H Q hw)
theorem _root_.L2.PO.imp(h:PO X e t)(i:∀σ H Q,t' σ H Q->t σ H Q):PO X e t':=λpins s σ H Q I hw=>h pins s σ H Q I (i σ H Q hw)
theorem _root_.L2.PI.imp(h:PI X tg iter t)(i:∀σ H R,t' σ H R->t σ H R):PI X tg iter t':=λpins s σ H R I hw=>h pins s σ H R I (i σ H R hw)
theorem aO{α β γ:Type}(m:M α)(f:α -> M β)(g:β -> M γ):bnd (bnd m f) g=bnd m λx=>bnd (f x) g:=by
 funext h;show (match (match m h with|.ok a h'=>f a h'|.exc c vs h'=>.exc c vs h'|.no=>.no) with|.ok a h'=>g a h'|.exc c vs h'=>.exc c vs h'|.no=>.no)=(match m h with|.ok a h'=>bnd (f a) g h'|.exc c vs h'=>.exc c vs h'|.no=>.no);cases m h<;>rfl
theorem cz{α β:Type}(a:α)(f:α -> M β):bnd (ret a) f=f a:=rfl
def su(B:Bd)(n:Nat)(φ:List Val->M Val):Sp:=λxs H Q _=>∃ρ h vs,vs.length=n/\HR B ρ h H/\aq B.K ρ H vs xs/\Post B (λ_ _ _=>False) ρ H (WV B.K Q) (φ vs h)
def JW(P:Program)(w:World)(B:Bd)(mg:Str->Option Value)(base:Heap)(k:Nat)(j:Nat)(x:Str)(n:Nat)(φ:List Val->M Val):Prop :=
 (n<1000/\((∃(f:Addr) (fd:FuncData) (ps:List Str),ps.length=n/\mg x=some (.ref f)/\keepIn B.K (.ref f)=true/\Binds B.K fd ps []/\cE P w B.K mg base rm k f fd ps (su B n φ)) \/
  ∃(c:Nat) (f:Addr) (fd:FuncData) (ps:List Str) (φ0:List Val->M Val),φ = Qw c φ0/\ps.length=n+1/\mg x=some (.ref (B.cl c))/\Mk B.K (B.cl c) f/\Binds B.K fd ps []/\cE P w B.K mg base rm k f fd ps (su B (n+1) φ0))) \/
 (1000<=n/\∃(fd:FuncData) (ps:List Str),ps.length=n-1000/\Binds B.K fd ps []/\cE P w B.K mg base rm k (B.cl (1000+j)) fd ps (su B (n-1000) φ))
def bltNames:List Str:=["len","min","max","sorted","list","tuple","str","all","any","isinstance","range","enumerate","int","bool","dict","set","zip"]
structure Ctx (Φ:Fn) (Γ:nV) (k:Nat) (X:Cx) (cl:Nat->Addr) (EX:Nat->List V->Hp->Prop):Prop where
 N:X.N = Γ.N
 sc:X.env.scope = Γ.sc
 calm:X.calm=true
 room:cD (k+1) X.A
 jC:∀c xs H,¬ EX c xs H
 fns:∀j x n,Γ.fns[j]?=some (x,n)->JW X.prog X.w (bd X cl) X.mg X.base k j x n (Φ j)
 cls:∀c,c < Γ.tb.nc->Qd X.K (cl c)/\∀x ∈ Γ.tb.Ly,yY X.K (cl c) x
 CO:∀p ∈ Γ.tb.CO,Meth X.K (cl p.1) p.2.1 (cl (1000+p.2.2))
 CP:∀p ∈ Γ.tb.CP,∃C,X.mg p.1=some (.ref C)/\La X.K C p.2.1 (cl (1000+p.2.2))
 isc:∀p ∈ Γ.tb.isc,∃C,X.mg p.1=some (.ref C)/\∀c b,p.2[c]?=some b->Qv X.K (cl c)/\kitOne X.K (.ref (cl c)) (.ref C)=some b
 cons:∀p ∈ Γ.cons,∃v u,X.mg p.1=some u/\RelV v u/\∀K ρ H,VR K ρ H p.2 v
 blt:∀x∈bltNames,X.mg x=none
section
variable {Φ:Fn} {Γ:nV} {k:Nat} {X:Cx} {cl:Nat->Addr} {EX:Nat->List V->Hp->Prop}
theorem Ctx.units(c:Ctx Φ Γ k X cl EX):X.A.units+64<cLine:=c.room.units
theorem Ctx.vis(c:Ctx Φ Γ k X cl EX)(h:Ht Γ.sc x=true):JN X.env.scope x/\(x==("__debug__":Str))=false/\(x==("__classdict__":Str))=false:=by
 unfold Ht at h;simp only[and_eq_true,or_eq_true,beq_iff_eq,not_eq_true']at h;obtain⟨⟨h1,h2⟩,h3⟩:=h;refine⟨?_,h2,h3⟩;unfold JN;rw[c.sc]
 rcases h1 with (z|z)|z
 ·exact .inl z
 ·exact .inr (.inl z)
 ·exact .inr (.inr z)
theorem Ctx.gl(c:Ctx Φ Γ k X cl EX)(h:uK Γ.sc x=true):Gl X x/\(x==("__debug__":Str))=false/\x ≠ "__name__":=by
 unfold uK at h;simp only[and_eq_true,beq_iff_eq,not_eq_true']at h;obtain⟨⟨h1,h2⟩,h3⟩:=h;refine⟨?_,h2,λz=>by rw[z]at h3;simp at h3⟩;show X.env.scope.names.lookup x=_;rw[c.sc];exact h1
theorem Ctx.Ez(c:Ctx Φ Γ k X cl EX)(scope:Scope)(N':List Str)(cls:List (Str×Addr))(C:Addr)(s:Shared)(H:Hp)(fp:List Addr):Ctx Φ (Γ.Ez scope N') k (bz X scope N' cls C s H fp) cl EX:=by
 refine⟨rfl,?_,c.calm,c.room,c.jC,c.fns,c.cls,c.CO,c.CP,c.isc,c.cons,c.blt⟩;show relabel scope X.env=Ey scope Γ.sc;rw[<-c.sc];rfl
theorem bB(h:noStar e=true):starEach (e::es) env=(false,eval e env)::starEach es env:=by
 cases e<;>first|rfl|(simp[noStar]at h)
theorem gg:∀{es:List Expr} {dh:jt},aJ Γ dh es=true->(backTo pos (starEach es env)).any (·.1)=false
 |[],_,_=>rfl
 |e::es,.nil,h=>by simp[aJ]at h
 | e::es,.cons i dh,h=>by
  simp only[aJ,and_eq_true]at h;rw[bB h.1.1];show (false||(backTo pos (starEach es env)).any (·.1))=false;rw[gg (dh:=dh) h.2];rfl
theorem Ai(h:aJ Γ dh es=true):(backTo pos (starEach es env)).all (λx=>!x.1)=true:=by
 have q:=gg (pos:=pos) (env:=env) h;rw[Ws];intro x hx;have:=List.any_eq_false.mp q x hx;simpa using this
theorem uM(h:l6 e=true):vm e:=by
 intro o i;cases e<;>first|rfl|(simp[l6]at h)
theorem super_ok(h:superB e=true):attributeBase e x env whole=whole:=by
 cases e<;>first
  |rfl
  |skip
 rename_i f args kws pos;cases f<;>first
  |rfl
  |skip
 cases args with
 |cons a r=>rfl
 |nil=>
  cases kws with
  |cons a r=>rfl
  |nil=>simp[superB]at h
theorem cS(q:PE X e (tV Φ (bd X cl) EX ir))(he:∀whole,isTrue e X.env whole=(do let v <-whole;standAt e.pos;holding [v] (truthy v))):PT X e (tT Φ (bd X cl) EX ir) :=
 (yW q he).imp λσ H Q ⟨ρ,env,h,hE,r,p⟩=>⟨ρ,env,h,hE,r,aA p λv h1 ρ1 x H1 g1 r1 q1 p1=>by
  obtain⟨b,e,w⟩:=cH r1 p1;exact⟨b,GJ r1 q1 e,w⟩⟩
theorem yV:Nn X (unaryOp .USub) (λx H Q=>∃i,x=.int i/\Q (.int (-i)) H):=by
 intro pins s σ H x v Q I rx h;obtain⟨i,rfl,q⟩:=h;obtain⟨t,rfl⟩:=rx;exact neg_int ⟨.int (-i),H,I.tok _,⟨_,rfl⟩,q⟩
theorem EA(h:PT X (.BoolOp op vs pos) t):PW X (.BoolOp op vs pos) t:=λwhole pins s σ H Q I hw=>h pins s σ H Q I hw
def bG(Φ:Fn)(ir:IE):Prop:=∀(Γ:nV) (k:Nat) (X:Cx) (cl:Nat->Addr) (EX:Nat->List V->Hp->Prop) (e:Expr),Ctx Φ Γ k X cl EX->bf Γ ir e=true->PE X e (tV Φ (bd X cl) EX ir)/\PT X e (tT Φ (bd X cl) EX ir)
def iU(Φ:Fn)(dh:jt):Prop:=(∀(Γ:nV) (k:Nat) (X:Cx) (cl:Nat->Addr) (EX:Nat->List V->Hp->Prop) (es:List Expr),Ctx Φ Γ k X cl EX->aJ Γ dh es=true->PA X es (Qz Φ (bd X cl) EX dh))/\match dh with
 |.nil=>True
 | .cons e r=>bG Φ e/\match r with
  |.nil=>True
  |.cons e' _=>bG Φ e'
theorem CS(h:Hu o op=true):op=zZ o:=Ud h
theorem CT(h:Lz o op=true):op=vK o:=Ud h
theorem fh(hs:∀env h,aG Φ ir env h=.no):bG Φ ir:=by
 intro Γ k X cl EX e c h;exact⟨λpins s σ H Q I ⟨ρ,env,h,hE,r,p⟩=>by rw[hs]at p;exact p.elim,λpins s σ H Q I ⟨ρ,env,h,hE,r,p⟩=>by unfold JV bnd at p;rw[hs]at p;exact p.elim⟩
theorem Hx{i:Nat}:bG Φ (.var i):=by
 intro Γ k X cl EX e c h;apply lZ h;intro x pos h;simp only[and_eq_true,beq_iff_eq]at h;obtain⟨v1,v2,v3⟩:=c.vis h.2;have q:PE X (.Name x pos) (tV Φ (bd X cl) EX (.var i)):=by refine(jk (by rw[c.N];exact h.1) v1 v2 v3).imp λσ H Q aE=>?_;obtain⟨ρ,env,h,hE,r,p⟩:=aE;rw[aG.eq_def]at p;dsimp only at p;obtain⟨d,e1,w⟩:=bQ r p;split at e1<;>cases e1;rename_i e1;obtain⟨x,e2,e3⟩:=hE i d e1;exact⟨x,e2,w x e3⟩
 exact⟨q,cS q λ_=>rfl⟩
theorem Hy:bG Φ (.cst d):=by
 intro Γ k X cl EX e c h;apply se h;intro cc j pos h;have q:PE X (.Constant cc j pos) (tV Φ (bd X cl) EX (.cst d)):=by
  unfold Ag at h;split at h<;>first|cases h|skip
  ·refine yO.imp λσ H Q aE=>?_;obtain⟨ρ,env,h,hE,r,p⟩:=aE;simp only[aG]at p;exact ai r p _ VR.non
  ·cases eq_of_beq h;refine vd.imp λσ H Q aE=>?_;obtain⟨ρ,env,h,hE,r,p⟩:=aE;simp only[aG]at p;exact ai r p _ VR.bl
  ·cases eq_of_beq h;refine Fe.imp λσ H Q aE=>?_;obtain⟨ρ,env,h,hE,r,p⟩:=aE;simp only[aG]at p;exact ai r p _ VR.int
  ·cases eq_of_beq h;refine Ff.imp λσ H Q aE=>?_;obtain⟨ρ,env,h,hE,r,p⟩:=aE;simp only[aG]at p;exact ai r p _ VR.str
 exact⟨q,cS q λ_=>rfl⟩
theorem yk(h:uL a b=true):a=b:=by
 unfold uL at h;split at h<;>first|rfl|(cases eq_of_beq h;rfl)|cases h
theorem Hz:bG Φ (.con x d):=by
 intro Γ k X cl EX e c h;apply lZ h;intro y pos h;simp only[and_eq_true,beq_iff_eq]at h;obtain⟨⟨h1,h2⟩,h3⟩:=h;subst h1;obtain⟨g1,g2,g3⟩:=c.gl h2;obtain⟨p,hp,h4⟩:=List.any_eq_true.mp h3;simp only[and_eq_true,beq_iff_eq]at h4;obtain⟨v,u,m1,m2,m3⟩:=c.cons p hp;rw[h4.1]at m1;have q:PE X (.Name x pos) (tV Φ (bd X cl) EX (.con x d)):=by refine(jD g1 m1 m2 g2).imp λσ H Q aE=>?_;obtain⟨ρ,env,h,hE,r,p⟩:=aE;simp only[aG]at p;exact ai r p _ (by rw[<-yk h4.2];exact m3 _ _ _)
 exact⟨q,cS q λ_=>rfl⟩
theorem LB:bG Φ .no:=by
 intro Γ k X cl EX e c h
 (conv at h=>lhs;whnf);cases h
theorem Aj:iU Φ .nil:=by
 refine⟨fun Γ k X cl EX es c h=>?_,trivial⟩;rw[aJ]at h;cases es with
 |cons a r=>cases h
 |nil=>refine gZ.imp λσ H Q aE=>?_;obtain⟨ρ,env,h,hE,r,p⟩:=aE;simp only[aZ]at p;exact ai r p _ aq.nil
theorem vW(h1:bG Φ e)(h2:iU Φ es):iU Φ (.cons e es):=by
 refine⟨fun Γ k X cl EX ls c h=>?_,h1,?_⟩
 ·rw[aJ.eq_def]at h;dsimp only at h
  cases ls with
  |nil=>cases h
  |cons l ls=>simp only[and_eq_true]at h;refine(bL (h1 Γ k X cl EX l c h.1.2).1 (h2.1 Γ k X cl EX ls c h.2) (bB h.1.1)).imp λσ H Q aE=>?_;obtain⟨ρ,env,h,hE,r,p⟩:=aE;simp only[aZ]at p;refine⟨ρ,env,h,hE,r,aA p λv h1 ρ1 x H1 g1 r1 q1 p1=>⟨ρ1,env,h1,hE.up g1,r1,aW p1 λvs h2 ρ2 H2 g2 r2 p2 xs q2=>?_⟩⟩;exact ai r2 p2 _ (aq.cons (VR.up g2 _ _ q1) q2)
 ·cases es with
  |nil=>trivial
  |cons e' r=>exact h2.2.1
theorem HD(ha:bG Φ a)(hb:bG Φ b):bG Φ (.bin o a b):=by
 intro Γ k X cl EX e c h;apply GV h;intro l op r pos h;simp only[and_eq_true]at h;obtain⟨⟨h1,h2⟩,h3⟩:=h;have eo:op=zZ o:=CS h1;subst eo;have q:PE X (.BinOp l (zZ o) r pos) (tV Φ (bd X cl) EX (.bin o a b)):=by refine(Kw (GG (cl:=cl) (EX:=EX) o) (ha Γ k X cl EX l c h2).1 (hb Γ k X cl EX r c h3).1).imp λσ H Q aE=>?_;obtain⟨ρ,env,h,hE,r,p⟩:=aE;simp only[aG]at p;exact⟨ρ,env,h,hE,r,aA p λv h1 ρ1 x H1 g1 r1 q1 p1=>⟨ρ1,env,h1,hE.up g1,r1,aA p1 λw h2 ρ2 y H2 g2 r2 q2 p2=>⟨ρ2,h2,v,w,r2,VR.up g2 _ _ q1,q2,p2⟩⟩⟩
 exact⟨q,cS q λ_=>rfl⟩
theorem HE(ha:bG Φ a):bG Φ (.neg a):=by
 intro Γ k X cl EX e c h;apply Er h;intro q1 l pos h;apply sf h;intro h;have q:PE X (.UnaryOp .USub l pos) (tV Φ (bd X cl) EX (.neg a)):=by
  refine(Ky yV (ha Γ k X cl EX l c h).1).imp λσ H Q aE=>?_;obtain⟨ρ,env,h,hE,r,p⟩:=aE;simp only[aG]at p;refine⟨ρ,env,h,hE,r,aA p λv h1 ρ1 x H1 g1 r1 q1 p1=>?_⟩;cases v<;>first|exact p1.elim|skip
  rw[VR]at q1;exact⟨_,q1,ai r1 p1 _ VR.int⟩
 exact⟨q,cS q λ_=>rfl⟩
theorem HF(ha:bG Φ a)(hb:bG Φ b):bG Φ (.cmp o a b):=by
 intro Γ k X cl EX e c h;apply GW h;intro l q1 q2 pos h;apply m9 h;intro op h;apply m9 h;intro r h;simp only[and_eq_true,not_eq_true']at h;obtain⟨⟨⟨h1,h4⟩,h2⟩,h3⟩:=h;have eo:op=vK o:=CT h1;subst eo;refine⟨(BY (z7 (cl:=cl) c.units o) (ha Γ k X cl EX l c h2).1 (hb Γ k X cl EX r c h3).1 h4).imp λσ H Q ⟨ρ,env,h,hE,r,p⟩=>?_,(BZ (z7 (cl:=cl) c.units o) (ha Γ k X cl EX l c h2).1 (hb Γ k X cl EX r c h3).1 h4).imp λσ H Q ⟨ρ,env,h,hE,r,p⟩=>?_⟩
 ·simp only[aG]at p;refine⟨ρ,env,h,hE,r,aA p λv h1 ρ1 x H1 g1 r1 q1 p1=>⟨ρ1,env,h1,hE.up g1,r1,aA p1 λw h2 ρ2 y H2 g2 r2 q2 p2=>?_⟩⟩;obtain⟨t,e,p3⟩:=aB p2;exact⟨ρ2,h2,v,w,t,r2,VR.up g2 _ _ q1,q2,e,ai r2 p3 _ VR.bl⟩
 ·simp only[JV,aG,aO,cz]at p;refine⟨ρ,env,h,hE,r,aA p λv h1 ρ1 x H1 g1 r1 q1 p1=>⟨ρ1,env,h1,hE.up g1,r1,aA p1 λw h2 ρ2 y H2 g2 r2 q2 p2=>?_⟩⟩;obtain⟨t,e,p3⟩:=aB p2;obtain⟨t',e',w'⟩:=cH r2 p3;cases (show some t=some t' from e');exact⟨ρ2,h2,v,w,t,r2,VR.up g2 _ _ q1,q2,e,t,rfl,w'⟩
theorem HG(ha:bG Φ a)(hb:bG Φ b)(hd:bG Φ d):bG Φ (.chn o o' a b d):=fh λ_ _=>rfl
end
section
variable {B:Bd} {EX:Nat->List V->Hp->Prop} {ρ:List Addr} {H:Hp} {β:Type} {W:β -> Hs->List Addr->Hp->Prop} {h:Hs}
theorem post_bool(p:Post B EX ρ H W (bnd (ly v) f h)):∃t,v=.bl t/\Post B EX ρ H W (f t h):=by
 cases v with
 |bl t=>exact⟨t,rfl,p⟩
 |_=>exact p.elim
theorem kO(p:Post B EX ρ H W (bnd m F h))(k:∀v h1,Post B EX ρ H W (F v h1)->∃t,cG h1 v=some t/\∀ρ1 H1,Gr ρ H ρ1 H1->HR B ρ1 h1 H1->Q t H1) :
  Post B EX ρ H (WT Q) (bnd m (λx=>ask λh=>cG h x) h):=by
 unfold bnd at p |-;cases e:m h with
 |ok v h1=>
  rw[e]at p;obtain⟨t,e1,q⟩:=k v h1 p;show Post B EX ρ H (WT Q) (ask (λh=>cG h v) h1);have e2:ask (λh=>cG h v) h1=.ok t h1:=by unfold ask aN;dsimp only;rw[e1]
  rw[e2];exact λρ1 H1 g r=>q ρ1 H1 g r
 |exc c vs h1=>rw[e]at p;exact p
 |no=>rw[e]at p;exact p
end
section
variable {Φ:Fn} {Γ:nV} {k:Nat} {X:Cx} {cl:Nat->Addr} {EX:Nat->List V->Hp->Prop}
theorem HH(ha:bG Φ a)(hb:bG Φ b):bG Φ (.and a b):=by
 intro Γ k X cl EX e c h;apply pB h;intro q1 q2 pos h;apply sf h;intro h;apply uJ h;intro l q3 h;apply uJ h;intro m r h;simp only[and_eq_true]at h;obtain⟨h1,h2⟩:=h;have hB:PE X (.BoolOp .And (m::r) pos) (tV Φ (bd X cl) EX b)/\PW X (.BoolOp .And (m::r) pos) (tT Φ (bd X cl) EX b):=by
  cases r with
  |nil=>exact⟨tR (hb Γ k X cl EX m c h2).1,BN (hb Γ k X cl EX m c h2).2⟩
  |cons n r'=>exact⟨(hb Γ k X cl EX _ c h2).1,EA (hb Γ k X cl EX _ c h2).2⟩
 refine⟨(tU (ha Γ k X cl EX l c h1).1 hB.1).imp λσ H Q ⟨ρ,env,h,hE,r,p⟩=>?_,(Fi (ha Γ k X cl EX l c h1).2 hB.2).pt.imp λσ H Q ⟨ρ,env,h,hE,r,p⟩=>?_⟩
 ·simp only[aG]at p
  refine⟨ρ,env,h,hE,r,aA p λv h1 ρ1 x H1 g1 r1 q1 p1=>?_⟩;obtain⟨t,rfl,p2⟩:=post_bool p1;rw[VR]at q1;refine⟨t,q1,?_⟩;cases t with
  |true=>rw[T4 rfl]at p2 |-;refine⟨ρ1,env,h1,hE.up g1,r1,aA p2 λw h2 ρ2 y H2 g2 r2 q2 p3=>?_⟩;obtain⟨u,rfl,p4⟩:=post_bool p3;exact ai r2 p4 _ q2
  |false=>rw[TX TH]at p2 |-;exact ai r1 p2 _ VR.bl
 ·simp only[JV,aG,aO]at p
  refine⟨ρ,env,h,hE,r,kO p λv h1 p1=>?_⟩;obtain⟨t,rfl,p2⟩:=post_bool p1;refine⟨t,rfl,λρ1 H1 g1 r1=>?_⟩;have p2:=Post.up g1 p2;cases t with
  |true=>rw[T4 rfl]at p2 |-;simp only[aO,cz]at p2;refine⟨ρ1,env,h1,hE.up g1,r1,kO p2 λw h2 p3=>?_⟩;obtain⟨u,rfl,p4⟩:=post_bool p3;exact⟨u,rfl,λρ2 H2 g2 r2=>by obtain⟨t',e',w'⟩:=cH r2 (Post.up g2 p4);cases (show some u=some t' from e');exact w'⟩
  |false=>rw[TX TH]at p2 |-;obtain⟨t',e',w'⟩:=cH r1 (show Post _ _ ρ1 H1 _ (ask (λh=>cG h (.bl false)) h1) from p2);cases (show some false=some t' from e');exact w'
theorem LC(ha:bG Φ a)(hb:bG Φ b):bG Φ (.or a b):=by
 intro Γ k X cl EX e c h;apply pB h;intro q1 q2 pos h;apply sf h;intro h;apply uJ h;intro l q3 h;apply uJ h;intro m r h;simp only[and_eq_true]at h;obtain⟨h1,h2⟩:=h;have hB:PE X (.BoolOp .Or (m::r) pos) (tV Φ (bd X cl) EX b)/\PW X (.BoolOp .Or (m::r) pos) (tT Φ (bd X cl) EX b):=by
  cases r with
  |nil=>exact⟨tR (hb Γ k X cl EX m c h2).1,Fg (hb Γ k X cl EX m c h2).2⟩
  |cons n r'=>exact⟨(hb Γ k X cl EX _ c h2).1,EA (hb Γ k X cl EX _ c h2).2⟩
 refine⟨(Kg (ha Γ k X cl EX l c h1).1 hB.1).imp λσ H Q ⟨ρ,env,h,hE,r,p⟩=>?_,(Kd (ha Γ k X cl EX l c h1).2 hB.2).pt.imp λσ H Q ⟨ρ,env,h,hE,r,p⟩=>?_⟩
 ·simp only[aG]at p
  refine⟨ρ,env,h,hE,r,aA p λv h1 ρ1 x H1 g1 r1 q1 p1=>?_⟩;obtain⟨t,rfl,p2⟩:=post_bool p1;rw[VR]at q1;refine⟨t,q1,?_⟩;cases t with
  |false=>rw[TX TH]at p2 |-;refine⟨ρ1,env,h1,hE.up g1,r1,aA p2 λw h2 ρ2 y H2 g2 r2 q2 p3=>?_⟩;obtain⟨u,rfl,p4⟩:=post_bool p3;exact ai r2 p4 _ q2
  |true=>rw[T4 rfl]at p2 |-;exact ai r1 p2 _ VR.bl
 ·simp only[JV,aG,aO]at p
  refine⟨ρ,env,h,hE,r,kO p λv h1 p1=>?_⟩;obtain⟨t,rfl,p2⟩:=post_bool p1;refine⟨t,rfl,λρ1 H1 g1 r1=>?_⟩;have p2:=Post.up g1 p2;cases t with
  |false=>rw[TX TH]at p2 |-;simp only[aO,cz]at p2;refine⟨ρ1,env,h1,hE.up g1,r1,kO p2 λw h2 p3=>?_⟩;obtain⟨u,rfl,p4⟩:=post_bool p3;exact⟨u,rfl,λρ2 H2 g2 r2=>by obtain⟨t',e',w'⟩:=cH r2 (Post.up g2 p4);cases (show some u=some t' from e');exact w'⟩
  |true=>rw[T4 rfl]at p2 |-;obtain⟨t',e',w'⟩:=cH r1 (show Post _ _ ρ1 H1 _ (ask (λh=>cG h (.bl true)) h1) from p2);cases (show some true=some t' from e');exact w'
theorem HJ(ha:bG Φ a):bG Φ (.not a):=by
 intro Γ k X cl EX e c h;apply Er h;intro q1 l pos h;apply sf h;intro h;refine⟨(yP (ha Γ k X cl EX l c h).1).imp λσ H Q ⟨ρ,env,h,hE,r,p⟩=>?_,(Fj (ha Γ k X cl EX l c h).2).imp λσ H Q ⟨ρ,env,h,hE,r,p⟩=>?_⟩
 ·simp only[aG]at p;refine⟨ρ,env,h,hE,r,aA p λv h1 ρ1 x H1 g1 r1 q1 p1=>?_⟩;obtain⟨t,rfl,p2⟩:=post_bool p1;rw[VR]at q1;exact⟨t,q1,ai r1 p2 _ VR.bl⟩
 ·simp only[JV,aG,aO]at p;refine⟨ρ,env,h,hE,r,kO p λv h1 p1=>?_⟩;obtain⟨t,rfl,p2⟩:=post_bool p1;refine⟨t,rfl,λρ1 H1 g1 r1=>?_⟩;obtain⟨t',e',w'⟩:=cH r1 (show Post _ _ ρ1 H1 _ (ask (λh=>cG h (.bl (!t))) h1) from Post.up g1 p2);cases (show some (!t)=some t' from e');exact w'
theorem HK(ht:bG Φ t)(ha:bG Φ a)(hb:bG Φ b):bG Φ (.ite t a b):=fh λ_ _=>rfl
theorem HL(hs:iU Φ es):bG Φ (.tup es):=by
 intro Γ k X cl EX e c h;apply GX h;intro ls x1 pos h;have q:PE X (.Tuple ls x1 pos) (tV Φ (bd X cl) EX (.tup es)):=by refine(yZ (hs.1 Γ k X cl EX ls c h)).imp λσ H Q aE=>?_;obtain⟨ρ,env,h,hE,r,p⟩:=aE;simp only[aG]at p;refine⟨ρ,env,h,hE,r,aW p λvs h1 ρ1 H1 g1 r1 p1 xs q1=>?_⟩;obtain⟨e1,p2⟩:=aH p1;exact⟨by rw[<-q1.length];exact Ud e1,λq hq=>mZ r1 hq q1 p2⟩
 exact⟨q,cS q λ_=>rfl⟩
theorem HM(hs:iU Φ es):bG Φ (.lst es):=by
 intro Γ k X cl EX e c h;apply GY h;intro ls pos h;have q:PE X (.List ls pos) (tV Φ (bd X cl) EX (.lst es)):=by refine(FT (hs.1 Γ k X cl EX ls c h)).imp λσ H Q aE=>?_;obtain⟨ρ,env,h,hE,r,p⟩:=aE;simp only[aG]at p;refine⟨ρ,env,h,hE,r,aW p λvs h1 ρ1 H1 g1 r1 p1 xs q1=>?_⟩;obtain⟨e1,p2⟩:=aH p1;exact⟨by rw[<-q1.length];exact Ud e1,λq hq=>cJ r1 hq q1 p2⟩
 exact⟨q,cS q λ_=>rfl⟩
theorem CU:bG Φ .dct0:=by
 intro Γ k X cl EX e c h;apply vO h;intro q1 q2 pos h;apply jw h;intro h;apply jw h;intro h;have q:PE X (.Dict [] [] pos) (tV Φ (bd X cl) EX .dct0):=by refine(zh (X:=X) (pos:=pos)).imp λσ H Q aE=>?_;obtain⟨ρ,env,h,hE,r,p⟩:=aE;simp only[aG]at p;exact λa ha=>r9 (o:=.dct []) (O:=.dK []) r ha ⟨[],av,(by rw[fU])⟩ p
 exact⟨q,cS q λ_=>rfl⟩
theorem HN(ha:bG Φ a)(hb:bG Φ b):bG Φ (.idx a b):=by
 intro Γ k X cl EX e c h;apply uI h;intro l r pos h;simp only[and_eq_true]at h;have q:PE X (.Subscript l r pos) (tV Φ (bd X cl) EX (.idx a b)):=by refine(KO (GK (cl:=cl) c.units) (ha Γ k X cl EX l c h.1.2).1 (hb Γ k X cl EX r c h.2).1 (uM h.1.1)).imp λσ H Q aE=>?_;obtain⟨ρ,env,h,hE,r,p⟩:=aE;simp only[aG]at p;refine⟨ρ,env,h,hE,r,aA p λv h1 ρ1 x H1 g1 r1 q1 p1=>⟨ρ1,env,h1,hE.up g1,r1,aA p1 λw h2 ρ2 y H2 g2 r2 q2 p2=>?_⟩⟩;obtain⟨z,e,w'⟩:=cH r2 p2;exact⟨ρ2,h2,v,w,z,r2,VR.up g2 _ _ q1,q2,e,w'⟩
 exact⟨q,cS q λ_=>rfl⟩
def LD(Φ:Fn)(ir:IE)(env:Env):M (Option Int):=if cy ir=true then ret none else bnd (aG Φ ir env) λv=>bnd (aN (iy v)) λi=>ret (some i)
def tP(Φ:Fn)(B:Bd)(EX:Nat->List V->Hp->Prop)(ir:IE):TO:=λσ H Q=>∃ρ env h,bZ B.K ρ env σ H/\HR B ρ h H/\Post B EX ρ H (λo _ _ H'=>Q o H') (LD Φ ir env h)
theorem yl{i:Int}(h:iy d=some i):d=.int i:=by cases d<;>cases h;rfl
theorem vX(hi:bG Φ ir)(c:Ctx Φ Γ k X cl EX)(h:(match o with|none=>cy ir|some e=>!cy ir&&bf Γ ir e)=true):PO X o (tP Φ (bd X cl) EX ir):=by
 cases o with
 |none=>refine B6.imp λσ H Q aE=>?_;obtain⟨ρ,env,h',hE,r,p⟩:=aE;unfold LD at p;rw[T4 h]at p;exact ai r p
 |some e=>simp only[and_eq_true,not_eq_true']at h;refine(B7 (hi Γ k X cl EX e c h.2).1).imp λσ H Q aE=>?_;obtain⟨ρ,env,h',hE,r,p⟩:=aE;unfold LD at p;rw[TX (by rw[h.1];exact TH)]at p;refine⟨ρ,env,h',hE,r,aA p λv h1 ρ1 x H1 g1 r1 q1 p1=>?_⟩;obtain⟨i,e1,p2⟩:=bJ p1;cases yl e1;rw[VR]at q1;exact⟨i,q1,ai r1 p2⟩
theorem HP{a lo hi:IE}(ha:bG Φ a)(hl:bG Φ lo)(hh:bG Φ hi):bG Φ (.slc a lo hi):=by
 intro Γ k X cl EX e c h;apply uI h;intro l q1 pos h;apply GZ h;intro l' h' q2 p2 h;apply vP h;intro h;simp only[and_eq_true]at h;have q:PE X (.Subscript l (.Slice l' h' none p2) pos) (tV Φ (bd X cl) EX (.slc a lo hi)):=by refine(zd (GL (cl:=cl) (EX:=EX)) (ha Γ k X cl EX l c h.1.1).1 (vX hl c h.1.2) (vX hh c h.2)).imp λσ H Q aE=>?_;obtain⟨ρ,env,h,hE,r,p⟩:=aE;simp only[aG]at p;refine⟨ρ,env,h,hE,r,aA p λv h1 ρ1 x H1 g1 r1 q1 p1=>⟨ρ1,env,h1,hE.up g1,r1,aW (m:=LD Φ lo env) p1 λlo' h2 ρ2 H2 g2 r2 p3=>⟨ρ2,env,h2,(hE.up g1).up g2,r2,aW (m:=LD Φ hi env) p3 λhi' h3 ρ3 H3 g3 r3 p4=>?_⟩⟩⟩;exact⟨ρ3,h3,v,r3,VR.up (g2.trans g3) _ _ q1,p4⟩
 exact⟨q,cS q λ_=>rfl⟩
theorem HQ(ha:bG Φ a)(hs:bG Φ sx):bG Φ (.rev a sx):=fh λ_ _=>rfl
theorem jR:∀{dh:jt} {ls:List Expr} {vs:List Val} {h h':Hs},aJ Γ dh ls=true->aZ Φ dh env h=.ok vs h'->vs.length=ls.length:=by
 intro dh
 induction dh using jt.rec (motive_1:=λ_=>True) with
 |nil=>
  intro ls ds h h' a b;rw[aJ]at a;simp only[aZ,ret]at b;cases b;cases ls with
  |nil=>rfl
  |cons _ _=>cases a
 |cons e es _ ih=>
  intro ls ds h h' a b;rw[aJ.eq_def]at a;dsimp only at a;cases ls with
  |nil=>cases a
  |cons l ls=>
   simp only[and_eq_true]at a;simp only[aZ,bnd]at b;cases e1:aG Φ e env h with
   |ok v h1=>
    rw[e1]at b;dsimp only at b;cases e2:aZ Φ es env h1 with
    |ok vs h2=>rw[e2]at b;cases b;simp[ih a.2 e2]
    |exc _ _ _=>rw[e2]at b;cases b
    |no=>rw[e2]at b;cases b
   |exc _ _ _=>rw[e1]at b;cases b
   |no=>rw[e1]at b;cases b
 |_=>trivial
theorem eL{α β:Type}{W:β -> Hs->List Addr->Hp->Prop}{W':α -> Hs->List Addr->Hp->Prop}{m:M α}{f:α -> M β}(p:Post B EX ρ H W (bnd m f h))(k:∀v h1 ρ1 H1,m h=.ok v h1->Gr ρ H ρ1 H1->HR B ρ1 h1 H1->Post B EX ρ1 H1 W (f v h1)->W' v h1 ρ1 H1):Post B EX ρ H W' (m h):=by
 unfold bnd at p;cases e:m h with
 |ok v h1=>rw[e]at p;exact λρ1 H1 g r=>k v h1 ρ1 H1 e g r (Post.up g p)
 |exc c vs h1=>rw[e]at p;exact p
 |no=>rw[e]at p;exact p
theorem gK{α:Type}{h:Hs}{W:α -> Hs->List Addr->Hp->Prop}{o:Out α}(n:∀c xs H,¬ EX c xs H)(p:Post B EX ρ H W o):Post B (λ_ _ _=>False) ρ H W o:=by
 cases o with
 |ok a h'=>exact p
 |exc c vs h'=>exact λρ' H' xs g r q=>n _ _ _ (p ρ' H' xs g r q)
 |no=>exact p
theorem vY{n c:Nat}{φ0:List Val->M Val}(r:HR B ρ h H)(hv:aq B.K ρ H vs xs)(hl:vs.length=n)(p:Post B (λ_ _ _=>False) ρ H (WV B.K Q) (Qw c φ0 vs h))
  (nx:H x=none) (nd:H dx=none) (ne:dx≠x):su B (n+1) φ0 (.ref x::xs) (upd (upd H dx (.own x)) x (.ins (B.cl c) dx [])) (λv H2=>v=.non/\Q (.ref x) H2) E:=by
 have r1:HR B ρ h (upd H dx (.own x)):=r.side nd;have QA:(upd H dx (.own x)) x=none:=by rw[aj λz=>ne z.symm];exact nx
 have g:Gr ρ H (ρ ++ [x]) (upd (upd H dx (.own x)) x (.ins (B.cl c) dx [])):=(Gr.side nd).trans (Gr.new QA);have r2:HR B (ρ ++ [x]) (h++[.ins c []]) (upd (upd H dx (.own x)) x (.ins (B.cl c) dx [])):=r1.new QA ⟨dx,[],av,rfl⟩;have hx:(ρ ++ [x])[h.length]?=some x:=by rw[<-r.len];simp
 refine⟨ρ ++ [x],h++[.ins c []],.ref h.length::vs,by simp[hl],r2,aq.cons (VR.ref hx) (aq.up g _ _ hv),?_⟩;have p2:Post B (λ_ _ _=>False) (ρ ++ [x]) (upd (upd H dx (.own x)) x (.ins (B.cl c) dx [])) (WV B.K Q) (bnd (φ0 (.ref h.length::vs)) (λr=>match r with|.non=>ret (.ref h.length)|_=>aN none) (h++[.ins c []])):=Post.up g p;refine aW p2 λv h1 ρ1 H1 g1 r3 p3 y hy=>?_;cases v<;>first|exact p3.elim|skip
 rw[VR]at hy;exact⟨hy,ai r3 p3 _ (VR.ref (qk g1.pre hx))⟩
theorem CV{j:Nat}{k:Nat}(hs:iU Φ es)(c:Ctx Φ Γ k X cl EX)
  (h:(uK Γ.sc x && Γ.fns[j]?==some (x,args.length)&&decide (args.length<1000)&&aJ Γ es args)=true):PE X (.Call (.Name x p) args [] pos) (tV Φ (bd X cl) EX (.call j es))/\PT X (.Call (.Name x p) args [] pos) (tT Φ (bd X cl) EX (.call j es)):=by
 simp only[and_eq_true,beq_iff_eq,decide_eq_true_eq]at h;obtain⟨⟨⟨h1,h2⟩,h3⟩,h4⟩:=h;obtain⟨g1,g2,g3⟩:=c.gl h1;have room:cD k X.A:=c.room.mono (UJ k);have q:PE X (.Call (.Name x p) args [] pos) (tV Φ (bd X cl) EX (.call j es)):=by
  rcases c.fns j x _ h2 with ⟨_,⟨f,fd,ps,f1,f2,f3,f4,f5⟩|⟨cc,f,fd,ps,φ0,f0,f1,f2,f3,f4,f5⟩⟩|⟨z,_⟩
  ·cases args with
   |nil=>
    cases es with
    |cons i dh=>rw[aJ.eq_def]at h4;cases h4
    |nil=>refine(za f5 room g1 f2 f3 f4 .nil rq g2).imp λσ H Q aE=>?_;obtain⟨ρ,env,h,hE,r,p⟩:=aE;simp only[aG,aZ,cz]at p;exact⟨ρ,h,[],rfl,r,aq.nil,gK (h:=h) c.jC p⟩
   |cons l ls=>
    cases es with
    |nil=>rw[aJ]at h4;cases h4
    |cons i dh=>have h5:=h4;rw[aJ.eq_def]at h5;dsimp only at h5;simp only[and_eq_true]at h5;refine(B0 f5 room g1 f2 f3 f4 .nil rq (hs.1 Γ k X cl EX _ c h4) g2 (bB h5.1.1) (gg h5.2)).imp λσ H Q aE=>?_;obtain⟨ρ,env,h,hE,r,p⟩:=aE;simp only[aG]at p;refine⟨ρ,env,h,hE,r,eL p λvs h1 ρ1 H1 e1 g1 r1 p1 xs q1=>⟨ρ1,h1,vs,jR h4 e1,r1,by rw[US];exact q1,gK (h:=h1) c.jC p1⟩⟩
  ·cases args with
   |nil=>
    cases es with
    |cons i dh=>rw[aJ.eq_def]at h4;cases h4
    |nil=>refine(zb f3 f5 c.room g1 f2 f4 .nil rq g2).imp λσ H Q aE=>?_;obtain⟨ρ,env,h,hE,r,p⟩:=aE;simp only[aG,aZ,cz]at p;intro y dy ny O5 O6;rw[f0]at p;exact vY (B:=bd X cl) r aq.nil rfl (gK (h:=h) c.jC p) ny O5 O6
   |cons l ls=>
    cases es with
    |nil=>rw[aJ]at h4;cases h4
    |cons i dh=>have h5:=h4;rw[aJ.eq_def]at h5;dsimp only at h5;simp only[and_eq_true]at h5;refine(B3 f3 f5 c.room g1 f2 f4 .nil rq (hs.1 Γ k X cl EX _ c h4) g2 (bB h5.1.1) (gg h5.2)).imp λσ H Q aE=>?_;obtain⟨ρ,env,h,hE,r,p⟩:=aE;simp only[aG]at p;refine⟨ρ,env,h,hE,r,eL p λvs h1 ρ1 H1 e1 g1 r1 p1 xs q1 y dy ny O5 O6=>?_⟩;rw[f0]at p1;rw[US];exact vY (B:=bd X cl) r1 q1 (jR h4 e1) (gK (h:=h1) c.jC p1) ny O5 O6
  ·omega
 exact⟨q,cS q λ_=>rfl⟩
theorem CW{j:Nat}(hs:iU Φ es):bG Φ (.call j es):=by
 intro Γ k X cl EX e c h;apply jQ h;intro x _ args _ h;exact CV hs c h
theorem HS{n:Nat}(ha:bG Φ a):bG Φ (.fld n a x):=fh λ_ _=>rfl
theorem HU(ha:bG Φ a)(hs:iU Φ es):bG Φ (.mth a m js es):=fh λ_ _=>rfl
end
section
variable {Φ:Fn} {Γ:nV} {k:Nat} {X:Cx} {cl:Nat->Addr} {EX:Nat->List V->Hp->Prop}
theorem HV:bootBuiltins "all" = some (.builtin "all"):=by decide +kernel
theorem HW:bootBuiltins "any" = some (.builtin "any"):=by decide +kernel
theorem iP:bootBuiltins "sorted" = some (.builtin "sorted"):=by decide +kernel
theorem HX:bootBuiltins "min" = some (.builtin "min"):=by decide +kernel
theorem HY:bootBuiltins "max" = some (.builtin "max"):=by decide +kernel
theorem vZ:bootBuiltins "list" = some (.type "list"):=by decide +kernel
theorem sy:bootBuiltins "tuple" = some (.type "tuple"):=by decide +kernel
theorem Ak:bootBuiltins "str" = some (.type "str"):=by decide +kernel
theorem Am:bootBuiltins "int" = some (.type "int"):=by decide +kernel
theorem CY:bootBuiltins "bool" = some (.type "bool"):=by decide +kernel
theorem CZ:bootBuiltins "dict" = some (.type "dict"):=by decide +kernel
theorem C0:bootBuiltins "isinstance" = some (.builtin "isinstance"):=by decide +kernel
theorem sD:aZ Φ #[e] env=bnd (aG Φ e env) λd=>ret [d]:=by
 simp only[aZ,cz]
theorem six{T:String}(h:["list","tuple","str","bool","int","dict"].contains T=true):T = "list" \/ T = "tuple" \/ T = "str" \/ T = "bool" \/ T = "int" \/ T = "dict":=by simpa using h
theorem C4{T:String}(h:["list","tuple","str","bool","int","dict"].contains T=true):(T:Str)∈bltNames/\bootBuiltins (T:Str)=some (.type T)/\(T:Str) ≠ "__name__" /\ ((T:Str)==("__debug__":Str))=false:=by
 rcases six h with rfl|rfl|rfl|rfl|rfl|rfl
 ·exact⟨by decide,vZ,by decide,by decide⟩
 ·exact⟨by decide,sy,by decide,by decide⟩
 ·exact⟨by decide,Ak,by decide,by decide⟩
 ·exact⟨by decide,CY,by decide,by decide⟩
 ·exact⟨by decide,Am,by decide,by decide⟩
 ·exact⟨by decide,CZ,by decide,by decide⟩
theorem C5{T:String}(hs:iU Φ es):bG Φ (.blt (.isin T) es):=by
 intro Γ k X cl EX e c h;apply jQ h;intro x p args pos h;simp only[and_eq_true,beq_iff_eq]at h;obtain⟨⟨h1,h2⟩,h3⟩:=h;subst h2;obtain⟨g1,g2,g3⟩:=c.gl h1;split at h3<;>first|cases h3|skip
 rename_i a y yp;simp only[and_eq_true,beq_iff_eq]at h3;obtain⟨⟨⟨k1,k2⟩,k3⟩,k4⟩:=h3;obtain⟨b1,b2,b3,b4⟩:=C4 k3;obtain⟨y1,y2,y3⟩:=c.gl k1;subst k2;cases es with
 |nil=>rw[aJ]at k4;cases k4
 |cons i dh=>
  rw[aJ.eq_def]at k4;dsimp only at k4;simp only[and_eq_true]at k4;cases dh with
  |cons j dh=>have:=k4.2;rw[aJ.eq_def]at this;cases this
  |nil=>
   have q:PE X (.Call (.Name (LA (.isin T)) p) [a,.Name (T:Str) yp] [] pos) (tV Φ (bd X cl) EX (.blt (.isin T) #[i])):=by refine(cu (CI (cl:=cl) (EX:=EX) (T:=T)) g1 (c.blt _ (show ("isinstance":Str)∈bltNames by decide)) C0 (bL (hs.2.1 Γ k X cl EX a c k4.1.2).1 (bL (ve (v:=.ty T) y1 (c.blt _ b1) b2 rfl b3 b4) gZ) (bB k4.1.1)) g3 g2 (bB k4.1.1)).imp λσ H Q aE=>?_;obtain⟨ρ,env,h,hE,r,p⟩:=aE;simp only[aG,sD,aO,cz]at p;exact⟨ρ,env,h,hE,r,aA p λv h1 ρ1 x H1 g1 r1 q1 p1=>⟨ρ1,h1,v,x,rfl,r1,q1,p1⟩⟩
   exact⟨q,cS q λ_=>rfl⟩
theorem HZ:bootBuiltins "set" = some (.type "set"):=by decide +kernel
theorem C6(ha:bG Φ a):bG Φ (.sset a):=by
 intro Γ k X cl EX e c h;apply jQ h;intro x p1 q1 pos1 h;apply m9 h;intro q2 h;apply jQ h;intro y p2 q3 pos2 h;apply m9 h;intro l h;simp only[and_eq_true,beq_iff_eq]at h;obtain⟨⟨⟨⟨⟨h1,h2⟩,h3⟩,h4⟩,h5⟩,h6⟩:=h;subst h1;subst h2;have q:PE X (.Call (.Name "sorted" p1) [.Call (.Name "set" p2) [l] [] pos2] [] pos1) (tV Φ (bd X cl) EX (.sset a)):=by have qe:=(ha Γ k X cl EX l c h6).1;intro pins s σ H Q I hh;have hd:X.A.handled=none:=I.ok.hd c.calm;refine((Cs hd (c.gl h3).1 (c.blt _ (by decide)) (c.gl h4).1 (c.blt _ (by decide)) iP HZ qe (bB (env:=X.env) (es:=[]) h5)).imp λσ H Q ⟨ρ,env,h,hE,r,p⟩=>?_) pins s σ H Q I hh;simp only[aG]at p;refine⟨ρ,env,h,hE,r,aA p λv h1 ρ1 x H1 g1 r1 q1 p1=>?_⟩;obtain⟨zs,e,p1⟩:=aB p1;obtain⟨ns,e1,p1⟩:=bJ p1;obtain⟨e2,p1⟩:=aH p1;obtain⟨b,ys,rfl,q2,q3⟩:=dz r1 q1 e;rw[cK e1]at q3;rw[aq.ints.mp q3]at q2;exact⟨b,ns,rfl,q2,Ud e2,λl hl=>cJ r1 hl (aq.ints.mpr rfl) p1⟩
 exact⟨q,cS q λ_=>rfl⟩
theorem C7{d k x:IE}(hd:bG Φ d)(hk:bG Φ k)(hx:bG Φ x):bG Φ (.dget d k x):=fh λ_ _=>rfl
theorem An(hd:bG Φ d):bG Φ (.lkeys d):=fh λ_ _=>rfl
theorem C8{d k x:IE}(hd:bG Φ d)(hk:bG Φ k)(hx:bG Φ x):bG Φ (.sdef d k x):=fh λ_ _=>rfl
theorem qo{α β:Type}{f:α -> β}:∀{l:List α},(l.map f).Nodup->∀a∈l,∀b∈l,f a=f b->a=b
 | x::l,h,a,ha,b,hb,e=>by
  rw[T6,UD]at h
  rcases T8.mp ha with e1|ha2
  ·rcases T8.mp hb with e2|hb2
   ·rw[e1,e2]
   ·rw[e1]at e;exact(h.1 (e▸Wb hb2)).elim
  ·rcases T8.mp hb with e2|hb2
   ·rw[e2]at e;exact(h.1 (e▸Wb ha2)).elim
   ·exact qo h.2 a ha2 b hb2 e
theorem v5{K:Frag}{ρ:List Addr}{H:Hp}:∀{kvs:List (Key×Val)} {ks:List (Key×V)},fU K ρ H kvs ks->ks.map (·.1)=kvs.map (·.1)
 |[],ks,q=>by rw[fU]at q;subst q;rfl
 | (k,v)::kvs,ks,q=>by
  rw[fU]at q;obtain⟨x,r,rfl,_,q⟩:=q;rw[T6,T6,v5 q]
theorem v7:∀{ks:List Key} {ns:List Int},o9 ks=some ns->ks=ns.map Sum.inl
 |[],ns,e=>by cases e;rfl
 | k::ks,ns,e=>by
  unfold o9 at e;rw[bM]at e;obtain⟨i,e1,e⟩:=Tz.mp e;obtain⟨r,e2,e⟩:=Tz.mp e;cases e;cases k with
  |inl j=>cases e1;rw[v7 e2];rfl
  |inr _=>cases e1
theorem pC{jl:Unit}:∀(σ:L2.St) (H:Hp) (Q:VK),tV Φ (bd X cl) EX (.skeys d) σ H Q->tSK (tV Φ (bd X cl) EX d) σ H Q:=λσ H Q ⟨ρ,env,h,hE,r,p⟩=>by
 simp only[aG]at p;refine⟨ρ,env,h,hE,r,aA p λv h1 ρ1 y H1 g1 r1 q1 p1=>?_⟩;obtain⟨Tq,e1,pA⟩:=aB p1;clear p1;unfold jv at e1;obtain⟨RY,e5,e6⟩:=Tz.mp e1;clear e1;obtain⟨ns,e3,e4⟩:=Tz.mp e6;clear e6;have e1:=e5;clear e5;cases v<;>first|(cases e1;done)|(rw[VR]at q1;exact q1.elim)|skip
 rename_i i;rw[VR]at q1;obtain⟨ad,rfl,q1⟩:=q1;have hdc:∃kvs,h1[i]?=some (.dct kvs)/\RY=kvs.map (·.1):=by
  change (match h1[i]? with|some (.dct kvs)=>some (kvs.map (·.1))|_=>none)=some _ at e1;split at e1
  ·rename_i kvs e2;cases e1;exact⟨kvs,e2,rfl⟩
  ·cases e1
 obtain⟨kvs,e2,rfl⟩:=hdc;obtain⟨ks,k1,k2⟩:=r1.ob i _ ad e2 q1
 by_cases hl:ns.length<64
 ·rw[T4 hl]at e4;cases e4;exact⟨ad,ks,ns,rfl,k1,(v5 k2).trans (v7 e3),hl,λl hl=>cJ r1 hl (aq.ints.mpr rfl) pA⟩
 ·rw[TX hl]at e4;cases e4
theorem Ao(hd:bG Φ d):bG Φ (.skeys d):=by
 intro Γ n X cl EX e c h
 rcases Qx h with h|h
 ·apply jQ h;intro x p q1 pos h
  apply m9 h;intro q2 h;apply Eu h;intro o m ap q3 cp h;apply jw h;intro h;simp only[and_eq_true,beq_iff_eq]at h;obtain⟨⟨⟨⟨⟨h1,h2⟩,h3⟩,h4⟩,h5⟩,h6⟩:=h;subst h1;subst h2;have q:PE X (.Call (.Name "sorted" p) [.Call (.Attribute o "keys" ap) [] [] cp] [] pos) (tV Φ (bd X cl) EX (.skeys d)):=by have qe:=(hd Γ n X cl EX o c h6).1;intro pins s σ H Q I hh;have hdl:X.A.handled=none:=I.ok.hd c.calm;exact((zL hdl (c.gl h3).1 (c.blt _ (by decide)) iP qe (super_ok h4) (by rw[h5];exact Wo _)).imp (pC (jl:=()))) pins s σ H Q I hh
  exact⟨q,cS q λ_=>rfl⟩
 ·apply jQ h;intro x p q1 pos h
  apply m9 h;intro q2 h;apply lZ h;intro y qp h;simp only[and_eq_true,beq_iff_eq]at h;obtain⟨⟨h1,h3⟩,h6⟩:=h;subst h1;have q:PE X (.Call (.Name "sorted" p) [.Name y qp] [] pos) (tV Φ (bd X cl) EX (.skeys d)):=by have qe:=(hd Γ n X cl EX _ c h6).1;intro pins s σ H Q I hh;have hdl:X.A.handled=none:=I.ok.hd c.calm;exact((x6 hdl (bB rfl) (c.gl h3).1 (c.blt _ (by decide)) iP qe).imp (pC (jl:=()))) pins s σ H Q I hh
  exact⟨q,cS q λ_=>rfl⟩
theorem Aq(hd:bG Φ d):bG Φ (.svals d):=fh λ_ _=>rfl
theorem Ia(hs:iU Φ es):bG Φ (.blt b es):=by
 cases b with
 |isin T=>exact C5 hs
 |_=>
  intro Γ k X cl EX e c h;apply jQ h;intro x p args pos h;simp only[and_eq_true,beq_iff_eq]at h;obtain⟨⟨h1,h2⟩,h3⟩:=h;subst h2;obtain⟨g1,g2,g3⟩:=c.gl h1;cases args with
  |nil=>cases h3.1
  |cons l ls=>
   cases es with
   |nil=>have:=h3.2;rw[aJ]at this;cases this
   |cons i dh=>
    have h5:=h3.2;rw[aJ.eq_def]at h5;dsimp only at h5;simp only[and_eq_true]at h5;have hA:=hs.1 Γ k X cl EX _ c h3.2;have st:=bB (env:=X.env) (es:=ls) h5.1.1;have an:=gg (pos:=pos) (env:=X.env) h5.2;refine(λq=>⟨q,cS q λ_=>rfl⟩) ?_
    first
     |refine(cu (GN (cl:=cl) (EX:=EX)) g1 (c.blt _ (by decide)) PySem.boot_len hA g3 g2 st an).imp λσ H Q ⟨ρ,env,h,hE,r,p⟩=>?_
     |refine(cu (GO (cl:=cl) (EX:=EX) c.calm) g1 (c.blt _ (by decide)) HX hA g3 g2 st an).imp λσ H Q ⟨ρ,env,h,hE,r,p⟩=>?_
     |refine(cu (GP (cl:=cl) (EX:=EX) c.calm) g1 (c.blt _ (by decide)) HY hA g3 g2 st an).imp λσ H Q ⟨ρ,env,h,hE,r,p⟩=>?_
     |refine(cu (yf (cl:=cl) (EX:=EX)) g1 (c.blt _ (by decide)) iP hA g3 g2 st an).imp λσ H Q ⟨ρ,env,h,hE,r,p⟩=>?_
     |refine(cu (GS (cl:=cl) (EX:=EX) c.calm) g1 (c.blt _ (by decide)) HV hA g3 g2 st an).imp λσ H Q ⟨ρ,env,h,hE,r,p⟩=>?_
     |refine(cu (GU (cl:=cl) (EX:=EX) c.calm) g1 (c.blt _ (by decide)) HW hA g3 g2 st an).imp λσ H Q ⟨ρ,env,h,hE,r,p⟩=>?_
     |refine(iK (CG (cl:=cl) (EX:=EX)) g1 (c.blt _ (by decide)) vZ hA g3 g2 st an).imp λσ H Q ⟨ρ,env,h,hE,r,p⟩=>?_
     |refine(iK (z8 (cl:=cl) (EX:=EX)) g1 (c.blt _ (by decide)) sy hA g3 g2 st an).imp λσ H Q ⟨ρ,env,h,hE,r,p⟩=>?_
     |refine(iK (GQ (cl:=cl) (EX:=EX)) g1 (c.blt _ (by decide)) Ak hA g3 g2 st an).imp λσ H Q ⟨ρ,env,h,hE,r,p⟩=>?_
     |refine(iK (GR (cl:=cl) (EX:=EX)) g1 (c.blt _ (by decide)) Am hA g3 g2 st an).imp λσ H Q ⟨ρ,env,h,hE,r,p⟩=>?_
    simp only[aG]at p;exact⟨ρ,env,h,hE,r,aW p λvs h1 ρ1 H1 g1 r1 p1 xs q1=>⟨ρ1,h1,vs,r1,q1,p1⟩⟩
def QB:Me->String
 |.join=>"str" | .append=>"list" | .extend=>"list" | .remove=>"list"
theorem C9(r:HR B ρ h H)(q:VR B.K ρ H v x)(e:recv h m v=some ()):Om B.K (QB m) x H:=by
 cases m<;>cases v<;>simp only[recv]at e<;>first|cases e|skip
 ·rw[VR]at q;subst q;rfl
 all_goals
  split at e
  ·rename_i xs e1;obtain⟨a,ys,rfl,q0,q1,q2⟩:=iO r q e1;exact .inl ⟨rfl,ys,.inl (.inl q1)⟩
  ·cases e
theorem Ib(ha:bG Φ a)(hs:iU Φ es):bG Φ (.met m a es):=by
 intro Γ k X cl EX e c h;apply Eu h;intro o x ap args cp h;simp only[and_eq_true,beq_iff_eq]at h;obtain⟨⟨⟨⟨⟨⟨h1,h2⟩,h3⟩,h4⟩,h5⟩,h6⟩,h7⟩:=h;subst h1;cases args with
 |nil=>cases h3
 |cons l ls=>
  have hA:=hs.1 Γ k X cl EX _ c h7;have h8:noStar l=true/\∃dh,aJ Γ dh ls=true:=by
   cases es with
   |nil=>rw[aJ]at h7;cases h7
   |cons i dh=>rw[aJ.eq_def]at h7;dsimp only at h7;simp only[and_eq_true]at h7;exact⟨h7.1.1,dh,h7.2⟩
  obtain⟨n1,dh,n2⟩:=h8;have st:=bB (env:=X.env) (es:=ls) n1;have an:=gg (pos:=cp) (env:=X.env) n2;have few:((backTo cp (starEach (l::ls) X.env)).all (λx=>!x.1)&&(backToKw cp (keywordEach [] X.env)).all (λx=>x.1.isSome)
   && decide ((l::ls).length+([]:List Keyword).length+(if ([]:List Keyword).isEmpty then 0 else 1)<30))=true:=by
   rw[Ai h7];have:(l::ls).length<29:=Ud h4;simp only[Bool.true_and,and_eq_true];exact⟨rfl,decide_eq_true (by simp at this |-;omega)⟩
  have hl:(ap.endLine==cp.line)=true:=by rw[h5];exact Wo _
  refine(λq=>⟨q,cS q λ_=>rfl⟩) ?_;have fin:∀(T:String) (r:V->List V->Hp->VK->Prop),(∀x xs H Q,Lh (bd X cl) EX m x xs H Q->r x xs H Q)->T=QB m->∀σ H Q,tV Φ (bd X cl) EX (.met m a es) σ H Q->Qh X.K T r (tV Φ (bd X cl) EX a) (Qz Φ (bd X cl) EX es) σ H Q:=by rintro T rr hr rfl σ H Q ⟨ρ,env,h,hE,r,p⟩;simp only[aG]at p;refine⟨ρ,env,h,hE,r,aA p λv h1 ρ1 x H1 g1 r1 q1 p1=>?_⟩;obtain⟨_,e1,p2⟩:=aB p1;refine⟨C9 r1 q1 e1,ρ1,env,h1,hE.up g1,r1,aW p2 λvs h2 ρ2 H2 g2 r2 p3 xs q2=>hr _ _ _ _ ⟨ρ2,h2,v,vs,r2,VR.up g2 _ _ q1,q2,p3⟩⟩
  cases m with
  |join=>exact(vo PySem.F.plainAttrs_str PySem.F.slot_str_join PySem.F.type_str_join (CJ (cl:=cl) (EX:=EX)) (ha Γ k X cl EX o c h6).1 hA (super_ok h2) few hl st an).imp (fin _ _ (λ_ _ _ _ z=>z) rfl)
  |append=>exact(vo VO PySem.F.slot_list_append PySem.F.type_list_append (yg (cl:=cl) (EX:=EX)) (ha Γ k X cl EX o c h6).1 hA (super_ok h2) few hl st an).imp (fin _ _ (λ_ _ _ _ z=>z) rfl)
  |extend=>exact(vo VO PySem.F.slot_list_extend PySem.F.type_list_extend (yh (cl:=cl) (EX:=EX)) (ha Γ k X cl EX o c h6).1 hA (super_ok h2) few hl st an).imp (fin _ _ (λ_ _ _ _ z=>z) rfl)
  |remove=>exact(vo VO PySem.F.slot_list_remove PySem.F.type_list_remove (yi (cl:=cl) (EX:=EX)) (ha Γ k X cl EX o c h6).1 hA (super_ok h2) few hl st an).imp (fin _ _ (λ_ _ _ _ z=>z) rfl)
end
theorem _root_.L2.PI.or(h:PI X tg iter t)(h':PI X tg iter t'):PI X tg iter (λσ H R=>t σ H R\/t' σ H R):=λpins s σ H R I hw=>hw.elim (h pins s σ H R I) (h' pins s σ H R I)
structure Walks (B:Bd) (src:Src) (J:It) (ρ1:List Addr) (H1:Hp):Prop where
 stop:∀{ρ h H i xs},Gw ρ1 H1 ρ H->HR B ρ h H->src.items h=some xs->xs.length<=i->J.stop i H
 go:∀{ρ h H i xs v},Gw ρ1 H1 ρ H->HR B ρ h H->src.items h=some xs->xs[i]?=some v->J.go i H
 tW:∀{ρ h H i xs v y H'},Gw ρ1 H1 ρ H->HR B ρ h H->src.items h=some xs->xs[i]?=some v->J.tW i H y H'->Gr ρ H ρ H'/\HR B ρ h H'/\VR B.K ρ H' v y
section
variable {B:Bd} {ρ1:List Addr} {H1:Hp} {a:Addr}
theorem ym(q:gQ B.K H1 a xs)(e:aq B.K ρ1 H1 vs xs):Walks B (.fix vs) (N6 B.K a) ρ1 H1 where
 stop:=λg r hi hl=>by
  cases hi;exact⟨xs,g.NC q,by rw[<-e.length];exact hl⟩
 go:=λg r hi hv=>by
  cases hi;obtain⟨x,k1,_⟩:=e.get hv;exact⟨xs,x,g.NC q,k1⟩
 tW:=λg r hi hv y=>by
  cases hi;obtain⟨rfl,y⟩:=y;obtain⟨x,k1,k2⟩:=e.get hv;have:=y xs (g.NC q);rw[k1]at this;cases this;exact⟨Gr.refl,r,VR.jd g _ _ k2⟩
theorem Ar(q:Eo B.K H1 a xs)(e:aq B.K ρ1 H1 vs xs):Walks B (.fix vs) (Nl B.K a) ρ1 H1 where
 stop:=λg r hi hl=>by
  cases hi;exact⟨xs,(g.GF q).sq,by rw[<-e.length];exact hl⟩
 go:=λg r hi hv=>by
  cases hi;obtain⟨x,k1,_⟩:=e.get hv;exact⟨xs,x,(g.GF q).sq,k1⟩
 tW:=λg r hi hv y=>by
  cases hi;obtain⟨rfl,y⟩:=y;obtain⟨x,k1,k2⟩:=e.get hv;have:=y xs (g.GF q).sq;rw[k1]at this;cases this;exact⟨Gr.refl,r,VR.jd g _ _ k2⟩
theorem iQ{i:Nat}(q:ρ1[i]?=some a)(g:Gw ρ1 H1 ρ H)(r:HR B ρ h H)(hi:(Src.live i).items h=some xs):∃ys,fJ B.K H a ys/\aq B.K ρ H xs ys:=by
 obtain⟨b,ys,e,k1,k2⟩:=dz r (VR.ref (qk g.pre q)) (show az h (.ref i)=some xs from hi);cases e;exact⟨ys,k1,k2⟩
theorem uN{i:Nat}(q:ρ1[i]?=some a):Walks B (.live i) (Nl B.K a) ρ1 H1 where
 stop:=λg r hi hl=>by
  obtain⟨ys,k1,k2⟩:=iQ q g r hi;exact⟨ys,k1,by rw[<-k2.length];exact hl⟩
 go:=λg r hi hv=>by
  obtain⟨ys,k1,k2⟩:=iQ q g r hi;obtain⟨x,k3,_⟩:=k2.get hv;exact⟨ys,x,k1,k3⟩
 tW:=λg r hi hv y=>by
  obtain⟨ys,k1,k2⟩:=iQ q g r hi;obtain⟨rfl,y⟩:=y;obtain⟨x,k3,k4⟩:=k2.get hv;have:=y ys k1;rw[k3]at this;cases this;exact⟨Gr.refl,r,k4⟩
theorem fV(lo:Int)(n:Nat):(bN lo n).length=n:=by unfold bN;simp
theorem lz{lo:Int}{n:Nat}:Walks B (.fix (bN lo n)) (Kr lo n) ρ1 H1 where
 stop:=λg r hi hl=>by
  cases hi;rw[fV]at hl;exact hl
 go:=λg r hi hv=>by
  cases hi;have:=(TJ.mp hv).1;rw[fV]at this;exact this
 tW:=λ{ρ h H i xs v y H'} g r hi hv y'=>by
  cases hi;obtain⟨rfl,rfl⟩:=y';have hl:=(TJ.mp hv).1;rw[fV]at hl;have e:(bN lo n)[i]?=some (.int (lo+i)):=by unfold bN;simp[hl]
  rw[e]at hv;cases hv;exact⟨Gr.refl,r,VR.int⟩
theorem eF:∀(i:Nat) (ds:List Val),(bI i ds).length=ds.length
 |_,[]=>rfl
 |i,d::r=>by simp[bI,eF (i+1) r]
theorem pD:∀(k:Nat) (ds:List Val) (i:Nat) (d:Val),ds[i]?=some d->(bI k ds)[i]?=some (.tup [.int ((k+i:Nat):Int),d])
 |_,[],_,_,h=>by simp at h
 |k,e::r,0,d,h=>by simp at h;subst h;simp[bI]
 | k,e::r,i+1,d,h=>by
  have:=pD (k+1) r i d (by simpa using h);simp only[bI,List.getElem?_cons_succ];rw[this];have e1:k+1+i=k+(i+1):=by omega
  rw[e1]
theorem kP{i:Nat}(e:(bI 0 ds)[i]?=some v):∃d,ds[i]?=some d/\v=.tup [.int (i:Int),d]:=by
 have hl:=(TJ.mp e).1;rw[eF]at hl;have e1:=pD 0 ds i ds[i] (Ui hl);rw[e]at e1;cases e1;exact⟨ds[i],Ui hl,by rw[Nat.zero_add]⟩
theorem sE{i:Nat}(r:HR B ρ h H)(k1:fJ B.K H a ys)(k2:aq B.K ρ H xs ys)(hv:(bI 0 xs)[i]?=some v)(hy:(K2 B.K a).tW i H y H'):Gr ρ H ρ H'/\HR B ρ h H'/\VR B.K ρ H' v y:=by
 obtain⟨p,w,hn,rfl,rfl,hy⟩:=hy;obtain⟨d,e1,rfl⟩:=kP hv;obtain⟨x,k3,k4⟩:=k2.get e1;have:=hy ys k1;rw[k3]at this;cases this;exact⟨Gr.side hn,r.side hn,VR.tup (gQ.of av) (aq.cons VR.int (aq.cons (VR.up (Gr.side hn) _ _ k4) aq.nil))⟩
theorem sG(q:Eo B.K H1 a xs)(e:aq B.K ρ1 H1 vs xs):Walks B (.fix (bI 0 vs)) (K2 B.K a) ρ1 H1 where
 stop:=λg r hi hl=>by
  cases hi;rw[eF]at hl;exact⟨xs,(g.GF q).sq,by rw[<-e.length];exact hl⟩
 go:=λg r hi hv=>by
  cases hi;obtain⟨d,e1,_⟩:=kP hv;obtain⟨x,k1,_⟩:=e.get e1;exact⟨xs,x,(g.GF q).sq,k1⟩
 tW:=λg r hi hv y=>by
  cases hi;exact sE r (g.GF q).sq (aq.jd g _ _ e) hv y
theorem sH{i:Nat}(q:ρ1[i]?=some a):Walks B (.enum i) (K2 B.K a) ρ1 H1 where
 stop:=λg r hi hl=>by
  obtain⟨zs,e1,rfl⟩:=Uj.mp hi;obtain⟨ys,k1,k2⟩:=iQ q g r e1;rw[eF]at hl;exact⟨ys,k1,by rw[<-k2.length];exact hl⟩
 go:=λg r hi hv=>by
  obtain⟨zs,e1,rfl⟩:=Uj.mp hi;obtain⟨ys,k1,k2⟩:=iQ q g r e1;obtain⟨d,e2,_⟩:=kP hv;obtain⟨x,k3,_⟩:=k2.get e2;exact⟨ys,x,k1,k3⟩
 tW:=λg r hi hv y=>by
  obtain⟨zs,e1,rfl⟩:=Uj.mp hi;obtain⟨ys,k1,k2⟩:=iQ q g r e1;exact sE r k1 k2 hv y
end
section
variable {Φ:Fn} {Γ:nV} {k:Nat} {X:Cx} {cl:Nat->Addr} {EX:Nat->List V->Hp->Prop}
def JX(Φ:Fn)(ik:Ik)(it:jt)(env:Env):M Src:=bnd (aZ Φ it env) λits=>aN (srcOf ik its)
def tI(Φ:Fn)(B:Bd)(EX:Nat->List V->Hp->Prop)(ik:Ik)(it:jt):TI:=λσ H R=>∃ρ env h,bZ B.K ρ env σ H/\HR B ρ h H /\
 Post B EX ρ H (λsrc h' ρ' H'=>(∃xs,src.items h'=some xs)/\∀J,Walks B src J ρ' H'->R J H') (JX Φ ik it env h)
theorem EB(hs:iU Φ it)(c:Ctx Φ Γ k X cl EX)(h:vV Γ ik it iter=true)(ht:ik=.enum\/ik=.zip->∃es kk pos,tg=.Tuple es kk pos):PI X tg iter (tI Φ (bd X cl) EX ik it)/\∀x,foldedSetIterable iter X.env x=pure x:=by
 cases it with
 |nil=>rw[vV]at h;cases h
 |cons e es=>
  cases ik with
  |seq=>
   replace h:=Ah h;obtain⟨rfl,h⟩:=h;simp only[and_eq_true]at h;have q:=(hs.2.1 Γ k X cl EX iter c h.2).1;refine⟨((BV q).or (Fy q)).imp λσ H R ⟨ρ,env,h,hE,r,p⟩=>?_,λx=>?_⟩
   ·simp only[JX,sD,aO,cz]at p
    have key:∀(Q:VK),(∀v h1 ρ1 x H1,aG Φ e env h=.ok v h1->Gr ρ H ρ1 H1->HR (bd X cl) ρ1 h1 H1->VR X.K ρ1 H1 v x->Post (bd X cl) EX ρ1 H1 (λsrc h' ρ' H'=>(∃xs,src.items h'=some xs)/\∀J,Walks (bd X cl) src J ρ' H'->R J H') (aN (srcOf .seq [v]) h1)->Q x H1)->tV Φ (bd X cl) EX e σ H Q:=λQ kk=>
     ⟨ρ,env,h,hE,r,eL p λv h1 ρ1 H1 e1 g1 r1 p1 x q1=>kk v h1 ρ1 x H1 e1 g1 r1 q1 p1⟩
    cases ev:aG Φ e env h with
    |ok v h1=>
     cases v with
     |tup vs=>refine .inr (key _ λv h1 ρ1 x H1 e1 g1 r1 q1 p1=>?_);rw[ev]at e1;cases e1;obtain⟨src,e2,w1,w2⟩:=bQ r1 p1;cases e2;rw[VR]at q1;obtain⟨a,xs,rfl,k1,k2⟩:=q1;exact⟨a,rfl,⟨xs,k1⟩,w2 _ (ym k1 k2)⟩
     |rl vs=>refine .inl (key _ λv h1 ρ1 x H1 e1 g1 r1 q1 p1=>?_);rw[ev]at e1;cases e1;obtain⟨src,e2,w1,w2⟩:=bQ r1 p1;cases e2;rw[VR]at q1;obtain⟨a,xs,rfl,k1,k2⟩:=q1;exact⟨a,rfl,⟨xs,k1.sq⟩,w2 _ (Ar k1 k2)⟩
     |ref i=>refine .inl (key _ λv h1 ρ1 x H1 e1 g1 r1 q1 p1=>?_);rw[ev]at e1;cases e1;obtain⟨src,e2,⟨zs,w1⟩,w2⟩:=bQ r1 p1;cases e2;have q0:=q1;rw[VR]at q1;obtain⟨a,rfl,k1⟩:=q1;obtain⟨b,ys,e3,k2,k3⟩:=dz r1 q0 (show az h1 (.ref i)=some zs from w1);cases e3;exact⟨a,rfl,⟨ys,k2⟩,w2 _ (uN k1)⟩
     |_=>refine .inl (key _ λv h1 ρ1 x H1 e1 g1 r1 q1 p1=>?_);rw[ev]at e1;cases e1;obtain⟨src,e2,_⟩:=bQ r1 p1;cases e2
    |exc _ _ _=>exact .inl (key _ λv h1 ρ1 x H1 e1=>by rw[ev]at e1;cases e1)
    |no=>exact .inl (key _ λv h1 ρ1 x H1 e1=>by rw[ev]at e1;cases e1)
   ·cases iter<;>first|rfl|(exact absurd h.1 TH)
  |range=>
   apply jQ h;intro x xp q1 pos h;apply uJ h;intro a args h;simp only[and_eq_true,beq_iff_eq]at h;obtain⟨⟨⟨⟨⟨h1,h2⟩,h3⟩,h4⟩,h5⟩,h6⟩:=h;subst h1;obtain⟨g1,g2,g3⟩:=c.gl h2;have hm:=c.blt _ (show ("range":Str)∈bltNames by decide);refine⟨?_,λx=>rfl⟩;have hA:=hs.1 Γ k X cl EX (a::args) c (by rw[aJ.eq_def];simp[h3,h4,h5]);cases args with
   |nil=>
    cases es with
    |cons i dh=>rw[aJ.eq_def]at h5;cases h5
    |nil=>
     refine(xm g1 hm hA (bB h3)).imp λσ H R aE=>?_;obtain⟨ρ,env,h,hE,r,p⟩:=aE;refine⟨ρ,env,h,hE,r,eL p λvs h1 ρ1 H1 e1 QC r1 p1 xs q1=>?_⟩;obtain⟨src,e2,w1,w2⟩:=bQ r1 p1
     match vs,e2 with
     |[.int n],e2=>
      change (if inR n=true then some (Src.fix (bN 0 n.toNat)) else none)=some src at e2;split at e2
      ·rename_i hn;cases e2;simp only[inR,and_eq_true,decide_eq_true_eq]at hn;obtain⟨x,rfl,hx⟩:=aq.one q1;rw[VR]at hx;subst hx;exact⟨n,rfl,hn.1,hn.2,w2 _ lz⟩
      ·cases e2
     |[.int _,.int _],e2=>have:=jR (Γ:=Γ) (ls:=[a]) (by rw[aJ.eq_def];simp[h3,h4,aJ]) e1;simp at this
   |cons b args=>
    cases args with
    |cons _ _=>have:=Ud h6;simp only[length_cons]at this;omega
    |nil=>
     have hb:noStar b=true:=by
      cases es with
      |nil=>rw[aJ]at h5;cases h5
      |cons i dh=>rw[aJ.eq_def]at h5;dsimp only at h5;simp only[and_eq_true]at h5;exact h5.1.1
     refine(xq g1 hm hA (by rw[bB h3,bB hb];rfl) (by rw[bB hb];rfl)).imp λσ H R aE=>?_;obtain⟨ρ,env,h,hE,r,p⟩:=aE;refine⟨ρ,env,h,hE,r,eL p λvs h1 ρ1 H1 e1 QC r1 p1 xs q1=>?_⟩;obtain⟨src,e2,w1,w2⟩:=bQ r1 p1
     match vs,e2 with
     |[.int _],e2=>have:=jR (Γ:=Γ) (ls:=[a,b]) (by rw[aJ.eq_def];simp[h3,h4,h5]) e1;simp at this
     |[.int lo,.int hi],e2=>
      change (if (inR lo&&inR hi)=true then some (Src.fix (bN lo (hi-lo).toNat)) else none)=some src at e2;split at e2
      ·rename_i hn;cases e2;simp only[inR,and_eq_true,decide_eq_true_eq]at hn;obtain⟨x,y,rfl,hx,hy⟩:=aq.two q1;rw[VR]at hx;rw[VR]at hy;subst hx;subst hy;exact⟨lo,hi,rfl,⟨hn.1.1,hn.1.2,hn.2.1,hn.2.2⟩,w2 _ lz⟩
      ·cases e2
  |enum=>
   replace h:=Ah h;obtain⟨rfl,h⟩:=h;apply jQ h;intro x xp q1 pos h;apply m9 h;intro a h;simp only[and_eq_true,beq_iff_eq]at h;obtain⟨⟨⟨h1,h2⟩,h3⟩,h4⟩:=h;subst h1;obtain⟨g1,g2,g3⟩:=c.gl h2;have hm:=c.blt _ (show ("enumerate":Str)∈bltNames by decide);obtain⟨Tr,tk,tp,rfl⟩:=ht (.inl rfl);refine⟨?_,λx=>rfl⟩;have hA:=hs.1 Γ k X cl EX [a] c (by rw[aJ.eq_def];simp[h3,h4,aJ]);refine(Co g1 hm hA (bB h3)).imp λσ H R aE=>?_;obtain⟨ρ,env,h,hE,r,p⟩:=aE;refine⟨ρ,env,h,hE,r,eL p λvs h1 ρ1 H1 e1 QC r1 p1 xs q1=>?_⟩;obtain⟨src,e2,⟨zs,w1⟩,w2⟩:=bQ r1 p1
   match vs,e2 with
   |[.rl ws],e2=>cases e2;obtain⟨x,rfl,hx⟩:=aq.one q1;rw[VR]at hx;obtain⟨b,ys,rfl,k1,k2⟩:=hx;exact⟨b,rfl,⟨ys,k1.sq⟩,w2 _ (sG k1 k2)⟩
   |[.ref i],e2=>cases e2;obtain⟨x,rfl,hx⟩:=aq.one q1;obtain⟨us,w3,_⟩:=Uj.mp w1;obtain⟨b,ys,rfl,k2,k3⟩:=dz r1 hx w3;rw[VR]at hx;obtain⟨b',e3,k1⟩:=hx;cases e3;exact⟨b,rfl,⟨ys,k2⟩,w2 _ (sH k1)⟩
  |zip=>cases h
end
section
variable {Φ:Fn} {Γ:nV} {k:Nat} {X:Cx} {cl:Nat->Addr} {EX:Nat->List V->Hp->Prop}
def ng:List Nat->JP
 |[]=>Ko
 |i::is=>Eb (oB i) (ng is)
def yo(K:Frag):uF->TG
 |.one i=>oB i
 |.tup is=>Kp K is.length (ng is)
def fW:List Nat->List V->L2.St->L2.St
 |i::is,v::vs,σ=>fW is vs (σ.set i (some v))
 |_,_,σ=>σ
theorem kQ:∀{is:List Nat} {vs:List V} {σ:L2.St} {H:Hp} {Q:L2.St->Hp->Prop},vs.length=is.length->Q (fW is vs σ) H->ng is vs σ H Q
 |[],[],_,_,_,_,h=>⟨rfl,h⟩
 |i::is,v::vs,σ,H,Q,hl,h=>⟨v,vs,rfl,kQ (by simpa using hl) h⟩
theorem pF(hnd:X.N.Nodup):∀{is:List Nat} {es:List Expr},es.length=is.length->(∀p∈is.zip es,∃x pos,p.2=.Name x pos/\X.N[p.1]?=some x/\X.env.scope.names.lookup x=some .local)->JQ X es (ng is)
 |[],[],_,_=>vf
 | i::is,e::es,hl,h=>by
  obtain⟨x,pos,rfl,h1,h2⟩:=h (i,e) (by simp);exact qP (fK hnd h1 (.inl h2) (.inr h2)) (pF hnd (by simpa using hl) λp hp=>h p (by simp[hp]))
theorem fj:∀{es:List Expr},(∀e∈es,∃x pos,e=.Name x pos)->(assignEach es env).length=es.length/\(assignEach es env).findIdx? (·.1)=none
 |[],_=>⟨rfl,rfl⟩
 | e::es,h=>by
  obtain⟨x,pos,rfl⟩:=h e TU;obtain⟨h1,h2⟩:=fj (env:=env) (es:=es) λe he=>h e (TM _ he);have e1:assignEach (Expr.Name x pos::es) env=(false,assign (Expr.Name x pos) env)::assignEach es env:=rfl;rw[e1];refine⟨by simp[h1],?_⟩;rw[List.findIdx?_cons,h2];rfl
theorem As{i:Nat}(h:yj Γ (.one i) tg=true):∃x p,tg=.Name x p:=by
 cases tg<;>first|exact⟨_,_,rfl⟩|exact absurd h TH
theorem sI{is:List Nat}(h:yj Γ (.tup is) tg=true):∃es k p,tg=.Tuple es k p:=by
 cases tg<;>first|exact⟨_,_,_,rfl⟩|exact absurd h TH
theorem Ic(c:Ctx Φ Γ k X cl EX)(hnd:X.N.Nodup)(h:yj Γ pat tg=true):PG X tg (yo X.K pat):=by
 cases pat with
 |one i=>obtain⟨x,xp,rfl⟩:=As h;simp only[yj,and_eq_true,beq_iff_eq]at h;obtain⟨h1,h2⟩:=h;exact fK hnd (by rw[c.N];exact h1) (.inl (by rw[c.sc];exact h2)) (.inr (by rw[c.sc];exact h2))
 |tup is=>
  obtain⟨es,kk,pos,rfl⟩:=sI h
  ·
   simp only[yj,and_eq_true,beq_iff_eq,all_eq_true]at h;obtain⟨h1,h2⟩:=h;have names:∀p∈is.zip es,∃x pos,p.2=.Name x pos/\X.N[p.1]?=some x/\X.env.scope.names.lookup x=some .local:=λp hp=>by
    have q:=h2 p hp;cases ep:p.2<;>rw[ep]at q<;>simp at q;rename_i x pos';exact⟨x,pos',rfl,by rw[c.N];exact q.1,by rw[c.sc];exact q.2⟩
   have all:∀e∈es,∃x pos,e=.Name x pos:=λe he=>by
    obtain⟨n,hn,rfl⟩:=Wa he;have hm:(is[n]'(by omega),es[n])∈is.zip es:=VY.mpr ⟨n,by rw[VA];simp[hn]⟩;obtain⟨x,pos,q,_⟩:=names _ hm;exact⟨x,pos,q⟩
   obtain⟨l1,l2⟩:=fj (env:=X.env) all;exact yS c.calm (pF hnd h1 names) (by rw[l1,h1]) l2
def sJ(Γ:nV):uF->Expr->Bool
 |.one i,.Name x _=>Γ.N[i]?==some x&&(Γ.sc.names.lookup x==some .local || Γ.sc.names.lookup x==some .cell)
 | .tup is,.Tuple es _ _=>es.length==is.length&&(is.zip es).all λp=>match p.2 with
  |.Name x _=>Γ.N[p.1]?==some x&&(Γ.sc.names.lookup x==some .local || Γ.sc.names.lookup x==some .cell)
  |_=>false
 |_,_=>false
theorem nh(hfn:∀x,X.fn x=true)(hnd:X.N.Nodup):∀{is:List Nat} {es:List Expr},es.length=is.length->(∀p∈is.zip es,∃x pos,p.2=.Name x pos/\X.N[p.1]?=some x/\Loc X.env.scope x)->JQ X es (ng is)
 |[],[],_,_=>vf
 | i::is,e::es,hl,h=>by
  obtain⟨x,pos,rfl,h1,h2⟩:=h (i,e) (by simp);exact qP (fK hnd h1 h2 (.inl (hfn x))) (nh hfn hnd (by simpa using hl) λp hp=>h p (by simp[hp]))
theorem nj{i:Nat}(h:sJ Γ (.one i) tg=true):∃x p,tg=.Name x p:=by
 cases tg<;>first|exact⟨_,_,rfl⟩|exact absurd h TH
theorem jS{is:List Nat}(h:sJ Γ (.tup is) tg=true):∃es k p,tg=.Tuple es k p:=by
 cases tg<;>first|exact⟨_,_,_,rfl⟩|exact absurd h TH
theorem v8(c:Ctx Φ Γ k X cl EX)(hfn:∀x,X.fn x=true)(hnd:X.N.Nodup)(h:sJ Γ pat tg=true):PG X tg (yo X.K pat):=by
 have loc:∀x,(Γ.sc.names.lookup x==some .local || Γ.sc.names.lookup x==some .cell)=true->Loc X.env.scope x:=λx e=>by
  unfold L2.Loc;rw[c.sc];simpa using e
 cases pat with
 |one i=>obtain⟨x,pos,rfl⟩:=nj h;simp only[sJ,and_eq_true,beq_iff_eq]at h;obtain⟨h1,h2⟩:=h;exact fK hnd (by rw[c.N];exact h1) (loc _ h2) (.inl (hfn _))
 |tup is=>
  obtain⟨es,kk,pos,rfl⟩:=jS h
  ·
   simp only[sJ,and_eq_true,beq_iff_eq,all_eq_true]at h;obtain⟨h1,h2⟩:=h;have names:∀p∈is.zip es,∃x pos,p.2=.Name x pos/\X.N[p.1]?=some x/\Loc X.env.scope x:=λp hp=>by
    have q:=h2 p hp;cases ep:p.2<;>rw[ep]at q<;>first|cases q|skip
    rename_i x pos';simp only[and_eq_true,beq_iff_eq]at q;exact⟨x,pos',rfl,by rw[c.N];exact q.1,loc _ q.2⟩
   have all:∀e∈es,∃x pos,e=.Name x pos:=λe he=>by
    obtain⟨n,hn,rfl⟩:=Wa he;have hm:(is[n]'(by omega),es[n])∈is.zip es:=VY.mpr ⟨n,by rw[VA];simp[hn]⟩;obtain⟨x,pos,q,_⟩:=names _ hm;exact⟨x,pos,q⟩
   obtain⟨l1,l2⟩:=fj (env:=X.env) all;exact yS c.calm (nh hfn hnd h1 names) (by rw[l1,h1]) l2
theorem bZ.set{K:Frag}{ρ:List Addr}{env:Env}{σ:L2.St}{H:Hp}{i:Nat}{v:Val}{x:V}(e:bZ K ρ env σ H)(hl:env.length = σ.length)(q:VR K ρ H v x):bZ K ρ (env.set i (some v)) (σ.set i (some x)) H:=λj w hj=>by
 by_cases hij:i=j
 ·subst hij
  have hi:i<env.length:=by have:=(TJ.mp hj).1;simpa using this
  rw[T5 hi]at hj;cases hj;exact⟨x,by rw[T5 (by rw[<-hl];exact hi)],q⟩
 ·rw[TN hij]at hj;rw[TN hij];exact e j w hj
theorem jx{K:Frag}{ρ:List Addr}{H:Hp}:∀{is:List Nat} {ds:List Val} {xs:List V} {env env':Env} {σ:L2.St},bindAll is ds env=some env'->aq K ρ H ds xs->bZ K ρ env σ H->env.length = σ.length->bZ K ρ env' (fW is xs σ) H/\env'.length=(fW is xs σ).length/\(fW is xs σ).length = σ.length/\xs.length=is.length
 | [],[],xs,env,env',σ,e,q,hE,hl=>by
  rw[aq]at q;subst q;simp only[bindAll]at e;cases e;exact⟨hE,hl,rfl,rfl⟩
 | i::is,d::ds,xs,env,env',σ,e,q,hE,hl=>by
  rw[aq]at q;obtain⟨x,r,rfl,q1,q2⟩:=q;simp only[bindAll]at e;obtain⟨a1,a2,a3,a4⟩:=jx e q2 (hE.set hl q1) (by simp[hl]);exact⟨a1,a2,by rw[show fW (i::is) (x::r) σ = fW is r (σ.set i (some x)) from rfl,a3];simp,by simp[a4]⟩
 |[],_::_,_,_,_,_,e,_,_,_=>by simp[bindAll]at e
 |_::_,[],_,_,_,_,e,_,_,_=>by simp[bindAll]at e
theorem v9{K:Frag}{ρ:List Addr}{H:Hp}{pat:uF}{v:Val}{x:V}{env env':Env}{σ:L2.St}{Q:L2.St->Hp->Prop}(e:fc pat v env=some env')(q:VR K ρ H v x)(hE:bZ K ρ env σ H)(hl:env.length = σ.length)
  (kk:∀σ',bZ K ρ env' σ' H->env'.length = σ'.length -> σ'.length = σ.length->Q σ' H):yo K pat x σ H Q:=by
 cases pat with
 |one i=>simp only[fc]at e;cases e;exact kk _ (hE.set hl q) (by simp[hl]) (by simp)
 |tup is=>
  cases v<;>simp only[fc]at e<;>first|cases e|skip
  rw[VR]at q;obtain⟨a,xs,rfl,q1,q2⟩:=q;obtain⟨a1,a2,a3,a4⟩:=jx e q2 hE hl;exact⟨a,xs,rfl,q1,a4,kQ a4 (kk _ a1 a2 a3)⟩
theorem iR{α β:Type}{W:β -> Hs->List Addr->Hp->Prop}{W':α -> Hs->List Addr->Hp->Prop}{m:M α}{f:α -> M β}(g:Gr ρ H ρ' H')(p:Post B EX ρ H W (bnd m f h))
  (kk:∀v h1 ρ2 H2,m h=.ok v h1->Post B EX ρ H W (f v h1)->Gr ρ' H' ρ2 H2->HR B ρ2 h1 H2->W' v h1 ρ2 H2):Post B EX ρ' H' W' (m h):=by
 unfold bnd at p;cases e:m h with
 |ok v h1=>rw[e]at p;exact λρ2 H2 g2 r2=>kk v h1 ρ2 H2 e p g2 r2
 |exc c vs h1=>rw[e]at p;exact λρ2 H2 xs g2 r2 q=>p ρ2 H2 xs (g.trans g2) r2 q
 |no=>rw[e]at p;exact p
theorem HR.adopt(r:HR B ρ h H)(hD:D ∉ ρ)(q:OR B (ρ ++ [D]) H D u):HR B (ρ ++ [D]) (h++[u]) H where
 len:=by simp[r.len]
 nd:=by rw[Wi];refine⟨r.nd,by simp,λa ha b hb=>?_⟩;rw[Ue.mp hb];rintro rfl;exact hD ha
 ob i v a q1 q2:=by
  by_cases hi:i<h.length
  ·rw[Ua hi]at q1;rw[Ua (by rw[r.len];exact hi)]at q2;exact OR.jd ⟨UX _ _,λ_ _ e _=>e⟩ rfl (r.ob i v a q1 q2)
  ·rw[Uk (by omega)]at q1
   rw[Uk (by rw[r.len];omega)]at q2;have hi0:i-h.length=0:=by have:=(TJ.mp q1).1;simp at this;omega
   rw[hi0]at q1;rw[r.len,hi0]at q2;simp at q1 q2;subst q1;subst q2;exact q
theorem Gr.over(g:Gr ρ H ρ' H')(hD:H D=none):Gr ρ H ρ' (upd H' D o) where
 pre:=g.pre
 keep a u e n:=by rw[aj (ay e hD)];exact g.keep a u e n
 firm a u e n:=by rw[aj (ay e hD)];exact g.firm a u e n
 fresh:=g.fresh
theorem Gr.adopt(g:Gr ρ H ρ' H')(hD:H D=none):Gr ρ H (ρ'++[D]) H' where
 pre:=g.pre.trans (UX _ _)
 keep:=g.keep
 firm:=g.firm
 fresh a z n:=by
  rcases U0.mp z with z|z
  ·exact g.fresh a z n
  ·rw[Ue.mp z];exact hD
theorem Dc{K:Frag}{ρ:List Addr}{env:Env}{σ:L2.St}{H:Hp}{js:List (Option Nat)}(e:bZ K ρ env σ H):bZ K ρ (iw js env) (gG js σ) H:=λi v q=>by
 unfold iw at q;rw[Ug]at q;cases hj:js[i]? with
 |none=>rw[hj]at q;cases q
 |some o=>
  rw[hj]at q;simp only[map_some]at q;cases o with
  |none=>cases q
  |some j=>
   dsimp only at q;cases ej:env[j]? with
   |none=>rw[ej]at q;cases q
   |some w=>
    cases w with
    |none=>rw[ej]at q;cases q
    |some d=>rw[ej]at q;cases q;obtain⟨x,q1,q2⟩:=e j _ ej;refine⟨x,?_,q2⟩;unfold gG;rw[Ug,hj];simp only[map_some];rw[q1]
theorem Au{K:Frag}{ρ:List Addr}{env:Env}{σ σ':L2.St}{H:Hp}{js:List (Option Nat)}{pat:uF}(hp:(sj pat).all (λi=>js[i]?==some none)=true)(e:bZ K ρ (iw js env) σ H)(hs:∀i,i∉sj pat -> σ'[i]? = σ[i]?):bZ K ρ (iw js env) σ' H:=λi v q=>by
 have hi:i∉sj pat:=λz=>by
  have h1:=Ws.mp hp i z;have h2:js[i]?=some none:=eq_of_beq h1;unfold iw at q;rw[Ug,h2]at q;cases q
 obtain⟨x,q1,q2⟩:=e i v q;exact⟨x,(hs i hi).trans q1,q2⟩
theorem nk:∀{is:List Nat} {xs:List V} {σ:L2.St} {i:Nat},i∉is->(fW is xs σ)[i]? = σ[i]?
 |[],xs,σ,i,_=>by cases xs<;>rfl
 |j::is,[],σ,i,_=>rfl
 | j::is,x::xs,σ,i,h=>by
  rw[show fW (j::is) (x::xs) σ = fW is xs (σ.set j (some x)) from rfl,nk λz=>h (TM _ z),TN λz=>h (by rw[z];exact TU)]
theorem Av{K:Frag}{ρ:List Addr}{H:Hp}{pat:uF}{v:Val}{x:V}{env env':Env}{σ:L2.St}{Q:L2.St->Hp->Prop}(e:fc pat v env=some env')(q:VR K ρ H v x)(hE:bZ K ρ env σ H)(hl:env.length = σ.length)
  (kk:∀σ',bZ K ρ env' σ' H -> σ'.length = σ.length->(∀i,i∉sj pat -> σ'[i]? = σ[i]?)->Q σ' H):yo K pat x σ H Q:=by
 cases pat with
 |one i=>simp only[fc]at e;cases e;exact kk _ (hE.set hl q) (by simp) λj hj=>TN λz=>hj (by rw[z];exact Ue.mpr rfl)
 |tup is=>
  cases v<;>simp only[fc]at e<;>first|cases e|skip
  rw[VR]at q;obtain⟨a,xs,rfl,q1,q2⟩:=q;obtain⟨a1,a2,a3,a4⟩:=jx e q2 hE hl;exact⟨a,xs,rfl,q1,a4,kQ a4 (kk _ a1 a3 λj hj=>nk hj)⟩
theorem nq(hs:iU Φ it)(hc:bG Φ t)(he:bG Φ elt)(c:Ctx Φ Γ k X cl EX)(h:bf Γ (.comp N' js pat ik it t elt) e=true) :
  ∃e' tg iter ifs scope pos wi g tt te,e=.ListComp e' [⟨tg,iter,ifs,0⟩] scope pos/\iL X.N X.env.scope scope N' js=true/\PI X tg iter wi/\(∀cls C s H fp,PG (bz X scope N' cls C s H fp) tg g)/\(∀cls C s H fp,Ci (bz X scope N' cls C s H fp) ifs tt) /\
   (∀cls C s H fp,PE (bz X scope N' cls C s H fp) e' te)/\(∀x,foldedSetIterable iter X.env x=pure x)/\∀σ H Q,tV Φ (bd X cl) EX (.comp N' js pat ik it t elt) σ H Q->zp wi js g tt te σ H Q:=by
 apply CM h;intro e' q1 scope pos h;apply m9 h;intro q2 h;apply Hg h;intro tg iter ifs q3 h;apply sf h;intro h;simp only[and_eq_true]at h;obtain⟨⟨⟨⟨⟨⟨⟨h1,h2⟩,h3⟩,h4⟩,h5⟩,h6⟩,h7⟩,h8⟩:=h;have hnd:N'.Nodup:=Ud h3;have hen:ik=.enum\/ik=.zip->∃es kk pos,tg=.Tuple es kk pos:=by
  intro hz;cases pat with
  |one i=>rcases hz with rfl|rfl<;>cases h6
  |tup is=>exact sI h4
 obtain⟨hi,hf⟩:=EB hs c h2 hen
 let tt:TT:=if cy t=true then rA else tT Φ (bd X cl) EX t
 have Of:∀cls C s H fp,Ci (bz X scope N' cls C s H fp) ifs tt:=λcls C s H fp=>by
  have c':=c.Ez scope N' cls C s H fp;cases ifs with
  |nil=>have:cy t=true:=h7;show Ci _ [] (if cy t=true then rA else tT Φ (bd X cl) EX t);rw[T4 this];exact Cj
  |cons a r=>
   cases r with
   |cons _ _=>cases h7
   |nil=>simp only[and_eq_true,not_eq_true']at h7;show Ci _ [a] (if cy t=true then rA else tT Φ (bd X cl) EX t);rw[TX (by rw[h7.1];exact TH)];exact Ck (hc _ _ _ _ _ _ c' h7.2).2
 refine⟨e',tg,iter,ifs,scope,pos,_,yo X.K pat,tt,tV Φ (bd X cl) EX elt,rfl,by rw[c.N,c.sc];exact h1,hi,λcls C s H fp=>Ic (c.Ez scope N' cls C s H fp) hnd h4,Of,λcls C s H fp=>(he _ _ _ _ _ _ (c.Ez scope N' cls C s H fp) h8).1,hf,λσ H Q ⟨ρ,env,h,hE,r,p⟩=>?_⟩
 ·skip
  simp only[aG]at p
  let f:Val->M (Option Val):=λd=>bnd (aN (fc pat d (iw js env))) λenv'=>bnd (if cy t=true then ret true else bnd (aG Φ t env') λv=>ask λh=>cG h v) λt=>
    if t=true then bnd (aG Φ elt env') λe=>ret (some e) else ret none
  have p':Post (bd X cl) EX ρ H (WV X.K Q) (bnd (JX Φ ik it env) (λsrc=>bnd (ask λh=>src.items h) λxs=>aF (decide (xs.length<=100000)) (bnd (dJ src f xs.length 0 []) λys=>new (.lst ys))) h):=by unfold JX;rw[aO];exact p
  refine⟨ρ,env,h,hE,r,aW p' λsrc h1 ρ1 H1 g1 r1 p1=>?_⟩;obtain⟨xs,e1,p2⟩:=aB p1;obtain⟨e2,p3⟩:=aH p2;have e2:=Ud e2;refine⟨⟨xs,e1⟩,λJ wk D hD=>?_⟩;have Tt:(100000:Nat)<sizeLine:=by rw[UI];decide
  refine⟨λi m σ' H'=>∃ρ' h' acc ys,Gr ρ1 H1 ρ' H'/\HR (bd X cl) ρ' h' H'/\D ∉ ρ'/\H' D=some (.lst ys)/\aq X.K ρ' H' acc ys/\bZ X.K ρ' (iw js env) σ' H' /\ σ'.length=js.length/\acc.length<=i/\i+m=xs.length /\
   Post (bd X cl) EX ρ1 H1 (WV X.K Q) (bnd (dJ src f m i acc) (λys=>new (.lst ys)) h'),⟨xs.length,ρ1,h1,[],[],Gr.side hD,r1.side hD,r1.out hD,av,aq.nil,(Dc (hE.up g1)).up (Gr.side hD),jb js σ,TV _,by omega,p3⟩,?_⟩
  rintro i m σ' H' ⟨ρ',h',acc,ys,w1,w2,w3,w4,w5,w6,w7,w8,w9,qt⟩;have fin:∀p:Post (bd X cl) EX ρ1 H1 (WV X.K Q) (new (.lst acc) h'),Q (.ref D) H':=λp=>by
   refine p (ρ'++[D]) H' (w1.adopt hD) (w2.adopt w3 ⟨ys,w4,aq.jd ⟨UX _ _,λ_ _ e _=>e⟩ _ _ w5⟩) _ (VR.ref (by rw[<-w2.len];simp))
  cases m with
  |zero=>
   simp only[dJ,aO]at qt;obtain⟨xs',k1,qt⟩:=aB qt;have LF:Post (bd X cl) EX ρ1 H1 (WV X.K Q) (bnd (aF (decide (xs'.length<=i)) (ret acc)) (λys=>new (.lst ys)) h'):=qt;unfold aF at LF
   by_cases hl:xs'.length<=i
   ·have:bnd (λh=>if decide (xs'.length<=i)=true then ret acc h else Out.no) (λys=>new (.lst ys)) h'=new (.lst acc) h':=by
     unfold bnd;dsimp only;rw[T4 (decide_eq_true hl)];rfl
    rw[this] at LF;exact .inl ⟨wk.stop w1.w w2 k1 hl,fin LF⟩
   ·have:bnd (λh=>if decide (xs'.length<=i)=true then ret acc h else Out.no) (λys=>new (.lst ys)) h'=Out.no:=by
     unfold bnd;dsimp only;rw[TX (by rw[decide_eq_false hl];exact TH)]
    rw[this] at LF;exact LF.elim
  |succ m=>
   simp only[dJ,aO]at qt;obtain⟨xs',k1,qt⟩:=aB qt;cases hx:xs'[i]? with
   |none=>rw[hx]at qt;exact .inl ⟨wk.stop w1.w w2 k1 (Vc.mp hx),fin qt⟩
   |some v=>
    rw[hx]at qt;dsimp only at qt;refine .inr ⟨wk.go w1.w w2 k1 hx,_,λyI Gh w=>⟨m,Uz _,w⟩,λy H2 hy=>?_⟩;obtain⟨z1,z2,z3⟩:=wk.tW w1.w w2 k1 hx hy;simp only[aO]at qt;simp only[f,aO]at qt;obtain⟨env',k2,qt⟩:=bJ qt;refine Av k2 z3 (w6.up z1) (by rw[w7];simp[iw]) λσ2 NF hl2 hout=>?_;have LG:H2 D=some (.lst ys):=z1.keep _ _ w4 w3;have G2:Gr ρ1 H1 ρ' H2:=w1.trans z1;have body:∀(b:Bool) (h3:Hs) (ρ3:List Addr) (H3:Hp),Gr ρ' H2 ρ3 H3->HR (bd X cl) ρ3 h3 H3->Post (bd X cl) EX ρ1 H1 (WV X.K Q) (bnd (if b=true then bnd (aG Φ elt env') λe=>ret (some e) else ret none) (λo=>bnd (dJ src f m (i+1) (match o with|some e=>acc++[e]|none=>acc)) λys=>new (.lst ys)) h3) ->
      (if b=true then tV Φ (bd X cl) EX elt σ2 H3 (λy H4=>∃ys,H4 D=some (.lst ys)/\ys.length<sizeLine/\(λσ' H'=>∃ρ' h' acc ys,Gr ρ1 H1 ρ' H'/\HR (bd X cl) ρ' h' H'/\D ∉ ρ'/\H' D=some (.lst ys)/\aq X.K ρ' H' acc ys/\bZ X.K ρ' (iw js env) σ' H' /\ σ'.length=js.length/\acc.length<=i+1/\i+1+m=xs.length /\
       Post (bd X cl) EX ρ1 H1 (WV X.K Q) (bnd (dJ src f m (i+1) acc) (λys=>new (.lst ys)) h')) σ2 (upd H4 D (.lst (ys++[y]))))
      else (λσ' H'=>∃ρ' h' acc ys,Gr ρ1 H1 ρ' H'/\HR (bd X cl) ρ' h' H'/\D ∉ ρ'/\H' D=some (.lst ys)/\aq X.K ρ' H' acc ys/\bZ X.K ρ' (iw js env) σ' H' /\ σ'.length=js.length/\acc.length<=i+1/\i+1+m=xs.length /\
       Post (bd X cl) EX ρ1 H1 (WV X.K Q) (bnd (dJ src f m (i+1) acc) (λys=>new (.lst ys)) h')) σ2 H3):=by
     intro b h3 ρ3 H3 g3 r3 p5;have O7:D ∉ ρ3:=λz=>by have:=g3.fresh D z w3;rw[LG]at this;cases this
     have O8:H3 D=some (.lst ys):=g3.keep _ _ LG w3;have E3:bZ X.K ρ3 (iw js env) σ2 H3:=(Au h5 (w6.up z1) hout).up g3;cases b with
     |true=>
      rw[T4 rfl]at p5 |-;simp only[aO,cz]at p5;refine⟨ρ3,env',h3,NF.up g3,r3,iR (G2.trans g3) p5 λv4 h4 ρ4 H4 _ p6 g4 r4 y4 q4=>?_⟩;have QD:D ∉ ρ4:=λz=>by have:=g4.fresh D z O7;rw[O8]at this;cases this
      have O9:H4 D=some (.lst ys):=g4.keep _ _ O8 O7;have gw:Gw ρ4 H4 ρ4 (upd H4 D (.lst (ys++[y4]))):=Gw.other O9 rfl;have la:=w5.length;refine⟨ys,O9,by omega,ρ4,h4,acc++[v4],ys++[y4],((G2.trans g3).trans g4).over hD,r4.other QD O9 rfl,QD,av,aq.append (aq.jd gw _ _ (aq.up ((z1.trans g3).trans g4) _ _ w5)) (aq.jd gw _ _ (aq.cons q4 aq.nil)),(E3.up g4).jd gw,by rw[hl2,w7],by simp;omega,by omega,p6⟩
     |false=>rw[TX TH]at p5 |-;exact⟨ρ3,h3,acc,ys,G2.trans g3,r3,O7,O8,aq.up (z1.trans g3) _ _ w5,E3,by rw[hl2,w7],by omega,by omega,p5⟩
    show (if cy t=true then rA else tT Φ (bd X cl) EX t) σ2 H2 _
    by_cases hn:cy t=true
    ·rw[T4 hn];rw[T4 hn,cz]at qt;exact body true h' ρ' H2 Gr.refl z2 qt
    ·rw[TX hn];rw[TX hn]at qt;exact⟨ρ',env',h',NF,z2,iR G2 qt λb h3 ρ3 H3 _ p5 g3 r3=>body b h3 ρ3 H3 g3 r3 p5⟩
theorem Dd(hs:iU Φ it)(hc:bG Φ t)(he:bG Φ elt):bG Φ (.comp N' js pat ik it t elt):=by
 intro Γ k X cl EX e c h;obtain⟨e',tg,iter,ifs,scope,pos,wi,g,tt,te,rfl,h1,h2,h3,h4,h5,h6,h7⟩:=nq hs hc he c h;have q:=(Cm (pos:=pos) h1 c.calm h2 h3 h4 h5 h6).imp h7;exact⟨q,cS q λ_=>rfl⟩
theorem De{k:Key}:cF [(k,.bl true)] k (.bl true)=[(k,.bl true)]:=by simp[cF]
theorem Df{k l:Key}(h:k≠l):cF [(k,.bl true)] l (.bl true)=[(k,.bl true),(l,.bl true)]:=by simp[cF,h]
theorem Dg{k:Key}:gF [] [(k,.bl true),(k,.bl true)]=[(k,.bl true)]:=by simp[gF,putK]
theorem Dh{k l:Key}(h:k≠l):gF [] [(k,.bl true),(l,.bl true)]=[(k,.bl true),(l,.bl true)]:=by simp[gF,putK,h]
theorem Di{k v:IE}(hk:bG Φ k)(hv:bG Φ v):bG Φ (.dct1 k v):=by
 intro Γ n X cl EX e c h;apply vO h;intro q1 q2 pos h;apply Lo h;intro q3 q4 h;apply qm h;intro a h;apply qm h;intro b h;apply Lo h;intro va vb h;simp only[and_eq_true]at h;obtain⟨⟨⟨h1,h2⟩,h3⟩,h4⟩:=h;obtain⟨j3,p3,rfl⟩:=vU h3;obtain⟨j4,p4,rfl⟩:=vU h4;have q:PE X (.Dict [some a,some b] [.Constant (.bool true) j3 p3,.Constant (.bool true) j4 p4] pos) (tV Φ (bd X cl) EX (.dct1 k v)):=by
  refine(Cf (qZ (hk Γ n X cl EX a c h1).1 vd (qZ (hv Γ n X cl EX b c h2).1 vd Ce)) rfl rfl (by simp) (by simp)).imp λσ H Q aE=>?_;obtain⟨ρ,env,h,hE,r,p⟩:=aE;intro D hD;have g0:Gr ρ H ρ (upd H D (.dK [])):=Gr.side hD;simp only[aG]at p;refine⟨ρ,env,h,hE.up g0,r.side hD,iR g0 p λx h1 ρ1 H1 _ p1 g1 r1 y1 q1=>?_⟩;obtain⟨kk,e1,p1⟩:=bJ p1;refine⟨ρ1,env,h1,(hE.up g0).up g1,r1,iR (g0.trans g1) p1 λy h2 ρ2 H2 _ p2 g2 r2 y2 q2=>?_⟩;obtain⟨k2,e3,p2⟩:=bJ p2;have QE:D ∉ ρ:=r.out hD;have LG:D ∉ ρ2:=λz=>by have:=(g1.trans g2).fresh D z QE;rw[av]at this;cases this
  have e2:H2 D=some (.dK []):=(g1.trans g2).keep D _ av QE;have ek:y1=kV kk:=by
   cases x<;>first|(cases e1;done)|skip
   ·cases e1;rw[VR]at q1;exact q1
   ·cases e1;rw[VR]at q1;exact q1
  have RZ:y2=kV k2:=by
   cases y<;>first|(cases e3;done)|skip
   ·cases e3;rw[VR]at q2;exact q2
   ·cases e3;rw[VR]at q2;exact q2
  refine⟨e2,[(kk,.bl true),(k2,.bl true)],by rw[ek,RZ];rfl,by simp,?_⟩;have Pa:∀H,VR X.K (ρ2++[D]) H (.bl true) (.bl true):=λH=>by rw[VR]
  refine p2 (ρ2++[D]) _ ((((g0.trans g1).trans g2).over hD).adopt hD) ((r2.other LG e2 rfl).adopt LG ⟨_,av,?_⟩) _ (vI r2)
  by_cases ce:kk=k2
  ·subst ce;rw[De,Dg];exact⟨.bl true,[],rfl,Pa _,rfl⟩
  ·rw[Df ce,Dh ce];exact⟨.bl true,_,rfl,Pa _,.bl true,[],rfl,Pa _,rfl⟩
 exact⟨q,cS q λ_=>rfl⟩
theorem Dj{p q:Nat}:bG Φ (.dflt N' js p q d w):=fh λ_ _=>rfl
theorem Ie(ha:bG Φ a):bG Φ (.isc a x bs):=fh λ_ _=>rfl
theorem kR:(∀ir,bG Φ ir)/\∀dh,iU Φ dh:=by
 have one:∀ir,bG Φ ir:=by
  intro ir;exact IE.rec (motive_1:=λir=>bG Φ ir) (motive_2:=λdh=>iU Φ dh) (λ_=>Hx) (λ_=>Hy) (λ_ _=>Hz) LB (λ_ _ _ a b=>HD a b) (λ_ a=>HE a) (λ_ _ _ a b=>HF a b) (λ_ _ _ _ _ a b c=>HG a b c)
   (λ_ _ a b=>HH a b) (λ_ _ a b=>LC a b) (λ_ a=>HJ a) (λ_ _ _ a b c=>HK a b c) (λ_ a=>HL a) (λ_ a=>HM a) (λ_ _ a b=>HN a b) (λ_ _ _ a b c=>HP a b c) (λ_ _ a=>CW a) (λ_ _ a=>Ia a)
   (λ_ _ _ a b=>Ib a b) (λ_ _ _ _ _ _ _ a b c=>Dd a b c) CU (λ_ a=>C6 a) (λ_ _ _ a b c=>C7 a b c) (λ_ _ a b=>Di a b) (λ_ a=>An a) (λ_ _ _ a b c=>C8 a b c) (λ_ a=>Aq a) (λ_ a=>Ao a) (λ_ _ _ a=>HS a) (λ_ _ _ _ a b=>HU a b) (λ_ _ a b=>HQ a b) (λ_ _ _ _ _ _ _ _=>Dj) (λ_ _ _ a=>Ie a) Aj (λ_ _ a b=>vW a b) ir
 refine⟨one,λdh=>?_⟩
 induction dh using jt.rec (motive_1:=λ_=>True) with
 |nil=>exact Aj
 |cons e es _ ih=>exact vW (one e) ih
 |_=>trivial
end
def nt:Expr->Bool
 |.ListComp ..=>false|.SetComp ..=>false|.DictComp ..=>false
 |_=>true
def LH:Expr->Bool
 |.Tuple ..=>false
 |_=>true
def Pb:Expr->Bool
 |.SetComp ..=>false|.DictComp ..=>false
 |_=>true
mutual
noncomputable def yq(Γ:nV):IS->Stmt->Bool
 |.expr e,s=>Ad (λx _=>nt x&&bf Γ e x) s
 |.asg p e,s=>Hi (λq1 x _=>k1 (λtg=>sJ Γ p tg&&bf Γ e x&&(match p with|.one _=>Pb x|.tup _=>nt x&&LH x)) q1) s
 |.aug i o e,s=>O4 (λq1 op v _=>m8 (λx _=>Γ.N[i]?==some x&&(Γ.sc.names.lookup x==some .local || Γ.sc.names.lookup x==some .cell)&&Hu o op&&(match o with|.pow=>false|_=>true)&&bf Γ e v) q1) s
 |.iu o i v,s=>Hi (λq1 x _=>k1 (λq2=>CK (λa b _=>l6 b&&nt x&&bf Γ o a&&bf Γ i b&&bf Γ v x) q2) q1) s
 |.iff c a b,s=>Qy (λt x y _=>bf Γ c t&&bT Γ a x&&bT Γ b y) s
 |.for p k it body,s=>Lu (λtg iter x q1 _=>oh q1 (sJ Γ p tg&&vV Γ k it iter&&(match k,p with|.enum,.one _=>false|.zip,.one _=>false|_,_=>true)&&bT Γ body x)) s
 |.whl _ c body,s=>Hl (λt x q1 _=>oh q1 (bf Γ c t&&bT Γ body x)) s
 |.ret e,s=>Ho (λq1 _=>vQ (λx=>bf Γ e x) q1) s
 |.zW,s=>Ho (λq1 _=>Ab q1 (true)) s
 |.brk,s=>Lw (λ_=>true) s
 |.cnt,s=>Lx (λ_=>true) s
 |.pass,s=>Ew (λ_=>true) s||Ad (λq1 _=>uH (λq2 _ _=>Lr (λ_=>true) q2) q1) s
 |.never,_=>true
 |.setF _ _ _ _,_=>false
noncomputable def bT(Γ:nV):gc->List Stmt->Bool
 |.nil,ls=>ls.isEmpty
 | .cons s r,ls=>match ls with
  |l::ls=>yq Γ s l&&bT Γ r ls
  |[]=>false
end
structure Aw (Φ:Fn) (Γ:nV) (k:Nat) (X:Cx) (cl:Nat->Addr) (EX:Nat->List V->Hp->Prop):Prop extends Ctx Φ Γ k X cl EX where
 fn:∀x,X.fn x=true
 nd:X.N.Nodup
 kind:X.env.scope.kind=.function
 xe:PassesOwn (model X.prog X.w) X.A X.env X.xe
def WF(K:Frag)(D:Ends):Fl->Hs->List Addr->Hp->Prop
 |.nx env',_,ρ',H'=>∀σ',bZ K ρ' env' σ' H'->env'.length = σ'.length->D.nx σ' H'
 |.rt v,_,ρ',H'=>∀x,VR K ρ' H' v x->D.rt x H'
 |.bk env',_,ρ',H'=>∀σ',bZ K ρ' env' σ' H'->env'.length = σ'.length->D.bk σ' H'
 |.ct env',_,ρ',H'=>∀σ',bZ K ρ' env' σ' H'->env'.length = σ'.length->D.ct σ' H'
def tS(Φ:Fn)(B:Bd)(EX:Nat->List V->Hp->Prop)(ir:IS):TS:=λD σ H=>∃ρ env h,bZ B.K ρ env σ H/\env.length = σ.length/\HR B ρ h H/\Post B EX ρ H (WF B.K D) (dg Φ ir env h)
def R0(Φ:Fn)(B:Bd)(EX:Nat->List V->Hp->Prop)(ir:gc):TS:=λD σ H=>∃ρ env h,bZ B.K ρ env σ H/\env.length = σ.length/\HR B ρ h H/\Post B EX ρ H (WF B.K D) (gf Φ ir env h)
theorem _root_.L2.PS.imp(h:PS X e t)(i:∀D σ H,t' D σ H->t D σ H):PS X e t':=λpins s σ H D I hw=>h pins s σ H D I (i D σ H hw)
theorem _root_.L2.pQ.imp(h:pQ X e t)(i:∀D σ H,t' D σ H->t D σ H):pQ X e t':=λpins s σ H D I hw=>h pins s σ H D I (i D σ H hw)
section
variable {Φ:Fn} {Γ:nV} {k:Nat} {X:Cx} {cl:Nat->Addr} {EX:Nat->List V->Hp->Prop}
def qu(Φ:Fn)(ir:IS):Prop:=∀(Γ:nV) (k:Nat) (X:Cx) (cl:Nat->Addr) (EX:Nat->List V->Hp->Prop) (st:Stmt),Aw Φ Γ k X cl EX->yq Γ ir st=true->PS X st (tS Φ (bd X cl) EX ir)
def oj(Φ:Fn)(dh:gc):Prop:=∀(Γ:nV) (k:Nat) (X:Cx) (cl:Nat->Addr) (EX:Nat->List V->Hp->Prop) (st:List Stmt),Aw Φ Γ k X cl EX->bT Γ dh st=true->pQ X st (R0 Φ (bd X cl) EX dh)
theorem jT{n:Nat}(h:nt e=true):swapsWith e t n env=pure false:=by
 cases e<;>first|rfl|(exact absurd h TH)
theorem JY(ir:IE)(c:Ctx Φ Γ k X cl EX)(h:bf Γ ir e=true):PE X e (tV Φ (bd X cl) EX ir):=(kR.1 ir Γ k X cl EX e c h).1
theorem R1(ir:IE)(c:Ctx Φ Γ k X cl EX)(h:bf Γ ir e=true):PT X e (tT Φ (bd X cl) EX ir):=(kR.1 ir Γ k X cl EX e c h).2
theorem Ax(hs:∀env h,dg Φ ir env h=.no):qu Φ ir:=by
 intro Γ k X cl EX st c h;refine mw.imp λD σ H ⟨ρ,env,h,hE,hl,r,p⟩=>?_;rw[hs]at p;exact p.elim
theorem Ay:qu Φ (.expr e):=by
 intro Γ k X cl EX st c h;apply vR h;intro x _ h;simp only[and_eq_true]at h;refine(BQ (JY e c.toCtx h.2) (jT h.1)).imp λD σ H aE=>?_;obtain⟨ρ,env,h,hE,hl,r,p⟩:=aE;simp only[dg]at p;exact⟨ρ,env,h,hE,r,aA p λv h1 ρ1 x H1 g1 r1 q1 p1=>ai r1 p1 σ (hE.up g1) hl⟩
theorem EC:qu Φ (.asg p e):=by
 intro Γ k X cl EX st c h;apply Ae h;intro q1 x pos h;apply m9 h;intro tg h;simp only[and_eq_true]at h;obtain⟨⟨h1,h2⟩,h3⟩:=h;have hg:=v8 c.toCtx c.fn c.nd h1;have he:=JY e c.toCtx h2;have fin:∀D σ H,tS Φ (bd X cl) EX (.asg p e) D σ H->BS (tV Φ (bd X cl) EX e) (yo X.K p) D σ H:=λD σ H ⟨ρ,env,h,hE,hl,r,pp⟩=>by
  simp only[dg]at pp;refine⟨ρ,env,h,hE,r,aA pp λv h1 ρ1 x H1 g1 r1 q1 p1=>?_⟩;obtain⟨env',e1,p2⟩:=bJ p1;exact v9 e1 q1 (hE.up g1) hl λσ' Pc hl' _=>ai r1 p2 σ' Pc hl'
 have uC:(assignEach [tg] X.env).map (·.2)=[assign tg X.env]:=by
  cases p with
  |one i=>obtain⟨t,tp,rfl⟩:=nj h1;rfl
  |tup is=>obtain⟨es,kk,tp,rfl⟩:=jS h1;rfl
 cases p with
 |tup is=>
  simp only[and_eq_true]at h3;refine(kB he hg ?_ ?_ uC).imp fin
  ·show swapsWith x (some tg) _ _=_;exact jT h3.1
  ·obtain⟨es,kk,tp,rfl⟩:=jS h1;cases x<;>first|rfl|(exact absurd h3.2 TH)
 |one i=>
  obtain⟨t,tp,rfl⟩:=nj h1
  ·
   simp only[sJ,and_eq_true,beq_iff_eq]at h1;have loc:L2.Loc X.env.scope t:=by unfold L2.Loc;rw[c.sc];simpa using h1.2
   have pl:nt x=true->PS X (.Assign [.Name t tp] x pos) (tS Φ (bd X cl) EX (.asg (.one i) e)):=λhx=>(yT c.nd (by rw[c.N];exact h1.1) loc he (jT hx) (.inl (c.fn t))).imp fin;cases x with
   |ListComp e' gens scope p2=>
    cases hb:(X.env.kindOf t==some .local&&tp.line==p2.line && !(scope.names.any λ(n,k)=>n==t&&(k==.local||k==.cell))) with
    |false=>
     refine(yT c.nd (by rw[c.N];exact h1.1) loc he ?_ (.inl (c.fn t))).imp fin;have bk:(X.env.blockKind==.function)=true:=by unfold Env.blockKind;rw[c.kind];rfl
     show (pure (X.env.blockKind==.function&&X.env.kindOf t==some .local&&tp.line==p2.line && !(scope.names.any λ(n,k)=>n==t&&(k==.local||k==.cell))):Sem Bool)=pure false;rw[bk,Vk,hb]
    |true=>
     have bk:(X.env.blockKind==.function)=true:=by unfold Env.blockKind;rw[c.kind];rfl
     have hsw:swapsWith (.ListComp e' gens scope p2) (some (.Name t tp)) pos.line X.env=pure true:=by show (pure (X.env.blockKind==.function&&X.env.kindOf t==some .local&&tp.line==p2.line && !(scope.names.any λ(n,k)=>n==t&&(k==.local||k==.cell))):Sem Bool)=pure true;rw[bk,Vk,hb]
     cases e with
     |comp N' js pat ik it LI elt=>obtain⟨e2,Tu,iter,ifs,Pd,pos2,wi,g,tt,te,q0,q1,q2,q3,q4,q5,q6,q7⟩:=nq (kR.2 it) (kR.1 LI) (kR.1 elt) c.toCtx h2;cases q0;refine(Cn c.nd (by rw[c.N];exact h1.1) loc q1 c.calm q2 q3 q4 q5 hsw (.inl (c.fn t)) q6).imp λD σ H hh=>?_;exact q7 σ H _ (fin D σ H hh)
     |dflt N' js p q d w=>refine mw.imp λD σ H hh=>?_;obtain⟨ρ,env,h,hE,hl,r,pp⟩:=hh;simp only[dg,aG]at pp;exact pp.elim
     |_=>first|exact absurd h2 TH|(rw[bf.eq_def]at h2;cases h2)
   |SetComp _ _ _ _=>exact absurd h3 TH
   |DictComp _ _ _ _ _=>exact absurd h3 TH
   |_=>exact pl rfl
theorem ED{i:Nat}:qu Φ (.aug i o e):=Ax λ_ _=>rfl
def LJ(B:Bd)(EX:Nat->List V->Hp->Prop):Fv:=λo i v H Q=>∃ρ h a b w,HR B ρ h H/\VR B.K ρ H a o/\VR B.K ρ H b i/\VR B.K ρ H w v/\Post B EX ρ H (λ_ _ _ H'=>Q H') (mX a b w h)
theorem Ig(hu:X.A.units+64<cLine):Fw X (LJ (bd X cl) EX):=by
 intro pins s σ H o i v ov iv u Q I ro ri rv hh;obtain⟨ρ,h,a,b,w,r,ha,hb,hw,p⟩:=hh;cases a with
 |ref j=>
  simp only[mX]at p;obtain⟨ob,e1,p⟩:=aB p;have dict:∀kvs,ob=.dct kvs->Post (bd X cl) EX ρ H (λ_ _ _ H'=>Q H') (bnd (aN (keyOf b)) (λk=>aF (decide (kvs.length<sizeLine)) (put j (.dct (cF kvs k w)))) h)->wpAny (model X.prog X.w) X.A (setItem ov iv u) (λ_ s'=>∃H',L2.Inv X pins σ H' s'/\Q H') X.xe s:=by rintro kvs rfl p;obtain⟨kk,e2,p⟩:=bJ p;obtain⟨e3,p⟩:=aH p;have e3:=Ud e3;rw[VR]at ha;obtain⟨A,rfl,k1⟩:=ha;obtain⟨ks,k2,k3⟩:=r.ob j _ A e1 k1;cases ro;have ek:=GI hb e2;subst ek;refine xF (by omega) I (Cd.k (v:=v) k2 (by rw[<-k3.length];exact e3)) ri rv λs' I'=>⟨_,I',?_⟩;have g:Gr ρ H ρ (upd H A (.dK (putK ks kk v))):=Gr.put (Ub k1) k2 rfl;exact p ρ _ g (r.put k1 e1 (u:=.dct (cF kvs kk w)) ⟨_,av,fU.put kk (VR.up g _ _ hw) (fU.up g _ _ k3)⟩)
  cases ob with
  |lst xs=>
   cases b<;>first|(exact p.elim)|skip
   rename_i n _;obtain⟨jj,e2,p⟩:=bJ p;obtain⟨A,ys,rfl,k1,k2,k3⟩:=iO r ha e1;rw[VR]at hb;subst hb;refine set_list pins s σ H _ _ v ov iv u Q I ro ri rv ⟨A,ys,n,jj,rfl,rfl,k2,by rw[<-k3.length];exact e2,?_⟩;have g:Gr ρ H ρ (upd H A (.lst (ys.set jj v))):=Gr.put (Ub k1) k2 rfl;exact p ρ _ g (r.put k1 e1 (u:=.lst (xs.set jj w)) ⟨_,av,aq.set jj (aq.up g _ _ k3) (VR.up g _ _ hw)⟩)
  |dct kvs=>exact dict kvs rfl (by cases b<;>exact p)
  |ins c fs=>cases b<;>exact p.elim
 |_=>exact p.elim
theorem Az:qu Φ (.iu o i v):=by
 intro Γ k X cl EX st c h;apply Ae h;intro q1 x pos h;apply m9 h;intro q2 h;apply uI h;intro a b sp h;simp only[and_eq_true]at h;obtain⟨⟨⟨⟨h1,h2⟩,h3⟩,h4⟩,h5⟩:=h;have R3:PG X (.Subscript a b sp) (Kq (tV Φ (bd X cl) EX o) (tV Φ (bd X cl) EX i) (LJ (bd X cl) EX)):=Fx (JY o c.toCtx h3) (JY i c.toCtx h4) (Ig c.units) (by
  intro v;cases b<;>first|rfl|(exact absurd h1 TH))
 refine(kB (JY v c.toCtx h5) R3 (jT (t:=some (.Subscript a b sp)) (n:=pos.line) (env:=X.env) h2) (by cases x<;>rfl) rfl).imp λD σ H aE=>?_;obtain⟨ρ,env,h,hE,hl,r,p⟩:=aE;simp only[dg]at p;refine⟨ρ,env,h,hE,r,aA p λw h1 ρ1 x1 H1 g1 r1 q1 p1=>⟨ρ1,env,h1,hE.up g1,r1,aA p1 λw2 h2 ρ2 x2 H2 g2 r2 q2 p2=>⟨ρ2,env,h2,(hE.up g1).up g2,r2,aA p2 λw3 h3 ρ3 x3 H3 g3 r3 q3 p3=>?_⟩⟩⟩;refine⟨ρ3,h3,w2,w3,w,r3,VR.up g3 _ _ q2,q3,VR.up (g2.trans g3) _ _ q1,aW p3 λ_ h4 ρ4 H4 g4 r4 p4=>?_⟩;exact ai r4 p4 σ (((hE.up g1).up g2).up g3 |>.up g4) hl
theorem EE(ha:oj Φ a)(hb:oj Φ b):qu Φ (.iff t a b):=by
 intro Γ k X cl EX st c h;apply Ls h;intro tt x y pos h;simp only[and_eq_true]at h;refine(Kn (R1 t c.toCtx h.1.1) (ha Γ k X cl EX x c h.1.2) (hb Γ k X cl EX y c h.2)).imp λD σ H aE=>?_;obtain⟨ρ,env,h,hE,hl,r,p⟩:=aE;simp only[dg]at p;refine⟨ρ,env,h,hE,r,kO p λv h1 p1=>?_⟩;obtain⟨s,e1,p2⟩:=aB p1;refine⟨s,e1,λρ1 H1 g1 r1=>?_⟩;have p2:=Post.up g1 p2;cases s with
 |true=>rw[T4 rfl]at p2 |-;exact⟨ρ1,env,h1,hE.up g1,hl,r1,p2⟩
 |false=>rw[TX TH]at p2 |-;exact⟨ρ1,env,h1,hE.up g1,hl,r1,p2⟩
theorem EF(hb:oj Φ body):qu Φ (.for p ik it body):=by
 intro Γ k X cl EX st c h;apply Hj h;intro tg iter x q1 pos h;apply jw h;intro h;simp only[and_eq_true]at h;obtain⟨⟨⟨h1,h2⟩,h3⟩,h4⟩:=h;have hen:ik=.enum\/ik=.zip->∃es kk pos,tg=.Tuple es kk pos:=by
  intro hz;cases p with
  |one i=>rcases hz with rfl|rfl<;>cases h3
  |tup is=>exact jS h1
 obtain⟨hi,hf⟩:=EB (kR.2 it) c.toCtx h2 hen;refine(Fz c.xe c.calm hi (v8 c.toCtx c.fn c.nd h1) (hb Γ k X cl EX x c h4) hf).imp λD σ H aE=>?_;obtain⟨ρ,env,h,hE,hl,r,pp⟩:=aE;simp only[dg]at pp;have p':Post (bd X cl) EX ρ H (WF X.K D) (bnd (JX Φ ik it env) (λsrc=>bnd (ask λh=>src.items h) λxs=>forM src (λx env=>bnd (aN (fc p x env)) λenv'=>gf Φ body env') xs.length 0 env) h):=by unfold JX;rw[aO];exact pp
 refine⟨ρ,env,h,hE,r,aW p' λsrc h1 ρ1 H1 g1 r1 p1=>?_⟩;obtain⟨xs,e1,p2⟩:=aB p1;refine⟨⟨xs,e1⟩,λJ wk=>?_⟩;refine⟨λi m σ' H'=>∃ρ' env' h',Gr ρ1 H1 ρ' H'/\bZ X.K ρ' env' σ' H'/\env'.length = σ'.length/\HR (bd X cl) ρ' h' H'/\Post (bd X cl) EX ρ' H' (WF X.K D) (forM src (λx env=>bnd (aN (fc p x env)) λenv'=>gf Φ body env') m i env' h'),
  ⟨xs.length,ρ1,env,h1,Gr.refl,hE.up g1,hl,r1,p2⟩,?_⟩
 rintro i m σ' H' ⟨ρ',env',h',w1,w2,w3,w4,w5⟩;cases m with
 |zero=>simp only[forM]at w5;obtain⟨xs',k1,w5⟩:=aB w5;obtain⟨k2,w5⟩:=aH w5;exact .inl ⟨wk.stop w1.w w4 k1 (Ud k2),ai w4 w5 σ' w2 w3⟩
 |succ m=>
  simp only[forM]at w5;obtain⟨xs',k1,w5⟩:=aB w5;cases hx:xs'[i]? with
  |none=>rw[hx]at w5;exact .inl ⟨wk.stop w1.w w4 k1 (Vc.mp hx),ai w4 w5 σ' w2 w3⟩
  |some v=>
   rw[hx]at w5;dsimp only at w5;refine .inr ⟨wk.go w1.w w4 k1 hx,_,λyI Gh w=>⟨m,Uz _,w⟩,λy H2 hy=>?_⟩;obtain⟨z1,z2,z3⟩:=wk.tW w1.w w4 k1 hx hy;rw[aO]at w5;obtain⟨fX,k2,w5⟩:=bJ w5;refine v9 k2 z3 (w2.up z1) w3 λσ2 NF hl2 _=>⟨ρ',fX,h',NF,hl2,z2,aW (Post.up z1 w5) λf h3 ρ3 H3 g3 r3 p3=>?_⟩;cases f with
   |nx Dk=>exact λσ3 LK hl3=>⟨ρ3,Dk,h3,(w1.trans z1).trans g3,LK,hl3,r3,p3⟩
   |ct Dk=>exact λσ3 LK hl3=>⟨ρ3,Dk,h3,(w1.trans z1).trans g3,LK,hl3,r3,p3⟩
   |bk Dk=>exact λσ3 LK hl3=>ai r3 p3 σ3 LK hl3
   |rt v=>exact(ai r3 p3:WF X.K D (.rt v) h3 ρ3 H3)
theorem EG{n:Nat}(hb:oj Φ body):qu Φ (.whl n t body):=Ax λ_ _=>rfl
theorem EH:qu Φ (.ret e):=by
 intro Γ k X cl EX st c h;apply Af h;intro q1 _ h;apply qm h;intro x h;refine(Fq (JY e c.toCtx h)).imp λD σ H aE=>?_;obtain⟨ρ,env,h,hE,hl,r,p⟩:=aE;simp only[dg]at p;exact⟨ρ,env,h,hE,r,aA p λv h1 ρ1 x H1 g1 r1 q1 p1=>ai r1 p1 x q1⟩
theorem AA:qu Φ .zW:=by
 intro Γ k X cl EX st c h;apply Af h;intro q1 _ h;apply vP h;intro h;refine BR.imp λD σ H aE=>?_;obtain⟨ρ,env,h,hE,hl,r,p⟩:=aE;simp only[dg]at p;exact ai r p _ VR.non
theorem EI:qu Φ .brk:=by
 intro Γ k X cl EX st c h;apply Hq h;intro _ h;refine yR.imp λD σ H aE=>?_;obtain⟨ρ,env,h,hE,hl,r,p⟩:=aE;simp only[dg]at p;exact ai r p σ hE hl
theorem EJ:qu Φ .cnt:=by
 intro Γ k X cl EX st c h;apply Hr h;intro _ h;refine qO.imp λD σ H aE=>?_;obtain⟨ρ,env,h,hE,hl,r,p⟩:=aE;simp only[dg]at p;exact ai r p σ hE hl
theorem AB:qu Φ .pass:=by
 intro Γ k X cl EX st c h
 rcases Qx h with h|h
 ·apply CN h;intro _ h;refine BP.imp λD σ H aE=>?_;obtain⟨ρ,env,h,hE,hl,r,p⟩:=aE;simp only[dg]at p;exact ai r p σ hE hl
 ·apply vR h;intro q1 _ h;apply se h;intro q2 _ _ h;apply Hh h;intro _ h;refine Fp.imp λD σ H aE=>?_;obtain⟨ρ,env,h,hE,hl,r,p⟩:=aE;simp only[dg]at p;exact ai r p σ hE hl
theorem wc:qu Φ .never:=by
 intro Γ k X cl EX st c h;refine mw.imp λD σ H aE=>?_;obtain⟨ρ,env,h,hE,hl,r,p⟩:=aE;simp only[dg]at p;exact p.elim
theorem AD{n:Nat}:qu Φ (.setF n a x v):=Ax λ_ _=>rfl
theorem AE:oj Φ .nil:=by
 intro Γ k X cl EX st c h;rw[bT]at h;cases st with
 |cons _ _=>cases h
 |nil=>refine BO.imp λD σ H aE=>?_;obtain⟨ρ,env,h,hE,hl,r,p⟩:=aE;simp only[gf]at p;exact ai r p σ hE hl
theorem we(h1:qu Φ s)(h2:oj Φ ss):oj Φ (.cons s ss):=by
 intro Γ k X cl EX st c h;rw[bT.eq_def]at h;dsimp only at h;cases st with
 |nil=>cases h
 |cons l ls=>
  simp only[and_eq_true]at h;refine(gb (h1 Γ k X cl EX l c h.1) (h2 Γ k X cl EX ls c h.2)).imp λD σ H aE=>?_;obtain⟨ρ,env,h,hE,hl,r,p⟩:=aE;simp only[gf]at p;refine⟨ρ,env,h,hE,hl,r,aW p λf h1 ρ1 H1 g1 r1 p1=>?_⟩;cases f with
  |nx env'=>exact λσ' Pc hl'=>⟨ρ1,env',h1,Pc,hl',r1,p1⟩
  |rt v=>exact(ai r1 p1:WF X.K D (.rt v) h1 ρ1 H1)
  |bk env'=>exact(ai r1 p1:WF X.K D (.bk env') h1 ρ1 H1)
  |ct env'=>exact(ai r1 p1:WF X.K D (.ct env') h1 ρ1 H1)
theorem AF:∀dh,oj Φ dh:=by
 intro dh;exact gc.rec (motive_1:=λs=>qu Φ s) (motive_2:=λss=>oj Φ ss) (λ_=>Ay) (λ_ _=>EC) (λ_ _ _=>ED) (λ_ _ _=>Az) (λ_ _ _ a b=>EE a b) (λ_ _ _ _ a=>EF a) (λ_ _ _ a=>EG a) (λ_=>EH) AA EI EJ AB wc (λ_ _ _ _=>AD)
  AE (λ_ _ a b=>we a b) dh
end
abbrev Row:=Str×Nat×(List Val->M Val)
def look(fs:List Row)(j:Nat):List Val->M Val:=match fs[j]? with
 |some r=>r.2.2
 |none=>λ_=>aN none
def dX(P:Program)(w:World)(B:Bd)(mg:Str->Option Value)(base:Heap)(k:Nat)(fs:List Row):Prop:=∀(j:Nat) (r:Row),fs[j]?=some r->JW P w B mg base k j r.1 r.2.1 r.2.2
def bC(N P:List Str)(sc:Scope):Bool :=
 sc.kind==.function && !sc.isCoroutine && !sc.isGenerator&&decide N.Nodup&&N.take P.length==P&&(P.all λx=>sc.names.lookup x==some .local||sc.names.lookup x==some .cell)&&(sc.names.all λy=>y.2 != .free)
theorem jU(h:bC N P sc=true):jG N P sc:=by
 unfold bC at h;simp only[and_eq_true,beq_iff_eq,not_eq_true',decide_eq_true_eq,all_eq_true,or_eq_true,bne_iff_ne]at h;obtain⟨⟨⟨⟨⟨⟨h1,h2⟩,h3⟩,h4⟩,h5⟩,h6⟩,h7⟩:=h;exact⟨h1,h2,h3,h4,h5,h6,h7⟩
structure Base (K:Frag) (cl:Nat->Addr) (mg:Str->Option Value) (cons:List (Str×Val)) (tb:Tb):Prop where
 blt:∀x∈bltNames,mg x=none
 cons:∀p∈cons,∃v u,mg p.1=some u/\RelV v u/\∀K ρ H,VR K ρ H p.2 v
 cls:∀c,c<tb.nc->Qd K (cl c)/\∀x∈tb.Ly,yY K (cl c) x
 CO:∀p∈tb.CO,Meth K (cl p.1) p.2.1 (cl (1000+p.2.2))
 CP:∀p∈tb.CP,∃C,mg p.1=some (.ref C)/\La K C p.2.1 (cl (1000+p.2.2))
 isc:∀p∈tb.isc,∃C,mg p.1=some (.ref C)/\∀c b,p.2[c]?=some b->Qv K (cl c)/\kitOne K (.ref (cl c)) (.ref C)=some b
section
variable {P:Program} {w:World} {K:Frag} {cl:Nat->Addr} {mg:Str->Option Value} {base:Heap} {k:Nat} {fs:List Row} {cons:List (Str×Val)} {tb:Tb}
theorem EK{x qual:Str}{st:Stmt}{f:Addr}{fd:FuncData}{N ps:List Str}{body:gc}(T:Base K cl mg cons tb)(A:dX P w ⟨K,cl⟩ mg base k fs)(F:zm K x qual st f fd)(hS:bC N ps (af st)=true)
  (hc:bT ⟨N,af st,fs.map (λr=>(r.1,r.2.1)),cons,tb⟩ body (aC st)=true):cE P w K mg base rm (k+2) f fd ps (su ⟨K,cl⟩ ps.length (pe (look fs) N.length body)):=by
 have S:=jU hS;refine F.ok S (λvs H Q E h=>?_) (λcdv A' outer s H vs Q E hr h=>?_)
 ·obtain⟨ρ,h,ws,h1,_,h2,_⟩:=h;rw[<-h2.length,h1]
 ·obtain⟨ρ,h,ws,hl,r,hv,p⟩:=h
  have lv:=hv.length
  let X:Cx:=(fQ rm P w K mg base N qual (af st) f cdv A' outer s H E).yH
  have c:Aw (look fs) ⟨N,af st,fs.map (λr=>(r.1,r.2.1)),cons,tb⟩ k X cl (λ_ _ _=>False):=by
   refine { N:=rfl,sc:=rfl,calm:=rfl,room:=hr,jC:=λ_ _ _ z=>z,fns:=λj x n e=>?_,cls:=T.cls,CO:=T.CO,CP:=T.CP,isc:=T.isc,cons:=T.cons,blt:=T.blt,fn:=λ_=>rfl,nd:=S.nd,kind:=S.kind,xe:=PassesOwn.never };have e':(fs.map (λr=>(r.1,r.2.1)))[j]?=some (x,n):=e;rw[Ug]at e';cases er:fs[j]? with
   |none=>rw[er]at e';cases e'
   |some r=>rw[er]at e';cases e';have:=A j r er;unfold look;rw[er];exact this
  refine⟨_,AF body _ k X cl _ (aC st) c hc,ρ,ws.map some++replicate (N.length-ws.length) none,h,λi v e=>?_,?_,r,aW p λfl h1 ρ1 H1 g1 r1 p1=>?_⟩
  ·by_cases hi:i<ws.length
   ·rw[Ua (by simpa using hi)]at e
    rw[Ug]at e;cases ei:ws[i]? with
    |none=>rw[ei]at e;cases e
    |some w'=>rw[ei]at e;cases e;obtain⟨y,q1,q2⟩:=hv.get ei;refine⟨y,?_,q2⟩;show (vs.map some++_)[i]?=_;rw[Ua (by rw[TQ,<-lv];exact hi),Ug,q1];rfl
   ·rw[Uk (by simp;omega)]at e;have:=Ub e;rw[VM]at this;exact absurd this.2 (by simp)
  ·show _=(vs.map some++_).length;simp[lv]
  ·cases fl with
   |nx env'=>exact λσ' _ _=>ai r1 p1 _ VR.non
   |rt v=>exact(ai r1 p1:WV K Q v h1 ρ1 H1)
   |bk env'=>exact p1.elim
   |ct env'=>exact p1.elim
theorem _root_.Hv.JW.mono{j:Nat}{n:Nat}(g:JW P w B mg base k j x n φ):JW P w B mg base (k+2) j x n φ:=by
 have le:k<=k+2:=Nat.le_add_right _ _
 rcases g with ⟨h,⟨f,fd,ps,q1,q2,q3,q4,q5⟩|⟨c,f,fd,ps,φ0,q0,q1,q2,q3,q4,q5⟩⟩|⟨h,fd,ps,q1,q4,q5⟩
 ·exact .inl ⟨h,.inl ⟨f,fd,ps,q1,q2,q3,q4,q5.mono le⟩⟩
 ·exact .inl ⟨h,.inr ⟨c,f,fd,ps,φ0,q0,q1,q2,q3,q4,q5.mono le⟩⟩
 ·exact .inr ⟨h,fd,ps,q1,q4,q5.mono le⟩
theorem all_nil:dX P w ⟨K,cl⟩ mg base k []:=λj r e=>by simp at e
theorem wg{r0:Row}(A:dX P w ⟨K,cl⟩ mg base k fs)(g:JW P w ⟨K,cl⟩ mg base (k+2) fs.length r0.1 r0.2.1 r0.2.2):dX P w ⟨K,cl⟩ mg base (k+2) (fs++[r0]):=λj r e=>by
 by_cases hj:j<fs.length
 ·rw[Ua hj]at e;exact(A j r e).mono
 ·rw[Uk (by omega)]at e
  have hj0:j-fs.length=0:=by have:=(TJ.mp e).1;simp at this;omega
  rw[hj0]at e;simp at e;subst e;rw[show j=fs.length by omega];exact g
theorem AG{x qual:Str}{st:Stmt}{f:Addr}{fd:FuncData}{N ps:List Str}{body:gc}(T:Base K cl mg cons tb)(A:dX P w ⟨K,cl⟩ mg base k fs)(F:zm K x qual st f fd)(hm:mg x=some (.ref f))(hb:Binds K fd ps [])(AH:ps.length<1000)(hS:bC N ps (af st)=true)
  (hc:bT ⟨N,af st,fs.map (λr=>(r.1,r.2.1)),cons,tb⟩ body (aC st)=true):dX P w ⟨K,cl⟩ mg base (k+2) (fs++[(x,ps.length,pe (look fs) N.length body)]) :=
 wg (r0:=(x,ps.length,pe (look fs) N.length body)) A (.inl ⟨AH,.inl ⟨f,fd,ps,rfl,hm,F.kp,hb,EK T A F hS hc⟩⟩)
end
def qJ(K:Frag)(x qual:Str)(st:Stmt)(f:Addr):Prop:=∃fd,zm K x qual st f fd
theorem qJ.kp{K:Frag}{x qual:Str}{st:Stmt}{f:Addr}(F:qJ K x qual st f):keepIn K (.ref f)=true:=F.elim λ_ F=>F.kp
section
variable {α:Type} {p:List α -> Prop}
theorem Pe:∀{us:List α},us.length=1->(∀a,p [a])->p us
 |[a],_,h=>h a
theorem ln2:∀{us:List α},us.length=2->(∀a b,p [a,b])->p us
 |[a,b],_,h=>h a b
theorem QF:∀{us:List α},us.length=3->(∀a b c,p [a,b,c])->p us
 |[a,b,c],_,h=>h a b c
theorem R4:∀{us:List α},us.length=4->(∀a b c d,p [a,b,c,d])->p us
 |[a,b,c,d],_,h=>h a b c d
end
def R5(x qual:Str)(st:Stmt)(ps:List Str):Prop:=∀(kV doc pm:Value) (an:Option Addr) (cdv ct:Value) (us:List Value),us.length=ps.length->bindArgs (fnOf x qual (jI st) (aC st) (af st) .none kV doc pm an cdv ct) ⟨us,[]⟩=pure (ps.zip us)
section
variable {P:Program} {w:World} {K:Frag} {cl:Nat->Addr} {mg:Str->Option Value} {base:Heap} {k:Nat} {fs:List Row} {cons:List (Str×Val)} {tb:Tb} {x i y qual:Str} {st:Stmt} {f:Addr} {N ps:List Str} {body:gc} (T:Base K cl mg cons tb) (A:dX P w ⟨K,cl⟩ mg base k fs)
include T A
theorem gR(F:qJ K x qual st f)(hm:mg x=some (.ref f))(hS:bC N ps (af st)=true)
  (hc:bT ⟨N,af st,fs.map (λr=>(r.1,r.2.1)),cons,tb⟩ body (aC st)=true) (AH:ps.length<1000) (hb:R5 x qual st ps):dX P w ⟨K,cl⟩ mg base (k+2) (fs++[(x,ps.length,pe (look fs) N.length body)]):=F.elim λ_ F=>AG T A F hm (F.binds hb) AH hS hc
end
theorem Ih{K:Frag}{cl:Nat->Addr}{φ:List Val->M Val}{H:Hp}{a:Addr}{ns:List Int}(hO:zk H)(hS:fJ K H a (ns.map V.int))(h:∃h',φ [.rl (ns.map .int)] []=.ok (.bl true) h') :
  su ⟨K,cl⟩ 1 φ [.ref a] H (λv _=>v=.bl true) λ_ _ _=>False:=by
 obtain⟨h',e⟩:=h;have sr:Eo K H a (ns.map V.int):=by
  rcases hS with (z|z)|z
  ·rcases hO a with y|⟨o,xs,y⟩
   ·rw[y]at z;cases z
   ·rw[y]at z;cases z
  ·exact .inl z
  ·exact .inr (.inr z)
 refine⟨[],[],[.rl (ns.map .int)],rfl,⟨rfl,List.nodup_nil,λi o a e=>by simp at e⟩,aq.cons (by rw[VR];exact⟨a,_,rfl,sr,aq.ints.mpr rfl⟩) aq.nil,?_⟩;rw[e];intro ρ' H' g r x q;rw[VR]at q;exact q
def NG(K:Frag):Sp:=λvs H Q _=>∃(a:Addr) (ns:List Int),vs=[.ref a]/\zk H/\fJ K H a (ns.map V.int)/\ns.length<=63/\∀H',Q (.bl true) H'
theorem Ii{K:Frag}{cl:Nat->Addr}{φ:List Val->M Val}(hφ:∀ns:List Int,ns.length<=63->∃h',φ [.rl (ns.map .int)] []=.ok (.bl true) h')(vs:List V)(H:Hp)(Q:VK)(E:XK)(h:NG K vs H Q E):su ⟨K,cl⟩ 1 φ vs H Q E:=by
 obtain⟨a,ns,rfl,hO,hS,hl,hq⟩:=h;obtain⟨ρ,h,vs,q1,q2,q3,q4⟩:=Ih (cl:=cl) hO hS (hφ ns hl);refine⟨ρ,h,vs,q1,q2,q3,?_⟩;revert q4;cases φ vs h with
 |ok v h'=>exact λq4 ρ' H' g r x hx=>by rw[show x=_ from q4 ρ' H' g r x hx];exact hq H'
 |exc c ws h'=>exact λq4=>q4
 |no=>exact λq4=>q4
theorem walk{l:PySem.W.OpenLaw}{q:Program}{loose:List Str}{XP:(Str->Option Value)->Heap->Prop}{YP:World->Heap->Prop}{d:DefRec}{K:Params->Frag}{k:Nat}{x:Str}(hn:l.most=some 63)(hdf:d.params.defaults=[])(hr:cD k callerA)
  (hY:∀(w:World) (h:Heap),YP w h->(K w.params).In h)
  (F:∀(w:World) (mg:Str->Option Value) (fa:Addr) (h:Heap),(K w.params).In h->h.Ns mainGlobals mg->mg d.name=some (.ref fa) ->
   ∃fd:FuncData,(∀(s:Shared) (u:Value),BindsTo s fd ⟨[u],[]⟩ [(x,u)])/\∀base:Heap,(K w.params).In base->base.Ns mainGlobals mg->cE l.prog w (K w.params) mg base rm k fa fd [x] (NG (K w.params))) :
  PySem.W.WalkO q loose XP YP l.row.toRowW d [] (λf vs=>PySem.call f vs) :=
 L2.Cg (n:=63) (k:=k) (x:=x) (CX:=λ_=>rm) (sp:=λw=>NG (K w.params)) hn (by decide) hdf hr hY F (λ_ _ a ns hl hO hS=>⟨a,ns,rfl,hO,hS,hl,λ_=>rfl⟩) λ_ _ _ _ _ z=>z
end Hv
end
section
namespace Hv
open PySem L2
inductive Pr (α:Type)
 |ok (a:α)|exc (c:Nat) (ds:List Val)|no
def pb{α β:Type}(m:Pr α)(f:α -> Pr β):Pr β:=match m with
 |.ok a=>f a
 |.exc c ds=>.exc c ds
 |.no=>.no
def pl{α:Type}(o:Option α):Pr α:=match o with
 |some a=>.ok a
 |none=>.no
def pg{α:Type}(c:Bool)(m:Pr α):Pr α:=if c=true then m else .no
inductive Mk
 |sh|nw|ow
def qK:Mk->Bool
 |.ow=>false
 |_=>true
def JZ:Mk->Bool
 |.nw=>true
 |_=>false
abbrev aD:=List (Option (Mk×Val))
abbrev FV:=Bool×Val
mutual
noncomputable def jV:Val->Bool
 |.rl _=>false
 |.dc _ _=>false
 |.ob _ _ _=>false
 |.ref _=>false
 |.tup vs=>aR vs
 |.non=>true
 |.bl _=>true
 |.int _=>true
 |.str _=>true
noncomputable def aR:List Val->Bool
 |[]=>true
 |v::vs=>jV v&&aR vs
end
def jW(f:Bool)(d:Val):Mk:=if (f && !jV d)=true then .nw else .sh
def putD(ks:List Key)(ds:List Val)(k:Key)(d:Val):Val:=.dc ((cF (ks.zip ds) k d).map (·.1)) ((cF (ks.zip ds) k d).map (·.2))
def iV:El->Val->Val->Pr FV
 |.add,.int a,.int b=>.ok (true,.int (a+b))
 |.add,.str a,.str b=>pg (decide (a.length+b.length<=sizeLine)) (.ok (true,.str (a++b)))
 |.add,.tup a,.tup b=>pg (!a.isEmpty&&decide (a.length+b.length<=sizeLine)) (.ok (aR (a++b),.tup (a++b)))
 |.add,.rl a,.rl b=>pg (decide (a.length+b.length<=sizeLine)) (.ok (aR (a++b),.rl (a++b)))
 |.sub,.int a,.int b=>.ok (true,.int (a-b))
 |.mul,.int a,.int b=>pg (fN a b) (.ok (true,.int (a*b)))
 |.fdiv,.int a,.int b=>pg (kL b) (.ok (true,.int (a/b)))
 |.mod,.int a,.int b=>pg (decide (0<b)) (.ok (true,.int (a%b)))
 |.pow,.int a,.int b=>pg (decide (0<=b/\b<=1000000/\a.natAbs<2 ^ 64)) (.ok (true,.int (a ^ b.toNat)))
 |_,_,_=>.no
def yr(v:Val)(lo hi:Option Int):Pr FV:=match v with
 |.tup vs=>pg (!(decide (HT.cP vs.length 0 lo=0)&&decide (HT.cP vs.length vs.length hi=vs.length))) (.ok (aR (eE vs lo hi),.tup (eE vs lo hi)))
 |.rl vs=>.ok (aR (eE vs lo hi),.rl (eE vs lo hi))
 |_=>.no
def fY:Bl->List Val->Pr FV
 |.len,[v]=>pb (pl (jP [] v)) λn=>.ok (true,.int n)
 |.min,[.int a,.int b]=>.ok (true,.int (if b<a then b else a))
 |.max,[.int a,.int b]=>.ok (true,.int (if b>a then b else a))
 |.min,[v]=>pb (pl (cg [] v)) λxs=>pb (pl ((aM xs).bind qi)) λm=>.ok (true,m)
 |.max,[v]=>pb (pl (cg [] v)) λxs=>pb (pl ((aM xs).bind qj)) λm=>.ok (true,m)
 |.sorted,[.rl xs]=>pb (pl (eY xs)) λys=>.ok (true,.rl ys)
 |.list,[v]=>pb (pl (cg [] v)) λxs=>.ok (aR xs,.rl xs)
 |.int,[.bl b]=>.ok (true,.int (if b=true then 1 else 0))
 |.int,[.int i]=>.ok (true,.int i)
 |.all,[.rl xs]=>pb (pl (dw xs)) λbs=>.ok (true,.bl (bs.all id))
 |.isin T,[v]=>pb (pl (rX [] v)) λt=>pb (pl (rY T t)) λb=>.ok (true,.bl b)
 |_,_=>.no
def fG:Ik->List Val->Option (List Val)
 |.seq,[.tup vs]=>some vs
 |.seq,[.rl vs]=>some vs
 |.range,[.int n]=>if inR n then some (bN 0 n.toNat) else none
 |.range,[.int a,.int b]=>if inR a&&inR b then some (bN a (b-a).toNat) else none
 |.enum,[.rl vs]=>some (bI 0 vs)
 |_,_=>none
def AI(k:Ik)(ds:List Val):Option (List Val):=match k with
 |.zip=>none
 |k=>fG k ds
def aS:List Nat->List Val->aD->Option aD
 |[],[],env=>some env
 |i::is,d::ds,env=>aS is ds (env.set i (some (.sh,d)))
 |_,_,_=>none
def dM:uF->Val->aD->Option aD
 |.one i,d,env=>some (env.set i (some (.sh,d)))
 |.tup is,.tup ds,env=>aS is ds env
 |_,_,_=>none
def jX(js:List (Option Nat))(env:aD):aD:=js.map λo=>match o with
 |none=>none
 | some j=>match env[j]? with
  |some (some d)=>some d
  |_=>none
def je(f:Val->Pr (Option FV)):List Val->Pr (Bool×List Val)
 |[]=>.ok (true,[])
 |x::r=>pb (f x) λo=>pb (je f r) λp=>.ok (match o with|some e=>(e.1&&p.1,e.2::p.2)|none=>p)
def nu:Val->Pr Bool
 |.bl b=>.ok b
 |_=>.no
def iA(env:aD):IE->Option FV
 | .var i=>match env[i]? with
  |some (some (_,d))=>some (jV d,d)
  |_=>none
 |_=>none
def isVar:IE->Bool
 |.var _=>true
 |_=>false
mutual
noncomputable def aX(Ψ:Nat->List Val->Pr FV):IE->aD->Pr FV
 | .var i,env=>match env[i]? with
  |some (some (m,d))=>pg (qK m) (.ok (jV d,d))
  |_=>.no
 |.cst d,_=>.ok (jV d,d)
 |.con _ d,_=>.ok (jV d,d)
 |.no,_=>.no
 |.bin o a b,env=>pb (if isVar a=true then pl (iA env a) else aX Ψ a env) λx=>pb (if isVar b=true then pl (iA env b) else aX Ψ b env) λy=>iV o x.2 y.2
 | .neg a,env=>pb (aX Ψ a env) λx=>match x.2 with
  |.int i=>.ok (true,.int (-i))
  |_=>.no
 |.cmp o a b,env=>pb (if isVar a=true then pl (iA env a) else aX Ψ a env) λx=>pb (if isVar b=true then pl (iA env b) else aX Ψ b env) λy=>pb (pl (cop [] o x.2 y.2)) λt=>.ok (true,.bl t)
 |.chn _ _ _ _ _,_=>.no
 |.and a b,env=>pb (aX Ψ a env) λx=>pb (nu x.2) λt=>if t=true then pb (aX Ψ b env) λy=>pb (nu y.2) λu=>.ok (true,.bl u) else .ok (true,.bl false)
 |.or a b,env=>pb (aX Ψ a env) λx=>pb (nu x.2) λt=>if t=true then .ok (true,.bl true) else pb (aX Ψ b env) λy=>pb (nu y.2) λu=>.ok (true,.bl u)
 |.not a,env=>pb (aX Ψ a env) λx=>pb (nu x.2) λt=>.ok (true,.bl (!t))
 |.ite _ _ _,_=>.no
 |.tup es,env=>pb (sL Ψ es env) λp=>pg (decide (p.2.length<=sizeLine)) (.ok (p.1,.tup p.2))
 |.lst es,env=>pb (sL Ψ es env) λp=>pg (decide (p.2.length<=sizeLine)) (.ok (p.1,.rl p.2))
 |.idx a b,env=>pb (if isVar a=true then pl (iA env a) else aX Ψ a env) λx=>pb (aX Ψ b env) λy=>pb (pl (rW [] x.2 y.2)) λz=>.ok (jV z,z)
 |.slc a lo hi,env=>pb (if isVar a=true then pl (iA env a) else aX Ψ a env) λx=>pb (if cy lo=true then .ok none else pb (aX Ψ lo env) λv=>pb (pl (iy v.2)) λi=>.ok (some i)) λl=>
   pb (if cy hi=true then .ok none else pb (aX Ψ hi env) λv=>pb (pl (iy v.2)) λi=>.ok (some i)) λu=>yr x.2 l u
 |.call j es,env=>pb (sL Ψ es env) λp=>Ψ j p.2
 |.blt b es,env=>pb (fZ Ψ es env) λds=>fY b ds
 | .met m a es,env=>match m with
  |.join=>.no
  |_=>.no
 | .comp _ js pat k it c elt,env=>pb (fZ Ψ it env) λits=>pb (pl (AI k its)) λxs=>pg (decide (xs.length<=100000))
   (pb (je (λd=>pb (pl (dM pat d (jX js env))) λenv'=>pb (if cy c=true then .ok true else pb (aX Ψ c env') λv=>pl (cG [] v.2)) λt=>
    if t=true then pb (aX Ψ elt env') λe=>.ok (some e) else .ok none) xs) λp=>.ok (p.1,.rl p.2))
 |.dct0,_=>.ok (true,.dc [] [])
 | .sset a,env=>pb (if isVar a=true then pl (iA env a) else aX Ψ a env) λx=>match x.2 with
  |.rl xs=>pb (pl (aM xs)) λns=>pg (decide (ns.length<64)) (.ok (true,.rl ((sortI (L2.bA [] ns)).map .int)))
  |_=>.no
 |.dget _ _ _,_=>.no
 |.dct1 k v,env=>pb (aX Ψ k env) λx=>pb (pl (keyOf x.2)) λkk=>pb (aX Ψ v env) λy=>pb (pl (keyOf y.2)) λk2=>.ok (true,putD [kk] [.bl true] k2 (.bl true))
 |.lkeys _,_=>.no
 |.sdef ..,_=>.no
 |.svals _,_=>.no
 |.skeys d,env=>pb (if isVar d=true then pl (iA env d) else aX Ψ d env) λo=>pb (pl (jv [] o.2)) λns=>.ok (true,.rl (ns.map .int))
 |.fld _ _ _,_=>.no
 |.mth _ _ _ _,_=>.no
 |.rev _ _,_=>.no
 |.dflt _ _ _ _ _ _,_=>.no
 |.isc _ _ _,_=>.no
noncomputable def sL(Ψ:Nat->List Val->Pr FV):jt->aD->Pr (Bool×List Val)
 |.nil,_=>.ok (true,[])
 |.cons e es,env=>pb (aX Ψ e env) λd=>pb (sL Ψ es env) λp=>.ok (d.1&&p.1,d.2::p.2)
noncomputable def fZ(Ψ:Nat->List Val->Pr FV):jt->aD->Pr (List Val)
 |.nil,_=>.ok []
 |.cons e es,env=>pb (if isVar e=true then pl (iA env e) else aX Ψ e env) λd=>pb (fZ Ψ es env) λp=>.ok (d.2::p)
end
def QG(Ψ:Nat->List Val->Pr FV)(e:IE)(env:aD):Pr FV:=if isVar e=true then pl (iA env e) else aX Ψ e env
inductive qv
 |nx (env:aD)|rt (p:FV)|bk (env:aD)|ct (env:aD)
mutual
noncomputable def om:IS->List Nat
 |.expr (.met .append (.var i) _)=>[i]
 |.expr (.met .extend (.var i) _)=>[i]
 |.iu (.var i) _ _=>[i]
 |.iff _ a b=>di a++di b
 |.for _ _ _ b=>di b
 |.whl _ _ b=>di b
 |_=>[]
noncomputable def di:gc->List Nat
 |.nil=>[]
 |.cons s r=>om s++di r
end
def stored:uF->List Nat
 |.one i=>[i]
 |.tup is=>is
mutual
noncomputable def lO:IS->List Nat
 |.asg p _=>stored p
 |.aug i _ _=>[i]
 |.iff _ a b=>jf a++jf b
 |.for p _ _ b=>stored p++jf b
 |.whl _ _ b=>jf b
 |_=>[]
noncomputable def jf:gc->List Nat
 |.nil=>[]
 |.cons s r=>lO s++jf r
end
def Pf:IE->Bool
 |.lst _=>true
 |.comp ..=>true
 |.slc ..=>true
 |.blt .list _=>true
 |.blt .sorted _=>true
 |.dct0=>true
 |.dct1 ..=>true
 |_=>false
def gh(body:Val->aD->Pr qv):List Val->aD->Pr qv
 |[],env=>.ok (.nx env)
 | x::r,env=>pb (body x env) λf=>match f with
  |.nx env'=>gh body r env'
  |.ct env'=>gh body r env'
  |.bk env'=>.ok (.nx env')
  |.rt p=>.ok (.rt p)
def QH:Mk->Mk
 |.ow=>.sh
 |m=>m
def QI:Option (Mk×Val)->Option (Mk×Val)
 |none=>none
 |some (m,d)=>some (QH m,d)
def oz(env:aD):aD:=env.map QI
def Dl(env:aD):jt->Option (Val×Val)
 | .cons (.var i) #[.var j]=>match env[i]?,env[j]? with
  |some (some (.nw,d)),some (some (.nw,e))=>some (d,e)
  |_,_=>none
 |_=>none
def Dm(Ψ:Nat->List Val->Pr FV)(es:jt)(env:aD):Pr FV:=match Dl env es with
 |some p=>.ok (true,.tup [p.1,p.2])
 |none=>aX Ψ (.tup es) (oz env)
def NH(Ψ:Nat->List Val->Pr FV)(e:IE)(env:aD):Pr FV:=match e with
 | .var i=>match env[i]? with
  | some (some (m,d))=>if qK m=true then .ok (jV d||JZ m,d) else match d with
   |.rl ds=>.ok (aR ds,.rl ds)
   |.dc ks ds=>.ok (aR ds,.dc ks ds)
   |_=>.no
  |_=>.no
 |.call j es=>aX Ψ (.call j es) (oz env)
 |.tup es=>Dm Ψ es env
 |e=>aX Ψ e env
def AJ(p:uF)(it:jt)(body:gc):Bool:=match it with
 |.cons (.var i) .nil=>!(di body).contains i && !(jf body).contains i && !(stored p).contains i
 |_=>true
mutual
noncomputable def bU(Ψ:Nat->List Val->Pr FV)(ms:List Nat):IS->aD->Pr qv
 | .expr e,env=>match e with
  | .met .append (.var i) #[a]=>match env[i]? with
   |some (some (.ow,.rl ds))=>pb (aX Ψ a env) λx=>pg (decide (ds.length<sizeLine)) (.ok (.nx (env.set i (some (.ow,.rl (ds++[x.2]))))))
   |_=>.no
  | .met .extend (.var i) #[a]=>match env[i]? with
   | some (some (.ow,.rl ds))=>pb (aX Ψ a env) λx=>match x.2 with
    |.tup vs=>pg (decide (ds.length+vs.length<=sizeLine)) (.ok (.nx (env.set i (some (.ow,.rl (ds++vs))))))
    |_=>.no
   |_=>.no
  |e=>pb (aX Ψ e env) λ_=>.ok (.nx env)
 | .asg p e,env=>match p with
  | .one i=>if ms.contains i=true then pg (Pf e) (pb (aX Ψ e env) λx=>match x.2 with
    |.rl ds=>.ok (.nx (env.set i (some (.ow,.rl ds))))
    |.dc ks ds=>.ok (.nx (env.set i (some (.ow,.dc ks ds))))
    |_=>.no) else pb (aX Ψ e env) λx=>.ok (.nx (env.set i (some (jW x.1 x.2,x.2))))
  |.tup is=>pg (is.all λi=>!ms.contains i) (pb (aX Ψ e env) λx=>pb (pl (dM (.tup is) x.2 env)) λenv'=>.ok (.nx env'))
 |.aug _ _ _,_=>.no
 | .iu o i v,env=>match o with
  | .var j=>pb (aX Ψ v env) λx=>match env[j]? with
   |some (some (.ow,.rl ds))=>pb (aX Ψ i env) λz=>pb (pl (iy z.2)) λk=>pb (pl (xB ds.length k)) λn=>.ok (.nx (env.set j (some (.ow,.rl (ds.set n x.2)))))
   |some (some (.ow,.dc ks ds))=>pb (aX Ψ i env) λz=>pb (pl (keyOf z.2)) λk=>pg (decide (ks.length<sizeLine)) (.ok (.nx (env.set j (some (.ow,putD ks ds k x.2)))))
   |_=>.no
  |_=>.no
 |.iff c a b,env=>pb (QG Ψ c env) λx=>pb (pl (cG [] x.2)) λt=>if t=true then fk Ψ ms a env else fk Ψ ms b env
 |.for p k it body,env=>pg (AJ p it body&&(stored p).all λi=>!ms.contains i) (pb (fZ Ψ it env) λits=>pb (pl (fG k its)) λxs=>
   gh (λx env=>pb (pl (dM p x env)) λenv'=>fk Ψ ms body env') xs env)
 |.whl _ _ _,_=>.no
 |.ret e,env=>pb (NH Ψ e env) λp=>.ok (.rt p)
 |.zW,_=>.ok (.rt (true,.non))
 |.brk,env=>.ok (.bk env)
 |.cnt,env=>.ok (.ct env)
 |.pass,env=>.ok (.nx env)
 |.never,_=>.no
 |.setF _ _ _ _,_=>.no
noncomputable def fk(Ψ:Nat->List Val->Pr FV)(ms:List Nat):gc->aD->Pr qv
 |.nil,env=>.ok (.nx env)
 | .cons s r,env=>pb (bU Ψ ms s env) λf=>match f with
  |.nx env'=>fk Ψ ms r env'
  |f=>.ok f
end
def jy(Ψ:Nat->List Val->Pr FV)(n:Nat)(body:gc)(ds:List Val):Pr FV :=
 pb (fk Ψ (di body) body (ds.map (λd=>some (.sh,d))++replicate (n-ds.length) none)) λf=>match f with
  |.nx _=>.ok (true,.non)
  |.rt p=>.ok p
  |_=>.no
abbrev AP:=Option Nat->Prop
def Fr(n:Nat):AP:=λo=>match o with
 |none=>False
 |some k=>n<=k
theorem Fr.le{n m:Nat}(h:n<=m):∀o,Fr m o->Fr n o
 |none,e=>e
 |some k,e=>Ut h e
mutual
noncomputable def Dn(A:AP)(h:Hs):Val->Val->Prop
 |.non,v=>v=.non
 |.bl b,v=>v=.bl b
 |.int i,v=>v=.int i
 |.str x,v=>v=.str x
 |.tup ds,v=>∃vs,v=.tup vs/\ao A h ds vs
 |.rl ds,v=>(∃vs,v=.rl vs/\A none/\ao A h ds vs)\/∃i vs,v=.ref i/\A (some i)/\h[i]?=some (.lst vs)/\ao A h ds vs
 |.dc ks ds,v=>∃i kvs,v=.ref i/\A (some i)/\h[i]?=some (.dct kvs)/\kvs.map (·.1)=ks/\ao A h ds (kvs.map (·.2))
 |.ob c xs ds,v=>∃i fs,v=.ref i/\A (some i)/\h[i]?=some (.ins c fs)/\fs.map (·.1)=xs/\ao A h ds (fs.map (·.2))
 |.ref _,_=>False
noncomputable def ao(A:AP)(h:Hs):List Val->List Val->Prop
 |[],vs=>vs=[]
 |d::ds,vs=>∃v r,vs=v::r/\Dn A h d v/\ao A h ds r
end
section
variable {A A':AP} {h h' h1:Hs}
mutual
theorem Dn.mono(hA:∀i,A i->A' i)(hh:∀(i:Nat) (o:Ob),A (some i)->h[i]?=some o->h'[i]?=some o):∀(d v:Val),Dn A h d v->Dn A' h' d v
 |.non,v,e=>by rw[Dn]at e |-;exact e
 |.bl _,v,e=>by rw[Dn]at e |-;exact e
 |.int _,v,e=>by rw[Dn]at e |-;exact e
 |.str _,v,e=>by rw[Dn]at e |-;exact e
 | .tup ds,v,e=>by
  rw[Dn]at e |-;obtain⟨vs,rfl,q⟩:=e;exact⟨vs,rfl,ao.mono hA hh ds vs q⟩
 | .rl ds,v,e=>by
  rw[Dn]at e |-
  rcases e with ⟨vs,rfl,n,q⟩|⟨i,vs,rfl,a,g,q⟩
  ·exact .inl ⟨vs,rfl,hA _ n,ao.mono hA hh ds vs q⟩
  ·exact .inr ⟨i,vs,rfl,hA _ a,hh i _ a g,ao.mono hA hh ds vs q⟩
 | .dc ks ds,v,e=>by
  rw[Dn]at e |-;obtain⟨i,kvs,rfl,a,g,k,q⟩:=e;exact⟨i,kvs,rfl,hA _ a,hh i _ a g,k,ao.mono hA hh ds _ q⟩
 | .ob c xs ds,v,e=>by
  rw[Dn]at e |-;obtain⟨i,kvs,rfl,a,g,k,q⟩:=e;exact⟨i,kvs,rfl,hA _ a,hh i _ a g,k,ao.mono hA hh ds _ q⟩
 |.ref _,v,e=>by rw[Dn]at e;exact e.elim
theorem ao.mono(hA:∀i,A i->A' i)(hh:∀(i:Nat) (o:Ob),A (some i)->h[i]?=some o->h'[i]?=some o):∀(ds vs:List Val),ao A h ds vs->ao A' h' ds vs
 |[],vs,e=>by rw[ao]at e |-;exact e
 | d::ds,vs,e=>by
  rw[ao]at e |-;obtain⟨v,r,rfl,q1,q2⟩:=e;exact⟨v,r,rfl,Dn.mono hA hh d v q1,ao.mono hA hh ds r q2⟩
end
theorem cU{i:Nat}(p:h<+:h')(e:h[i]?=some o):h'[i]?=some o:=by
 obtain⟨t,rfl⟩:=p;have hi:i<h.length:=(TJ.mp e).1;rw[Ua hi];exact e
theorem Dn.ext(p:h<+:h')(e:Dn A h d v):Dn A h' d v:=Dn.mono (λ_ a=>a) (λ_ _ _ q=>cU p q) d v e
theorem ao.ext(p:h<+:h')(e:ao A h d v):ao A h' d v:=ao.mono (λ_ a=>a) (λ_ _ _ q=>cU p q) d v e
theorem Dn.dB(hA:∀i,A i->A' i)(e:Dn A h d v):Dn A' h d v:=Dn.mono hA (λ_ _ _ q=>q) d v e
theorem ao.dB(hA:∀i,A i->A' i)(e:ao A h d v):ao A' h d v:=ao.mono hA (λ_ _ _ q=>q) d v e
mutual
theorem iB:∀(d v:Val),jV d=true->(Dn A h d v↔v=d)
 |.non,v,_=>by rw[Dn]
 |.bl _,v,_=>by rw[Dn]
 |.int _,v,_=>by rw[Dn]
 |.str _,v,_=>by rw[Dn]
 | .tup ds,v,e=>by
  rw[jV]at e;rw[Dn];constructor
  ·rintro⟨vs,rfl,q⟩;rw[(aL ds vs e).mp q]
  ·rintro rfl;exact⟨ds,rfl,(aL ds ds e).mpr rfl⟩
 |.rl _,v,e=>by rw[jV]at e;cases e
 |.dc _ _,v,e=>by rw[jV]at e;cases e
 |.ob _ _ _,v,e=>by rw[jV]at e;cases e
 |.ref _,v,e=>by rw[jV]at e;cases e
theorem aL:∀(ds vs:List Val),aR ds=true->(ao A h ds vs↔vs=ds)
 |[],vs,_=>by rw[ao]
 | d::ds,vs,e=>by
  rw[aR,UE]at e;rw[ao];constructor
  ·rintro⟨v,r,rfl,q1,q2⟩;rw[(iB d v e.1).mp q1,(aL ds r e.2).mp q2]
  ·rintro rfl;exact⟨d,ds,rfl,(iB d d e.1).mpr rfl,(aL ds ds e.2).mpr rfl⟩
end
theorem ao.nil:ao A h [] []:=by rw[ao]
theorem ao.cons{d v:Val}{ds vs:List Val}(a:Dn A h d v)(b:ao A h ds vs):ao A h (d::ds) (v::vs):=by rw[ao];exact⟨v,vs,rfl,a,b⟩
theorem ao.length:∀{ds vs:List Val},ao A h ds vs->ds.length=vs.length
 |[],vs,e=>by rw[ao]at e;subst e;rfl
 |d::ds,vs,e=>by rw[ao]at e;obtain⟨v,r,rfl,_,q⟩:=e;simp[ao.length q]
theorem ao.get:∀{ds vs:List Val} {i:Nat} {d:Val},ao A h ds vs->ds[i]?=some d->∃v,vs[i]?=some v/\Dn A h d v
 |[],vs,i,d,e,q=>by simp at q
 | c::ds,vs,0,d,e,q=>by
  rw[ao]at e;obtain⟨v,r,rfl,a,_⟩:=e;simp at q;subst q;exact⟨v,rfl,a⟩
 | c::ds,vs,i+1,d,e,q=>by
  rw[ao]at e;obtain⟨v,r,rfl,_,b⟩:=e;simp at q;obtain⟨w,q1,q2⟩:=ao.get b q;exact⟨w,by simpa using q1,q2⟩
theorem ao.append:∀{ds es vs ws:List Val},ao A h ds vs->ao A h es ws->ao A h (ds++es) (vs++ws)
 |[],es,vs,ws,e,q=>by rw[ao]at e;subst e;exact q
 | d::ds,es,vs,ws,e,q=>by
  rw[ao]at e;obtain⟨v,r,rfl,a,b⟩:=e;exact ao.cons a (ao.append b q)
theorem ao.take:∀{ds vs:List Val} (n:Nat),ao A h ds vs->ao A h (ds.take n) (vs.take n)
 |_,_,0,_=>by simp;exact ao.nil
 |[],vs,n+1,e=>by rw[ao]at e;subst e;simp;exact ao.nil
 | d::ds,vs,n+1,e=>by
  rw[ao]at e;obtain⟨v,r,rfl,a,b⟩:=e;exact ao.cons a (ao.take n b)
theorem ao.drop:∀{ds vs:List Val} (n:Nat),ao A h ds vs->ao A h (ds.drop n) (vs.drop n)
 |_,_,0,e=>by simpa using e
 |[],vs,n+1,e=>by rw[ao]at e;subst e;simp;exact ao.nil
 | d::ds,vs,n+1,e=>by
  rw[ao]at e;obtain⟨v,r,rfl,a,b⟩:=e;exact ao.drop n b
theorem ao.cut(lo hi:Option Int)(e:ao A h ds vs):ao A h (eE ds lo hi) (eE vs lo hi):=by
 unfold eE;rw[e.length];exact ao.take _ (ao.drop _ e)
theorem ao.set:∀{ds vs:List Val} (n:Nat) {d v:Val},ao A h ds vs->Dn A h d v->ao A h (ds.set n d) (vs.set n v)
 |[],vs,n,d,v,e,q=>by rw[ao]at e;subst e;simp;exact ao.nil
 | c::ds,vs,0,d,v,e,q=>by
  rw[ao]at e;obtain⟨w,r,rfl,a,b⟩:=e;exact ao.cons q b
 | c::ds,vs,n+1,d,v,e,q=>by
  rw[ao]at e;obtain⟨w,r,rfl,a,b⟩:=e;exact ao.cons a (ao.set n b q)
theorem ao.gY{i:Int}(e:ao A h ds vs)(q:L2.gY ds i=some d):∃v,L2.gY vs i=some v/\Dn A h d v:=by
 unfold L2.gY at q |-;rw[e.length]at q;cases hi:L2.xB vs.length i with
 |none=>rw[hi]at q;cases q
 |some n=>rw[hi]at q;exact ao.get e q
def OD(A:AP)(h:Hs)(d:Val)(a:Nat):Prop:=match d with
 |.rl ds=>∃vs,h[a]?=some (.lst vs)/\ao A h ds vs
 |.dc ks ds=>∃kvs,h[a]?=some (.dct kvs)/\kvs.map (·.1)=ks/\ao A h ds (kvs.map (·.2))
 |_=>False
theorem OD.mono{a:Nat}(e:OD A h d a)(ho:∀o,h[a]?=some o->h'[a]?=some o)(hq:∀ds vs,ao A h ds vs->ao A' h' ds vs):OD A' h' d a:=by
 cases d with
 |rl ds=>obtain⟨vs,g,q⟩:=e;exact⟨vs,ho _ g,hq _ _ q⟩
 |dc ks ds=>obtain⟨kvs,g,k,q⟩:=e;exact⟨kvs,ho _ g,k,hq _ _ q⟩
 |_=>exact False.elim e
theorem OD.ext{a:Nat}(p:h<+:h')(e:OD A h d a):OD A h' d a:=e.mono (λ_ g=>cU p g) λ_ _ q=>q.ext p
theorem OD.lt{a:Nat}(e:OD A h d a):a<h.length:=by
 cases d with
 |rl ds=>obtain⟨vs,g,q⟩:=e;exact(TJ.mp g).1
 |dc ks ds=>obtain⟨kvs,g,k,q⟩:=e;exact(TJ.mp g).1
 |_=>exact False.elim e
theorem OD.dn{a:Nat}(e:OD A h d a)(ha:A (.some a)):Dn A h d (.ref a):=by
 cases d with
 |rl ds=>obtain⟨vs,g,q⟩:=e;rw[Dn];exact .inr ⟨a,vs,rfl,ha,g,q⟩
 |dc ks ds=>obtain⟨kvs,g,k,q⟩:=e;rw[Dn];exact⟨a,kvs,rfl,ha,g,k,q⟩
 |_=>exact False.elim e
def OB(A:AP)(h:Hs)(d:Val)(o:Ob):Prop:=match d with
 |.rl ds=>∃vs,o=.lst vs/\ao A h ds vs
 |.dc ks ds=>∃kvs,o=.dct kvs/\kvs.map (·.1)=ks/\ao A h ds (kvs.map (·.2))
 |_=>False
theorem OB.od{a:Nat}(e:OB A h d o)(g:h'[a]?=.some o)(hq:∀ds vs,ao A h ds vs->ao A' h' ds vs):OD A' h' d a:=by
 cases d with
 |rl ds=>obtain⟨vs,rfl,q⟩:=e;exact⟨vs,g,hq _ _ q⟩
 |dc ks ds=>obtain⟨kvs,rfl,k,q⟩:=e;exact⟨kvs,g,k,hq _ _ q⟩
 |_=>exact False.elim e
def DB(A:AP)(h:Hs)(d v:Val):Prop:=Dn A h d v\/∃i,v=.ref i/\OD A h d i
theorem DB.all(e:DB A h d v):Dn (λ_=>True) h d v:=by
 rcases e with e|⟨i,rfl,q⟩
 ·exact e.dB λ_ _=>trivial
 ·exact(q.mono (A':=λ_=>True) (λ_ g=>g) λ_ _ z=>z.dB λ_ _=>trivial).dn trivial
theorem DB.ext(p:h<+:h')(e:DB A h d v):DB A h' d v:=by
 rcases e with e|⟨i,rfl,q⟩
 ·exact .inl (e.ext p)
 ·exact .inr ⟨i,rfl,q.ext p⟩
theorem DB.dc(e:DB A h (.dc ks ds) v):∃i kvs,v=.ref i/\h[i]?=some (.dct kvs)/\kvs.map (·.1)=ks/\ao A h ds (kvs.map (·.2)):=by
 rcases e with e|⟨i,rfl,kvs,g,k,q⟩
 ·rw[Dn]at e;obtain⟨i,kvs,rfl,_,g,k,q⟩:=e;exact⟨i,kvs,rfl,g,k,q⟩
 ·exact⟨i,kvs,rfl,g,k,q⟩
theorem DB.lst(e:DB A h (.rl ds) v):∃vs,az h v=some vs/\ao A h ds vs:=by
 rcases e with e|⟨i,rfl,vs,g,q⟩
 ·rw[Dn]at e
  rcases e with ⟨vs,rfl,_,q⟩|⟨i,vs,rfl,_,g,q⟩
  ·exact⟨vs,rfl,q⟩
  ·exact⟨vs,by simp[az,g],q⟩
 ·exact⟨vs,by simp[az,g],q⟩
theorem DB.seq(e:DB A h d v)(q:cg [] d=some ds):∃vs,cg h v=some vs/\ao A h ds vs:=by
 cases d with
 |tup es=>
  simp only[cg]at q;cases q
  rcases e with e|⟨_,_,e1⟩
  ·rw[Dn]at e;obtain⟨vs,rfl,q⟩:=e;exact⟨vs,rfl,q⟩
  ·exact False.elim e1
 |rl es=>simp only[cg,az]at q;cases q;obtain⟨vs,q1,q2⟩:=e.lst;refine⟨vs,?_,q2⟩;cases v<;>first|(simp[az]at q1;done)|exact q1
 |ref i=>simp[cg,az]at q
 |_=>simp[cg,az]at q
theorem DB.int{i:Int}(e:DB A h (.int i) v):v=.int i:=by
 rcases e with e|⟨_,_,e1⟩
 ·rw[Dn]at e;exact e
 ·exact False.elim e1
theorem DB.str(e:DB A h (.str i) v):v=.str i:=by
 rcases e with e|⟨_,_,e1⟩
 ·rw[Dn]at e;exact e
 ·exact False.elim e1
theorem DB.bl{i:Bool}(e:DB A h (.bl i) v):v=.bl i:=by
 rcases e with e|⟨_,_,e1⟩
 ·rw[Dn]at e;exact e
 ·exact False.elim e1
theorem DB.tup(e:DB A h (.tup ds) v):∃vs,v=.tup vs/\ao A h ds vs:=by
 rcases e with e|⟨_,_,e1⟩
 ·rw[Dn]at e;exact e
 ·exact False.elim e1
theorem qw:∀(n:Nat) (d v:Val) (p:PyData),Dn (λ_=>True) h d v->toD n [] d=some p->toD n h v=some p:=by
 intro n
 induction n with
 |zero=>intro d v p _ e;simp[toD]at e
 |succ n ih=>
  have all:∀(ds vs:List Val) (ps:List PyData),ao (λ_=>True) h ds vs->bM (toD n []) ds=some ps->bM (toD n h) vs=some ps:=by
   intro ds
   induction ds with
   |nil=>intro vs ps q e;rw[ao]at q;subst q;exact e
   |cons d ds R6=>intro vs ps q e;rw[ao]at q;obtain⟨v,r,rfl,q1,q2⟩:=q;simp only[bM]at e |-;obtain⟨x,e1,e⟩:=Tz.mp e;obtain⟨xs,e2,e⟩:=Tz.mp e;rw[ih d v x q1 e1,R6 r xs q2 e2];exact e
  intro d v p q e;cases d with
  |non=>rw[Dn]at q;subst q;exact e
  |bl b=>rw[Dn]at q;subst q;exact e
  |int b=>rw[Dn]at q;subst q;exact e
  |str b=>rw[Dn]at q;subst q;exact e
  |tup ds=>rw[Dn]at q;obtain⟨vs,rfl,q⟩:=q;simp only[toD]at e |-;obtain⟨ps,e1,e⟩:=Tz.mp e;rw[all ds vs ps q e1];exact e
  |rl ds=>
   rw[Dn]at q;simp only[toD]at e;obtain⟨ps,e1,e⟩:=Tz.mp e
   rcases q with ⟨vs,rfl,_,q⟩|⟨i,vs,rfl,_,g,q⟩
   ·simp only[toD];rw[all ds vs ps q e1];exact e
   ·simp only[toD,az,g,bind_some];rw[all ds vs ps q e1];exact e
  |dc ks ds=>simp[toD]at e
  |ob c xs ds=>simp[toD]at e
  |ref i=>rw[Dn]at q;exact q.elim
theorem EL{b:Bool}(a:DB A h d v)(c:DB A h e w)(q:yK [] d e=some b):yK h v w=some b:=by
 unfold yK at q |-;obtain⟨x,e1,q⟩:=Tz.mp q;obtain⟨y,e2,q⟩:=Tz.mp q;rw[qw 16 d v x a.all e1,qw 16 e w y c.all e2];exact q
theorem AK(a:DB A h d v):mW v=mW d:=by
 rcases a with a|⟨i,rfl,q⟩
 ·cases d<;>rw[Dn]at a
  ·subst a;rfl
  ·subst a;rfl
  ·subst a;rfl
  ·subst a;rfl
  ·obtain⟨vs,rfl,_⟩:=a;rfl
  ·rcases a with ⟨vs,rfl,_⟩|⟨i,vs,rfl,_⟩<;>rfl
  ·obtain⟨i,kvs,rfl,_⟩:=a;rfl
  ·obtain⟨i,kvs,rfl,_⟩:=a;rfl
  ·exact a.elim
 ·cases d<;>first|exact False.elim q|rfl
theorem AL{b:Bool}(a:DB A h d v)(c:DB A h e w)(q:rV [] d e=some b):rV h v w=some b:=by
 have data:memD [] d e=some b->memD h v w=some b:=λq=>by
  unfold memD at q |-;obtain⟨x,e1,q⟩:=Tz.mp q;obtain⟨y,e2,q⟩:=Tz.mp q;rw[qw 16 e w x c.all e1,qw 16 d v y a.all e2];exact q
 exact data q
theorem AM{b:Bool}(a:DB A h d v)(c:DB A h e w)(q:Em d e=some b):Em v w=some b:=by
 cases e<;>first|(cases q;done)|skip
 ·have:w=.non:=by
   rcases c with c|⟨_,_,e1⟩
   ·rw[Dn]at c;exact c
   ·exact False.elim e1
  subst this;show some (mW v)=_;rw[AK a];exact q
 ·have:=c.bl;subst this
  cases d<;>first|(cases q;done)|skip
  have:=a.bl;subst this;exact q
theorem Ij{b:Bool}(a:DB A h d v)(c:DB A h e w)(q:cop [] o d e=some b):cop h o v w=some b:=by
 cases o with
 |eq=>exact EL a c q
 |ne=>obtain⟨x,e1,e2⟩:=Uj.mp (show (yK [] d e).map _=some b from q);show (yK h v w).map _=_;rw[EL a c e1];exact UM some e2
 |isn=>exact AM a c q
 |ntn=>obtain⟨x,e1,e2⟩:=Uj.mp (show (Em d e).map _=some b from q);show (Em v w).map _=_;rw[AM a c e1];exact UM some e2
 |GC=>exact AL a c q
 |nin=>obtain⟨x,e1,e2⟩:=Uj.mp (show (rV [] d e).map _=some b from q);show (rV h v w).map _=_;rw[AL a c e1];exact UM some e2
 |lt=>obtain⟨i,j,rfl,rfl⟩:=iz (.inl rfl) q;have:=a.int;subst this;have:=c.int;subst this;exact q
 |le=>obtain⟨i,j,rfl,rfl⟩:=iz (.inr (.inl rfl)) q;have:=a.int;subst this;have:=c.int;subst this;exact q
 |gt=>obtain⟨i,j,rfl,rfl⟩:=iz (.inr (.inr (.inl rfl))) q;have:=a.int;subst this;have:=c.int;subst this;exact q
 |ge=>obtain⟨i,j,rfl,rfl⟩:=iz (.inr (.inr (.inr rfl))) q;have:=a.int;subst this;have:=c.int;subst this;exact q
theorem qy{b:Bool}(a:DB A h d v)(q:cG [] d=some b):cG h v=some b:=by
 cases d with
 |rl ds=>
  obtain⟨vs,q1,q2⟩:=a.lst;have l:=q2.length;have e:(!ds.isEmpty) = !vs.isEmpty:=by cases ds<;>cases vs<;>simp_all
  simp only[cG]at q;rw[e]at q;cases v<;>simp only[az]at q1<;>first|(cases q1;done)|skip
  ·cases q1;exact q
  ·split at q1<;>cases q1;rename_i g;simp only[cG,g];exact q
 |tup ds=>
  obtain⟨vs,rfl,q2⟩:=a.tup;have l:=q2.length;have e:(!ds.isEmpty) = !vs.isEmpty:=by cases ds<;>cases vs<;>simp_all
  simp only[cG]at q |-;rw[<-e];exact q
 |dc ks ds=>obtain⟨i,kvs,rfl,g,hk,_⟩:=a.dc;subst hk;simp only[cG,g]at q |-;rw[<-q];cases kvs<;>rfl
 |ob c xs ds=>cases q
 |ref i=>
  rcases a with a|⟨_,_,e1⟩
  ·rw[Dn]at a;exact a.elim
  ·exact False.elim e1
 |non=>
  rcases a with a|⟨_,_,e1⟩
  ·rw[Dn]at a;subst a;exact q
  ·exact False.elim e1
 |bl b=>have:=a.bl;subst this;exact q
 |int b=>have:=a.int;subst this;exact q
 |str b=>have:=a.str;subst this;exact q
theorem Il{n:Nat}(a:DB A h d v)(q:jP [] d=some n):jP h v=some n:=by
 cases d with
 |rl ds=>
  obtain⟨vs,q1,q2⟩:=a.lst;have l:=q2.length;simp only[jP]at q;rw[l]at q;cases v<;>simp only[az]at q1<;>first|(cases q1;done)|skip
  ·cases q1;exact q
  ·split at q1<;>cases q1;rename_i g;simp only[jP,g];exact q
 |tup ds=>obtain⟨vs,rfl,q2⟩:=a.tup;simp only[jP]at q |-;rw[<-q2.length];exact q
 |dc ks ds=>obtain⟨i,kvs,rfl,g,hk,_⟩:=a.dc;subst hk;simp only[jP,g]at q |-;rw[<-q];simp
 |str b=>have:=a.str;subst this;exact q
 |_=>simp[jP]at q
theorem LL{t:String}(a:DB A h d v)(q:rX [] d=some t):rX h v=some t:=by
 cases d with
 |rl ds=>
  obtain⟨vs,q1,q2⟩:=a.lst;cases v<;>simp only[az]at q1<;>first|(cases q1;done)|skip
  ·exact q
  ·split at q1<;>cases q1;rename_i g;simp only[rX,g];exact q
 |tup ds=>obtain⟨vs,rfl,q2⟩:=a.tup;exact q
 |dc ks ds=>obtain⟨i,kvs,rfl,g,hk,_⟩:=a.dc;simp only[rX,g]at q |-;exact q
 |ob c xs ds=>cases q
 |ref i=>
  rcases a with a|⟨_,_,e1⟩
  ·rw[Dn]at a;exact a.elim
  ·exact False.elim e1
 |non=>
  rcases a with a|⟨_,_,e1⟩
  ·rw[Dn]at a;subst a;exact q
  ·exact False.elim e1
 |bl b=>have:=a.bl;subst this;exact q
 |int b=>have:=a.int;subst this;exact q
 |str b=>have:=a.str;subst this;exact q
theorem qz:∀{kvs:List (Key×Val)} {ks:List Key} {ds:List Val} {z:Val},kvs.map (·.1)=ks->ao A h ds (kvs.map (·.2))->eZ (ks.zip ds) k=some z->∃v,eZ kvs k=some v/\Dn A h z v
 |[],ks,ds,z,hk,q,e=>by subst hk;simp[eZ]at e
 | (k',v')::kvs,ks,ds,z,hk,q,e=>by
  subst hk;have l:=q.length;cases ds with
  |nil=>simp at l
  |cons d ds=>
   simp only[map_cons]at q;rw[ao]at q;obtain⟨v,r,e1,q1,q2⟩:=q;cases e1
   by_cases hkk:k'=k
   ·subst hkk;simp[eZ]at e |-;subst e;exact q1
   ·have e':eZ ((kvs.map (·.1)).zip ds) k=some z:=by simpa [eZ,hkk] using e
    obtain⟨w,a1,a2⟩:=qz rfl q2 e';exact⟨w,by simpa [eZ,hkk] using a1,a2⟩
theorem DB.wj{j:Nat}(c:DB A h (.ref j) v):False:=by
 rcases c with c|⟨_,_,e1⟩
 ·rw[Dn]at c;exact c
 ·exact e1
theorem nv(a:Dn A h d v)(e:keyOf d=some kk):keyOf v=some kk:=by
 cases d<;>first|(cases e;done)|skip
 ·rw[Dn]at a;subst a;exact e
 ·rw[Dn]at a;subst a;exact e
theorem AN(a:DB A h o v)(e:zX [] o=some ks):zX h v=some ks:=by
 cases o<;>first|(cases e;done)|(exact(DB.wj a).elim)|skip
 obtain⟨i,kvs,rfl,g,hk,q⟩:=a.dc;cases e;show (match h[i]? with|some (.dct kvs)=>some (kvs.map (λkv:Key×Val=>kv.1))|_=>none)=_;rw[g];exact UM some hk
theorem Im(a:DB A h d v)(c:Dn A h e w)(q:rW [] d e=some z):∃u,rW h v w=some u/\Dn A h z u:=by
 cases e with
 |int i=>
  rw[Dn]at c;subst c;cases d with
  |str x=>
   have:=a.str;subst this;refine⟨z,q,?_⟩;change (if x.length<=sizeLine then (gY x.cps.toList i).map (λc=>Val.str ⟨[c].toArray⟩) else none)=some z at q;split at q
   ·obtain⟨c,_,rfl⟩:=Uj.mp q;rw[Dn]
   ·cases q
  |tup ds=>obtain⟨vs,rfl,q2⟩:=a.tup;exact q2.gY q
  |rl ds=>
   obtain⟨vs,q1,q2⟩:=a.lst;obtain⟨u,q3,q4⟩:=q2.gY q;refine⟨u,?_,q4⟩;cases v<;>simp only[az]at q1<;>first|(cases q1;done)|skip
   ·cases q1;exact q3
   ·split at q1<;>cases q1;rename_i g;unfold rW;simp only[az,g,bind_some];exact q3
  |dc ks ds=>obtain⟨i',kvs,rfl,g,hk,q2⟩:=a.dc;obtain⟨u,q3,q4⟩:=qz hk q2 q;refine⟨u,?_,q4⟩;show (match h[i']? with|some (.dct kvs)=>eZ kvs (.inl i)|_=>(az h (.ref i')).bind λxs=>gY xs i)=_;rw[g];exact q3
  |ref j=>exact(DB.wj a).elim
  |_=>cases q
 |str x=>
  rw[Dn]at c;subst c;cases d with
  |dc ks ds=>obtain⟨i',kvs,rfl,g,hk,q2⟩:=a.dc;obtain⟨u,q3,q4⟩:=qz hk q2 q;refine⟨u,?_,q4⟩;show (match h[i']? with|some (.dct kvs)=>eZ kvs (.inr x)|_=>none)=_;rw[g];exact q3
  |ref j=>exact(DB.wj a).elim
  |_=>cases q
 |_=>cases d<;>first|(cases q;done)|exact(DB.wj a).elim
end
def Up(A:AP)(h:Hs):Prop:=∀k,h.length<=k->A (some k)
def Rel(A:AP)(h:Hs){α β:Type}(R:α -> Hs -> β -> Prop)(o:Out β):Pr α -> Prop
 |.ok a=>∃b h',o=.ok b h'/\h<+:h'/\R a h' b
 |.exc c es=>∃ws h',o=.exc c ws h'/\h<+:h'/\ao A h' es ws
 |.no=>True
def RV(A:AP)(h:Hs):FV->Hs->Val->Prop:=λx h' v=>Dn A h' x.2 v/\(x.1=true->Dn (Fr h.length) h' x.2 v)
def R7(A:AP)(h:Hs):Bool×List Val->Hs->List Val->Prop:=λx h' v=>ao A h' x.2 v/\(x.1=true->ao (Fr h.length) h' x.2 v)
def Pg(A:AP):FV->Hs->Val->Prop:=λx h' v=>DB A h' x.2 v
def Dp(A:AP)(h:Hs):List Val->List Val->Prop
 |[],vs=>vs=[]
 |d::ds,vs=>∃v r,vs=v::r/\DB A h d v/\Dp A h ds r
def ER(A:AP)(aa:aD)(env:Env)(h:Hs):Prop:=∀(i:Nat) (f:Mk) (d:Val),aa[i]?=some (some (f,d)) ->
 if qK f=false then ∃a,env[i]?=some (some (.ref a))/\OD A h d a else ∃v,env[i]?=some (some v)/\Dn A h d v
section
variable {A:AP} {h h1:Hs} {α β γ δ:Type}
theorem Up.ext(u:Up A h)(p:h<+:h1):Up A h1:=λk hk=>u k (Ut p.length_le hk)
theorem ER.ext(e:ER A aa env h)(p:h<+:h1):ER A aa env h1:=λi f d q=>by
 have:=e i f d q;revert this;generalize qK f=t;intro this;cases t with
 |false=>rw[T4 rfl]at this |-;obtain⟨a,k2,k3⟩:=this;exact⟨a,k2,k3.ext p⟩
 |true=>rw[TX (by decide)]at this |-;obtain⟨v,k1,k2⟩:=this;exact⟨v,k1,k2.ext p⟩
theorem ah(r:Rel A h R (m h) p)(k:∀a h1 b,h<+:h1->R a h1 b->Rel A h1 R' (f b h1) (F a)):Rel A h R' (bnd m f h) (pb p F):=by
 unfold bnd;cases p with
 |ok a=>
  obtain⟨b,h1,e,q,r⟩:=r;rw[e];show Rel A h R' (f b h1) (F a);have:=k a h1 b q r;cases e2:F a with
  |ok c=>rw[e2]at this;obtain⟨d,h2,e3,q2,r2⟩:=this;exact⟨d,h2,e3,q.trans q2,r2⟩
  |exc c es=>rw[e2]at this;obtain⟨d,h2,e3,q2,r2⟩:=this;exact⟨d,h2,e3,q.trans q2,r2⟩
  |no=>trivial
 |exc c es=>obtain⟨ws,h1,e,q,r⟩:=r;rw[e];exact⟨ws,h1,rfl,q,r⟩
 |no=>trivial
theorem au(r:R a h b):Rel A h R (ret b h) (.ok a):=⟨b,h,rfl,Uc _,r⟩
theorem aQ(r:∀a,o=some a->∃b,o'=some b/\R a h b):Rel A h R (aN o' h) (pl o):=by
 cases o with
 |none=>trivial
 |some a=>obtain⟨b,rfl,q⟩:=r a rfl;exact⟨b,h,rfl,Uc _,q⟩
theorem cV(r:∀a,o=some a->∃b,f h=some b/\R a h b):Rel A h R (ask f h) (pl o):=aQ r
theorem bF{c c':Bool}(e:c=true->c'=true)(r:c=true->Rel A h R (m h) p):Rel A h R (aF c' m h) (pg c p):=by
 unfold aF pg;cases c with
 |true=>rw[T4 (e rfl),T4 rfl];exact r rfl
 |false=>rw[TX TH];trivial
theorem sM(r:Rel A h R o p)(k:∀a h' b,h<+:h'->R a h' b->R' a h' b):Rel A h R' o p:=by
 cases p with
 |ok a=>obtain⟨b,h',e,q,r⟩:=r;exact⟨b,h',e,q,k a h' b q r⟩
 |exc c es=>exact r
 |no=>trivial
theorem cA(o:Ob):h<+:h++[o]:=UX _ _
theorem dN(o:Ob):(h++[o])[h.length]?=some o:=by simp
theorem fO{f:Bool}{h0:Hs}(u:Up A h)(p:h0<+:h)(q:ao A h xs vs)(g:f=true->ao (Fr h0.length) h xs vs):Rel A h (RV A h0) (new (.lst vs) h) (.ok (f,.rl xs)):=by
 refine⟨_,_,rfl,cA _,?_,λhf=>?_⟩
 ·show Dn A _ (.rl xs) _;rw[Dn];exact .inr ⟨_,vs,rfl,u _ (TV _),dN _,q.ext (cA _)⟩
 ·show Dn _ _ (.rl xs) _;rw[Dn];exact .inr ⟨_,vs,rfl,p.length_le,dN _,(g hf).ext (cA _)⟩
theorem qA{h0:Hs}(q:Dn A h d v):RV A h0 (jV d,d) h v:=⟨q,λhi=>(iB d v hi).mpr ((iB d v hi).mp q)⟩
theorem fm(q:ao A h ds vs)(hi:aR ds=true):ao A' h' ds vs:=(aL ds vs hi).mpr ((aL ds vs hi).mp q)
theorem f6{i:Int}{h0:Hs}{f:Bool}:RV A h0 (f,.int i) h (.int i):=⟨by rw[Dn],λ_=>by rw[Dn]⟩
theorem lA{i:Bool}{h0:Hs}{f:Bool}:RV A h0 (f,.bl i) h (.bl i):=⟨by rw[Dn],λ_=>by rw[Dn]⟩
theorem Io{h0:Hs}{f:Bool}:RV A h0 (f,.str i) h (.str i):=⟨by rw[Dn],λ_=>by rw[Dn]⟩
theorem RV.br{h0:Hs}(r:RV A h0 x h v):Pg A x h v:=.inl r.1
theorem Dq(ho:o≠.add)(v w:Val):(∃i j,v=.int i/\w=.int j)\/iV o v w=.no:=by
 cases v with
 |int i=>
  cases w with
  |int j=>exact .inl ⟨i,j,rfl,rfl⟩
  |_=>right;cases o<;>first|rfl|exact absurd rfl ho
 |_=>right;cases o<;>first|rfl|exact absurd rfl ho
theorem Dr{h0:Hs}(u:Up A h)(p:h0<+:h)(a:DB A h d v)(c:DB A h e w):Rel A h (RV A h0) (JU o v w h) (iV o d e):=by
 have ii:o≠.add->(∃i j,d=.int i/\e=.int j)\/iV o d e=.no:=λho=>Dq ho d e;cases o with
 |add=>
  cases d<;>cases e<;>first|trivial|skip
  ·have:=a.int;subst this;have:=c.int;subst this;exact au f6
  ·have:=a.str;subst this;have:=c.str;subst this;exact bF (λz=>z) λ_=>au Io
  ·rename_i xs ys
   obtain⟨vs,rfl,q1⟩:=a.tup;obtain⟨ws,rfl,q2⟩:=c.tup;have l1:=q1.length;have l2:=q2.length;refine bF (λz=>?_) λ_=>au ⟨?_,λhi=>?_⟩
   ·rw[l1,l2]at z
    have:xs.isEmpty=vs.isEmpty:=by cases xs<;>cases vs<;>simp_all
    rw[<-this];exact z
   ·show Dn A h (.tup _) _;rw[Dn];exact⟨_,rfl,q1.append q2⟩
   ·show Dn _ h (.tup _) _;rw[Dn];exact⟨_,rfl,fm (q1.append q2) hi⟩
  ·rename_i xs ys
   obtain⟨vs,e1,q1⟩:=a.lst;obtain⟨ws,e2,q2⟩:=c.lst;have eb:JU .add v w=bnd (ask λh=>az h v) λa=>bnd (ask λh=>az h w) λb=>aF (decide (a.length+b.length<=sizeLine)) (new (.lst (a++b))):=by
    cases v<;>simp only[az]at e1<;>first|(cases e1;done)|skip
    all_goals cases w<;>simp only[az]at e2<;>first|(cases e2;done)|rfl
   have ev:JU .add v w h=aF (decide (vs.length+ws.length<=sizeLine)) (new (.lst (vs++ws))) h:=by rw[eb];unfold bnd ask aN;dsimp only;rw[e1];dsimp only;rw[e2]
   rw[ev];refine bF (λz=>?_) λ_=>fO u p (q1.append q2) λhi=>fm (q1.append q2) hi;rw[<-q1.length,<-q2.length];exact z
 |_=>
  rcases ii (by intro z;cases z) with ⟨i,j,rfl,rfl⟩|z
  case inr=>rw[z];trivial
  have:=a.int;subst this;have:=c.int;subst this
  first
   |exact au f6
   |exact bF (λz=>z) λ_=>au f6
theorem Ds{lo hi:Option Int}{h0:Hs}(u:Up A h)(p:h0<+:h)(a:DB A h d v):Rel A h (RV A h0) (n9 v lo hi h) (yr d lo hi):=by
 cases d with
 |tup ds=>
  obtain⟨vs,rfl,q⟩:=a.tup;have l:=q.length;simp only[yr,n9];refine bF (λz=>?_) λ_=>au ⟨?_,λhi=>?_⟩
  ·rw[l]at z;exact z
  ·show Dn A h (.tup _) _;rw[Dn];exact⟨_,rfl,q.cut lo hi⟩
  ·show Dn _ h (.tup _) _;rw[Dn];exact⟨_,rfl,fm (q.cut _ _) hi⟩
 |rl ds=>
  obtain⟨vs,e1,q⟩:=a.lst;have ev:n9 v lo hi h=new (.lst (eE vs lo hi)) h:=by
   have:n9 v lo hi=bnd (ask λh=>az h v) λxs=>new (.lst (eE xs lo hi)):=by cases v<;>simp only[az]at e1<;>first|(cases e1;done)|rfl
   rw[this];unfold bnd ask aN;dsimp only;rw[e1]
  rw[ev];exact fO u p (q.cut lo hi) λhh=>fm (q.cut lo hi) hh
 |_=>trivial
theorem Dp.one(e:Dp A h [d] vs):∃v,vs=[v]/\DB A h d v:=by
 obtain⟨v,r,rfl,a,b⟩:=e;cases (show r=[] from b);exact⟨v,rfl,a⟩
theorem Dt{ns:List Int}(q:ao A h ds vs)(e:aM ds=some ns):vs=ds:=by
 have:aR ds=true:=by
  clear q
  induction ds generalizing ns with
  |nil=>rfl
  |cons d ds ih=>
   simp only[aM,bM]at e;obtain⟨i,e1,e⟩:=Tz.mp e;obtain⟨is,e2,e⟩:=Tz.mp e;cases d<;>first|(cases e1;done)|skip
   rw[aR,jV,Vk];exact ih e2
 exact(aL ds vs this).mp q
theorem AO(q:ao A h ds vs)(e:dw ds=some ns):vs=ds:=by
 have:aR ds=true:=by
  clear q
  induction ds generalizing ns with
  |nil=>rfl
  |cons d ds ih=>
   simp only[dw,bM]at e;obtain⟨i,e1,e⟩:=Tz.mp e;obtain⟨is,e2,e⟩:=Tz.mp e;cases d<;>first|(cases e1;done)|skip
   rw[aR,jV,Vk];exact ih e2
 exact(aL ds vs this).mp q
theorem nC:∀{ds:List Val} {ns:List Int},aM ds=some ns->aR ds=true
 |[],_,_=>rfl
 | d::ds,ns,e=>by
  simp only[aM,bM]at e;obtain⟨i,e1,e⟩:=Tz.mp e;obtain⟨is,e2,e⟩:=Tz.mp e;cases d<;>first|(cases e1;done)|skip
  rw[aR,jV,Vk];exact nC (show aM ds=some is from e2)
theorem sN:∀{ds:List Val} {ns:List (List Int)},jc ds=some ns->aR ds=true
 |[],_,_=>rfl
 | d::ds,ns,e=>by
  simp only[jc,bM]at e;obtain⟨i,e1,e⟩:=Tz.mp e;obtain⟨is,e2,e⟩:=Tz.mp e;cases d<;>first|(cases e1;done)|skip
  rename_i vs;dsimp only at e1;split at e1
  ·cases e1
  ·rw[aR,jV,nC e1,Vk];exact sN (show jc ds=some is from e2)
theorem bq:∀ns:List Int,aR (ns.map .int)=true
 |[]=>rfl
 |n::ns=>by rw[T6,aR,jV,Vk];exact bq ns
theorem jY:∀lY:List (List Int),aR (lY.map ju)=true
 |[]=>rfl
 |n::ns=>by rw[T6,aR,ju,jV,bq,Vk];exact jY ns
theorem pG(e:eY xs=some ys):aR xs=true/\aR ys=true:=by
 unfold eY at e;split at e
 ·cases e2:aM xs with
  |some ns=>rw[e2]at e;cases e;exact⟨nC e2,bq _⟩
  |none=>rw[e2]at e;obtain⟨lY,e3,e4⟩:=Tz.mp e;cases e4;exact⟨sN e3,jY _⟩
 ·cases e
theorem Du{h0:Hs}(u:Up A h)(p:h0<+:h)(a:Dp A h ds vs):Rel A h (RV A h0) (blt b vs h) (fY b ds):=by
 have mm:∀(f:List Int->Option Val) (d:Val),(∀ns m,f ns=some m->∃i,m=.int i)->∀v,DB A h d v->Rel A h (RV A h0) (bnd (ask λh=>cg h v) (λxs=>aN ((aM xs).bind f)) h) (pb (pl (cg [] d)) λxs=>pb (pl ((aM xs).bind f)) λm=>.ok (true,m)):=by
  intro f d hf v hv;refine ah (R:=λxs h' ws=>ao A h' xs ws) (cV λxs e=>hv.seq e) λxs h1 ws q1 q=>?_;have:aN ((aM ws).bind f) h1=bnd (aN ((aM ws).bind f)) (λm=>ret m) h1:=by unfold bnd aN;cases (aM ws).bind f<;>rfl
  rw[this];refine ah (R:=λm _ m'=>m'=m/\∃i,m=.int i) (aQ λm e=>?_) λm h2 m' _ hm=>?_
  ·obtain⟨ns,e1,e2⟩:=Tz.mp e;rw[Dt q e1];exact⟨m,e,rfl,hf ns m e2⟩
  ·obtain⟨rfl,i,rfl⟩:=hm;exact au f6
 have hmin:∀ns m,qi ns=some m->∃i,m=Val.int i:=λns m e=>by cases ns<;>simp[qi]at e;exact⟨_,e.symm⟩
 have Ph:∀ns m,qj ns=some m->∃i,m=Val.int i:=λns m e=>by cases ns<;>simp[qj]at e;exact⟨_,e.symm⟩
 match ds,a with
 |[],a=>cases b<;>trivial
 |[d],a=>
  obtain⟨v,rfl,hv⟩:=a.one;cases b with
  |len=>exact ah (R:=λn _ m=>m=n) (cV λn e=>⟨n,Il hv e,rfl⟩) λn h1 m _ e=>by subst e;exact au f6
  |min=>
   have e1:fY .min [d]=pb (pl (cg [] d)) λxs=>pb (pl ((aM xs).bind qi)) λm=>.ok (true,m):=by cases d<;>rfl
   have e2:blt .min [v]=bnd (ask λh=>cg h v) λxs=>aN ((aM xs).bind qi):=by cases v<;>rfl
   rw[e1,e2];exact mm qi d hmin v hv
  |max=>
   have e1:fY .max [d]=pb (pl (cg [] d)) λxs=>pb (pl ((aM xs).bind qj)) λm=>.ok (true,m):=by cases d<;>rfl
   have e2:blt .max [v]=bnd (ask λh=>cg h v) λxs=>aN ((aM xs).bind qj):=by cases v<;>rfl
   rw[e1,e2];exact mm qj d Ph v hv
  |sorted=>
   cases d<;>first|trivial|skip
   rename_i xs;obtain⟨ws,e1,q⟩:=hv.lst;have ev:bnd (ask λh=>az h v) (λxs=>bnd (aN (eY xs)) λys=>new (.lst ys)) h=bnd (aN (eY ws)) (λys=>new (.lst ys)) h:=by unfold bnd ask aN;dsimp only;rw[e1]
   show Rel A h (RV A h0) (bnd (ask λh=>az h v) (λxs=>bnd (aN (eY xs)) λys=>new (.lst ys)) h) _;rw[ev];refine ah (R:=λys _ zs=>zs=ys/\aR ys=true) (aQ λys e=>?_) λys h1 zs q1 hz=>?_
   ·obtain⟨i1,i2⟩:=pG e;rw[(aL xs ws i1).mp q];exact⟨ys,e,rfl,i2⟩
   ·obtain⟨rfl,hi⟩:=hz;exact fO (u.ext q1) (p.trans q1) ((aL _ _ hi).mpr rfl) λ_=>(aL _ _ hi).mpr rfl
  |list=>refine ah (R:=λxs h' ws=>ao A h' xs ws) (cV λxs e=>hv.seq e) λxs h1 ws q1 q=>?_;exact fO (u.ext q1) (p.trans q1) q λhi=>fm q hi
  |tuple=>trivial
  |str=>trivial
  |int=>
   cases d<;>first|trivial|skip
   ·have:=hv.bl;subst this;exact au f6
   ·have:=hv.int;subst this;exact au f6
  |all=>
   cases d<;>first|trivial|skip
   rename_i xs;obtain⟨ws,e1,q⟩:=hv.lst;have ev:bnd (ask λh=>az h v) (λxs=>bnd (aN (dw xs)) λbs=>ret (Val.bl (bs.all id))) h=bnd (aN (dw ws)) (λbs=>ret (Val.bl (bs.all id))) h:=by unfold bnd ask aN;dsimp only;rw[e1]
   show Rel A h (RV A h0) (bnd (ask λh=>az h v) (λxs=>bnd (aN (dw xs)) λbs=>ret (Val.bl (bs.all id))) h) _;rw[ev];exact ah (R:=λys _ zs=>zs=ys) (aQ λys e=>⟨ys,by rw[AO q e];exact e,rfl⟩) λys h1 zs q1 hz=>by subst hz;exact au lA
  |any=>trivial
  |isin T=>refine ah (R:=λn _ m=>m=n) (cV λn e=>⟨n,LL hv e,rfl⟩) λn h1 m _ e=>?_;subst e;exact ah (R:=λn _ m=>m=n) (aQ λn e=>⟨n,e,rfl⟩) λn h1 m _ e=>by subst e;exact au lA
 |[d,e],a=>
  obtain⟨v,r,rfl,hv,hr⟩:=a;obtain⟨w,rfl,hw⟩:=Dp.one hr;cases b<;>first|trivial|(cases d<;>trivial)|skip
  ·cases d<;>cases e<;>first|trivial|skip
   have:=hv.int;subst this;have:=hw.int;subst this;exact au f6
  ·cases d<;>cases e<;>first|trivial|skip
   have:=hv.int;subst this;have:=hw.int;subst this;exact au f6
 |x::y::z::t,a=>cases b<;>first|trivial|(cases x<;>trivial)|(cases x<;>cases y<;>trivial)
end
def Imp(φ:List Val->M Val)(ψ:List Val->Pr FV):Prop:=∀(A:AP) (h:Hs) (ds vs:List Val),Up A h->ao A h ds vs->Rel A h (RV A h) (φ vs h) (ψ ds)
section
variable {Φ:Nat->List Val->M Val} {Ψ:Nat->List Val->Pr FV} {A:AP} {h h1:Hs}
theorem bO{x y:Bool}(f:(x&&y)=true):x=true/\y=true:=Bool.and_eq_true_iff.mp f
theorem nD{x y z:Bool}(f:(x&&y&&z)=true):(x=true/\y=true)/\z=true:=⟨bO (bO f).1,(bO f).2⟩
def aU(Φ:Nat->List Val->M Val)(Ψ:Nat->List Val->Pr FV)(ir:IE):Prop:=∀(aa:aD) (env:Env) (A:AP) (h:Hs),Up A h->ER A aa env h->Rel A h (RV A h) (aG Φ ir env h) (aX Ψ ir aa)
def iW(Φ:Nat->List Val->M Val)(Ψ:Nat->List Val->Pr FV)(dh:jt):Prop:=(∀(aa:aD) (env:Env) (A:AP) (h:Hs),Up A h->ER A aa env h->Rel A h (R7 A h) (aZ Φ dh env h) (sL Ψ dh aa)) /\
 ∀(aa:aD) (env:Env) (A:AP) (h:Hs),Up A h->ER A aa env h->Rel A h (λds h' vs=>Dp A h' ds vs) (aZ Φ dh env h) (fZ Ψ dh aa)
theorem RV.up{h0 h':Hs}(p:h0<+:h)(r:RV A h x h' v):RV A h0 x h' v:=⟨r.1,λf=>(r.2 f).dB (Fr.le p.length_le)⟩
theorem Ip{h0:Hs}(p:h0<+:h)(r:Rel A h (RV A h) o x):Rel A h (RV A h0) o x:=sM r λ_ _ _ _ q=>q.up p
theorem LM{i:Nat}(e:ER A aa env h):Rel A h (Pg A) (aG Φ (.var i) env h) (pl (iA aa (.var i))):=by
 rw[aG];refine aQ λx hx=>?_;simp only[iA]at hx;split at hx
 ·rename_i f d hd
  cases hx;have:=e i f d hd;revert this;generalize qK f=t;intro this;cases t with
  |false=>rw[T4 rfl]at this;obtain⟨a,k2,k3⟩:=this;exact⟨.ref a,by rw[k2],.inr ⟨a,rfl,k3⟩⟩
  |true=>rw[TX (by decide)]at this;obtain⟨v,k1,k2⟩:=this;exact⟨v,by rw[k1],.inl k2⟩
 ·cases hx
theorem nE(o:aU Φ Ψ ir)(u:Up A h)(e:ER A aa env h):Rel A h (Pg A) (aG Φ ir env h) (if isVar ir=true then pl (iA aa ir) else aX Ψ ir aa):=by
 by_cases hv:isVar ir=true
 ·rw[T4 hv];cases ir<;>first|(cases hv;done)|exact LM e
 ·rw[TX hv];exact sM (o aa env A h u e) λ_ _ _ _ q=>q.br
theorem Dv{α β:Type}{R:α -> Hs -> β -> Prop}{c:Bool}{o:Out β}{p:Pr α}(r:c=true->Rel A h R o p):Rel A h R o (pg c p):=by
 unfold pg;cases c with
 |true=>rw[T4 rfl];exact r rfl
 |false=>rw[TX TH];trivial
theorem v_var{i:Nat}:aU Φ Ψ (.var i):=λaa env A h u e=>by
 rw[aG,aX];cases hv:aa[i]? with
 |none=>trivial
 |some o=>
  cases o with
  |none=>trivial
  |some fd=>
   obtain⟨f,d⟩:=fd;refine Dv λhf=>?_
   ·have:=e i f d hv;rw[TX (by simp[hf])]at this;obtain⟨v,k1,k2⟩:=this;rw[k1];exact⟨v,h,rfl,Uc _,qA k2⟩
theorem Dw{α:Type}{f:Hs->Option α}:ask f h=bnd (ask f) (λz=>ret z) h:=by unfold bnd ask aN;cases f h<;>rfl
theorem wm(f:jV d=true):Dn A h d d:=(iB d d f).mpr rfl
theorem LN(f:jV d=true):aU Φ Ψ (.cst d):=λaa env A h u e=>by rw[aG,aX];exact au (qA (wm f))
theorem LO(f:jV d=true):aU Φ Ψ (.con x d):=λaa env A h u e=>by rw[aG,aX];exact au (qA (wm f))
theorem Pj:aU Φ Ψ .no:=λaa env A h u e=>by rw[aX];trivial
theorem LP(ha:aU Φ Ψ a)(hb:aU Φ Ψ b):aU Φ Ψ (.bin o a b):=λaa env A h u e=>by
 rw[aG,aX];exact ah (nE ha u e) λx h1 v p1 q1=>ah (nE hb (u.ext p1) (e.ext p1)) λy h2 w p2 q2=>Dr ((u.ext p1).ext p2) (p1.trans p2) (DB.ext p2 q1) q2
theorem LQ(ha:aU Φ Ψ a):aU Φ Ψ (.neg a):=λaa env A h u e=>by
 rw[aG,aX];refine ah (ha aa env A h u e) λx h1 v p1 q1=>?_;obtain⟨f,d⟩:=x;have q:=q1.1;cases d<;>dsimp only<;>first|trivial|skip
 dsimp only at q;rw[Dn]at q;subst q;exact au f6
theorem LR(ha:aU Φ Ψ a)(hb:aU Φ Ψ b):aU Φ Ψ (.cmp o a b):=λaa env A h u e=>by
 rw[aG,aX];exact ah (nE ha u e) λx h1 v p1 q1=>ah (nE hb (u.ext p1) (e.ext p1)) λy h2 w p2 q2=>
  ah (R:=λt _ t'=>t'=t) (cV λt et=>⟨t,Ij (DB.ext p2 q1) q2 et,rfl⟩) λt h3 t' p3 et=>by subst et;exact au lA
theorem LS(ha:aU Φ Ψ a)(hb:aU Φ Ψ b)(hc:aU Φ Ψ c):aU Φ Ψ (.chn o o' a b c):=λaa env A h u e=>by rw[aX];trivial
theorem iC(q:Dn A h d v):Rel A h (λt _ t'=>t'=t) (ly v h) (nu d):=by
 cases d<;>first|trivial|skip
 rw[Dn]at q;subst q;exact au rfl
theorem v_and(ha:aU Φ Ψ a)(hb:aU Φ Ψ b):aU Φ Ψ (.and a b):=λaa env A h u e=>by
 rw[aG,aX];refine ah (ha aa env A h u e) λx h1 v p1 q1=>ah (iC q1.1) λt h2 t' p2 et=>?_;subst et;cases t' with
 |true=>rw[T4 rfl,T4 rfl];exact ah (hb aa env A h2 ((u.ext p1).ext p2) ((e.ext p1).ext p2)) λy h3 w p3 q3=>ah (iC q3.1) λt h2 t' p2 et=>by subst et;exact au lA
 |false=>rw[TX TH,TX TH];exact au lA
theorem v_or(ha:aU Φ Ψ a)(hb:aU Φ Ψ b):aU Φ Ψ (.or a b):=λaa env A h u e=>by
 rw[aG,aX];refine ah (ha aa env A h u e) λx h1 v p1 q1=>ah (iC q1.1) λt h2 t' p2 et=>?_;subst et;cases t' with
 |false=>rw[TX TH,TX TH];exact ah (hb aa env A h2 ((u.ext p1).ext p2) ((e.ext p1).ext p2)) λy h3 w p3 q3=>ah (iC q3.1) λt h2 t' p2 et=>by subst et;exact au lA
 |true=>rw[T4 rfl,T4 rfl];exact au lA
theorem v_not(ha:aU Φ Ψ a):aU Φ Ψ (.not a):=λaa env A h u e=>by
 rw[aG,aX];exact ah (ha aa env A h u e) λx h1 v p1 q1=>ah (iC q1.1) λt h2 t' p2 et=>by subst et;exact au lA
theorem v_ite(hc:aU Φ Ψ c)(ha:aU Φ Ψ a)(hb:aU Φ Ψ b):aU Φ Ψ (.ite c a b):=λaa env A h u e=>by rw[aX];trivial
theorem EM:iW Φ Ψ .nil:=⟨λaa env A h u e=>by rw[aZ,sL];exact au ⟨ao.nil,λ_=>ao.nil⟩,λaa env A h u e=>by rw[aZ,fZ];exact au rfl⟩
theorem AQ(he:aU Φ Ψ e)(hs:iW Φ Ψ es):iW Φ Ψ (.cons e es):=by
 refine⟨λaa env A h u er=>?_,λaa env A h u er=>?_⟩
 ·rw[aZ,sL]
  refine ah (he aa env A h u er) λx h1 v p1 q1=>ah (hs.1 aa env A h1 (u.ext p1) (er.ext p1)) λy h2 vs p2 q2=>?_;refine au ⟨ao.cons (q1.1.ext p2) q2.1,λhf=>?_⟩;have hf':x.1=true/\y.1=true:=by simpa using hf
  exact ao.cons ((q1.2 hf'.1).ext p2) ((q2.2 hf'.2).dB (Fr.le p1.length_le))
 ·rw[aZ,fZ];refine ah (nE he u er) λx h1 v p1 q1=>ah (hs.2 aa env A h1 (u.ext p1) (er.ext p1)) λy h2 vs p2 q2=>?_;exact au ⟨v,vs,rfl,DB.ext p2 q1,q2⟩
theorem LU(hs:iW Φ Ψ es):aU Φ Ψ (.tup es):=λaa env A h u e=>by
 rw[aG,aX];refine ah (hs.1 aa env A h u e) λx h1 vs p1 q1=>bF (λz=>by rw[<-q1.1.length];exact z) λ_=>au ⟨?_,λhf=>?_⟩
 ·show Dn A h1 (.tup _) _;rw[Dn];exact⟨vs,rfl,q1.1⟩
 ·show Dn _ h1 (.tup _) _;rw[Dn];exact⟨vs,rfl,q1.2 hf⟩
theorem Iq:aU Φ Ψ .dct0:=λaa env A h u e=>by
 rw[aG,aX];refine⟨_,_,rfl,cA _,?_,λhf=>?_⟩
 ·show Dn A _ (.dc [] []) _;rw[Dn];exact⟨_,[],rfl,u _ (TV _),dN _,rfl,ao.nil⟩
 ·show Dn _ _ (.dc [] []) _;rw[Dn];exact⟨_,[],rfl,TV _,dN _,rfl,ao.nil⟩
theorem wo:putD [k] [.bl true] k (.bl true)=.dc [k] [.bl true]:=by simp[putD,cF]
theorem wu(h:k≠l):putD [k] [.bl true] l (.bl true)=.dc [k,l] [.bl true,.bl true]:=by simp[putD,cF,h]
theorem wz:cF [(k,.bl true)] k (.bl true)=[(k,.bl true)]:=by simp[cF]
theorem wB(h:k≠l):cF [(k,.bl true)] l (.bl true)=[(k,.bl true),(l,.bl true)]:=by simp[cF,h]
theorem qB:Dn A h (.bl true) (.bl true):=by rw[Dn]
theorem Ir(hk:aU Φ Ψ k)(hv:aU Φ Ψ v):aU Φ Ψ (.dct1 k v):=λaa env A h u e=>by
 rw[aG,aX];refine ah (hk aa env A h u e) λx h1 w p1 q1=>ah (R:=λkk _ kk'=>kk'=kk) (aQ λkk ek=>⟨kk,nv q1.1 ek,rfl⟩) λkk h2 kk' p2 hkk=>?_;subst hkk;refine ah (hv aa env A h2 ((u.ext p1).ext p2) ((e.ext p1).ext p2)) λy h3 z p3 q3=>ah (R:=λkk _ kk'=>kk'=kk) (aQ λkk ek=>⟨kk,nv q3.1 ek,rfl⟩) λk2 h4 k2' p4 hk2=>?_;subst hk2;have p:=((p1.trans p2).trans p3).trans p4
 by_cases ce:kk'=k2'
 ·subst ce
  rw[wo,wz];refine⟨_,_,rfl,cA _,?_,λhf=>?_⟩
  ·show Dn A _ (.dc [kk'] [.bl true]) _;rw[Dn];exact⟨_,[(kk',.bl true)],rfl,u _ p.length_le,dN _,rfl,ao.cons qB ao.nil⟩
  ·show Dn _ _ (.dc [kk'] [.bl true]) _;rw[Dn];exact⟨_,[(kk',.bl true)],rfl,p.length_le,dN _,rfl,ao.cons qB ao.nil⟩
 ·rw[wu ce,wB ce]
  refine⟨_,_,rfl,cA _,?_,λhf=>?_⟩
  ·show Dn A _ (.dc [kk',k2'] [.bl true,.bl true]) _;rw[Dn];exact⟨_,[(kk',.bl true),(k2',.bl true)],rfl,u _ p.length_le,dN _,rfl,ao.cons qB (ao.cons qB ao.nil)⟩
  ·show Dn _ _ (.dc [kk',k2'] [.bl true,.bl true]) _;rw[Dn];exact⟨_,[(kk',.bl true),(k2',.bl true)],rfl,p.length_le,dN _,rfl,ao.cons qB (ao.cons qB ao.nil)⟩
theorem Iu(hd:aU Φ Ψ d)(hk:aU Φ Ψ k)(hx:aU Φ Ψ x):aU Φ Ψ (.dget d k x):=λaa env A h u e=>by rw[aX];trivial
theorem Dy(hd:aU Φ Ψ d):aU Φ Ψ (.lkeys d):=λaa env A h u e=>by rw[aX];trivial
theorem Dz(hd:aU Φ Ψ d):aU Φ Ψ (.skeys d):=λaa env A h u e=>by
 rw[aG,aX];refine ah (nE hd u e) λo h1 v p1 q1=>ah (R:=λns _ ns'=>ns'=ns) (cV λns en=>⟨ns,?_,rfl⟩) λns h2 ns' p2 hk=>?_
 ·unfold jv at en |-;obtain⟨ks,e1,e2⟩:=Tz.mp en;rw[AN q1 e1];exact e2
 ·subst hk;exact fO ((u.ext p1).ext p2) (p1.trans p2) ((aL _ _ (bq ns')).mpr rfl) λ_=>(aL _ _ (bq ns')).mpr rfl
theorem sO:∀{xs:List Val} {ns:List Int},aM xs=some ns->xs=ns.map .int
 |[],ns,e=>by cases e;rfl
 | x::xs,ns,e=>by
  unfold aM at e;rw[bM]at e;obtain⟨i,e1,e⟩:=Tz.mp e;obtain⟨r,e2,e⟩:=Tz.mp e;cases e;cases x<;>simp at e1;subst e1;rw[sO e2];rfl
theorem Iv{p q:Nat}(hd:aU Φ Ψ d)(hw:aU Φ Ψ w):aU Φ Ψ (.dflt N' js p q d w):=λaa env A h u e=>by rw[aX];trivial
theorem LV(ha:aU Φ Ψ a):aU Φ Ψ (.isc a x bs):=λaa env A h u e=>by rw[aX];trivial
theorem Iw(ha:aU Φ Ψ a):aU Φ Ψ (.sset a):=λaa env A h u e=>by
 rw[aG,aX];refine ah (nE ha u e) λx h1 v p1 q1=>?_;obtain⟨f,d⟩:=x;cases d<;>first|trivial|skip
 rename_i xs;obtain⟨vs,e1,e2⟩:=DB.lst q1;have ea:∀(F:List Val->M Val),bnd (ask λh=>az h v) F h1=F vs h1:=λF=>by unfold bnd ask aN;dsimp only;rw[e1]
 rw[ea];show Rel A h1 _ _ (pb (pl (aM xs)) _);refine ah (R:=λns h' ns'=>ns'=ns) (aQ λns en=>⟨ns,?_,rfl⟩) λns h2 ns' p2 en=>?_
 ·have ei:=sO en;subst ei;rw[(aL _ _ (bq ns)).mp e2];exact en
 ·subst en;refine bF (λz=>z) λ_=>?_;have hi:∀ms:List Int,ao A h2 (ms.map Val.int) (ms.map Val.int):=λms=>(aL _ _ (bq ms)).mpr rfl;exact fO ((u.ext p1).ext p2) (p1.trans p2) (hi _) λ_=>(aL _ _ (bq _)).mpr rfl
theorem LW(hs:iW Φ Ψ es):aU Φ Ψ (.lst es):=λaa env A h u e=>by
 rw[aG,aX];exact ah (hs.1 aa env A h u e) λx h1 vs p1 q1=>bF (λz=>by rw[<-q1.1.length];exact z) λ_=>fO (u.ext p1) p1 q1.1 q1.2
theorem LX(ha:aU Φ Ψ a)(hb:aU Φ Ψ b):aU Φ Ψ (.idx a b):=λaa env A h u e=>by
 rw[aG,aX];refine ah (nE ha u e) λx h1 v p1 q1=>ah (hb aa env A h1 (u.ext p1) (e.ext p1)) λy h2 w p2 q2=>?_;rw[Dw];exact ah (R:=λz h' z'=>Dn A h' z z') (cV λz ez=>Im (DB.ext p2 q1) q2.1 ez) λz h3 z' p3 q3=>au (qA q3)
theorem jZ(o:aU Φ Ψ ir)(u:Up A h)(e:ER A aa env h) :
  Rel A h (λ(t:Option Int) _ t'=>t'=t) ((if cy ir=true then ret none else bnd (aG Φ ir env) λv=>bnd (aN (iy v)) λi=>ret (some i)) h) (if cy ir=true then .ok none else pb (aX Ψ ir aa) λv=>pb (pl (iy v.2)) λi=>.ok (some i)):=by
 by_cases hn:cy ir=true
 ·rw[T4 hn,T4 hn];exact au rfl
 ·rw[TX hn,TX hn]
  refine ah (o aa env A h u e) λx h1 v p1 q1=>ah (R:=λt _ t'=>t'=t) (aQ λi ei=>?_) λt h2 t' p2 et=>by subst et;exact au rfl
  obtain⟨f,d⟩:=x;have q:=q1.1;cases d<;>first|(cases ei;done)|skip
  dsimp only at q;rw[Dn]at q;subst q;exact⟨i,ei,rfl⟩
theorem LY(ha:aU Φ Ψ a)(hl:aU Φ Ψ lo)(hh:aU Φ Ψ hi):aU Φ Ψ (.slc a lo hi):=λaa env A h u e=>by
 rw[aG,aX];refine ah (nE ha u e) λx h1 v p1 q1=>ah (jZ hl (u.ext p1) (e.ext p1)) λl h2 l' p2 el=>ah (jZ hh ((u.ext p1).ext p2) ((e.ext p1).ext p2)) λr h3 r' p3 er=>?_;subst el;subst er;exact Ds (((u.ext p1).ext p2).ext p3) ((p1.trans p2).trans p3) (DB.ext (p2.trans p3) q1)
theorem LZ(ha:aU Φ Ψ a)(hs:aU Φ Ψ sx):aU Φ Ψ (.rev a sx):=λaa env A h u e=>by rw[aX];trivial
theorem Iz{j:Nat}(hΦ:∀j,Imp (Φ j) (Ψ j))(hs:iW Φ Ψ es):aU Φ Ψ (.call j es):=λaa env A h u e=>by
 rw[aG,aX];exact ah (hs.1 aa env A h u e) λx h1 vs p1 q1=>Ip p1 (hΦ j A h1 x.2 vs (u.ext p1) q1.1)
theorem L3{n:Nat}(ha:aU Φ Ψ a):aU Φ Ψ (.fld n a x):=λaa env A h u e=>by rw[aX];trivial
theorem L4(hΦ:∀j,Imp (Φ j) (Ψ j))(ha:aU Φ Ψ a)(hs:iW Φ Ψ es):aU Φ Ψ (.mth a m js es):=λaa env A h u e=>by rw[aX];trivial
theorem L5(hs:iW Φ Ψ es):aU Φ Ψ (.blt b es):=λaa env A h u e=>by
 rw[aG,aX];exact ah (hs.2 aa env A h u e) λx h1 vs p1 q1=>Du (u.ext p1) p1 q1
theorem L6(ha:aU Φ Ψ a)(hs:iW Φ Ψ es):aU Φ Ψ (.met m a es):=λaa env A h u e=>by
 cases m with
 |join=>rw[aX];trivial
 |_=>rw[aX]<;>first|trivial|(intro z;cases z)
def SrcR(A:AP)(h:Hs)(xs:List Val)(src:Src):Prop:=∃ws,ao A h xs ws/\∀h',h<+:h'->src.items h'=some ws
theorem gi{lo:Int}{n:Nat}:ao A h (bN lo n) (bN lo n):=by
 unfold bN;generalize List.range n=l
 induction l with
 |nil=>exact ao.nil
 |cons a l ih=>exact ao.cons (by rw[Dn]) ih
theorem dO:∀{xs ws:List Val} (i:Nat),ao A h xs ws->ao A h (bI i xs) (bI i ws)
 |[],ws,i,q=>by rw[ao]at q;subst q;exact ao.nil
 | x::xs,ws,i,q=>by
  rw[ao]at q;obtain⟨w,r,rfl,a,b⟩:=q;exact ao.cons (by rw[Dn];exact⟨_,rfl,ao.cons (by rw[Dn]) (ao.cons a ao.nil)⟩) (dO (i+1) b)
theorem wC{ds vs:List Val}(a:DB A h (.rl ds) v):∃ws,ao A h ds ws/\((v=.rl ws)\/∃i,v=.ref i/\∀h',h<+:h'->az h' (.ref i)=some ws):=by
 rcases a with a|⟨i,rfl,vs,g,q⟩
 ·rw[Dn]at a
  rcases a with ⟨vs,rfl,_,q⟩|⟨i,vs,rfl,_,g,q⟩
  ·exact⟨vs,q,.inl rfl⟩
  ·exact⟨vs,q,.inr ⟨i,rfl,λh' p=>by simp[az,cU p g]⟩⟩
 ·exact⟨vs,q,.inr ⟨i,rfl,λh' p=>by simp[az,cU p g]⟩⟩
theorem wD(a:Dp A h ds vs):Rel A h (λxs h' src=>SrcR A h' xs src) (aN (srcOf k vs) h) (pl (AI k ds)):=by
 refine aQ λxs e=>?_;cases k with
 |seq=>
  match ds,e with
  |[.tup es],e=>cases e;obtain⟨v,rfl,hv⟩:=a.one;obtain⟨ws,rfl,q⟩:=hv.tup;exact⟨.fix ws,rfl,ws,q,λ_ _=>rfl⟩
  |[.rl es],e=>
   cases e;obtain⟨v,rfl,hv⟩:=a.one;obtain⟨ws,q,rfl|⟨i,rfl,g⟩⟩:=wC (vs:=[]) hv
   ·exact⟨.fix ws,rfl,ws,q,λ_ _=>rfl⟩
   ·exact⟨.live i,rfl,ws,q,λh' p=>g h' p⟩
 |range=>
  match ds,e with
  |[.int n],e=>
   obtain⟨v,rfl,hv⟩:=a.one;have:=hv.int;subst this;change (if inR n=true then some (bN 0 n.toNat) else none)=some _ at e;split at e
   ·rename_i hn;cases e;exact⟨.fix _,T4 hn,_,gi,λ_ _=>rfl⟩
   ·cases e
  |[.int n,.int m],e=>
   obtain⟨v,r,rfl,hv,hr⟩:=a;obtain⟨w,rfl,hw⟩:=Dp.one hr;have:=hv.int;subst this;have:=hw.int;subst this;change (if (inR n&&inR m)=true then some (bN n (m-n).toNat) else none)=some _ at e;split at e
   ·rename_i hn;cases e;exact⟨.fix _,T4 hn,_,gi,λ_ _=>rfl⟩
   ·cases e
 |enum=>
  match ds,e with
  |[.rl es],e=>
   cases e;obtain⟨v,rfl,hv⟩:=a.one;obtain⟨ws,q,rfl|⟨i,rfl,g⟩⟩:=wC (vs:=[]) hv
   ·exact⟨.fix _,rfl,_,dO 0 q,λ_ _=>rfl⟩
   ·exact⟨.enum i,rfl,_,dO 0 q,λh' p=>by simp[Src.items,g h' p]⟩
 |zip=>cases e
theorem wF:∀{is:List Nat} {ds vs:List Val} {aa ak:aD} {env:Env},aS is ds aa=some ak->ao A h ds vs->ER A aa env h->(∀i∈is,i<aa.length->i<env.length)->∃env',bindAll is vs env=some env'/\ER A ak env' h
 | [],[],vs,aa,ak,env,e,q,er,_=>by
  rw[ao]at q;subst q;simp only[aS]at e;cases e;exact⟨env,rfl,er⟩
 | i::is,d::ds,vs,aa,ak,env,e,q,er,hl=>by
  rw[ao]at q;obtain⟨v,r,rfl,q1,q2⟩:=q;simp only[aS]at e;have R8:ER A (aa.set i (some (.sh,d))) (env.set i (some v)) h:=λj f d' hj=>by
   by_cases hij:i=j
   ·subst hij
    have hi:i<aa.length:=by have:=(TJ.mp hj).1;simpa using this
    rw[T5 hi]at hj;cases hj;rw[TX (by decide)];exact⟨v,by rw[T5 (hl i TU hi)],q1⟩
   ·rw[TN hij]at hj;rw[TN hij];exact er j f d' hj
  simp only[bindAll];exact wF e q2 R8 λj hj hl'=>by simpa using hl j (TM _ hj) (by simpa using hl')
 |[],_::_,_,_,_,_,e,_,_,_=>by simp[aS]at e
 |_::_,[],_,_,_,_,e,_,_,_=>by simp[aS]at e
theorem sP(e:dM p d aa=some ak)(q:Dn A h d v)(er:ER A aa env h)(hl:aa.length<=env.length):∃env',fc p v env=some env'/\ER A ak env' h:=by
 cases p with
 |one i=>
  simp only[dM]at e;cases e;refine⟨_,rfl,λj f d' hj=>?_⟩
  by_cases hij:i=j
  ·subst hij
   have hi:i<aa.length:=by have:=(TJ.mp hj).1;simpa using this
   rw[T5 hi]at hj;cases hj;rw[TX (by decide)];exact⟨v,by rw[T5 (by omega)],q⟩
  ·rw[TN hij]at hj;rw[TN hij];exact er j f d' hj
 |tup is=>
  cases d<;>simp only[dM]at e<;>first|(cases e;done)|skip
  rw[Dn]at q;obtain⟨vs,rfl,q⟩:=q;exact wF e q er λi _ hi=>by omega
theorem wG(e:ER A aa env h):ER A (jX js aa) (iw js env) h:=λi f d q=>by
 unfold jX at q;rw[Ug]at q;cases hj:js[i]? with
 |none=>rw[hj]at q;cases q
 |some o=>
  rw[hj]at q;simp only[map_some]at q;cases o with
  |none=>cases q
  |some j=>
   dsimp only at q;cases ej:aa[j]? with
   |none=>rw[ej]at q;cases q
   |some w=>
    cases w with
    |none=>rw[ej]at q;cases q
    |some fd=>
     rw[ej]at q;cases q;have:=e j f d ej;revert this;generalize qK f=t;intro this;cases t with
     |false=>rw[T4 rfl]at this |-;obtain⟨a,k2,k3⟩:=this;refine⟨a,?_,k3⟩;unfold iw;rw[Ug,hj];simp only[map_some];rw[k2]
     |true=>rw[TX (by decide)]at this |-;obtain⟨v,k1,k2⟩:=this;refine⟨v,?_,k2⟩;unfold iw;rw[Ug,hj];simp only[map_some];rw[k1]
theorem nF :
  ∀(xs:List Val) (vs:List Val) (i:Nat) (acc:List Val) (h:Hs),hb<+:h->Up A h->(∀h',h<+:h'->src.items h'=some ws)->ws.drop i=vs->ao A h xs vs ->
   (∀x v h',h<+:h'->Dn A h' x v->Rel A h' (λo h'' o'=>match o,o' with|some e,some e'=>RV A hb e h'' e'|none,none=>True|_,_=>False) (f v h') (g x)) ->
   Rel A h (λp h' ys=>∃zs,ys=acc++zs/\ao A h' p.2 zs/\(p.1=true->ao (Fr hb.length) h' p.2 zs)) (dJ src f vs.length i acc h) (je g xs)
 | [],vs,i,acc,h,QJ,u,hi,hd,q,hf=>by
  rw[ao]at q;subst q;have hl:ws.length<=i:=V9.mp hd;have ev:dJ src f ([]:List Val).length i acc h=.ok acc h:=by show dJ src f 0 i acc h=_;simp only[dJ];unfold bnd ask aN aF;dsimp only;rw[hi h (Uc _)];dsimp only;rw[T4 (decide_eq_true hl)];rfl
  rw[ev,je];exact⟨acc,h,rfl,Uc _,[],by simp,ao.nil,λ_=>ao.nil⟩
 | x::xs,vs,i,acc,h,QJ,u,hi,hd,q,hf=>by
  rw[ao]at q;obtain⟨v,r,rfl,q1,q2⟩:=q;have hv:ws[i]?=some v:=by have:=UM (λl=>l[0]?) hd;simpa using this
  have hr:ws.drop (i+1)=r:=by
   have:ws.drop (i+1)=(ws.drop i).drop 1:=by rw[Wz]
   rw[this,hd];rfl
  have ev:dJ src f (v::r).length i acc h=bnd (f v) (λo=>dJ src f r.length (i+1) (match o with|some e=>acc++[e]|none=>acc)) h:=by show dJ src f (r.length+1) i acc h=_;simp only[dJ];unfold bnd ask aN;dsimp only;rw[hi h (Uc _)];dsimp only;rw[hv];try rfl
  rw[ev,je];refine ah (hf x v h (Uc _) q1) λo h1 o' p1 ho=>?_;have ih:=λacc'=>nF xs r (i+1) acc' h1 (QJ.trans p1) (u.ext p1) (λh' p=>hi h' (p1.trans p)) hr (q2.ext p1) λx v h' p=>hf x v h' (p1.trans p);cases o' with
  |some e'=>
   cases o with
   |none=>exact ho.elim
   |some e=>
    have ih:=ih (acc++[e']);cases e2:je g xs with
    |ok p=>
     rw[e2]at ih;obtain⟨ys,h2,e3,p2,zs,rfl,z1,z2⟩:=ih;refine⟨_,h2,e3,p2,e'::zs,by simp,ao.cons (ho.1.ext p2) z1,λhp=>?_⟩;have J0:e.1=true/\p.1=true:=by simpa using hp
     exact ao.cons ((ho.2 J0.1).ext p2) (z2 J0.2)
    |exc c es=>rw[e2]at ih;exact ih
    |no=>trivial
  |none=>
   cases o with
   |some e'=>exact ho.elim
   |none=>
    have ih:=ih acc;cases e2:je g xs with
    |ok p=>rw[e2]at ih;obtain⟨ys,h2,e3,p2,zs,rfl,z1,z2⟩:=ih;exact⟨_,h2,e3,p2,zs,rfl,z1,z2⟩
    |exc c es=>rw[e2]at ih;exact ih
    |no=>trivial
theorem ID(hs:iW Φ Ψ it)(hc:aU Φ Ψ c)(he:aU Φ Ψ elt):aU Φ Ψ (.comp N js pat k it c elt):=λaa env A h u e=>by
 rw[aG,aX];refine ah (hs.2 aa env A h u e) λds h1 vs p1 q1=>ah (wD q1) λxs h2 src p2 q2=>?_;obtain⟨ws,q3,q4⟩:=q2;have l:=q3.length;have ev:∀(F:List Val->M Val),bnd (ask λh=>src.items h) F h2=F ws h2:=λF=>by unfold bnd ask aN;dsimp only;rw[q4 h2 (Uc _)]
 rw[ev];refine bF (λz=>by rw[<-l];exact z) λ_=>?_;have u2:=(u.ext p1).ext p2;have e2:=(e.ext p1).ext p2;refine ah (nF (hb:=h) xs ws 0 [] h2 (p1.trans p2) u2 q4 rfl q3 λx v h' p' qx=>?_) λp h3 ys p3 hp=>?_
 ·refine ah (R:=λak _ env'=>∃_:ER A ak env' h',True) (aQ λak ev'=>?_) λak h4 env' p4 he'=>?_
  ·obtain⟨env',a1,a2⟩:=sP ev' qx (wG (e2.ext p')) (by simp[jX,iw]);exact⟨env',a1,a2,trivial⟩
  ·obtain⟨er,_⟩:=he'
   have er:=er.ext p4;have u4:=(u2.ext p').ext p4;have LI:Rel A h4 (λt _ t'=>t'=t) ((if cy c=true then ret true else bnd (aG Φ c env') λv=>ask λh=>cG h v) h4) (if cy c=true then .ok true else pb (aX Ψ c ak) λv=>pl (cG [] v.2)):=by
    by_cases hn:cy c=true
    ·rw[T4 hn,T4 hn];exact au rfl
    ·rw[TX hn,TX hn];exact ah (hc ak env' A h4 u4 er) λy h5 w p5 q5=>cV λt et=>⟨t,qy q5.br et,rfl⟩
   refine ah LI λt h5 t' p5 et=>?_;subst et;cases t' with
   |true=>rw[T4 rfl,T4 rfl];exact ah (he ak env' A h5 (u4.ext p5) (er.ext p5)) λy h6 w p6 q6=>au (q6.up ((p1.trans p2).trans (p'.trans (p4.trans p5))))
   |false=>rw[TX TH,TX TH];exact au trivial
 ·obtain⟨zs,rfl,z1,z2⟩:=hp;exact fO (u2.ext p3) ((p1.trans p2).trans p3) z1 z2
mutual
noncomputable def ck:IE->Bool
 |.cst d=>jV d
 |.con _ d=>jV d
 |.bin _ a b=>ck a&&ck b
 |.neg a=>ck a
 |.cmp _ a b=>ck a&&ck b
 |.chn _ _ a b c=>ck a&&ck b&&ck c
 |.and a b=>ck a&&ck b
 |.or a b=>ck a&&ck b
 |.not a=>ck a
 |.ite a b c=>ck a&&ck b&&ck c
 |.tup es=>j0 es
 |.lst es=>j0 es
 |.idx a b=>ck a&&ck b
 |.slc a b c=>ck a&&ck b&&ck c
 |.call _ es=>j0 es
 |.blt _ es=>j0 es
 |.met _ a es=>ck a&&j0 es
 |.comp _ _ _ _ es a b=>j0 es&&ck a&&ck b
 |.var _=>true
 |.no=>true
 |.dct0=>true
 |.sset a=>ck a
 |.dget a b c=>ck a&&ck b&&ck c
 |.dct1 a b=>ck a&&ck b
 |.lkeys a=>ck a
 |.sdef ..=>false
 |.svals _=>false
 |.skeys a=>ck a
 |.fld _ a _=>ck a
 |.mth a _ _ es=>ck a&&j0 es
 |.rev a b=>ck a&&ck b
 |.dflt _ _ _ _ a b=>ck a&&ck b
 |.isc a _ _=>ck a
noncomputable def j0:jt->Bool
 |.nil=>true
 |.cons e es=>ck e&&j0 es
end
theorem v_all(hΦ:∀j,Imp (Φ j) (Ψ j)):(∀ir,ck ir=true->aU Φ Ψ ir)/\∀dh,j0 dh=true->iW Φ Ψ dh:=by
 have one:∀ir,ck ir=true->aU Φ Ψ ir:=by
  intro ir;refine IE.rec (motive_1:=λir=>ck ir=true->aU Φ Ψ ir) (motive_2:=λdh=>j0 dh=true->iW Φ Ψ dh) ?_ ?_ ?_ ?_ ?_ ?_ ?_ ?_ ?_ ?_ ?_ ?_ ?_ ?_ ?_ ?_ ?_ ?_ ?_ ?_ ?_ ?_ ?_ ?_ ?_ ?_ ?_ ?_ ?_ ?_ ?_ ?_ ?_ ?_ ?_ ir
  ·exact λ_ _=>v_var
  ·exact λ_ f=>LN f
  ·exact λ_ _ f=>LO f
  ·exact λ_=>Pj
  ·intro _ _ _ a b f;have f:=bO f;exact LP (a f.1) (b f.2)
  ·intro _ a f;exact LQ (a f)
  ·intro _ _ _ a b f;have f:=bO f;exact LR (a f.1) (b f.2)
  ·intro _ _ _ _ _ a b c f;have f:=nD f;exact LS (a f.1.1) (b f.1.2) (c f.2)
  ·intro _ _ a b f;have f:=bO f;exact v_and (a f.1) (b f.2)
  ·intro _ _ a b f;have f:=bO f;exact v_or (a f.1) (b f.2)
  ·intro _ a f;exact v_not (a f)
  ·intro _ _ _ a b c f;have f:=nD f;exact v_ite (a f.1.1) (b f.1.2) (c f.2)
  ·intro _ a f;exact LU (a f)
  ·intro _ a f;exact LW (a f)
  ·intro _ _ a b f;have f:=bO f;exact LX (a f.1) (b f.2)
  ·intro _ _ _ a b c f;have f:=nD f;exact LY (a f.1.1) (b f.1.2) (c f.2)
  ·intro _ _ a f;exact Iz hΦ (a f)
  ·intro _ _ a f;exact L5 (a f)
  ·intro _ _ _ a b f;have f:=bO f;exact L6 (a f.1) (b f.2)
  ·intro _ _ _ _ _ _ _ a b c f;have f:=nD f;exact ID (a f.1.1) (b f.1.2) (c f.2)
  ·exact λ_=>Iq
  ·intro _ a f;exact Iw (a f)
  ·intro _ _ _ a b c f;have f:=nD f;exact Iu (a f.1.1) (b f.1.2) (c f.2)
  ·intro _ _ a b f;have f:=bO f;exact Ir (a f.1) (b f.2)
  ·intro _ a f;exact Dy (a f)
  ·intro _ _ _ _ _ _ f;exact nomatch (show false=true from f)
  ·intro _ _ f;exact nomatch (show false=true from f)
  ·intro _ a f;exact Dz (a f)
  ·intro _ _ _ a f;exact L3 (a f)
  ·intro _ _ _ _ a b f;have f:=bO f;exact L4 hΦ (a f.1) (b f.2)
  ·intro _ _ a b f;have f:=bO f;exact LZ (a f.1) (b f.2)
  ·intro _ _ _ _ _ _ a b f;have f:=bO f;exact Iv (a f.1) (b f.2)
  ·intro _ _ _ a f;exact LV (a f)
  ·exact λ_=>EM
  ·intro _ _ a b f;have f:=bO f;exact AQ (a f.1) (b f.2)
 refine⟨one,λdh=>?_⟩
 induction dh using jt.rec (motive_1:=λ_=>True) with
 |nil=>exact λ_=>EM
 |cons e es _ ih=>exact λf=>by have f:=bO f;exact AQ (one e f.1) (ih f.2)
 |_=>trivial
end
section
variable {A A':AP} {h h':Hs}
mutual
theorem Dn.move(hn:A none->A' none)(hh:∀(i:Nat) (o:Ob),A (some i)->h[i]?=some o->A' (some i)/\h'[i]?=some o):∀(d v:Val),Dn A h d v->Dn A' h' d v
 |.non,v,e=>by rw[Dn]at e |-;exact e
 |.bl _,v,e=>by rw[Dn]at e |-;exact e
 |.int _,v,e=>by rw[Dn]at e |-;exact e
 |.str _,v,e=>by rw[Dn]at e |-;exact e
 | .tup ds,v,e=>by
  rw[Dn]at e |-;obtain⟨vs,rfl,q⟩:=e;exact⟨vs,rfl,ao.move hn hh ds vs q⟩
 | .rl ds,v,e=>by
  rw[Dn]at e |-
  rcases e with ⟨vs,rfl,n,q⟩|⟨i,vs,rfl,a,g,q⟩
  ·exact .inl ⟨vs,rfl,hn n,ao.move hn hh ds vs q⟩
  ·exact .inr ⟨i,vs,rfl,(hh i _ a g).1,(hh i _ a g).2,ao.move hn hh ds vs q⟩
 | .dc ks ds,v,e=>by
  rw[Dn]at e |-;obtain⟨i,kvs,rfl,a,g,k,q⟩:=e;exact⟨i,kvs,rfl,(hh i _ a g).1,(hh i _ a g).2,k,ao.move hn hh ds _ q⟩
 | .ob c xs ds,v,e=>by
  rw[Dn]at e |-;obtain⟨i,kvs,rfl,a,g,k,q⟩:=e;exact⟨i,kvs,rfl,(hh i _ a g).1,(hh i _ a g).2,k,ao.move hn hh ds _ q⟩
 |.ref _,v,e=>by rw[Dn]at e;exact e.elim
theorem ao.move(hn:A none->A' none)(hh:∀(i:Nat) (o:Ob),A (some i)->h[i]?=some o->A' (some i)/\h'[i]?=some o):∀(ds vs:List Val),ao A h ds vs->ao A' h' ds vs
 |[],vs,e=>by rw[ao]at e |-;exact e
 | d::ds,vs,e=>by
  rw[ao]at e |-;obtain⟨v,r,rfl,q1,q2⟩:=e;exact⟨v,r,rfl,Dn.move hn hh d v q1,ao.move hn hh ds r q2⟩
end
end
def Al(A0:AP)(O:Nat->Option Nat):AP:=λo=>A0 o/\∀i,o.isSome=true->O i≠o
structure SR (A0:AP) (h0:Hs) (aa:aD) (env:Env) (h:Hs) (O:Nat->Option Nat):Prop where
 len:aa.length=env.length
 sh:∀(i:Nat) (m:Mk) (d:Val),aa[i]?=some (some (m,d))->qK m=true->∃v,env[i]?=some (some v)/\Dn (Al A0 O) h d v/\(JZ m=true->Dn (Al (Fr h0.length) O) h d v)
 ow:∀(i:Nat) (d:Val),aa[i]?=some (some (.ow,d))->∃a,env[i]?=some (some (.ref a))/\O i=some a/\OD (Al A0 O) h d a
 own:∀i a,O i=some a->h0.length<=a/\a<h.length/\∃d,aa[i]?=some (some (.ow,d))
 inj:∀i j a,O i=some a->O j=some a->i=j
 pre:h0<+:h
 up:Up A0 h0
structure Fm (m:List Nat) (aa:aD) (env:Env) (h:Hs) (O:Nat->Option Nat) (ak:aD) (env':Env) (h':Hs) (O':Nat->Option Nat):Prop where
 le:h.length<=h'.length
 keep:∀k,k<h.length->(∀i,O i≠some k)->h'[k]?=h[k]?/\∀i,O' i≠some k
 stay:∀i,i∉m->O' i=O i/\ak[i]?=aa[i]?/\env'[i]?=env[i]?/\∀a,O i=some a->h'[a]?=h[a]?
def RF(A0:AP)(h0:Hs)(m:List Nat)(aa:aD)(env:Env)(h:Hs)(O:Nat->Option Nat):qv->Hs->Fl->Prop
 |.nx ak,h',.nx env'=>∃O',SR A0 h0 ak env' h' O'/\Fm m aa env h O ak env' h' O'
 |.bk ak,h',.bk env'=>∃O',SR A0 h0 ak env' h' O'/\Fm m aa env h O ak env' h' O'
 |.ct ak,h',.ct env'=>∃O',SR A0 h0 ak env' h' O'/\Fm m aa env h O ak env' h' O'
 |.rt p,h',.rt v=>Dn A0 h' p.2 v/\(p.1=true->Dn (Fr h0.length) h' p.2 v)/\h0<+:h'
 |_,_,_=>False
def fq(A0:AP)(h0:Hs){α β:Type}(R:α -> Hs -> β -> Prop)(o:Out β):Pr α -> Prop
 |.ok f=>∃g h',o=.ok g h'/\R f h' g
 |.exc c es=>∃ws h',o=.exc c ws h'/\h0<+:h'/\ao A0 h' es ws
 |.no=>True
section
variable {A0:AP} {h0:Hs} {aa:aD} {env:Env} {h h1:Hs} {O:Nat->Option Nat} {m:List Nat}
theorem SR.er(s:SR A0 h0 aa env h O):ER (Al A0 O) aa env h:=λi f d e=>by
 cases f with
 |ow=>rw[T4 (show qK .ow=false by decide)];obtain⟨a,k2,_,k3⟩:=s.ow i d e;exact⟨a,k2,k3⟩
 |sh=>rw[TX (by decide)];obtain⟨v,k1,k2,_⟩:=s.sh i _ d e rfl;exact⟨v,k1,k2⟩
 |nw=>rw[TX (by decide)];obtain⟨v,k1,k2,_⟩:=s.sh i _ d e rfl;exact⟨v,k1,k2⟩
theorem SR.yt(s:SR A0 h0 aa env h O):Up (Al A0 O) h:=λk hk=>⟨s.up k (Ut s.pre.length_le hk),λi _ e=>by have:=(s.own i k e).2.1;omega⟩
theorem SR.ext(s:SR A0 h0 aa env h O)(p:h<+:h1):SR A0 h0 aa env h1 O where
 len:=s.len
 sh i m d e hm:=by obtain⟨v,k1,k2,k3⟩:=s.sh i m d e hm;exact⟨v,k1,k2.ext p,λz=>(k3 z).ext p⟩
 ow i d e:=by obtain⟨a,k2,k3,k4⟩:=s.ow i d e;exact⟨a,k2,k3,k4.ext p⟩
 own i a e:=by obtain⟨k1,k2,k3⟩:=s.own i a e;exact⟨k1,TY k2 p.length_le,k3⟩
 inj:=s.inj
 pre:=s.pre.trans p
 up:=s.up
theorem gj(p:h<+:h1){k:Nat}(hk:k<h.length):h1[k]?=h[k]?:=by
 obtain⟨t,rfl⟩:=p;rw[Ua hk]
theorem Fm.refl(s:SR A0 h0 aa env h O)(p:h<+:h1):Fm m aa env h O aa env h1 O where
 le:=p.length_le
 keep k hk n:=⟨gj p hk,n⟩
 stay i _:=⟨rfl,rfl,rfl,λa e=>gj p (s.own i a e).2.1⟩
theorem Fm.trans{j5 gk:aD}{qC fX:Env}{h2:Hs}{O1 O2:Nat->Option Nat}(a:Fm m aa env h O j5 qC h1 O1)(b:Fm m j5 qC h1 O1 gk fX h2 O2):Fm m aa env h O gk fX h2 O2 where
 le:=Ut a.le b.le
 keep k hk n:=by obtain⟨a1,a2⟩:=a.keep k hk n;obtain⟨b1,b2⟩:=b.keep k (TY hk a.le) a2;exact⟨b1.trans a1,b2⟩
 stay i hi:=by obtain⟨a1,a2,a3,a4⟩:=a.stay i hi;obtain⟨b1,b2,b3,b4⟩:=b.stay i hi;exact⟨b1.trans a1,b2.trans a2,b3.trans a3,λc e=>(b4 c (a1.trans e)).trans (a4 c e)⟩
theorem Fm.dB{m':List Nat}(hm:∀i∈m,i∈m')(a:Fm m aa env h O ak env' h1 O'):Fm m' aa env h O ak env' h1 O':=⟨a.le,a.keep,λi hi=>a.stay i λz=>hi (hm i z)⟩
theorem RF.pre(s:SR A0 h0 aa env h O)(p:h<+:h1)(r:RF A0 h0 m aa env h1 O f h' g):RF A0 h0 m aa env h O f h' g:=by
 cases f<;>cases g<;>first|exact r.elim|exact r|(obtain⟨O',a,b⟩:=r;exact⟨O',a,(Fm.refl s p).trans b⟩)
theorem RF.dB{m':List Nat}(hm:∀i∈m,i∈m')(r:RF A0 h0 m aa env h O f h' g):RF A0 h0 m' aa env h O f h' g:=by
 cases f<;>cases g<;>first|exact r.elim|exact r|(obtain⟨O',a,b⟩:=r;exact⟨O',a,b.dB hm⟩)
theorem RF.seq{j5:aD}{qC:Env}{O1:Nat->Option Nat}(a:Fm m aa env h O j5 qC h1 O1)(r:RF A0 h0 m j5 qC h1 O1 f h' g):RF A0 h0 m aa env h O f h' g:=by
 cases f<;>cases g<;>first|exact r.elim|exact r|(obtain⟨O',b,c⟩:=r;exact⟨O',b,a.trans c⟩)
theorem bD{α β γ δ:Type}{R:α -> Hs -> β -> Prop}{R':γ -> Hs -> δ -> Prop}{mm:M β}{f:β -> M δ}{p:Pr α}{F:α -> Pr γ}(s:SR A0 h0 aa env h O)(r:Rel (Al A0 O) h R (mm h) p)(k:∀a h1 b,h<+:h1->R a h1 b->fq A0 h0 R' (f b h1) (F a)):fq A0 h0 R' (bnd mm f h) (pb p F):=by
 unfold bnd;cases p with
 |ok a=>obtain⟨b,h1,e,q,r⟩:=r;rw[e];exact k a h1 b q r
 |exc c es=>obtain⟨ws,h1,e,q,r⟩:=r;rw[e];exact⟨ws,h1,rfl,s.pre.trans q,r.dB λ_ z=>z.1⟩
 |no=>trivial
theorem aT{α β:Type}{R:α -> Hs -> β -> Prop}{a:α}{b:β}(r:R a h b):fq A0 h0 R (ret b h) (.ok a):=⟨b,h,rfl,r⟩
theorem gm{α β:Type}{R R':α -> Hs -> β -> Prop}{o:Out β}{p:Pr α}(r:fq A0 h0 R o p)(k:∀a h' b,R a h' b->R' a h' b):fq A0 h0 R' o p:=by
 cases p with
 |ok a=>obtain⟨b,h',e,r⟩:=r;exact⟨b,h',e,k a h' b r⟩
 |exc c es=>exact r
 |no=>trivial
theorem nG{α β γ δ:Type}{R:α -> Hs -> β -> Prop}{R':γ -> Hs -> δ -> Prop}{mm:M β}{f:β -> M δ}{p:Pr α}{F:α -> Pr γ}(r:fq A0 h0 R (mm h) p)(k:∀a h1 b,R a h1 b->fq A0 h0 R' (f b h1) (F a)):fq A0 h0 R' (bnd mm f h) (pb p F):=by
 unfold bnd;cases p with
 |ok a=>obtain⟨b,h1,e,r⟩:=r;rw[e];exact k a h1 b r
 |exc c es=>obtain⟨ws,h1,e,q,r⟩:=r;rw[e];exact⟨ws,h1,rfl,q,r⟩
 |no=>trivial
theorem iS{α β:Type}{R:α -> Hs -> β -> Prop}{c:Bool}{o:Out β}{p:Pr α}(r:c=true->fq A0 h0 R o p):fq A0 h0 R o (pg c p):=by
 unfold pg;cases c with
 |true=>rw[T4 rfl];exact r rfl
 |false=>rw[TX TH];trivial
def eB(O:Nat->Option Nat)(i:Nat):Nat->Option Nat:=λj=>if j=i then none else O j
theorem l7:Al A0 O none->Al A0 O none:=id
theorem iD:Al A0 O none->Al A0 O' none:=λh=>⟨h.1,λ_ z=>by cases z⟩
theorem gM{i:Nat}:∀k,Al A0 O k->Al A0 (eB O i) k:=λk ⟨a,b⟩=>⟨a,λj z=>by unfold eB;split;(cases k<;>simp_all);exact b j z⟩
theorem SR.setM(s:SR A0 h0 aa env h O){i:Nat}{mk:Mk}{d v:Val}(R9:qK mk=true)(q:Dn (Al A0 O) h d v)(qn:JZ mk=true->Dn (Al (Fr h0.length) O) h d v):SR A0 h0 (aa.set i (some (mk,d))) (env.set i (some v)) h (eB O i)/\Fm [i] aa env h O (aa.set i (some (mk,d))) (env.set i (some v)) h (eB O i):=by
 refine⟨⟨by simp[s.len],λj m' d' e hm'=>?_,λj d' e=>?_,λj a e=>?_,λj l a e1 e2=>?_,s.pre,s.up⟩,TV _,λk hk n=>⟨rfl,λj=>?_⟩,λj hj=>?_⟩
 ·by_cases hij:i=j
  ·subst hij
   have hi:i<aa.length:=by have:=(TJ.mp e).1;simpa using this
   rw[T5 hi]at e;cases e;exact⟨v,by rw[T5 (by rw[<-s.len];exact hi)],q.dB gM,λz=>(qn z).dB gM⟩
  ·rw[TN hij]at e;rw[TN hij];obtain⟨w,k1,k2,k3⟩:=s.sh j m' d' e hm';exact⟨w,k1,k2.dB gM,λz=>(k3 z).dB gM⟩
 ·by_cases hij:i=j
  ·subst hij
   have hi:i<aa.length:=by have:=(TJ.mp e).1;simpa using this
   rw[T5 hi]at e;cases e;cases R9
  ·rw[TN hij]at e;rw[TN hij];obtain⟨a,k2,k3,k4⟩:=s.ow j d' e;exact⟨a,k2,by unfold eB;rw[TX (λz=>hij z.symm)];exact k3,k4.mono (λ_ g=>g) λ_ _ z=>z.dB gM⟩
 ·unfold eB at e
  split at e
  ·cases e
  ·rename_i hj;obtain⟨k1,k2,d',k3⟩:=s.own j a e;exact⟨k1,k2,d',by rw[TN (λz=>hj z.symm)];exact k3⟩
 ·unfold eB at e1 e2
  split at e1
  ·cases e1
  ·split at e2
   ·cases e2
   ·exact s.inj j l a e1 e2
 ·unfold eB;split;simp;exact n j
 ·have hj':j≠i:=by simpa using hj
  exact⟨by unfold eB;rw[TX hj'],TN (λz=>hj' z.symm),TN (λz=>hj' z.symm),λ_ _=>rfl⟩
theorem SR.set(s:SR A0 h0 aa env h O){i:Nat}(q:Dn (Al A0 O) h d v):SR A0 h0 (aa.set i (some (.sh,d))) (env.set i (some v)) h (eB O i)/\Fm [i] aa env h O (aa.set i (some (.sh,d))) (env.set i (some v)) h (eB O i):=s.setM rfl q λz=>nomatch z
theorem SR.binds:∀{is:List Nat} {ds vs:List Val} {aa:aD} {env:Env} {O:Nat->Option Nat} {ak:aD},SR A0 h0 aa env h O->aS is ds aa=some ak->ao (Al A0 O) h ds vs ->
  ∃env' O',bindAll is vs env=some env'/\SR A0 h0 ak env' h O'/\Fm is aa env h O ak env' h O'
 | [],[],vs,aa,env,O,ak,s,e,q=>by
  rw[ao]at q;subst q;simp only[aS]at e;cases e;exact⟨env,O,rfl,s,Fm.refl s (Uc _)⟩
 | i::is,d::ds,vs,aa,env,O,ak,s,e,q=>by
  rw[ao]at q;obtain⟨v,r,rfl,q1,q2⟩:=q;simp only[aS]at e;obtain⟨s1,f1⟩:=s.set (i:=i) q1;obtain⟨env',O',b1,b2,b3⟩:=SR.binds s1 e (q2.dB gM);refine⟨env',O',by simp only[bindAll];exact b1,b2,(f1.dB λj hj=>?_).trans (b3.dB λj hj=>TM _ hj)⟩;rw[Ue.mp hj];exact TU
 |[],_::_,_,_,_,_,_,_,e,_=>by simp[aS]at e
 |_::_,[],_,_,_,_,_,_,e,_=>by simp[aS]at e
theorem SR.bind(s:SR A0 h0 aa env h O)(e:dM p d aa=some ak)(q:Dn (Al A0 O) h d v):∃env' O',fc p v env=some env'/\SR A0 h0 ak env' h O'/\Fm (stored p) aa env h O ak env' h O':=by
 cases p with
 |one i=>simp only[dM]at e;cases e;obtain⟨s1,f1⟩:=s.set (i:=i) q;exact⟨_,_,rfl,s1,f1⟩
 |tup is=>
  cases d<;>simp only[dM]at e<;>first|(cases e;done)|skip
  rw[Dn]at q;obtain⟨vs,rfl,q⟩:=q;exact s.binds e q
theorem DA{a:Nat}(p:h0<+:h)(ha:h0.length<=a):h0<+:h.set a o:=by
 obtain⟨t,rfl⟩:=p;rw[List.set_append_right _ _ ha];exact UX _ _
theorem SR.put(s:SR A0 h0 aa env h O){i a:Nat}{d d1:Val}(e:aa[i]?=some (some (.ow,d)))(ha:O i=some a)(q:OB (Al A0 O) h d1 ob) :
  SR A0 h0 (aa.set i (some (.ow,d1))) env (h.set a ob) O/\Fm [i] aa env h O (aa.set i (some (.ow,d1))) env (h.set a ob) O:=by
 obtain⟨o1,o2,_⟩:=s.own i a ha;have hi:i<aa.length:=(TJ.mp e).1;have mv:∀{A0:AP} (k:Nat) (o:Ob),Al A0 O k->h[k]?=some o->Al A0 O k/\(h.set a ob)[k]?=some o:=λk o hk g=>⟨hk,by rw[TN λz=>hk.2 i rfl (by rw[<-z];exact ha)];exact g⟩;obtain⟨a0,e2,e3,_⟩:=s.ow i d e;refine⟨⟨by simp[s.len],λj m' d' ej hm'=>?_,λj d' ej=>?_,λj b ej=>?_,s.inj,DA s.pre o1,s.up⟩,by simp,λk hk n=>⟨?_,n⟩,λj hj=>?_⟩
 ·by_cases hij:i=j
  ·subst hij;rw[T5 hi]at ej;cases ej;cases hm'
  ·rw[TN hij]at ej;obtain⟨w,k1,k2,k3⟩:=s.sh j m' d' ej hm';exact⟨w,k1,Dn.move l7 mv _ _ k2,λz=>Dn.move l7 mv _ _ (k3 z)⟩
 ·by_cases hij:i=j
  ·subst hij;rw[T5 hi]at ej;cases ej;rw[ha]at e3;cases e3;exact⟨a,e2,ha,q.od (by rw[T5 o2]) λ_ _ z=>ao.move l7 mv _ _ z⟩
  ·rw[TN hij]at ej;obtain⟨a1,k2,k3,k4⟩:=s.ow j d' ej;have:a≠a1:=λz=>hij (s.inj i j a ha (by rw[z];exact k3));exact⟨a1,k2,k3,k4.mono (λ_ g=>by rw[TN this];exact g) λ_ _ z=>ao.move l7 mv _ _ z⟩
 ·obtain⟨k1,k2,d',k3⟩:=s.own j b ej
  refine⟨k1,by simp[k2],?_⟩
  by_cases hij:i=j
  ·subst hij;exact⟨_,by rw[T5 hi]⟩
  ·exact⟨d',by rw[TN hij];exact k3⟩
 ·rw[TN λz=>n i (by rw[<-z];exact ha)]
 ·have hj':j≠i:=by simpa using hj
  exact⟨rfl,TN (λz=>hj' z.symm),rfl,λb eb=>by rw[TN λz=>hj' (s.inj j i b eb (by rw[<-z];exact ha))]⟩
def oq(O:Nat->Option Nat)(i a:Nat):Nat->Option Nat:=λj=>if j=i then some a else O j
theorem SR.fresh(s:SR A0 h0 aa env h O){i:Nat}{d1:Val}{h2:Hs}(p:h<+:h2)(q:OB (Al A0 O) h2 d1 ob) :
  SR A0 h0 (aa.set i (some (.ow,d1))) (env.set i (some (.ref h2.length))) (h2++[ob]) (if i<aa.length then oq O i h2.length else eB O i) /\
   Fm [i] aa env h O (aa.set i (some (.ow,d1))) (env.set i (some (.ref h2.length))) (h2++[ob]) (if i<aa.length then oq O i h2.length else eB O i):=by
 have pp:h<+:h2++[ob]:=p.trans (UX _ _);have s2:=s.ext p;have mv:∀{A0:AP} (j:Nat),∀(k:Nat) (o:Ob),Al A0 O k->h2[k]?=some o->Al A0 (if i<aa.length then oq O i h2.length else eB O i) k/\(h2++[ob])[k]?=some o:=λ{A0} j k o hk g=>by
  have hlt:k<h2.length:=(TJ.mp g).1;refine⟨?_,by rw[Ua hlt];exact g⟩
  split
  ·refine⟨hk.1,λl _=>?_⟩
   unfold oq
   split
   ·intro z;cases z;omega
   ·exact hk.2 l rfl
  ·exact gM k hk
 by_cases hi:i<aa.length
 ·rw[T4 hi]at mv |-
  refine⟨⟨by simp[s.len],λj m' d' ej hm'=>?_,λj d' ej=>?_,λj b ej=>?_,λj l b e1 e2=>?_,s.pre.trans pp,s.up⟩,pp.length_le,λk hk n=>⟨gj pp hk,λl=>?_⟩,λj hj=>?_⟩
  ·by_cases hij:i=j
   ·subst hij;rw[T5 hi]at ej;cases ej;cases hm'
   ·rw[TN hij]at ej;rw[TN hij];obtain⟨w,k1,k2,k3⟩:=s2.sh j m' d' ej hm';exact⟨w,k1,Dn.move iD (mv 0) _ _ k2,λz=>Dn.move iD (mv 0) _ _ (k3 z)⟩
  ·by_cases hij:i=j
   ·subst hij;rw[T5 hi]at ej;cases ej;exact⟨h2.length,by rw[T5 (by rw[<-s.len];exact hi)],by unfold oq;rw[T4 rfl],q.od (by simp) λ_ _ z=>ao.move iD (mv 0) _ _ z⟩
   ·rw[TN hij]at ej;rw[TN hij];obtain⟨a1,k2,k3,k4⟩:=s2.ow j d' ej;have hlt:a1<h2.length:=k4.lt;exact⟨a1,k2,by unfold oq;rw[TX λz=>hij z.symm];exact k3,k4.mono (λ_ g=>by rw[Ua hlt];exact g) λ_ _ z=>ao.move iD (mv 0) _ _ z⟩
  ·unfold oq at ej
   split at ej
   ·rename_i hj;cases ej;subst hj;exact⟨Ut s.pre.length_le p.length_le,by simp,_,by rw[T5 hi]⟩
   ·rename_i hj;obtain⟨k1,k2,d',k3⟩:=s2.own j b ej;exact⟨k1,by simp;omega,d',by rw[TN λz=>hj z.symm];exact k3⟩
  ·unfold oq at e1 e2
   split at e1
   ·rename_i h1;cases e1
    split at e2
    ·rename_i h3;rw[h1,h3]
    ·have:=(s2.own l _ e2).2.1;omega
   ·split at e2
    ·cases e2;have:=(s2.own j _ e1).2.1;omega
    ·exact s.inj j l b e1 e2
  ·unfold oq;split
   ·intro z;cases z;have:=p.length_le;omega
   ·exact n l
  ·have hj':j≠i:=by simpa using hj
   exact⟨by unfold oq;rw[TX hj'],TN (λz=>hj' z.symm),TN (λz=>hj' z.symm),λb eb=>gj pp (s.own j b eb).2.1⟩
 ·rw[TX hi]at mv |-
  have e1:aa.set i (some (.ow,d1))=aa:=List.set_eq_of_length_le (by omega);have e2:env.set i (some (.ref h2.length))=env:=List.set_eq_of_length_le (by rw[<-s.len];omega);have e3:eB O i=O:=by
   funext j;unfold eB;split
   ·rename_i hj;subst hj
    cases e:O j with
    |none=>rfl
    |some a=>obtain⟨_,_,d,k⟩:=s.own j a e;exact absurd (TJ.mp k).1 hi
   ·rfl
  rw[e1,e2,e3];exact⟨s.ext pp,Fm.refl s pp⟩
end
section
variable {Φ:Nat->List Val->M Val} {Ψ:Nat->List Val->Pr FV} {A:AP} {h h1:Hs}
def isRef:Val->Bool
 |.rl _=>true
 |.dc _ _=>true
 |_=>false
def RN(A:AP)(h:Hs):FV->Hs->Val->Prop:=λx h' v=>isRef x.2=true->∃h2 o,h'=h2++[o]/\v=.ref h2.length/\h<+:h2/\OB A h2 x.2 o
def EN(Φ:Nat->List Val->M Val)(Ψ:Nat->List Val->Pr FV)(ir:IE):Prop:=∀(aa:aD) (env:Env) (A:AP) (h:Hs),Up A h->ER A aa env h->Rel A h (RN A h) (aG Φ ir env h) (aX Ψ ir aa)
theorem iE{f:Bool}{h0:Hs}(p:h0<+:h)(q:ao A h xs vs):Rel A h (RN A h0) (new (.lst vs) h) (.ok (f,.rl xs)) :=
 ⟨_,_,rfl,cA _,λ_=>⟨h,.lst vs,rfl,rfl,p,vs,rfl,q⟩⟩
theorem IF:EN Φ Ψ .dct0:=λaa env A h u e=>by
 rw[aG,aX];exact⟨_,_,rfl,cA _,λ_=>⟨h,.dct [],rfl,rfl,Uc _,[],rfl,rfl,ao.nil⟩⟩
theorem IG(hk:aU Φ Ψ k)(hv:aU Φ Ψ v):EN Φ Ψ (.dct1 k v):=λaa env A h u e=>by
 rw[aG,aX];refine ah (hk aa env A h u e) λx h1 w p1 q1=>ah (R:=λkk _ kk'=>kk'=kk) (aQ λkk ek=>⟨kk,nv q1.1 ek,rfl⟩) λkk h2 kk' p2 hkk=>?_;subst hkk;refine ah (hv aa env A h2 ((u.ext p1).ext p2) ((e.ext p1).ext p2)) λy h3 z p3 q3=>ah (R:=λkk _ kk'=>kk'=kk) (aQ λkk ek=>⟨kk,nv q3.1 ek,rfl⟩) λk2 h4 k2' p4 hk2=>?_;subst hk2;have p:=((p1.trans p2).trans p3).trans p4
 by_cases ce:kk'=k2'
 ·subst ce;rw[wo,wz];exact⟨_,_,rfl,cA _,λ_=>⟨h4,.dct [(kk',.bl true)],rfl,rfl,p,[(kk',.bl true)],rfl,rfl,ao.cons qB ao.nil⟩⟩
 ·rw[wu ce,wB ce];exact⟨_,_,rfl,cA _,λ_=>⟨h4,.dct [(kk',.bl true),(k2',.bl true)],rfl,rfl,p,[(kk',.bl true),(k2',.bl true)],rfl,rfl,ao.cons qB (ao.cons qB ao.nil)⟩⟩
theorem L7(hs:iW Φ Ψ es):EN Φ Ψ (.lst es):=λaa env A h u e=>by
 rw[aG,aX];exact ah (hs.1 aa env A h u e) λx h1 vs p1 q1=>bF (λz=>by rw[<-q1.1.length];exact z) λ_=>iE p1 q1.1
theorem L8(ha:aU Φ Ψ a)(hl:aU Φ Ψ lo)(hh:aU Φ Ψ hi):EN Φ Ψ (.slc a lo hi):=λaa env A h u e=>by
 rw[aG,aX];refine ah (nE ha u e) λx h1 v p1 q1=>ah (jZ hl (u.ext p1) (e.ext p1)) λl h2 l' p2 el=>ah (jZ hh ((u.ext p1).ext p2) ((e.ext p1).ext p2)) λr h3 r' p3 er=>?_;subst el;subst er;have q1:=DB.ext (p2.trans p3) q1;obtain⟨f,d⟩:=x;cases d with
 |tup ds=>obtain⟨vs,rfl,q⟩:=DB.tup q1;have l:=q.length;simp only[yr,n9];exact bF (λz=>by rw[l]at z;exact z) λ_=>au λe=>by cases e
 |rl ds=>
  obtain⟨vs,e1,q⟩:=DB.lst q1;have ev:n9 v l' r' h3=new (.lst (eE vs l' r')) h3:=by
   have:n9 v l' r'=bnd (ask λh=>az h v) λxs=>new (.lst (eE xs l' r')):=by cases v<;>simp only[az]at e1<;>first|(cases e1;done)|rfl
   rw[this];unfold bnd ask aN;dsimp only;rw[e1]
  rw[ev];exact iE ((p1.trans p2).trans p3) (q.cut l' r')
 |_=>trivial
theorem II(hs:iW Φ Ψ es):EN Φ Ψ (.blt .list es):=λaa env A h u e=>by
 rw[aG,aX];refine ah (hs.2 aa env A h u e) λds h1 vs p1 q1=>?_
 match ds,q1 with
 |[],q1=>trivial
 |[d],q1=>obtain⟨v,rfl,hv⟩:=q1.one;exact ah (R:=λxs h' ws=>ao A h' xs ws) (cV λxs e=>hv.seq e) λxs h2 ws p2 q=>iE (p1.trans p2) q
 |_::_::_,_=>trivial
theorem AR(hs:iW Φ Ψ es):EN Φ Ψ (.blt .sorted es):=λaa env A h u e=>by
 rw[aG,aX];refine ah (hs.2 aa env A h u e) λds h1 vs p1 q1=>?_
 match ds,q1 with
 |[],q1=>trivial
 |[d],q1=>
  obtain⟨v,rfl,hv⟩:=q1.one;cases d<;>first|trivial|skip
  rename_i xs;obtain⟨ws,e1,q⟩:=hv.lst;have ev:bnd (ask λh=>az h v) (λxs=>bnd (aN (eY xs)) λys=>new (.lst ys)) h1=bnd (aN (eY ws)) (λys=>new (.lst ys)) h1:=by unfold bnd ask aN;dsimp only;rw[e1]
  show Rel A h1 (RN A h) (bnd (ask λh=>az h v) (λxs=>bnd (aN (eY xs)) λys=>new (.lst ys)) h1) _;rw[ev];refine ah (R:=λys _ zs=>zs=ys/\aR ys=true) (aQ λys e=>?_) λys h2 zs p2 hz=>?_
  ·obtain⟨i1,i2⟩:=pG e;rw[(aL xs ws i1).mp q];exact⟨ys,e,rfl,i2⟩
  ·obtain⟨rfl,hi⟩:=hz;exact iE (p1.trans p2) ((aL _ _ hi).mpr rfl)
 |x::_::_,_=>cases x<;>trivial
theorem IJ(hs:iW Φ Ψ it)(hc:aU Φ Ψ c)(he:aU Φ Ψ elt):EN Φ Ψ (.comp N js pat k it c elt):=λaa env A h u e=>by
 rw[aG,aX];refine ah (hs.2 aa env A h u e) λds h1 vs p1 q1=>ah (wD q1) λxs h2 src p2 q2=>?_;obtain⟨ws,q3,q4⟩:=q2;have l:=q3.length;have ev:∀(F:List Val->M Val),bnd (ask λh=>src.items h) F h2=F ws h2:=λF=>by unfold bnd ask aN;dsimp only;rw[q4 h2 (Uc _)]
 rw[ev];refine bF (λz=>by rw[<-l];exact z) λ_=>?_;have u2:=(u.ext p1).ext p2;have e2:=(e.ext p1).ext p2;refine ah (nF (hb:=h) xs ws 0 [] h2 (p1.trans p2) u2 q4 rfl q3 λx v h' p' qx=>?_) λp h3 ys p3 hp=>?_
 ·refine ah (R:=λak _ env'=>∃_:ER A ak env' h',True) (aQ λak ev'=>?_) λak h4 env' p4 he'=>?_
  ·obtain⟨env',a1,a2⟩:=sP ev' qx (wG (e2.ext p')) (by simp[jX,iw]);exact⟨env',a1,a2,trivial⟩
  ·obtain⟨er,_⟩:=he'
   have er:=er.ext p4;have u4:=(u2.ext p').ext p4;have LI:Rel A h4 (λt _ t'=>t'=t) ((if cy c=true then ret true else bnd (aG Φ c env') λv=>ask λh=>cG h v) h4) (if cy c=true then .ok true else pb (aX Ψ c ak) λv=>pl (cG [] v.2)):=by
    by_cases hn:cy c=true
    ·rw[T4 hn,T4 hn];exact au rfl
    ·rw[TX hn,TX hn];exact ah (hc ak env' A h4 u4 er) λy h5 w p5 q5=>cV λt et=>⟨t,qy q5.br et,rfl⟩
   refine ah LI λt h5 t' p5 et=>?_;subst et;cases t' with
   |true=>rw[T4 rfl,T4 rfl];exact ah (he ak env' A h5 (u4.ext p5) (er.ext p5)) λy h6 w p6 q6=>au (q6.up ((p1.trans p2).trans (p'.trans (p4.trans p5))))
   |false=>rw[TX TH,TX TH];exact au trivial
 ·obtain⟨zs,rfl,z1,z2⟩:=hp;exact iE ((p1.trans p2).trans p3) z1
theorem Ma(hΦ:∀j,Imp (Φ j) (Ψ j))(hf:Pf e=true)(ho:ck e=true):EN Φ Ψ e:=by
 have V:=v_all hΦ;cases e<;>first|(cases hf;done)|skip
 ·exact L7 (V.2 _ ho)
 ·have ho:=nD ho;exact L8 (V.1 _ ho.1.1) (V.1 _ ho.1.2) (V.1 _ ho.2)
 ·rename_i b es
  change j0 _=true at ho;cases b<;>first|(cases hf;done)|skip
  ·exact AR (V.2 _ ho)
  ·exact II (V.2 _ ho)
 ·have ho:=nD ho;exact IJ (V.2 _ ho.1.1) (V.1 _ ho.1.2) (V.1 _ ho.2)
 ·exact IF
 ·have ho:=bO ho;exact IG (V.1 _ ho.1) (V.1 _ ho.2)
mutual
noncomputable def Pk:IS->Bool
 |.expr e=>ck e
 |.asg _ e=>ck e
 |.aug _ _ e=>ck e
 |.iu o i v=>ck o&&ck i&&ck v
 |.iff c a b=>ck c&&lP a&&lP b
 |.for _ _ it b=>j0 it&&lP b
 |.whl _ c b=>ck c&&lP b
 |.ret e=>ck e
 |_=>true
noncomputable def lP:gc->Bool
 |.nil=>true
 |.cons s r=>Pk s&&lP r
end
def mS(s:IS):List Nat:=om s++lO s
def DC(s:gc):List Nat:=di s++jf s
variable {ms:List Nat}
def wH(Φ:Nat->List Val->M Val)(Ψ:Nat->List Val->Pr FV)(ms:List Nat)(s:IS):Prop:=∀(A0:AP) (h0:Hs) (aa:aD) (env:Env) (h:Hs) (O:Nat->Option Nat),SR A0 h0 aa env h O->fq A0 h0 (RF A0 h0 (mS s) aa env h O) (dg Φ s env h) (bU Ψ ms s aa)
def qD(Φ:Nat->List Val->M Val)(Ψ:Nat->List Val->Pr FV)(ms:List Nat)(s:gc):Prop:=∀(A0:AP) (h0:Hs) (aa:aD) (env:Env) (h:Hs) (O:Nat->Option Nat),SR A0 h0 aa env h O->fq A0 h0 (RF A0 h0 (DC s) aa env h O) (gf Φ s env h) (fk Ψ ms s aa)
theorem AS(he:aU Φ Ψ e)(hx:∀aa,bU Ψ ms (.expr e) aa=pb (aX Ψ e aa) λ_=>.ok (.nx aa)):wH Φ Ψ ms (.expr e):=λA0 h0 aa env h O s=>by
 rw[dg,hx];exact bD s (he aa env _ h s.yt s.er) λx h1 v p1 q1=>aT ⟨O,s.ext p1,Fm.refl s p1⟩
theorem aI{α β γ:Type}(m:M α)(f:α -> M β)(g:β -> M γ):bnd (bnd m f) g=bnd m λx=>bnd (f x) g:=by
 funext h;show (match (match m h with|.ok a h'=>f a h'|.exc c vs h'=>.exc c vs h'|.no=>.no) with|.ok a h'=>g a h'|.exc c vs h'=>.exc c vs h'|.no=>.no)=(match m h with|.ok a h'=>bnd (f a) g h'|.exc c vs h'=>.exc c vs h'|.no=>.no);cases m h<;>rfl
theorem bR{α β:Type}{m:M α}{f:α -> M β}{a:α}{h h1:Hs}(e:m h=.ok a h1):bnd m f h=f a h1:=by unfold bnd;rw[e]
theorem dY{i:Nat}(e:env[i]?=some (some v)):aG Φ (.var i) env h=.ok v h:=by rw[aG,e];rfl
theorem yu{i:Nat}(ha:aU Φ Ψ a):wH Φ Ψ ms (.expr (.met .append (.var i) #[a])):=λA0 h0 aa env h O s=>by
 rw[dg,bU];try dsimp only
 split
 ·rename_i ds hv
  obtain⟨b,e2,e3,vs,e4,e5⟩:=s.ow i _ hv;have ev:bnd (aG Φ (.met .append (.var i) #[a]) env) (λ_=>ret (Fl.nx env)) h=bnd (aG Φ a env) (λv=>bnd (met .append (.ref b) [v]) λ_=>ret (Fl.nx env)) h:=by
   rw[aG,aI,bR (dY e2)];rw[aI,bR (a:=()) (h1:=h) (by unfold ask aN;simp[recv,e4])];rw[aI,aZ,aI]
   congr 1
  rw[ev];refine bD s (ha aa env _ h s.yt s.er) λx h1 v p1 q1=>iS λhg=>?_;have s1:=s.ext p1;obtain⟨s2,f2⟩:=s1.put (d1:=.rl (ds++[x.2])) (ob:=.lst (vs++[v])) hv e3 ⟨_,rfl,(e5.ext p1).append (ao.cons q1.1 ao.nil)⟩;have l:=e5.length;refine⟨.nx env,h1.set b (.lst (vs++[v])),?_,O,s2,(Fm.refl s p1).trans (f2.dB λj hj=>?_)⟩
  ·have g:=cU p1 e4;unfold met bnd ask aN aF put ret;dsimp only;rw[g];dsimp only;rw[T4 (by rw[<-l];exact hg)]
  ·rw[Ue.mp hj];exact Vf _ TU
 ·trivial
theorem yv{i:Nat}(ha:aU Φ Ψ a):wH Φ Ψ ms (.expr (.met .extend (.var i) #[a])):=λA0 h0 aa env h O s=>by
 rw[dg,bU];try dsimp only
 split
 ·rename_i ds hv
  obtain⟨b,e2,e3,vs,e4,e5⟩:=s.ow i _ hv;have ev:bnd (aG Φ (.met .extend (.var i) #[a]) env) (λ_=>ret (Fl.nx env)) h=bnd (aG Φ a env) (λv=>bnd (met .extend (.ref b) [v]) λ_=>ret (Fl.nx env)) h:=by
   rw[aG,aI,bR (dY e2)];rw[aI,bR (a:=()) (h1:=h) (by unfold ask aN;simp[recv,e4])];rw[aI,aZ,aI]
   congr 1
  rw[ev];refine bD s (ha aa env _ h s.yt s.er) λx h1 v p1 q1=>?_;obtain⟨f,d⟩:=x;cases d<;>first|trivial|skip
  rename_i ts;have q:=q1.1;dsimp only at q;rw[Dn]at q;obtain⟨ws,rfl,q⟩:=q;refine iS λhg=>?_;have s1:=s.ext p1;obtain⟨s2,f2⟩:=s1.put (d1:=.rl (ds++ts)) (ob:=.lst (vs++ws)) hv e3 ⟨_,rfl,(e5.ext p1).append q⟩;have l:=e5.length;have l2:=q.length;refine⟨.nx env,h1.set b (.lst (vs++ws)),?_,O,s2,(Fm.refl s p1).trans (f2.dB λj hj=>?_)⟩
  ·have g:=cU p1 e4;unfold met bnd ask aN aF put ret rT;dsimp only;rw[g];dsimp only;rw[T4 (by rw[<-l,<-l2];exact hg)]
  ·rw[Ue.mp hj];exact Vf _ TU
 ·trivial
theorem DE(hΦ:∀j,Imp (Φ j) (Ψ j))(ho:ck e=true):wH Φ Ψ ms (.expr e):=by
 have V:=v_all hΦ;have gen:(∀aa,bU Ψ ms (.expr e) aa=pb (aX Ψ e aa) λ_=>.ok (.nx aa))->wH Φ Ψ ms (.expr e):=λhx=>AS (V.1 e ho) hx;cases e with
 |met m a es=>
  cases m with
  |join=>exact gen λaa=>by rw[bU]<;>(intros;simp_all)
  |append=>
   cases a with
   |var i=>
    cases es with
    |nil=>exact gen λaa=>by rw[bU]<;>(intros;simp_all)
    |cons x r=>
     cases r with
     |nil=>exact yu (V.1 x (bO (bO ho).2).1)
     |cons _ _=>exact gen λaa=>by rw[bU]<;>(intros;simp_all)
   |_=>exact gen λaa=>by rw[bU]<;>(intros;simp_all)
  |extend=>
   cases a with
   |var i=>
    cases es with
    |nil=>exact gen λaa=>by rw[bU]<;>(intros;simp_all)
    |cons x r=>
     cases r with
     |nil=>exact yv (V.1 x (bO (bO ho).2).1)
     |cons _ _=>exact gen λaa=>by rw[bU]<;>(intros;simp_all)
   |_=>exact gen λaa=>by rw[bU]<;>(intros;simp_all)
  |remove=>exact gen λaa=>by rw[bU]<;>(intros;simp_all)
 |_=>exact gen λaa=>by rw[bU]<;>(intros;simp_all)
end
section
variable {Φ:Nat->List Val->M Val} {Ψ:Nat->List Val->Pr FV} {ms:List Nat}
theorem AV{i:Nat}{l:List Nat}(h:i∈l):∀j∈[i],j∈l:=λj hj=>by rw[Ue.mp hj];exact h
theorem IK(hΦ:∀j,Imp (Φ j) (Ψ j))(ho:ck e=true):wH Φ Ψ ms (.asg p e):=λA0 h0 aa env h O s=>by
 have V:=(v_all hΦ).1 e ho;cases p with
 |one i=>
  rw[dg,bU];try dsimp only
  split
  ·refine iS λhf=>?_
   refine bD s (Ma hΦ hf ho aa env _ h s.yt s.er) λx h1 v p1 q1=>?_;obtain⟨f,d⟩:=x;cases d<;>first|trivial|skip
   ·obtain⟨h2,vs,rfl,rfl,p2,q2⟩:=q1 rfl;obtain⟨s2,f2⟩:=s.fresh (i:=i) p2 q2;exact⟨_,_,rfl,_,s2,f2.dB (AV (by simp[mS,lO,stored]))⟩
   ·obtain⟨h2,vs,rfl,rfl,p2,q2⟩:=q1 rfl;obtain⟨s2,f2⟩:=s.fresh (i:=i) p2 q2;exact⟨_,_,rfl,_,s2,f2.dB (AV (by simp[mS,lO,stored]))⟩
  ·refine bD s (V aa env _ h s.yt s.er) λx h1 v p1 q1=>?_
   have hnw:JZ (jW x.1 x.2)=true->Dn (Al (Fr h0.length) O) h1 x.2 v:=λz=>by
    have hx:x.1=true:=by
     unfold jW at z;split at z
     ·rename_i hh;simp only[and_eq_true]at hh;exact hh.1
     ·cases z
    refine(q1.2 hx).dB λo ho=>?_;cases o with
    |none=>exact ho.elim
    |some k=>exact⟨Ut s.pre.length_le ho,λj _ e=>by have:=(s.own j k e).2.1;have ho':h.length<=k:=ho;omega⟩
   have hrd:qK (jW x.1 x.2)=true:=by unfold jW;split<;>rfl
   obtain⟨s2,f2⟩:=(s.ext p1).setM (i:=i) hrd q1.1 hnw;exact⟨_,_,rfl,_,s2,(Fm.refl s p1).trans (f2.dB (AV (by simp[mS,lO,stored])))⟩
 |tup is=>
  rw[dg,bU];try dsimp only
  refine iS λhf=>bD s (V aa env _ h s.yt s.er) λx h1 v p1 q1=>?_;have s1:=s.ext p1;refine bD s1 (R:=λak h' env'=>∃O',SR A0 h0 ak env' h' O'/\Fm (stored (.tup is)) aa env h1 O ak env' h' O') (aQ λak ev=>?_) λak h2 env' p2 hh=>?_
  ·obtain⟨env',O',b1,b2,b3⟩:=s1.bind ev q1.1;exact⟨env',b1,O',b2,b3⟩
  ·obtain⟨O',b2,b3⟩:=hh;exact aT ⟨O',b2,(Fm.refl s p1).trans (b3.dB λj hj=>by simp only[mS,lO];exact Uq _ hj)⟩
theorem IL{i:Nat}(hΦ:∀j,Imp (Φ j) (Ψ j))(ho:ck e=true):wH Φ Ψ ms (.aug i o e):=λA0 h0 aa env h O s=>by rw[bU];trivial
theorem wI(k:Key)(l:List (Key×Val)):(l.any λkv=>decide (kv.1=k))=((l.map (·.1)).any λx=>decide (x=k)):=by
 rw[List.any_map];rfl
theorem wJ(e:Dn A h d v):∀{kvs:List (Key×Val)} {ds:List Val},ao A h ds (kvs.map (·.2)) ->
  ao A h ((((kvs.map (·.1)).zip ds).map λkv=>if kv.1=k then (kv.1,d) else kv).map (·.2)) ((kvs.map λkv=>if kv.1=k then (kv.1,v) else kv).map (·.2))
 |[],ds,q=>by simp only[map_nil,List.zip_nil_left];exact ao.nil
 | (k',v')::kvs,ds,q=>by
  have l:=q.length;cases ds with
  |nil=>simp at l
  |cons d' ds=>
   simp only[map_cons]at q;rw[ao]at q;obtain⟨v1,r,e1,q1,q2⟩:=q;cases e1;simp only[map_cons,zip_cons_cons];refine ao.cons ?_ (wJ e q2)
   by_cases hk:k'=k
   ·rw[T4 hk,T4 hk];exact e
   ·rw[TX hk,TX hk];exact q1
theorem lB(k:Key)(d:Val)(l:List (Key×Val)):(l.map λkv=>if kv.1=k then (kv.1,d) else kv).map (·.1)=l.map (·.1):=by
 rw[UG];refine U5 λx _=>?_;show (if x.1=k then (x.1,d) else x).1=x.1
 split<;>rfl
theorem DF(hk:kvs.map (·.1)=ks)(q:ao A h ds (kvs.map (·.2)))(e:Dn A h d v) :
  (cF kvs k v).map (·.1)=(cF (ks.zip ds) k d).map (·.1)/\ao A h ((cF (ks.zip ds) k d).map (·.2)) ((cF kvs k v).map (·.2)):=by
 subst hk;have l:=q.length;rw[TQ]at l;have z1:((kvs.map (·.1)).zip ds).map (·.1)=kvs.map (·.1):=List.map_fst_zip (by rw[TQ];omega);have z2:((kvs.map (·.1)).zip ds).map (·.2)=ds:=List.map_snd_zip (by rw[TQ];omega);unfold cF;rw[wI,wI,z1]
 split
 ·rw[lB,lB,z1];exact⟨rfl,wJ e q⟩
 ·rw[VH,VH,VH,VH,z1,z2];exact⟨rfl,q.append (ao.cons e ao.nil)⟩
theorem DG(hΦ:∀j,Imp (Φ j) (Ψ j))(ho:ck o=true)(hi:ck i=true)(hv:ck v=true):wH Φ Ψ ms (.iu o i v):=λA0 h0 aa env h O s=>by
 have V:=(v_all hΦ).1;cases o with
 |var j=>
  rw[dg,bU];refine bD s (V v hv aa env _ h s.yt s.er) λx h1 w p1 q1=>?_;have s1:=s.ext p1
  split
  ·rename_i ds hj
   obtain⟨b,e2,e3,vs,e4,e5⟩:=s1.ow j _ hj;rw[bR (dY e2)];refine bD s1 (V i hi aa env _ h1 s1.yt s1.er) λz h2 u p2 q2=>?_;have s2:=s1.ext p2;obtain⟨f,d⟩:=z;have q:=q2.1;cases d<;>first|trivial|skip
   dsimp only at q;rw[Dn]at q;subst q;rename_i kk;have g:=cU p2 e4;have l:=e5.length;show fq A0 h0 _ _ (pb (pl (xB ds.length kk)) _);cases hn:xB ds.length kk with
   |none=>trivial
   |some n=>obtain⟨s3,f3⟩:=s2.put (d1:=.rl (ds.set n x.2)) (ob:=.lst (vs.set n w)) hj e3 ⟨_,rfl,(e5.ext p2).set n (q1.1.ext p2)⟩;refine⟨.nx env,h2.set b (.lst (vs.set n w)),?_,O,s3,(Fm.refl s (p1.trans p2)).trans (f3.dB (AV (by simp[mS,om])))⟩;rw[l]at hn;simp only[mX];unfold bnd ask aN put ret;dsimp only;rw[g];dsimp only;rw[hn]
  ·rename_i ks ds hj
   obtain⟨b,e2,e3,kvs,e4,ek,e5⟩:=s1.ow j _ hj;rw[bR (dY e2)];refine bD s1 (V i hi aa env _ h1 s1.yt s1.er) λz h2 u p2 q2=>?_;have s2:=s1.ext p2;obtain⟨f,d⟩:=z;have q:=q2.1;dsimp only at q;show fq A0 h0 _ _ (pb (pl (keyOf d)) _);cases hk:keyOf d with
   |none=>trivial
   |some kk=>
    have hu:keyOf u=some kk:=by
     cases d<;>simp only[keyOf]at hk<;>first|(cases hk;done)|skip
     all_goals (rw[Dn]at q;subst q;exact hk)
    show fq A0 h0 _ _ (pg _ _);refine iS λhl=>?_;have g:=cU p2 e4;obtain⟨k1,k2⟩:=DF (k:=kk) ek (e5.ext p2) (q1.1.ext p2);obtain⟨s3,f3⟩:=s2.put (d1:=putD ks ds kk x.2) (ob:=.dct (cF kvs kk w)) hj e3 ⟨_,rfl,k1,k2⟩;refine⟨.nx env,h2.set b (.dct (cF kvs kk w)),?_,O,s3,(Fm.refl s (p1.trans p2)).trans (f3.dB (AV (by simp[mS,om])))⟩;have hl':decide (kvs.length<sizeLine)=true:=by rw[<-ek,TQ]at hl;exact hl
    simp only[mX];unfold bnd ask aN put ret aF;dsimp only;rw[g];dsimp only;rw[hu];dsimp only;rw[T4 hl']
  ·trivial
 |_=>rw[bU]<;>first|trivial|(intros;simp_all)
theorem IM(hΦ:∀j,Imp (Φ j) (Ψ j))(hc:ck c=true)(ha:qD Φ Ψ ms a)(hb:qD Φ Ψ ms b):wH Φ Ψ ms (.iff c a b):=λA0 h0 aa env h O s=>by
 have V:=(v_all hΦ).1 c hc;rw[dg,bU];refine bD s (nE V s.yt s.er) λx h1 v p1 q1=>?_;have s1:=s.ext p1;refine bD s1 (R:=λt _ t'=>t'=t) (cV λt et=>⟨t,qy q1 et,rfl⟩) λt h2 t' p2 et=>?_;subst et;have s2:=s1.ext p2;cases t' with
 |true=>
  rw[T4 rfl,T4 rfl];refine gm (ha A0 h0 aa env h2 O s2) λf h' g r=>(r.pre s (p1.trans p2)).dB λi hi=>?_;simp only[DC,mS,om,lO,mem_append]at hi |-
  rcases hi with z|z
  ·exact .inl (.inl z)
  ·exact .inr (.inl z)
 |false=>
  rw[TX TH,TX TH];refine gm (hb A0 h0 aa env h2 O s2) λf h' g r=>(r.pre s (p1.trans p2)).dB λi hi=>?_;simp only[DC,mS,om,lO,mem_append]at hi |-
  rcases hi with z|z
  ·exact .inl (.inr z)
  ·exact .inr (.inr z)
def uO(h:Hs)(O:Nat->Option Nat)(m:List Nat)(src:Src)(ws:List Val):Prop :=
 ∀h':Hs,(∀k,k<h.length->(∀i,O i≠some k)->h'[k]?=h[k]?)->(∀i,i∉m->∀a,O i=some a->h'[a]?=h[a]?)->src.items h'=some ws
theorem dD{i:Nat}(e:h[i]?=some (.lst ws)):(Src.live i).items h=some ws:=by simp[Src.items,az,e]
theorem dF{i:Nat}(e:h[i]?=some (.lst ws)):(Src.enum i).items h=some (bI 0 ws):=by simp[Src.items,az,e]
theorem sQ{A0:AP}{h0:Hs}{m:List Nat}(hb:∀aa env h O x v,SR A0 h0 aa env h O->Dn (Al A0 O) h x v->fq A0 h0 (RF A0 h0 m aa env h O) (body v env h) (bodyV x aa))
  {j5:aD} {qC:Env} {h1:Hs} {O1:Nat->Option Nat} (st:uO h1 O1 m src ws) :
  ∀(xs vs:List Val) (i:Nat) (aa:aD) (env:Env) (h:Hs) (O:Nat->Option Nat),SR A0 h0 aa env h O->Fm m j5 qC h1 O1 aa env h O->ws.drop i=vs->ao (Al A0 O) h xs vs ->
   fq A0 h0 (RF A0 h0 m j5 qC h1 O1) (forM src body vs.length i env h) (gh bodyV xs aa)
 | [],vs,i,aa,env,h,O,s,f,hd,q=>by
  rw[ao]at q;subst q;have hl:ws.length<=i:=V9.mp hd;have hi:=st h (λk hk n=>(f.keep k hk n).1) (λj hj a e=>(f.stay j hj).2.2.2 a e);rw[gh];refine⟨.nx env,h,?_,O,s,f⟩;show forM src body 0 i env h=_;simp only[forM];unfold bnd ask aN aF;dsimp only;rw[hi];dsimp only;rw[T4 (decide_eq_true hl)];rfl
 | x::xs,vs,i,aa,env,h,O,s,f,hd,q=>by
  rw[ao]at q;obtain⟨v,r,rfl,q1,q2⟩:=q;have hv:ws[i]?=some v:=by have:=UM (λl=>l[0]?) hd;simpa using this
  have hr:ws.drop (i+1)=r:=by
   have:ws.drop (i+1)=(ws.drop i).drop 1:=by rw[Wz]
   rw[this,hd];rfl
  have hi:=st h (λk hk n=>(f.keep k hk n).1) (λj hj a e=>(f.stay j hj).2.2.2 a e);have ev:forM src body (v::r).length i env h=bnd (body v env) (λf=>match f with
   |.nx env'=>forM src body r.length (i+1) env'
   |.ct env'=>forM src body r.length (i+1) env'
   |.bk env'=>ret (.nx env')
   |.rt v=>ret (.rt v)) h:=by
   show forM src body (r.length+1) i env h=_;simp only[forM];unfold bnd ask aN;dsimp only;rw[hi];dsimp only;rw[hv];try rfl
  rw[ev,gh];refine nG (hb aa env h O x v s q1) λfl h2 gl hr2=>?_;have go:∀ak env' O',SR A0 h0 ak env' h2 O'->Fm m aa env h O ak env' h2 O'->fq A0 h0 (RF A0 h0 m j5 qC h1 O1) (forM src body r.length (i+1) env' h2) (gh bodyV xs ak):=λak env' O' s' f'=>by
   refine sQ hb st xs r (i+1) ak env' h2 O' s' (f.trans f') hr (ao.move iD (λk o hk g=>?_) _ _ q2);have hlt:k<h.length:=(TJ.mp g).1;obtain⟨a1,a2⟩:=f'.keep k hlt λi=>hk.2 i rfl;exact⟨⟨hk.1,λi _=>a2 i⟩,a1.trans g⟩
  cases fl<;>cases gl<;>first|exact hr2.elim|skip
  ·obtain⟨O',s',f'⟩:=hr2;exact go _ _ O' s' f'
  ·exact aT hr2
  ·obtain⟨O',s',f'⟩:=hr2;exact aT ⟨O',s',f.trans f'⟩
  ·obtain⟨O',s',f'⟩:=hr2;exact go _ _ O' s' f'
theorem AW{A0:AP}{m:List Nat}(q:Dn (Al A0 O) h d v)(e:fG k [d]=some xs):∃src ws,srcOf k [v]=some src/\ao (Al A0 O) h xs ws/\src.items h=some ws/\uO h O m src ws:=by
 have lst:∀es,d=.rl es->(∃ws,v=.rl ws/\ao (Al A0 O) h es ws)\/∃a ws,v=.ref a/\h[a]?=some (.lst ws)/\ao (Al A0 O) h es ws/\∀h':Hs,(∀k,k<h.length->(∀i,O i≠some k)->h'[k]?=h[k]?)->h'[a]?=some (Ob.lst ws):=by
  rintro es rfl;rw[Dn]at q
  rcases q with ⟨ws,rfl,_,q⟩|⟨a,ws,rfl,al,g,q⟩
  ·exact .inl ⟨ws,rfl,q⟩
  ·exact .inr ⟨a,ws,rfl,g,q,λh' hk=>(hk a (TJ.mp g).1 λi=>al.2 i rfl).trans g⟩
 cases k with
 |seq=>
  cases d<;>first|(cases e;done)|skip
  ·cases e;rw[Dn]at q;obtain⟨ws,rfl,q⟩:=q;exact⟨.fix ws,ws,rfl,q,rfl,λ_ _ _=>rfl⟩
  ·cases e
   rcases lst _ rfl with ⟨ws,rfl,q'⟩|⟨a,ws,rfl,g,q',st⟩
   ·exact⟨.fix ws,ws,rfl,q',rfl,λ_ _ _=>rfl⟩
   ·exact⟨.live a,ws,rfl,q',dD g,λh' hk _=>dD (st h' hk)⟩
 |range=>
  cases d<;>first|(cases e;done)|skip
  rw[Dn]at q;subst q;rename_i n;change (if inR n=true then some (bN 0 n.toNat) else none)=some _ at e;split at e
  ·rename_i hn;cases e;exact⟨.fix _,_,T4 hn,gi,rfl,λ_ _ _=>rfl⟩
  ·cases e
 |enum=>
  cases d<;>first|(cases e;done)|skip
  cases e
  rcases lst _ rfl with ⟨ws,rfl,q'⟩|⟨a,ws,rfl,g,q',st⟩
  ·exact⟨.fix _,_,rfl,dO 0 q',rfl,λ_ _ _=>rfl⟩
  ·exact⟨.enum a,_,rfl,dO 0 q',dF g,λh' hk _=>dF (st h' hk)⟩
 |zip=>cases e
theorem AX{α β γ δ:Type}{R:α -> Hs -> β -> Prop}{R':γ -> Hs -> δ -> Prop}{m:M β}{f:β -> M δ}{p:Pr α}{F:α -> Pr γ}(r:Rel A h R (m h) p)(k:∀a h1 b,p=.ok a->h<+:h1->R a h1 b->Rel A h1 R' (f b h1) (F a)):Rel A h R' (bnd m f h) (pb p F):=by
 unfold bnd;cases p with
 |ok a=>
  obtain⟨b,h1,e,q,r⟩:=r;rw[e];show Rel A h R' (f b h1) (F a);have:=k a h1 b rfl q r;cases e2:F a with
  |ok c=>rw[e2]at this;obtain⟨d,h2,e3,q2,r2⟩:=this;exact⟨d,h2,e3,q.trans q2,r2⟩
  |exc c es=>rw[e2]at this;obtain⟨d,h2,e3,q2,r2⟩:=this;exact⟨d,h2,e3,q.trans q2,r2⟩
  |no=>trivial
 |exc c es=>obtain⟨ws,h1,e,q,r⟩:=r;rw[e];exact⟨ws,h1,rfl,q,r⟩
 |no=>trivial
theorem AY{e e2:IE}(h:fZ Ψ (.cons e (.cons e2 r)) aa=.ok ds):2<=ds.length:=by
 rw[fZ,fZ]at h;cases h1:(if isVar e=true then pl (iA aa e) else aX Ψ e aa) with
 |ok a=>
  rw[h1]at h;cases h2:(if isVar e2=true then pl (iA aa e2) else aX Ψ e2 aa) with
  |ok b=>
   rw[h2]at h;cases h3:fZ Ψ r aa with
   |ok c=>rw[h3]at h;cases h;simp
   |exc _ _=>rw[h3]at h;cases h
   |no=>rw[h3]at h;cases h
  |exc _ _=>rw[h2]at h;cases h
  |no=>rw[h2]at h;cases h
 |exc _ _=>rw[h1]at h;cases h
 |no=>rw[h1]at h;cases h
theorem AZ{d1 d2:Val}(ex:fG k [d1,d2]=some xs):k=.range/\∃n m,d1=.int n/\d2=.int m/\(inR n&&inR m)=true/\xs=bN n (m-n).toNat:=by
 cases k with
 |seq=>cases d1<;>cases ex
 |enum=>cases d1<;>cases ex
 |zip=>cases ex
 |range=>
  cases d1<;>first|(cases ex;done)|skip
  cases d2<;>first|(cases ex;done)|skip
  rename_i n m;change (if (inR n&&inR m)=true then some (bN n (m-n).toNat) else none)=some xs at ex
  by_cases hn:(inR n&&inR m)=true
  ·rw[T4 hn]at ex;cases ex;exact⟨rfl,n,m,rfl,rfl,hn,rfl⟩
  ·rw[TX hn]at ex;cases ex
theorem uP{d1 d2 d3:Val}:fG k (d1::d2::d3::r)=none:=by
 cases k with
 |seq=>cases d1<;>rfl
 |enum=>cases d1<;>rfl
 |zip=>rfl
 |range=>cases d1<;>first|rfl|(cases d2<;>rfl)
theorem DH{A0:AP}{h0:Hs}{m:List Nat}(hΦ:∀j,Imp (Φ j) (Ψ j))(hi:j0 it=true)(s:SR A0 h0 aa env h O)(hm:∀i,it=.cons (.var i) .nil->i∉m) :
  Rel (Al A0 O) h (λxs h' src=>∃ws,ao (Al A0 O) h' xs ws/\src.items h'=some ws/\uO h' O m src ws) (bnd (aZ Φ it env) (λits=>aN (srcOf k its)) h) (pb (fZ Ψ it aa) λits=>pl (fG k its)):=by
 have V:=v_all hΦ;cases it with
 |nil=>rw[fZ];cases k<;>trivial
 |cons e es=>
  cases es with
  |nil=>
   replace hi:=bO hi
   by_cases hv:isVar e=true
   ·cases e<;>first|(cases hv;done)|skip
    rename_i i;rw[fZ,fZ,T4 hv];simp only[iA];cases hx:aa[i]? with
    |none=>trivial
    |some o=>
     cases o with
     |none=>trivial
     |some fd=>
      obtain⟨f,d⟩:=fd;show Rel _ _ _ _ (pl (fG k [d]));cases hf:qK f with
      |false=>
       have hf:f=.ow:=by cases f<;>first|rfl|cases hf
       subst hf;obtain⟨a,e2,e3,e4⟩:=s.ow i d hx;have ev:bnd (aZ Φ #[.var i] env) (λits=>aN (srcOf k its)) h=aN (srcOf k [.ref a]) h:=by rw[aZ,aZ,aI,bR (dY e2)];rfl
       rw[ev];refine aQ λxs ex=>?_;have hd:∃ds,d=.rl ds:=by cases d<;>first|exact⟨_,rfl⟩|exact False.elim e4|(cases k<;>cases ex)
       obtain⟨ds,rfl⟩:=hd;obtain⟨vs,e4,e5⟩:=e4;have st:∀h':Hs,(∀i,i∉m->∀a,O i=some a->h'[a]?=h[a]?)->h'[a]?=some (Ob.lst vs):=λh' hs=>(hs i (hm i rfl) a e3).trans e4;cases k with
       |seq=>cases ex;exact⟨.live a,rfl,vs,e5,dD e4,λh' _ hs=>dD (st h' hs)⟩
       |range=>cases ex
       |enum=>cases ex;exact⟨.enum a,rfl,_,dO 0 e5,dF e4,λh' _ hs=>dF (st h' hs)⟩
       |zip=>cases ex
      |true=>
       obtain⟨v,e1,e2,_⟩:=s.sh i f d hx hf;have ev:bnd (aZ Φ #[.var i] env) (λits=>aN (srcOf k its)) h=aN (srcOf k [v]) h:=by rw[aZ,aZ,aI,bR (dY e1)];rfl
       rw[ev];refine aQ λxs ex=>?_;obtain⟨src,ws,a1,a2,a3,a4⟩:=AW (m:=m) e2 ex;exact⟨src,a1,ws,a2,a3,a4⟩
   ·rw[fZ,fZ,TX hv]
    have ev:bnd (aZ Φ #[e] env) (λits=>aN (srcOf k its)) h=bnd (aG Φ e env) (λv=>aN (srcOf k [v])) h:=by rw[aZ,aZ,aI];rfl
    rw[ev];have ep:(pb (pb (aX Ψ e aa) λd=>pb (Pr.ok ([]:List Val)) λp=>Pr.ok (d.2::p)) λits=>pl (fG k its))=pb (aX Ψ e aa) λd=>pl (fG k [d.2]):=by cases aX Ψ e aa<;>rfl
    rw[ep];refine ah (V.1 e hi.1 aa env _ h s.yt s.er) λx h1 v p1 q1=>aQ λxs ex=>?_;obtain⟨src,ws,a1,a2,a3,a4⟩:=AW (m:=m) q1.1 ex;exact⟨src,a1,ws,a2,a3,a4⟩
  |cons e2 r=>
   have V2:=V.2 _ hi;refine AX (V2.2 aa env _ h s.yt s.er) λds h1 vs eb p1 q1=>aQ λxs ex=>?_;have hl:2<=ds.length:=AY eb
   match ds,q1 with
   |[],q1=>cases k<;>cases ex
   |[d],q1=>simp at hl
   |[d1,d2],q1=>obtain⟨v,rr,rfl,hv,hr⟩:=q1;obtain⟨w,rfl,hw⟩:=Dp.one hr;obtain⟨rfl,n,m',rfl,rfl,hn,rfl⟩:=AZ ex;have:=hv.int;subst this;have:=hw.int;subst this;exact⟨.fix _,T4 hn,_,gi,rfl,λ_ _ _=>rfl⟩
   |d1::d2::d3::dr,q1=>rw[uP]at ex;cases ex
theorem IP(hΦ:∀j,Imp (Φ j) (Ψ j))(hi:j0 it=true)(hb:qD Φ Ψ ms body):wH Φ Ψ ms (.for p k it body):=λA0 h0 aa env h O s=>by
 rw[dg,bU];refine iS λhg=>?_;rw[UE]at hg;have hm:∀i,it=.cons (.var i) .nil->i∉mS (.for p k it body):=by
  rintro i rfl z;simp only[AJ,and_eq_true,not_eq_true',List.contains_eq_mem,decide_eq_false_iff_not]at hg;simp only[mS,om,lO,mem_append]at z
  rcases z with z|z|z
  ·exact hg.1.1.1 z
  ·exact hg.1.2 z
  ·exact hg.1.1.2 z
 have ev:∀(F:Src->M Fl),bnd (aZ Φ it env) (λits=>bnd (aN (srcOf k its)) F) h=bnd (bnd (aZ Φ it env) λits=>aN (srcOf k its)) F h:=λF=>by rw[aI]
 have ep:∀(F:List Val->Pr qv),pb (fZ Ψ it aa) (λits=>pb (pl (fG k its)) F)=pb (pb (fZ Ψ it aa) λits=>pl (fG k its)) F:=λF=>by cases fZ Ψ it aa<;>rfl
 rw[ev,ep];refine bD s (DH (m:=mS (.for p k it body)) hΦ hi s hm) λxs h1 src p1 hx=>?_;obtain⟨ws,q1,q2,st⟩:=hx;have s1:=s.ext p1;have l:=q1.length;have Pn:∀(F:List Val->M Fl),bnd (ask λh=>src.items h) F h1=F ws h1:=λF=>by unfold bnd ask aN;dsimp only;rw[q2]
 rw[Pn];refine gm (sQ (m:=mS (.for p k it body)) (λak env' h' O' x v s' qx=>?_) st xs ws 0 aa env h1 O s1 (Fm.refl s1 (Uc _)) rfl q1) λf h' g r=>r.pre s p1;refine bD s' (R:=λgk h2 fX=>∃O2,SR A0 h0 gk fX h2 O2/\Fm (stored p) ak env' h' O' gk fX h2 O2) (aQ λgk e2=>?_) λgk h2 fX p2 hh=>?_
 ·obtain⟨fX,O2,b1,b2,b3⟩:=s'.bind e2 qx;exact⟨fX,b1,O2,b2,b3⟩
 ·obtain⟨O2,b2,b3⟩:=hh
  refine gm (hb A0 h0 gk fX h2 O2 b2) λf h'' g r=>RF.seq (b3.dB λi hi=>?_) (r.dB λi hi=>?_)
  ·simp only[mS,om,lO,mem_append];exact .inr (.inl hi)
  ·simp only[DC,mS,om,lO,mem_append]at hi |-
   rcases hi with z|z
   ·exact .inl z
   ·exact .inr (.inr z)
theorem IQ{n:Nat}(hΦ:∀j,Imp (Φ j) (Ψ j))(hc:ck c=true)(hb:qD Φ Ψ ms body):wH Φ Ψ ms (.whl n c body):=λA0 h0 aa env h O s=>by rw[bU];trivial
theorem EO:qK (QH m)=true:=by cases m<;>rfl
theorem SR.fr{A0:AP}{h0:Hs}(s:SR A0 h0 aa env h O):ER A0 (oz aa) env h:=λi f d e=>by
 unfold oz at e;rw[Ug]at e;cases hx:aa[i]? with
 |none=>rw[hx]at e;cases e
 |some o=>
  rw[hx]at e;cases o with
  |none=>cases e
  |some fd=>
   obtain⟨m,d'⟩:=fd;cases e;rw[TX (by rw[EO];decide)];cases hm:qK m with
   |false=>
    have hm:m=.ow:=by cases m<;>first|rfl|cases hm
    subst hm;obtain⟨a,e2,e3,e4⟩:=s.ow i d hx;exact⟨_,e2,(e4.mono (A':=A0) (λ_ g=>g) λ_ _ z=>z.dB λ_ y=>y.1).dn (s.up a (s.own i a e3).1)⟩
   |true=>obtain⟨v,e1,e2,_⟩:=s.sh i m d hx hm;exact⟨v,e1,e2.dB λ_ z=>z.1⟩
theorem pH{A0:AP}{h0:Hs}{α β γ δ:Type}{R:α -> Hs -> β -> Prop}{R':γ -> Hs -> δ -> Prop}{mm:M β}{f:β -> M δ}{p:Pr α}{F:α -> Pr γ}(s:SR A0 h0 aa env h O)(r:Rel A0 h R (mm h) p)(k:∀a h1 b,h<+:h1->R a h1 b->fq A0 h0 R' (f b h1) (F a)):fq A0 h0 R' (bnd mm f h) (pb p F):=by
 unfold bnd;cases p with
 |ok a=>obtain⟨b,h1,e,q,r⟩:=r;rw[e];exact k a h1 b q r
 |exc c es=>obtain⟨ws,h1,e,q,r⟩:=r;rw[e];exact⟨ws,h1,rfl,s.pre.trans q,r⟩
 |no=>trivial
theorem yw(h:Dl env es=some p):∃i j,es=.cons (.var i) #[.var j]/\env[i]?=some (some (.nw,p.1))/\env[j]?=some (some (.nw,p.2)):=by
 unfold Dl at h;split at h
 ·split at h
  ·rename_i a b;cases h;exact⟨_,_,rfl,a,b⟩
  ·cases h
 ·cases h
theorem IT(hΦ:∀j,Imp (Φ j) (Ψ j))(ho:ck e=true):wH Φ Ψ ms (.ret e):=λA0 h0 aa env h O s=>by
 have V:=(v_all hΦ).1 e ho;have gen:NH Ψ e aa=aX Ψ e aa->fq A0 h0 (RF A0 h0 (mS (.ret e)) aa env h O) (dg Φ (.ret e) env h) (bU Ψ ms (.ret e) aa):=λhe=>by
  rw[dg,bU,he];exact bD s (V aa env _ h s.yt s.er) λx h1 v p1 q1=>aT ⟨q1.1.dB λ_ z=>z.1,λf=>(q1.2 f).dB (Fr.le s.pre.length_le),s.pre.trans p1⟩
 cases e with
 |var i=>
  rw[dg,bU];simp only[NH];cases hx:aa[i]? with
  |none=>trivial
  |some o=>
   cases o with
   |none=>trivial
   |some fd=>
    obtain⟨f,d⟩:=fd;cases hf:qK f with
    |false=>
     have hf:f=.ow:=by cases f<;>first|rfl|cases hf
     subst hf;obtain⟨a,e2,e3,e4⟩:=s.ow i d hx;rw[bR (dY e2)];have ha:=s.own i a e3;cases d<;>first|exact False.elim e4|skip
     ·refine⟨_,h,rfl,?_,λhi=>?_,s.pre⟩
      ·exact(e4.mono (A':=A0) (λ_ g=>g) λ_ _ z=>z.dB λ_ y=>y.1).dn (s.up a ha.1)
      ·obtain⟨vs,e4,e5⟩:=e4;show Dn _ h (.rl _) (.ref a);rw[Dn];exact .inr ⟨a,vs,rfl,ha.1,e4,fm e5 hi⟩
     ·refine⟨_,h,rfl,?_,λhi=>?_,s.pre⟩
      ·exact(e4.mono (A':=A0) (λ_ g=>g) λ_ _ z=>z.dB λ_ y=>y.1).dn (s.up a ha.1)
      ·obtain⟨kvs,e4,ek,e5⟩:=e4;show Dn _ h (.dc _ _) (.ref a);rw[Dn];exact⟨a,kvs,rfl,ha.1,e4,ek,fm e5 hi⟩
    |true=>
     obtain⟨v,e1,e2,e3⟩:=s.sh i f d hx hf;rw[bR (dY e1)];dsimp only;rw[T4 hf];refine⟨_,h,rfl,e2.dB λ_ z=>z.1,λhi=>?_,s.pre⟩
     rcases(Ww _ _).mp hi with hi|hi
     ·exact(iB d v hi).mpr ((iB d v hi).mp e2)
     ·exact(e3 hi).dB λ_ z=>z.1
 |call j es=>rw[dg,bU];exact pH s (V (oz aa) env A0 h (s.up.ext s.pre) s.fr) λx h1 v p1 q1=>aT ⟨q1.1,λf=>(q1.2 f).dB (Fr.le s.pre.length_le),s.pre.trans p1⟩
 |tup es=>
  rw[dg,bU];change fq A0 h0 _ _ (pb (Dm Ψ es aa) _);unfold Dm
  split
  ·rename_i pp hp
   obtain⟨i,j,he,hi,hj⟩:=yw hp;subst he;obtain⟨v,e1,e2,e3⟩:=s.sh i .nw _ hi rfl;obtain⟨w,k1,k2,k3⟩:=s.sh j .nw _ hj rfl;have ev:aG Φ (.tup #[.var i,.var j]) env h=.ok (.tup [v,w]) h:=by rw[aG,aZ,aZ,aZ];rw[bR (a:=[v,w]) (h1:=h) (by rw[bR (dY e1),bR (a:=[w]) (h1:=h) (by rw[bR (dY k1)];rfl)];rfl)];rfl
   rw[bR ev];refine⟨_,h,rfl,?_,λ_=>?_,s.pre⟩
   ·show Dn A0 h (.tup _) _;rw[Dn];exact⟨_,rfl,ao.cons (e2.dB λ_ z=>z.1) (ao.cons (k2.dB λ_ z=>z.1) ao.nil)⟩
   ·show Dn (Fr h0.length) h (.tup _) _;rw[Dn];exact⟨_,rfl,ao.cons ((e3 rfl).dB λ_ z=>z.1) (ao.cons ((k3 rfl).dB λ_ z=>z.1) ao.nil)⟩
  exact pH s (V (oz aa) env A0 h (s.up.ext s.pre) s.fr) λx h1 v p1 q1=>aT ⟨q1.1,λf=>(q1.2 f).dB (Fr.le s.pre.length_le),s.pre.trans p1⟩
 |_=>exact gen rfl
theorem IU:qD Φ Ψ ms .nil:=λA0 h0 aa env h O s=>by rw[gf,fk];exact aT ⟨O,s,Fm.refl s (Uc _)⟩
theorem DI(ha:wH Φ Ψ ms a)(hr:qD Φ Ψ ms r):qD Φ Ψ ms (.cons a r):=λA0 h0 aa env h O s=>by
 rw[gf,fk];have w1:∀i∈mS a,i∈DC (.cons a r):=λi hi=>by
  simp only[mS,DC,di,jf,mem_append]at hi |-
  rcases hi with z|z
  ·exact .inl (.inl z)
  ·exact .inr (.inl z)
 have w2:∀i∈DC r,i∈DC (.cons a r):=λi hi=>by
  simp only[DC,di,jf,mem_append]at hi |-
  rcases hi with z|z
  ·exact .inl (.inr z)
  ·exact .inr (.inr z)
 refine nG (ha A0 h0 aa env h O s) λf h1 g rr=>?_;have rr:=rr.dB w1;cases f<;>cases g<;>first|exact rr.elim|skip
 ·obtain⟨O',s',f'⟩:=rr;exact gm (hr A0 h0 _ _ h1 O' s') λf h' g r'=>RF.seq f' (r'.dB w2)
 ·exact aT rr
 ·exact aT rr
 ·exact aT rr
theorem ES(hΦ:∀j,Imp (Φ j) (Ψ j)):∀ss,lP ss=true->qD Φ Ψ ms ss:=by
 intro ss;refine gc.rec (motive_1:=λs=>Pk s=true->wH Φ Ψ ms s) (motive_2:=λss=>lP ss=true->qD Φ Ψ ms ss) ?_ ?_ ?_ ?_ ?_ ?_ ?_ ?_ ?_ ?_ ?_ ?_ ?_ ?_ ?_ ?_ ss
 ·exact λe f=>DE hΦ f
 ·exact λp e f=>IK hΦ f
 ·exact λi o e f=>IL hΦ f
 ·intro o i v f;have f:=nD f;exact DG hΦ f.1.1 f.1.2 f.2
 ·intro c a b ia ib f;have f:=nD f;exact IM hΦ f.1.1 (ia f.1.2) (ib f.2)
 ·intro p k it b ib f;have f:=bO f;exact IP hΦ f.1 (ib f.2)
 ·intro n c b ib f;have f:=bO f;exact IQ hΦ f.1 (ib f.2)
 ·exact λe f=>IT hΦ f
 ·exact λ_ A0 h0 aa env h O s=>by rw[dg,bU];exact aT ⟨by rw[Dn],λ_=>by rw[Dn],s.pre⟩
 ·exact λ_ A0 h0 aa env h O s=>by rw[dg,bU];exact aT ⟨O,s,Fm.refl s (Uc _)⟩
 ·exact λ_ A0 h0 aa env h O s=>by rw[dg,bU];exact aT ⟨O,s,Fm.refl s (Uc _)⟩
 ·exact λ_ A0 h0 aa env h O s=>by rw[dg,bU];exact aT ⟨O,s,Fm.refl s (Uc _)⟩
 ·exact λ_ A0 h0 aa env h O s=>by rw[bU];trivial
 ·exact λ_ _ _ _ _ A0 h0 aa env h O s=>by rw[bU];trivial
 ·exact λ_=>IU
 ·intro a r ia ir f;have f:=bO f;exact DI (ia f.1) (ir f.2)
theorem ET{n:Nat}(u:Up A h)(q:ao A h ds vs):SR A h (ds.map (λd=>some (.sh,d))++replicate (n-ds.length) none) (vs.map some++replicate (n-vs.length) none) h (λ_=>none):=by
 have l:=q.length;have al:∀k,A k->Al A (λ_=>none) k:=λk hk=>⟨hk,λi z e=>by subst e;cases z⟩;have get:∀(i:Nat) (f:Mk) (d:Val),(ds.map (λd=>some (.sh,d))++replicate (n-ds.length) none:aD)[i]?=some (some (f,d))->f=.sh/\ds[i]?=some d:=λi f d e=>by
  by_cases hi:i<ds.length
  ·rw[Ua (by simpa using hi),Ug]at e
   cases ei:ds[i]? with
   |none=>rw[ei]at e;cases e
   |some d'=>rw[ei]at e;cases e;exact⟨rfl,rfl⟩
  ·rw[Uk (by simp;omega)]at e;have:=Ub e;rw[VM]at this;exact absurd this.2 (by simp)
 refine⟨by simp[l],λi m d e hm=>?_,λi d e=>?_,(λi a e=>nomatch e),(λi j a e=>nomatch e),Uc _,u⟩
 ·obtain⟨hm',e⟩:=get i m d e;obtain⟨v,k1,k2⟩:=q.get e;have hi:i<vs.length:=(TJ.mp k1).1;exact⟨v,by rw[Ua (by simpa using hi),Ug,k1];rfl,k2.dB al,λz=>by subst hm';cases z⟩
 ·obtain⟨z,_⟩:=get i .ow d e;cases z
theorem dZ{n:Nat}(hΦ:∀j,Imp (Φ j) (Ψ j))(ho:lP body=true):Imp (pe Φ n body) (jy Ψ n body):=λA h ds vs u q=>by
 have l:=q.length;have s:=ET (n:=n) u q;unfold pe jy;have r:=nG (R':=λx h' v=>h<+:h'/\RV A h x h' v) (ES (ms:=di body) hΦ body ho A h _ _ h _ s) (f:=λf=>match f with
  |.nx _=>ret .non
  |.rt v=>ret v
  |_=>aN none) (F:=λf=>match f with
  |.nx _=>.ok (true,.non)
  |.rt p=>.ok p
  | _=>.no) λf h1 g rr=>by
   cases f<;>cases g<;>first|exact rr.elim|skip
   ·obtain⟨O',s',_⟩:=rr;exact aT ⟨s'.pre,by show Dn _ _ Val.non _;rw[Dn],λ_=>by show Dn _ _ Val.non _;rw[Dn]⟩
   ·exact aT ⟨rr.2.2,rr.1,rr.2.1⟩
   ·trivial
   ·trivial
 revert r;generalize (pb (fk Ψ (di body) body (ds.map (λd=>some (.sh,d))++replicate (n-ds.length) none)) _)=p;intro r;cases p with
 |ok x=>obtain⟨v,h',e,a,b⟩:=r;exact⟨v,h',e,a,b⟩
 |exc c es=>exact r
 |no=>trivial
end
abbrev cB:=List Val->Pr FV
def bu(gs:List cB)(j:Nat):cB:=match gs[j]? with
 |some g=>g
 |none=>λ_=>.no
def gU(fs:List Row)(gs:List cB):Prop:=fs.length=gs.length/\∀(j:Nat) (r:Row) (g:cB),fs[j]?=some r->gs[j]?=some g->Imp r.2.2 g
theorem Ba:gU [] []:=⟨rfl,λj r g e=>by simp at e⟩
theorem aY(a:gU fs gs)(j:Nat):Imp (look fs j) (bu gs j):=by
 unfold look bu;cases e:fs[j]? with
 |none=>
  have:gs[j]?=none:=by have:=Vc.mp e;exact Vc.mpr (by rw[<-a.1];exact this)
  rw[this];exact λ_ _ _ _ _ _=>trivial
 |some r=>
  cases e2:gs[j]? with
  |none=>exact λ_ _ _ _ _ _=>trivial
  |some g=>exact a.2 j r g e e2
theorem bx{k:Nat}(a:gU fs gs)(i:Imp f g):gU (fs++[(x,k,f)]) (gs++[g]):=by
 refine⟨by simp[a.1],λj r g' e1 e2=>?_⟩
 by_cases hj:j<fs.length
 ·rw[Ua hj]at e1;rw[Ua (by rw[<-a.1];exact hj)]at e2;exact a.2 j r g' e1 e2
 ·rw[Uk (by omega)]at e1
  rw[Uk (by rw[<-a.1];omega)]at e2;have hj0:j-fs.length=0:=by have:=(TJ.mp e1).1;simp at this;omega
  rw[<-a.1]at e2;rw[hj0]at e1 e2;simp at e1 e2;subst e1;subst e2;exact i
section
variable {α β γ:Type}
theorem fu(a:α)(f:α -> Pr β):pb (.ok a) f=f a:=rfl
theorem IV(c:Prop)[Decidable c](m n:Pr α)(f:α -> Pr β):pb (if c then m else n) f=if c then pb m f else pb n f:=by split<;>rfl
theorem wK(m:Pr α)(f:α -> Pr β)(g:β -> Pr γ):pb (pb m f) g=pb m λx=>pb (f x) g:=by cases m<;>rfl
theorem l8(a:α):pl (some a)=.ok a:=rfl
theorem DJ(m:Pr α):pg true m=m:=rfl
theorem IW(c:Prop)[Decidable c](m:Pr α):pg (decide c) m=if c then m else .no:=by unfold pg;simp
theorem nH{c:Bool}(h:c=true)(m:Pr α):pg c m=m:=by rw[h];rfl
end
theorem Mb{f:Bool}:qK (jW f d)=true:=by unfold jW;split<;>rfl
theorem Mc:qK .sh=true:=rfl
theorem Mf:qK .nw=true:=rfl
theorem Mg:qK .ow=false:=rfl
theorem Mh:JZ .sh=false:=rfl
theorem Mi:JZ .nw=true:=rfl
theorem IX{f:Bool}{i:Int}:jW f (.int i)=.sh:=by cases f<;>rfl
theorem Mj{f:Bool}{i:Bool}:jW f (.bl i)=.sh:=by cases f<;>rfl
theorem IY{f:Bool}:jW f (.str i)=.sh:=by cases f<;>rfl
theorem IZ{f:Bool}:jW f .non=.sh:=by cases f<;>rfl
theorem Po:jW false d=.sh:=rfl
theorem Ml:jW true (.rl ds)=.nw:=rfl
theorem Mm:jW true (.dc ks ds)=.nw:=rfl
theorem sS(Q:List Val->aD->Prop):∀(xs done:List Val) (env:aD),Q done env->(∀(pre:List Val) (x:Val) (post:List Val) (env:aD),done++xs=pre++x::post->Q pre env->∃env',(body x env=.ok (.nx env')\/body x env=.ok (.ct env'))/\Q (pre++[x]) env')->∃env',gh body xs env=.ok (.nx env')/\Q (done++xs) env'
 |[],done,env,q,_=>⟨env,rfl,by rw[US];exact q⟩
 | x::xs,done,env,q,h=>by
  obtain⟨env',e,q'⟩:=h done x xs env rfl q;have eq:done++x::xs=done++[x]++xs:=by simp
  obtain⟨fX,e2,q2⟩:=sS Q xs (done++[x]) env' q' (by rw[<-eq];exact h);refine⟨fX,?_,by rw[eq];exact q2⟩;rw[gh]
  rcases e with e|e<;>(rw[e,fu];exact e2)
section
variable {a b:Int} {x y:Str} {t:Bool} {vs ws:List Val} {v:Val}
theorem Mn:iV .add (.int a) (.int b)=.ok (true,.int (a+b)):=rfl
theorem Mp:iV .sub (.int a) (.int b)=.ok (true,.int (a-b)):=rfl
theorem wL(h:fN a b=true):iV .mul (.int a) (.int b)=.ok (true,.int (a*b)):=by simp only[iV];exact nH h _
theorem kT(h:kL b=true):iV .fdiv (.int a) (.int b)=.ok (true,.int (a/b)):=by simp only[iV];exact nH h _
theorem bV(h:decide (0<b)=true):iV .mod (.int a) (.int b)=.ok (true,.int (a%b)):=by simp only[iV];exact nH h _
theorem pI(h:decide (0<=b/\b<=1000000/\a.natAbs<2 ^ 64)=true):iV .pow (.int a) (.int b)=.ok (true,.int (a ^ b.toNat)):=by simp only[iV];exact nH h _
theorem add_l(h:decide (vs.length+ws.length<=sizeLine)=true):iV .add (.rl vs) (.rl ws)=.ok (aR (vs++ws),.rl (vs++ws)):=by simp only[iV];exact nH h _
theorem Pp:cop [] .lt (.int a) (.int b)=some (decide (a<b)):=rfl
theorem Pq:cop [] .le (.int a) (.int b)=some (decide (a<=b)):=rfl
theorem Pu:cop [] .gt (.int a) (.int b)=some (decide (b<a)):=rfl
theorem Pw:cop [] .ge (.int a) (.int b)=some (decide (b<=a)):=rfl
theorem Px:cop [] .eq (.int a) (.int b)=some (decide (a=b)):=by
 show some (a==b)=_
 congr 1
theorem Py:cop [] .ne (.int a) (.int b)=some (!decide (a=b)):=by
 show some (!(a==b))=_
 congr 1
theorem Mq:cop [] .isn v .non=some (mW v):=by cases v<;>rfl
theorem Mr:cop [] .ntn v .non=some (!mW v):=by cases v<;>rfl
theorem Ms:cG [] (.bl t)=some t:=rfl
theorem Mt:cG [] (.int a)=some (a != 0):=rfl
theorem Mv:cG [] (.rl vs)=some (!vs.isEmpty):=rfl
theorem Mw:cG [] (.tup vs)=some (!vs.isEmpty):=rfl
theorem Mx:fY .len [.rl vs]=.ok (true,.int vs.length):=rfl
theorem My:fY .len [.tup vs]=.ok (true,.int vs.length):=rfl
theorem Mz:fY .min [.int a,.int b]=.ok (true,.int (if b<a then b else a)):=rfl
theorem MA:fY .max [.int a,.int b]=.ok (true,.int (if b>a then b else a)):=rfl
theorem I0:fY .min [.tup [.int a,.int b]]=.ok (true,.int (min a b)):=rfl
theorem Ja:fY .max [.tup [.int a,.int b]]=.ok (true,.int (max a b)):=rfl
theorem Jb:fY .list [.rl vs]=.ok (aR vs,.rl vs):=rfl
theorem Jc:fY .list [.tup vs]=.ok (aR vs,.rl vs):=rfl
theorem MB:fY .int [.bl t]=.ok (true,.int (if t=true then 1 else 0)):=rfl
theorem wM(h:gY vs a=some v):rW [] (.rl vs) (.int a)=some v:=h
theorem j6(h:gY vs a=some v):rW [] (.tup vs) (.int a)=some v:=h
end
theorem DK:gY (v::vs) (0:Int)=some v:=by
 have:=lW (xs:=v::vs) (j:=0) (v:=v) rfl;exact this
theorem Bb:gY (u::v::vs) (1:Int)=some v:=by
 have:=lW (xs:=u::v::vs) (j:=1) (v:=v) rfl;exact this
theorem kU{T:String}{t:String}(h1:rX [] v=some t)(h2:rY T t=some true):fY (.isin T) [v]=.ok (true,.bl true):=by
 show pb (pl (rX [] v)) _=_;rw[h1,l8,fu,h2];rfl
theorem uQ{T:String}{t:String}(h1:rX [] v=some t)(h2:rY T t=some false):fY (.isin T) [v]=.ok (true,.bl false):=by
 show pb (pl (rX [] v)) _=_;rw[h1,l8,fu,h2];rfl
theorem ne_self(h:toD 16 [] d=some p)(hp:p.canLay0=true):cop [] .ne d d=some false:=by
 simp only[cop,yK,h,bind_some];rw[SeqAt.eqv_refl p hp];rfl
theorem MC:fG .seq [.tup vs]=some vs:=rfl
theorem j7:fG .seq [.rl vs]=some vs:=rfl
theorem Jd:AI .seq ds=fG .seq ds:=rfl
theorem Je:AI .range ds=fG .range ds:=rfl
theorem Jf:AI .enum ds=fG .enum ds:=rfl
theorem EU:fG .enum [.rl vs]=some (bI 0 vs):=rfl
theorem EW{lo hi:Option Int}:yr (.rl vs) lo hi=.ok (aR (eE vs lo hi),.rl (eE vs lo hi)):=rfl
theorem fy{i:Nat}:dM (.one i) d env=some (env.set i (some (.sh,d))):=rfl
theorem Bc{i j:Nat}:dM (.tup [i,j]) (.tup [d,e]) env=some ((env.set i (some (.sh,d))).set j (some (.sh,e))):=rfl
theorem sU{α β:Type}(f:α -> β)(ds:List α)(lo hi:Option Int):eE (ds.map f) lo hi=(eE ds lo hi).map f:=by
 unfold eE;simp only[length_map,List.map_take,List.map_drop]
theorem kW:∀(i:Nat) (ds:List Val),(bI i ds).length=ds.length
 |_,[]=>rfl
 |i,d::r=>by rw[bI,UA,kW (i+1) r,UA]
theorem gp{α β γ:Type}{f:β -> Option γ}{g:α -> β}{k:α -> γ}:∀(xs:List α),(∀x∈xs,f (g x)=some (k x))->bM f (xs.map g)=some (xs.map k)
 |[],_=>rfl
 | x::r,h=>by
  rw[T6,bM,h x TU,gp r λy hy=>h y (TM _ hy)];rfl
theorem ints_map(xs:List Int):aM (xs.map .int)=some xs:=by
 have:=gp (f:=λv=>match v with|.int i=>some i|_=>none) (g:=Val.int) (k:=id) xs λ_ _=>rfl;rw[map_id]at this;exact this
theorem uR(lY:List (List Int))(h:∀k∈lY,k≠[])(hl:lY.length<64):eY (lY.map ju)=some ((jO lY).map ju):=by
 unfold eY;rw[T4 (by rw[TQ];exact hl)];cases lY with
 |nil=>rfl
 |cons k r=>
  have e:aM (List.map ju (k::r))=none:=by unfold aM ;rw[T6,bM];rfl
  rw[e];have e2:jc (List.map ju (k::r))=some (k::r):=by
   have:=gp (f:=λv=>match v with|.tup vs=>if vs.isEmpty then none else aM vs|_=>none) (g:=ju) (k:=id) (k::r) λx hx=>by
    have hx:=h x hx;show (if (x.map Val.int).isEmpty=true then none else aM (x.map .int))=some x;rw[TX (by simpa using hx),ints_map]
   rw[map_id]at this;exact this
  show (jc (List.map ju (k::r))).bind _=_;rw[e2];rfl
theorem uS{α:Type}(xs:List α):dw (xs.map λ_=>Val.bl true)=some (xs.map λ_=>true):=gp (g:=λ_=>Val.bl true) (k:=λ_=>true) xs λ_ _=>rfl
theorem all_true{α:Type}(xs:List α):fY .all [.rl (xs.map λ_=>Val.bl true)]=.ok (true,.bl true):=by
 show pb (pl (dw _)) _=_;rw[uS,l8,fu]
 congr 3
 simp
theorem Be{jl:aD}{β:Type}{k:qv->Pr β}(G:Pr β -> Prop)(Q:List Val->aD->Prop)(h0:Q [] jl)
  (step:∀(pre:List Val) (x:Val) (env:aD),x∈xs->pre.length<xs.length->Q pre env->∃env',body x env=.ok (.nx env')/\Q (pre++[x]) env')
  (post:∀env',Q xs env'->G (k (.nx env'))):G (pb (gh body xs jl) k):=by
 obtain⟨env',e,q⟩:=sS Q xs [] jl h0 (λpre x post env ep q=>by
  rw[Wx]at ep;obtain⟨env',e,q'⟩:=step pre x env (by rw[ep];simp) (by rw[ep];simp) q;exact⟨env',.inl e,q'⟩)
 rw[e,fu];exact post env' (by rw[Wx]at q;exact q)
theorem uT{α:Type}{n:Nat}(f:α -> Val)(g:α -> PyData)(xs:List α)(e:∀x∈xs,toD n h (f x)=some (g x)):toD (n+1) h (.rl (xs.map f))=some (.list (xs.map g)):=by
 show (bM (toD n h) _).bind _=_;rw[gp xs e];rfl
theorem DL{α:Type}{n:Nat}(f:α -> Val)(g:α -> PyData)(xs:List α)(e:∀x∈xs,toD n h (f x)=some (g x)):toD (n+1) h (.tup (xs.map f))=some (.tuple (xs.map g)):=by
 show (bM (toD n h) _).bind _=_;rw[gp xs e];rfl
theorem sV{n:Nat}(ks:List Int):toD (n+2) h (ju ks)=some (.tuple (ks.map .int)):=DL _ _ ks λ_ _=>rfl
theorem fz{α:Type}(g:α -> PyData):∀(xs:List α),(∀x∈xs,(g x).canLay0=true)->PyData.canLayAll0 (xs.map g)=true
 |[],_=>by simp[PyData.canLayAll0]
 | x::r,h=>by
  rw[T6,PyData.canLayAll0,h x TU,fz g r λy hy=>h y (TM _ hy)];rfl
theorem pJ{α:Type}(enc:α -> Val)(Q:List α -> aD->Prop):∀(us done:List α) (env:aD),Q done env->(∀(pre:List α) (u:α) (post:List α) (env:aD),done++us=pre++u::post->Q pre env->∃env',body (enc u) env=.ok (.nx env')/\Q (pre++[u]) env')->∃env',gh body (us.map enc) env=.ok (.nx env')/\Q (done++us) env'
 |[],done,env,q,_=>⟨env,rfl,by rw[US];exact q⟩
 | x::xs,done,env,q,h=>by
  obtain⟨env',e,q'⟩:=h done x xs env rfl q;have eq:done++x::xs=done++[x]++xs:=by simp
  obtain⟨fX,e2,q2⟩:=pJ enc Q xs (done++[x]) env' q' (by rw[<-eq];exact h);refine⟨fX,?_,by rw[eq];exact q2⟩;rw[T6,gh,e,fu];exact e2
theorem eN{α:Type}(enc:α -> Val){us:List α}{jl:aD}{β:Type}{k:qv->Pr β}(G:Pr β -> Prop)(Q:List α -> aD->Prop)(h0:Q [] jl)
  (step:∀(pre:List α) (u:α) (post:List α) (env:aD),us=pre++u::post->Q pre env->∃env',body (enc u) env=.ok (.nx env')/\Q (pre++[u]) env')
  (post:∀env',Q us env'->G (k (.nx env'))):G (pb (gh body (us.map enc) jl) k):=by
 obtain⟨env',e,q⟩:=pJ enc Q us [] jl h0 (λpre x post env ep q=>step pre x post env ep q);rw[e,fu];exact post env' q
abbrev BI(xs:List Int)(g:Int->Val):Val:=.dc (xs.map Sum.inl) (xs.map g)
def sW(g:Int->Val)(x:Int)(v:Val):Int->Val:=λy=>if y=x then v else g y
theorem Bf(xs:List Int)(g:Int->Val):(xs.map (Sum.inl:Int->Key)).zip (xs.map g)=xs.map λx=>((Sum.inl x:Key),g x):=by
 induction xs with
 |nil=>rfl
 |cons x r ih=>simp only[map_cons,zip_cons_cons,ih]
theorem Bg(xs:List Int)(g:Int->Val)(x:Int):((xs.map λx=>((Sum.inl x:Key),g x)).any λkv=>decide (kv.1=Sum.inl x))=decide (x∈xs):=by
 induction xs with
 |nil=>rfl
 |cons y r ih=>
  rw[T6,V5,ih]
  by_cases e:y=x
  ·subst e;simp
  ·have e':¬ x=y:=λh=>e h.symm;simp[e,e']
theorem DM{xs:List Int}{x:Int}(h:x∈xs):putD (xs.map Sum.inl) (xs.map g) (.inl x) v=BI xs (sW g x v):=by
 unfold putD cF;rw[Bf,Bg,T4 (by simpa using h)];unfold BI;rw[UG,UG]
 congr 1
 ·refine U5 λy _=>?_
  show ((if (Sum.inl y:Key)=Sum.inl x then ((Sum.inl y:Key),v) else (Sum.inl y,g y)).1)=_
  split<;>rfl
 ·rw[UG,UG]
  refine U5 λy _=>?_;show ((if (Sum.inl y:Key)=Sum.inl x then ((Sum.inl y:Key),v) else (Sum.inl y,g y)).2)=_;unfold sW
  by_cases e:y=x
  ·rw[T4 (by rw[e]),T4 e]
  ·rw[TX (by simpa using e),TX e]
theorem DN{xs:List Int}{x:Int}(h:x∉xs):putD (xs.map Sum.inl) (xs.map g) (.inl x) v=BI (xs++[x]) (sW g x v):=by
 unfold putD cF;rw[Bf,Bg,TX (by simpa using h)];unfold BI;simp only[map_append,List.map_map,map_cons,map_nil]
 congr 1
 congr 1
 ·refine U5 λy hy=>?_;show g y=sW g x v y;unfold sW;rw[TX (λe:y=x=>h (e▸hy))]
 ·simp[sW]
theorem pK{xs:List Int}(h:∀x∈xs,g x=g' x):BI xs g=BI xs g':=by
 unfold BI;rw[U5 h]
theorem DO(a b:Int):PyData.eqv (.int a) (.int b)=decide (a=b):=by
 show (a==b)=_
 by_cases h:a=b<;>simp[h]
theorem EY{xs:List Int}{x:Int}:cop [] .GC (.int x) (.rl (xs.map .int))=some (decide (x∈xs)):=by
 show (toD 16 [] (.rl (xs.map .int))).bind _=_;rw[uT Val.int PyData.int xs λ_ _=>rfl];show some ((xs.map PyData.int).any λy=>PyData.eqv y (.int x))=_
 congr 1
 induction xs with
 |nil=>rfl
 |cons y r ih=>
  rw[T6,V5,ih,DO]
  by_cases e:y=x
  ·subst e;simp
  ·have e':¬ x=y:=λh=>e h.symm;simp[e,e']
def iu(ns:List Int):List Int:=sortI (bA [] ns)
abbrev T3:=Int×Int×Int
def l3(t:T3):List Int:=[t.1,t.2.1,t.2.2]
def bP(t:T3):Val:=.tup [.int t.1,.int t.2.1,.int t.2.2]
def qE(x:T3):List T3->List T3
 |[]=>[x]
 |y::r=>if HT.lexLt (l3 y) (l3 x)=true then y::qE x r else x::y::r
def jg:List T3->List T3
 |[]=>[]
 |x::r=>qE x (jg r)
theorem sX(x:T3):∀l:List T3,qh (l3 x) (l.map l3)=(qE x l).map l3
 |[]=>rfl
 | y::r=>by
  rw[T6,qh,qE]
  split
  ·rw[T6,sX x r]
  ·rfl
theorem pL:∀l:List T3,jO (l.map l3)=(jg l).map l3
 |[]=>rfl
 |x::r=>by rw[T6,jO,pL r,sX];rfl
theorem kX(x:T3):∀l:List T3,(qE x l).Perm (x::l)
 |[]=>.refl _
 | y::r=>by
  rw[qE]
  split
  ·exact((kX x r).cons y).trans (List.Perm.swap ..)
  ·exact .refl _
theorem jz:∀l:List T3,(jg l).Perm l
 |[]=>.refl _
 |x::r=>(kX x _).trans ((jz r).cons x)
theorem DP(ts:List T3)(hl:ts.length<64):eY (ts.map bP)=some ((jg ts).map bP):=by
 have e:∀us:List T3,us.map bP=(us.map l3).map ju:=λus=>by rw[UG];rfl
 rw[e,uR _ (λk hk=>by obtain⟨t,_,rfl⟩:=Vj.mp hk;simp[l3]) (by rw[TQ];exact hl),pL,e]
theorem Bh(hl:ts.length<64):fY .sorted [.rl (ts.map bP)]=.ok (true,.rl ((jg ts).map bP)):=by
 show pb (pl (eY _)) _=_;rw[DP ts hl];rfl
def EZ(ts:List T3):Prop:=ts.Pairwise λa b=>a.1<b.1
theorem wN(x:T3):∀l:List T3,EZ l->(∀y∈l,y.1≠x.1)->EZ (qE x l)
 |[],_,_=>by simp[qE,EZ]
 | y::r,h,hn=>by
  unfold EZ at *;rw[UK]at h;have ny:y.1≠x.1:=hn y TU;rw[qE];have lx:HT.lexLt (l3 y) (l3 x)=decide (y.1<x.1):=by show HT.lexLt (y.1::_) (x.1::_)=_;rw[HT.eW,TX ny]
  rw[lx]
  by_cases c:y.1<x.1
  ·rw[T4 (by simpa using c),UK]
   refine⟨λz hz=>?_,wN x r h.2 λz hz=>hn z (TM _ hz)⟩
   rcases T8.mp ((kX x r).mem_iff.mp hz) with hz|hz
   ·rw[hz];exact c
   ·exact h.1 z hz
  ·rw[TX (by simpa using c),UK,UK]
   refine⟨λz hz=>?_,h⟩;have:x.1<y.1:=by omega
   rcases T8.mp hz with hz|hz
   ·rw[hz];exact this
   ·have:=h.1 z hz;omega
theorem sY:∀l:List T3,(l.map (·.1)).Nodup->EZ (jg l)
 |[],_=>.nil
 | x::r,h=>by
  rw[T6,UD]at h;refine wN x _ (sY r h.2) λy hy e=>h.1 ?_;rw[(jz r).mem_iff]at hy;exact Vj.mpr ⟨y,hy,e⟩
def turnT(t:T3):T3:=(t.1,if t.2.2<t.2.1 then t.2.2 else t.2.1,if t.2.2>t.2.1 then t.2.2 else t.2.1)
def f7(p q:Int)(ts:List T3):Val:=.tup [.tup [.int p,.int q],.rl (ts.map bP)]
theorem DQ(p q:Int)(ts:List T3):cop [] .ne (f7 p q ts) (f7 p q ts)=some false:=by
 have h1:toD 15 [] (.tup [.int p,.int q])=some (.tuple [.int p,.int q]):=rfl;have h2:toD 15 [] (.rl (ts.map bP))=some (.list (ts.map λt=>.tuple ((l3 t).map .int))):=uT bP _ ts λt _=>sV (l3 t);have h:toD 16 [] (f7 p q ts)=some (.tuple [.tuple [.int p,.int q],.list (ts.map λt=>.tuple ((l3 t).map .int))]):=by show (bM (toD 15 []) _).bind _=_;rw[bM,h1,bM,h2,bM];rfl
 refine ne_self h ?_;have hi:∀xs:List Int,PyData.canLayAll0 (xs.map PyData.int)=true:=λxs=>fz _ _ λ_ _=>by rw[PyData.canLay0]
 have h3:PyData.canLayAll0 (ts.map λt=>.tuple ((l3 t).map .int))=true:=fz _ _ λt _=>by rw[PyData.canLay0];exact hi _
 have h4:=hi [p,q];simp only[map_cons,map_nil]at h4;rw[PyData.canLay0,PyData.canLayAll0,PyData.canLay0,h4,PyData.canLayAll0,PyData.canLay0,h3,PyData.canLayAll0];rfl
theorem j8{i j k:Nat}:dM (.tup [i,j,k]) (bP t) env=some (((env.set i (some (.sh,.int t.1))).set j (some (.sh,.int t.2.1))).set k (some (.sh,.int t.2.2))):=rfl
theorem yx{α:Type}(ds:List α)(lo:Int)(n:Nat)(h:0<=lo):(eE ds (some lo) (some (lo+n))).length<=n:=by
 unfold eE HT.cP;dsimp only;rw[TX (by omega),TX (by omega)];simp only[List.length_take,List.length_drop];omega
theorem Jg:yr (bP t) (some 1) none=.ok (true,.tup [.int t.2.1,.int t.2.2]):=rfl
theorem nI{α:Type}(enc:α -> Val)(g:α -> FV):∀(us:List α),(∀u∈us,f (enc u)=.ok (some (g u)))->je f (us.map enc)=.ok (us.all λu=>(g u).1,us.map λu=>(g u).2)
 |[],_=>rfl
 | x::xs,h=>by
  rw[T6,je,h x TU,fu,nI enc g xs λy hy=>h y (TM _ hy),fu];rfl
theorem gO{α:Type}(enc dec:α -> Val)(us:List α)(h:∀u∈us,f (enc u)=.ok (some (true,dec u))):je f (us.map enc)=.ok (true,us.map dec):=by
 rw[nI enc (λu=>(true,dec u)) us h];simp
theorem DR:∀m,m<67->∀d,d<67->0<m->0<d->(m*d)%67≠0:=by decide +kernel
theorem DS{m c i j:Int}(hm:0<m/\m<67)(hi:0<=i/\i<67)(hj:0<=j/\j<67)(e:(m*i+c)%67=(m*j+c)%67):i=j:=by
 have key:∀i j:Int,0<=i->j<67->i<j->(m*i+c)%67=(m*j+c)%67->False:=by
  intro i j h0 h1 hlt e;obtain⟨a,ha⟩:=VP (show 0<=m by omega);obtain⟨d,hd⟩:=VP (show 0<=j-i by omega);have p:=DR a (by omega) d (by omega) (by omega) (by omega);have:m*j=m*i+m*(j-i):=by rw[Int.mul_sub];omega
  rw[this]at e;have e2:(m*(j-i))%67=0:=by omega
  rw[ha,hd]at e2;apply p;have:((a*d:Nat):Int)%67=0:=by rw[Int.natCast_mul];exact e2
  omega
 rcases Int.lt_trichotomy i j with h|h|h
 ·exact(key i j hi.1 hj.2 h e).elim
 ·exact h
 ·exact(key j i hj.1 hi.2 h e.symm).elim
end Hv
end
section
namespace Hv
open PySem L2 PyProof.Rows
def MD(b:List Stmt)(g:Str):Prop:=∃p1 p2 p3 p4,b=[.Assign [.Attribute (.Name "self" p1) g p2] (.Name g p3) p4]
def ME(b:List Stmt)(s0:Stmt)(cx y:Str):Prop:=∃p1 p2 p3 p4,b=[s0,.Raise (some (.Call (.Name cx p1) [.Name y p2] [] p3)) none p4]
theorem wO:∀ir,qu Φ ir:=by
 intro ir;exact IS.rec (motive_1:=λs=>qu Φ s) (motive_2:=λss=>oj Φ ss) (λ_=>Ay) (λ_ _=>EC) (λ_ _ _=>ED) (λ_ _ _=>Az) (λ_ _ _ a b=>EE a b) (λ_ _ _ _ a=>EF a) (λ_ _ _ a=>EG a) (λ_=>EH) AA EI EJ AB wc (λ_ _ _ _=>AD)
  AE (λ_ _ a b=>we a b) ir
section
variable {P:Program} {w:World} {K:Frag} {cl:Nat->Addr} {mg:Str->Option Value} {base:Heap} {k:Nat} {fs:List Row} {cons:List (Str×Val)} {tb:Tb}
theorem wQ(T:Base K cl mg cons tb)(A:dX P w ⟨K,cl⟩ mg base k fs)(S:jG N ps sc)(hr:cD (k+1) (A'.deeper (envOfC qual sc s.heap.objs.size f cdv))) :
  Aw (look fs) ⟨N,sc,fs.map (λr=>(r.1,r.2.1)),cons,tb⟩ k (fQ CX P w K mg base N qual sc f cdv A' outer s H E).yH cl (λ_ _ _=>False):=by
 refine { N:=rfl,sc:=rfl,calm:=rfl,room:=hr,jC:=λ_ _ _ z=>z,fns:=λj x n e=>?_,cls:=T.cls,CO:=T.CO,CP:=T.CP,isc:=T.isc,cons:=T.cons,blt:=T.blt,fn:=λ_=>rfl,nd:=S.nd,kind:=S.kind,xe:=PassesOwn.never };have e':(fs.map (λr=>(r.1,r.2.1)))[j]?=some (x,n):=e;rw[Ug]at e';cases er:fs[j]? with
 |none=>rw[er]at e';cases e'
 |some r=>rw[er]at e';cases e';have:=A j r er;unfold look;rw[er];exact this
theorem Jh{x qual g:Str}{st:Stmt}{f:Addr}{fd:FuncData}(F:zm K x qual st f fd)(hS:bC ["self",g] ["self",g] (af st)=true)(hg:g ≠ "self")(hb:MD (aC st) g)(hd:(g==("__debug__":Str))=false)(hcd:(g==("__classdict__":Str))=false):cE P w K mg base rm (k+1) f fd ["self",g] (vC K g):=by
 have S:=jU hS;obtain⟨p1,p2,p3,p4,hb⟩:=hb;refine F.ok S (λvs H Q E h=>?_) (λcdv A' outer s H vs Q E hr h=>?_)
 ·obtain⟨e,y,C,D,t,cd,rfl,_⟩:=h;rfl
 ·rw[hb]
  refine⟨_,lV (Gu (jk (i:=0) rfl ?_ (by decide) (by decide)) (jk (i:=1) rfl ?_ hd hcd) rfl),?_⟩
  ·rcases S.par "self" (by simp) with z|z
   ·exact .inl z
   ·exact .inr (.inl z)
  ·rcases S.par g (by simp) with z|z
   ·exact .inl z
   ·exact .inr (.inl z)
  ·obtain⟨e,y,C,D,t,cd,rfl,he,c,n,q⟩:=h;exact⟨y,rfl,.ref e,rfl,e,C,D,t,cd,rfl,he,c,n,q⟩
def Pz(B:Bd)(Φ:Fn)(n:Nat)(ir:IS)(C:Addr)(g:Str):Sp:=λxs H _ E=>∃ρ h v0 i,HR B ρ h H/\aq B.K ρ H [v0,.int i] xs /\
 Post B (λ_ _ _=>False) ρ H (λfl _ _ H'=>∃env',fl=.nx env'/\env'[1]?=some (some (.int i))/\∀dx,H' dx=none->E (.ref C) (some dx) (upd H' dx (.xd [(g,.int i)]))) (dg Φ ir ([some v0,some (.int i)]++replicate (n-2) none) h)
theorem Ji{st s0:Stmt}(T:Base K cl mg cons tb)(A:dX P w ⟨K,cl⟩ mg base (k+1) fs)(F:zm K x qual st f fd)(hS:bC N ps (af st)=true)(hps:ps.length=2)
  (hb:ME (aC st) s0 cx y) (hc:yq ⟨N,af st,fs.map (λr=>(r.1,r.2.1)),cons,tb⟩ ir s0=true) (hy:N[1]?=some y) (Sa:(y==("__debug__":Str))=false) (hyc:(y==("__classdict__":Str))=false) (Sb:JN (af st) y)
  (M:yb K C D fI Tv) (FI:cE P w K mg base rm (k+1) fI Sd QK (vC K g)) (PB:Binds K Sd QK []) (hlI:QK.length=2) (hn:findIn K (.ref C) g=some none) (hgl:(af st).names.lookup cx=some .globalImplicit) (hm:mg cx=some (.ref C)) (hdb:(cx==("__debug__":Str))=false) :
  cE P w K mg base (rO P w) (k+3) f fd ps (Pz ⟨K,cl⟩ (look fs) N.length ir C g):=by
 have S:=jU hS;obtain⟨p1,p2,p3,p4,hb⟩:=hb;obtain⟨oc,od,kV,doc,pm,an,cdv,ct,osl,rfl,lk,hcd⟩:=F.ex;refine Eg lk hcd S (λvs H Q E h=>?_) λA' outer s H vs Q E hr hsp=>?_
 ·obtain⟨ρ,h,v0,i,_,hv,_⟩:=h;rw[<-hv.length,hps];rfl
 ·have c:Aw (look fs) ⟨N,af st,fs.map (λr=>(r.1,r.2.1)),cons,tb⟩ (k+1) (fQ (rO P w) P w K mg base N qual (af st) f cdv A' outer s H E).yH cl (λ_ _ _=>False):=wQ T A S hr
  have h0:PS (fQ (rO P w) P w K mg base N qual (af st) f cdv A' outer s H E).yH s0 (tS (look fs) ⟨K,cl⟩ (λ_ _ _=>False) ir):=by exact wO ir _ (k+1) _ cl _ s0 c hc
  have h1:PS (fQ (rO P w) P w K mg base N qual (af st) f cdv A' outer s H E) s0 (tS (look fs) ⟨K,cl⟩ (λ_ _ _=>False) ir):=λpins s σ H D I hw=>
   Ur (h0 pins s σ H D (I.ku _) hw) (λ_ _ q=>q.eV) λ_ _ z=>False.elim z
  rw[hb];refine⟨_,gb h1 (lV (zR (g:=g) M FI hr PB hlI hn hgl hm (bL (jk (i:=1) hy Sb Sa hyc) gZ rfl) hdb rfl)),?_⟩;obtain⟨ρ,h,v0,i,r,hv,p⟩:=hsp;have lv:vs.length=2:=by rw[<-hv.length];rfl
  have lN:2<=N.length:=by have:=(TJ.mp hy).1;omega
  refine⟨ρ,[some v0,some (.int i)]++replicate (N.length-2) none,h,λj v e=>?_,?_,r,?_⟩
  rotate_left 2
  ·revert p
   cases dg (look fs) ir ([some v0,some (.int i)]++replicate (N.length-2) none) h with
   |no=>exact λp=>p
   |exc c ws h'=>exact λp=>p
   |ok fl h'=>intro p ρ' H' gr r';obtain⟨env',rfl,e1,q⟩:=p ρ' H' gr r';intro σ' er _;obtain⟨z,ez,rz⟩:=er 1 _ e1;have rz:z=.int i:=rz;subst rz;exact⟨_,ez,_,rfl,q⟩
  ·match vs,lv with
   |[x0,x1],_=>
    obtain⟨y0,q0,r0⟩:=hv.get (i:=0) rfl;obtain⟨y1,q1,r1⟩:=hv.get (i:=1) rfl
    match j,e with
    |0,e=>cases e;exact⟨y0,by show some (some x0)=_;cases q0;rfl,r0⟩
    |1,e=>cases e;exact⟨y1,by show some (some x1)=_;cases q1;rfl,r1⟩
    |j+2,e=>have e:(replicate (N.length-2) (none:Option Val))[j]?=some (some v):=e;have:=Ub e;rw[VM]at this;exact absurd this.2 (by simp)
  ·show _=(vs.map some++replicate (N.length-vs.length) none).length;rw[Ul,Ul,TQ,VX,VX,lv];rfl
end
def MF(b:List Stmt)(s4:Stmt)(fx cx g n0 n1:Str):Prop:=∃(a0 a1 a2 a3 a4 a5 a6 a7 a8 a9 b0 b1 b2 b3 b4 b5 b6 b7 b8 b9 c0 c1 c2 c3 c4 c5 c6 c7 c8 c9 d0 d1 d2 d3 d4 d5 d6 d7:Pos) (k0 k1 k2:Nat),b =
 [.Assign [.Name "_law_what" a0] (.Constant .none k0 a1) a2,.Assign [.Name "_law_plain" a3] (.Constant (.bool false) k1 a4) a5,
   .Try [.Expr (.Call (.Name fx a6) [.Name n0 a7,.Name n1 a8] [] a9) b0]
  [.ExceptHandler (some (.Name cx b1)) (some "e")
   [.Assign [.Name "_law_what" b2] (.Attribute (.Name "e" b3) g b4) b5,
     .Assign [.Name "_law_plain" b6] (.BoolOp .And [.Call (.Name "isinstance" b7) [.Name "e" b8,.Name "NetError" b9] [] c0,.Call (.Name "isinstance" c1) [.Name "e" c2,.Name "ValueError" c3] [] c4,
      .UnaryOp .Not (.Call (.Name "isinstance" c5) [.Name "e" c6,.Tuple [.Name "Twice" c7,.Name "NoNumber" c8,.Name "Over" c9] k2 d0] [] d1) d2] d3) d4] d5] [] [] d6,s4]
def zM(o:Option (Option Val))(i:Int):Bool:=match o with
 |some (some (.int j))=>decide (j=i)
 |_=>false
theorem Jj{i:Int}(h:zM o i=true):o=some (some (.int i)):=by
 unfold zM at h;split at h
 ·rw[Ud h]
 ·cases h
def Jk(i:Int):Out Fl->Out Val
 |.ok (.nx env') h'=>if zM env'[1]? i=true then .ok (.bl true) h' else .no
 |_=>.no
def PC(Φ:Fn)(n:Nat)(ir:IS):List Val->M Val
 |[v0,.int i]=>λh=>Jk i (dg Φ ir ([some v0,some (.int i)]++replicate (n-2) none) h)
 |_=>λ_=>.no
structure MG (K:Frag) (mg:Str->Option Value) (cx g:Str) (C D C1 C2 C3:Addr):Prop where
 G:uE K C
 N:CC K C
 at_:findIn K (.ref C) g=some none
 mc:mg cx=some (.ref C)
 md:mg "NetError" = some (.ref D)
 m1:mg "Twice" = some (.ref C1)
 m2:mg "NoNumber" = some (.ref C2)
 m3:mg "Over" = some (.ref C3)
 mv:mg "ValueError" = none
 mi:mg "isinstance" = none
 kd:kitOne K (.ref C) (.ref D)=some true
 kv:kitOne K (.ref C) (.type "ValueError")=some true
 kt:kitAny K (.ref C) [.ref C1,.ref C2,.ref C3]=some false
section
variable {X:Cx} {C D C1 C2 C3:Addr} {cx g:Str}
def Se(g:Str)(C C1 C2 C3:Addr):TS:=λEn σ H=>∃a T dx v,σ[4]?=some (some (.ref a))/\H a=some (.ext (rP a C T dx))/\H dx=some (.xd [(g,v)])/\5 <= σ.length /\
 ∀p,H p=none->En.nx ((σ.set 2 (some v)).set 3 (some (.bl true))) (upd H p (.tup [.ref C1,.ref C2,.ref C3]))
theorem uU:bootBuiltins "isinstance" = some (.builtin "isinstance"):=by decide +kernel
theorem Jl:bootBuiltins "ValueError" = some (.type "ValueError"):=by decide +kernel
theorem MH(Kx:MG X.K X.mg cx g C D C1 C2 C3)(hN:X.N=(["_law_net_here","_law_number_here","_law_what","_law_plain","e"]:List Str))(hl:∀x∈X.N,X.env.scope.names.lookup x=some .local)
  (hgl:∀x∈(["isinstance","NetError","ValueError","Twice","NoNumber","Over"]:List Str),X.env.scope.names.lookup x=some .globalImplicit) {b2 b3 b4 b5 b6 b7 b8 b9 c0 c1 c2 c3 c4 c5 c6 c7 c8 c9 d0 d1 d2 d3 d4:Pos} {k2:Nat} (hb:∀p,attributeBase (.Name "e" p) g X.env (eval (.Name "e" p) X.env)=eval (.Name "e" p) X.env) :
  pQ X [.Assign [.Name "_law_what" b2] (.Attribute (.Name "e" b3) g b4) b5,
     .Assign [.Name "_law_plain" b6] (.BoolOp .And [.Call (.Name "isinstance" b7) [.Name "e" b8,.Name "NetError" b9] [] c0,.Call (.Name "isinstance" c1) [.Name "e" c2,.Name "ValueError" c3] [] c4,
      .UnaryOp .Not (.Call (.Name "isinstance" c5) [.Name "e" c6,.Tuple [.Name "Twice" c7,.Name "NoNumber" c8,.Name "Over" c9] k2 d0] [] d1) d2] d3) d4] (Se g C C1 C2 C3):=by
 have nd:X.N.Nodup:=by rw[hN];decide
 have i2:X.N[2]?=some ("_law_what":Str):=by rw[hN];rfl
 have i3:X.N[3]?=some ("_law_plain":Str):=by rw[hN];rfl
 have i4:X.N[4]?=some ("e":Str):=by rw[hN];rfl
 have l2:=hl _ (Ub i2);have l3:=hl _ (Ub i3);have l4:=hl _ (Ub i4);have ev:∀p,PE X (.Name "e" p) (Kc 4):=λp=>jk i4 (.inl l4) (by decide) (by decide);have h:=gb (kB (pos:=b5) (pe_xf (pos:=b4) (ev b3) (hb b3)) (fK (pos:=b2) nd i2 (.inl l2) (.inr l2)) rfl rfl rfl)
  (lV (kB (pos:=d4) (tU (pos:=d3) (cu (pos:=c0) (p:=b7) rS (hgl _ (by simp)) Kx.mi uU (bL (ev b8) (bL (jD (pos:=b9) (v:=.ref D) (hgl _ (by simp)) Kx.md rfl (by decide)) gZ rfl) rfl) (by decide) (by decide) rfl rfl)
   (tU (cu (pos:=c4) (p:=c1) rS (hgl _ (by simp)) Kx.mi uU (bL (ev c2) (bL (ve (pos:=c3) (v:=.ty "ValueError") (hgl _ (by simp)) Kx.mv Jl rfl (by decide) (by decide)) gZ rfl) rfl) (by decide) (by decide) rfl rfl)
    (tR (yP (pos:=d2) (cu (pos:=d1) (p:=c5) zV (hgl _ (by simp)) Kx.mi uU (bL (ev c6) (bL (yZ (pos:=d0) (x1:=k2) (bL (jD (pos:=c7) (v:=.ref C1) (hgl _ (by simp)) Kx.m1 rfl (by decide)) (bL (jD (pos:=c8) (v:=.ref C2) (hgl _ (by simp)) Kx.m2 rfl (by decide)) (bL (jD (pos:=c9) (v:=.ref C3) (hgl _ (by simp)) Kx.m3 rfl (by decide)) gZ rfl) rfl) rfl)) gZ rfl) rfl) (by decide) (by decide) rfl rfl)))))
   (fK (pos:=b6) nd i3 (.inl l3) (.inr l3)) rfl rfl rfl))
 refine pQ.imp h λEn σ H q=>?_;obtain⟨a,T,dx,v,e4,ea,ed,l5,q⟩:=q;have PD:(σ.set 2 (some v))[4]?=some (some (.ref a)):=by rw[TN (by decide)];exact e4
 have ty:OX X.K H (.ref a) C:=⟨a,T,dx,[(g,v)],rfl,ea,ed,Kx.G⟩;refine⟨_,e4,a,C,T,dx,[(g,v)],v,rfl,ea,ed,Kx.G,Kx.at_,by simp,?_⟩;refine⟨_,PD,_,.ref D,.ref D,C,true,rfl,λu z=>z,ty,Kx.kd,true,rfl,?_⟩;rw[T4 rfl];refine⟨_,PD,_,.ty "ValueError",.type "ValueError",C,true,rfl,λu z=>z,ty,Kx.kv,true,rfl,?_⟩;rw[T4 rfl];refine⟨_,PD,⟨by show 3<=_;decide,λp hp=>?_⟩⟩;have na:a≠p:=ay ea hp;have nx:dx≠p:=ay ed hp;refine⟨.ref a,p,[C1,C2,C3],C,false,rfl,av,⟨a,T,dx,[(g,v)],rfl,by rw[aj na];exact ea,by rw[aj nx];exact ed,Kx.G⟩,Kx.kt,false,rfl,?_⟩;exact q p hp
end
section
variable {P:Program} {w:World} {K:Frag} {cl:Nat->Addr} {mg:Str->Option Value} {base:Heap} {k:Nat} {fs:List Row} {cons:List (Str×Val)} {tb:Tb}
abbrev MI:List Str:=["_law_net_here","_law_number_here","_law_what","_law_plain","e"]
abbrev QL:List Str:=["isinstance","NetError","ValueError","Twice","NoNumber","Over"]
theorem PF(h1:H a=none)(h2:H T=none)(ne:T≠a):Gr ρ H ρ (o8 H a C T dx):=by
 unfold o8;exact(Gr.side h1).trans (Gr.side (by rw[aj ne];exact h2))
theorem PJ(r:HR B ρ h H)(h1:H a=none)(h2:H T=none)(ne:T≠a):HR B ρ h (o8 H a C T dx):=by
 unfold o8;exact(r.side h1).side (by rw[aj ne];exact h2)
theorem Jm{st s4:Stmt}{f fE C D C1 C2 C3:Addr}{n:Nat}(T:Base K cl mg cons tb)(A:dX P w ⟨K,cl⟩ mg base k fs)(F:zm K x qual st f fd)
  (hS:bC MI ["_law_net_here","_law_number_here"] (af st)=true)
  (hb:MF (aC st) s4 fx cx g "_law_net_here" "_law_number_here") (hc:yq ⟨MI,af st,fs.map (λr=>(r.1,r.2.1)),cons,tb⟩ QM s4=true)
  (hR:∀v0 i h,dg (look fs) QM [some v0,some (.int i),some (.int i),some (.bl true),none] h=.ok (.rt (.bl true)) h)
  (hl:∀x∈MI,(af st).names.lookup x=some .local) (hgl:∀x∈fx::cx::QL,(af st).names.lookup x=some .globalImplicit)
  (Kx:MG K mg cx g C D C1 C2 C3) (FE:cE P w K mg base (rO P w) (k+1) fE Sf Sg (Pz ⟨K,cl⟩ (look PK) n ir C g)) (Sh:Binds K Sf Sg []) (Si:mg fx=some (.ref fE)) (Sj:keepIn K (.ref fE)=true)
  (hfd:(fx==("__debug__":Str))=false) (hcd:(cx==("__debug__":Str))=false) :
  cE P w K mg base rm (k+2) f fd ["_law_net_here","_law_number_here"] (su ⟨K,cl⟩ 2 (PC (look PK) n ir)):=by
 have S:=jU hS;obtain⟨a0,a1,a2,a3,a4,a5,a6,a7,a8,a9,b0,b1,b2,b3,b4,b5,b6,b7,b8,b9,c0,c1,c2,c3,c4,c5,c6,c7,c8,c9,d0,d1,d2,d3,d4,d5,d6,d7,k0,k1,k2,hb⟩:=hb;refine F.ok S (λvs H Q E h=>?_) (λcdv A' outer s H vs Q E hr h=>?_)
 ·obtain⟨ρ,h,ws,h1,_,h2,_⟩:=h;rw[<-h2.length,h1];rfl
 ·have c:=wQ (CX:=rm) (outer:=outer) (H:=H) (E:=E) T A S hr
  have Sk:=wO QM _ k _ cl _ s4 c hc;have l0:=hl ("_law_net_here":Str) (by simp);have l1:=hl ("_law_number_here":Str) (by simp);have l2:=hl ("_law_what":Str) (by simp);have l3:=hl ("_law_plain":Str) (by simp);have l4:=hl ("e":Str) (by simp);rw[hb];refine⟨_,gb (kB (yO (j:=k0) (pos:=a1)) (fK (pos:=a0) (i:=2) S.nd rfl (.inl l2) (.inl rfl)) rfl rfl rfl) (gb (kB (vd (b:=false) (j:=k1) (pos:=a4)) (fK (pos:=a3) (i:=3) S.nd rfl (.inl l3) (.inl rfl)) rfl rfl rfl)
   (gb (GA (i:=4) rfl rfl FE hr (hgl _ (by simp)) Si Sj Sh (bL (jk (i:=0) rfl (.inl l0) (by decide) (by decide)) (bL (jk (i:=1) rfl (.inl l1) (by decide) (by decide)) gZ rfl) rfl) hfd rfl rfl rfl (hgl _ (by simp)) Kx.mc hcd Kx.N S.nd rfl l4
    λa=>MH (X:=((fQ rm P w K mg base MI qual (af st) f cdv A' outer s H E).yH.held (.ref a)).yH) Kx rfl hl (λx hx=>hgl x (TM _ (TM _ hx))) λp=>rfl) (lV Sk))),?_⟩
  obtain⟨ρ,h,ws,lw,r,hv,p⟩:=h
  match ws,lw with
  |[v0,v1],_=>
  cases v1 with
  |int i=>
   match vs,hv with
   |[x0,x1],hv=>
   obtain⟨y0,q0,r0⟩:=hv.get (i:=0) rfl;obtain⟨y1,q1,r1⟩:=hv.get (i:=1) rfl;cases q0;cases q1;have r1:x1=.int i:=r1;subst r1;refine⟨x0,rfl,.int i,rfl,ρ,h,v0,i,r,hv,?_⟩;have p:Post ⟨K,cl⟩ (λ_ _ _=>False) ρ H (WV K Q) (Jk i (dg (look PK) ir ([some v0,some (.int i)]++replicate (n-2) none) h)):=p;revert p;cases dg (look PK) ir ([some v0,some (.int i)]++replicate (n-2) none) h with
   |no=>exact λp=>p
   |exc c ws h'=>exact λp=>False.elim p
   |ok fl h'=>
    cases fl with
    |rt v=>exact λp=>p.elim
    |bk v=>exact λp=>p.elim
    |ct v=>exact λp=>p.elim
    |nx env'=>
     intro p ρ1 H1 g1 hr1
     by_cases ci:zM env'[1]? i=true
     ·have p:Post ⟨K,cl⟩ (λ_ _ _=>False) ρ H (WV K Q) (if zM env'[1]? i=true then .ok (.bl true) h' else .no):=p
      rw[T4 ci]at p;refine⟨env',rfl,Jj ci,λdx nd=>⟨dx,rfl,rfl,λa T na nT ne=>?_⟩⟩;have Sl:dx≠a:=λz=>by rw[<-z,av]at na;cases na
      have Sn:dx≠T:=λz=>by rw[<-z,av]at nT;cases nT
      have g2:Gr ρ1 H1 ρ1 (o8 (upd H1 dx (.xd [(g,.int i)])) a C T dx):=(Gr.side nd).trans (PF na nT ne);have hr2:HR ⟨K,cl⟩ ρ1 h' (o8 (upd H1 dx (.xd [(g,.int i)])) a C T dx):=PJ (hr1.side nd) na nT ne;refine⟨a,T,dx,.int i,rfl,vF ne,by rw[lX Sl Sn];exact av,TV 5,λp' np=>?_⟩;have g3:=g2.trans (Gr.side (ρ:=ρ1) (o:=.tup [.ref C1,.ref C2,.ref C3]) np);have So:=hr2.side (o:=.tup [.ref C1,.ref C2,.ref C3]) np;refine⟨ρ1,[some v0,some (.int i),some (.int i),some (.bl true),none],h',λj v e=>?_,rfl,So,?_⟩
      ·match j,e with
       |0,e=>cases e;exact⟨x0,rfl,VR.jd (g1.trans g3).w _ _ r0⟩
       |1,e=>cases e;exact⟨.int i,rfl,rfl⟩
       |2,e=>cases e;exact⟨.int i,rfl,rfl⟩
       |3,e=>cases e;exact⟨.bl true,rfl,rfl⟩
       |4,e=>cases e
       |j+5,e=>simp at e
      ·rw[hR];intro ρ4 H4 g4 r4 y hy;exact p ρ4 H4 ((g1.trans g3).trans g4) r4 y hy
     ·have p:Post ⟨K,cl⟩ (λ_ _ _=>False) ρ H (WV K Q) (if zM env'[1]? i=true then .ok (.bl true) h' else .no):=p;rw[TX ci]at p;exact p.elim
  |_=>exact p.elim
end
def J1(o:Option (Option (Mk×Val)))(i:Int):Bool:=match o with
 |some (some (.sh,.int j))=>decide (j=i)
 |_=>false
theorem Jo{i:Int}(h:J1 o i=true):o=some (some (.sh,.int i)):=by
 unfold J1 at h;split at h
 ·rw[Ud h]
 ·cases h
def Bj(i:Int):Pr qv->Pr FV
 |.ok (.nx aa)=>if J1 aa[1]? i=true then .ok (true,.bl true) else .no
 |_=>.no
def PM(Ψ:Nat->List Val->Pr FV)(n:Nat)(ir:IS):List Val->Pr FV
 |[d0,.int i]=>Bj i (fk Ψ (di #[ir]) #[ir] ([d0,.int i].map (λd=>some (.sh,d))++replicate (n-2) none))
 |_=>.no
theorem Jp:gf Φ #[ir] env h=dg Φ ir env h:=by
 rw[gf];unfold bnd;cases dg Φ ir env h with
 |no=>rfl
 |exc c vs h'=>rfl
 |ok f h'=>cases f<;>first|rfl|(dsimp only;rw[gf];rfl)
theorem DT{n:Nat}(hΦ:∀j,Imp (Φ j) (Ψ j))(ho:lP #[ir]=true):Imp (PC Φ n ir) (PM Ψ n ir):=λA h ds vs u q=>by
 have l:=q.length
 match ds,vs,l,q with
 |[],_,_,_=>trivial
 |[_],_,_,_=>trivial
 |_::_::_::_,_,_,_=>unfold PM;split<;>first|trivial|(rename_i e;cases e)
 |[d0,d1],[v0,v1],_,q=>
  cases d1 with
  |int i=>
   have e1:v1=.int i:=by obtain⟨_,_,z,_,y,_,z2,q2,_⟩:=q;cases z;cases z2;rw[Dn]at q2;exact q2
   subst e1;have s:=ET (n:=n) u q;have r:=ES (ms:=di #[ir]) hΦ #[ir] ho A h _ _ h _ s;rw[Jp]at r;show Rel A h (RV A h) (Jk i (dg Φ ir ([some v0,some (.int i)]++replicate (n-2) none) h)) (Bj i (fk Ψ (di #[ir]) #[ir] ([d0,.int i].map (λd=>some (.sh,d))++replicate (n-2) none)));have r:fq A h _ (dg Φ ir ([some v0,some (.int i)]++replicate (n-2) none) h) (fk Ψ (di #[ir]) #[ir] ([d0,.int i].map (λd=>some (.sh,d))++replicate (n-2) none)):=r;revert r;generalize fk Ψ (di #[ir]) #[ir] ([d0,.int i].map (λd=>some (.sh,d))++replicate (n-2) none)=pp;intro r;cases pp with
   |no=>exact UB
   |exc c es=>exact UB
   |ok f=>
    obtain⟨g,h',e,rr⟩:=r;rw[e];cases f with
    |rt p=>exact UB
    |bk p=>exact UB
    |ct p=>exact UB
    |nx aa=>
     cases g with
     |nx env'=>
      obtain⟨O',s',_⟩:=rr;show Rel A h (RV A h) (if zM env'[1]? i=true then .ok (.bl true) h' else .no) (if J1 aa[1]? i=true then .ok (true,.bl true) else .no)
      by_cases c:J1 aa[1]? i=true
      ·rw[T4 c];obtain⟨v,e1,dn,_⟩:=s'.sh 1 .sh (.int i) (Jo c) rfl;rw[Dn]at dn;subst dn;rw[T4 (by rw[e1];simp[zM])];exact⟨_,h',rfl,s'.pre,by show Dn _ _ (Val.bl true) _;rw[Dn],λ_=>by show Dn _ _ (Val.bl true) _;rw[Dn]⟩
      ·rw[TX c];trivial
     |_=>exact rr.elim
  |_=>trivial
section
variable {Φ:Fn} {a b:IE} {env:Env} {h:Hs} {u:Bool}
theorem uV(e1:aG Φ a env h=.ok (.bl true) h)(e2:aG Φ b env h=.ok (.bl u) h):aG Φ (.and a b) env h=.ok (.bl u) h:=by
 rw[aG];simp only[bnd,e1,ly,ret,if_true,e2]
end
abbrev MJ:IS:=.ret (.and (!3) (.and (.blt (.isin "int") #[!2]) (.and (.not (.blt (.isin "bool") #[!2])) (.cmp .eq (!2) (!1)))))
theorem Jq(v0:Val)(i:Int)(h:Hs):dg Φ MJ [some v0,some (.int i),some (.int i),some (.bl true),none] h=.ok (.rt (.bl true)) h:=by
 have b0:aG Φ (!3) [some v0,some (.int i),some (.int i),some (.bl true),none] h=.ok (.bl true) h:=by rw[aG];rfl
 have v2:aZ Φ #[!2] [some v0,some (.int i),some (.int i),some (.bl true),none] h=.ok [.int i] h:=by rw[aZ,aG,aZ];rfl
 have b1:aG Φ (.blt (.isin "int") #[!2]) [some v0,some (.int i),some (.int i),some (.bl true),none] h=.ok (.bl true) h:=by rw[aG];unfold bnd;rw[v2];rfl
 have b2:aG Φ (.not (.blt (.isin "bool") #[!2])) [some v0,some (.int i),some (.int i),some (.bl true),none] h=.ok (.bl true) h:=by rw[aG,aG];unfold bnd;rw[v2];rfl
 have b3:aG Φ (.cmp .eq (!2) (!1)) [some v0,some (.int i),some (.int i),some (.bl true),none] h=.ok (.bl true) h:=by rw[aG,aG,aG];show Out.ok (Val.bl (PyData.eqv (.int i) (.int i))) h=_;rw[show PyData.eqv (.int i) (.int i)=true by simp[PyData.eqv]]
 rw[dg];unfold bnd;rw[uV b0 (uV b1 (uV b2 b3))];rfl
end Hv
end
section
namespace Hv
open PySem L2
def bS(aa:aD):aD:=aa.map λo=>match o with
 |some (.nw,.tup _)=>none
 |some (_,d)=>some (.sh,d)
 |none=>none
def gS(aa:aD):aD:=aa.map λo=>match o with
 |some (.sh,d)=>some (.sh,d)
 |_=>none
def yL(Ψ:Nat->List Val->Pr FV)(e:IE)(env:aD):Pr FV:=match aX Ψ e (gS env) with
 |.ok x=>.ok x
 |_=>pb (aX Ψ e (bS env)) λx=>pg x.1 (.ok x)
def Jr(_:IE)(_:uF)(_:Ik)(_:gc):Option (Nat×Nat):=none
def nJ:List Val->Option (List (List Int)):=bM λv=>match v with
 |.rl es=>aM es
 |_=>none
def PN(env:aD)(iq:Nat×Nat):Pr qv:=match env[iq.1]? with
 |some (some (.ow,.rl ds))=>pb (pl (nJ ds)) λls=>pg ((ls.all λl=>decide (l.length+ls.length<sizeLine))&&decide (iq.2<env.length)) (.ok (.nx ((env.set iq.1 none).set iq.2 none)))
 |_=>.no
def new2(_:IE):Option (IE×IE):=none
inductive XK
 |app (i:Nat) (a:IE)
 |apI (i:Nat) (j:Int) (a:IE)
 |ext (i:Nat) (a:IE)
 |rem (i:Nat) (j a:IE)
def XK.ie:XK->IE
 |.app i a=>.met .append (.var i) #[a]
 |.apI i j a=>.met .append (.idx (.var i) (.cst (.int j))) #[a]
 |.ext i a=>.met .extend (.var i) #[a]
 |.rem i j a=>.met .remove (.idx (.var i) j) #[a]
def XK.at:XK->Nat
 |.app i _=>i
 |.apI i _ _=>i
 |.ext i _=>i
 |.rem i _ _=>i
def xV:IE->Option Nat
 |.var i=>some i
 |_=>none
def xX:IE->Option (IE×IE)
 |.idx a b=>some (a,b)
 |_=>none
def xI:IE->Option Val
 |.cst d=>some d
 |_=>none
def xM:IE->Option (Me×IE×jt)
 |.met m a es=>some (m,a,es)
 |_=>none
def xO:jt->Option IE
 |.cons a .nil=>some a
 |_=>none
def xJ(o:IE):Option (Nat×Int):=(xX o).bind λy=>(xV y.1).bind λx=>(xI y.2).bind λd=>(iy d).bind λj=>some (x,j)
def Sq:Me->IE->IE->Option XK
 |.append,a,x=>(match xV a with|some i=>some (.app i x)|none=>(xJ a).bind λy=>some (.apI y.1 y.2 x))
 |.extend,a,x=>(xV a).bind λi=>some (.ext i x)
 |.remove,a,x=>(xX a).bind λy=>(xV y.1).bind λi=>some (.rem i y.2 x)
 |_,_,_=>none
def MK(e:IE):Option XK:=(xM e).bind λm=>(xO m.2.2).bind λx=>Sq m.1 m.2.1 x
section
variable {e:IE}
theorem DU{i:Nat}(h:xV e=some i):e=.var i:=by
 cases e<;>first|(cases h;rfl)|exact nomatch (show none=some _ from h)
theorem ML(h:xX e=some y):e=.idx y.1 y.2:=by
 cases e<;>first|(cases h;rfl)|exact nomatch (show none=some _ from h)
theorem PR(h:xI e=some d):e=.cst d:=by
 cases e<;>first|(cases h;rfl)|exact nomatch (show none=some _ from h)
theorem PU(h:xM e=some y):e=.met y.1 y.2.1 y.2.2:=by
 cases e<;>first|(cases h;rfl)|exact nomatch (show none=some _ from h)
theorem PV(h:xO es=some e):es=.cons e .nil:=by
 cases es with
 |nil=>cases h
 |cons a r=>
  cases r with
  |nil=>cases h;rfl
  |cons _ _=>cases h
theorem MM(h:xJ e=some y):e=.idx (.var y.1) (.cst (.int y.2)):=by
 obtain⟨z,h1,h⟩:=Tz.mp h;obtain⟨x,h2,h⟩:=Tz.mp h;obtain⟨d,h3,h⟩:=Tz.mp h;obtain⟨j,h4,h⟩:=Tz.mp h;cases h;rw[ML h1,DU h2,PR h3];cases d<;>first|(cases h4;rfl)|cases h4
theorem MN(h:MK e=some k):e=k.ie:=by
 obtain⟨⟨m,a,es⟩,h1,h⟩:=Tz.mp h;obtain⟨x,h2,h⟩:=Tz.mp h;rw[PU h1,PV h2];clear h1 h2;cases m with
 |append=>
  cases h3:xV a with
  |some i=>change (match xV a with|some i=>some (XK.app i x)|none=>(xJ a).bind λy=>some (XK.apI y.1 y.2 x))=some k at h;rw[h3]at h;cases h;rw[DU h3];rfl
  |none=>change (match xV a with|some i=>some (XK.app i x)|none=>(xJ a).bind λy=>some (XK.apI y.1 y.2 x))=some k at h;rw[h3]at h;obtain⟨y,h4,h⟩:=Tz.mp h;cases h;rw[MM h4];rfl
 |extend=>obtain⟨i,h3,h⟩:=Tz.mp h;cases h;rw[DU h3];rfl
 |remove=>obtain⟨y,h3,h⟩:=Tz.mp h;obtain⟨i,h4,h⟩:=Tz.mp h;cases h;rw[ML h3,DU h4];rfl
 |_=>cases h
end
def NI(Ψ:Nat->List Val->Pr FV):XK->aD->Pr qv
 | .app i a,env=>match env[i]? with
  |some (some (.ow,.rl ds))=>pb (aX Ψ a (bS env)) λx=>pg (decide (ds.length<sizeLine)) (.ok (.nx (env.set i (if aR (ds++[x.2])=true then some (.ow,.rl (ds++[x.2])) else none))))
  |_=>.no
 |.apI ..,_=>.no
 |.ext ..,_=>.no
 |.rem ..,_=>.no
def Ss(_:Nat->List Val->Pr FV)(x:Nat)(j:Int)(i v:IE)(_:aD):Pr qv:=.no
def NJ(Ψ:Nat->List Val->Pr FV)(x:Nat)(i v:IE)(env:aD):Pr qv:=match env[x]? with
 |some (some (.ow,.dc ks ds))=>pg (aR ds) (pb (aX Ψ v (bS env)) λw=>pg (jV w.2) (pb (aX Ψ i (bS env)) λz=>pb (pl (keyOf z.2)) λk=>pg (decide (ks.length<sizeLine)) (.ok (.nx (env.set x (some (.ow,putD ks ds k w.2)))))))
 |_=>.no
mutual
noncomputable def cj(Ψ:Nat->List Val->Pr FV)(sp:List Nat):IS->aD->Pr qv
 | .expr e,env=>match MK e with
  |some k=>NI Ψ k env
  |none=>.no
 | .asg p e,env=>match p with
  | .one i=>if sp.contains i=true then (match new2 e with
    |some ab=>pb (aX Ψ ab.1 (bS env)) λx=>pb (aX Ψ ab.2 (bS env)) λy=>pb (pl (nJ [x.2,y.2])) λ_=>pg (x.1&&y.1) (.ok (.nx (env.set i (some (.nw,.rl [x.2,y.2])))))
    |none=>pb (aX Ψ e (bS env)) λx=>pg x.1 (.ok (.nx (env.set i (some (.ow,x.2))))))
    else pb (yL Ψ e env) λx=>.ok (.nx (env.set i (some (.sh,x.2))))
  |.tup is=>pb (yL Ψ e env) λx=>pb (pl (dM (.tup is) x.2 env)) λenv'=>.ok (.nx env')
 | .iu o i v,env=>match xJ o with
  |some y=>Ss Ψ y.1 y.2 i v env
  | none=>(match xV o with
   |some x=>NJ Ψ x i v env
   |none=>.no)
 |.iff c a b,env=>pb (aX Ψ c (bS env)) λx=>pb (pl (cG [] x.2)) λt=>if t=true then dP Ψ sp a env else dP Ψ sp b env
 | .for p k it body,env=>match it with
  | .cons e .nil=>match Jr e p k body with
   |some iq=>PN env iq
   |none=>pb (yL Ψ e env) λx=>pb (pl (fG k [x.2])) λxs=>gh (λx env=>pb (pl (dM p x env)) λenv'=>dP Ψ sp body env') xs env
  |_=>.no
 |.ret e,env=>pb (aX Ψ e (bS env)) λp=>.ok (.rt p)
 |.brk,env=>.ok (.bk env)
 |.cnt,env=>.ok (.ct env)
 |.pass,env=>.ok (.nx env)
 |.aug ..,_=>.no
 |.whl ..,_=>.no
 |.zW,_=>.no
 |.never,_=>.no
 |.setF ..,_=>.no
noncomputable def dP(Ψ:Nat->List Val->Pr FV)(sp:List Nat):gc->aD->Pr qv
 |.nil,env=>.ok (.nx env)
 | .cons s r,env=>pb (cj Ψ sp s env) λf=>match f with
  |.nx env'=>dP Ψ sp r env'
  |f=>.ok f
end
mutual
noncomputable def PX:IS->List Nat
 |.expr e=>(match MK e with|some k=>[k.at]|none=>[])
 |.iu o _ _=>(match xJ o with|some y=>[y.1]|none=>(match xV o with|some x=>[x]|none=>[]))
 |.iff _ a b=>jh a++jh b
 | .for p k it b=>match it with
  | .cons e .nil=>match Jr e p k b with
   |some iq=>[iq.1]
   |none=>jh b
  |_=>jh b
 |_=>[]
noncomputable def jh:gc->List Nat
 |.nil=>[]
 |.cons s r=>PX s++jh r
end
def nK(Ψ:Nat->List Val->Pr FV)(n:Nat)(body:gc)(ds:List Val):Pr FV :=
 pb (dP Ψ (jh body) body (ds.map (λd=>some (.sh,d))++replicate (n-ds.length) none)) λf=>match f with
  |.nx _=>.ok (true,.non)
  |.rt p=>.ok p
  |_=>.no
abbrev UR:=Nat->Nat->Prop
def AU(U:UR):AP:=λo=>match o with
 |none=>True
 |some k=>∀i,¬ U i k
def RU(U:UR)(i:Nat):AP:=λo=>match o with
 |none=>False
 |some k=>U i k
def NN(U:UR)(i:Nat)(h:Hs)(d v:Val):Prop:=∃(b:Nat) (bs:List Nat) (ds:List Val) (ls:List (List Int)),v=.ref b/\d=.rl ds/\nJ ds=some ls/\U i b/\h[b]?=some (.lst (bs.map .ref))/\bs.length=ls.length/\(b::bs).Nodup /\
 ∀(k c:Nat) (l:List Int),bs[k]?=some c->ls[k]?=some l->U i c/\h[c]?=some (.lst (l.map .int))
theorem NN.move{i:Nat}(q:NN U i h d v)(m:∀(c:Nat) (o:Ob),U i c->h[c]?=some o->U' i c/\h'[c]?=some o):NN U' i h' d v:=by
 obtain⟨b,bs,ds,ls,e1,e2,e3,e4,e5,e6,e7,e8⟩:=q;exact⟨b,bs,ds,ls,e1,e2,e3,(m b _ e4 e5).1,(m b _ e4 e5).2,e6,e7,λk c l a z=>m c _ (e8 k c l a z).1 (e8 k c l a z).2⟩
theorem sZ:∀{ds:List Val} {ls:List (List Int)},nJ ds=some ls->ds=ls.map λl=>.rl (l.map .int)
 |[],ls,e=>by simp only[nJ,bM]at e;cases e;rfl
 | d::ds,ls,e=>by
  simp only[nJ,bM]at e;obtain⟨x,e1,e⟩:=Tz.mp e;obtain⟨y,e2,e⟩:=Tz.mp e;cases e;rw[sZ (show nJ ds=some y from e2)];cases d<;>first|(cases e1;done)|skip
  rw[cK e1];rfl
theorem NN.dn{i:Nat}(q:NN U i h d v)(hA:∀k,U i k->A (some k)):Dn A h d v:=by
 obtain⟨b,bs,ds,ls,rfl,rfl,e3,e4,e5,e6,e7,e8⟩:=q;rw[sZ e3,Dn];refine .inr ⟨b,_,rfl,hA _ e4,e5,?_⟩;clear e5 e7 e3 e4
 induction ls generalizing bs with
 | nil=>cases bs with
  |nil=>rw[VS,VS,ao]
  |cons _ _=>cases e6
 |cons l ls ih=>
  cases bs with
  |nil=>cases e6
  |cons c bs=>refine ao.cons ?_ (ih bs (Nat.succ.inj e6) λk c l a z=>e8 (k+1) c l a z);rw[Dn];exact .inr ⟨c,_,rfl,hA _ (e8 0 c l rfl rfl).1,(e8 0 c l rfl rfl).2,(aL _ _ (bq l)).mpr rfl⟩
def NT(U:UR)(i:Nat)(h:Hs)(d v:Val):Prop:=∃(n:Int) (ws:List Val),d=.tup [.int n,.int ws.length]/\v=.tup ws/\∀w∈ws,∃(b:Nat) (xs:List Val),w=.ref b/\U i b/\h[b]?=some (.lst xs)/\(xs.length:Int)<=n
def NQ(U:UR)(i:Nat)(h:Hs)(d v:Val):Prop:=NN U i h d v\/NT U i h d v
theorem NQ.move{i:Nat}(q:NQ U i h d v)(m:∀(c:Nat) (o:Ob),U i c->h[c]?=some o->U' i c/\h'[c]?=some o):NQ U' i h' d v:=by
 rcases q with q|⟨n,ws,e1,e2,e3⟩
 ·exact .inl (q.move m)
 ·refine .inr ⟨n,ws,e1,e2,λw hw=>?_⟩;obtain⟨b,xs,k1,k2,k3,k4⟩:=e3 w hw;exact⟨b,xs,k1,(m b _ k2 k3).1,(m b _ k2 k3).2,k4⟩
theorem NQ.dn{i:Nat}(q:NQ U i h d v)(n:∀ds,d≠.tup ds)(hA:∀k,U i k->A (some k)):Dn A h d v:=by
 rcases q with q|⟨_,_,e1,_⟩
 ·exact q.dn hA
 ·exact(n _ e1).elim
structure SL (aa:aD) (env:Env) (h:Hs) (U:UR):Prop where
 len:aa.length=env.length
 sh:∀(i:Nat) (d:Val),aa[i]?=some (some (.sh,d))->∃v,env[i]?=some (some v)/\Dn (AU U) h d v
 un:∀(i:Nat) (d:Val),aa[i]?=some (some (.ow,d))->∃v,env[i]?=some (some v)/\Dn (RU U i) h d v
 nn:∀(i:Nat) (d:Val),aa[i]?=some (some (.nw,d))->∃v,env[i]?=some (some v)/\NQ U i h d v
 ub:∀i k,U i k->k<h.length
 E1:∀i j k,U i k->U j k->i=j
structure KU (h:Hs) (U:UR) (h':Hs) (U':UR):Prop where
 le:h.length<=h'.length
 keep:∀k,k<h.length->(∀i,¬ U i k)->h'[k]?=h[k]?/\∀i,¬ U' i k
def PY(U:UR)(i:Nat):UR:=λj k=>j≠i/\U j k
def DV(U:UR)(i n m:Nat):UR:=λj k=>if j=i then n<=k/\k<m else U j k
def f9{α β:Type}(R:α -> Hs -> β -> Prop)(o:Out β):Pr α -> Prop
 |.ok a=>∃b h',o=.ok b h'/\R a h' b
 |_=>True
def RL(h:Hs)(U:UR):qv->Hs->Fl->Prop
 |.nx ak,h',.nx env'=>∃U',SL ak env' h' U'/\KU h U h' U'
 |.bk ak,h',.bk env'=>∃U',SL ak env' h' U'/\KU h U h' U'
 |.ct ak,h',.ct env'=>∃U',SL ak env' h' U'/\KU h U h' U'
 |.rt p,h',.rt v=>RV (λ_=>True) h p h' v/\∃U',KU h U h' U'
 |_,_,_=>False
section
variable {α β γ δ:Type} {h h1 h2:Hs} {U U1 U2:UR} {aa:aD} {env:Env}
theorem bE(r:f9 R (m h) p)(k:∀a h1 b,R a h1 b->f9 R' (f b h1) (F a)):f9 R' (bnd m f h) (pb p F):=by
 unfold bnd;cases p with
 |ok a=>obtain⟨b,h1,e,q⟩:=r;rw[e];exact k a h1 b q
 |exc c es=>trivial
 |no=>trivial
theorem DW(r:Rel A h R o p):f9 (λa h' b=>h<+:h'/\R a h' b) o p:=by
 cases p with
 |ok a=>exact r
 |exc c es=>trivial
 |no=>trivial
theorem bW(r:R a h b):f9 R (ret b h) (.ok a):=⟨b,h,rfl,r⟩
theorem j9(r:∀a,o=some a->∃b,o'=some b/\R a h b):f9 R (aN o' h) (pl o):=by
 cases o with
 |none=>trivial
 |some a=>obtain⟨b,rfl,q⟩:=r a rfl;exact⟨b,h,rfl,q⟩
theorem iT{c:Bool}(r:c=true->f9 R o p):f9 R o (pg c p):=by
 unfold pg;cases c with
 |true=>rw[T4 rfl];exact r rfl
 |false=>rw[TX TH];trivial
theorem gq(r:f9 R o p)(k:∀a h' b,R a h' b->R' a h' b):f9 R' o p:=by
 cases p with
 |ok a=>obtain⟨b,h',e,r⟩:=r;exact⟨b,h',e,k a h' b r⟩
 |exc c es=>trivial
 |no=>trivial
theorem KU.refl(s:SL aa env h U)(p:h<+:h1):KU h U h1 U:=⟨p.length_le,λk hk n=>⟨gj p hk,n⟩⟩
theorem KU.trans(a:KU h U h1 U1)(b:KU h1 U1 h2 U2):KU h U h2 U2 where
 le:=Ut a.le b.le
 keep k hk n:=by obtain⟨a1,a2⟩:=a.keep k hk n;obtain⟨b1,b2⟩:=b.keep k (TY hk a.le) a2;exact⟨b1.trans a1,b2⟩
theorem RL.seq(a:KU h U h1 U1)(r:RL h1 U1 f h' g):RL h U f h' g:=by
 cases f<;>cases g<;>first|exact r.elim|(obtain⟨O',b,c⟩:=r;exact⟨O',b,a.trans c⟩)|(obtain⟨⟨b,c⟩,O',d⟩:=r;exact⟨⟨b,λz=>(c z).dB (Fr.le a.le)⟩,O',a.trans d⟩)
theorem SL.ext(s:SL aa env h U)(p:h<+:h1):SL aa env h1 U where
 len:=s.len
 sh i d e:=by obtain⟨v,k1,k2⟩:=s.sh i d e;exact⟨v,k1,k2.ext p⟩
 un i d e:=by obtain⟨v,k1,k2⟩:=s.un i d e;exact⟨v,k1,k2.ext p⟩
 nn i d e:=by obtain⟨v,k1,k2⟩:=s.nn i d e;exact⟨v,k1,k2.move λ_ _ a g=>⟨a,cU p g⟩⟩
 ub i k e:=TY (s.ub i k e) p.length_le
 E1:=s.E1
theorem SL.flat(s:SL aa env h U):ER (λ_=>True) (bS aa) env h:=λi f d q=>by
 unfold bS at q;rw[Ug]at q;cases e:aa[i]? with
 |none=>rw[e]at q;cases q
 |some o=>
  rw[e]at q;cases o with
  |none=>cases q
  |some fd=>
   obtain⟨g,d'⟩:=fd;cases g with
   |nw=>cases d'<;>first|(cases q;done)|(cases q;rw[TX (by decide)];obtain⟨v,k1,k2⟩:=s.nn i _ e;exact⟨v,k1,k2.dn (λ_ z=>nomatch z) λ_ _=>trivial⟩)
   |ow=>cases q;rw[TX (by decide)];obtain⟨v,k1,k2⟩:=s.un i _ e;exact⟨v,k1,k2.dB λ_ _=>trivial⟩
   |sh=>cases q;rw[TX (by decide)];obtain⟨v,k1,k2⟩:=s.sh i _ e;exact⟨v,k1,k2.dB λ_ _=>trivial⟩
theorem SL.hide(s:SL aa env h U):ER (AU U) (gS aa) env h:=λi f d q=>by
 unfold gS at q;rw[Ug]at q;cases e:aa[i]? with
 |none=>rw[e]at q;cases q
 |some o=>
  rw[e]at q;cases o with
  |none=>cases q
  |some fd=>
   obtain⟨g,d'⟩:=fd;cases g with
   |ow=>cases q
   |nw=>cases q
   |sh=>cases q;rw[TX (by decide)];exact s.sh i _ e
theorem SL.up(s:SL aa env h U):Up (AU U) h:=λk hk i z=>by have:=s.ub i k z;omega
theorem uW{i:Nat}:∀o,AU U o->AU (PY U i) o
 |none,_=>trivial
 |some k,n=>λj z=>n j z.2
theorem SL.gen(s:SL aa env h U){i:Nat}(hl:env'.length=env.length)(he:∀j,j≠i->env'[j]?=env[j]?)
  (mA:∀(k:Nat) (b:Ob),AU U (some k)->h[k]?=some b->AU U' (some k)/\h'[k]?=some b) (mR:∀j,j≠i->∀(k:Nat) (b:Ob),U j k->h[k]?=some b->U' j k/\h'[k]?=some b)
  (ub:∀j k,U' j k->k<h'.length) (E1:∀j l k,U' j k->U' l k->j=l)
  (at':∀m d,i<aa.length->o=some (m,d)->∃v,env'[i]?=some (some v)/\match m with
   |.sh=>Dn (AU U') h' d v
   |.ow=>Dn (RU U' i) h' d v
   |.nw=>NQ U' i h' d v):SL (aa.set i o) env' h' U':=by
 have off:∀(j:Nat) (m:Mk) (d:Val),(aa.set i o)[j]?=some (some (m,d))->(j=i/\i<aa.length/\o=some (m,d))\/(j≠i/\aa[j]?=some (some (m,d))):=λj m d e=>by
  by_cases hij:i=j
  ·subst hij
   have hi:i<aa.length:=by have:=(TJ.mp e).1;simpa using this
   rw[T5 hi]at e;cases e;exact .inl ⟨rfl,hi,rfl⟩
  ·rw[TN hij]at e;exact .inr ⟨λz=>hij z.symm,e⟩
 refine⟨by simp[s.len,hl],λj d e=>?_,λj d e=>?_,λj d e=>?_,ub,E1⟩
 ·rcases off j _ _ e with ⟨rfl,a,b⟩|⟨n,e⟩
  ·exact at' _ _ a b
  ·obtain⟨w,k1,k2⟩:=s.sh j d e;exact⟨w,(he j n).trans k1,Dn.move (λ_=>trivial) mA _ _ k2⟩
 ·rcases off j _ _ e with ⟨rfl,a,b⟩|⟨n,e⟩
  ·exact at' _ _ a b
  ·obtain⟨w,k1,k2⟩:=s.un j d e;exact⟨w,(he j n).trans k1,Dn.move (A:=RU U j) (A':=RU U' j) (λz=>False.elim z) (λk b a g=>mR j n k b a g) _ _ k2⟩
 ·rcases off j _ _ e with ⟨rfl,a,b⟩|⟨n,e⟩
  ·exact at' _ _ a b
  ·obtain⟨w,k1,k2⟩:=s.nn j d e;exact⟨w,(he j n).trans k1,k2.move λk b=>mR j n k b⟩
theorem wR{i:Nat}:∀j,j≠i->(env.set i v)[j]?=env[j]?:=λj n=>TN λz=>n z.symm
theorem SL.at_(s:SL aa env h U){i:Nat}(hi:i<aa.length):(env.set i (some v))[i]?=some (some v):=T5 (by rw[<-s.len];exact hi)
theorem SL.set(s:SL aa env h U){i:Nat}(q:Dn (AU U) h d v):SL (aa.set i (some (.sh,d))) (env.set i (some v)) h (PY U i)/\KU h U h (PY U i) :=
 ⟨s.gen (by simp) wR (λk b a g=>⟨uW _ a,g⟩) (λj n k b a g=>⟨⟨n,a⟩,g⟩) (λj k e=>s.ub j k e.2) (λj l k a b=>s.E1 j l k a.2 b.2) (λm d' hi e=>by cases e;exact⟨v,s.at_ hi,q.dB uW⟩),TV _,λk hk n=>⟨rfl,λj z=>n j z.2⟩⟩
theorem SL.PZ(s:SL aa env h U)(p:h<+:h1){i:Nat}(q:Dn (Fr h.length) h1 d v):SL (aa.set i (some (.ow,d))) (env.set i (some v)) h1 (DV U i h.length h1.length)/\KU h U h1 (DV U i h.length h1.length):=by
 have no:∀k j,k<h.length->¬ U j k->¬ DV U i h.length h1.length j k:=λk j hk n z=>by
  unfold DV at z;split at z
  ·omega
  ·exact n z
 refine⟨s.gen (by simp) wR (λk o a g=>⟨λj=>no k j (TJ.mp g).1 (a j),cU p g⟩) (λj n k b a g=>⟨?_,cU p g⟩) (λj k e=>?_) (λj l k e1 e2=>?_) (λm d' hi e=>?_),p.length_le,λk hk n=>⟨gj p hk,λj=>no k j hk (n j)⟩⟩
 ·unfold DV;rw[TX n];exact a
 ·unfold DV at e
  split at e
  ·exact e.2
  ·exact TY (s.ub j k e) p.length_le
 ·unfold DV at e1 e2
  split at e1<;>split at e2
  ·rename_i a b;rw[a,b]
  ·have:=s.ub l k e2;omega
  ·have:=s.ub j k e1;omega
  ·exact s.E1 j l k e1 e2
 ·cases e;refine⟨v,s.at_ hi,Dn.move (A:=Fr h.length) (λz=>False.elim z) (λk o a g=>⟨?_,g⟩) _ _ q⟩;show DV U i h.length h1.length i k;unfold DV;rw[T4 rfl];exact⟨a,(TJ.mp g).1⟩
theorem SL.binds:∀{is:List Nat} {ds vs:List Val} {aa:aD} {env:Env} {U:UR} {ak:aD},SL aa env h U->aS is ds aa=some ak->ao (AU U) h ds vs ->
  ∃env' U',bindAll is vs env=some env'/\SL ak env' h U'/\KU h U h U'
 | [],[],vs,aa,env,U,ak,s,e,q=>by
  rw[ao]at q;subst q;simp only[aS]at e;cases e;exact⟨env,U,rfl,s,KU.refl s (Uc _)⟩
 | i::is,d::ds,vs,aa,env,U,ak,s,e,q=>by
  rw[ao]at q;obtain⟨v,r,rfl,q1,q2⟩:=q;simp only[aS]at e;obtain⟨s1,f1⟩:=s.set (i:=i) q1;obtain⟨env',U',b1,b2,b3⟩:=SL.binds s1 e (q2.dB uW);exact⟨env',U',by simp only[bindAll];exact b1,b2,f1.trans b3⟩
 |[],_::_,_,_,_,_,_,_,e,_=>by simp[aS]at e
 |_::_,[],_,_,_,_,_,_,e,_=>by simp[aS]at e
theorem SL.bind(s:SL aa env h U)(e:dM p d aa=some ak)(q:Dn (AU U) h d v):∃env' U',fc p v env=some env'/\SL ak env' h U'/\KU h U h U':=by
 cases p with
 |one i=>simp only[dM]at e;cases e;obtain⟨s1,f1⟩:=s.set (i:=i) q;exact⟨_,_,rfl,s1,f1⟩
 |tup is=>
  cases d<;>simp only[dM]at e<;>first|(cases e;done)|skip
  rw[Dn]at q;obtain⟨vs,rfl,q⟩:=q;exact s.binds e q
theorem SL.MO(s:SL aa env h U){i b:Nat}(hb:U i b) (at':∀m d,i<aa.length->x=some (m,d)->∃v,env[i]?=some (some v)/\match m with
   |.sh=>Dn (AU U) (h.set b o) d v
   |.ow=>Dn (RU U i) (h.set b o) d v
   |.nw=>NQ U i (h.set b o) d v):SL (aa.set i x) env (h.set b o) U/\KU h U (h.set b o) U :=
 ⟨s.gen rfl (λ_ _=>rfl) (λk b' a g=>⟨a,by rw[TN λz=>a i (by rw[<-z];exact hb)];exact g⟩) (λj n k b' a g=>⟨a,by rw[TN λz=>n (s.E1 j i k a (by rw[<-z];exact hb))];exact g⟩)
  (λj k e=>by rw[List.length_set];exact s.ub j k e) s.E1 at',by simp,λk hk n=>⟨by rw[TN λz=>n i (by rw[<-z];exact hb)],n⟩⟩
theorem SL.P0(s:SL aa env h U){i b:Nat}(hb:U i b):SL (aa.set i none) env (h.set b o) U/\KU h U (h.set b o) U:=s.MO hb λ_ _ _ e=>nomatch e
theorem SL.MP(s:SL aa env h U){i b:Nat}(hb:U i b):SL (aa.set i none) env (h.set b o) U/\KU h U (h.set b o) U:=s.P0 hb
theorem SL.regrow(s:SL aa env h U){i b:Nat}{mk:Mk}{d dn w:Val}{o:Ob}(e:aa[i]?=some (some (mk,d)))(ee:env[i]?=some (some w))(hb:U i b)(nw:Dn (RU U i) (h.set b o) dn w) :
  SL (aa.set i (some (.ow,dn))) env (h.set b o) U/\KU h U (h.set b o) U:=s.MO hb λ_ _ _ e=>by cases e;exact⟨w,ee,nw⟩
theorem SL.grow(s:SL aa env h U){i b:Nat}(e:aa[i]?=some (some (.ow,d)))(ee:env[i]?=some (some (.ref b)))(hb:U i b)(hi:aR ds=true)(hv:vs=ds) :
  SL (aa.set i (some (.ow,.rl ds))) env (h.set b (.lst vs)) U/\KU h U (h.set b (.lst vs)) U :=
 s.regrow e ee hb (by rw[Dn];exact .inr ⟨b,vs,rfl,hb,by rw[T5 (s.ub i b hb)],(aL _ _ hi).mpr hv⟩)
end
section
variable {Φ:Nat->List Val->M Val} {Ψ:Nat->List Val->Pr FV} {sp:List Nat} {aa:aD} {env:Env} {h:Hs} {U:UR}
theorem qF(V:aU Φ Ψ e)(s:SL aa env h U):f9 (λx h' v=>h<+:h'/\Dn (AU U) h' x.2 v) (aG Φ e env h) (yL Ψ e aa):=by
 have r1:=V (gS aa) env (AU U) h s.up s.hide;have r2:=V (bS aa) env (λ_=>True) h (λ_ _=>trivial) s.flat
 have go:f9 (λx h' v=>h<+:h'/\Dn (AU U) h' x.2 v) (aG Φ e env h) (pb (aX Ψ e (bS aa)) λx=>pg x.1 (.ok x)):=by
  cases e2:aX Ψ e (bS aa) with
  |ok x=>
   rw[e2]at r2;obtain⟨v,h',ev,p,q⟩:=r2;show f9 _ _ (pg x.1 (.ok x));refine iT λhx=>⟨v,h',ev,p,(q.2 hx).dB λo z=>?_⟩;cases o with
   |none=>exact False.elim z
   |some k=>exact s.up k z
  |exc c es=>trivial
  |no=>trivial
 unfold yL;cases e1:aX Ψ e (gS aa) with
 |ok x=>rw[e1]at r1;obtain⟨v,h',ev,p,q⟩:=r1;exact⟨v,h',ev,p,q.1⟩
 |exc c es=>exact go
 |no=>exact go
theorem gu(V:aU Φ Ψ e)(s:SL aa env h U):f9 (λx h' v=>h<+:h'/\RV (λ_=>True) h x h' v) (aG Φ e env h) (aX Ψ e (bS aa)):=DW (V (bS aa) env (λ_=>True) h (λ_ _=>trivial) s.flat)
def uX(Φ:Nat->List Val->M Val)(Ψ:Nat->List Val->Pr FV)(sp:List Nat)(s:IS):Prop:=∀(aa:aD) (env:Env) (h:Hs) (U:UR),SL aa env h U->f9 (RL h U) (dg Φ s env h) (cj Ψ sp s aa)
def tu(Φ:Nat->List Val->M Val)(Ψ:Nat->List Val->Pr FV)(sp:List Nat)(s:gc):Prop:=∀(aa:aD) (env:Env) (h:Hs) (U:UR),SL aa env h U->f9 (RL h U) (gf Φ s env h) (dP Ψ sp s aa)
theorem DX{b:Nat}{h1:Hs}(g:h1[b]?=some (.lst vs))(hl:decide (vs.length<sizeLine)=true):bnd (met .append (.ref b) [v]) (λ_=>ret (Fl.nx env)) h1=.ok (.nx env) (h1.set b (.lst (vs++[v]))):=by
 simp only[met];unfold bnd ask aN aF put ret;dsimp only;rw[g];dsimp only;rw[T4 hl]
theorem Bk{i:Nat}(ha:aU Φ Ψ a):uX Φ Ψ sp (.expr (.met .append (.var i) #[a])):=λaa env h U s=>by
 rw[dg,cj];try dsimp only
 change f9 (RL h U) _ (NI Ψ (.app i a) aa);unfold NI;try dsimp only
 split
 ·rename_i ds hv
  obtain⟨w,e2,q⟩:=s.un i _ hv;rw[Dn]at q
  rcases q with ⟨_,_,n,_⟩|⟨b,vs,rfl,hb,e4,e5⟩
  ·exact False.elim n
  have ev:bnd (aG Φ (.met .append (.var i) #[a]) env) (λ_=>ret (Fl.nx env)) h=bnd (aG Φ a env) (λv=>bnd (met .append (.ref b) [v]) λ_=>ret (Fl.nx env)) h:=by
   rw[aG,aI,bR (dY e2)];rw[aI,bR (a:=()) (h1:=h) (by unfold ask aN;simp[recv,e4])];rw[aI,aZ,aI]
   congr 1
  rw[ev];refine bE (gu ha s) λx h1 v ⟨p1,q1⟩=>iT λhg=>?_;have s1:=s.ext p1;have l:=e5.length;have run:=DX (env:=env) (v:=v) (cU p1 e4) (by rw[<-l];exact hg)
  by_cases hi:aR (ds++[x.2])=true
  ·rw[T4 hi];have eq:vs++[v]=ds++[x.2]:=(aL (A:=λ_=>True) (h:=h1) _ _ hi).mp (((e5.dB λ_ _=>trivial).ext p1).append (ao.cons q1.1 ao.nil));obtain⟨s2,f2⟩:=s1.grow hv e2 hb hi eq;exact⟨_,_,run,U,s2,(KU.refl s p1).trans f2⟩
  ·rw[TX hi];obtain⟨s2,f2⟩:=s1.MP (o:=.lst (vs++[v])) hb;exact⟨_,_,run,_,s2,(KU.refl s p1).trans f2⟩
 ·trivial
theorem MQ(V:aU Φ Ψ e)(V2:∀ab,new2 e=some ab->aU Φ Ψ ab.1/\aU Φ Ψ ab.2):uX Φ Ψ sp (.asg p e):=λaa env h U s=>by
 cases p with
 |one i=>
  rw[dg,cj];try dsimp only
  split
  ·split
   ·rename_i ab hab;cases hab
   ·refine bE (gu V s) λx h1 v ⟨p1,q1⟩=>iT λhx=>?_;obtain⟨s2,f2⟩:=s.PZ p1 (i:=i) (q1.2 hx);exact⟨_,_,rfl,_,s2,f2⟩
  ·refine bE (qF V s) λx h1 v aE=>?_;obtain⟨p1,q1⟩:=aE;obtain⟨s2,f2⟩:=(s.ext p1).set (i:=i) q1;exact⟨_,_,rfl,_,s2,(KU.refl s p1).trans f2⟩
 |tup is=>
  rw[dg,cj];try dsimp only
  refine bE (qF V s) λx h1 v aE=>?_;obtain⟨p1,q1⟩:=aE;have s1:=s.ext p1;refine bE (R:=λak h' env'=>∃U',SL ak env' h' U'/\KU h1 U h' U') (j9 λak ev=>?_) λak h2 env' hh=>?_
  ·obtain⟨env',U',b1,b2,b3⟩:=s1.bind ev q1;exact⟨env',b1,U',b2,b3⟩
  ·obtain⟨U',b2,b3⟩:=hh;exact bW ⟨U',b2,(KU.refl s p1).trans b3⟩
theorem MR(V:aU Φ Ψ c)(ha:tu Φ Ψ sp a)(hb:tu Φ Ψ sp b):uX Φ Ψ sp (.iff c a b):=λaa env h U s=>by
 rw[dg,cj];refine bE (gu V s) λx h1 v aE=>?_;obtain⟨p1,q1⟩:=aE;refine bE (R:=λt h' t'=>h'=h1/\t'=t) (j9 λt ht=>⟨t,qy (.inl q1.1) ht,rfl,rfl⟩) λt h2 t' aE=>?_;obtain⟨e1,e2⟩:=aE;subst e1;subst e2;have s1:=s.ext p1;cases t' with
 |true=>rw[T4 rfl,T4 rfl];exact gq (ha aa env _ U s1) λf h' g r=>r.seq (KU.refl s p1)
 |false=>rw[TX TH,TX TH];exact gq (hb aa env _ U s1) λf h' g r=>r.seq (KU.refl s p1)
theorem MS(V:aU Φ Ψ e):uX Φ Ψ sp (.ret e):=λaa env h U s=>by
 rw[dg,cj];exact bE (gu V s) λx h1 v ⟨p1,q1⟩=>bW ⟨q1,U,KU.refl s p1⟩
def P1(h:Hs)(U:UR)(src:Src)(ws:List Val):Prop:=∀h':Hs,(∀k,k<h.length->(∀i,¬ U i k)->h'[k]?=h[k]?)->src.items h'=some ws
theorem MT(q:Dn (AU U) h d v)(e:fG k [d]=some xs):∃src ws,srcOf k [v]=some src/\ao (AU U) h xs ws/\src.items h=some ws/\P1 h U src ws:=by
 have lst:∀es,d=.rl es->(∃ws,v=.rl ws/\ao (AU U) h es ws)\/∃a ws,v=.ref a/\h[a]?=some (.lst ws)/\ao (AU U) h es ws/\∀h':Hs,(∀k,k<h.length->(∀i,¬ U i k)->h'[k]?=h[k]?)->h'[a]?=some (Ob.lst ws):=by
  rintro es rfl;rw[Dn]at q
  rcases q with ⟨ws,rfl,_,q⟩|⟨a,ws,rfl,al,g,q⟩
  ·exact .inl ⟨ws,rfl,q⟩
  ·exact .inr ⟨a,ws,rfl,g,q,λh' hk=>(hk a (TJ.mp g).1 al).trans g⟩
 cases k with
 |seq=>
  cases d<;>simp only[fG]at e<;>first|(cases e;done)|skip
  ·cases e;rw[Dn]at q;obtain⟨ws,rfl,q⟩:=q;exact⟨.fix ws,ws,rfl,q,rfl,λ_ _=>rfl⟩
  ·cases e
   rcases lst _ rfl with ⟨ws,rfl,q'⟩|⟨a,ws,rfl,g,q',st⟩
   ·exact⟨.fix ws,ws,rfl,q',rfl,λ_ _=>rfl⟩
   ·exact⟨.live a,ws,rfl,q',dD g,λh' hk=>dD (st h' hk)⟩
 |range=>
  cases d<;>simp only[fG]at e<;>first|(cases e;done)|skip
  rw[Dn]at q;subst q;split at e
  ·rename_i hn;cases e;exact⟨.fix _,_,by simp only[srcOf];rw[T4 hn],gi,rfl,λ_ _=>rfl⟩
  ·cases e
 |enum=>
  cases d<;>simp only[fG]at e<;>first|(cases e;done)|skip
  cases e
  rcases lst _ rfl with ⟨ws,rfl,q'⟩|⟨a,ws,rfl,g,q',st⟩
  ·exact⟨.fix _,_,rfl,dO 0 q',rfl,λ_ _=>rfl⟩
  ·exact⟨.enum a,_,rfl,dO 0 q',dF g,λh' hk=>dF (st h' hk)⟩
 |zip=>cases e
theorem tw(hb:∀aa env h U x v,SL aa env h U->Dn (AU U) h x v->f9 (RL h U) (body v env h) (bodyV x aa))
  {h1:Hs} {U1:UR} (st:P1 h1 U1 src ws) :
  ∀(xs vs:List Val) (i:Nat) (aa:aD) (env:Env) (h:Hs) (U:UR),SL aa env h U->KU h1 U1 h U->ws.drop i=vs->ao (AU U) h xs vs ->
   f9 (RL h1 U1) (forM src body vs.length i env h) (gh bodyV xs aa)
 | [],vs,i,aa,env,h,U,s,f,hd,q=>by
  rw[ao]at q;subst q;have hl:ws.length<=i:=V9.mp hd;have hi:=st h (λk hk n=>(f.keep k hk n).1);rw[gh];refine⟨.nx env,h,?_,U,s,f⟩;show forM src body 0 i env h=_;simp only[forM];unfold bnd ask aN aF;dsimp only;rw[hi];dsimp only;rw[T4 (decide_eq_true hl)];try rfl
 | x::xs,vs,i,aa,env,h,U,s,f,hd,q=>by
  rw[ao]at q;obtain⟨v,r,rfl,q1,q2⟩:=q;have hv:ws[i]?=some v:=by have:=UM (λl=>l[0]?) hd;simpa using this
  have hr:ws.drop (i+1)=r:=by
   have:ws.drop (i+1)=(ws.drop i).drop 1:=by rw[Wz]
   rw[this,hd];rfl
  have hi:=st h (λk hk n=>(f.keep k hk n).1);have ev:forM src body (v::r).length i env h=bnd (body v env) (λf=>match f with
   |.nx env'=>forM src body r.length (i+1) env'
   |.ct env'=>forM src body r.length (i+1) env'
   |.bk env'=>ret (.nx env')
   |.rt v=>ret (.rt v)) h:=by
   show forM src body (r.length+1) i env h=_;simp only[forM];unfold bnd ask aN;dsimp only;rw[hi];dsimp only;rw[hv];try rfl
  rw[ev,gh];refine bE (hb aa env h U x v s q1) λfl h2 gl hr2=>?_;have go:∀ak env' U',SL ak env' h2 U'->KU h U h2 U'->f9 (RL h1 U1) (forM src body r.length (i+1) env' h2) (gh bodyV xs ak):=λak env' U' s' f'=>by
   refine tw hb st xs r (i+1) ak env' h2 U' s' (f.trans f') hr (ao.move (A:=AU U) (λ_=>trivial) (λk o hk g=>?_) _ _ q2);have hlt:k<h.length:=(TJ.mp g).1;obtain⟨a1,a2⟩:=f'.keep k hlt hk;exact⟨a2,a1.trans g⟩
  cases fl<;>cases gl<;>first|exact hr2.elim|skip
  ·obtain⟨U',s',f'⟩:=hr2;exact go _ _ U' s' f'
  ·exact bW (RL.seq (f:=.rt _) (g:=.rt _) f hr2)
  ·obtain⟨U',s',f'⟩:=hr2;exact bW ⟨U',s',f.trans f'⟩
  ·obtain⟨U',s',f'⟩:=hr2;exact go _ _ U' s' f'
theorem MU(V:aU Φ Ψ e)(hb:tu Φ Ψ sp body):uX Φ Ψ sp (.for p k #[e] body):=λaa env h U s=>by
 rw[cj];try dsimp only
 have hsp:Jr e p k body=none:=rfl;rw[hsp];dsimp only;rw[dg];have ev:∀(F:List Val->M Fl),bnd (aZ Φ #[e] env) F h=bnd (aG Φ e env) (λv=>F [v]) h:=λF=>by
  rw[aZ,aZ,aI];rfl
 rw[ev];refine bE (qF V s) λx h1 v aE=>?_;obtain⟨p1,q1⟩:=aE;have s1:=s.ext p1;refine bE (R:=λxs h' src=>h'=h1/\∃ws,ao (AU U) h1 xs ws/\src.items h1=some ws/\P1 h1 U src ws) (j9 λxs ex=>?_) λxs h2 src ⟨e2,ws,q2,q3,st⟩=>?_
 ·obtain⟨src,ws,a1,a2,a3,a4⟩:=MT q1 ex;exact⟨src,a1,rfl,ws,a2,a3,a4⟩
 ·subst e2
  have Pn:∀(F:List Val->M Fl),bnd (ask λh=>src.items h) F h2=F ws h2:=λF=>by unfold bnd ask aN;dsimp only;rw[q3]
  rw[Pn];refine gq (tw (λak env' h' U' x v s' qx=>?_) st xs ws 0 aa env h2 U s1 (KU.refl s1 (Uc _)) rfl q2) λf h' g r=>r.seq (KU.refl s p1);refine bE (R:=λgk h2 fX=>∃U2,SL gk fX h2 U2/\KU h' U' h2 U2) (j9 λgk e2=>?_) λgk h2 fX hh=>?_
  ·obtain⟨fX,U2,b1,b2,b3⟩:=s'.bind e2 qx;exact⟨fX,b1,U2,b2,b3⟩
  ·obtain⟨U2,b2,b3⟩:=hh;exact gq (hb gk fX h2 U2 b2) λf h'' g r=>r.seq b3
theorem MV:tu Φ Ψ sp .nil:=λaa env h U s=>by rw[gf,dP];exact bW ⟨U,s,KU.refl s (Uc _)⟩
theorem Js(ha:uX Φ Ψ sp a)(hr:tu Φ Ψ sp r):tu Φ Ψ sp (.cons a r):=λaa env h U s=>by
 rw[gf,dP];refine bE (ha aa env h U s) λf h1 g q=>?_;cases f<;>cases g<;>first|exact q.elim|skip
 ·obtain⟨U1,s1,f1⟩:=q;exact gq (hr _ _ h1 U1 s1) λf h' g r=>r.seq f1
 ·exact bW q
 ·exact bW q
 ·exact bW q
theorem kY(e:∀aa,cj Ψ sp s aa=.no):uX Φ Ψ sp s:=λaa env h U _=>by rw[e];trivial
theorem yy{i:Nat}{j:Int}(ha:aU Φ Ψ a):uX Φ Ψ sp (.expr (.met .append (.idx (.var i) (.cst (.int j))) #[a])):=kY λaa=>by rw[cj];rfl
theorem Bm{i:Nat}(ha:aU Φ Ψ a):uX Φ Ψ sp (.expr (.met .extend (.var i) #[a])):=kY λaa=>by rw[cj];rfl
theorem Bo{i:Nat}(hj:aU Φ Ψ j)(ha:aU Φ Ψ a):uX Φ Ψ sp (.expr (.met .remove (.idx (.var i) j) #[a])):=kY λaa=>by rw[cj];rfl
theorem Jt(V:∀e,ck e=true->aU Φ Ψ e)(ho:ck e=true):uX Φ Ψ sp (.expr e):=by
 cases hk:MK e with
 |none=>exact kY λaa=>by rw[cj,hk]
 |some k=>
  cases MN hk;cases k with
  |app i a=>exact Bk (V a (bO (bO ho).2).1)
  |apI i j a=>exact yy (V a (bO (bO ho).2).1)
  |ext i a=>exact Bm (V a (bO (bO ho).2).1)
  |rem i j a=>exact Bo (V j (bO (bO ho).1).2) (V a (bO (bO ho).2).1)
theorem Bp:∀{kvs:List (Key×Val)} {k:Key} {d:Val},aR (kvs.map (·.2))=true->jV d=true->aR ((cF kvs k d).map (·.2))=true:=by
 intro kvs k d h hd;have mp:∀l:List (Key×Val),aR (l.map (·.2))=true->aR ((l.map λkv=>if kv.1=k then (kv.1,d) else kv).map (·.2))=true:=by
  intro l
  induction l with
  |nil=>intro _;rfl
  |cons a r ih=>
   intro h;rw[T6,aR,UE]at h;rw[T6,T6,aR,UE];refine⟨?_,ih h.2⟩
   split
   ·exact hd
   ·exact h.1
 have ap:∀l:List (Key×Val),aR (l.map (·.2))=true->aR ((l++[(k,d)]).map (·.2))=true:=by
  intro l
  induction l with
  |nil=>intro _;show aR [d]=true;rw[aR,UE];exact⟨hd,rfl⟩
  |cons a r ih=>intro h;rw[T6,aR,UE]at h;rw[Wt,T6,aR,UE];exact⟨h.1,ih h.2⟩
 unfold cF
 split
 ·exact mp _ h
 ·exact ap _ h
theorem Bq:∀kvs:List (Key×Val),(kvs.map (·.1)).zip (kvs.map (·.2))=kvs
 |[]=>rfl
 |(a,b)::r=>by rw[T6,T6,zip_cons_cons,Bq r]
theorem Ju{x:Nat}(hi:aU Φ Ψ i)(hv:aU Φ Ψ v):uX Φ Ψ sp (.iu (.var x) i v):=λaa env h U s=>by
 rw[dg,cj];try dsimp only
 change f9 (RL h U) _ (NJ Ψ x i v aa);unfold NJ
 split
 ·rename_i ks ds hx
  refine iT λg2=>?_;obtain⟨w,e2,q⟩:=s.un x _ hx;rw[Dn]at q;obtain⟨b,kvs,rfl,hb,e4,ek,e5⟩:=q;have e5:kvs.map (·.2)=ds:=(aL _ _ g2).mp e5;subst e5;refine bE (gu hv s) λw h1 v' ⟨p1,q1⟩=>iT λhw=>?_;have ew:v'=w.2:=(iB _ _ hw).mp q1.1;subst ew;rw[bR (dY e2)];refine bE (gu hi (s.ext p1)) λz h2 z' aE=>?_;obtain⟨p2,q2⟩:=aE;cases Su:keyOf z.2 with
  |none=>trivial
  |some k=>
   have ez:keyOf z'=some k:=nv q2.1 Su;refine iT λhg=>?_;have g4:=cU (p1.trans p2) e4;have hl:b<h2.length:=(TJ.mp g4).1;have hz:ks.zip (kvs.map (·.2))=kvs:=by rw[<-ek];exact Bq kvs
   obtain⟨s2,f2⟩:=((s.ext p1).ext p2).regrow (o:=.dct (cF kvs k w.2)) (dn:=putD ks (kvs.map (·.2)) k w.2) hx e2 hb (by
    unfold putD;rw[hz,Dn];exact⟨b,cF kvs k w.2,rfl,hb,by rw[T5 hl],rfl,(aL _ _ (Bp g2 hw)).mpr rfl⟩)
   refine⟨.nx env,_,?_,U,s2,(KU.refl s (p1.trans p2)).trans f2⟩;have hlen:kvs.length<sizeLine:=by have:=UM length ek;rw[TQ]at this;have hg:=Ud hg;omega
   show bnd (mX (.ref b) z' w.2) (λ_=>ret (Fl.nx env)) h2=_;unfold mX;simp only[bnd,ask,aN,g4,ez,aF,hlen,decide_true,if_true,put,ret]
 ·trivial
theorem Jv{x:Nat}{j:Int}(hi:aU Φ Ψ i)(hv:aU Φ Ψ v):uX Φ Ψ sp (.iu (.idx (.var x) (.cst (.int j))) i v):=kY λaa=>by rw[cj];rfl
theorem MW(hi:aU Φ Ψ i)(hv:aU Φ Ψ v):uX Φ Ψ sp (.iu o i v):=by
 cases hk:xJ o with
 |none=>
  cases hx:xV o with
  |none=>exact kY λaa=>by rw[cj,hk];dsimp only;rw[hx]
  |some x=>
   have ex:o=.var x:=by
    unfold xV at hx;split at hx
    ·cases hx;rfl
    ·cases hx
   subst ex;exact Ju hi hv
 |some y=>cases MM hk;exact Jv hi hv
theorem MX(hΦ:∀j,Imp (Φ j) (Ψ j)):∀ss,lP ss=true->tu Φ Ψ sp ss:=by
 have V:=(v_all hΦ).1;intro ss;refine gc.rec (motive_1:=λs=>Pk s=true->uX Φ Ψ sp s) (motive_2:=λss=>lP ss=true->tu Φ Ψ sp ss) ?_ ?_ ?_ ?_ ?_ ?_ ?_ ?_ ?_ ?_ ?_ ?_ ?_ ?_ ?_ ?_ ss
 ·intro e f;exact Jt V f
 ·intro p e f;exact MQ (V e f) λab hab=>by
   have ee:e=.lst #[ab.1,ab.2]:=by cases hab
   subst ee;have f:(ck ab.1&&(ck ab.2&&true))=true:=f;have f:=bO f;exact⟨V _ f.1,V _ (bO f.2).1⟩
 ·intro i o e f;exact kY λaa=>by rw[cj]
 ·intro o i v f;have f:=nD f;exact MW (V i f.1.2) (V v f.2)
 ·intro c a b ha hb f;have f:=nD f;exact MR (V c f.1.1) (ha f.1.2) (hb f.2)
 ·intro p k it b hb f
  have f:=bO f;cases it with
  |nil=>exact kY λaa=>by rw[cj.eq_def]<;>rfl
  |cons e es=>
   cases es with
   |nil=>exact MU (V e (bO f.1).1) (hb f.2)
   |cons _ _=>exact kY λaa=>by rw[cj];intro _ z;cases z
 ·intro n c b _ f;exact kY λaa=>by rw[cj]
 ·intro e f;exact MS (V e f)
 ·intro _;exact kY λaa=>by rw[cj]
 ·intro _ aa env h U s;rw[dg,cj];exact bW ⟨U,s,KU.refl s (Uc _)⟩
 ·intro _ aa env h U s;rw[dg,cj];exact bW ⟨U,s,KU.refl s (Uc _)⟩
 ·intro _ aa env h U s;rw[dg,cj];exact bW ⟨U,s,KU.refl s (Uc _)⟩
 ·intro _;exact kY λaa=>by rw[cj]
 ·intro _ _ _ _ _;exact kY λaa=>by rw[cj]
 ·intro _;exact MV
 ·intro a r ha hr f;have f:=bO f;exact Js (ha f.1) (hr f.2)
theorem ao.at:∀{ds vs:List Val} {i:Nat} {d:Val},ao A h ds vs->ds[i]?=some d->∃v,vs[i]?=some v/\Dn A h d v
 |[],vs,i,d,q,e=>by cases e
 | d::ds,vs,0,d',q,e=>by
  rw[ao]at q;obtain⟨v,r,rfl,q1,q2⟩:=q;cases e;exact⟨v,rfl,q1⟩
 | d::ds,vs,i+1,d',q,e=>by
  rw[ao]at q;obtain⟨v,r,rfl,q1,q2⟩:=q;exact ao.at (i:=i) q2 e
theorem MY{n:Nat}(q:ao A h ds vs):SL (ds.map (λd=>some (.sh,d))++replicate (n-ds.length) none) (vs.map some++replicate (n-vs.length) none) h (λ_ _=>False):=by
 have l:=q.length;have here:∀(i:Nat) (m:Mk) (d:Val),(ds.map (λd=>some (Mk.sh,d))++replicate (n-ds.length) none)[i]?=some (some (m,d))->m=.sh/\ds[i]?=some d:=λi m d e=>by
  by_cases hi:i<ds.length
  ·rw[Ua (by simpa using hi),Ug,Ui hi]at e;cases e;exact⟨rfl,Ui hi⟩
  ·rw[Uk (by simpa using hi)]at e;cases (VM.mp (Ub e)).2
 refine⟨by simp[l],λi d e=>?_,λi d e=>?_,λi d e=>?_,λ_ _ z=>z.elim,λ_ _ _ z=>z.elim⟩
 ·obtain⟨_,e⟩:=here i _ d e;obtain⟨v,e2,q2⟩:=q.at e;refine⟨v,?_,q2.dB λo _=>by cases o<;>first|trivial|exact λ_ z=>z⟩;have hi:=(TJ.mp e2).1;rw[Ua (by simpa using hi),Ug,e2];rfl
 ·cases (here i _ d e).1
 ·cases (here i _ d e).1
theorem yz{n:Nat}(hΦ:∀j,Imp (Φ j) (Ψ j))(ho:lP body=true){ns:List Int}{f:Bool}(e:nK Ψ n body [.rl (ns.map .int)]=.ok (f,.bl true)):∃h',pe Φ n body [.rl (ns.map .int)] []=.ok (.bl true) h':=by
 have s:SL ([(Val.rl (ns.map .int))].map (λd=>some (.sh,d))++replicate (n-1) none) ([(Val.rl (ns.map .int))].map some++replicate (n-1) none) [] (λ_ _=>False):=MY (A:=λ_=>True) (h:=[]) (n:=n) (ds:=[.rl (ns.map .int)]) (vs:=[.rl (ns.map .int)]) (ao.cons (by rw[Dn];exact .inl ⟨_,rfl,trivial,(aL _ _ (bq ns)).mpr rfl⟩) ao.nil);have r:=MX (sp:=jh body) hΦ body ho _ _ [] _ s;unfold nK at e;show ∃h',bnd (gf Φ body ([(Val.rl (ns.map .int))].map some++replicate (n-1) none)) _ []=_;change pb (dP Ψ (jh body) body ([(Val.rl (ns.map .int))].map (λd=>some (.sh,d))++replicate (n-1) none)) _=_ at e;cases e1:dP Ψ (jh body) body ([(Val.rl (ns.map .int))].map (λd=>some (.sh,d))++replicate (n-1) none) with
 |ok fl=>
  rw[e1]at e r;obtain⟨g,h',eg,q⟩:=r;unfold bnd;rw[eg];cases fl with
  |rt p=>
   cases g<;>first|exact q.elim|skip
   change Pr.ok p=_ at e;cases e;have q:Dn (λ_=>True) h' (.bl true) _:=q.1.1;rw[Dn]at q;subst q;exact⟨h',rfl⟩
  |nx _=>cases e
  |bk _=>cases e
  |ct _=>cases e
 |exc c es=>rw[e1]at e;cases e
 |no=>rw[e1]at e;cases e
end
end Hv
end
section
namespace K03
open PySem L2 Hv
abbrev Br:List PySem.Str:=["_law_script","_law_k"]
abbrev Jw:List PySem.Str:=["_law_poles_here","_law_ties_here","_law_rows"]
abbrev Jx:List PySem.Str:=["_law_script","_law_seat","_law_k","_law_one","_law_two","_law_step","_law_shift","_law_number_here"]
abbrev Jy:List PySem.Str:=["_law_script","_law_many","_law_one"]
abbrev Jz:List PySem.Str:=["_law_script","_law_start","_law_most","_law_many","_law_ties_here","_law_k","_law_cell","_law_one","_law_other"]
abbrev MZ:List PySem.Str:=["_law_script","_law_start","_law_most","_law_many"]
abbrev JA:List PySem.Str:=["_law_script","_law_many","_law_nets_here","_law_start"]
abbrev JB:List PySem.Str:=["net","tie","name","one","other"]
abbrev Bs:List PySem.Str:=["_law_found","_law_due"]
abbrev JC:List PySem.Str:=["_law_net_here","_law_cell","_law_names","_law_some","_law_name","_law_number_here"]
abbrev E2:List PySem.Str:=["_law_net_here","_law_cell","_law_names"]
abbrev tB:List PySem.Str:=["_law_found","_law_many"]
abbrev Bt:List PySem.Str:=["net","places","tie"]
abbrev E4:List PySem.Str:=["_law_script","_law_k","_law_net_here","_law_handed","_law_places","_law_names","_law_name","_law_one","_law_other","_law_found","_law_cell"]
def top(i:Nat):Stmt:=PySem.Challenge.pw_linkorcut_k03_places_names_ends.main.body.getD i (.Pass ⟨0,0,0,0⟩)
def cons:List (Str×Val):=[]
def tb:Tb:=⟨0,[],[],[],[]⟩
def cW:gc:=#[.iff (.cmp .lt (!1) (.blt .len #[!0])) #[.ret (.idx (!0) (!1))] .nil,.ret (¬0)]
def iF:gc:=#[.asg (.one 2) (.comp ["_law_name","_law_one","_law_other"] [none,none,none] (.tup [0,1,2]) .seq #[!1] .no (.tup #[!0,.blt .min #[!1,!2],.blt .max #[!1,!2]])),.ret (.tup #[.tup #[.blt .min #[!0],.blt .max #[!0]],.blt .sorted #[!2]])]
def dQ:gc:=#[.asg (.one 3) (.call 0 #[!0,!1]),.asg (.one 4) (.call 0 #[!0,.bin .add (!1) (¬1)]),.asg (.one 5) (¬1),.asg (.one 6) (¬0),.iff (.cmp .gt (.bin .mod (!3) (¬3)) (¬0)) #[.asg (.one 5) (.bin .add (.bin .mod (!3) (.bin .pow (¬10) (¬57))) (¬1))] .nil,.iff (.cmp .gt (.bin .mod (!4) (¬3)) (¬0)) #[.asg (.one 6) (.bin .mod (!4) (.bin .pow (¬10) (¬57)))] .nil,.asg (.one 7) (.bin .add (.bin .mul (!5) (.bin .mod (.bin .add (.bin .mul (.bin .add (¬1) (.bin .mod (.bin .fdiv (!4) (¬3)) (¬66))) (!2)) (.bin .mod (.bin .fdiv (!3) (¬3)) (¬67))) (¬67))) (!6)),.iff (.cmp .eq (.bin .mod (!4) (¬7)) (¬3)) #[.ret (.bin .sub (.bin .sub (.bin .pow (¬10) (¬60)) (¬1)) (!7))] .nil,.ret (!7)]
def fB:gc:=#[.asg (.one 2) (.call 2 #[!0,¬2,¬0]),.iff (.or (.cmp .eq (!1) (¬1)) (.cmp .eq (.bin .mod (.bin .fdiv (.call 0 #[!0,¬4]) (¬8)) (¬5)) (¬4))) #[.ret (.tup #[!2,!2])] .nil,.ret (.tup #[!2,.call 2 #[!0,¬2,¬1]])]
def gx:gc:=#[.asg (.one 4) (.lst .nil),.for (.tup [5,6]) .enum #[.slc (!0) (!1) (.bin .add (!1) (!2))] #[.asg (.one 7) (.call 2 #[!0,¬2,.bin .mod (.bin .mod (.bin .mul (!6) (¬48271)) (¬10007)) (!3)]),.asg (.one 8) (.call 2 #[!0,¬2,.bin .mod (.bin .mod (.bin .mul (!6) (¬16807)) (¬10009)) (!3)]),.expr (.met .append (!4) #[.tup #[.call 2 #[!0,¬0,!5],!7,!8]])],.ret (!4)]
def gy:gc:=#[.asg (.one 1) (.bin .add (¬1) (.bin .mod (.call 0 #[!0,¬4]) (¬8))),.asg (.one 2) (.lst .nil),.for (.one 3) .seq #[.lst #[¬5,¬19,¬33,¬47]] #[.iff (.or (.cmp .eq (!3) (¬5)) (.cmp .lt (!3) (.blt .len #[!0]))) #[.expr (.met .append (!2) #[.call 1 #[.call 3 #[!0,!1],.call 4 #[!0,!3,¬14,!1]]])] .nil],.ret (!2)]
def fD:gc:=#[.for (.tup [2,3,4]) .seq #[.idx (!0) (¬1)] #[.iff (.cmp .eq (!2) (!1)) #[.ret (.tup #[!3,!4])] .nil],.never]
def cC:gc:=#[.iff (.or (.not (.blt (.isin "list") #[!0])) (.cmp .ne (!0) (!1))) #[.ret (.cst (.bl false))] .nil,.ret (.blt .all #[.comp ["_law_one"] [none] (.one 0) .seq #[!0] .no (.and (.blt (.isin "int") #[!0]) (.not (.blt (.isin "bool") #[!0])))])]
def cX:gc:=#[.asg (.one 3) (.lst #[¬0,.bin .mod (!1) (.bin .pow (¬10) (¬60)),.bin .sub (.neg (¬1)) (.bin .mod (!1) (.bin .pow (¬10) (¬60)))]),.iff (.cmp .gt (.blt .len #[!2]) (¬0)) #[.asg (.one 4) (.idx (!2) (.bin .mod (.bin .fdiv (!1) (¬5)) (.blt .len #[!2]))),.asg (.one 3) (.bin .add (!3) (.lst #[.bin .add (!4) (¬1),.bin .sub (!4) (¬1)]))] .nil,.asg (.one 5) (.idx (!3) (.bin .mod (!1) (.blt .len #[!3]))),.ret (.or (.cmp .GC (!5) (!2)) (.call 8 #[!0,!5]))]
def dS:gc:=#[.iff (.or (.not (.blt (.isin "tuple") #[!0])) (.cmp .ne (.blt .len #[!0]) (!1))) #[.ret (.cst (.bl false))] .nil,.ret (.blt .all #[.comp ["_law_one"] [none] (.one 0) .seq #[!0] .no (.and (.blt (.isin "int") #[!0]) (.not (.blt (.isin "bool") #[!0])))])]
def cY:gc:=#[.asg (.one 1) (.blt .list #[.idx (!0) (¬0)]),.for (.one 2) .seq #[.idx (!0) (¬1)] #[.expr (.met .extend (!1) #[.slc (!2) (¬1) .no])],.ret (.sset (!1))]
def dU:gc:=#[.ret (.comp ["tie"] [none] (.one 0) .seq #[.idx (!0) (¬1)] .no (.idx (!0) (¬0)))]
def nL:gc:=#[.for (.tup [1,2]) .enum #[.call 5 #[!0]] #[.asg (.one 3) (.tup #[.idx (!2) (¬0),.blt .list #[.idx (!2) (¬1)]]),.asg (.one 4) (.dct1 (.idx (.idx (!2) (¬0)) (¬0)) (.idx (.idx (!2) (¬0)) (¬1))),.asg (.one 5) (.lst .nil),.for (.tup [6,7,8]) .seq #[.idx (!2) (¬1)] #[.iu (!4) (!7) (.cst (.bl true)),.iu (!4) (!8) (.cst (.bl true)),.expr (.met .append (!5) #[!6]),.asg (.one 9) (.call 6 #[!3,!6]),.iff (.or (.not (.call 10 #[!9,¬2])) (.cmp .ne (!9) (.tup #[!7,!8]))) #[.ret (.cst (.bl false))] .nil],.iff (.or (.not (.call 7 #[.call 11 #[!3],.skeys (!4)])) (.not (.call 7 #[.call 12 #[!3],!5]))) #[.ret (.cst (.bl false))] .nil,.for (.one 10) .seq #[.slc (!0) (.bin .add (¬5) (!1)) (.bin .add (¬10) (!1))] #[.iff (.not (.call 9 #[!3,!10,!5])) #[.ret (.cst (.bl false))] .nil],.iff (.cmp .ne (!3) (!2)) #[.ret (.cst (.bl false))] .nil],.ret (.cst (.bl true))]
def M0:List Row:=[]
def lC:List Val->M Val:=pe (look M0) 2 cW
def M1:List Row:=M0++[(("_law_cell_at":Str),2,lC)]
def wU:List Val->M Val:=pe (look M1) 3 iF
def M3:List Row:=M1++[(("_law_net":Str),2,wU)]
def nM:List Val->M Val:=pe (look M3) 8 dQ
def M4:List Row:=M3++[(("_law_number":Str),3,nM)]
def pM:List Val->M Val:=pe (look M4) 3 fB
def M5:List Row:=M4++[(("_law_poles":Str),2,pM)]
def tD:List Val->M Val:=pe (look M5) 9 gx
def M6:List Row:=M5++[(("_law_ties":Str),4,tD)]
def tE:List Val->M Val:=pe (look M6) 4 gy
def E5:List Row:=M6++[(("_law_nets":Str),1,tE)]
def pN:List Val->M Val:=pe (look E5) 5 fD
def M7:List Row:=E5++[(("ends_of":Str),2,pN)]
def kc:List Val->M Val:=pe (look M7) 2 cC
def M8:List Row:=M7++[(("_law_same_row":Str),2,kc)]
def cL:IS:=(.for (.tup [2,3,4]) .seq #[.idx (!0) (¬1)] #[.iff (.cmp .eq (!2) (!1)) #[.ret (.tup #[!3,!4])] .nil])
def ji:IS:=(.ret (.and (!3) (.and (.blt (.isin "int") #[!2]) (.and (.not (.blt (.isin "bool") #[!2])) (.cmp .eq (!2) (!1))))))
def kg:Stmt:=(aC (top 20)).getD 3 (.Pass ⟨0,0,0,0⟩)
def nN:Stmt:=(aC (top 9)).getD 0 (.Pass ⟨0,0,0,0⟩)
def iG:List Val->M Val:=PC (look E5) 5 cL
def M9:List Row:=M8++[(("_law_no_ends":Str),2,iG)]
def lD:List Val->M Val:=pe (look M9) 6 cX
def Bu:List Row:=M9++[(("_law_strange":Str),3,lD)]
def nO:List Val->M Val:=pe (look Bu) 2 dS
def Bv:List Row:=Bu++[(("_law_wholes":Str),2,nO)]
def lE:List Val->M Val:=pe (look Bv) 3 cY
def Bw:List Row:=Bv++[(("places_of":Str),1,lE)]
def nP:List Val->M Val:=pe (look Bw) 1 dU
def DY:List Row:=Bw++[(("names_of":Str),1,nP)]
def Bx:List Val->M Val:=pe (look DY) 11 nL
def P4:List cB:=[]
def bw:cB:=jy (bu P4) 2 cW
def P5:List cB:=P4++[bw]
def kh:cB:=jy (bu P5) 3 iF
def NK:List cB:=P5++[kh]
def dG:cB:=jy (bu NK) 8 dQ
def Na:List cB:=NK++[dG]
def gz:cB:=jy (bu Na) 3 fB
def NL:List cB:=Na++[gz]
def iH:cB:=jy (bu NL) 9 gx
def JD:List cB:=NL++[iH]
def iI:cB:=jy (bu JD) 4 gy
def NO:List cB:=JD++[iI]
def eO:cB:=jy (bu NO) 5 fD
def P6:List cB:=NO++[eO]
def cZ:cB:=jy (bu P6) 2 cC
def QN:List cB:=P6++[cZ]
def bX:cB:=PM (bu NO) 5 cL
def NP:List cB:=QN++[bX]
def cM:cB:=jy (bu NP) 6 cX
def JE:List cB:=NP++[cM]
def dH:cB:=jy (bu JE) 2 dS
def JF:List cB:=JE++[dH]
def dW:cB:=jy (bu JF) 3 cY
def JG:List cB:=JF++[dW]
def dI:cB:=jy (bu JG) 1 dU
def qG:List cB:=JG++[dI]
def By:cB:=nK (bu qG) 11 nL
theorem gW:bu NK 0=bw:=rfl
theorem iJ:bu Na 0=bw:=rfl
theorem iX:bu Na 2=dG:=rfl
theorem jA:bu NL 2=dG:=rfl
theorem iY:bu JD 0=bw:=rfl
theorem lQ:bu JD 1=kh:=rfl
theorem ki:bu JD 3=gz:=rfl
theorem kZ:bu JD 4=iH:=rfl
theorem bg:bu NP 8=bX:=rfl
theorem ou:bu qG 5=iI:=rfl
theorem nQ:bu qG 6=eO:=rfl
theorem kj:bu qG 7=cZ:=rfl
theorem k7:bu qG 9=cM:=rfl
theorem lR:bu qG 10=dH:=rfl
theorem k8:bu qG 11=dW:=rfl
theorem lT:bu qG 12=dI:=rfl
theorem i0:gU M0 P4:=Ba
theorem tF:Imp lC bw:=dZ (aY i0) (by decide +kernel)
theorem i1:gU M1 P5:=bx i0 tF
theorem DZ:Imp wU kh:=dZ (aY i1) (by decide +kernel)
theorem i2:gU M3 NK:=bx i1 DZ
theorem uY:Imp nM dG:=dZ (aY i2) (by decide +kernel)
theorem i3:gU M4 Na:=bx i2 uY
theorem yC:Imp pM gz:=dZ (aY i3) (by decide +kernel)
theorem i4:gU M5 NL:=bx i3 yC
theorem BA:Imp tD iH:=dZ (aY i4) (by decide +kernel)
theorem i5:gU M6 JD:=bx i4 BA
theorem BB:Imp tE iI:=dZ (aY i5) (by decide +kernel)
theorem i6:gU E5 NO:=bx i5 BB
theorem yD:Imp pN eO:=dZ (aY i6) (by decide +kernel)
theorem i7:gU M7 P6:=bx i6 yD
theorem qH:Imp kc cZ:=dZ (aY i7) (by decide +kernel)
theorem i8:gU M8 QN:=bx i7 qH
theorem tG:Imp iG bX:=DT (aY i6) (by decide +kernel)
theorem i9:gU M9 NP:=bx i8 tG
theorem tH:Imp lD cM:=dZ (aY i9) (by decide +kernel)
theorem QO:gU Bu JE:=bx i9 tH
theorem uZ:Imp nO dH:=dZ (aY QO) (by decide +kernel)
theorem QS:gU Bv JF:=bx QO uZ
theorem tK:Imp lE dW:=dZ (aY QS) (by decide +kernel)
theorem i12:gU Bw JG:=bx QS tK
theorem u0:Imp nP dI:=dZ (aY i12) (by decide +kernel)
theorem Sv:gU DY qG:=bx i12 u0
theorem D0{ns:List Int}{f:Bool}(e:By [.rl (ns.map .int)]=.ok (f,.bl true)):∃h',Bx [.rl (ns.map .int)] []=.ok (.bl true) h':=yz (aY Sv) (by decide +kernel) e
theorem c0:bC Br Br (af (top 11))=true:=by decide +kernel
theorem d0:bT ⟨Br,af (top 11),M0.map (λr=>(r.1,r.2.1)),cons,tb⟩ cW (aC (top 11))=true:=by decide +kernel
theorem c1:bC Jw ["_law_poles_here","_law_ties_here"] (af (top 15))=true:=by decide +kernel
theorem d1:bT ⟨Jw,af (top 15),M1.map (λr=>(r.1,r.2.1)),cons,tb⟩ iF (aC (top 15))=true:=by decide +kernel
theorem c2:bC Jx ["_law_script","_law_seat","_law_k"] (af (top 12))=true:=by decide +kernel
theorem d2:bT ⟨Jx,af (top 12),M3.map (λr=>(r.1,r.2.1)),cons,tb⟩ dQ (aC (top 12))=true:=by decide +kernel
theorem c3:bC Jy ["_law_script","_law_many"] (af (top 14))=true:=by decide +kernel
theorem d3:bT ⟨Jy,af (top 14),M4.map (λr=>(r.1,r.2.1)),cons,tb⟩ fB (aC (top 14))=true:=by decide +kernel
theorem c4:bC Jz MZ (af (top 13))=true:=by decide +kernel
theorem d4:bT ⟨Jz,af (top 13),M5.map (λr=>(r.1,r.2.1)),cons,tb⟩ gx (aC (top 13))=true:=by decide +kernel
theorem c5:bC JA ["_law_script"] (af (top 16))=true:=by decide +kernel
theorem d5:bT ⟨JA,af (top 16),M6.map (λr=>(r.1,r.2.1)),cons,tb⟩ gy (aC (top 16))=true:=by decide +kernel
theorem c6:bC JB ["net","tie"] (af (top 9))=true:=by decide +kernel
theorem d6:bT ⟨JB,af (top 9),E5.map (λr=>(r.1,r.2.1)),cons,tb⟩ fD (aC (top 9))=true:=by decide +kernel
theorem c7:bC Bs Bs (af (top 19))=true:=by decide +kernel
theorem d7:bT ⟨Bs,af (top 19),M7.map (λr=>(r.1,r.2.1)),cons,tb⟩ cC (aC (top 19))=true:=by decide +kernel
theorem c8:bC ["_law_net_here","_law_number_here","_law_what","_law_plain","e"] ["_law_net_here","_law_number_here"] (af (top 20))=true:=by decide +kernel
theorem d8:yq ⟨["_law_net_here","_law_number_here","_law_what","_law_plain","e"],af (top 20),M8.map (λr=>(r.1,r.2.1)),cons,tb⟩ ji kg=true:=by decide +kernel
theorem dR:yq ⟨["net","tie","name","one","other"],af (top 9),E5.map (λr=>(r.1,r.2.1)),cons,tb⟩ cL nN=true:=by decide +kernel
theorem Sw:ME (aC (top 9)) nN "NotThere" "tie":=⟨_,_,_,_,rfl⟩
theorem Sx:MF (aC (top 20)) kg "ends_of" "NotThere" "tie" "_law_net_here" "_law_number_here":=⟨_,_,_,_,_,_,_,_,_,_,_,_,_,_,_,_,_,_,_,_,_,_,_,_,_,_,_,_,_,_,_,_,_,_,_,_,_,⟨0,0,0,0⟩,_,_,_,rfl⟩
def stI:Stmt:=match top 4 with|.ClassDef (body:=b) ..=>b.getD 0 (.Pass ⟨0,0,0,0⟩)|_=>.Pass ⟨0,0,0,0⟩
theorem PB:MD (aC stI) "tie":=⟨_,_,_,_,rfl⟩
theorem cI:bC ["self","tie"] ["self","tie"] (af stI)=true:=by decide +kernel
theorem Sy:∀x∈MI,(af (top 20)).names.lookup x=some .local:=by decide +kernel
theorem Sz:∀x∈("ends_of":Str)::("NotThere":Str)::QL,(af (top 20)).names.lookup x=some .globalImplicit:=by decide +kernel
theorem SA:(af (top 9)).names.lookup ("NotThere":Str)=some .globalImplicit:=by decide +kernel
theorem SD:L2.JN (af (top 9)) "tie":=.inl (by decide +kernel)
theorem SE:∀v0 i h,dg (look M8) ji [some v0,some (.int i),some (.int i),some (.bl true),none] h=.ok (.rt (.bl true)) h:=λv0 i h=>Jq v0 i h
theorem c9:bC JC E2 (af (top 21))=true:=by decide +kernel
theorem d9:bT ⟨JC,af (top 21),M9.map (λr=>(r.1,r.2.1)),cons,tb⟩ cX (aC (top 21))=true:=by decide +kernel
theorem SG:bC tB tB (af (top 17))=true:=by decide +kernel
theorem SH:bT ⟨tB,af (top 17),Bu.map (λr=>(r.1,r.2.1)),cons,tb⟩ dS (aC (top 17))=true:=by decide +kernel
theorem SJ:bC Bt ["net"] (af (top 7))=true:=by decide +kernel
theorem SK:bT ⟨Bt,af (top 7),Bv.map (λr=>(r.1,r.2.1)),cons,tb⟩ cY (aC (top 7))=true:=by decide +kernel
theorem c12:bC ["net"] ["net"] (af (top 8))=true:=by decide +kernel
theorem SM:bT ⟨["net"],af (top 8),Bw.map (λr=>(r.1,r.2.1)),cons,tb⟩ dU (aC (top 8))=true:=by decide +kernel
theorem SN:bC E4 ["_law_script"] (af (top 22))=true:=by decide +kernel
theorem SO:bT ⟨E4,af (top 22),DY.map (λr=>(r.1,r.2.1)),cons,tb⟩ nL (aC (top 22))=true:=by decide +kernel
section
variable {P:Program} {w:World} {K:Frag} {mg:Str->Option Value} {base:Heap}
theorem all_mk{l:PySem.W.OpenLaw}{h:Heap}{fa:Addr}(X:K.In h)(G:h.Ns mainGlobals mg)(SQ:mg "law" = some (.ref fa))(hφ:∀ns:List Int,ns.length<=63->∃h',Bx [.rl (ns.map .int)] []=.ok (.bl true) h'){a0:Addr}{a1:Addr}{a2:Addr}{a3:Addr}{a4:Addr}{a5:Addr}{a6:Addr}{a7:Addr}{a8:Addr}{a9:Addr}{QT:Addr}{QU:Addr}{QV:Addr}{QW:Addr}{X0 X1 X2 X3 X4 XF:Addr}{SS:ClassData}
  (A0:nsIn K mainGlobals "_law_cell_at" = some (some (.ref a0)))
  (F0:qJ K "_law_cell_at" "_law_cell_at" (top 11) a0)
  (A1:nsIn K mainGlobals "_law_net" = some (some (.ref a1)))
  (F1:qJ K "_law_net" "_law_net" (top 15) a1)
  (A2:nsIn K mainGlobals "_law_number" = some (some (.ref a2)))
  (F2:qJ K "_law_number" "_law_number" (top 12) a2)
  (A3:nsIn K mainGlobals "_law_poles" = some (some (.ref a3)))
  (F3:qJ K "_law_poles" "_law_poles" (top 14) a3)
  (A4:nsIn K mainGlobals "_law_ties" = some (some (.ref a4)))
  (F4:qJ K "_law_ties" "_law_ties" (top 13) a4)
  (A5:nsIn K mainGlobals "_law_nets" = some (some (.ref a5)))
  (F5:qJ K "_law_nets" "_law_nets" (top 16) a5)
  (A6:nsIn K mainGlobals "ends_of" = some (some (.ref a6)))
  (F6:qJ K "ends_of" "ends_of" (top 9) a6)
  (A7:nsIn K mainGlobals "_law_same_row" = some (some (.ref a7)))
  (F7:qJ K "_law_same_row" "_law_same_row" (top 19) a7)
  (A8:nsIn K mainGlobals "_law_no_ends" = some (some (.ref a8)))
  (F8:qJ K "_law_no_ends" "_law_no_ends" (top 20) a8)
  (A9:nsIn K mainGlobals "_law_strange" = some (some (.ref a9)))
  (F9:qJ K "_law_strange" "_law_strange" (top 21) a9)
  (A10:nsIn K mainGlobals "_law_wholes" = some (some (.ref QT)))
  (F10:qJ K "_law_wholes" "_law_wholes" (top 17) QT)
  (A11:nsIn K mainGlobals "places_of" = some (some (.ref QU)))
  (F11:qJ K "places_of" "places_of" (top 7) QU)
  (A12:nsIn K mainGlobals "names_of" = some (some (.ref QV)))
  (F12:qJ K "names_of" "names_of" (top 8) QV)
  (A13:nsIn K mainGlobals "law" = some (some (.ref QW)))
  (F13:qJ K "law" "law" (top 22) QW)
  (Z:∀x∈bltNames,nsIn K mainGlobals x=some none)
  (XA0:nsIn K mainGlobals "NotThere" = some (some (.ref X0)))
  (XA1:nsIn K mainGlobals "NetError" = some (some (.ref X1)))
  (XA2:nsIn K mainGlobals "Twice" = some (some (.ref X2)))
  (XA3:nsIn K mainGlobals "NoNumber" = some (some (.ref X3)))
  (XA4:nsIn K mainGlobals "Over" = some (some (.ref X4)))
  (XV:nsIn K mainGlobals "ValueError" = some none) (XI:findIn K (.ref X0) "__init__" = some (some (.ref XF))) (XT:qJ K "__init__" "NotThere.__init__" stI XF) (XM:L2.yb K X0 X1 XF SS) (XG:L2.uE K X0) (XN:L2.CC K X0) (XQ:findIn K (.ref X0) "tie" = some none)
  (XK0:kitOne K (.ref X0) (.ref X1)=some true) (XK1:kitOne K (.ref X0) (.type "ValueError")=some true) (XK2:kitAny K (.ref X0) [.ref X2,.ref X3,.ref X4]=some false) :
  ∃fd:FuncData,(∀(s:Shared) (v:Value),BindsTo s fd ⟨[v],[]⟩ [("_law_script",v)])/\∀base:Heap,K.In base->base.Ns mainGlobals mg->cE l.prog w K mg base rm 28 fa fd ["_law_script"] (NG K):=by
 have e:=SQ.symm.trans (Uo X G A13);cases e;obtain⟨cl,hcl⟩:∃cl:Nat->Addr,cl=λn=>0:=⟨_,rfl⟩;have T:Base K cl mg cons tb:=by
  subst hcl;refine⟨λx hx=>?_,λp hp=>?_,λc hc=>?_,λp hp=>?_,λp hp=>?_,λp hp=>?_⟩
  ·exact Wf X G (Z x hx)
  ·simp[cons]at hp
  ·exact absurd hc (Nat.not_lt_zero _)
  ·simp[tb]at hp
  ·simp[tb]at hp
  ·simp[tb]at hp
 obtain⟨fd,F⟩:=F13;obtain⟨_,_,_,_,_,_,_,_,_,e,_⟩:=F.ex;refine⟨fd,λs v=>by rw[e];exact .of_eq rfl,λbase _ _=>?_⟩;have G0:dX l.prog w ⟨K,cl⟩ mg base 0 M0:=all_nil;have G1:dX l.prog w ⟨K,cl⟩ mg base 2 M1:=gR (x:="_law_cell_at") (N:=Br) (ps:=Br) (body:=cW) T G0 F0 (Uo X G A0) c0 d0 (by decide) (by intro _ _ _ _ _ _ _ l;apply ln2 l;intros;rfl);have G2:dX l.prog w ⟨K,cl⟩ mg base 4 M3:=gR (x:="_law_net") (N:=Jw) (ps:=["_law_poles_here","_law_ties_here"]) (body:=iF) T G1 F1 (Uo X G A1) c1 d1 (by decide) (by intro _ _ _ _ _ _ _ l;apply ln2 l;intros;rfl);have G3:dX l.prog w ⟨K,cl⟩ mg base 6 M4:=gR (x:="_law_number") (N:=Jx) (ps:=["_law_script","_law_seat","_law_k"]) (body:=dQ) T G2 F2 (Uo X G A2) c2 d2 (by decide) (by intro _ _ _ _ _ _ _ l;apply QF l;intros;rfl);have G4:dX l.prog w ⟨K,cl⟩ mg base 8 M5:=gR (x:="_law_poles") (N:=Jy) (ps:=["_law_script","_law_many"]) (body:=fB) T G3 F3 (Uo X G A3) c3 d3 (by decide) (by intro _ _ _ _ _ _ _ l;apply ln2 l;intros;rfl);have G5:dX l.prog w ⟨K,cl⟩ mg base 10 M6:=gR (x:="_law_ties") (N:=Jz) (ps:=MZ) (body:=gx) T G4 F4 (Uo X G A4) c4 d4 (by decide) (by intro _ _ _ _ _ _ _ l;apply R4 l;intros;rfl);have G6:dX l.prog w ⟨K,cl⟩ mg base 12 E5:=gR (x:="_law_nets") (N:=JA) (ps:=["_law_script"]) (body:=gy) T G5 F5 (Uo X G A5) c5 d5 (by decide) (by intro _ _ _ _ _ _ _ l;apply Pe l;intros;rfl);have G7:dX l.prog w ⟨K,cl⟩ mg base 14 M7:=gR (x:="ends_of") (N:=JB) (ps:=["net","tie"]) (body:=fD) T G6 F6 (Uo X G A6) c6 d6 (by decide) (by intro _ _ _ _ _ _ _ l;apply ln2 l;intros;rfl);have G8:dX l.prog w ⟨K,cl⟩ mg base 16 M8:=gR (x:="_law_same_row") (N:=Bs) (ps:=Bs) (body:=cC) T G7 F7 (Uo X G A7) c7 d7 (by decide) (by intro _ _ _ _ _ _ _ l;apply ln2 l;intros;rfl);have XE:L2.cE l.prog w K mg base (L2.rO l.prog w) 17 a6 _ ["net","tie"] (Pz ⟨K,cl⟩ (look E5) 5 cL X0 "tie"):=(Ji (k:=11) (N:=["net","tie","name","one","other"]) (ps:=["net","tie"]) T G6 (UU F6) c6 rfl Sw dR rfl rfl rfl SD XM (Jh (k:=11) (UU XT) cI (by decide) PB rfl rfl) ((UU XT).binds (by intro _ _ _ _ _ _ _ l;apply ln2 l;intros;rfl)) rfl XQ SA (Uo X G XA0) rfl).mono (by decide);have G9:dX l.prog w ⟨K,cl⟩ mg base 18 M9:=wg (r0:=("_law_no_ends",2,iG)) G8 (.inl ⟨by decide,.inl ⟨a8,_,["_law_net_here","_law_number_here"],rfl,Uo X G A8,F8.kp,(UU F8).binds (by intro _ _ _ _ _ _ _ l;apply ln2 l;intros;rfl),Jm (fx:="ends_of") (cx:="NotThere") (g:="tie") (C:=X0) (D:=X1) (C1:=X2) (C2:=X3) (C3:=X4) T G8 (UU F8) c8 Sx d8 SE Sy Sz ⟨XG,XN,XQ,Uo X G XA0,Uo X G XA1,Uo X G XA2,Uo X G XA3,Uo X G XA4,Wf X G XV,Wf X G (Z _ (by decide)),XK0,XK1,XK2⟩ XE ((UU F6).binds (by intro _ _ _ _ _ _ _ l;apply ln2 l;intros;rfl)) (Uo X G A6) F6.kp rfl rfl⟩⟩);have SV:dX l.prog w ⟨K,cl⟩ mg base 20 Bu:=gR (x:="_law_strange") (N:=JC) (ps:=E2) (body:=cX) T G9 F9 (Uo X G A9) c9 d9 (by decide) (by intro _ _ _ _ _ _ _ l;apply QF l;intros;rfl);have SW:dX l.prog w ⟨K,cl⟩ mg base 22 Bv:=gR (x:="_law_wholes") (N:=tB) (ps:=tB) (body:=dS) T SV F10 (Uo X G A10) SG SH (by decide) (by intro _ _ _ _ _ _ _ l;apply ln2 l;intros;rfl);have SX:dX l.prog w ⟨K,cl⟩ mg base 24 Bw:=gR (x:="places_of") (N:=Bt) (ps:=["net"]) (body:=cY) T SW F11 (Uo X G A11) SJ SK (by decide) (by intro _ _ _ _ _ _ _ l;apply Pe l;intros;rfl);have SY:dX l.prog w ⟨K,cl⟩ mg base 26 DY:=gR (x:="names_of") (N:=["net"]) (ps:=["net"]) (body:=dU) T SX F12 (Uo X G A12) c12 SM (by decide) (by intro _ _ _ _ _ _ _ l;apply Pe l;intros;rfl);exact(EK T SY F SN SO).imp (Ii hφ)
end
end K03
end
section
open PySem L2 Hv
set_option hygiene false
local macro_rules | `(tactic| simp only[EV,$ls,*] $[$l:location]?)=>`(tactic| simp only[jy,Jd,Je,Jf,Mb,Mc,Mf,Mg,Mh,Mi,IX,Mj,IY,IZ,Po,Ml,Mm,fk,bU,QG,aX,sL,fZ,NH,Dm,Dl,oz,QI,EO,fu,IV,l8,DJ,IW,isVar,iA,List.getElem?_cons_zero,List.getElem?_cons_succ,List.set_cons_zero,List.set_cons_succ,map_cons,map_nil,length_cons,length_nil,List.cons_append,List.nil_append,List.replicate_succ,List.replicate_zero,Nat.reduceSub,Nat.reduceAdd,Nat.reduceLeDiff,Mn,Mp,Pp,Pq,Pu,Pw,Px,Py,Mq,Mr,Ms,Mt,Mv,Mw,Mx,My,Mz,MA,I0,Ja,Jb,Jc,MB,jV,aR,nu,Pf,cy,iy,Hv.stored,List.contains_nil,List.contains_cons,List.elem_nil,List.elem_cons,Nat.reduceBEq,Nat.reduceEqDiff,BEq.rfl,List.all_cons,List.all_nil,beq_self_eq_true,AJ,di,om,jf,lO,↓reduceIte,Bool.and_true,Bool.true_and,Bool.false_and,Bool.and_false,Bool.or_false,Bool.false_or,Bool.or_true,Bool.true_or,Bool.or_self,Nat.zero_le,Bool.not_true,Bool.not_false,false_eq_true,decide_eq_true_eq,not_eq_true',decide_eq_false_iff_not,List.append_nil,List.nil_append,reduceCtorEq,$ls,*] $[$l:location]?)
section
open PySem L2 Hv
namespace K03
def cellAt(ns:List Int)(k:Nat):Int:=ns.getD k 0
theorem l9(ns:List Int)(k:Nat):bw [.rl (ns.map .int),.int k]=.ok (true,.int (cellAt ns k)):=by
 unfold bw cW
 by_cases h:k<ns.length
 ·have e:gY (List.map Val.int ns) (k:Int)=some (.int (ns[k])):=lW (by simp[h])
  have h':(k:Int)<ns.length:=by omega
  simp only[EV,wM e,length_map,h',cellAt,List.getD,List.getElem?_eq_getElem h,Option.getD_some]
 ·have h':¬ (k:Int)<ns.length:=by omega
  have e:ns[k]?=none:=by simp;omega
  simp only[EV,length_map,h',cellAt,List.getD,e,getD_none]
def number(ns:List Int)(gA:Nat)(k:Int):Int :=
 let one:=cellAt ns gA
 let two:=cellAt ns (gA+1)
 let step:=if 0<one%3 then one%10 ^ 57+1 else 1
 let shift:=if 0<two%3 then two%10 ^ 57 else 0
 let here:=step*(((1+two/3%66)*k+one/3%67)%67)+shift
 if two%7=3 then 10 ^ 60-1-here else here
theorem yE(a b:Int)(h:0<=b/\b<67):fN a b=true:=by
 unfold fN;simp only[or_eq_true,and_eq_true,decide_eq_true_eq];right;omega
theorem u5(a b:Int)(h:0<=a/\a<67):fN a b=true:=by
 unfold fN;simp only[or_eq_true,and_eq_true,decide_eq_true_eq];left;omega
theorem gB(ns:List Int)(gA:Nat)(k:Int):dG [.rl (ns.map .int),.int gA,.int k]=.ok (true,.int (number ns gA k)):=by
 have c1:=l9 ns gA;have c2:bw [.rl (ns.map .int),.int ((gA:Int)+1)]=.ok (true,.int (cellAt ns (gA+1))):=l9 ns (gA+1);unfold dG dQ number;generalize h1:cellAt ns gA=one at *;generalize h2:cellAt ns (gA+1)=two at *;have m1:fN (1+two/3%66) k=true:=u5 _ _ (by omega);have m2:∀x,fN x (((1+two/3%66)*k+one/3%67)%67)=true:=λx=>yE _ _ (by omega);simp only[EV,gW,c1,c2,bV (show decide ((0:Int)<3)=true by decide),bV (show decide ((0:Int)<7)=true by decide),bV (show decide ((0:Int)<66)=true by decide),bV (show decide ((0:Int)<67)=true by decide),kT (show kL 3=true by decide),pI (show decide ((0:Int)<=57/\(57:Int)<=1000000/\(10:Int).natAbs<2 ^ 64)=true by decide),pI (show decide ((0:Int)<=60/\(60:Int)<=1000000/\(10:Int).natAbs<2 ^ 64)=true by decide),wL m1,wL (m2 _),bV (show decide ((0:Int)<10 ^ (57:Int).toNat)=true by decide)]
 repeat' split
 all_goals first|rfl|contradiction
def Sm(i:Int):Prop:=0<=i/\i<10 ^ 60
theorem yF(ns:List Int)(gA:Nat)(k:Int):Sm (number ns gA k):=by
 unfold number Sm;dsimp only;generalize cellAt ns gA=one;generalize cellAt ns (gA+1)=two;generalize ((1+two/3%66)*k+one/3%67)=z;have hs:∃st:Int,(if 0<one%3 then one%10 ^ 57+1 else 1)=st/\1<=st/\st<=10 ^ 57:=by refine⟨_,rfl,?_,?_⟩<;>split<;>omega
 have hf:∃st:Int,(if 0<two%3 then two%10 ^ 57 else 0)=st/\0<=st/\st<=10 ^ 57:=by refine⟨_,rfl,?_,?_⟩<;>split<;>omega
 obtain⟨st,e1,a1,a2⟩:=hs;obtain⟨sh,e2,b1,b2⟩:=hf;rw[e1,e2];have r1:0<=z%67:=by omega
 have r2:z%67<=66:=by omega
 have p1:0<=st*(z%67):=Int.mul_nonneg (by omega) r1;have p2:st*(z%67)<=10 ^ 57*66:=Int.mul_le_mul a2 r2 r1 (by decide);generalize st*(z%67)=y at *
 split<;>omega
theorem u6(ns:List Int)(gA:Nat)(i j:Int)(hi:0<=i/\i<67)(hj:0<=j/\j<67)(e:number ns gA i=number ns gA j):i=j:=by
 unfold number at e;dsimp only at e;generalize cellAt ns gA=one at *;generalize cellAt ns (gA+1)=two at *;have hs:∃st:Int,(if 0<one%3 then one%10 ^ 57+1 else 1)=st/\1<=st:=by refine⟨_,rfl,?_⟩;split<;>omega
 obtain⟨st,e1,a1⟩:=hs;rw[e1]at e;have e2:st*(((1+two/3%66)*i+one/3%67)%67)=st*(((1+two/3%66)*j+one/3%67)%67):=by split at e<;>omega
 have e3:=Int.eq_of_mul_eq_mul_left (by omega:st≠0) e2;exact DS (by omega) hi hj e3
structure nR (ns:List Int) (many:Int) (ts:List T3):Prop where
 len:ts.length<=14
 name:∀i (h:i<ts.length),(ts[i]).1=number ns 0 i
 ends:∀t∈ts,(∃j,0<=j/\j<many/\t.2.1=number ns 2 j)/\∃j,0<=j/\j<many/\t.2.2=number ns 2 j
theorem nR.nodup{ns:List Int}{many:Int}(h:nR ns many ts):(ts.map (·.1)).Nodup:=by
 unfold List.Nodup;rw[Vb];intro i j hi hj hij;rw[TQ]at hi hj;rw[Vz,Vz,h.name i hi,h.name j hj];intro e;have:=h.len;have:=u6 ns 0 i j (by omega) (by omega) e;omega
theorem nS:∀(i:Nat) (ms:List Int) (pre post:List Val) (x:Val),bI i (ms.map .int)=pre++x::post->∃c:Int,x=.tup [.int ((i+pre.length:Nat):Int),.int c]
 |_,[],pre,post,x,h=>by simp[bI]at h
 | i,d::r,[],post,x,h=>by
  rw[T6,bI,Wx]at h;injection h with h _
  exact⟨d,by rw[<-h];rfl⟩
 | i,d::r,y::pre,post,x,h=>by
  rw[T6,bI,Wt]at h;injection h with _ h
  obtain⟨c,e⟩:=nS (i+1) r pre post x h;exact⟨c,by rw[e,UA];congr 4;omega⟩
theorem D3(ns:List Int)(start many:Int)(h0:0<=start)(hm:decide (0<many)=true):∃f ts,iH [.rl (ns.map .int),.int start,.int 14,.int many]=.ok (f,.rl (ts.map bP))/\nR ns many ts:=by
 unfold iH gx;simp only[EV,EW,EU,sU];rw[wK];have hlen:=yx ns start 14 h0;have S0:((14:Nat):Int)=14:=rfl;rw[S0]at hlen;generalize eE ns (some start) (some (start+14))=cs at *;have hx:bI 0 (cs.map Val.int)=(bI 0 (cs.map Val.int)).map id:=(map_id _).symm;rw[hx];refine eN id (λr:Pr FV=>∃(f:Bool) (ts:List T3),r=.ok (f,.rl (ts.map bP))/\nR ns many ts)
  (λdone env=>∃ts a b c d,env=[some (.sh,.rl (ns.map .int)),some (.sh,.int start),some (.sh,.int 14),some (.sh,.int many),some (.ow,.rl (ts.map bP)),a,b,c,d]/\ts.length=done.length/\(ts.length<=14->nR ns many ts))
  ⟨[],none,none,none,none,rfl,rfl,λ_=>⟨by simp,λi h=>by simp at h,λ_ h=>by simp at h⟩⟩ ?_ ?_
 ·rintro pre x post env hx ⟨ts,a,b,c,d,rfl,hl,hg⟩
  have hpl:pre.length<14:=by have:=UM length hx;rw[kW,TQ,Ul,UA]at this;omega
  obtain⟨cell,rfl⟩:=nS _ _ _ _ _ hx;rw[Nat.zero_add];have hg:=hg (by omega);have hm':0<many:=by simpa using hm
  have b1:=VI (cell*48271%10007) (show many≠0 by omega);have b2:=Vs (cell*48271%10007) hm';have b3:=VI (cell*16807%10009) (show many≠0 by omega);have b4:=Vs (cell*16807%10009) hm';have e1:=gB ns 2 (cell*48271%10007%many);have e2:=gB ns 2 (cell*16807%10009%many);have e3:=gB ns 0 (pre.length:Int);rw[show ((2:Nat):Int)=2 from rfl]at e1 e2;rw[show ((0:Nat):Int)=0 from rfl]at e3;generalize NR:number ns 2 (cell*48271%10007%many)=n1 at *;generalize NS:number ns 2 (cell*16807%10009%many)=n2 at *;generalize S4:number ns 0 (pre.length:Int)=n3 at *;refine⟨[some (.sh,.rl (ns.map .int)),some (.sh,.int start),some (.sh,.int 14),some (.sh,.int many),some (.ow,.rl ((ts++[(n3,n1,n2)]).map bP)),some (.sh,.int pre.length),some (.sh,.int cell),some (.sh,.int n1),some (.sh,.int n2)],?_,⟨ts++[(n3,n1,n2)],_,_,_,_,rfl,by simp[hl],λP7=>⟨P7,λi hi=>?_,λt ht=>?_⟩⟩⟩
  rotate_left
  ·rw[List.getElem_append]
   split
   ·exact hg.name i (by assumption)
   ·simp only[length_append,length_cons,length_nil]at hi
    have:i=pre.length:=by omega
    subst this;simp[hl,S4]
  ·rcases U0.mp ht with ht|ht
   ·exact hg.ends t ht
   ·rw[Ue]at ht;subst ht;exact⟨⟨_,b1,b2,NR.symm⟩,⟨_,b3,b4,NS.symm⟩⟩
  have m1:∀x:Int,fN x 48271=true:=λx=>by unfold fN;simp
  have m2:∀x:Int,fN x 16807=true:=λx=>by unfold fN;simp
  have z:ts.length<sizeLine:=by rw[hl];unfold sizeLine;omega
  simp only[EV,id,Bc,jA,wL (m1 _),wL (m2 _),bV hm,bV (show decide ((0:Int)<10007)=true by decide),bV (show decide ((0:Int)<10009)=true by decide),e1,e2,e3,length_map,z,map_append,bP];rfl
 ·rintro env ⟨ts,a,b,c,d,rfl,hl,hg⟩;refine⟨_,ts,by simp only[EV,fu];rfl,hg ?_⟩;rw[hl,kW,TQ];exact hlen
theorem BC(ns:List Int)(many:Int)(hm:0<many):∃f i j,gz [.rl (ns.map .int),.int many]=.ok (f,.tup [.int (number ns 2 i),.int (number ns 2 j)])/\(0<=i/\i<many)/\(0<=j/\j<many):=by
 have e1:=gB ns 2 0;have e2:=gB ns 2 1;rw[show ((2:Nat):Int)=2 from rfl]at e1 e2;have c1:bw [.rl (ns.map .int),.int 4]=.ok (true,.int (cellAt ns 4)):=l9 ns 4;have z:2<=sizeLine:=by decide
 unfold gz fB;simp only[EV,iJ,iX,e1,e2,c1,kT (show kL 8=true by decide),bV (show decide ((0:Int)<5)=true by decide)];simp(config:={decide:=false}) only [z,if_true]
 by_cases h1:many=1
 ·refine⟨true,0,0,?_,by omega,by omega⟩;simp[h1]
 ·by_cases h2:cellAt ns 4/8%5=4
  ·refine⟨true,0,0,?_,by omega,by omega⟩;simp[h1,h2]
  ·refine⟨true,0,1,?_,by omega,by omega⟩;simp[h1,h2]
theorem JH{p q:Int}{ts:List T3}(hl:ts.length<=63):kh [.tup [.int p,.int q],.rl (ts.map bP)]=.ok (true,f7 (min p q) (max p q) (jg (ts.map turnT))):=by
 unfold kh iF;have z:2<=sizeLine:=by decide
 have z3:3<=sizeLine:=by decide
 have hc:ts.length<=100000:=by omega
 simp only[EV,j7,length_map,hc,jX];rw[gO bP (λt=>bP (turnT t)) ts (λt ht=>by
  simp only[EV,j8,z3];rfl)]
 have em:ts.map (λt=>bP (turnT t))=(ts.map turnT).map bP:=by rw[UG];rfl
 rw[em];simp only[EV,z,Bh (show (ts.map turnT).length<64 by rw[length_map];omega)];rfl
structure wV (ns:List Int) (n:Int×Int×List T3):Prop where
 ord:n.1<=n.2.1
 len:n.2.2.length<=14
 up:EZ n.2.2
 ends:∀t∈n.2.2,t.2.1<=t.2.2
 names:∀t∈n.2.2,Sm t.1
 many:∃m:Int,0<m/\m<=8/\∀x,(x=n.1\/x=n.2.1\/∃t∈n.2.2,x=t.2.1\/x=t.2.2)->∃j,0<=j/\j<m/\x=number ns 2 j
def qI(n:Int×Int×List T3):Val:=f7 n.1 n.2.1 n.2.2
theorem D4(ns:List Int):∃(f:Bool) (gX:List (Int×Int×List T3)),iI [.rl (ns.map .int)]=.ok (f,.rl (gX.map qI))/\∀n∈gX,wV ns n:=by
 have c1:bw [.rl (ns.map .int),.int 4]=.ok (true,.int (cellAt ns 4)):=l9 ns 4;unfold iI gy;have z4:4<=sizeLine:=by decide
 simp only[EV,iY,c1,bV (show decide ((0:Int)<8)=true by decide),z4,j7];rw[wK];have wW:0<1+cellAt ns 4%8/\1+cellAt ns 4%8<=8:=by omega
 generalize 1+cellAt ns 4%8=many at *;have hmd:decide (0<many)=true:=by simpa using wW.1
 have hx:[Val.int 5,Val.int 19,Val.int 33,Val.int 47]=[5,19,33,47].map Val.int:=rfl;rw[hx];refine eN Val.int (λr:Pr FV=>∃(f:Bool) (gX:List (Int×Int×List T3)),r=.ok (f,.rl (gX.map qI))/\∀n∈gX,wV ns n)
  (λdone env=>∃(gX:List (Int×Int×List T3)) (a:Option (Mk×Val)),env=[some (.sh,.rl (ns.map .int)),some (.sh,.int many),some (.ow,.rl (gX.map qI)),a]/\gX.length<=done.length/\∀n∈gX,wV ns n)
  ⟨[],none,rfl,TV _,λ_ h=>by simp at h⟩ ?_ ?_
 ·rintro pre j post env hx ⟨gX,a,rfl,hl,hg⟩
  have hj:j∈[5,19,33,47]:=by rw[hx];simp
  have hj0:0<=j:=by simp at hj;omega
  have hlen:pre.length<4:=by have:=UM length hx;simp only[length_cons,length_nil,length_append]at this;omega
  obtain⟨f1,i1,i2,e1,hi1,hi2⟩:=BC ns many wW.1;obtain⟨f2,ts,e2,ht⟩:=D3 ns j many hj0 hmd;generalize NR:number ns 2 i1=p at *;generalize NS:number ns 2 i2=q at *;have e3:=JH (p:=p) (q:=q) (ts:=ts) (by have:=ht.len;omega);have z:gX.length<sizeLine:=by unfold sizeLine;omega
  have ok:wV ns (min p q,max p q,jg (ts.map turnT)):=by
   have pm:=jz (ts.map turnT);refine⟨by dsimp only;omega,?_,?_,?_,?_,many,wW.1,wW.2,?_⟩
   ·dsimp only;rw[pm.length_eq,TQ];exact ht.len
   ·refine sY _ ?_;rw[UG];exact ht.nodup
   ·intro t h
    obtain⟨u,hu,rfl⟩:=Vj.mp (pm.mem_iff.mp h);unfold turnT;dsimp only
    split<;>split<;>omega
   ·intro t h;obtain⟨u,hu,rfl⟩:=Vj.mp (pm.mem_iff.mp h);obtain⟨i,hi,rfl⟩:=Vx.mp hu;show Sm (ts[i]).1;rw[ht.name i hi];exact yF _ _ _
   ·intro x hx
    dsimp only at hx
    rcases hx with h|h|⟨t,h,h'⟩
    ·rcases(show x=p\/x=q by omega) with h|h
     ·exact⟨i1,hi1.1,hi1.2,by rw[h,NR]⟩
     ·exact⟨i2,hi2.1,hi2.2,by rw[h,NS]⟩
    ·rcases(show x=p\/x=q by omega) with h|h
     ·exact⟨i1,hi1.1,hi1.2,by rw[h,NR]⟩
     ·exact⟨i2,hi2.1,hi2.2,by rw[h,NS]⟩
    ·obtain⟨u,hu,rfl⟩:=Vj.mp (pm.mem_iff.mp h)
     obtain⟨⟨j1,a1,a2,a3⟩,⟨j2,b1,b2,b3⟩⟩:=ht.ends u hu;have:x=u.2.1\/x=u.2.2:=by
      unfold turnT at h';dsimp only at h'
      rcases h' with h'|h'<;>split at h'<;>omega
     rcases this with h|h
     ·exact⟨j1,a1,a2,by rw[h,a3]⟩
     ·exact⟨j2,b1,b2,by rw[h,b3]⟩
  by_cases hc:j=5\/j<(ns.length:Int)
  ·refine⟨[some (.sh,.rl (ns.map .int)),some (.sh,.int many),some (.ow,.rl ((gX++[(min p q,max p q,jg (ts.map turnT))]).map qI)),some (.sh,.int j)],?_,⟨gX++[(min p q,max p q,jg (ts.map turnT))],_,rfl,by simp;omega,?_⟩⟩
   ·simp only[EV,fy,ki,kZ,lQ,e1,e2,e3,z,length_map,map_append,qI]
    rcases hc with hc|hc
    ·simp only[hc,if_true,decide_true]
    ·simp only[hc,if_true,decide_true]
     split<;>rfl
   ·intro u hu
    rcases U0.mp hu with hu|hu
    ·exact hg u hu
    ·rw[Ue]at hu;rw[hu];exact ok
  ·refine⟨[some (.sh,.rl (ns.map .int)),some (.sh,.int many),some (.ow,.rl (gX.map qI)),some (.sh,.int j)],?_,⟨gX,_,rfl,by simp;omega,hg⟩⟩;have h1:¬ j=5:=λh=>hc (.inl h);have h2:¬ j<(ns.length:Int):=λh=>hc (.inr h);simp only[EV,fy,length_map,h1,h2,if_false,decide_false]
 ·rintro env ⟨gX,a,rfl,hl,hg⟩;exact⟨_,gX,by simp only[EV,fu];rfl,hg⟩
end K03
end
section
open PySem L2 Hv
namespace K03
def aK(p q:Int)(ts:List T3):List Int:=p::q::ts.flatMap λt=>[t.2.1,t.2.2]
def Nb(p q:Int)(ts:List T3):List Int:=iu (aK p q ts)
theorem gC(p q:Int)(ts:List T3):(aK p q ts).length=2+2*ts.length:=by
 unfold aK
 induction ts with
 |nil=>rfl
 |cons t r ih=>simp only[List.flatMap_cons,length_cons,length_append,length_nil] at *;omega
theorem ko:∀(ns ks:List Int),(bA ks ns).length<=ks.length+ns.length
 |[],ks=>TV _
 | k::r,ks=>by
  rw[bA,UA];have:=ko r (fF ks k);have:=jL ks k;omega
theorem D5{p q:Int}(h:ts.length<=14):(Nb p q ts).length<64:=by
 unfold Nb iu;rw[(Vr _).length_eq];have:=ko (aK p q ts) [];rw[gC]at this;simp only[length_nil]at this;omega
theorem places_eq{p q:Int}(h:ts.length<=14):dW [f7 p q ts]=.ok (true,.rl ((Nb p q ts).map .int)):=by
 unfold dW cY f7;simp only[EV,j6 DK,j6 Bb,j7];rw[wK];refine eN bP (λr:Pr FV=>r=.ok (true,.rl ((Nb p q ts).map .int)))
  (λdone env=>∃a,env=[some (.sh,f7 p q ts),some (.ow,.rl ((aK p q done).map .int)),a])
  ⟨none,rfl⟩ ?_ ?_
 ·rintro pre t post env hx ⟨a,rfl⟩
  refine⟨[some (.sh,f7 p q ts),some (.ow,.rl ((aK p q (pre++[t])).map .int)),some (.sh,bP t)],?_,_,rfl⟩;have hpl:pre.length<14:=by have:=UM length hx;rw[Ul,UA]at this;omega
  have z:((aK p q pre).map Val.int).length+2<=sizeLine:=by rw[TQ,gC];unfold sizeLine;omega
  have ea:(aK p q (pre++[t])).map Val.int=(aK p q pre).map Val.int++[.int t.2.1,.int t.2.2]:=by unfold aK;simp
  simp only[EV,fy,Jg,z,ea]
 ·rintro env ⟨a,rfl⟩
  have hl:(aK p q ts).length<64:=by rw[gC];omega
  simp only[EV,ints_map,hl];rfl
end K03
end
section
open PySem L2 Hv
namespace K03
theorem QX(t:Int):fY (.isin "int") [.int t]=.ok (true,.bl true):=kU (t:="int") rfl (by decide)
theorem Nc(t:Int):fY (.isin "bool") [.int t]=.ok (true,.bl false):=uQ (t:="int") rfl (by decide)
theorem S5(vs:List Val):fY (.isin "tuple") [.tup vs]=.ok (true,.bl true):=kU (t:="tuple") rfl (by decide)
theorem S6(vs:List Val):fY (.isin "list") [.rl vs]=.ok (true,.bl true):=kU (t:="list") rfl (by decide)
theorem yG(xs:List Int)(hl:xs.length<=100000):dH [.tup (xs.map .int),.int xs.length]=.ok (true,.bl true):=by
 unfold dH dS;simp only[EV,S5,length_map,decide_true,MC,hl,jX];rw[gO Val.int (λ_=>Val.bl true) xs (λx hx=>by
  simp only[EV,fy,QX,Nc])]
 simp only[EV,all_true]
theorem D6(l:List Int):cop [] .ne (.rl (l.map .int)) (.rl (l.map .int))=some false:=by
 refine ne_self (uT Val.int PyData.int l λ_ _=>rfl) ?_;rw[PyData.canLay0];exact fz _ _ λt _=>by rw[PyData.canLay0]
theorem lF{l:List Int}(h:l.length<64):cZ [.rl (l.map .int),.rl (l.map .int)]=.ok (true,.bl true):=by
 unfold cZ cC;have hc:l.length<=100000:=by omega
 simp only[EV,S6,D6,j7,jX,length_map,hc];rw[gO Val.int (λ_=>.bl true) l (λt ht=>by
  simp only[EV,fy,QX,Nc])]
 simp only[EV,all_true]
theorem tL{α:Type}(enc:α -> Val)(Q:aD->Prop)(x:α)(res:FV):∀(us:List α) (env:aD),Q env->x∈us ->
  (∀u∈us,∀env,Q env->(body (enc u) env=.ok (.rt res))\/(u≠x/\∃env',body (enc u) env=.ok (.nx env')/\Q env'))->gh body (us.map enc) env=.ok (.rt res)
 | u::us,env,q,hx,h=>by
  rw[T6,gh]
  rcases h u (TU ..) env q with e|⟨ne,env',e,q'⟩
  ·rw[e,fu]
  ·rw[e,fu]
   rcases T8.mp hx with hx|hx
   ·exact(ne hx.symm).elim
   ·exact tL enc Q x res us env' q' hx λv hv=>h v (TM _ hv)
theorem qo{ts:List T3}(hn:(ts.map (·.1)).Nodup):∀u∈ts,∀t∈ts,u.1=t.1->u=t:=by
 induction ts with
 |nil=>intro u hu;cases hu
 |cons x r ih=>
  rw[T6,UD]at hn;intro u hu t ht e
  rcases T8.mp hu with a|a<;>rcases T8.mp ht with b|b
  ·rw[a,b]
  ·exact(hn.1 (Vj.mpr ⟨t,b,by rw[<-e,a]⟩)).elim
  ·exact(hn.1 (Vj.mpr ⟨u,a,by rw[e,b]⟩)).elim
  ·exact ih hn.2 u a t b e
def JI(t:T3):Val:=.tup [.int t.2.1,.int t.2.2]
theorem D7{p q:Int}(hn:(ts.map (·.1)).Nodup)(ht:t∈ts):eO [f7 p q ts,.int t.1]=.ok (true,JI t):=by
 unfold eO fD f7;simp only[EV,j6 DK,j6 Bb,j7];rw[tL bP (λenv=>∃a b c,env=[some (.sh,.tup [.tup [.int p,.int q],.rl (ts.map bP)]),some (.sh,.int t.1),a,b,c]) t (true,JI t) ts _ ⟨none,none,none,rfl⟩ ht]
 ·rfl
 ·rintro u hu env ⟨a,b,c,rfl⟩
  by_cases e:u.1=t.1
  ·left
   have:=qo hn u hu t ht e;subst this;simp only[EV,j8,decide_true,↓reduceIte];rfl
  ·right
   refine⟨λz=>e (by rw[z]),[some (.sh,.tup [.tup [.int p,.int q],.rl (ts.map bP)]),some (.sh,.int t.1),some (.sh,.int u.1),some (.sh,.int u.2.1),some (.sh,.int u.2.2)],?_,_,_,_,rfl⟩;simp only[EV,j8];simp[e]
theorem nU{p q i:Int}(hn:i∉ts.map (·.1)):bX [f7 p q ts,.int i]=.ok (true,.bl true):=by
 unfold bX f7;show Bj i (fk _ _ #[cL] _)=_;unfold cL;simp only[EV,j6 DK,j6 Bb,j7];refine eN bP (λr:Pr qv=>Bj i r=.ok (true,.bl true))
  (λdone env=>∃a b c,env=[some (.sh,.tup [.tup [.int p,.int q],.rl (ts.map bP)]),some (.sh,.int i),a,b,c])
  ⟨none,none,none,rfl⟩ ?_ ?_
 ·rintro pre t post env hx ⟨a,b,c,rfl⟩;have e:¬ t.1=i:=λe=>hn (Vj.mpr ⟨t,by rw[hx];simp,e⟩);refine⟨[some (.sh,.tup [.tup [.int p,.int q],.rl (ts.map bP)]),some (.sh,.int i),some (.sh,.int t.1),some (.sh,.int t.2.1),some (.sh,.int t.2.2)],?_,_,_,_,rfl⟩;simp only[EV,j8];simp[e]
 ·rintro env ⟨a,b,c,rfl⟩;simp only[EV,fu];simp[Bj,J1]
theorem BD{p q:Int}(h:ts.length<=14):dI [f7 p q ts]=.ok (true,.rl (ts.map λt=>.int t.1)):=by
 unfold dI dU f7;have hc:ts.length<=100000:=by omega
 simp only[EV,j6 Bb,j7,jX,length_map,hc];rw[gO bP (λt=>.int t.1) ts (λt ht=>by
  simp only[EV,fy];rfl)]
 rfl
end K03
end
section
open PySem L2 Hv
namespace K03
theorem Nd(h:EZ l):(l.map (·.1)).Nodup:=by
 unfold EZ at h;rw[List.nodup_iff_pairwise_ne,Vv];exact h.imp λa b=>by omega
theorem S7(a b c:Int)(k:Int):∃n,gY [Val.int a,.int b,.int c] (k%3)=some (.int n):=by
 have h0:=VI k (show (3:Int)≠0 by decide);have h1:=Vs k (show (0:Int)<3 by decide)
 rcases(show k%3=0\/k%3=1\/k%3=2 by omega) with e|e|e<;>rw[e]
 ·exact⟨a,rfl⟩
 ·exact⟨b,rfl⟩
 ·exact⟨c,rfl⟩
theorem S8(a b c d e:Int)(k:Int):∃n,gY [Val.int a,.int b,.int c,.int d,.int e] (k%5)=some (.int n):=by
 have h0:=VI k (show (5:Int)≠0 by decide);have h1:=Vs k (show (0:Int)<5 by decide)
 rcases(show k%5=0\/k%5=1\/k%5=2\/k%5=3\/k%5=4 by omega) with z|z|z|z|z<;>rw[z]
 ·exact⟨a,rfl⟩
 ·exact⟨b,rfl⟩
 ·exact⟨c,rfl⟩
 ·exact⟨d,rfl⟩
 ·exact⟨e,rfl⟩
theorem u7{p q c:Int}(hl:ts.length<=14):cM [f7 p q ts,.int c,.rl ((ts.map (·.1)).map .int)]=.ok (true,.bl true):=by
 have fin:∀n:Int,(if (decide (n∈ts.map (·.1)))=true then (Pr.ok (true,Val.bl true):Pr FV) else bX [f7 p q ts,.int n])=.ok (true,.bl true):=λn=>by
  by_cases z:n∈ts.map (·.1)
  ·rw[T4 (by simpa using z)]
  ·rw[TX (by simpa using z),nU z]
 have ne:∀n:Int,n∉ts.map (·.1)->bX [f7 p q ts,.int n]=.ok (true,.bl true):=λn z=>nU z;have z1:1<=sizeLine:=by decide
 have z2:2<=sizeLine:=by decide
 have z3:3<=sizeLine:=by decide
 have z5:3+2<=sizeLine:=by decide
 unfold cM cX
 by_cases h0:ts=[]
 ·subst h0
  obtain⟨n,en⟩:=S7 0 (c%10 ^ (60:Int).toNat) (-1-c%10 ^ (60:Int).toNat) c;have n1:=ne n (by simp);have i1:cop [] .GC (.int n) (.rl [])=some false:=by have:=EY (xs:=[]) (x:=n);simpa using this
  simp only[EV,pI (show decide ((0:Int)<=60/\(60:Int)<=1000000/\(10:Int).natAbs<2 ^ 64)=true by decide),bV (show decide ((0:Int)<10 ^ (60:Int).toNat)=true by decide),bV (show decide ((0:Int)<3)=true by decide),bV (show decide ((0:Int)<5)=true by decide),kT (show kL 5=true by decide),z3,bg,show ((3:Nat):Int)=3 from rfl];rw[TX (by decide)];simp only[EV,pI (show decide ((0:Int)<=60/\(60:Int)<=1000000/\(10:Int).natAbs<2 ^ 64)=true by decide),bV (show decide ((0:Int)<10 ^ (60:Int).toNat)=true by decide),bV (show decide ((0:Int)<3)=true by decide),bV (show decide ((0:Int)<5)=true by decide),kT (show kL 5=true by decide),z3,bg,show ((3:Nat):Int)=3 from rfl,wM en,i1,n1]
 ·have hp:0<ts.length:=List.length_pos_iff.mpr h0
  have J0:(0:Int)<((ts.length:Nat):Int):=by omega
  obtain⟨nm,S9⟩:∃nm,gY ((ts.map (·.1)).map Val.int) (c/5%((ts.length:Nat):Int))=some (.int nm):=by
   have k0:=VI (c/5) (show ((ts.length:Nat):Int)≠0 by omega);have k1:=Vs (c/5) J0;generalize c/5%((ts.length:Nat):Int)=k at *;obtain⟨m,rfl⟩:=VP k0;have hm:m<ts.length:=by omega
   exact⟨(ts[m]).1,lW (by simp[hm])⟩
  obtain⟨n,en⟩:=S8 0 (c%10 ^ (60:Int).toNat) (-1-c%10 ^ (60:Int).toNat) (nm+1) (nm-1) c;simp only[EV,pI (show decide ((0:Int)<=60/\(60:Int)<=1000000/\(10:Int).natAbs<2 ^ 64)=true by decide),bV (show decide ((0:Int)<10 ^ (60:Int).toNat)=true by decide),bV (show decide ((0:Int)<3)=true by decide),bV (show decide ((0:Int)<5)=true by decide),kT (show kL 5=true by decide),z3,bg,length_map];rw[T4 J0];simp only[EV,pI (show decide ((0:Int)<=60/\(60:Int)<=1000000/\(10:Int).natAbs<2 ^ 64)=true by decide),bV (show decide ((0:Int)<10 ^ (60:Int).toNat)=true by decide),bV (show decide ((0:Int)<3)=true by decide),bV (show decide ((0:Int)<5)=true by decide),kT (show kL 5=true by decide),z2,z3,z5,bg,length_map,bV (show decide ((0:Int)<((ts.length:Nat):Int))=true by simpa using J0),wM S9,add_l (show decide ([Val.int 0,.int (c%10 ^ (60:Int).toNat),.int (-1-c%10 ^ (60:Int).toNat)].length+[Val.int (nm+1),.int (nm-1)].length<=sizeLine)=true from decide_eq_true z5),show ((5:Nat):Int)=5 from rfl,wM en,EY]
  by_cases z:n∈ts.map (·.1)
  ·simp[z]
  ·simp[z,ne n z];rfl
end K03
end
section
open PySem L2 Hv
namespace K03
def tr:Int->Val:=λ_=>.bl true
theorem u9{ks:List Int}{x:Int}:putD (ks.map Sum.inl) (ks.map tr) (.inl x) (.bl true)=BI (fF ks x) tr:=by
 have eu:∀y,sW tr x (.bl true) y=tr y:=λy=>by
  unfold sW
  split<;>rfl
 unfold fF
 by_cases h:x∈ks
 ·rw[DM h,T4 h];exact pK λy _=>eu y
 ·rw[DN h,TX h];exact pK λy _=>eu y
theorem tM:∀(xs ys ks:List Int),bA ks (xs++ys)=bA (bA ks xs) ys
 |[],ys,ks=>rfl
 |x::r,ys,ks=>by rw[Wt,bA,tM r ys,bA]
theorem D8(p q:Int)(pre:List T3)(t:T3):bA [] (aK p q (pre++[t]))=fF (fF (bA [] (aK p q pre)) t.2.1) t.2.2:=by
 have e:aK p q (pre++[t])=aK p q pre++[t.2.1,t.2.2]:=by unfold aK;simp
 rw[e,tM];rfl
theorem Tc(p q:Int):putD [Sum.inl p] [.bl true] (.inl q) (.bl true)=BI (bA [] (aK p q [])) tr:=by
 have:=u9 (ks:=[p]) (x:=q);exact this
theorem tN:∀ks:List Int,o9 (ks.map Sum.inl)=some ks
 |[]=>rfl
 | x::r=>by
  have ih:=tN r;unfold o9 at ih |-;rw[T6,bM,ih];rfl
theorem BE{ks:List Int}(h:ks.length<64):jv [] (BI ks tr)=some (sortI ks):=by
 unfold jv;show (o9 (ks.map Sum.inl)).bind _=_;rw[tN];show (if ks.length<64 then some (sortI ks) else none)=_;rw[T4 h]
theorem pO:∀(i:Nat) (ms:List (Int×Int×List T3)) (x:Val),x∈bI i (ms.map qI)->∃(j:Nat) (c:Int×Int×List T3),c∈ms/\x=.tup [.int j,qI c]
 |_,[],x,h=>by simp[bI]at h
 | i,d::r,x,h=>by
  rw[T6,bI,T8]at h
  rcases h with h|h
  ·exact⟨i,d,TU,h⟩
  ·obtain⟨j,c,hc,e⟩:=pO (i+1) r x h;exact⟨j,c,TM _ hc,e⟩
theorem Nf(t:T3):cop [] .ne (JI t) (.tup [.int t.2.1,.int t.2.2])=some false:=by
 refine ne_self (show toD 16 [] (JI t)=some (.tuple (([t.2.1,t.2.2]:List Int).map .int)) from sV [t.2.1,t.2.2]) ?_;rw[PyData.canLay0];exact fz _ _ λ_ _=>by rw[PyData.canLay0]
theorem Ng:∀ks:List Int,aR (ks.map tr)=true
 |[]=>rfl
 |k::r=>by rw[T6,aR,Ng r];rfl
theorem E6:∀ks:List Int,aR (ks.map Val.int)=true
 |[]=>rfl
 |k::r=>by rw[T6,aR,E6 r];rfl
theorem JJ(ks:List Int)(k:Int):aR (ks.map Val.int++[.int k])=true:=by
 have:=E6 (ks++[k]);rw[VH]at this;exact this
theorem Td(i:Nat):xJ (.var i)=none:=rfl
theorem Te(i:Nat):xV (.var i)=some i:=rfl
theorem P8(i:Nat)(a:IE):MK (.met .append (.var i) #[a])=some (.app i a):=rfl
theorem JK(ns:List Int)(hn:ns.length<=63):∃f,By [.rl (ns.map .int)]=.ok (f,.bl true):=by
 unfold By nK;rw[show jh nL=[4,4,5] by decide +kernel];unfold nL;obtain⟨f0,gX,e0,hv⟩:=D4 ns;have z2:2<=sizeLine:=by decide
 simp only[EV,nK,dP,cj,yL,Hv.gS,Hv.bS,ou,e0,EU];rw[wK];refine Be (λr:Pr FV=>∃f:Bool,r=.ok (f,.bl true))
  (λdone env=>∃a b c d e f g h i j,env=[some (.sh,.rl (ns.map .int)),a,b,c,d,e,f,g,h,i,j])
  ⟨none,none,none,none,none,none,none,none,none,none,rfl⟩ ?_ ?_
 ·rintro pre x env hx hlen ⟨a,b,c,d,e,f,g,h,i,j',rfl⟩
  obtain⟨j,⟨p,q,ts⟩,hc,rfl⟩:=pO _ _ _ hx;have ok:=hv (p,q,ts) hc;have hl:ts.length<=14:=ok.len;have nd:=Nd ok.up;have n3:=DQ p q ts;have e1:=places_eq (p:=p) (q:=q) hl;have e2:=BD (p:=p) (q:=q) hl;have hp:=D5 (p:=p) (q:=q) hl;have s1:=lF hp;have s2:=lF (l:=ts.map (·.1)) (by rw[TQ];omega);have st:∀c,cM [f7 p q ts,.int c,.rl ((ts.map (·.1)).map .int)]=.ok (true,.bl true):=λc=>u7 hl;have en:∀t∈ts,eO [f7 p q ts,.int t.1]=.ok (true,JI t):=λt ht=>D7 nd ht;have w2:∀t:T3,dH [JI t,.int 2]=.ok (true,.bl true):=λt=>yG [t.2.1,t.2.2] (by simp);unfold qI f7 at *;simp only[EV,nK,dP,cj,yL,Hv.gS,Hv.bS,Bc,j6 DK,j6 Bb,keyOf,Tc,z2,j7];refine eN bP (λr:Pr qv=>∃env',r=.ok (.nx env')/\∃a b c d e f g h i j,env'=[some (.sh,.rl (ns.map .int)),a,b,c,d,e,f,g,h,i,j])
   (λdone env=>∃a b c d e,env=[some (.sh,.rl (ns.map .int)),some (.sh,.int j),some (.sh,.tup [.tup [.int p,.int q],.rl (ts.map bP)]),some (.sh,.tup [.tup [.int p,.int q],.rl (ts.map bP)]),
    some (.ow,.dc ((bA [] (aK p q done)).map Sum.inl) ((bA [] (aK p q done)).map tr)),some (.ow,.rl ((done.map (·.1)).map .int)),a,b,c,d,e])
   ⟨_,_,_,_,_,rfl⟩ ?_ ?_
  ·rintro pre t post env hx ⟨a,b,c,d,e,rfl⟩
   have ht:t∈ts:=by rw[hx];simp
   have hpl:pre.length<14:=by have:=UM length hx;rw[Ul,UA]at this;omega
   have k1:(bA [] (aK p q pre)).length<=30:=by have:=ko (aK p q pre) [];rw[gC]at this;simp only[length_nil]at this;omega
   have l1:(bA [] (aK p q pre)).length<sizeLine:=by unfold sizeLine;omega
   have l2:(fF (bA [] (aK p q pre)) t.2.1).length<sizeLine:=by have:=jL (bA [] (aK p q pre)) t.2.1;unfold sizeLine;omega
   have l3:(pre.map (·.1)).length<sizeLine:=by rw[TQ];unfold sizeLine;omega
   have pt:∀x,putD ((bA [] (aK p q pre)).map Sum.inl) ((bA [] (aK p q pre)).map tr) (.inl x) (.bl true)=.dc ((fF (bA [] (aK p q pre)) x).map Sum.inl) ((fF (bA [] (aK p q pre)) x).map tr):=λx=>u9;have Tf:∀y x,putD ((fF (bA [] (aK p q pre)) y).map Sum.inl) ((fF (bA [] (aK p q pre)) y).map tr) (.inl x) (.bl true)=.dc ((fF (fF (bA [] (aK p q pre)) y) x).map Sum.inl) ((fF (fF (bA [] (aK p q pre)) y) x).map tr):=λy x=>u9;refine⟨[some (.sh,.rl (ns.map .int)),some (.sh,.int j),some (.sh,.tup [.tup [.int p,.int q],.rl (ts.map bP)]),some (.sh,.tup [.tup [.int p,.int q],.rl (ts.map bP)]),
    some (.ow,.dc ((bA [] (aK p q (pre++[t]))).map Sum.inl) ((bA [] (aK p q (pre++[t]))).map tr)),some (.ow,.rl (((pre++[t]).map (·.1)).map .int)),some (.sh,.int t.1),some (.sh,.int t.2.1),some (.sh,.int t.2.2),some (.sh,JI t),e],?_,_,_,_,_,_,rfl⟩
   rw[D8];simp only[EV,nK,dP,cj,yL,Hv.gS,Hv.bS,Td,Te,P8,NI,NJ,Ng,JJ,j8,keyOf,length_map,l1,l2,l3,pt,Tf,nQ,lR,en t ht,w2,Nf,map_append];rw[T4 (show pre.length<sizeLine by rw[TQ]at l3;exact l3),T4 z2]
  ·rintro env ⟨a,b,c,d,e,rfl⟩
   have kl:(bA [] (aK p q ts)).length<64:=by have:=ko (aK p q ts) [];rw[gC]at this;simp only[length_nil]at this;omega
   have sk:jv [] (.dc ((bA [] (aK p q ts)).map Sum.inl) ((bA [] (aK p q ts)).map tr))=some (Nb p q ts):=BE kl;have yJ:dI [.tup [.tup [.int p,.int q],.rl (ts.map bP)]]=.ok (true,.rl ((ts.map (·.1)).map .int)):=by rw[e2,UG];rfl
   simp only[EV,nK,dP,cj,yL,Hv.gS,Hv.bS,kj,k8,lT,e1,yJ,sk,s1,s2,EW,sU,j7];refine eN Val.int (λr:Pr qv=>∃env',r=.ok (.nx env')/\∃a b c d e f g h i j,env'=[some (.sh,.rl (ns.map .int)),a,b,c,d,e,f,g,h,i,j])
    (λdone env=>∃x,env=[some (.sh,.rl (ns.map .int)),some (.sh,.int j),some (.sh,.tup [.tup [.int p,.int q],.rl (ts.map bP)]),some (.sh,.tup [.tup [.int p,.int q],.rl (ts.map bP)]),
     some (.ow,.dc ((bA [] (aK p q ts)).map Sum.inl) ((bA [] (aK p q ts)).map tr)),some (.ow,.rl ((ts.map (·.1)).map .int)),a,b,c,d,x])
    ⟨_,rfl⟩ ?_ ?_
   ·rintro pre c' post env hx ⟨x,rfl⟩
    refine⟨[some (.sh,.rl (ns.map .int)),some (.sh,.int j),some (.sh,.tup [.tup [.int p,.int q],.rl (ts.map bP)]),some (.sh,.tup [.tup [.int p,.int q],.rl (ts.map bP)]),
     some (.ow,.dc ((bA [] (aK p q ts)).map Sum.inl) ((bA [] (aK p q ts)).map tr)),some (.ow,.rl ((ts.map (·.1)).map .int)),a,b,c,d,some (.sh,.int c')],?_,_,rfl⟩
    simp only[EV,nK,dP,cj,yL,Hv.gS,Hv.bS,fy,k7,st]
   ·rintro env ⟨x,rfl⟩;simp only[EV,nK,dP,cj,yL,Hv.gS,Hv.bS,n3];exact⟨_,rfl,_,_,_,_,_,_,_,_,_,_,rfl⟩
 ·rintro env ⟨a,b,c,d,e,f,g,h,i,j',rfl⟩;simp only[EV,nK,dP,cj,yL,Hv.gS,Hv.bS];exact⟨_,rfl⟩
theorem true(ns:List Int)(hn:ns.length<=63):∃h',Bx [.rl (ns.map .int)] []=.ok (.bl true) h':=by
 obtain⟨f,e⟩:=JK ns hn;exact D0 e
end K03
end
end
section
namespace PySem.W.Fast
theorem tw3505164761248896987:True:=trivial
theorem tw10721367201084666979:True:=trivial
theorem tw2221616403752384318:True:=trivial
theorem tw7437739685956480368:True:=trivial
theorem tw17491625958717908343:True:=trivial
theorem tw10015137749567317559:True:=trivial
theorem tw15637708662987710966:True:=trivial
theorem tw4789659448930395885:True:=trivial
theorem tw2388778123989720476:True:=trivial
theorem tw9117943772193221388:True:=trivial
theorem tw12579487621735671177:True:=trivial
theorem tw16215551101011701302:True:=trivial
theorem tw8453511851301698794:True:=trivial
theorem tw139142910271143980:True:=trivial
theorem tw9897983584117915454:True:=trivial
theorem tw7389009149163010223:True:=trivial
theorem tw4995364783120283398:True:=trivial
theorem tw7279338780699950258:True:=trivial
theorem tw14611590487006761761:True:=trivial
theorem tw13669468042463239175:True:=trivial
theorem tw10190498199813471659:True:=trivial
theorem tw13214124301275495231:True:=trivial
theorem tw17440929749951389887:True:=trivial
theorem tw4549127924695492272:True:=trivial
theorem tw18080165748372108845:True:=trivial
theorem tw17310852096408234682:True:=trivial
theorem tw4394100135146526490:True:=trivial
theorem tw8840372041664891445:True:=trivial
theorem tw2199595797629018819:True:=trivial
theorem tw15528114259628394682:True:=trivial
theorem tw12139646782870991558:True:=trivial
theorem tw8246221539167221194:True:=trivial
theorem tw13945591459699499217:True:=trivial
theorem tw12102854595334163476:True:=trivial
theorem tw7093154970651663298:True:=trivial
theorem tw11517676372400726086:True:=trivial
theorem tw11526840401123644398:True:=trivial
theorem tw13158027891824015869:True:=trivial
theorem tw17571617559704776829:True:=trivial
theorem tw8224964692838990145:True:=trivial
theorem tw5249316439260374251:True:=trivial
theorem tw15661015466574164178:True:=trivial
theorem tw15012211922575467683:True:=trivial
theorem tw247239945515060075:True:=trivial
theorem tw12851139732546545685:True:=trivial
theorem tw3802344054370492044:True:=trivial
theorem tw4181736612416916291:True:=trivial
theorem tw1554349732307390836:True:=trivial
theorem tw2119421014485756962:True:=trivial
theorem tw8532581030508069096:True:=trivial
theorem tw15589088596855050291:True:=trivial
theorem tw5758223686136406764:True:=trivial
theorem tw1947482848849997146:True:=trivial
theorem tw15297867228586543269:True:=trivial
theorem tw12745279360562987155:True:=trivial
theorem tw11158323796198962516:True:=trivial
theorem tw14760800740296780898:True:=trivial
theorem tw17910702865555300544:True:=trivial
theorem tw4899462074565550936:True:=trivial
theorem tw300585880682193065:True:=trivial
theorem tw3702995671933062074:True:=trivial
theorem tw11400220124105314002:True:=trivial
theorem tw4622903722490601144:True:=trivial
theorem tw1985691869974658333:True:=trivial
theorem tw6856200852768219050:True:=trivial
theorem tw14577347314984867685:True:=trivial
theorem tw14506723497168972717:True:=trivial
theorem tw11746422967236615307:True:=trivial
theorem tw6544087216494234807:True:=trivial
theorem tw12567647204844278178:True:=trivial
theorem tw14982960781508412328:True:=trivial
theorem tw14729540088395706263:True:=trivial
theorem tw6186203313953484404:True:=trivial
end PySem.W.Fast
open PySem PySem.W PyProof.Rows
set_option maxRecDepth 100000 in
set_option maxHeartbeats 0 in
theorem PySem.Challenge.cw_linkorcut_k03_places_names_ends_holds : PySem.Challenge.rw_linkorcut_k03_places_names_ends.Holds := by
 w_on;o_law;k_head;(case hw=>w_witness2)
 k_fill
 refine Hv.walk (l:=PySem.Challenge.rw_linkorcut_k03_places_names_ends) (k:=28) (x:="_law_script") rfl rfl ⟨rfl,by decide,by decide⟩ (λw h Y=>PySem.W.kIn_of Y) ?F
 case F=>
  intro w mg fa h KX G hmg;refine' K03.all_mk KX G hmg K03.true ?_ ?_ ?_ ?_ ?_ ?_ ?_ ?_ ?_ ?_ ?_ ?_ ?_ ?_ ?_ ?_ ?_ ?_ ?_ ?_ ?_ ?_ ?_ ?_ ?_ ?_ ?_ ?_ ?_ ?_ ?_ ?_ ?_ ?_ ?_ ?_ ?_ ?_ ?_ ?_ ?_ ?_ ?_ ?_
  all_goals try first|k_is|kit_is|(exact⟨_,L2.fun_mk (by k_is) (by k_is) (by k_is)⟩)|(exact⟨⟨by k_is,by rfl,by rfl,by k_is,by k_is⟩,L2.excOb (by k_is) (by rfl),L2.excUp (by k_is) (by rfl) (by k_is) (by rfl) (by rfl) (by rfl),by k_is,by k_is,by k_is⟩)|(exact⟨by k_is,by k_is,by k_is,by k_is,by k_is,by k_is,by k_is,by k_is⟩)|(exact L2.excNe (by k_is) (by rfl) (by rfl))|(intro x hx;simp only[Hv.bltNames,List.mem_cons,List.not_mem_nil,or_false]at hx;rcases hx with rfl|rfl|rfl|rfl|rfl|rfl|rfl|rfl|rfl|rfl|rfl|rfl|rfl|rfl|rfl|rfl|rfl<;>k_is)
#print axioms PySem.Challenge.cw_linkorcut_k03_places_names_ends_holds
end
