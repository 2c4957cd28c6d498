import PyProof.Rows.All
import Wide.All
import OpenK.AllK
import Wide.FinOn
import Lean
import PyProof.EqAt
import PyProof.EqKinds
import PyProof.TupleCall
import KE.KDictList
import KE.KDictLaws
import KE.KDictSum
import KE.KRevSl
import PyProof.DictWalks
import KE.KIntText
import PyProof.StrWalks
import PyProof.MeetsStr
import PySem.Challenge.RW_linkorcut_k05_whole_read_again
set_option Elab.async false
set_option compiler.extract_closed false
set_option linter.all false
set_option maxRecDepth 100000
set_option maxHeartbeats 4000000
set_option genSizeOf false
set_option backward.eqns.nonrecursive false
set_option backward.eqns.deepRecursiveSplit false
set_option bootstrap.genMatcherCode false
set_option hygiene false
local macro_rules
|`(def $n:declId $s:optDeclSig $v:declVal)=>`(noncomputable def $n:declId $s:optDeclSig $v:declVal)
|`(abbrev $n:declId $s:optDeclSig $v:declVal)=>`(noncomputable abbrev $n:declId $s:optDeclSig $v:declVal)
local macro_rules
|`(#[$a])=>`(.cons $a .nil)
|`(#[$a,$as,*])=>`(.cons $a #[$as,*])
local macro_rules
|`(!$n:num)=>`(.var $n)
local macro_rules
|`(¬$n:num)=>`(.cst (.int $n))
set_option hygiene true
open Array(all_toList toList toList_inj)
open Bool(and_eq_true false_eq_true not_eq_true' or_eq_true)
open List(any_map cons_append drop_zero find?_cons length length_append length_cons length_map length_nil lookup_cons map_append map_cons map_nil mem_append mem_cons mem_range nil_append not_mem_nil range' replicate set_cons_succ set_cons_zero set_set size_toArray sum_cons toArray)
open Nat(log2_lt mod_lt toDigits)
open Option(bind_some getD_none map_some)
open PySem.W(callWith_K callWith_K0 cellsFrom_some codeIn emptyDict eq_sortI findIn instObj kat_lt keepIn kitOne kitx_list makesIn methodObj specialIn typeIn)
def Vk:=@Option.bind_eq_some_iff
def Vl:=@Bool.false_ne_true
def Vm:=@PySem.wpAny_bind
def Vn:=@List.getElem?_eq_some_iff
def Vo:=@PySem.Heap.get?_push_of_some
def Vp:=@List.length_map
def Vq:=@List.mem_cons_of_mem
def Vr:=@List.getElem?_set_ne
def Vs:=@List.mem_cons_self
def Vt:=@PySem.wpAny_pure
def Vu:=@Nat.le_refl
def Vv:=@if_pos
def Vw:=@if_neg
def Vx:=@List.size_toArray
def Vy:=@PySem.Heap.lt_size
def Vz:=@List.getElem?_set_self
def VA:=@Nat.lt_of_lt_of_le
def VB:=@PySem.Heap.get?_push_size
def VC:=@List.map_cons
def VD:=@List.getElem?_append_left
def VE:=@Nat.ne_of_lt
def VF:=@List.mem_cons
def VG:=@List.prefix_refl
def VH:=@of_decide_eq_true
def VI:=@List.getElem?_map
def VJ:=@Option.some.inj
def VL:=@List.length_append
def VM:=@List.mem_singleton
def VN:=@List.getElem?_eq_getElem
def VO:=@PySem.W.mg_of
def VP:=@List.mem_of_getElem?
def VQ:=@List.length_cons
def VS:=@Option.map_eq_some_iff
def VT:=@List.getElem?_append_right
def VU:=@Array.length_toList
def VW:=@List.mem_append_right
def VX:=@Nat.le_trans
def VY:=@PySem.wpAny_newObj_type
def VZ:=@List.mem_map
def V4:=@Int.eq_ofNat_of_zero_le
def V5:=@Array.getElem?_eq_getElem
def V6:=@Nat.lt_succ_self
def V7:=@PySem.Heap.get?_update_self
def V8:=@PySem.wpAny_truthy_bool
def V9:=@List.pairwise_cons
def Wa:=@List.prefix_append
def Wb:=@List.nodup_cons
def Wc:=@congrArg
def Wd:=@beq_eq_false_iff_ne
def We:=@PySem.Heap.SameBut.update
def Wf:=@List.map_map
def Wg:=@List.map_append
def Wh:=@PySem.wpAny_Call_Name_kw
def Wi:=@PySem.Obj.data_mapFields
def Wj:=@PySem.sizeLine_eq
def Wk:=@PyProof.Rows.callWith_type1
def Wl:=@Nat.lt_irrefl
def Wm:=@PySem.Heap.size_push
def Wn:=@decide_eq_true_eq
def Wo:=@PySem.mem_of_lookup
def Wq:=@List.mem_append
def Wr:=@Nat.le_succ
def Ws:=@List.getElem?_eq_none_iff
def Wt:=@PySem.wpAny_mono
def Wu:=@True.intro
def Wv:=@PySem.wpAny_holding
def Ww:=@List.cons.inj
def Wx:=@Nat.zero_le
def Wy:=@Nat.lt_succ_of_lt
def Wz:=@PySem.wpAny_setState_of
def WA:=@PyProof.Rows.KeyOrd.kle_refl
def WB:=@PySem.W.kia_one
def WC:=@PyProof.Rows.F.plain_set_update_loop
def WD:=@Bool.true_and
def WE:=@List.getElem_mem
def WG:=@Array.getElem?_eq_some_iff
def WH:=@List.pairwise_iff_getElem
def WI:=@List.mem_append_left
def WJ:=@List.map_nil
def WK:=@PySem.Around.under_plainId
def WL:=@List.map_congr_left
def WM:=@PySem.wpAny_call_entry
def WN:=@List.eq_nil_of_length_eq_zero
def WO:=@Nat.le_of_lt
def WQ:=@PySem.Heap.get?_update_other
def WR:=@Int.emod_lt_of_pos
def WS:=@List.append_nil
def WU:=@PySem.codeAny_builtin
def WW:=@Int.emod_nonneg
def WX:=@PySem.Obj.isFreed_of_fields
def WY:=@PySem.wpAny_pyIter_list
def WZ:=@List.pairwise_map
def W0:=@List.nodup_append
def W2:=@List.mem_iff_getElem
def W3:=@PySem.wpAny_setField
def W4:=@Nat.ne_of_gt
def W5:=@Bool.and_eq_true
def W6:=@List.getElem_map
def W7:=@List.getElem?_zip_eq_some
def W8:=@List.map_eq_nil_iff
def W9:=@List.any_cons
def Xa:=@List.set_eq_of_length_le
def Xb:=@PySem.wpAny_passesOwn
def Xc:=@Array.Perm.refl
def Xd:=@PySem.W.KasT.kasWp_bind
def Xe:=@PySem.tupleKind_room_in1
def Xf:=@PySem.W.sortI_perm
def Xg:=@PySem.wpAny_callSpecial?_slot
def Xh:=@PySem.F.plainAttrs_list
def Xi:=@PySem.codeAny_mono
def Xj:=@Option.isSome_map
def Xk:=@PyProof.Rows.KeyOrd.kle_of_klt
def Xl:=@List.length_range
def Xm:=@List.Perm.refl
def Xn:=@PySem.fits_of_scanBound
def Xo:=@List.take_of_length_le
def Xp:=@List.mem_iff_getElem?
def Xq:=@List.length_take
def Xr:=@List.length_drop
def Xs:=@PyProof.Rows.KeyOrd.kle_trans
def Xu:=@List.ext_getElem
def Xv:=@List.all_eq_true
def Xw:=@PySem.plainId_quiet
def Xx:=@List.drop_eq_nil_iff
def Xy:=@List.filterMap_cons
def Xz:=@List.getElem_of_mem
def XA:=@PySem.Calls.spliced_cons
def XC:=@List.Perm.cons
def XD:=@List.mem_replicate
def XE:=@PySem.Value.isInt_shape
def XF:=@PySem.Calls.spliced_nil
def XG:=@PySem.Obj.cls_mapFields
def XH:=@PySem.Paired.length
def XI:=@PySem.call_meets
def XJ:=@Nat.lt_trans
def XM:=@List.of_mem_zip
def XO:=@List.length_set
def XQ:=@List.length_nil
def XR:=@List.forIn_cons
def XS:=@Bool.or_eq_true
def XT:=@List.nil_append
def XU:=@List.nodup_nil
def XW:=@List.drop_drop
def XX:=@List.map_id
open PySem.W(Frag sortI nsIn fnOf isFn)
section
namespace L2
open PySem PySem.Spec PyProof.Rows
abbrev Key:=Sum Int Str
def pM:Key->Value->Bool
 |.inl k,v=>Value.isInt k v
 |.inr x,v=>Value.isStrOf x v
def Po(w:World):Key->Int
 |.inl k=>hashInt k
 |.inr x=>hashStr w x
theorem bP:∀{k:Key} {v:Value},pM k v=true->(∃i t,k=Sum.inl i/\v=Value.int i t)\/(∃x t,k=Sum.inr x/\v=Value.str x t)
 | .inl i,v,h=>by
  obtain⟨t,e⟩:=XE (k:=i) (v:=v) h;exact .inl ⟨i,t,rfl,e⟩
 | .inr x,v,h=>by
  obtain⟨t,e⟩:=Value.isStrOf_shape (x:=x) (v:=v) h;exact .inr ⟨x,t,rfl,e⟩
theorem yx(i:Int)(t:Tok):pM (.inl i) (.int i t)=true:=by simp[pM,Value.isInt]
theorem yy(x:Str)(t:Tok):pM (.inr x) (.str x t)=true:=by simp[pM,Value.isStrOf]
theorem GL(a b:Int):decide ((Sum.inl a:Key)=Sum.inl b)=(a==b):=by
 by_cases e:a=b
 ·subst e;simp
 ·have h:¬ (Sum.inl a:Key)=Sum.inl b:=λq=>e (Sum.inl.inj q);rw[decide_eq_false h];exact(Wd.mpr e).symm
theorem GN(a b:Str):decide ((Sum.inr a:Key)=Sum.inr b)=decide (a=b):=by
 by_cases e:a=b
 ·subst e;simp
 ·have h:¬ (Sum.inr a:Key)=Sum.inr b:=λq=>e (Sum.inr.inj q);rw[decide_eq_false h,decide_eq_false e]
theorem GO(a:Int)(b:Str):decide ((Sum.inl a:Key)=Sum.inr b)=false:=decide_eq_false (λq=>nomatch q)
theorem GP(a:Str)(b:Int):decide ((Sum.inr a:Key)=Sum.inl b)=false:=decide_eq_false (λq=>nomatch q)
def bX(prog:Program)(w:World):PySem.KeyKind prog w Key where
 is:=pM
 hash:=Po w
 inj:=λv a b ha hb=>by
  rcases bP ha with ⟨i,t,rfl,rfl⟩|⟨x,t,rfl,rfl⟩
  ·rcases bP hb with ⟨j,u,rfl,e⟩|⟨y,u,rfl,e⟩
   ·injection e with e1 _;rw[e1]
   ·exact nomatch e
  ·rcases bP hb with ⟨j,u,rfl,e⟩|⟨y,u,rfl,e⟩
   ·exact nomatch e
   ·injection e with e1 _;rw[e1]
 byValue:=λk v h=>by
  rcases bP h with ⟨i,t,rfl,rfl⟩|⟨x,t,rfl,rfl⟩<;>rfl
 pyHash:=λhv h=>by
  rcases bP hv with ⟨i,t,rfl,rfl⟩|⟨x,t,rfl,rfl⟩
  ·exact wpAny_pyHash_int h
  ·exact wpAny_pyHash_str h
 eqBool:=λhu hv h=>by
  rcases bP hu with ⟨i,t,rfl,rfl⟩|⟨x,t,rfl,rfl⟩
  ·rcases bP hv with ⟨j,u,rfl,rfl⟩|⟨y,u,rfl,rfl⟩
   ·rw[GL]at h;exact wpAny_eqBool_int h
   ·rw[GO]at h;exact SeqAt.EqAt.int_str i t y u _ _ _ _ h
  ·rcases bP hv with ⟨j,u,rfl,rfl⟩|⟨y,u,rfl,rfl⟩
   ·rw[GP]at h;exact SeqAt.EqAt.str_int x t j u _ _ _ _ h
   ·rw[GN]at h;exact wpAny_eqBool_str h
 «strs»:=λk x t v h=>by
  rcases bP h with ⟨i,u,rfl,e⟩|⟨y,u,rfl,e⟩
  ·exact nomatch e
  ·injection e with e1 _
   subst e1;cases v<;>rfl
theorem sN(prog:Program)(w:World)(i:Int)(t:Tok):(bX prog w).is (.inl i) (.int i t)=true:=yx i t
theorem sO(prog:Program)(w:World)(x:Str)(t:Tok):(bX prog w).is (.inr x) (.str x t)=true:=yy x t
inductive V where
 |non|bl (b:Bool)|int (i:Int)|str (x:Str)|byt (b:Array UInt8)|flt (b:UInt64)|ref (a:Addr)|ty (n:String)
 deriving DecidableEq
def RelV:V->Value->Prop
 |.non,u=>u=Value.none
 |.bl b,u=>u=Value.bool b
 |.int i,u=>∃t,u=Value.int i t
 |.str x,u=>∃t,u=Value.str x t
 |.byt b,u=>∃t,u=Value.bytes b t
 |.flt b,u=>∃t,u=Value.float b t
 |.ref a,u=>u=Value.ref a
 |.ty n,u=>u=Value.type n
abbrev Vals:List V->List Value->Prop:=Paired RelV
theorem Vals.length(r:Vals xs us):xs.length=us.length:=XH r
theorem Vals.get:∀{xs:List V} {us:List Value} {i:Nat} {x:V},Vals xs us->xs[i]?=some x->∃u,us[i]?=some u/\RelV x u
 |_,_,_,_,.nil,e=>by simp at e
 |_,_,0,_,.cons r _,e=>by simp at e;subst e;exact⟨_,rfl,r⟩
 | _,_,i+1,x,.cons _ t,e=>by
  obtain⟨u,h1,h2⟩:=Vals.get (i:=i) (x:=x) t (by simpa using e);exact⟨u,by simpa using h1,h2⟩
theorem Vals.set(r:RelV x u):∀{xs:List V} {us:List Value} (i:Nat),Vals xs us->Vals (xs.set i x) (us.set i u)
 |_,_,_,.nil=>.nil
 |_,_,0,.cons _ t=>.cons r t
 |_,_,i+1,.cons q t=>.cons q (Vals.set r i t)
theorem Vals.append:∀{xs ys:List V} {us ws:List Value},Vals xs us->Vals ys ws->Vals (xs++ys) (us++ws)
 |_,_,_,_,.nil,s=>s
 |_,_,_,_,.cons r t,s=>.cons r (Vals.append t s)
theorem Vals.take:∀{xs:List V} {us:List Value} (n:Nat),Vals xs us->Vals (xs.take n) (us.take n)
 |_,_,0,_=>.nil
 |_,_,_+1,.nil=>.nil
 |_,_,n+1,.cons r t=>.cons r (Vals.take n t)
theorem Vals.drop:∀{xs:List V} {us:List Value} (n:Nat),Vals xs us->Vals (xs.drop n) (us.drop n)
 |_,_,0,r=>r
 |_,_,_+1,.nil=>.nil
 |_,_,n+1,.cons _ t=>Vals.drop n t
def o4:Option V->Option Value->Prop
 |some v,some u=>RelV v u
 |none,none=>True
 |_,_=>False
def KV{κ:Type}:List (κ × V)->List (κ × Value)->Prop:=Paired λ(p:κ × V) (q:κ × Value)=>p.1=q.1/\RelV p.2 q.2
def kV:Key->V
 |.inl i=>.int i
 |.inr x=>.str x
inductive HO where
  |lst (xs:List V)
  |tup (xs:List V)
  |dK (kvs:List (Key×V))|dT (kvs:List (List Key×V))
  |set (S:Int->Bool) (n:Nat)
  |ins (C dx:Addr) (fs:List (Str×V))
  |own (x:Addr)
  |xd (fs:List (Str×V))
  |met (f x:Addr)
  |rng (lo hi:Int)
  |o5 (o:Obj) (u:HO)
  |tbl (ps:Array Value)
  |ext (φ:Heap->Prop)
abbrev Hp:=Addr->Option HO
def upd(H:Hp)(a:Addr)(o:HO):Hp:=λb=>if b=a then some o else H b
theorem aW:upd H a o a=some o:=by unfold upd;rw[Vv rfl]
theorem aF(h:b≠a):upd H a o b=H b:=by unfold upd;rw[Vw h]
theorem Lx{H:Hp}{a b:Addr}{o u:HO}(h:H a=some o)(h':H b=some u)(d:o≠u):a≠b:=by
 intro e;subst e;rw[h]at h';exact d (VJ h')
theorem aO{H:Hp}{a b:Addr}{o:HO}(h:H a=some o)(h':H b=none):a≠b:=by
 intro e;subst e;rw[h]at h';cases h'
section
variable (P:Program) (w:World)
def cg(H:Hp)(h:Heap)(a:Addr):HO->Prop
 |.lst xs=>xs.length<=sizeLine/\∃(its:List Value) (n:Nat),Vals xs its/\h.get? a=some { cls:=.type "list",data:=.seq its.toArray n }
 |.tup xs=>xs.length<=sizeLine/\∃its:List Value,Vals xs its/\IsTup h a its.toArray
 |.dK kvs=>kvs.length<=sizeLine/\(a==sysModules)=false/\∃vs,KV kvs vs/\h.DictOf (bX P w) a vs
 | .dT kvs=>kvs.length<=sizeLine/\(a==sysModules)=false/\∃xs:List (List Key×Addr×Value),
   Paired (λ(p:List Key×V) (q:List Key×Addr×Value)=>p.1=q.1/\H q.2.1=some (.tup (p.1.map kV))/\RelV p.2 q.2.2) kvs xs /\
   ∃o es ep,h.get? a=some o/\o.ExactDict/\o.data=.dict es ep/\es.toList=xs.map (entryOfKey (tupleKind (bX P w)))/\(xs.map (·.1)).Nodup
 |.set S n=>h.SetOf (intKind P w) a S n
 | .ins C dx fs=>H dx=some (.own a)/\fs.length<=1000/\dx≠a/\h.get? a=some (instObj C dx) /\
   ∃mA,h.Ns1 dx mA/\(∀f,o4 (fs.lookup f) (mA f))/\PySem.Within mA (fs.map (·.1))
 |.own _=>∃o,h.get? a=some o
 |.xd fs=>∃mA,h.Ns1 a mA/\∀f,o4 (fs.lookup f) (mA f)
 |.rng lo hi=>∃t u v,h.get? a=some { cls:=.type "range",data:=.fields [.int lo t,.int hi u,.int 1 v].toArray }
 |.o5 o u=>h.get? a=some o/\cg H h a u
 |.tbl ps=>h.get? a=some { cls:=.none,data:=.fields ps }
 |.met f x=>h.get? a=some (methodObj (.ref f) (.ref x))
 |.ext φ=>φ h/\(∃o,h.get? a=some o)/\∀h1 h2:Heap,φ h1->(∀o,h1.get? a=some o->h2.get? a=some o) -> φ h2
def ko(H:Hp)(h:Heap):Prop:=∀a o,H a=some o->cg P w H h a o
end
section
variable {P:Program} {w:World} {H H':Hp} {h h':Heap} {a:Addr} {o:HO}
theorem cg.lt(x:cg P w H h a o):a<h.objs.size:=by
 cases o with
 |lst xs=>obtain⟨_,_,_,_,e⟩:=x;exact Vy e
 |tup xs=>obtain⟨_,_,_,p⟩:=x;exact p.lt
 |dK kvs=>obtain⟨_,_,_,_,o,_,_,e,_⟩:=x;exact Vy e
 |dT kvs=>obtain⟨_,_,_,_,o,_,_,e,_⟩:=x;exact Vy e
 |set S n=>obtain⟨o,_,_,_,e,_⟩:=x;exact Vy e
 |ins C dx fs=>obtain⟨_,_,_,e,_⟩:=x;exact Vy e
 |own y=>obtain⟨_,e⟩:=x;exact Vy e
 |xd fs=>obtain⟨_,⟨_,_,_,e,_⟩,_⟩:=x;exact Vy e
 |rng lo hi=>obtain⟨_,_,_,e⟩:=x;exact Vy e
 |o5 ob u=>obtain⟨e,_⟩:=x;exact Vy e
 |tbl ps=>exact Vy (show h.get? a=some _ from x)
 |met f y=>exact Vy (show h.get? a=some _ from x)
 |ext φ=>obtain⟨_,⟨_,e⟩,_⟩:=x;exact Vy e
theorem Paired.GQ{α β:Type}{F G:α -> β -> Prop}:∀{l₁:List α} {l₂:List β},Paired F l₁ l₂->(∀a b,F a b->G a b)->Paired G l₁ l₂
 |_,_,.nil,_=>.nil
 |_,_,.cons r t,f=>.cons (f _ _ r) (Paired.GQ t f)
theorem cg.stay(x:cg P w H h a o)(k:∀b u,(b=a\/H b=some (.own a))->h.get? b=some u->h'.get? b=some u)
  (ho:∀b,H b=some (.own a)->H' b=some (.own a)) (ht:∀b xs,H b=some (.tup xs)->H' b=some (.tup xs)):cg P w H' h' a o:=by
 induction o with
 |lst xs=>obtain⟨z,its,n,r,e⟩:=x;exact⟨z,its,n,r,k _ _ (.inl rfl) e⟩
 |tup xs=>obtain⟨z,its,r,ob,e,c⟩:=x;exact⟨z,its,r,ob,k _ _ (.inl rfl) e,c⟩
 |dK kvs=>obtain⟨z,y,vs,r,ob,es,ep,e,c⟩:=x;exact⟨z,y,vs,r,ob,es,ep,k _ _ (.inl rfl) e,c⟩
 |dT kvs=>obtain⟨z,y,xs,r,ob,es,ep,e,c⟩:=x;exact⟨z,y,xs,Paired.GQ r λp q z=>⟨z.1,ht _ _ z.2.1,z.2.2⟩,ob,es,ep,k _ _ (.inl rfl) e,c⟩
 |set S n=>obtain⟨ob,es,ep,t,e,c⟩:=x;exact⟨ob,es,ep,t,k _ _ (.inl rfl) e,c⟩
 |ins C dx fs=>obtain⟨d,z,ne,e,mA,⟨od,es,ep,e2,c⟩,r⟩:=x;exact⟨ho _ d,z,ne,k _ _ (.inl rfl) e,mA,⟨od,es,ep,k _ _ (.inr d) e2,c⟩,r⟩
 |own y=>obtain⟨ob,e⟩:=x;exact⟨ob,k _ _ (.inl rfl) e⟩
 |xd fs=>obtain⟨mA,⟨od,es,ep,e,c⟩,r⟩:=x;exact⟨mA,⟨od,es,ep,k _ _ (.inl rfl) e,c⟩,r⟩
 |rng lo hi=>obtain⟨t,u,v,e⟩:=x;exact⟨t,u,v,k _ _ (.inl rfl) e⟩
 |o5 ob u ih=>obtain⟨e,q⟩:=x;exact⟨k _ _ (.inl rfl) e,ih q⟩
 |tbl ps=>have e:h.get? a=some { cls:=.none,data:=.fields ps }:=x;show h'.get? a=some { cls:=.none,data:=.fields ps };exact k a _ (.inl rfl) e
 |met f y=>have e:h.get? a=some (methodObj (.ref f) (.ref y)):=x;show h'.get? a=some (methodObj (.ref f) (.ref y));exact k a _ (.inl rfl) e
 |ext φ=>obtain⟨p,⟨o,e⟩,st⟩:=x;exact⟨st _ _ p λo q=>k _ _ (.inl rfl) q,⟨o,k _ _ (.inl rfl) e⟩,st⟩
theorem ko.lt(x:ko P w H h)(e:H a=some o):a<h.objs.size:=(x a o e).lt
theorem ko.fresh(x:ko P w H h)(e:h.objs.size<=a):H a=none:=by
 cases q:H a with
 |none=>rfl
 |some u=>exact absurd (VA (x.lt q) e) (Wl _)
theorem ko.kept(x:ko P w H h)(k:∀b u,h.get? b=some u->h'.get? b=some u):ko P w H h':=λa o e=>
 (x a o e).stay (λb u _ q=>k b u q) (λ_ q=>q) λ_ _ q=>q
theorem ko.laid(x:ko P w H h)(k:∀b u,h.get? b=some u->h'.get? b=some u)(hp:h.objs.size<=a)(new:cg P w (upd H a o) h' a o):ko P w (upd H a o) h':=λb u e=>by
 have hn:=x.fresh hp
 by_cases hb:b=a
 ·subst hb;rw[aW]at e;cases e;exact new
 ·rw[aF hb]at e;exact(x b u e).stay (λc v _ q=>k c v q) (λc q=>by rw[aF (aO q hn)];exact q) λc xs q=>by rw[aF (aO q hn)];exact q
end
def Rd(H:Hp)(a:Addr)(u:HO):Prop:=H a=some u\/∃o,H a=some (.o5 o u)
theorem Rd.ok(r:Rd H a u)(x:ko P w H h):cg P w H h a u:=by
 rcases r with r|⟨o,r⟩
 ·exact x a u r
 ·obtain⟨_,q⟩:=x a _ r;exact q
def Ly:Option HO->Prop
 |some (.lst _)=>True
 |some (.dK _)=>True
 |some (.dT _)=>True
 |some (.set _ _)=>True
 |some (.ins _ _ _)=>True
 |some (.ext _)=>True
 |_=>False
section
variable {P:Program} {w:World} {H:Hp} {h h':Heap} {x e:Addr} {o':HO}
theorem ko.write(ok:ko P w H h)(mu:Ly (H x))(he:e=x\/H e=some (.own x))(k:∀b u,b≠e->h.get? b=some u->h'.get? b=some u)(Li:∃u,h'.get? e=some u)
  (new:cg P w (upd H x o') h' x o'):ko P w (upd H x o') h':=λb u q=>by
 have nown:∀c y,H c=some (.own y)->c≠x:=λc y r z=>by subst z;rw[r]at mu;exact mu
 have ntup:∀c xs,H c=some (.tup xs)->c≠x:=λc xs r z=>by subst z;rw[r]at mu;exact mu
 by_cases hb:b=x
 ·subst hb;rw[aW]at q;cases q;exact new
 ·rw[aF hb]at q
  by_cases GR:b=e
  ·have q':H b=some (.own x):=by
    rcases he with z|z
    ·exact absurd (GR.trans z) hb
    ·rw[GR];exact z
   rw[q]at q';cases q';obtain⟨v,hv⟩:=Li;exact⟨v,by rw[GR];exact hv⟩
  ·refine(ok b u q).stay (λc v hc r=>k c v ?_ r) (λc r=>by rw[aF (nown c b r)];exact r) λc xs r=>by rw[aF (ntup c xs r)];exact r
   rcases hc with rfl|hc
   ·exact GR
   ·rintro rfl
    rcases he with z|z
    ·exact nown c b hc z
    ·rw[hc]at z;cases z;exact hb rfl
end
structure Un (fs ex:List Addr) (H H':Hp) (h h':Heap):Prop where
 keep:∀b o,h.get? b=some o->H b=none->b∉fs->b∉ex->h'.get? b=some o
 slot:∀b o,h.get? b=some o->H b=none->b∈fs->b∉ex->∃sl,h'.get? b=some { o with slots:=sl }
 free:∀b o,h.get? b=some o->H b=none->b∉ex->H' b=none
 there:∀b o,h.get? b=some o->b∉ex->∃o',h'.get? b=some o'
 tups:∀b xs,H b=some (.tup xs)->H' b=some (.tup xs)
 frzs:∀b o u,H b=some (.o5 o u)->H' b=some (.o5 o u)
 qR:∀b ps,H b=some (.tbl ps)->∃more,H' b=some (.tbl (ps++more))
section
variable {fs fs' ex ex':List Addr} {H H1 H2:Hp} {h h1 h2 h':Heap} {a x e:Addr} {o:HO}
theorem Un.any(u:Un fs ex H H1 h h1)(q:h.get? b=some ob)(n:H b=none)(hx:b∉ex):∃sl,h1.get? b=some { ob with slots:=sl }:=by
 by_cases hb:b∈fs
 ·exact u.slot b ob q n hb hx
 ·exact⟨ob.slots,u.keep b ob q n hb hx⟩
theorem Un.kept(k:∀b u,h.get? b=some u->h'.get? b=some u):Un fs ex H H h h' :=
 ⟨λb ob q _ _ _=>k b ob q,λb ob q _ _ _=>⟨ob.slots,k b ob q⟩,λ_ _ _ n _=>n,λb ob q _=>⟨ob,k b ob q⟩,λ_ _ q=>q,λ_ _ _ q=>q,λ_ ps q=>⟨#[],by rw[q];simp⟩⟩
theorem Un.refl:Un fs ex H H h h:=Un.kept λ_ _ q=>q
theorem Un.laid(k:∀b u,h.get? b=some u->h'.get? b=some u)(hp:h.objs.size<=a)(hn:H a=none):Un fs ex H (upd H a o) h h' where
 keep:=λb u q _ _ _=>k b u q
 slot:=λb u q _ _ _=>⟨u.slots,k b u q⟩
 free:=λb u q n _=>by rw[aF (VE (VA (Vy q) hp))];exact n
 there:=λb u q _=>⟨u,k b u q⟩
 tups:=λb xs q=>by rw[aF (aO q hn)];exact q
 frzs:=λb u xs q=>by rw[aF (aO q hn)];exact q
 qR:=λb ps q=>⟨#[],by rw[aF (aO q hn),q];simp⟩
theorem Un.write(mu:Ly (H x))(he:e=x\/H e=some (.own x))(k:∀b u,b≠e->h.get? b=some u->h'.get? b=some u)(Li:∃u,h'.get? e=some u):Un fs ex H (upd H x o) h h':=by
 have hx:∀b,H b=none->b≠x:=λb n z=>by subst z;rw[n]at mu;exact mu
 have hb:∀b,H b=none->b≠e:=λb n z=>by
  subst z
  rcases he with r|r
  ·exact hx b n r
  ·rw[n]at r;cases r
 have hm:∀b u,H b=some u->¬ Ly (some u)->b≠x:=λb u q nm z=>by subst z;rw[q]at mu;exact nm mu
 refine⟨λb u q n _ _=>k b u (hb b n) q,λb u q n _ _=>⟨u.slots,k b u (hb b n) q⟩,λb u q n _=>by rw[aF (hx b n)];exact n,λb u q _=>?_,
  λb xs q=>by rw[aF (hm b _ q λz=>z)];exact q,λb u xs q=>by rw[aF (hm b _ q λz=>z)];exact q,λb ps q=>⟨#[],by rw[aF (hm b _ q λz=>z),q];simp⟩⟩
 by_cases GR:b=e
 ·subst GR;exact Li
 ·exact⟨u,k b u GR q⟩
end
def OZ(h:Heap)(H:Hp):List Addr:=(List.range h.objs.size).filter λa=>(H a).isSome
def qS(h:Heap)(H:Hp):Heap:=PySem.W.hideAll h (OZ h H)
theorem yz(h:Heap)(H:Hp):(qS h H).objs.size=h.objs.size:=PySem.W.hideAll_size _ _
theorem z5(e:h.get? b=some o)(n:H b=none):(qS h H).get? b=some o :=
 PySem.W.hideAll_get _ e λhm=>by
  have q:(H b).isSome=true:=(List.mem_filter.mp hm).2;rw[n]at q;simp at q
theorem Dl(e:(qS h H).get? b=some o):h.get? b=some o/\H b=none:=by
 have e':h.get? b=some o:=PySem.W.of_hideAll (OZ h H) e;refine⟨e',?_⟩;cases q:H b with
 |none=>rfl
 |some x=>have hm:b∈OZ h H:=List.mem_filter.mpr ⟨mem_range.mpr (Vy e'),by simp[q]⟩;have z:(qS h H).get? b=none:=PySem.W.hideAll_none (OZ h H) hm;rw[z]at e;cases e
def Dm(g h:Heap)(L:Addr):List (Addr×Obj):=(List.range h.objs.size).filterMap λa=>if a=L\/(g.get? a).isSome=true then none else (h.get? a).map λo=>(a,o)
def rest(g h:Heap)(L d:Addr):List (Addr×Obj):=(Dm g h L).filter λp=>decide (p.1≠d)
structure Mod (K:Frag) (mg:Str->Option Value) (base:Heap):Prop where
 O0:K.In base
 glob:base.Ns mainGlobals mg
 blt:∃mb,base.Ns builtinsNs mb/\∀x:Str,x ≠ "__name__" -> mb x=bootBuiltins x
 nolimit:base.NoLimit
structure Cx where
 prog:Program
 w:World
 K:Frag
 mg:Str->Option Value
 base:Heap
 A:Around
 N:List Str
 s₀:Shared
 H₀:Hp
 env:Env
 outer:List Env
 stack:List Env
 ex:List Addr
 fn:Str->Bool
 calm:Bool
 pn:List (Addr×Obj)
 xe:Value->Shared->Prop
def frs(l:List Env):List Addr:=l.filterMap (·.frame)
abbrev Cx.fs(X:Cx):List Addr:=frs X.outer
def Lz(sc:Scope)(x:Str):Prop:=sc.names.lookup x=some .local\/sc.names.lookup x=some .cell\/sc.names.lookup x=some .free
def Loc(sc:Scope)(x:Str):Prop:=sc.names.lookup x=some .local\/sc.names.lookup x=some .cell
def Look(env:Env)(h:Heap)(m:Str->Option Value)(x:Str)(u:Value):Prop :=
 (env.kindOf x=some .local/\m x=some u)\/((env.kindOf x=some .cell\/env.kindOf x=some .free)/\∃c,env.cells.lookup x=some c/\h.IsCell c (some u))
structure Cx.Ok (X:Cx):Prop where
 mod:Mod X.K X.mg X.base
 kind:X.env.scope.kind=.function
 glob:X.env.globals=mainGlobals
 blt:X.env.builtins=builtinsNs
 above:X.s₀.heap.objs.size<=X.env.locals
 inj:∀x y c,X.env.cells.lookup x=some c->X.env.cells.lookup y=some c->x=y
 has:∀x,(X.env.kindOf x=some .cell\/X.env.kindOf x=some .free)->∃c,X.env.cells.lookup x=some c
 LA:∀x c,X.fn x=true->X.env.cells.lookup x=some c->X.s₀.heap.objs.size<=c
 hd:X.calm=true->X.A.handled=none
 frames:X.A.frames=some X.stack
 stk:X.stack=X.outer\/(X.stack=X.env::X.outer/\X.env.frame=some X.env.locals)
 Pp:∀b∈X.ex,b≠X.env.locals/\∀x c,X.env.cells.lookup x=some c->c≠b
 bs:∀b o,X.base.get? b=some o->X.s₀.heap.get? b=some o/\X.H₀ b=none
 FU:X.base.objs.size<=X.s₀.heap.objs.size
 mH:∀b o,X.base.get? b=some o->b∉X.ex
 z6:∀b∈X.ex,b∉X.fs
 mJ:X.s₀.heap.FunFrames X.base X.outer
 GS:∀b∈X.fs,X.H₀ b=none
structure Inv (X:Cx) (pins:List (Addr×Obj)) (σ:List (Option V)) (H:Hp) (s:Shared):Prop where
 ok:X.Ok
 os:s.os=X.s₀.os
 bare:AllBare s.gens
 base:Un X.fs X.ex X.H₀ H X.s₀.heap s.heap
 loc:∃m,s.heap.Ns X.env.locals m/\∀(i:Nat) (x:Str) (v:V),X.N[i]?=some x -> σ[i]?=some (some v)->Lz X.env.scope x->∃u,RelV v u/\Look X.env s.heap m x u
 cell:∀x c,X.env.cells.lookup x=some c->∃v,s.heap.IsCell c v
 free:H X.env.locals=none
 iQ:∀x c,X.env.cells.lookup x=some c->H c=none
 pin:∀p∈X.pn++pins,s.heap.get? p.1=some p.2/\H p.1=none/\p.1≠X.env.locals/\p.1∉X.fs/\∀v,p.2.data≠.cell v
 hok:ko X.prog X.w H s.heap
 len:σ.length=X.N.length
section
variable {X:Cx} {pins:List (Addr×Obj)} {σ:List (Option V)} {H H':Hp} {s:Shared} {h':Heap}
theorem Cx.Ok.Pq(ok:X.Ok)(e:X.base.get? b=some o):b∉X.fs:=λhb=>by
 have:=(ok.mJ.mem hb).1;rw[e]at this;cases this
theorem Inv.bs(I:Inv X pins σ H s):∀b o,X.base.get? b=some o->s.heap.get? b=some o/\H b=none:=λb o e=>
 ⟨I.base.keep b o (I.ok.bs b o e).1 (I.ok.bs b o e).2 (I.ok.Pq e) (I.ok.mH b o e),I.base.free b o (I.ok.bs b o e).1 (I.ok.bs b o e).2 (I.ok.mH b o e)⟩
theorem Inv.bk(I:Inv X pins σ H s):∀b o,X.base.get? b=some o->s.heap.get? b=some o:=λb o e=>(I.bs b o e).1
theorem Inv.mod(I:Inv X pins σ H s):Mod X.K X.mg X.base:=I.ok.mod
theorem Inv.qT(I:Inv X pins σ H s):X.K.In s.heap:=I.ok.mod.O0.keeps I.bk
theorem Inv.lt(I:Inv X pins σ H s):X.env.locals<s.heap.objs.size:=let ⟨_,hn,_⟩:=I.loc;hn.lt
theorem Inv.sz(I:Inv X pins σ H s):X.s₀.heap.objs.size<=s.heap.objs.size:=VX I.ok.above (WO I.lt)
theorem Inv.Pu(I:Inv X pins σ H s)(h:s.heap.objs.size<=a):a∉X.fs:=λhb=>by
 obtain⟨_,o,ho,_⟩:=I.ok.mJ.mem hb;exact absurd (VA (Vy ho) (VX I.sz h)) (Wl _)
theorem Inv.cne(I:Inv X pins σ H s):∀x c,X.env.cells.lookup x=some c->c≠X.env.locals:=λx c e z=>by
 obtain⟨v,o,ho,hd⟩:=I.cell x c e;obtain⟨m,⟨o',es,ep,ho',hd',_⟩,_⟩:=I.loc;rw[z,ho']at ho;cases ho;rw[hd']at hd;cases hd
theorem Inv.mJ(I:Inv X pins σ H s):s.heap.FunFrames X.base X.outer:=by
 have all:∀(l:List Env),(∀b∈frs l,b∈X.fs)->X.s₀.heap.FunFrames X.base l->s.heap.FunFrames X.base l:=by
  intro l
  induction l with
  |nil=>intro _ _;trivial
  |cons env r ih=>intro hs hl;obtain⟨hk,⟨L,o,hf,hn,ho,hd⟩,hr⟩:=hl;have hL:L∈X.fs:=hs L (by unfold frs;rw[Xy,hf];exact Vs);obtain⟨sl,e⟩:=I.base.slot L o ho (I.ok.GS L hL) hL λz=>I.ok.z6 L z hL;exact⟨hk,⟨L,_,hf,hn,e,hd⟩,ih (λb hb=>hs b (by unfold frs;rw[Xy,hf];exact Vq _ hb)) hr⟩
 exact all X.outer (λ_ hb=>hb) I.ok.mJ
theorem Inv.stack(I:Inv X pins σ H s):s.heap.FunFrames X.base X.stack:=by
 rcases I.ok.stk with e|⟨e,hf⟩
 ·rw[e];exact I.mJ
 ·rw[e];obtain⟨m,hn,_⟩:=I.loc;refine .cons (by rw[I.ok.kind];decide) hf hn ?_ I.mJ;exact Heap.get?_none_of_le (VX I.ok.FU I.ok.above)
theorem Inv.vd(I:Inv X pins σ H s):∀b∈frs X.stack,b∈X.env.locals::X.fs:=λb hb=>by
 rcases I.ok.stk with e|⟨e,hf⟩
 ·rw[e]at hb;exact Vq _ hb
 ·rw[e]at hb;unfold frs at hb;rw[Xy,hf]at hb;exact hb
theorem Inv.wO(I:Inv X pins σ H s):∀b∈frs X.stack,H b=none:=λb hb=>by
 rcases VF.mp (I.vd b hb) with e|hb
 ·rw[e];exact I.free
 ·obtain⟨_,o,ho,_⟩:=I.ok.mJ.mem hb;exact I.base.free b o ho (I.ok.GS b hb) λz=>I.ok.z6 b z hb
theorem Inv.step{g':Array GenState}{t':Nat}{d':Drawn}{ch:List Addr}(I:Inv X pins σ H s)
  (hch:∀b∈ch,(b∈X.ex\/X.s₀.heap.objs.size<=b)/\b≠X.env.locals/\(∀x c,X.env.cells.lookup x=some c->c≠b)/\∀p∈X.pn++pins,p.1≠b)
  (keep:∀b o,b≠X.env.locals->b∉X.fs->b∉ch->s.heap.get? b=some o->H b=none->h'.get? b=some o)
  (slot:∀b o,b≠X.env.locals->b∈X.fs->b∉ch->s.heap.get? b=some o->H b=none->∃sl,h'.get? b=some { o with slots:=sl }) (free:∀b o,b∉ch->s.heap.get? b=some o->H b=none->H' b=none)
  (there:∀b o,b∉ch->s.heap.get? b=some o->∃o',h'.get? b=some o')
  (tups:∀b xs,H b=some (.tup xs)->H' b=some (.tup xs)) (frzs:∀b o u,H b=some (.o5 o u)->H' b=some (.o5 o u)) (qR:∀b ps,H b=some (.tbl ps)->∃more,H' b=some (.tbl (ps++more)))
  (ns:∀m,s.heap.Ns X.env.locals m->h'.Ns X.env.locals m) (hok:ko X.prog X.w H' h') (hg:AllBare g') :
  Inv X pins σ H' { s with heap:=h',gens:=g',drawn:=d',toks:=t' }:=by
 have neL:∀b o,X.s₀.heap.get? b=some o->b≠X.env.locals:=λb o e=>VE (VA (Vy e) I.ok.above);have neC:∀b o,X.s₀.heap.get? b=some o->b∉X.ex->b∉ch:=λb o e hx hb=>by
  rcases(hch b hb).1 with z|z
  ·exact hx z
  ·exact absurd (VA (Vy e) z) (Wl _)
 have cellK:∀x c,X.env.cells.lookup x=some c->∀v,s.heap.IsCell c v->h'.IsCell c v:=λx c e v ⟨o,ho,hd⟩=>by
  have LB:c∉ch:=λz=>(hch c z).2.2.1 x c e rfl
  by_cases hc:c∈X.fs
  ·obtain⟨sl,q⟩:=slot c o (I.cne x c e) hc LB ho (I.iQ x c e);exact⟨_,q,hd⟩
  ·exact⟨o,keep c o (I.cne x c e) hc LB ho (I.iQ x c e),hd⟩
 refine⟨I.ok,I.os,hg,⟨λb o e n hb hx=>?_,λb o e n hb hx=>?_,λb o e n hx=>?_,λb o e hx=>?_,λb xs e=>tups b xs (I.base.tups b xs e),λb o xs e=>frzs b o xs (I.base.frzs b o xs e),λb ps e=>?_⟩,?_,λx c e=>?_,?_,λx c e=>?_,λp hp=>?_,hok,I.len⟩
 ·exact keep b o (neL b o e) hb (neC b o e hx) (I.base.keep b o e n hb hx) (I.base.free b o e n hx)
 ·obtain⟨sl,e1⟩:=I.base.slot b o e n hb hx;obtain⟨SO,e2⟩:=slot b _ (neL b o e) hb (neC b o e hx) e1 (I.base.free b o e n hx);exact⟨SO,e2⟩
 ·obtain⟨o',e1⟩:=I.base.there b o e hx;exact free b o' (neC b o e hx) e1 (I.base.free b o e n hx)
 ·obtain⟨o',e1⟩:=I.base.there b o e hx;exact there b o' (neC b o e hx) e1
 ·obtain⟨m1,e1⟩:=I.base.qR b ps e;obtain⟨m2,e2⟩:=qR b _ e1;exact⟨m1++m2,by rw[e2,Array.append_assoc]⟩
 ·obtain⟨m,hn,hl⟩:=I.loc
  refine⟨m,ns m hn,λi x v e1 e2 e3=>?_⟩;obtain⟨u,r,l⟩:=hl i x v e1 e2 e3;refine⟨u,r,?_⟩
  rcases l with l|⟨k,c,e,z⟩
  ·exact .inl l
  ·exact .inr ⟨k,c,e,cellK x c e _ z⟩
 ·obtain⟨v,z⟩:=I.cell x c e;exact⟨v,cellK x c e v z⟩
 ·obtain⟨m,⟨o,_,_,ho,_⟩,_⟩:=I.loc;exact free _ o (λz=>(hch _ z).2.1 rfl) ho I.free
 ·obtain⟨v,o,ho,hd⟩:=I.cell x c e;exact free c o (λz=>(hch c z).2.2.1 x c e rfl) ho (I.iQ x c e)
 ·obtain⟨e,n,ne,nf,d⟩:=I.pin p hp;have LB:p.1∉ch:=λz=>(hch p.1 z).2.2.2 p hp rfl;exact⟨keep p.1 p.2 ne nf LB e n,free p.1 p.2 LB e n,ne,nf,d⟩
theorem Inv.un{t':Nat}(I:Inv X pins σ H s)(u:Un X.fs [] H H' s.heap h')(hok:ko X.prog X.w H' h'):Inv X pins σ H' { s with heap:=h',toks:=t' }:=by
 obtain⟨m,⟨o,es,ep,ho,r⟩,_⟩:=id I.loc;obtain⟨sl,hL⟩:=u.any ho I.free (by simp);exact I.step (g':=s.gens) (d':=s.drawn) (ch:=[]) (λ_ z=>nomatch z) (λb o _ hb _ e n=>u.keep b o e n hb (by simp)) (λb o _ hb _ e n=>u.slot b o e n hb (by simp)) (λb o _ e n=>u.free b o e n (by simp)) (λb o _ e=>u.there b o e (by simp)) u.tups u.frzs u.qR (λm' hm=>by
  obtain⟨o',es',Pw,ho',r'⟩:=hm;rw[ho]at ho';cases ho';exact⟨_,es',Pw,hL,r'⟩) hok I.bare
theorem Inv.call{t':Nat}(I:Inv X pins σ H s)(u:Un (frs X.stack) ch H H' s.heap h')(hok:ko X.prog X.w H' h')(hg:AllBare g')
  (hch:∀b∈ch,(b∈X.ex\/X.s₀.heap.objs.size<=b)/\b≠X.env.locals/\(∀x c,X.env.cells.lookup x=some c->c≠b)/\∀p∈X.pn++pins,p.1≠b) :
  Inv X pins σ H' { s with heap:=h',gens:=g',drawn:=d',toks:=t' }:=by
 obtain⟨m,⟨o,es,ep,ho,r⟩,_⟩:=id I.loc;obtain⟨sl,hL⟩:=u.any ho I.free λz=>(hch _ z).2.1 rfl;exact I.step (ch:=ch) hch (λb o hL hb hc e n=>u.keep b o e n (λz=>(VF.mp (I.vd b z)).elim hL hb) hc) (λb o _ _ hc e n=>u.any e n hc) (λb o hc e n=>u.free b o e n hc) (λb o hc e=>u.there b o e hc) u.tups u.frzs u.qR (λm' hm=>by
  obtain⟨o',es',Pw,ho',r'⟩:=hm;rw[ho]at ho';cases ho';exact⟨_,es',Pw,hL,r'⟩) hok hg
theorem Inv.turned{t':Nat}(I:Inv X pins σ H s)(k:∀b o,b≠it->s.heap.get? b=some o->h'.get? b=some o)(hn:H it=none)(hL:it≠X.env.locals)
  (h1:it∈X.ex\/X.s₀.heap.objs.size<=it) (h2:∀x c,X.env.cells.lookup x=some c->c≠it) (h3:∀p∈X.pn++pins,p.1≠it):Inv X pins σ H { s with heap:=h',toks:=t' }:=by
 have LC:∀b u,H b=some u->b≠it:=λb u e z=>by rw[z,hn]at e;cases e
 refine I.step (g':=s.gens) (d':=s.drawn) (ch:=[it]) (λb hb=>?_) (λb o _ _ hc e _=>k b o (λz=>hc (by simp[z])) e) (λb o _ _ hc e _=>⟨o.slots,k b o (λz=>hc (by simp[z])) e⟩) (λ_ _ _ _ n=>n)
  (λb o hc e=>⟨o,k b o (λz=>hc (by simp[z])) e⟩) (λ_ _ e=>e) (λ_ _ _ e=>e) (λb ps e=>⟨#[],by rw[e];simp⟩) (λm hm=>?_) (λb u e=>?_) I.bare
 ·have e:b=it:=by simpa using hb
  subst e;exact⟨h1,hL,h2,h3⟩
 ·obtain⟨o,es,ep,ho,r⟩:=hm;exact⟨o,es,ep,k _ o (Ne.symm hL) ho,r⟩
 ·refine(I.hok b u e).stay (λc v hc q=>k c v ?_ q) (λ_ q=>q) λ_ _ q=>q
  rcases hc with z|z
  ·rw[z];exact LC b u e
  ·exact LC c _ z
theorem Inv.tok(I:Inv X pins σ H s)(t:Nat):Inv X pins σ H { s with toks:=t }:=I.un (h':=s.heap) (t':=t) Un.refl I.hok
theorem Inv.kept{t':Nat}(I:Inv X pins σ H s)(k:∀b u,s.heap.get? b=some u->h'.get? b=some u):Inv X pins σ H { s with heap:=h',toks:=t' }:=I.un (Un.kept k) (I.hok.kept k)
theorem Inv.laid{t':Nat}(I:Inv X pins σ H s)(k:∀b u,s.heap.get? b=some u->h'.get? b=some u)(hp:s.heap.objs.size<=a)(new:cg X.prog X.w (upd H a o) h' a o) :
  Inv X pins σ (upd H a o) { s with heap:=h',toks:=t' }:=I.un (Un.laid k hp (I.hok.fresh hp)) (I.hok.laid k hp new)
theorem Inv.write{t':Nat}(I:Inv X pins σ H s)(mu:Ly (H x))(he:e=x\/H e=some (.own x))(k:∀b u,b≠e->s.heap.get? b=some u->h'.get? b=some u)(Li:∃u,h'.get? e=some u)
  (new:cg X.prog X.w (upd H x o) h' x o):Inv X pins σ (upd H x o) { s with heap:=h',toks:=t' }:=I.un (Un.write mu he k Li) (I.hok.write mu he k Li new)
theorem Inv.wQ(I:Inv X pins σ H s)(h:∀p∈LD,s.heap.get? p.1=some p.2/\H p.1=none/\p.1≠X.env.locals/\p.1∉X.fs/\∀v,p.2.data≠.cell v):Inv X LD σ H s :=
 ⟨I.ok,I.os,I.bare,I.base,I.loc,I.cell,I.free,I.iQ,λp hp=>(Wq.mp hp).elim (λz=>I.pin p (WI _ z)) (h p),I.hok,I.len⟩
theorem sP{N:List Str}(hN:N.Nodup){i j:Nat}{x:Str}(a:N[i]?=some x)(b:N[j]?=some x):i=j:=by
 obtain⟨h1,e1⟩:=Vn.mp a;obtain⟨h2,e2⟩:=Vn.mp b;exact(List.getElem_inj hN).mp (e1.trans e2.symm)
theorem pN{i:Nat}(I:Inv X pins σ H s)(hN:X.N.Nodup)(hi:X.N[i]?=some x)(hx:Loc X.env.scope x)(r:RelV v u)
  (h:∀s',Inv X pins (σ.set i (some v)) H s'->(∃a,Heap.SameBut a s.heap s'.heap/\(a=X.env.locals\/X.env.cells.lookup x=some a))->Q () s') (hf:X.fn x=true\/X.env.scope.names.lookup x=some .local):wpAny M A (storeName X.env x u) Q E s:=by
 obtain⟨m,hn,hl⟩:=id I.loc;have hcls:(X.env.scope.kind==.class||(X.env.scope.kind==.module&&X.env.locals != X.env.globals))=false:=by rw[I.ok.kind];rfl
 have Ro:i < σ.length:=by rw[I.len];exact(Vn.mp hi).1
 have cne:=I.cne;have tracked:∀{a:Addr} {h':Heap},(∃o,s.heap.get? a=some o/\H a=none)->Heap.SameBut a s.heap h'->ko X.prog X.w H h':=λ{a h'} ha hs b ob e=>by
  obtain⟨_,_,hfree⟩:=ha;refine(I.hok b ob e).stay (λc w' hc q=>(hs.2 c ?_).trans q) (λ_ q=>q) λ_ _ q=>q;rintro rfl
  rcases hc with rfl|hc
  ·rw[hfree]at e;cases e
  ·rw[hfree]at hc;cases hc
 rcases hx with hk|hk
 ·refine wpAny_storeName_local hk hn (λh' hn' hs=>?_) hcls
  obtain⟨oL,_,_,SQ,_⟩:=id hn;refine h _ ⟨I.ok,I.os,I.bare,⟨λb o e n hb hx=>?_,λb o e n hb hx=>?_,I.base.free,λb o e hx=>?_,I.base.tups,I.base.frzs,I.base.qR⟩,⟨_,hn',λj y v' e1 e2 e3=>?_⟩,λy c e=>?_,I.free,I.iQ,λp hp=>?_,tracked ⟨oL,SQ,I.free⟩ hs,by simpa using I.len⟩ ⟨_,hs,.inl rfl⟩
  ·exact(hs.2 b (VE (VA (Vy e) I.ok.above))).trans (I.base.keep b o e n hb hx)
  ·obtain⟨sl,e1⟩:=I.base.slot b o e n hb hx;exact⟨sl,(hs.2 b (VE (VA (Vy e) I.ok.above))).trans e1⟩
  ·obtain⟨o',e1⟩:=I.base.there b o e hx;exact⟨o',(hs.2 b (VE (VA (Vy e) I.ok.above))).trans e1⟩
  ·by_cases hj:j=i
   ·subst hj;rw[hi]at e1;cases e1;rw[Vz Ro]at e2;cases e2;exact⟨u,r,.inl ⟨hk,by simp⟩⟩
   ·rw[Vr (Ne.symm hj)]at e2
    obtain⟨u',r',q⟩:=hl j y v' e1 e2 e3;refine⟨u',r',?_⟩
    rcases q with ⟨k,e⟩|⟨k,c,e,z⟩
    ·refine .inl ⟨k,?_⟩;have:y≠x:=λe=>hj (sP hN e1 (e▸hi));simp[this,e]
    ·exact .inr ⟨k,c,e,z.sameBut hs (cne y c e)⟩
  ·obtain⟨w',z⟩:=I.cell y c e;exact⟨w',z.sameBut hs (cne y c e)⟩
  ·obtain⟨e,n,ne,nf,d⟩:=I.pin p hp;exact⟨(hs.2 p.1 ne).trans e,n,ne,nf,d⟩
 ·have hfn:X.fn x=true:=by
   rcases hf with z|z
   ·exact z
   ·rw[z]at hk;cases hk
  obtain⟨c,hc⟩:=I.ok.has x (.inl hk);obtain⟨w',z⟩:=I.cell x c hc;refine wpAny_storeName_cell I.ok.kind hk hc z (λh' hc' hs=>?_);obtain⟨oc,hoc,z7⟩:=id z;refine h { s with heap:=h' } ⟨I.ok,I.os,I.bare,⟨λb o e n hb hx=>?_,λb o e n hb hx=>?_,I.base.free,λb o e hx=>?_,I.base.tups,I.base.frzs,I.base.qR⟩,⟨m,hn.sameBut hs (Ne.symm (cne x c hc)),λj y v' e1 e2 e3=>?_⟩,λy c' e=>?_,I.free,I.iQ,λp hp=>?_,tracked ⟨oc,hoc,I.iQ x c hc⟩ hs,by simpa using I.len⟩ ⟨c,hs,.inr hc⟩
  ·exact(hs.2 b (VE (VA (Vy e) (I.ok.LA x c hfn hc)))).trans (I.base.keep b o e n hb hx)
  ·obtain⟨sl,e1⟩:=I.base.slot b o e n hb hx;exact⟨sl,(hs.2 b (VE (VA (Vy e) (I.ok.LA x c hfn hc)))).trans e1⟩
  ·obtain⟨o',e1⟩:=I.base.there b o e hx;exact⟨o',(hs.2 b (VE (VA (Vy e) (I.ok.LA x c hfn hc)))).trans e1⟩
  ·by_cases hj:j=i
   ·subst hj;rw[hi]at e1;cases e1;rw[Vz Ro]at e2;cases e2;exact⟨u,r,.inr ⟨.inl hk,c,hc,hc'⟩⟩
   ·rw[Vr (Ne.symm hj)]at e2
    obtain⟨u',r',q⟩:=hl j y v' e1 e2 e3;refine⟨u',r',?_⟩
    rcases q with q|⟨k,c',e,z'⟩
    ·exact .inl q
    ·refine .inr ⟨k,c',e,z'.sameBut hs ?_⟩;rintro rfl;exact hj (sP hN e1 (I.ok.inj _ _ _ e hc▸hi))
  ·by_cases hcc:c'=c
   ·subst hcc;exact⟨_,hc'⟩
   ·obtain⟨w2,z2⟩:=I.cell y c' e;exact⟨w2,z2.sameBut hs hcc⟩
  ·obtain⟨e,n,ne,nf,d⟩:=I.pin p hp;refine⟨(hs.2 p.1 ?_).trans e,n,ne,nf,d⟩;intro q;rw[q,hoc]at e;have q':oc=p.2:=VJ e;exact d w' (by rw[<-q'];exact z7)
theorem sQ{i:Nat}(I:Inv X pins σ H s)(hN:X.N.Nodup)(hi:X.N[i]?=some x)(hx:Loc X.env.scope x)(r:RelV v u)
  (h:∀s',Inv X pins (σ.set i (some v)) H s'->Q () s') (hf:X.fn x=true\/X.env.scope.names.lookup x=some .local):wpAny M A (storeName X.env x u) Q E s :=
 pN I hN hi hx r (λs' I' _=>h s' I') hf
theorem Inv.LF(I:Inv X pins σ H s)(ho:s'.os=s.os)(u:Un (frs X.stack) ch H H' s.heap s'.heap)(hok:ko X.prog X.w H' s'.heap)(hg:AllBare s'.gens)
  (hch:∀b∈ch,(b∈X.ex\/X.s₀.heap.objs.size<=b)/\b≠X.env.locals/\(∀x c,X.env.cells.lookup x=some c->c≠b)/\∀p∈X.pn++pins,p.1≠b):Inv X pins σ H' s':=by
 obtain⟨h',g',d',t',o'⟩:=s';have e:o'=s.os:=ho;subst e;exact I.call (g':=g') (t':=t') (d':=d') u hok hg hch
end
abbrev XK:=Value->Option Addr->Hp->Prop
abbrev St:=List (Option V)
abbrev VK:=V->Hp->Prop
abbrev TE:=St->Hp->VK->Prop
abbrev TT:=St->Hp->(Bool->Hp->Prop)->Prop
abbrev TA:=St->Hp->(List V->Hp->Prop)->Prop
structure Ends where
 nx:St->Hp->Prop
 rt:VK
 bk:St->Hp->Prop:=λ_ _=>False
 ct:St->Hp->Prop:=λ_ _=>False
abbrev TS:=Ends->St->Hp->Prop
def EP(X:Cx)(pins:List (Addr×Obj))(σ:St)(Q:VK)(u:Value)(s':Shared):Prop:=∃v H',Inv X pins σ H' s'/\RelV v u/\Q v H'
def TP(X:Cx)(pins:List (Addr×Obj))(σ:St)(Q:Bool->Hp->Prop)(b:Bool)(s':Shared):Prop:=∃H',Inv X pins σ H' s'/\Q b H'
def AP(X:Cx)(pins:List (Addr×Obj))(σ:St)(Q:List V->Hp->Prop)(us:List Value)(s':Shared):Prop:=∃vs H',Inv X pins σ H' s'/\Vals vs us/\Q vs H'
def SP(X:Cx)(pins:List (Addr×Obj))(D:Ends)(f:Flow)(s':Shared):Prop :=
 match f with
 |.next=>∃σ' H',Inv X pins σ' H' s'/\D.nx σ' H'
 |.brk=>∃σ' H',Inv X pins σ' H' s'/\D.bk σ' H'
 |.cont=>∃σ' H',Inv X pins σ' H' s'/\D.ct σ' H'
 |.ret u=>∃v σ' H',Inv X pins σ' H' s'/\RelV v u/\D.rt v H'
def PE(X:Cx)(e:Expr)(t:TE):Prop :=
 ∀(pins:List (Addr×Obj)) (s:Shared) (σ:St) (H:Hp) (Q:VK),Inv X pins σ H s->t σ H Q->wpAny (model X.prog X.w) X.A (eval e X.env) (EP X pins σ Q) X.xe s
def PT(X:Cx)(e:Expr)(t:TT):Prop :=
 ∀(pins:List (Addr×Obj)) (s:Shared) (σ:St) (H:Hp) (Q:Bool->Hp->Prop),Inv X pins σ H s->t σ H Q->wpAny (model X.prog X.w) X.A (isTrue e X.env (eval e X.env)) (TP X pins σ Q) X.xe s
def PW(X:Cx)(e:Expr)(t:TT):Prop :=
 ∀(whole:Sem Value) (pins:List (Addr×Obj)) (s:Shared) (σ:St) (H:Hp) (Q:Bool->Hp->Prop),Inv X pins σ H s->t σ H Q->wpAny (model X.prog X.w) X.A (isTrue e X.env whole) (TP X pins σ Q) X.xe s
theorem PW.pt(h:PW X e t):PT X e t:=h _
def PA(X:Cx)(es:List Expr)(t:TA):Prop :=
 ∀(pos:Pos) (pins:List (Addr×Obj)) (s:Shared) (σ:St) (H:Hp) (Q:List V->Hp->Prop),Inv X pins σ H s->t σ H Q->wpAny (model X.prog X.w) X.A (spliced (backTo pos (starEach es X.env))) (AP X pins σ Q) X.xe s
def PS(X:Cx)(st:Stmt)(t:TS):Prop :=
 ∀(pins:List (Addr×Obj)) (s:Shared) (σ:St) (H:Hp) (D:Ends),Inv X pins σ H s->t D σ H->wpAny (model X.prog X.w) X.A (exec st X.env) (SP X pins D) X.xe s
def ve(X:Cx)(st:List Stmt)(t:TS):Prop :=
 ∀(pins:List (Addr×Obj)) (s:Shared) (σ:St) (H:Hp) (D:Ends),Inv X pins σ H s->t D σ H->wpAny (model X.prog X.w) X.A (execs st X.env) (SP X pins D) X.xe s
theorem cE{α:Type}{t:Sem α}{Q Q':α -> Shared->Prop}(h:wpAny M A t Q E s)(hQ:∀a s,Q a s->Q' a s):wpAny M A t Q' E s:=Wt h hQ λ_ _ x=>x
section
variable {X:Cx}
theorem bin{a b:Expr}{ta tb:TE}(ha:PE X a ta)(hb:PE X b tb){pins:List (Addr×Obj)}{s:Shared}{σ:St}{H:Hp}{R:V->V->Hp->Prop}(I:Inv X pins σ H s)(h:ta σ H λx H1=>tb σ H1 λy H2=>R x y H2)
  {α:Type} {Q:α -> Shared->Prop} {f:Value->Value->Sem α}
  (hf:∀v u s2 x y H2,Inv X pins σ H2 s2->RelV x v->RelV y u->R x y H2->wpAny (model X.prog X.w) X.A (f v u) Q X.xe s2) :
  wpAny (model X.prog X.w) X.A (eval a X.env) (λv s₁=>wpAny (model X.prog X.w) X.A (eval b X.env) (λu s₂=>wpAny (model X.prog X.w) X.A (f v u) Q X.xe s₂) X.xe s₁) X.xe s:=by
 refine cE (ha pins s σ H _ I h) λv s1 aK=>?_;obtain⟨x,H1,I1,r1,q1⟩:=aK;refine cE (hb pins s1 σ H1 _ I1 q1) λu s2 aK=>?_;obtain⟨y,H2,I2,r2,q2⟩:=aK;exact hf v u s2 x y H2 I2 r1 r2 q2
def LG(i:Nat):TE:=λσ H Q=>∃v,σ[i]?=some (some v)/\Q v H
def tC(v:V):TE:=λ_ H Q=>Q v H
theorem z8{i:Nat}(hN:X.N[i]?=some x)(hv:Lz X.env.scope x)(hd:(x==("__debug__":Str))=false)(hcd:(x==("__classdict__":Str))=false):PE X (.Name x pos) (LG i):=by
 intro pins s σ H Q I h;obtain⟨v,e,h⟩:=h;obtain⟨m,hn,hl⟩:=I.loc;obtain⟨u,r,l⟩:=hl i x v hN e hv;have fin:EP X pins σ Q u s:=⟨v,H,I,r,h⟩
 rcases l with ⟨hk,hm⟩|⟨hk,c,hc,hcell⟩
 ·exact wpAny_Name (wpAny_loadName_local I.ok.kind hk hn hm fin) hd
 ·rcases hk with hk|hk
  ·exact wpAny_Name (wpAny_loadName_cell I.ok.kind hk hc hcell fin) hd
  ·exact wpAny_Name (wpAny_loadName_free I.ok.kind hk hc hcell fin hcd) hd
theorem GU{i j pos}:PE X (.Constant (.int i) j pos) (tC (.int i)):=λ_ _ _ H _ I h=>wpAny_Constant_int ⟨.int i,H,I.tok _,⟨_,rfl⟩,h⟩
theorem LH{b j pos}:PE X (.Constant (.bool b) j pos) (tC (.bl b)):=λ_ _ _ H _ I h=>Constant_bool ⟨.bl b,H,I,rfl,h⟩
theorem GV{j pos}:PE X (.Constant .none j pos) (tC .non):=λ_ _ _ H _ I h=>Constant_none ⟨.non,H,I,rfl,h⟩
theorem GW{x j pos}:PE X (.Constant (.str x) j pos) (tC (.str x)):=λ_ _ _ H _ I h=>Calls.Constant_str ⟨.str x,H,I.tok _,⟨_,rfl⟩,h⟩
def Gl(X:Cx)(x:Str):Prop:=X.env.kindOf x=some .globalImplicit
theorem kq(I:Inv X pins σ H s)(hg:Gl X x)(hm:X.mg x=some u)(h:Q u s)
  (hd:(x==("__debug__":Str))=false):wpAny (model X.prog X.w) X.A (eval (.Name x pos) X.env) Q E s :=
 Calls.Name_function_global I.ok.kind hg (Calls.loadGlobal_global (by rw[I.ok.glob];exact I.mod.glob.keeps I.bk) hm h) hd
theorem iV(I:Inv X pins σ H s)(hg:Gl X x)(hm:X.mg x=none)(hv:bootBuiltins x=some u)(h:Q u s)
  (hn:x ≠ "__name__":=by decide) (hd:(x==("__debug__":Str))=false:=by decide):wpAny (model X.prog X.w) X.A (eval (.Name x pos) X.env) Q E s:=by
 obtain⟨mb,h1,h2⟩:=I.mod.blt;exact Calls.Name_function_global I.ok.kind hg (Calls.loadGlobal_builtin (by rw[I.ok.glob];exact I.mod.glob.keeps I.bk) hm (by rw[I.ok.blt];exact h1.keeps I.bk) ((h2 x hn).trans hv) h) hd
theorem Dp(hg:Gl X x)(hm:X.mg x=some u)(r:RelV v u)(hd:(x==("__debug__":Str))=false):PE X (.Name x pos) (tC v) :=
 λ_ _ _ H _ I h=>kq I hg hm ⟨v,H,I,r,h⟩ hd
theorem Dq(hg:Gl X x)(hm:X.mg x=none)(hv:bootBuiltins x=some u)(r:RelV v u)(hn:x ≠ "__name__")(hd:(x==("__debug__":Str))=false):PE X (.Name x pos) (tC v) :=
 λ_ _ _ H _ I h=>iV I hg hm hv ⟨v,H,I,r,h⟩ hn hd
variable {a b:Expr} {ta tb:TE} {pos:Pos}
variable {tA O3:TT} {rest:List Expr}
def Px(t u:TT):TT:=λσ H Q=>t σ H λc H1=>if c=true then u σ H1 Q else Q false H1
def SS(t u:TT):TT:=λσ H Q=>t σ H λc H1=>if c=true then Q true H1 else u σ H1 Q
def Py(t:TT):TT:=λσ H Q=>t σ H λc H1=>Q (!c) H1
theorem Dr(ha:PT X a tA):PW X (.BoolOp .And [a] pos) tA:=by
 intro wh pins s σ H Q I h;refine isTrue_and (cE (ha pins s σ H Q I h) λc s1 e=>?_);cases c with
 |true=>exact isTrue_and_nil e
 |false=>exact e
theorem GX(ha:PT X a tA):PW X (.BoolOp .Or [a] pos) tA:=by
 intro wh pins s σ H Q I h;refine isTrue_or (cE (ha pins s σ H Q I h) λc s1 e=>?_);cases c with
 |false=>exact isTrue_or_nil e
 |true=>exact e
theorem GY(ha:PT X a tA)(hb:PW X (.BoolOp .And (b::rest) pos) O3):PW X (.BoolOp .And (a::b::rest) pos) (Px tA O3):=by
 intro wh pins s σ H Q I h;refine isTrue_and (cE (ha pins s σ H _ I h) λc s1 aK=>?_);obtain⟨H1,I1,q1⟩:=aK;cases c with
 |true=>exact hb wh pins s1 σ H1 Q I1 q1
 |false=>exact⟨H1,I1,q1⟩
theorem LI(ha:PT X a tA)(hb:PW X (.BoolOp .Or (b::rest) pos) O3):PW X (.BoolOp .Or (a::b::rest) pos) (SS tA O3):=by
 intro wh pins s σ H Q I h;refine isTrue_or (cE (ha pins s σ H _ I h) λc s1 aK=>?_);obtain⟨H1,I1,q1⟩:=aK;cases c with
 |true=>exact⟨H1,I1,q1⟩
 |false=>exact hb wh pins s1 σ H1 Q I1 q1
theorem GZ(ha:PT X a tA):PT X (.UnaryOp .Not a pos) (Py tA):=by
 intro pins s σ H Q I h;exact isTrue_not (ha pins s σ H (λc H1=>Q (!c) H1) I h)
def LJ(ta tb:TE):TE:=λσ H Q=>ta σ H λx H1=>∃c,x=.bl c/\if c=true then tb σ H1 Q else Q (.bl false) H1
def Pz(ta tb:TE):TE:=λσ H Q=>ta σ H λx H1=>∃c,x=.bl c/\if c=true then Q (.bl true) H1 else tb σ H1 Q
def LK(ta:TE):TE:=λσ H Q=>ta σ H λx H1=>∃c,x=.bl c/\Q (.bl (!c)) H1
theorem z9{op}(h:PE X a t):PE X (.BoolOp op [a] pos) t:=λpins s σ H Q I hw=>BoolOp_one (h pins s σ H Q I hw)
theorem Hf(ha:PE X a ta)(hb:PE X (.BoolOp .And (b::rest) pos) tb):PE X (.BoolOp .And (a::b::rest) pos) (LJ ta tb):=by
 intro pins s σ H Q I h;refine BoolOp_and (cE (ha pins s σ H _ I h) λv s1 aK=>?_);obtain⟨x,H1,I1,r1,q1⟩:=aK;obtain⟨c,rfl,q1⟩:=q1;cases r1;refine V8 ?_;cases c with
 |true=>exact hb pins s1 σ H1 Q I1 q1
 |false=>exact⟨.bl false,H1,I1,rfl,q1⟩
theorem LL(ha:PE X a ta)(hb:PE X (.BoolOp .Or (b::rest) pos) tb):PE X (.BoolOp .Or (a::b::rest) pos) (Pz ta tb):=by
 intro pins s σ H Q I h;refine BoolOp_or (cE (ha pins s σ H _ I h) λv s1 aK=>?_);obtain⟨x,H1,I1,r1,q1⟩:=aK;obtain⟨c,rfl,q1⟩:=q1;cases r1;refine V8 ?_;cases c with
 |false=>exact hb pins s1 σ H1 Q I1 q1
 |true=>exact⟨.bl true,H1,I1,rfl,q1⟩
theorem Hg(ha:PE X a ta):PE X (.UnaryOp .Not a pos) (LK ta):=by
 intro pins s σ H Q I h;refine UnaryOp_ (cE (ha pins s σ H _ I h) λv s1 aK=>?_);obtain⟨x,H1,I1,r1,q1⟩:=aK;obtain⟨c,rfl,q1⟩:=q1;cases r1;exact not_of (V8 ⟨.bl (!c),H1,I1,rfl,q1⟩)
end
def fN(K:Frag)(H:Hp)(a:Addr)(xs:List V):Prop :=
 Rd H a (.lst xs) \/
  ∃(o:Obj) (its:Array Value) (n:Nat),K.lookup a=some o/\o.cls=.type "list" /\ o.dict=none/\o.data=.seq its n/\its.size<=sizeLine/\Vals xs its.toList
def iA(K:Frag)(H:Hp)(a:Addr)(xs:List V):Prop :=
 Rd H a (.tup xs) \/
  ∃(o:Obj) (its:Array Value) (n:Nat),K.lookup a=some o/\o.cls=.type "tuple" /\ o.data=.seq its n/\its.size<=sizeLine/\Vals xs its.toList
def PB:Value->Option V
 |.none=>some .non
 |.bool b=>some (.bl b)
 |.int i _=>some (.int i)
 |.str x _=>some (.str x)
 |.bytes b _=>some (.byt b)
 |.float b _=>some (.flt b)
 |.ref a=>some (.ref a)
 |.type n=>some (.ty n)
 |_=>none
theorem RelV.abs(r:RelV x u):PB u=some x:=by
 cases x with
 |non=>cases r;rfl
 |bl _=>cases r;rfl
 |int _=>obtain⟨t,rfl⟩:=r;rfl
 |str _=>obtain⟨t,rfl⟩:=r;rfl
 |byt _=>obtain⟨t,rfl⟩:=r;rfl
 |flt _=>obtain⟨t,rfl⟩:=r;rfl
 |ref _=>cases r;rfl
 |ty _=>cases r;rfl
theorem RelV.inj(r:RelV x u)(q:RelV y u):x=y:=VJ (r.abs.symm.trans q.abs)
theorem Vals.inj:∀{xs ys:List V} {us:List Value},Vals xs us->Vals ys us->xs=ys
 |_,_,_,.nil,.nil=>rfl
 |_,_,_,.cons r t,.cons r' t'=>by rw[r.inj r',Vals.inj t t']
section
variable {X:Cx} {pins:List (Addr×Obj)} {σ:St} {H:Hp} {s:Shared} {a:Addr} {xs ys:List V}
theorem iA.of{K:Frag}(h:H a=some (.tup xs)):iA K H a xs:=.inl (.inl h)
theorem Inv.list(I:Inv X pins σ H s)(h:fN X.K H a xs):∃its:List Value,Vals xs its/\PlainL s.heap a its.toArray/\xs.length<=sizeLine:=by
 rcases h with h|⟨o,its,n,hk,hc,hd,hs,hz,r⟩
 ·obtain⟨z,its,n,r,e⟩:=h.ok I.hok;exact⟨its,r,⟨_,n,e,rfl,rfl,rfl⟩,z⟩
 ·refine⟨its.toList,r,⟨o,n,I.qT a o hk,hc,hd,by simpa using hs⟩,?_⟩;have e:=r.length;simp only[Array.length_toList]at e;omega
theorem Inv.tuple(I:Inv X pins σ H s)(h:iA X.K H a xs):∃its:List Value,Vals xs its/\IsTup s.heap a its.toArray/\xs.length<=sizeLine:=by
 rcases h with h|⟨o,its,n,hk,hc,hs,hz,r⟩
 ·obtain⟨z,its,r,p⟩:=h.ok I.hok;exact⟨its,r,p,z⟩
 ·refine⟨its.toList,r,⟨o,I.qT a o hk,hc,n,by simpa using hs⟩,?_⟩;have e:=r.length;simp only[Array.length_toList]at e;omega
theorem Inv.sS(I:Inv X pins σ H s)(h:fN X.K H a xs)(h':fN X.K H a ys):xs=ys:=by
 obtain⟨its,r,⟨o,n,e,_,_,d⟩,_⟩:=I.list h;obtain⟨its',r',⟨o',n',e',_,_,d'⟩,_⟩:=I.list h';rw[e]at e';cases e';rw[d]at d';injection d' with d1 _
 have:its=its':=by simpa using Wc toList d1
 subst this;exact r.inj r'
theorem Inv.yC(I:Inv X pins σ H s)(h:iA X.K H a xs)(h':iA X.K H a ys):xs=ys:=by
 obtain⟨its,r,⟨o,e,_,n,d⟩,_⟩:=I.tuple h;obtain⟨its',r',⟨o',e',_,n',d'⟩,_⟩:=I.tuple h';rw[e]at e';cases e';rw[d]at d';injection d' with d1 _
 have:its=its':=by simpa using Wc toList d1
 subst this;exact r.inj r'
end
abbrev Cx.o6(X:Cx)(E:Value->Shared->Prop):Cx:={ X with xe:=E }
abbrev Cx.LM(X:Cx):Cx:=X.o6 λ_ _=>False
theorem Cx.Ok.o6{X:Cx}(ok:X.Ok)(E:Value->Shared->Prop):(X.o6 E).Ok :=
 ⟨ok.mod,ok.kind,ok.glob,ok.blt,ok.above,ok.inj,ok.has,ok.LA,ok.hd,ok.frames,ok.stk,ok.Pp,ok.bs,ok.FU,ok.mH,ok.z6,ok.mJ,ok.GS⟩
theorem Cx.Ok.iW{X:Cx}{E:Value->Shared->Prop}(ok:(X.o6 E).Ok):X.Ok :=
 ⟨ok.mod,ok.kind,ok.glob,ok.blt,ok.above,ok.inj,ok.has,ok.LA,ok.hd,ok.frames,ok.stk,ok.Pp,ok.bs,ok.FU,ok.mH,ok.z6,ok.mJ,ok.GS⟩
section
variable {X:Cx} {pins:List (Addr×Obj)} {σ:St} {H:Hp} {s:Shared} {E:Value->Shared->Prop}
theorem Inv.o6(I:Inv X pins σ H s)(E:Value->Shared->Prop):Inv (X.o6 E) pins σ H s:=⟨I.ok.o6 E,I.os,I.bare,I.base,I.loc,I.cell,I.free,I.iQ,I.pin,I.hok,I.len⟩
theorem Inv.iW(I:Inv (X.o6 E) pins σ H s):Inv X pins σ H s:=⟨I.ok.iW,I.os,I.bare,I.base,I.loc,I.cell,I.free,I.iQ,I.pin,I.hok,I.len⟩
theorem SP.iW(h:SP (X.o6 E) pins D f s'):SP X pins D f s':=by
 cases f with
 |next=>obtain⟨σ',H',I,q⟩:=h;exact⟨σ',H',I.iW,q⟩
 |brk=>obtain⟨σ',H',I,q⟩:=h;exact⟨σ',H',I.iW,q⟩
 |cont=>obtain⟨σ',H',I,q⟩:=h;exact⟨σ',H',I.iW,q⟩
 |ret u=>obtain⟨v,σ',H',I,r,q⟩:=h;exact⟨v,σ',H',I.iW,r,q⟩
theorem ve.LM{st:List Stmt}{t:TS}(h:ve X.LM st t):ve X st t:=λpins s σ H D I hw=>
 Wt (h pins s σ H D (I.o6 _) hw) (λ_ _ q=>q.iW) λ_ _ z=>False.elim z
end
section
variable {X:Cx} {st:Stmt} {rest:List Stmt} {t u:TS} {e:Expr} {te:TE} {pos:Pos}
def Aa:TS:=λD σ H=>D.nx σ H
def PC(t u:TS):TS:=λD σ H=>t { D with nx:=u D } σ H
theorem Ds:ve X [] Aa:=λ_ _ σ H _ I h=>wpAny_execs_nil ⟨σ,H,I,h⟩
theorem Ab(h1:PS X st t)(h2:ve X rest u):ve X (st::rest) (PC t u):=by
 intro pins s σ H D I h;refine wpAny_execs_cons (cE (h1 pins s σ H { D with nx:=u D } I h) λf s1 q=>?_);cases f with
 |next=>obtain⟨σ',H',I',q⟩:=q;exact h2 pins s1 σ' H' D I' q
 |ret v=>exact q
 |brk=>exact q
 |cont=>exact q
def Hh:TS:=λD σ H=>D.bk σ H
def LN:TS:=λD σ H=>D.ct σ H
theorem Dt:PS X (.Pass pos) Aa:=λ_ _ σ H _ I h=>wpAny_Pass ⟨σ,H,I,h⟩
theorem Ac:PS X (.Break pos) Hh:=λ_ _ σ H _ I h=>wpAny_Break ⟨σ,H,I,h⟩
theorem sU:PS X (.Continue pos) LN:=λ_ _ σ H _ I h=>wpAny_Continue ⟨σ,H,I,h⟩
theorem Inv.quiet(I:Inv X pins σ H s):interactive X.env=false:=by simp[interactive,I.ok.kind]
theorem Hi{x j pos pos'}:PS X (.Expr (.Constant (.str x) j pos) pos') Aa:=λ_ s σ H _ I h=>wpAny_Expr (Calls.Constant_str (show SP X _ _ .next { s with toks:=s.toks+1 } from⟨σ,H,I.tok _,h⟩)) I.quiet
def LO(te:TE):TS:=λD σ H=>te σ H λ_ H1=>D.nx σ H1
theorem Du(he:PE X e te)(hs:swapsWith e none pos.line X.env=pure false):PS X (.Expr e pos) (LO te):=by
 intro pins s σ H D I h;exact wpAny_Expr_any (cE (he pins s σ H _ I h) λv s1 ⟨x,H1,I1,r1,q1⟩=>⟨σ,H1,I1,q1⟩) I.quiet hs
def PD(te:TE):TS:=λD σ H=>te σ H D.rt
theorem Hj(he:PE X e te):PS X (.Return (some e) pos) (PD te):=by
 intro pins s σ H D I h;exact wpAny_Return_some (cE (he pins s σ H _ I h) λv s1 ⟨x,H1,I1,r1,q1⟩=>⟨x,σ,H1,I1,r1,q1⟩)
def LP:TS:=λD _ H=>D.rt .non H
theorem Dv:PS X (.Return none pos) LP:=λ_ _ σ H _ I h=>wpAny_Return_none ⟨.non,σ,H,I,rfl,h⟩
def PF(c:TT)(t u:TS):TS:=λD σ H=>c σ H λb H1=>if b=true then t D σ H1 else u D σ H1
theorem LQ(hc:PT X c tc)(ha:ve X a t)(hb:ve X b u):PS X (.If c a b pos) (PF tc t u):=by
 intro pins s σ H D I h;refine wpAny_If (cE (hc pins s σ H _ I h) λd s1 aK=>?_);obtain⟨H1,I1,q1⟩:=aK;cases d with
 |true=>exact ha pins s1 σ H1 D I1 q1
 |false=>exact hb pins s1 σ H1 D I1 q1
def Hl:TS:=λ_ _ _=>False
theorem m8:PS X st Hl:=λ_ _ _ _ _ _ h=>h.elim
end
abbrev TG:=V->St->Hp->(St->Hp->Prop)->Prop
abbrev Lj:=List V->St->Hp->(St->Hp->Prop)->Prop
def PG(X:Cx)(target:Expr)(t:TG):Prop :=
 ∀(pins:List (Addr×Obj)) (s:Shared) (σ:St) (H:Hp) (v:V) (u:Value) (Q:St->Hp->Prop),Inv X pins σ H s->RelV v u->t v σ H Q ->
  wpAny (model X.prog X.w) X.A (assign target X.env u) (λ_ s'=>∃σ' H',Inv X pins σ' H' s'/\Q σ' H') X.xe s
def Lk(X:Cx)(ts:List Expr)(t:Lj):Prop :=
 ∀(pins:List (Addr×Obj)) (s:Shared) (σ:St) (H:Hp) (vs:List V) (us:List Value) (Q:St->Hp->Prop),Inv X pins σ H s->Vals vs us->t vs σ H Q ->
  wpAny (model X.prog X.w) X.A (assignInOrder ((assignEach ts X.env).map (·.2)) us) (λ_ s'=>∃σ' H',Inv X pins σ' H' s'/\Q σ' H') X.xe s
abbrev Ho:=V->V->V->Hp->(Hp->Prop)->Prop
def Hq(X:Cx)(t:Ho):Prop :=
 ∀(pins:List (Addr×Obj)) (s:Shared) (σ:St) (H:Hp) (o i v:V) (ov iv u:Value) (Q:Hp->Prop),Inv X pins σ H s->RelV o ov->RelV i iv->RelV v u->t o i v H Q ->
  wpAny (model X.prog X.w) X.A (setItem ov iv u) (λ_ s'=>∃H',Inv X pins σ H' s'/\Q H') X.xe s
section
variable {X:Cx} {pos:Pos}
def pO(i:Nat):TG:=λv σ H Q=>Q (σ.set i (some v)) H
theorem mW{i:Nat}(hN:X.N.Nodup)(hi:X.N[i]?=some x)(hx:Loc X.env.scope x)(hf:X.fn x=true\/X.env.scope.names.lookup x=some .local):PG X (.Name x pos) (pO i):=by
 intro pins s σ H v u Q I r h;exact wpAny_assign_Name (sQ I hN hi hx r (λs' I'=>⟨_,H,I',h⟩) hf)
def LR:Lj:=λvs σ H Q=>vs=[]/\Q σ H
def FW(t:TG)(u:Lj):Lj:=λvs σ H Q=>∃v r,vs=v::r/\t v σ H λσ' H'=>u r σ' H' Q
theorem wR:Lk X [] LR:=by
 intro pins s σ H vs us Q I r h;obtain⟨e,h⟩:=h;subst e;cases r;exact assignInOrder_nil ⟨σ,H,I,h⟩
theorem sV(h1:PG X e t)(h2:Lk X es u)
  (hs:(assignEach (e::es) X.env).map (·.2)=assign e X.env::(assignEach es X.env).map (·.2):=by rfl):Lk X (e::es) (FW t u):=by
 intro pins s σ H vs us Q I r h;obtain⟨v,vr,e1,h⟩:=h;subst e1;cases r with
 |cons r rr=>rw[hs];refine assignInOrder_cons (cE (h1 pins s σ H _ _ _ I r h) λ_ s1 aK=>?_);obtain⟨σ1,H1,I1,q1⟩:=aK;exact h2 pins s1 σ1 H1 _ _ Q I1 rr q1
def LS(K:Frag)(n:Nat)(t:Lj):TG:=λv σ H Q=>∃a xs,v=.ref a/\iA K H a xs/\xs.length=n/\t xs σ H Q
theorem Ad{k:Nat}{n:Nat}(hc:X.calm=true)(h:Lk X es t)
  (hn:(assignEach es X.env).length=n) (hst:(assignEach es X.env).findIdx? (·.1)=none):PG X (.Tuple es k pos) (LS X.K n t):=by
 intro pins s σ H v u Q I r hw;obtain⟨a,xs,e1,hq,hl,hw⟩:=hw;subst e1;cases r;obtain⟨its,rv,ht,hz⟩:=I.tuple hq;refine assign_Tuple_tuple (I.ok.hd hc) ht (by simp[hn,<-hl,rv.length]) hst λh' hx=>?_;have I1:Inv X pins σ H { s with heap:=h' }:=I.kept (t':=s.toks) λb o e=>hx b o (VE (Vy e)) e;exact h pins _ σ H xs _ Q I1 (by simpa using rv) hw
def LU(to ti:TE)(t:Ho):TG:=λv σ H Q=>to σ H λo H1=>ti σ H1 λi H2=>t o i v H2 λH3=>Q σ H3
theorem Hr(ho:PE X o to)(hi:PE X i ti)(hs:Hq X t)
  (ha:∀v,assign (.Subscript o i pos) X.env v=(do
   let ov <-holding [v] (eval o X.env)
   let iv <-holding [v,ov] (eval i X.env)
   standAt pos
   holding [v,ov,iv] (setItem ov iv v)
   release [v,ov,iv] [])):PG X (.Subscript o i pos) (LU to ti t):=by
 intro pins s σ H v u Q I r h;rw[ha];refine Vm (Wv (cE (ho pins s σ H _ I h) λov s1 aK=>?_));obtain⟨x,H1,I1,r1,q1⟩:=aK;refine Vm (Wv (cE (hi pins s1 σ H1 _ I1 q1) λiv s2 aK=>?_));obtain⟨y,H2,I2,r2,q2⟩:=aK;refine Vm (wpAny_standAt (Vm (Wv (cE (hs pins s2 σ H2 x y v ov iv u _ I2 r1 r2 r q2) λ_ s3 aK=>?_))));obtain⟨H3,I3,q3⟩:=aK;exact wpAny_release ⟨σ,H3,I3,q3⟩
def Dw(te:TE)(g:TG):TS:=λD σ H=>te σ H λx H1=>g x σ H1 D.nx
theorem Ae(he:PE X e te)(hg:PG X tg g)(hs:swapsWithSole [tg] e pos.line X.env=pure false)(hw:swappedStores [tg] e X.env=pure none)
  (h1:(assignEach [tg] X.env).map (·.2)=[assign tg X.env]):PS X (.Assign [tg] e pos) (Dw te g):=by
 intro pins s σ H D I h;refine wpAny_Assign_stores (cE (he pins s σ H _ I h) λv s1 ⟨x,H1,I1,r1,q1⟩=>?_) hs hw;rw[h1];exact cE (hg pins s1 σ H1 x v _ I1 r1 q1) λ_ s2 q=>q
theorem Af{i:Nat}(hN:X.N.Nodup)(hi:X.N[i]?=some x)(hx:Loc X.env.scope x)(he:PE X e te)(hs:swapsWith e (some (.Name x pos')) pos.line X.env=pure false)(hf:X.fn x=true\/X.env.scope.names.lookup x=some .local) :
  PS X (.Assign [.Name x pos'] e pos) (Dw te (pO i)):=by
 intro pins s σ H D I h;refine wpAny_Assign_Name (cE (he pins s σ H _ I h) λv s1 ⟨y,H1,I1,r1,q1⟩=>?_) hs;exact sQ I1 hN hi hx r1 (λs2 I2=>⟨_,H1,I2,q1⟩) hf
end
structure It where
 go:Nat->Hp->Prop
 vc:Nat->Hp->V->Hp->Prop
 stop:Nat->Hp->Prop
def mK(X:Cx)(pins:List (Addr×Obj))(H:Hp)(b:Addr):Prop :=
 H b=none/\b≠X.env.locals/\b∉X.fs/\(b∈X.ex\/X.s₀.heap.objs.size<=b)/\(∀x c,X.env.cells.lookup x=some c->c≠b)/\∀p∈X.pn++pins,p.1≠b
theorem Inv.Ag(I:Inv X pins σ H s)(hb:s.heap.objs.size<=b)(hn:H' b=none):mK X pins H' b:=by
 refine⟨hn,W4 (VA I.lt hb),I.Pu hb,.inr (VX I.sz hb),λx c e z=>?_,λp hp z=>?_⟩
 ·obtain⟨v,q⟩:=I.cell x c e;exact absurd (VA q.lt (by rw[z];exact hb)) (Wl _)
 ·exact absurd (VA (Vy (I.pin p hp).1) (by rw[z];exact hb)) (Wl _)
structure Turn (P:Program) (w:World) (K:Frag) (tg:Expr) (J:It) (fp:List Addr) (it:Addr) (tn:Nat->Heap->Prop):Prop where
 mem:it∈fp
 obj:∀i h,tn i h->∀b∈fp,∃o,h.get? b=some o/\∀v,o.data≠.cell v
 keep:∀i h h',tn i h->(∀b∈fp,∀o,h.get? b=some o->h'.get? b=some o)->tn i h'
 item:∀(X:Cx),X.prog=P->X.w=w->X.K=K->X.calm=true->∀(i:Nat) (pins:List (Addr×Obj)) (s:Shared) (σ:St) (H:Hp) (E:Value->Shared->Prop),Inv X pins σ H s->(∀b∈fp,mK X pins H b)->tn i s.heap->J.go i H ->
  wpAny (model P w) X.A (pyNext (.ref it)) (λr s1=>∃u,r=some u /\
   wpAny (model P w) X.A (letOwnedTupleGo tg (.ref it) u) (λ_ s2=>∃x H',Inv X pins σ H' s2/\RelV x u/\J.vc i H x H'/\tn (i+1) s2.heap/\∀b∈fp,H' b=none) E s1) E s
 done:∀(X:Cx),X.prog=P->X.w=w->X.K=K->X.calm=true->∀(i:Nat) (pins:List (Addr×Obj)) (s:Shared) (σ:St) (H:Hp) (E:Value->Shared->Prop),Inv X pins σ H s->(∀b∈fp,mK X pins H b)->tn i s.heap->J.stop i H ->
  wpAny (model P w) X.A (pyNext (.ref it)) (λr s1=>r=none/\Inv X pins σ H s1) E s
 self:∀(A:Around) (i:Nat) (s:Shared) (Q:Value->Shared->Prop) (E:Value->Shared->Prop),tn i s.heap->Q (.ref it) s->wpAny (model P w) A (pyIter (.ref it)) Q E s
abbrev TI:=St->Hp->(It->Hp->Prop)->Prop
def Rp(X:Cx)(pins:List (Addr×Obj))(σ:St)(tg:Expr)(R:It->Hp->Prop)(itv:Value)(s2:Shared):Prop :=
 ∃(it:Addr) (fp:List Addr) (tn:Nat->Heap->Prop) (J:It) (H':Hp),itv=.ref it/\Inv X pins σ H' s2/\Turn X.prog X.w X.K tg J fp it tn/\tn 0 s2.heap/\(∀b∈fp,mK X pins H' b)/\R J H'
def PI(X:Cx)(tg iter:Expr)(wi:TI):Prop :=
 ∀(pins:List (Addr×Obj)) (s:Shared) (σ:St) (H:Hp) (R:It->Hp->Prop),Inv X pins σ H s->wi σ H R ->
  wpAny (model X.prog X.w) X.A (eval iter X.env) (λv s1=>wpAny (model X.prog X.w) X.A (pyIter v) (Rp X pins σ tg R) X.xe s1) X.xe s
theorem wU{n:String}(ho:s.heap.get? it=some o)(hc:o.cls=.type n)(hd:o.data=.fields vs)
  (hn:["enumerate","zip","dict_itemiterator","dict_reverseitemiterator","odict_iterator","itertools.zip_longest","itertools.pairwise"].contains n=false) (hQ:Q () s):wpAny M A (letOwnedTupleGo tg (.ref it) u) Q E s:=by
 unfold letOwnedTupleGo;cases tg<;>first
  |exact Vt hQ
  | (cases u<;>first
    |exact Vt hQ
    | (refine Vm (wpAny_load ho ?_)
       rw[hc,hd];show wpAny M A (if (["enumerate","zip","dict_itemiterator","dict_reverseitemiterator","odict_iterator","itertools.zip_longest","itertools.pairwise"].contains n&&vs[0]?==some (rawInt _))=true then _ else _) Q E s;rw[Vw (by intro h;rw[hn,Bool.false_and]at h;cases h)];exact Vt hQ))
def O4(K:Frag)(a:Addr):It :=
 ⟨λi H=>∃xs x,fN K H a xs/\xs[i]?=some x,λi H x H'=>H'=H/\∀xs,fN K H a xs->xs[i]?=some x,λi H=>∃xs,fN K H a xs/\xs.length<=i⟩
def PJ(K:Frag)(a:Addr):It :=
 ⟨λi H=>∃xs x,iA K H a xs/\xs[i]?=some x,λi H x H'=>H'=H/\∀xs,iA K H a xs->xs[i]?=some x,λi H=>∃xs,iA K H a xs/\xs.length<=i⟩
def LV(lo:Int)(n:Nat):It:=⟨λi _=>i<n,λi H x H'=>H'=H/\x=.int (lo+i),λi _=>n<=i⟩
theorem yD{P:Program}{w:World}{K:Frag}{tg:Expr}(a it:Addr):Turn P w K tg (O4 K a) [it] it (λi h=>h.IsListIter it a i) where
 mem:=by simp
 obj:=λi h st b hb=>by
  have e:b=it:=by simpa using hb
  subst e;obtain⟨o,e,c,d⟩:=st;exact⟨o,e,λv z=>by rw[d]at z;cases z⟩
 keep:=λi h h' st k=>st.at λo e=>k it (by simp) o e
 item:=by intro X hP hw hK hc i pins s σ H E I hf st hg;subst hP hw hK;obtain⟨xs,x,hq,hx⟩:=hg;obtain⟨its,rv,p,hz⟩:=I.list hq;obtain⟨u,hu,ru⟩:=rv.get hx;obtain⟨f0,f1,f2,f3,f4,f5⟩:=hf it (by simp);refine wpAny_pyNext_list_item st p.isList (x:=u) (by simpa using hu) λh' st' sb=>?_;have I1:Inv X pins σ H { s with heap:=h' }:=I.turned (t':=s.toks) (λb o hb e=>(sb.2 b hb).trans e) f0 f1 f3 f4 f5;obtain⟨o,e,c,d⟩:=id st';exact⟨u,rfl,wU (s:={ s with heap:=h' }) e c d (by decide) ⟨x,H,I1,ru,⟨rfl,λys hy=>by rw[I.sS hy hq];exact hx⟩,st',λb hb=>(hf b hb).1⟩⟩
 done:=by intro X hP hw hK hc i pins s σ H E I hf st hg;subst hP hw hK;obtain⟨xs,hq,hx⟩:=hg;obtain⟨its,rv,p,hz⟩:=I.list hq;obtain⟨f0,f1,f2,f3,f4,f5⟩:=hf it (by simp);have hl:=rv.length;exact wpAny_pyNext_list_end (I.ok.hd hc) st p.isList (by simp;omega) λh' eb=>⟨rfl,I.turned (t':=s.toks) (λb o hb e=>eb b o hb e) f0 f1 f3 f4 f5⟩
 self:=λ_ _ _ _ _ st h=>wpAny_pyIter_listiter st h
theorem vf{P:Program}{w:World}{K:Frag}{tg:Expr}(a it:Addr):Turn P w K tg (PJ K a) [it] it (λi h=>h.IsTupleIter it a i) where
 mem:=by simp
 obj:=λi h st b hb=>by
  have e:b=it:=by simpa using hb
  subst e;obtain⟨o,e,c,d⟩:=st;exact⟨o,e,λv z=>by rw[d]at z;cases z⟩
 keep:=λi h h' st k=>st.at λo e=>k it (by simp) o e
 item:=by intro X hP hw hK hc i pins s σ H E I hf st hg;subst hP hw hK;obtain⟨xs,x,hq,hx⟩:=hg;obtain⟨its,rv,p,hz⟩:=I.tuple hq;obtain⟨u,hu,ru⟩:=rv.get hx;obtain⟨f0,f1,f2,f3,f4,f5⟩:=hf it (by simp);refine wpAny_pyNext_tuple_item st (show s.heap.IsTuple a its.toArray from p) (x:=u) (by simpa using hu) λh' st' sb=>?_;have I1:Inv X pins σ H { s with heap:=h' }:=I.turned (t':=s.toks) (λb o hb e=>(sb.2 b hb).trans e) f0 f1 f3 f4 f5;obtain⟨o,e,c,d⟩:=id st';exact⟨u,rfl,wU (s:={ s with heap:=h' }) e c d (by decide) ⟨x,H,I1,ru,⟨rfl,λys hy=>by rw[I.yC hy hq];exact hx⟩,st',λb hb=>(hf b hb).1⟩⟩
 done:=by intro X hP hw hK hc i pins s σ H E I hf st hg;subst hP hw hK;obtain⟨xs,hq,hx⟩:=hg;obtain⟨its,rv,p,hz⟩:=I.tuple hq;obtain⟨f0,f1,f2,f3,f4,f5⟩:=hf it (by simp);have hl:=rv.length;exact wpAny_pyNext_tuple_end (I.ok.hd hc) st (show s.heap.IsTuple a its.toArray from p) (by simp;omega) λh' eb=>⟨rfl,I.turned (t':=s.toks) (λb o hb e=>eb b o hb e) f0 f1 f3 f4 f5⟩
 self:=λ_ _ _ _ _ st h=>wpAny_pyIter_tupleiter st h
theorem vg{P:Program}{w:World}{K:Frag}{tg:Expr}(it:Addr)(lo:Int)(n:Nat):Turn P w K tg (LV lo n) [it] it (λi h=>IsRangeIter h it (lo+(i:Nat)*1) ((n:Int)-(i:Nat)) 1) where
 mem:=by simp
 obj:=λi h st b hb=>by
  have e:b=it:=by simpa using hb
  subst e;exact⟨_,st,λv z=>by
   have z':Data.fields _=Data.cell v:=z;cases z'⟩
 keep:=λi h h' st k=>k it (by simp) _ st
 item:=by intro X hP hw hK hc i pins s σ H E I hf st hg;subst hP hw hK;obtain⟨f0,f1,f2,f3,f4,f5⟩:=hf it (by simp);have W:=Walks.range (prog:=X.prog) (w:=X.w) (I.ok.hd hc) it lo 1 n;refine W.item i s _ _ hg st λv h' tk hv st' kk=>?_;obtain⟨t,rfl⟩:=hv;have I1:Inv X pins σ H { s with heap:=h',toks:=tk }:=I.turned (λb o hb e=>kk b o (by simpa using hb) e) f0 f1 f3 f4 f5;refine⟨_,rfl,wU (s:={ s with heap:=h',toks:=tk }) (n:="range_iterator") st' rfl rfl (by decide) ⟨.int (lo+i),H,I1,⟨t,?_⟩,⟨rfl,rfl⟩,st',λb hb=>(hf b hb).1⟩⟩;rw[Int.mul_one]
 done:=by intro X hP hw hK hc i pins s σ H E I hf st hg;subst hP hw hK;obtain⟨f0,f1,f2,f3,f4,f5⟩:=hf it (by simp);exact wpAny_pyNext_range_end (I.ok.hd hc) st (by have:n<=i:=hg;omega) λh' eb=>⟨rfl,I.turned (t':=s.toks) (λb o hb e=>eb b o hb e) f0 f1 f3 f4 f5⟩
 self:=λ_ _ _ _ _ st h=>wpAny_pyIter_rangeiter st h
section
variable {X:Cx} {tg:Expr}
def LW(K:Frag)(tl:TE):TI:=λσ H R=>tl σ H λx H1=>∃a,x=.ref a/\(∃xs,fN K H1 a xs)/\R (O4 K a) H1
def PK(K:Frag)(tl:TE):TI:=λσ H R=>tl σ H λx H1=>∃a,x=.ref a/\(∃xs,iA K H1 a xs)/\R (PJ K a) H1
theorem Dy(hl:PE X l tl):PI X tg l (LW X.K tl):=by
 intro pins s σ H R I h;refine cE (hl pins s σ H _ I h) λv s1 aK=>?_;obtain⟨x,H1,I1,r1,q1⟩:=aK;obtain⟨a,e,⟨xs,hq⟩,q⟩:=q1;subst e;cases r1;obtain⟨its,rv,p,hz⟩:=I1.list hq;refine WY p.isList ?_;refine⟨s1.heap.objs.size,[s1.heap.objs.size],_,_,H1,rfl,I1.kept (t':=s1.toks) λb o e=>Vo _ e,yD a _,⟨_,VB _ rfl,rfl,rfl⟩,λb hb=>?_,q⟩;have e:b=s1.heap.objs.size:=by simpa using hb
 subst e;exact I1.Ag (Vu _) (I1.hok.fresh (Vu _))
theorem Ht(hl:PE X l tl):PI X tg l (PK X.K tl):=by
 intro pins s σ H R I h;refine cE (hl pins s σ H _ I h) λv s1 aK=>?_;obtain⟨x,H1,I1,r1,q1⟩:=aK;obtain⟨a,e,⟨xs,hq⟩,q⟩:=q1;subst e;cases r1;obtain⟨its,rv,p,hz⟩:=I1.tuple hq;refine wpAny_pyIter_tuple (show s1.heap.IsTuple a its.toArray from p) ?_;refine⟨s1.heap.objs.size,[s1.heap.objs.size],_,_,H1,rfl,I1.kept (t':=s1.toks) λb o e=>Vo _ e,vf a _,⟨_,VB _ rfl,rfl,rfl⟩,λb hb=>?_,q⟩;have e:b=s1.heap.objs.size:=by simpa using hb
 subst e;exact I1.Ag (Vu _) (I1.hok.fresh (Vu _))
theorem sW{lo hi:Int}{tk:Nat}(I:Inv X pins σ H s)(h1:-(2 ^ 62)<=lo)(h2:lo<2 ^ 62)(h3:-(2 ^ 62)<=hi)(h4:hi<2 ^ 62)
  (q:R (LV lo (hi-lo).toNat) H):wpAny (model X.prog X.w) X.A (pyIter (.ref s.heap.objs.size)) (Rp X pins σ tg R) E { s with heap:=s.heap.push { cls:=.type "range",data:=.fields [.int lo t,.int hi u,.int 1 v].toArray },toks:=tk }:=by
 refine wpAny_pyIter_range (IsRange.new ..) (small_one h1 h2 h3 h4) ?_;have I1:Inv X pins σ H { s with heap:=s.heap.push { cls:=.type "range",data:=.fields [.int lo t,.int hi u,.int 1 v].toArray },toks:=tk }:=I.kept λb o e=>Vo _ e;refine⟨(s.heap.push { cls:=.type "range",data:=.fields [.int lo t,.int hi u,.int 1 v].toArray }).objs.size,[(s.heap.push { cls:=.type "range",data:=.fields [.int lo t,.int hi u,.int 1 v].toArray }).objs.size],_,_,H,rfl,
  I1.kept (t':=tk) λb o e=>Vo _ e,vg _ lo (hi-lo).toNat,?_,λb hb=>?_,q⟩
 ·have e1:lo+((0:Nat):Int)*1=lo:=by simp
  have e2:(((hi-lo).toNat:Nat):Int)-((0:Nat):Int)=Builtin.Range.rangeSize lo hi 1:=by rw[rangeSize_one];split<;>omega
  show IsRangeIter _ _ (lo+((0:Nat):Int)*1) ((((hi-lo).toNat:Nat):Int)-((0:Nat):Int)) 1;rw[e1,e2];exact VB _ rfl
 ·have e:b=(s.heap.push { cls:=.type "range",data:=.fields [.int lo t,.int hi u,.int 1 v].toArray }).objs.size:=by simpa using hb
  subst e;exact I1.Ag (Vu _) (I1.hok.fresh (Vu _))
def LX(ta:TA):TI:=λσ H R=>ta σ H λvs H1=>∃j:Int,vs=[.int j] /\ -(2 ^ 62)<=j/\j<2 ^ 62/\R (LV 0 j.toNat) H1
def LY(ta:TA):TI:=λσ H R=>ta σ H λvs H1=>∃i j:Int,vs=[.int i,.int j]/\(-(2 ^ 62)<=i/\i<2 ^ 62 /\ -(2 ^ 62)<=j/\j<2 ^ 62)/\R (LV i (j-i).toNat) H1
theorem yE(hg:Gl X "range")(hm:X.mg "range" = none)(ha:PA X [a] ta)(hs:starEach [a] X.env=[(false,eval a X.env)]):PI X tg (.Call (.Name "range" p) [a] [] pos) (LX ta):=by
 intro pins s σ H R I h;refine Call_ (iV I hg hm boot_range (Wk (cE (ha pos pins s σ H _ I h) λus s1 aK=>?_) hs rfl));obtain⟨vs,H1,I1,r1,q1⟩:=aK;obtain⟨j,e,q1,q2,q⟩:=q1;subst e;cases r1 with
 |cons r rr=>cases rr;obtain⟨t,rfl⟩:=r;exact call_range_1 (sW I1 (by omega) (by omega) q1 q2 (by simpa using q))
theorem yF(hg:Gl X "range")(hm:X.mg "range" = none)(ha:PA X [a,b] ta)(hs:starEach [a,b] X.env=[(false,eval a X.env),(false,eval b X.env)])(hs2:starEach [b] X.env=[(false,eval b X.env)]) :
  PI X tg (.Call (.Name "range" p) [a,b] [] pos) (LY ta):=by
 intro pins s σ H R I h;refine Call_ (iV I hg hm boot_range (Wk (cE (ha pos pins s σ H _ I h) λus s1 ⟨vs,H1,I1,r1,q1⟩=>?_) (by rw[hs,hs2]) (by rw[hs2];rfl)));obtain⟨i,j,e,⟨q1,q2,q3,q4⟩,q⟩:=q1;subst e;cases r1 with
 |cons r rr=>
  cases rr with
  |cons r' rr=>cases rr;obtain⟨t,rfl⟩:=r;obtain⟨t',rfl⟩:=r';exact call_range_2 (sW I1 q1 q2 q3 q4 q)
def PM(wi:TI)(g:TG)(tb:TS):TS:=λD σ H=>wi σ H λJ H1=>∃W:Nat->Nat->St->Hp->Prop,(∃m,W 0 m σ H1)/\∀i m σ H,W i m σ H ->
 (J.stop i H/\D.nx σ H)\/(J.go i H/\∃N:St->Hp->Prop,(∀σ' H',N σ' H'->∃m',m'<m/\W (i+1) m' σ' H')/\∀x H',J.vc i H x H'->g x σ H' λσ2 H2=>tb { D with nx:=N,ct:=N,bk:=D.nx } σ2 H2)
def m9(fp:List Addr)(h:Heap):List (Addr×Obj):=fp.filterMap λb=>(h.get? b).map λo=>(b,o)
theorem iB(hb:b∈fp)(e:h.get? b=some o):(b,o)∈m9 fp h:=List.mem_filterMap.mpr ⟨b,hb,by rw[e];rfl⟩
theorem yG(hp:p∈m9 fp h):p.1∈fp/\h.get? p.1=some p.2:=by
 obtain⟨b,hb,e⟩:=List.mem_filterMap.mp hp;cases q:h.get? b with
 |none=>rw[q]at e;cases e
 |some o=>rw[q]at e;have e':(b,o)=p:=VJ e;subst e';exact⟨hb,q⟩
theorem Inv.pinned(I:Inv X pins σ H s)(hf:∀b∈fp,mK X pins H b)(ho:∀b∈fp,∃o,s.heap.get? b=some o/\∀v,o.data≠.cell v):Inv X (pins++m9 fp s.heap) σ H s :=
 I.wQ λp hp=>(Wq.mp hp).elim (λz=>I.pin p (VW _ z)) λz=>by
  obtain⟨hb,e⟩:=yG z;obtain⟨f0,f1,f2,_⟩:=hf p.1 hb;obtain⟨o,e',d⟩:=ho p.1 hb;rw[e]at e';cases e';exact⟨e,f0,f1,f2,d⟩
theorem Inv.kr(I:Inv X (pins++pl) σ H s):Inv X pins σ H s:=I.wQ λp hp=>I.pin p (VW _ (WI _ hp))
theorem Hu(hp:PassesOwn (model X.prog X.w) X.A X.env X.xe)(hc:X.calm=true)(hi:PI X tg iter wi)(hg:PG X tg g)(hb:ve X body tb)
  (hs:∀x,foldedSetIterable iter X.env x=pure x):PS X (.For tg iter body [] pos) (PM wi g tb):=by
 intro pins s σ H D I h;refine wpAny_For (cE (hi pins s σ H _ I h) λv s1 h1=>cE h1 λitv s2 h2=>?_) hs;obtain⟨it,fp,tn,J,H2,e,I2,T,st2,f2,W,⟨m0,w0⟩,turn⟩:=h2;subst e;have stat:∀{H':Hp},(∀b∈fp,H' b=none)->∀b∈fp,mK X pins H' b:=λhn b hb=>⟨hn b hb,(f2 b hb).2⟩;refine codeAny_forLoop_any (λn s'=>∃i σ' H',Inv X pins σ' H' s'/\tn i s'.heap/\(∀b∈fp,H' b=none)/\W i n σ' H') ?_ m0 ⟨0,σ,H2,I2,st2,λb hb=>(f2 b hb).1,w0⟩;rintro n s3 ⟨i,σ3,H3,I3,st3,Rq,w3⟩
 rcases turn i n σ3 H3 w3 with ⟨stop,qn⟩|⟨go,N,hN,step⟩
 ·refine Xb hp (cE (T.done X rfl rfl rfl hc i pins s3 σ3 H3 X.xe I3 (stat Rq) st3 stop) λr s4 aK=>?_);obtain⟨hr,I4⟩:=aK;subst hr;exact wpAny_execs_nil ⟨σ3,H3,I4,qn⟩
 ·refine Xb hp (cE (T.item X rfl rfl rfl hc i pins s3 σ3 H3 X.xe I3 (stat Rq) st3 go) λr s4 aK=>?_)
  obtain⟨u,hr,h4⟩:=aK;subst hr;refine Xb hp (cE h4 λ_ s5 aK=>?_);obtain⟨x,H5,I5,r5,y5,Ll,O5⟩:=aK;have SV:=I5.pinned (stat O5) (T.obj _ _ Ll);refine Xb hp (cE (hg _ s5 σ3 H5 x u _ SV r5 (step x H5 y5)) λ_ s6 aK=>?_);obtain⟨σ6,H6,I6,q6⟩:=aK;refine Xb hp (cE (hb _ s6 σ6 H6 _ I6 q6) λf s7 q7=>?_);have again:∀{σ7:St} {H7:Hp},Inv X (pins++m9 fp s5.heap) σ7 H7 s7->N σ7 H7->∃m,m<n/\∃i σ' H',Inv X pins σ' H' s7/\tn i s7.heap/\(∀b∈fp,H' b=none)/\W i m σ' H':=λ{σ7 H7} I7 n7=>by
   obtain⟨m',hm,w7⟩:=hN σ7 H7 n7;refine⟨m',hm,i+1,σ7,H7,I7.kr,T.keep _ _ _ Ll λb hb o e=>(I7.pin (b,o) (VW _ (VW _ (iB hb e)))).1,λb hb=>?_,w7⟩;obtain⟨o,e,d⟩:=T.obj _ _ Ll b hb;exact(I7.pin (b,o) (VW _ (VW _ (iB hb e)))).2.1
  cases f with
  |next=>obtain⟨σ7,H7,I7,n7⟩:=q7;exact again I7 n7
  |cont=>obtain⟨σ7,H7,I7,n7⟩:=q7;exact again I7 n7
  |brk=>obtain⟨σ7,H7,I7,q7⟩:=q7;exact⟨σ7,H7,I7.kr,q7⟩
  |ret v=>obtain⟨x7,σ7,H7,I7,r7,q7⟩:=q7;exact⟨x7,σ7,H7,I7.kr,r7,q7⟩
end
abbrev R2:=V->V->Hp->VK->Prop
def jC(X:Cx)(f:Value->Value->Sem Value)(r:R2):Prop :=
 ∀(pins:List (Addr×Obj)) (s:Shared) (σ:St) (H:Hp) (x y:V) (v u:Value) (Q:VK),Inv X pins σ H s->RelV x v->RelV y u->r x y H Q ->
  wpAny (model X.prog X.w) X.A (f v u) (EP X pins σ Q) X.xe s
def bU(X:Cx)(f:Value)(r:List V->Hp->VK->Prop):Prop :=
 ∀(pins:List (Addr×Obj)) (s:Shared) (σ:St) (H:Hp) (xs:List V) (us:List Value) (Q:VK),Inv X pins σ H s->Vals xs us->r xs H Q ->
  wpAny (model X.prog X.w) X.A (call f us) (EP X pins σ Q) X.xe s
def PN(X:Cx)(r:V->Hp->(Bool->Hp->Prop)->Prop):Prop :=
 ∀(pins:List (Addr×Obj)) (s:Shared) (σ:St) (H:Hp) (x:V) (v:Value) (Q:Bool->Hp->Prop),Inv X pins σ H s->RelV x v->r x H Q ->
  wpAny (model X.prog X.w) X.A (truthy v) (TP X pins σ Q) X.xe s
def O6(r:R2)(ta tb:TE):TE:=λσ H Q=>ta σ H λx H1=>tb σ H1 λy H2=>r x y H2 Q
def rI(C:Int->Int->Prop)(g:Int->Int->V):R2:=λx y H Q=>∃i j,x=.int i/\y=.int j/\C i j/\Q (g i j) H
def FY(g:Int->Int->V):R2:=λx y H Q=>∃i j,x=.int i/\y=.int j/\Q (g i j) H
section
variable {X:Cx} {a b c:Expr} {ta tb tc:TE} {pos:Pos}
theorem Hw(ha:PE X a ta)(hb:PE X b tb){pins:List (Addr×Obj)}{s:Shared}{σ:St}{H:Hp}{R:V->V->Hp->Prop}(I:Inv X pins σ H s)
  (h:ta σ H λx H1=>tb σ H1 λy H2=>R x y H2) {Q:Value->Shared->Prop} {f:Value->Value->Sem Value}
  (hf:∀v u s2 x y H2,Inv X pins σ H2 s2->RelV x v->RelV y u->R x y H2->wpAny (model X.prog X.w) X.A (f v u) Q X.xe s2) :
  wpAny (model X.prog X.w) X.A (eval a X.env) (λv s₁=>wpAny (model X.prog X.w) X.A (eval b X.env) (λu s₂=>wpAny (model X.prog X.w) X.A (f v u) Q X.xe s₂) X.xe s₁) X.xe s:=by
 refine cE (ha pins s σ H _ I h) λv s1 aK=>?_;obtain⟨x,H1,I1,r1,q1⟩:=aK;refine cE (hb pins s1 σ H1 _ I1 q1) λu s2 aK=>?_;obtain⟨y,H2,I2,r2,q2⟩:=aK;exact hf v u s2 x y H2 I2 r1 r2 q2
theorem LZ(ho:jC X (binaryOp op) r)(ha:PE X a ta)(hb:PE X b tb):PE X (.BinOp a op b pos) (O6 r ta tb):=by
 intro pins s σ H Q I h;exact wpAny_BinOp (Hw ha hb I h λv u s2 x y H2 I2 rx ry q=>ho pins s2 σ H2 x y v u Q I2 rx ry q)
theorem O7{f:Value->Value->Sem Value}{C:Int->Int->Prop}{g:Int->Int->Int}
  (rule:∀(i j:Int) (t u:Tok) (s:Shared) (Q:Value->Shared->Prop) (E:Value->Shared->Prop),C i j->Q (.int (g i j) s.toks) { s with toks:=s.toks+1 }->wpAny (model X.prog X.w) X.A (f (.int i t) (.int j u)) Q E s) :
  jC X f (rI C λi j=>.int (g i j)):=by
 intro pins s σ H x y v u Q I rx ry h;obtain⟨i,j,rfl,rfl,hc,q⟩:=h;obtain⟨t,rfl⟩:=rx;obtain⟨t',rfl⟩:=ry;exact rule i j t t' s _ _ hc ⟨.int (g i j),H,I.tok _,⟨_,rfl⟩,q⟩
theorem L0{f:Value->Value->Sem Value}{g:Int->Int->Int}
  (rule:∀(i j:Int) (t u:Tok) (s:Shared) (Q:Value->Shared->Prop) (E:Value->Shared->Prop),Q (.int (g i j) s.toks) { s with toks:=s.toks+1 }->wpAny (model X.prog X.w) X.A (f (.int i t) (.int j u)) Q E s) :
  jC X f (FY λi j=>.int (g i j)):=by
 intro pins s σ H x y v u Q I rx ry h;obtain⟨i,j,rfl,rfl,q⟩:=h;obtain⟨t,rfl⟩:=rx;obtain⟨t',rfl⟩:=ry;exact rule i j t t' s _ _ ⟨.int (g i j),H,I.tok _,⟨_,rfl⟩,q⟩
theorem Dz{f:Value->Value->Sem Value}{g:Int->Int->Bool}
  (rule:∀(i j:Int) (t u:Tok) (s:Shared) (Q:Value->Shared->Prop) (E:Value->Shared->Prop),Q (.bool (g i j)) s->wpAny (model X.prog X.w) X.A (f (.int i t) (.int j u)) Q E s) :
  jC X f (FY λi j=>.bl (g i j)):=by
 intro pins s σ H x y v u Q I rx ry h;obtain⟨i,j,rfl,rfl,q⟩:=h;obtain⟨t,rfl⟩:=rx;obtain⟨t',rfl⟩:=ry;exact rule i j t t' s _ _ ⟨.bl (g i j),H,I,rfl,q⟩
def PR(i j:Int):Prop:=0<=j/\j<=1000000/\i.natAbs<2 ^ 64
def Hx(i j:Int):Prop:=(-(2 ^ 64)<i/\i<2 ^ 64)\/(-(2 ^ 64)<j/\j<2 ^ 64)
theorem Hx.ok{i j:Int}(h:Hx i j):IntMulOk i j:=by
 rcases h with ⟨h1,h2⟩|⟨h1,h2⟩
 ·exact .of_left (intBits_le_64 h1 h2)
 ·exact .of_right (intBits_le_64 h1 h2)
theorem Hy:jC X (binaryOp .Add) (FY λi j=>.int (i+j)):=L0 λ_ _ _ _ _ _ _ q=>add_int q
theorem Hz:jC X (binaryOp .Sub) (FY λi j=>.int (i-j)):=L0 λ_ _ _ _ _ _ _ q=>sub_int q
theorem HD:jC X (binaryOp .Mult) (rI Hx λi j=>.int (i*j)):=O7 λ_ _ _ _ _ _ _ hc q=>mul_int q hc.ok
theorem HE:jC X (binaryOp .Mod) (rI (λ_ j=>0<j) λi j=>.int (i%j)):=O7 λi j _ _ _ _ _ hc q=>by
 have h1:(0:Int)<j:=hc;exact mod_int' (by omega) (by rw[Int.fmod_eq_emod_of_nonneg i (by omega)];exact q)
theorem HF:jC X (binaryOp .Pow) (rI PR λi j=>.int (i ^ j.toNat)):=O7 λ_ _ _ _ _ _ _ hc q=>pow_int_small hc.1 hc.2.1 hc.2.2 q
end
section
variable {X:Cx} {a b c:Expr} {ta tb tc:TE} {pos:Pos}
theorem lE{k k':Bool}(I:Inv X pins σ H s)(q:Q (.bl k) H)(e:k=k'):EP X pins σ Q (.bool k') s:=by
 subst e;exact⟨.bl k,H,I,rfl,q⟩
theorem L1:jC X (compareOp .Lt) (FY λi j=>.bl (decide (i<j))):=Dz λ_ _ _ _ _ _ _ q=>lt_int q
theorem L3:jC X (compareOp .LtE) (FY λi j=>.bl (decide (i<=j))):=Dz λ_ _ _ _ _ _ _ q=>le_int q
theorem L4:jC X (compareOp .Gt) (FY λi j=>.bl (decide (j<i))):=Dz λ_ _ _ _ _ _ _ q=>gt_int q
theorem L5:jC X (compareOp .GtE) (FY λi j=>.bl (decide (j<=i))):=Dz λ_ _ _ _ _ _ _ q=>ge_int q
theorem yH:jC X (compareOp .In) (λx y H Q=>∃i j,x=.str i/\y=.str j/\Q (.bl (!(Builtin.Str.occurrences j i 0 j.length 1).isEmpty)) H):=by
 intro pins s σ H x y v u Q I rx ry h;obtain⟨i,j,rfl,rfl,q⟩:=h;obtain⟨t,rfl⟩:=rx;obtain⟨t',rfl⟩:=ry;exact in_str (lE I q rfl)
theorem HG:jC X (compareOp .Is) (λx y H Q=>y=.non/\Q (.bl (decide (x=.non))) H):=by
 intro pins s σ H x y v u Q I rx ry h;obtain⟨rfl,q⟩:=h;cases ry;refine is_none_gen (lE I q ?_);cases x<;>first
  |(cases rx;rfl)
  |(obtain⟨t,rfl⟩:=rx;rfl)
theorem DA:jC X (compareOp .IsNot) (λx y H Q=>y=.non/\Q (.bl (!decide (x=.non))) H):=by
 intro pins s σ H x y v u Q I rx ry h;obtain⟨rfl,q⟩:=h;cases ry;refine isnot_none_gen (lE I q ?_);cases x<;>first
  |(cases rx;rfl)
  |(obtain⟨t,rfl⟩:=rx;rfl)
theorem qU:jC X (compareOp .NotIn) (λx y H Q=>∃i j,x=.str i/\y=.str j/\Q (.bl (!(!(Builtin.Str.occurrences j i 0 j.length 1).isEmpty))) H):=by
 intro pins s σ H x y v u Q I rx ry h;obtain⟨i,j,rfl,rfl,q⟩:=h;obtain⟨t,rfl⟩:=rx;obtain⟨t',rfl⟩:=ry;exact notIn_str (lE I q rfl)
theorem DC(ho:jC X (compareOp op) r)(ha:PE X a ta)(hb:PE X b tb)(hm:behindInMarks op b=false):PE X (.Compare a [op] [b] pos) (O6 r ta tb):=by
 intro pins s σ H Q I h;exact wpAny_Compare1 (Hw ha hb I h λv u s2 x y H2 I2 rx ry q=>ho pins s2 σ H2 x y v u Q I2 rx ry q) hm
def FZ(t:TE):TT:=λσ H Q=>t σ H λx H'=>∃k,x=.bl k/\Q k H'
theorem DE(ho:jC X (compareOp op) r)(ha:PE X a ta)(hb:PE X b tb)(hm:behindInMarks op b=false):PT X (.Compare a [op] [b] pos) (FZ (O6 r ta tb)):=by
 intro pins s σ H Q I h;refine wpAny_isTrue_Compare1 (cE (ha pins s σ H _ I h) λv s1 ⟨x,H1,I1,r1,q1⟩=>cE (hb pins s1 σ H1 _ I1 q1) λu s2 ⟨y,H2,I2,r2,q2⟩=>
  cE (ho pins s2 σ H2 x y v u _ I2 r1 r2 q2) λc s3 ⟨z,H3,I3,r3,k,e,q3⟩=>?_) hm
 subst e;cases r3;exact V8 ⟨H3,I3,q3⟩
def Ah(r r':R2)(ta tb tc:TE):TE:=λσ H Q=>ta σ H λx H1=>tb σ H1 λy H2=>r x y H2 λz H3=>∃k,z=.bl k /\
 (if k=true then tc σ H3 λw' H4=>r' y w' H4 Q else Q (.bl false) H3)
theorem Ai(ho:jC X (compareOp op) r)(ho':jC X (compareOp op') r')(ha:PE X a ta)(hb:PE X b tb)(hc:PE X c tc)
  (hm:lastMarks [op,op'] [b,c]=false):PE X (.Compare a [op,op'] [b,c] pos) (Ah r r' ta tb tc):=by
 intro pins s σ H Q I h;refine Compare_chain (cE (ha pins s σ H _ I h) λv s1 ⟨x,H1,I1,r1,q1⟩=>chain_link (cE (hb pins s1 σ H1 _ I1 q1) λu s2 ⟨y,H2,I2,r2,q2⟩=>
  cE (ho pins s2 σ H2 x y v u _ I2 r1 r2 q2) λd s3 ⟨z,H3,I3,r3,k,e,q3⟩=>?_)) hm
 subst e;cases r3;refine V8 ?_;cases k with
 |false=>exact ite_ff ⟨.bl false,H3,I3,rfl,q3⟩
 |true=>exact ite_tt (chain_last (cE (hc pins s3 σ H3 _ I3 q3) λw' s4 ⟨z',H4,I4,r4,q4⟩=>ho' pins s4 σ H4 y z' u w' Q I4 r2 r4 q4))
theorem Aj(ho:jC X (compareOp op) r)(ho':jC X (compareOp op') r')(ha:PE X a ta)(hb:PE X b tb)(hc:PE X c tc)
  (hm:lastMarks [op,op'] [b,c]=false):PT X (.Compare a [op,op'] [b,c] pos) (FZ (Ah r r' ta tb tc)):=by
 intro pins s σ H Q I h;refine isTrue_chain (cE (ha pins s σ H _ I h) λv s1 ⟨x,H1,I1,r1,q1⟩=>test_link (cE (hb pins s1 σ H1 _ I1 q1) λu s2 ⟨y,H2,I2,r2,q2⟩=>
  cE (ho pins s2 σ H2 x y v u _ I2 r1 r2 q2) λd s3 ⟨z,H3,I3,r3,k,e,q3⟩=>?_)) hm
 subst e;cases r3;refine V8 ?_;cases k with
 |false=>obtain⟨k',e',q'⟩:=q3;cases e';exact ite_ff ⟨H3,I3,q'⟩
 |true=>refine ite_tt (test_last (cE (hc pins s3 σ H3 _ I3 q3) λw' s4 ⟨z',H4,I4,r4,q4⟩=>cE (ho' pins s4 σ H4 y z' u w' _ I4 r2 r4 q4) λd' s5 aK=>?_));obtain⟨z2,H5,I5,r5,k2,e2,q5⟩:=aK;subst e2;cases r5;exact V8 ⟨H5,I5,q5⟩
def HH(K:Frag)(x:V)(H:Hp)(k:Bool):Prop :=
 match x with
 |.non=>k=false
 |.bl b=>k=b
 |.int i=>k=(i != 0)
 |.str y=>y.length<=sizeLine/\k=((y.length:Int) != 0)
 |.byt y=>y.size<=sizeLine/\k=((y.size:Int) != 0)
 |.ref p=>(∃xs,fN K H p xs/\k = !xs.isEmpty)\/(∃xs,iA K H p xs/\k = !xs.isEmpty)\/∃kvs,H p=some (.dK kvs)/\k = !kvs.isEmpty
 |_=>False
theorem vh{κ:Type}{kvs:List (κ × V)}{vs:List (κ × Value)}(r:KV kvs vs):(!vs.isEmpty) = !kvs.isEmpty:=by
 cases r<;>rfl
theorem ng(r:Vals xs its):(!its.toArray.isEmpty) = !xs.isEmpty:=by
 cases r<;>simp
theorem lF:(sizeLine:Nat)<2 ^ 63:=by rw[Wj];decide
theorem HJ:PN X (λx H Q=>∃k,HH X.K x H k/\Q k H):=by
 intro pins s σ H x v Q I rx h;obtain⟨k,e,q⟩:=h;have hl:=lF;have hs:sizeLine=16777216:=Wj;cases x with
 |non=>cases rx;have e':k=false:=e;subst e';exact truthy_none ⟨H,I,q⟩
 |bl b=>cases rx;have e':k=b:=e;subst e';exact V8 ⟨H,I,q⟩
 |int i=>obtain⟨t,rfl⟩:=rx;have e':k=(i != 0):=e;subst e';exact PySem.P.truthy_int ⟨H,I,q⟩
 |str y=>obtain⟨t,rfl⟩:=rx;obtain⟨hy,e'⟩:y.length<=sizeLine/\k=((y.length:Int) != 0):=e;subst e';exact PySem.P.truthy_str (by omega) ⟨H,I.tok _,q⟩
 |byt y=>obtain⟨t,rfl⟩:=rx;obtain⟨hy,e'⟩:y.size<=sizeLine/\k=((y.size:Int) != 0):=e;subst e';exact PySem.W.truthy_bytes (by omega) ⟨H,I.tok _,q⟩
 |ref p=>
  cases rx;have e':(∃xs,fN X.K H p xs/\k = !xs.isEmpty)\/(∃xs,iA X.K H p xs/\k = !xs.isEmpty)\/∃kvs,H p=some (.dK kvs)/\k = !kvs.isEmpty:=e
  rcases e' with ⟨xs,hx,e'⟩|⟨xs,hx,e'⟩|⟨kvs,hx,e'⟩
  ·subst e';obtain⟨its,r,pl,hz⟩:=I.list hx;have hlen:=r.length;exact wpAny_truthy_list pl.isList (by simp only[size_toArray];omega) ⟨H,I.tok _,by rw[ng r];exact q⟩
  ·subst e';obtain⟨its,r,pl,hz⟩:=I.tuple hx;have hlen:=r.length;exact truthy_tuple pl (by simp only[size_toArray];omega) ⟨H,I.tok _,by rw[ng r];exact q⟩
  ·subst e';obtain⟨hz,hS,vs,r,m⟩:kvs.length<=sizeLine/\(p==sysModules)=false/\∃vs,KV kvs vs/\s.heap.DictOf (bX X.prog X.w) p vs:=I.hok p _ hx;have hlen:kvs.length=vs.length:=XH r;exact wpAny_truthy_dict hS m (by omega) ⟨H,I.tok _,by rw[vh r];exact q⟩
 |_=>exact(show False from e).elim
theorem Ak(ha:PE X a ta)(he:∀whole,isTrue a X.env whole=(do let v <-whole;standAt a.pos;holding [v] (truthy v))) :
  PT X a (λσ H Q=>ta σ H λx H'=>∃k,HH X.K x H' k/\Q k H'):=by
 intro pins s σ H Q I h;exact isTrue_plain (cE (ha pins s σ H _ I h) λv s1 ⟨x,H1,I1,r1,q1⟩=>HJ pins s1 σ H1 x v Q I1 r1 q1) (he _)
theorem vj:jC X (binaryOp .Add) (λx y H Q=>∃i j,x=.str i/\y=.str j/\i.length+j.length<=sizeLine/\Q (.str (i++j)) H):=by
 intro pins s σ H x y v u Q I rx ry h;obtain⟨i,j,rfl,rfl,hz,q⟩:=h;obtain⟨t,rfl⟩:=rx;obtain⟨t',rfl⟩:=ry;exact add_str (λt' tk=>⟨.str (i++j),H,I.tok _,⟨_,rfl⟩,q⟩) hz
theorem vals1(r:Vals [x] us):∃u,us=[u]/\RelV x u:=by
 cases r with
 |cons r1 r2=>cases r2;exact⟨_,rfl,r1⟩
theorem vals2(r:Vals [x,y] us):∃u w',us=[u,w']/\RelV x u/\RelV y w':=by
 cases r with
 |cons r1 r2=>
  cases r2 with
  |cons r3 r4=>cases r4;exact⟨_,_,rfl,r1,r3⟩
theorem yI(hc:X.calm=true):bU X (.builtin "max") (λxs H Q=>∃i j,xs=[.int i,.int j]/\Q (.int (if j>i then j else i)) H):=by
 intro pins s σ H xs us Q I r h;obtain⟨i,j,rfl,q⟩:=h;obtain⟨u,w',rfl,⟨t,rfl⟩,⟨t',rfl⟩⟩:=vals2 r;refine max_two_ints (I.ok.hd hc) λh' tk k=>⟨_,H,I.kept k,?_,q⟩
 by_cases hj:j>i
 ·rw[Vv hj,Vv hj];exact⟨_,rfl⟩
 ·rw[Vw hj,Vw hj];exact⟨_,rfl⟩
theorem yJ(hc:X.calm=true):bU X (.builtin "min") (λxs H Q=>∃i j,xs=[.int i,.int j]/\Q (.int (if j<i then j else i)) H):=by
 intro pins s σ H xs us Q I r h;obtain⟨i,j,rfl,q⟩:=h;obtain⟨u,w',rfl,⟨t,rfl⟩,⟨t',rfl⟩⟩:=vals2 r;refine min_two_ints (I.ok.hd hc) λh' tk k=>⟨_,H,I.kept k,?_,q⟩
 by_cases hj:j<i
 ·rw[Vv hj,Vv hj];exact⟨_,rfl⟩
 ·rw[Vw hj,Vw hj];exact⟨_,rfl⟩
theorem pP:bU X (.type "int") (λxs H Q=>(∃i,xs=[.int i]/\Q (.int i) H)\/∃k,xs=[.bl k]/\Q (.int (if k then 1 else 0)) H):=by
 intro pins s σ H xs us Q I r h
 rcases h with ⟨i,rfl,q⟩|⟨k,rfl,q⟩
 ·obtain⟨u,rfl,t,rfl⟩:=vals1 r;exact call_int_int ⟨.int i,H,I,⟨_,rfl⟩,q⟩
 ·obtain⟨u,rfl,r1⟩:=vals1 r;cases r1;exact call_int_bool ⟨.int (if k then 1 else 0),H,I.tok _,⟨_,rfl⟩,q⟩
theorem qV:bU X (.type "str") (λxs H Q=>∃i,xs=[.int i]/\i.natAbs.log2<1920/\Q (.str (toString i)) H):=by
 intro pins s σ H xs us Q I r h;obtain⟨i,rfl,hz,q⟩:=h;obtain⟨u,rfl,t,rfl⟩:=vals1 r;exact PySem.P.str_of_int hz ⟨.str _,H,I.tok _,⟨_,rfl⟩,q⟩
def PU(K:Frag)(x:V)(H:Hp)(n:Nat):Prop :=
 match x with
 |.str y=>y.length<=sizeLine/\n=y.length
 |.byt y=>y.size<=sizeLine/\n=y.size
 |.ref p=>(∃xs,fN K H p xs/\n=xs.length)\/∃xs,iA K H p xs/\n=xs.length
 |_=>False
theorem ku:bU X (.builtin "len") (λxs H Q=>∃x n,xs=[x]/\PU X.K x H n/\Q (.int n) H):=by
 intro pins s σ H xs us Q I r h;obtain⟨x,n,rfl,e,q⟩:=h;obtain⟨u,rfl,rx⟩:=vals1 r;have hl:=lF;have hs:sizeLine=16777216:=Wj;cases x with
 |str y=>obtain⟨t,rfl⟩:=rx;obtain⟨hy,e'⟩:y.length<=sizeLine/\n=y.length:=e;subst e';exact len_str (by omega) ⟨.int _,H,I.tok _,⟨_,rfl⟩,q⟩
 |byt y=>obtain⟨t,rfl⟩:=rx;obtain⟨hy,e'⟩:y.size<=sizeLine/\n=y.size:=e;subst e';exact PySem.W.len_bytes (by omega) ⟨.int _,H,I.tok _,⟨_,rfl⟩,q⟩
 |ref p=>
  cases rx;have e':(∃xs,fN X.K H p xs/\n=xs.length)\/∃xs,iA X.K H p xs/\n=xs.length:=e
  rcases e' with ⟨xs,hx,e'⟩|⟨xs,hx,e'⟩
  ·subst e';obtain⟨its,r',pl,hz⟩:=I.list hx;have hlen:=r'.length;exact Calls.call_len_list pl.isList (by simp only[size_toArray];omega) ⟨.int xs.length,H,I.tok _,⟨_,by simp only[size_toArray];rw[hlen]⟩,q⟩
  ·subst e';obtain⟨its,r',pl,hz⟩:=I.tuple hx;have hlen:=r'.length;exact len_tuple pl (by simp only[size_toArray];omega) ⟨.int xs.length,H,I.tok _,⟨_,by simp only[size_toArray];rw[hlen]⟩,q⟩
 |_=>exact(show False from e).elim
end
section
variable {prog:Program} {w:World} {A:Around} {E:Value->Shared->Prop} {s:Shared} {K:Frag} {x dx C f:Addr} {mA:Str->Option Value} {name:Str} {v:Value}
theorem Am(X:K.In s.heap)(hm:makesIn K C=true)
  (hi:findIn K (.ref C) "__init__" = some (some (.ref f))) (hf:typeIn K (.ref f)=some (.type "function"))
  (h:codeAny (model prog w) (A.under (.builtin "type.__call__" ⟨.ref C::vs,kw⟩)) (.call (.ref f) ⟨.ref (s.heap.objs.size+1)::vs,kw⟩) (PySem.W.InitBack (s.heap.objs.size+1) R)
   { s with heap:=(s.heap.push emptyDict).push (instObj C s.heap.objs.size) }) :
  codeAny (model prog w) A (.call (.ref C) ⟨vs,kw⟩) R s:=by
 obtain⟨hh,g,d,t,os⟩:=s;exact PySem.W.make_core (PySem.W.makes_of X hm) (PySem.W.looks_findIn X hi) (λself=>PySem.W.bind_fn X self hf) (.inl rfl) h
end
theorem o4.some_of(r:o4 (some v) o):∃u,o=some u/\RelV v u:=by
 cases o with
 |none=>exact(show False from r).elim
 |some u=>exact⟨u,rfl,r⟩
structure Rt (K:Frag) (C:Addr):Prop where
 pg:PySem.W.plainGet K C Str.empty=true
 hd:PySem.W.hasDictIn K C=true
 po:PySem.W.plainOver K C=true
 sa:findIn K (.ref C) "__setattr__" = some (some (.builtin "object.__setattr__"))
def An(K:Frag)(C:Addr)(f:Str):Prop:=findIn K (.ref C) f=some none
structure Meth (K:Frag) (C:Addr) (m:Str) (f:Addr):Prop where
 at_:findIn K (.ref C) m=some (some (.ref f))
 fn:isFn K (.ref f)=true
 kp:keepIn K (.ref f)=true
section
variable {X:Cx} {pins:List (Addr×Obj)} {σ:St} {H:Hp} {s:Shared} {a C dx:Addr} {fs:List (Str×V)} {f:Str} {v:V} {A:Around} {E:Value->Shared->Prop}
theorem Inv.made(I:Inv X pins σ H s):Inv X pins σ (upd (upd H s.heap.objs.size (.own (s.heap.objs.size+1))) (s.heap.objs.size+1) (.ins C s.heap.objs.size []))
  { s with heap:=(s.heap.push emptyDict).push (instObj C s.heap.objs.size) }:=by
 have e1:(s.heap.push emptyDict).get? s.heap.objs.size=some emptyDict:=VB s.heap rfl;have e2:((s.heap.push emptyDict).push (instObj C s.heap.objs.size)).get? (s.heap.objs.size+1)=some (instObj C s.heap.objs.size):=by have:=VB (s.heap.push emptyDict) (o:=instObj C s.heap.objs.size) rfl;rwa [Wm]at this
 have e3:(s.heap.push emptyDict).Ns s.heap.objs.size (λ_=>none):=⟨emptyDict,#[],_,e1,rfl,(λe he=>absurd he (by simp)),λ_=>rfl⟩;have I1:=I.laid (a:=s.heap.objs.size) (o:=.own (s.heap.objs.size+1)) (h':=s.heap.push emptyDict) (t':=s.toks) (λb u q=>Vo _ q) (Vu _) ⟨_,e1⟩;refine I1.laid (a:=s.heap.objs.size+1) (o:=.ins C s.heap.objs.size []) (t':=s.toks) (λb u q=>Vo _ q) (Nat.le_of_eq (Wm _ _)) ?_;have ne:s.heap.objs.size≠s.heap.objs.size+1:=VE (V6 _);refine⟨by rw[aF ne,aW],Wx _,ne,e2,λ_=>none,(Heap.Ns1.of_empty e3).at λo q=>Vo _ q,λ_=>Wu,λy hy=>absurd rfl hy⟩
end
structure dZ (k:Nat) (A:Around):Prop where
 hd:A.handled=none
 dp:A.depth+3*k+5<recursionLimit
 un:A.units+16*k+200<cLine
theorem dZ.mono{j k:Nat}(r:dZ k A)(h:j<=k):dZ j A:=⟨r.hd,by have:=r.dp;omega,by have:=r.un;omega⟩
theorem dZ.deeper{k:Nat}(r:dZ (k+1) A)(env:Env):dZ k (A.deeper env) :=
 ⟨r.hd,by have:=r.dp;show A.depth+1+3*k+5<_;omega,by have:=r.un;show A.units+3+16*k+200<_;omega⟩
theorem vm{A:Around}{C:Addr}{us:List Value}{kw:List (Str×Value)}:(A.under (.builtin "type.__call__" ⟨.ref C::us,kw⟩)).depth=A.depth+1:=by
 first|rfl|simp[Around.under,Code.weight,Code.isCreation,Code.isGuard,Code.isCaller,Code.frames,Code.isFrame,guardIds]
theorem vn{A:Around}{C:Addr}{us:List Value}{kw:List (Str×Value)}:(A.under (.builtin "type.__call__" ⟨.ref C::us,kw⟩)).units=A.units+1:=by
 first|rfl|simp[Around.under,Code.cUnits,Code.frames,Code.isFrame]
theorem dZ.make{k:Nat}(r:dZ (k+1) A)(C:Addr)(us:List Value)(kw:List (Str×Value)):dZ k (A.under (.builtin "type.__call__" ⟨.ref C::us,kw⟩)) :=
 ⟨r.hd,by have:=r.dp;rw[vm];omega,by have:=r.un;rw[vn];omega⟩
theorem dZ.depth{k:Nat}(r:dZ k A):A.depth<recursionLimit:=by have:=r.dp;omega
theorem dZ.units{k:Nat}(r:dZ k A):A.units+64<cLine:=by have:=r.un;omega
def HK:TA:=λ_ H Q=>Q [] H
def L6(ta:TE)(tr:TA):TA:=λσ H Q=>ta σ H λx H1=>tr σ H1 λxs H2=>Q (x::xs) H2
section
variable {X:Cx} {e:Expr} {es:List Expr} {te:TE} {t:TA} {pos:Pos}
theorem Ao:PA X [] HK:=λ_ _ _ _ H Q I h=>XF ⟨[],H,I,.nil,h⟩
theorem qW(ha:PE X e te)(hr:PA X es t)(hs:starEach (e::es) X.env=(false,eval e X.env)::starEach es X.env:=by rfl):PA X (e::es) (L6 te t):=by
 intro pos pins s σ H Q I h;rw[hs];show wpAny _ _ (spliced ((false,eval e X.env)::backTo pos (starEach es X.env))) _ _ s;refine XA (cE (ha pins s σ H _ I h) λu s1 aK=>?_);obtain⟨x,H1,I1,r1,q1⟩:=aK;exact cE (hr pos pins s1 σ H1 _ I1 q1) λus s2 ⟨xs,H2,I2,r2,q2⟩=>⟨x::xs,H2,I2,.cons r1 r2,q2⟩
def PV(t:TA):TE:=λσ H Q=>t σ H λxs H1=>xs.length<=sizeLine/\∀p,H1 p=none->Q (.ref p) (upd H1 p (.tup xs))
def PX(t:TA):TE:=λσ H Q=>t σ H λxs H1=>xs.length<=sizeLine/\∀p,H1 p=none->Q (.ref p) (upd H1 p (.lst xs))
theorem HL{x1}(h:PA X es t):PE X (.Tuple es x1 pos) (PV t):=by
 intro pins s σ H Q I hq;refine wpAny_Tuple_spliced (cE (h pos pins s σ H _ I hq) λus s1 ⟨xs,H1,I1,r,z,q⟩=>⟨by rw[<-r.length];exact z,?_⟩);have hf:H1 s1.heap.objs.size=none:=I1.hok.fresh (Vu _);refine⟨.ref s1.heap.objs.size,upd H1 s1.heap.objs.size (.tup xs),I1.laid (t':=s1.toks) (λb u e=>Vo _ e) (Vu _) ?_,rfl,q _ hf⟩;exact⟨z,us,r,⟨_,VB _ rfl,rfl,_,rfl⟩⟩
theorem HM(h:PA X es t):PE X (.List es pos) (PX t):=by
 intro pins s σ H Q I hq;refine wpAny_List_spliced (cE (h pos pins s σ H _ I hq) λus s1 ⟨xs,H1,I1,r,z,q⟩=>⟨by rw[<-r.length];exact z,?_⟩);have hf:H1 s1.heap.objs.size=none:=I1.hok.fresh (Vu _);refine⟨.ref s1.heap.objs.size,upd H1 s1.heap.objs.size (.lst xs),I1.laid (t':=s1.toks) (λb u e=>Vo _ e) (Vu _) ?_,rfl,q _ hf⟩;exact⟨z,us,0,r,VB _ rfl⟩
end
abbrev Sp:=List V->Hp->VK->XK->Prop
abbrev yK:=List Env->Hp->Shared->XK->Value->Shared->Prop
structure vo (P:Program) (w:World) (K:Frag) (mg:Str->Option Value) (base:Heap) (A:Around) (outer:List Env) (s:Shared) (H:Hp):Prop where
 frames:A.frames=some outer
 mod:Mod K mg base
 bs:∀b o,base.get? b=some o->s.heap.get? b=some o/\H b=none
 FU:base.objs.size<=s.heap.objs.size
 mJ:s.heap.FunFrames base outer
 GS:∀b∈frs outer,H b=none
 hok:ko P w H s.heap
 bare:AllBare s.gens
def CE(outer:List Env)(P:Program)(w:World)(H:Hp)(s:Shared)(Q:VK)(u:Value)(s':Shared):Prop :=
 ∃v H',s'.os=s.os/\AllBare s'.gens/\Un (frs outer) [] H H' s.heap s'.heap/\ko P w H' s'.heap/\RelV v u/\Q v H'
def CR(CX:yK)(outer:List Env)(P:Program)(w:World)(H:Hp)(s:Shared)(Q:VK)(E:XK)(r:Result)(s':Shared):Prop :=
 match r with
 |.ok (.ret u)=>CE outer P w H s Q u s'
 |.ok _=>False
 |.error e=>CX outer H s E e s'
structure f9 (P:Program) (w:World) (K:Frag) (mg:Str->Option Value) (base:Heap) (CX:yK) (k:Nat) (f:Addr) (fd:FuncData) (ps:List Str) (sp:Sp):Prop where
 len:∀vs H Q E,sp vs H Q E->vs.length=ps.length
 run:∀(A:Around) (outer:List Env) (s:Shared) (H:Hp) (args:Args) (us:List Value) (vs:List V) (Q:VK) (E:XK),dZ k A->vo P w K mg base A outer s H->BindsTo s fd args (ps.zip us)->Vals vs us->sp vs H Q E ->
  codeAny (model P w) A (.call (.ref f) args) (CR CX outer P w H s Q E) s
theorem f9.mono{P:Program}{w:World}{K:Frag}{mg:Str->Option Value}{base:Heap}{CX:yK}{j k:Nat}{f:Addr}{fd:FuncData}{ps:List Str}{sp:Sp}(F:f9 P w K mg base CX j f fd ps sp)(h:j<=k) :
  f9 P w K mg base CX k f fd ps sp:=⟨F.len,λA outer s H args us vs Q E hr=>F.run A outer s H args us vs Q E (hr.mono h)⟩
theorem f9.imp{P:Program}{w:World}{K:Frag}{mg:Str->Option Value}{base:Heap}{CX:yK}{k:Nat}{f:Addr}{fd:FuncData}{ps:List Str}{sp Ru:Sp}(F:f9 P w K mg base CX k f fd ps sp)
  (h:∀vs H Q E,Ru vs H Q E->sp vs H Q E):f9 P w K mg base CX k f fd ps Ru :=
 ⟨λvs H Q E q=>F.len vs H Q E (h _ _ _ _ q),λA outer s H args us vs Q E hr he hb hv hs=>F.run A outer s H args us vs Q E hr he hb hv (h _ _ _ _ hs)⟩
theorem vo.make{P:Program}{w:World}{K:Frag}{mg:Str->Option Value}{base:Heap}{A:Around}{outer:List Env}{s:Shared}{H:Hp}(e:vo P w K mg base A outer s H)(C:Addr)(us:List Value)(kw:List (Str×Value)) :
  vo P w K mg base (A.under (.builtin "type.__call__" ⟨.ref C::us,kw⟩)) outer s H:=⟨by first|exact e.frames|(simpa [Around.under,Code.envs,Code.isFrame,pushEnvs] using e.frames),e.mod,e.bs,e.FU,e.mJ,e.GS,e.hok,e.bare⟩
section
variable {X:Cx} {pins:List (Addr×Obj)} {σ:St} {H:Hp} {s s':Shared}
theorem Inv.o7(I:Inv X pins σ H s):vo X.prog X.w X.K X.mg X.base X.A X.stack s H :=
 ⟨I.ok.frames,I.ok.mod,I.bs,VX I.ok.FU I.sz,I.stack,I.wO,I.hok,I.bare⟩
theorem Inv.after(I:Inv X pins σ H s)(h:CE X.stack X.prog X.w H s Q u s'):EP X pins σ Q u s':=by
 obtain⟨v,H',os,bare,un,hok,r,q⟩:=h;obtain⟨hh,g,d,t,os'⟩:=s';obtain rfl:os'=s.os:=os;exact⟨v,H',I.call (h':=hh) (g':=g) (d':=d) (t':=t) (ch:=[]) un hok bare (λb z=>absurd z (by simp)),r,q⟩
end
def Ga(sp:Sp)(qX:List V)(E:XK)(t:TA):TE:=λσ H Q=>t σ H λvs H1=>sp (vs++qX) H1 Q E
def Gb(C:Addr)(sp:Sp)(qX:List V)(E:XK)(t:TA):TE:=λσ H Q=>t σ H λvs H1=>∀x dx,H1 x=none->H1 dx=none->dx≠x ->
 sp (.ref x::(vs++qX)) (upd (upd H1 dx (.own x)) x (.ins C dx [])) (λv H2=>v=.non/\Q (.ref x) H2) E
def Binds(K:Frag)(fd:FuncData)(ps:List Str)(ds:List Value):Prop :=
 ∀(s:Shared) (us:List Value),K.In s.heap->(us++ds).length=ps.length->BindsTo s fd ⟨us,[]⟩ (ps.zip (us++ds))
theorem Binds.all{K:Frag}{fd:FuncData}{ps:List Str}(h:∀us:List Value,us.length=ps.length->bindArgs fd ⟨us,[]⟩=pure (ps.zip us)):Binds K fd ps []:=λs us _ hl=>by
 rw[WS]at hl |-;exact .of_eq (h us hl)
def Passes(CX:yK)(X:Cx)(E:XK):Prop:=∀(pins:List (Addr×Obj)) (σ:St) (H:Hp) (s:Shared) (e:Value) (s':Shared),Inv X pins σ H s->CX X.stack H s E e s'->X.xe e s'
section
variable {X:Cx} {CX:yK} {k:Nat} {f C:Addr} {fd:FuncData} {ps:List Str} {sp:Sp} {qX:List V} {ds:List Value} {E:XK} {x m:Str} {p pos apos:Pos} {e o:Expr} {es:List Expr} {ta:TE} {t:TA}
theorem Aq(F:f9 X.prog X.w X.K X.mg X.base CX k f fd ps sp)(hr:dZ k X.A)(hb:Binds X.K fd ps ds)(hd:Vals qX ds)(hx:Passes CX X E)
  (I:Inv X pins σ H s) (r:Vals vs us) (h:sp (vs++qX) H Q E):wpAny (model X.prog X.w) X.A (call (.ref f) us) (EP X pins σ Q) X.xe s:=by
 have r2:Vals (vs++qX) (us++ds):=r.append hd;have hl:(us++ds).length=ps.length:=by rw[<-r2.length];exact F.len _ _ _ _ h
 refine wpAny_call (Xi (F.run X.A X.stack s H ⟨us,[]⟩ (us++ds) (vs++qX) Q E hr I.o7 (hb s us I.qT hl) r2 h) λr s' hq=>?_);cases r with
 |error e=>exact hx pins σ H s e s' I hq
 |ok fl=>
  cases fl with
  |ret u=>exact I.after hq
  |next=>exact False.elim hq
  |brk=>exact False.elim hq
  |cont=>exact False.elim hq
theorem DF(F:f9 X.prog X.w X.K X.mg X.base CX k f fd ps sp)(hr:dZ k X.A)(hg:Gl X x)(hm:X.mg x=some (.ref f))(hk:keepIn X.K (.ref f)=true)(hb:Binds X.K fd ps ds)(hd:Vals qX ds)(hx:Passes CX X E)
  (ha:PA X (e::es) t) (hdb:(x==("__debug__":Str))=false) (he:starEach (e::es) X.env=(false,eval e X.env)::starEach es X.env) (hpl:(backTo pos (starEach es X.env)).any (·.1)=false) :
  PE X (.Call (.Name x p) (e::es) [] pos) (Ga sp qX E t):=by
 intro pins s σ H Q I h;refine Wh (kq I hg hm ?_ hdb);refine callWith_K (h₀:=X.base) I.ok.mod.O0 hk (cE (ha pos pins s σ H _ I h) λus s1 ⟨vs,H1,I1,r,q⟩=>⟨I1.qT,?_⟩) he hpl;exact Aq F hr hb hd hx I1 r q
theorem Ar(F:f9 X.prog X.w X.K X.mg X.base CX k f fd ps sp)(hr:dZ k X.A)(hg:Gl X x)(hm:X.mg x=some (.ref f))(hk:keepIn X.K (.ref f)=true)(hb:Binds X.K fd ps ds)(hd:Vals qX ds)(hx:Passes CX X E)
  (hdb:(x==("__debug__":Str))=false):PE X (.Call (.Name x p) [] [] pos) (Ga sp qX E HK):=by
 intro pins s σ H Q I h;refine Wh (kq I hg hm ?_ hdb);exact callWith_K0 I.qT hk (Aq (us:=[]) F hr hb hd hx I .nil h)
structure Mk (K:Frag) (C f:Addr):Prop where
 makes:makesIn K C=true
 init:findIn K (.ref C) "__init__" = some (some (.ref f))
 fn:isFn K (.ref f)=true
 kp:keepIn K (.ref C)=true
theorem sX(M:Mk X.K C f)(F:f9 X.prog X.w X.K X.mg X.base CX k f fd ps sp)(hr:dZ (k+1) X.A)(hb:Binds X.K fd ps ds)(hd:Vals qX ds)
  (hx:Passes CX X E) (I:Inv X pins σ H s) (r:Vals vs us)
  (h:∀x dx,H x=none->H dx=none->dx≠x->sp (.ref x::(vs++qX)) (upd (upd H dx (.own x)) x (.ins C dx [])) (λv H2=>v=.non/\Q (.ref x) H2) E) :
  wpAny (model X.prog X.w) X.A (call (.ref C) us) (EP X pins σ Q) X.xe s:=by
 have hq:=h (s.heap.objs.size+1) s.heap.objs.size (I.hok.fresh (Wr _)) (I.hok.fresh (Vu _)) (VE (V6 _));have I2:=Inv.made (C:=C) I;have r2:Vals (V.ref (s.heap.objs.size+1)::(vs++qX)) (Value.ref (s.heap.objs.size+1)::(us++ds)):=.cons rfl (r.append hd);have hl:(Value.ref (s.heap.objs.size+1)::us++ds).length=ps.length:=by have e:=r2.length;rw[F.len _ _ _ _ hq]at e;exact e.symm
 refine wpAny_call (Am (f:=f) I.qT M.makes M.init (beq_iff_eq.mp M.fn) (Xi (F.run _ X.stack _ _ ⟨Value.ref (s.heap.objs.size+1)::us,[]⟩ (Value.ref (s.heap.objs.size+1)::(us++ds)) _ _ E (hr.make C us [])
  (I2.o7.make C us []) (hb _ (Value.ref (s.heap.objs.size+1)::us) I2.qT hl) r2 hq) λr s' hq'=>?_))
 cases r with
 |error e=>exact hx pins σ _ _ e s' I2 hq'
 |ok fl=>
  cases fl with
  |ret u=>obtain⟨v,H',I3,rv,ev,q3⟩:=I2.after hq';subst ev;exact⟨rv,⟨V.ref (s.heap.objs.size+1),H',I3,rfl,q3⟩⟩
  |next=>exact False.elim hq'
  |brk=>exact False.elim hq'
  |cont=>exact False.elim hq'
theorem DG(M:Mk X.K C f)(F:f9 X.prog X.w X.K X.mg X.base CX k f fd ps sp)(hr:dZ (k+1) X.A)(hg:Gl X x)(hm:X.mg x=some (.ref C))(hb:Binds X.K fd ps ds)(hd:Vals qX ds)(hx:Passes CX X E)
  (ha:PA X (e::es) t) (hdb:(x==("__debug__":Str))=false) (he:starEach (e::es) X.env=(false,eval e X.env)::starEach es X.env) (hpl:(backTo pos (starEach es X.env)).any (·.1)=false) :
  PE X (.Call (.Name x p) (e::es) [] pos) (Gb C sp qX E t):=by
 intro pins s σ H Q I h;refine Wh (kq I hg hm ?_ hdb);refine callWith_K (h₀:=X.base) I.ok.mod.O0 M.kp (cE (ha pos pins s σ H _ I h) λus s1 ⟨vs,H1,I1,r,q⟩=>⟨I1.qT,?_⟩) he hpl;exact sX M F hr hb hd hx I1 r q
theorem As(M:Mk X.K C f)(F:f9 X.prog X.w X.K X.mg X.base CX k f fd ps sp)(hr:dZ (k+1) X.A)(hg:Gl X x)(hm:X.mg x=some (.ref C))(hb:Binds X.K fd ps ds)(hd:Vals qX ds)(hx:Passes CX X E)
  (hdb:(x==("__debug__":Str))=false):PE X (.Call (.Name x p) [] [] pos) (Gb C sp qX E HK):=by
 intro pins s σ H Q I h;refine Wh (kq I hg hm ?_ hdb);exact callWith_K0 I.qT M.kp (sX (us:=[]) M F hr hb hd hx I .nil h)
end
structure mX (N P:List Str) (sc:Scope):Prop where
 kind:sc.kind=.function
 co:sc.isCoroutine=false
 gen:sc.isGenerator=false
 nd:N.Nodup
 pre:N.take P.length=P
 par:∀x∈P,sc.names.lookup x=some .local\/sc.names.lookup x=some .cell
 HN:∀y∈sc.names,y.2≠.free
theorem pQ{kindOf:Str->Option NameKind}{x:Str}:∀{binds:List (Str×Value)} {m:Str->Option Value},(∀v,(x,v)∉binds)->bindL kindOf binds m x=m x
 |[],_,_=>rfl
 | (n,v)::r,m,h=>by
  unfold bindL;rw[pQ λw hw=>h w (Vq _ hw)]
  split
  ·have:x≠n:=by rintro rfl;exact h v Vs
   simp[this]
  ·rfl
theorem pR{kindOf:Str->Option NameKind}{x:Str}:∀{binds:List (Str×Value)} {m:Str->Option Value},(∀v,(x,v)∉binds)->bindC kindOf binds m x=m x
 |[],_,_=>rfl
 | (n,v)::r,m,h=>by
  unfold bindC;rw[pR λw hw=>h w (Vq _ hw)]
  split
  ·rfl
  ·have:x≠n:=by rintro rfl;exact h v Vs
   simp[this]
theorem pS{kindOf:Str->Option NameKind}{x:Str}{v:Value}:∀{P:List Str} {vs:List Value} {i:Nat} {m:Str->Option Value},P.Nodup->P[i]?=some x->vs[i]?=some v->kindOf x=some .local ->
  bindL kindOf (P.zip vs) m x=some v
 |[],_,_,_,_,h,_,_=>by simp at h
 |_::_,[],_,_,_,_,h,_=>by simp at h
 | p::P,w::vs,0,m,nd,h1,h2,hk=>by
  simp at h1 h2;subst h1;subst h2;show bindL kindOf ((p,w)::P.zip vs) m p=_;unfold bindL;rw[pQ λv hv=>(Wb.mp nd).1 (XM hv).1,Vv hk];simp
 | p::P,w::vs,i+1,m,nd,h1,h2,hk=>by
  show bindL kindOf ((p,w)::P.zip vs) m x=_;unfold bindL;exact pS (i:=i) (Wb.mp nd).2 (by simpa using h1) (by simpa using h2) hk
theorem pT{kindOf:Str->Option NameKind}{x:Str}{v:Value}:∀{P:List Str} {vs:List Value} {i:Nat} {m:Str->Option Value},P.Nodup->P[i]?=some x->vs[i]?=some v->kindOf x≠some .local ->
  bindC kindOf (P.zip vs) m x=some v
 |[],_,_,_,_,h,_,_=>by simp at h
 |_::_,[],_,_,_,_,h,_=>by simp at h
 | p::P,w::vs,0,m,nd,h1,h2,hk=>by
  simp at h1 h2;subst h1;subst h2;show bindC kindOf ((p,w)::P.zip vs) m p=_;unfold bindC;rw[pR λv hv=>(Wb.mp nd).1 (XM hv).1,Vw hk];simp
 | p::P,w::vs,i+1,m,nd,h1,h2,hk=>by
  show bindC kindOf ((p,w)::P.zip vs) m x=_;unfold bindC;exact pT (i:=i) (Wb.mp nd).2 (by simpa using h1) (by simpa using h2) hk
def start(N:List Str)(vs:List V):St:=vs.map some++replicate (N.length-vs.length) none
def vp(CX:yK)(P:Program)(w:World)(K:Frag)(mg:Str->Option Value)(base:Heap)(N:List Str)(qual:Str)(scope:Scope)(f:Addr)(cd:Value)(A:Around)(outer:List Env)(s:Shared)(H:Hp)(E:XK):Cx where
 prog:=P
 w:=w
 K:=K
 mg:=mg
 base:=base
 A:=A.deeper (envOfC qual scope s.heap.objs.size f cd)
 N:=N
 s₀:=s
 H₀:=H
 env:=envOfC qual scope s.heap.objs.size f cd
 outer:=outer
 stack:=envOfC qual scope s.heap.objs.size f cd::outer
 ex:=[]
 calm:=true
 fn:=λ_=>true
 pn:=[]
 xe:=λe s'=>wpAny (model P w) (A.deeper (envOfC qual scope s.heap.objs.size f cd)) (leaving (envOfC qual scope s.heap.objs.size f cd) e) (λ_ s''=>CX outer H s E e s'') (λe' s''=>CX outer H s E e' s'') s'
theorem sY{sc:Scope}{n:Nat}{x:Str}(h:sc.names.lookup x=some .cell):∃c,(cellsFrom n sc.names []).lookup x=some c:=by
 have q:=cellsFrom_some sc.names n [] (.inl h);exact Option.isSome_iff_exists.mp q
theorem yL{CX:yK}{P:Program}{w:World}{K:Frag}{mg:Str->Option Value}{base:Heap}{N ps:List Str}{qual:Str}{scope:Scope}{f:Addr}{cd:Value}{A:Around}{outer:List Env}{s s1:Shared}{H:Hp}{E:XK}{us:List Value}{vs:List V}
  (S:mX N ps scope) (hd:A.handled=none) (e0:vo P w K mg base A outer s H) (hl:vs.length=ps.length) (r:Vals vs us)
  (x:InCallC s s.heap.objs.size (bindL (envOfC qual scope s.heap.objs.size f cd).kindOf (ps.zip us) λ_=>none) (cellsFrom (s.heap.objs.size+1) scope.names []) (bindC (envOfC qual scope s.heap.objs.size f cd).kindOf (ps.zip us) λ_=>none) s1) :
  Inv (vp CX P w K mg base N qual scope f cd A outer s H E) [] (start N vs) H s1:=by
 have hpl:ps.length<=N.length:=by have:=Wc length S.pre;rw[Xq]at this;omega
 obtain⟨h1,tk,rfl,hk⟩:=x.done;have noA:∀b:Addr,b∉(vp CX P w K mg base N qual scope f cd A outer s H E).ex:=λb z=>absurd (show b∈([]:List Addr) from z) (by simp);refine⟨⟨e0.mod,S.kind,rfl,rfl,Vu _,λy z c h1 h2=>?_,λy hy=>?_,λy c _ h=>?_,λ_=>hd,Around.frames_deeper e0.frames,.inr ⟨rfl,rfl⟩,λb z=>absurd z (noA b),e0.bs,e0.FU,λb _ _=>noA b,λb z=>absurd z (noA b),e0.mJ,e0.GS⟩,
  rfl,e0.bare,Un.kept hk,⟨_,x.toInCall.ns,λi y v h1 h2 h3=>?_⟩,λy c h=>⟨_,x.cell y c h⟩,e0.hok.fresh (Vu _),λy c h=>?_,λp hp=>absurd (show p∈([]:List (Addr×Obj)) from hp) (by simp),e0.hok.kept hk,?_⟩
 ·exact name_of_addr x.apart (Wo h1) (Wo h2)
 ·have hy:scope.names.lookup y=some .cell\/scope.names.lookup y=some .free:=hy
  rcases hy with hy|hy
  ·exact sY hy
  ·exact absurd rfl (S.HN _ (Wo hy))
 ·exact WO (x.above y c (Wo h))
 ·have hi:i<vs.length:=by
   unfold start at h2
   by_cases hi:i<vs.length
   ·exact hi
   ·rw[VT (by simpa using hi)]at h2;rw[List.getElem?_replicate]at h2;split at h2<;>cases h2
  have ha:vs[i]?=some v:=by
   unfold start at h2;rw[VD (by simpa using hi),VI]at h2;cases e:vs[i]? with
   |none=>rw[e]at h2;cases h2
   |some a=>rw[e]at h2;cases h2;rfl
  obtain⟨u,hu,rv⟩:=r.get ha;have hp:ps[i]?=some y:=by rw[<-S.pre,List.getElem?_take_of_lt (by omega)];exact h1
  have Rv:ps.Nodup:=by rw[<-S.pre];exact S.nd.sublist (List.take_sublist _ _)
  refine⟨u,rv,?_⟩
  rcases S.par y (VP hp) with k|k
  ·exact .inl ⟨k,pS Rv hp hu k⟩
  ·obtain⟨c,e⟩:=sY (n:=s.heap.objs.size+1) k;refine .inr ⟨.inl k,c,e,?_⟩;have q:=x.cell y c e;rw[pT Rv hp hu (by show scope.names.lookup y≠_;rw[k];decide)]at q;exact q
 ·exact e0.hok.fresh (WO (x.above y c (Wo h)))
 ·unfold start;show _=N.length;rw[VL,Vp,List.length_replicate];omega
theorem L7{CX:yK}{P:Program}{w:World}{K:Frag}{mg:Str->Option Value}{base:Heap}{k:Nat}{f:Addr}{name qual:Str}{params:Arguments}{body:List Stmt}{scope:Scope}{dV kV doc pm cdv ct oc:Value}{an od:Option Addr}
  {osl:Array (Option Value)} {N ps:List Str} {sp:Sp} (lk:K.lookup f=some ⟨oc,od,.func (fnOf name qual params body scope dV kV doc pm an cdv ct),osl⟩) (hcd:codeIn K cdv qual=true) (S:mX N ps scope)
  (len:∀vs H Q E,sp vs H Q E->vs.length=ps.length)
  (hbody:∀(A:Around) (outer:List Env) (s:Shared) (H:Hp) (vs:List V) (Q:VK) (E:XK),dZ k (A.deeper (envOfC qual scope s.heap.objs.size f cdv))->sp vs H Q E ->
   ∃t,ve (vp CX P w K mg base N qual scope f cdv A outer s H E) body t/\t { nx:=λ_ H'=>Q .non H',rt:=Q } (start N vs) H) :
  f9 P w K mg base CX (k+1) f (fnOf name qual params body scope dV kV doc pm an cdv ct) ps sp:=by
 refine⟨len,λA outer s H args us vs Q E hr e0 hb r hsp=>?_⟩;have hl:=len _ _ _ _ hsp;have KX:K.In s.heap:=e0.mod.O0.keeps λb o e=>(e0.bs b o e).1;have lim:s.heap.NoLimit:=e0.mod.nolimit.keeps λb o e=>(e0.bs b o e).1;have hkind:∀y∈ps.zip us,scope.names.lookup y.1=some .local\/(scope.names.lookup y.1=some .cell/\((cellsFrom (s.heap.objs.size+1) scope.names []).lookup y.1).isSome=true):=λ⟨n,v⟩ hy=>by
  rcases S.par n (XM hy).1 with q|q
  ·exact .inl q
  ·exact .inr ⟨q,cellsFrom_some _ _ _ (.inl q)⟩
 refine codeAny_call_function hr.depth (KX _ _ lk) rfl S.co S.gen rfl (PySem.W.codeRec_of KX hcd) (hb _ _ _ _ ?_);refine wpAny_newFunctionEnv_cells S.kind hkind λenv he s1 x=>?_;subst he;refine⟨lim.keeps x.toInCall.keep,codeAny_func ?_⟩;obtain⟨t,ht,hq⟩:=hbody A outer s H vs Q E (hr.deeper _) hsp;have I:Inv (vp CX P w K mg base N qual scope f cdv A outer s H E) [] (start N vs) H s1:=yL S hr.hd e0 hl r x;refine Wt (ht [] s1 (start N vs) H _ I hq) (λfl s' hs=>?_) λe s' hs=>hs;have fin:∀{σ':St} {H':Hp} {v:V} {u:Value},Inv (vp CX P w K mg base N qual scope f cdv A outer s H E) [] σ' H' s'->RelV v u->Q v H'->CE outer P w H s Q u s' :=
  λ{σ' H' v u} J rv q=>⟨v,H',J.os,J.bare,J.base,J.hok,rv,q⟩
 cases fl with
 |ret u=>obtain⟨v,σ',H',J,rv,q⟩:=hs;exact fin J rv q
 |next=>obtain⟨σ',H',J,q⟩:=hs;exact fin (v:=V.non) (u:=Value.none) J rfl q
 |brk=>obtain⟨_,_,_,q⟩:=hs;exact False.elim q
 |cont=>obtain⟨_,_,_,q⟩:=hs;exact False.elim q
section
variable {X:Cx} {x:Str} {p pos:Pos} {e:Expr} {es:List Expr} {t:TA} {id T:String} {r:List V->Hp->VK->Prop}
def Rw(r:List V->Hp->VK->Prop)(t:TA):TE:=λσ H Q=>t σ H λvs H1=>r vs H1 Q
theorem fO(hc:bU X (.builtin id) r)(hg:Gl X x)(hm:X.mg x=none)(hv:bootBuiltins x=some (.builtin id))(ha:PA X (e::es) t)(hn:x ≠ "__name__":=by decide)(hdb:(x==("__debug__":Str))=false:=by decide)
  (he:starEach (e::es) X.env=(false,eval e X.env)::starEach es X.env:=by rfl) (hpl:(backTo pos (starEach es X.env)).any (·.1)=false:=by rfl):PE X (.Call (.Name x p) (e::es) [] pos) (Rw r t):=by
 intro pins s σ H Q I h;refine Wh (iV I hg hm hv ?_ hn hdb);exact PyProof.Rows.callWith_builtin1 (cE (ha pos pins s σ H _ I h) λus s1 ⟨vs,H1,I1,r1,q1⟩=>hc pins s1 σ H1 vs us Q I1 r1 q1) he hpl
theorem jD(hc:bU X (.type T) r)(hg:Gl X x)(hm:X.mg x=none)(hv:bootBuiltins x=some (.type T))(ha:PA X (e::es) t)(hn:x ≠ "__name__")(hdb:(x==("__debug__":Str))=false)
  (he:starEach (e::es) X.env=(false,eval e X.env)::starEach es X.env) (hpl:(backTo pos (starEach es X.env)).any (·.1)=false):PE X (.Call (.Name x p) (e::es) [] pos) (Rw r t):=by
 intro pins s σ H Q I h;refine Wh (iV I hg hm hv ?_ hn hdb);exact Wk (cE (ha pos pins s σ H _ I h) λus s1 ⟨vs,H1,I1,r1,q1⟩=>hc pins s1 σ H1 vs us Q I1 r1 q1) he hpl
end
end L2
namespace HT
open PySem PyProof.Rows
def lexLt:List Int->List Int->Bool
 |[],[]=>false
 |[],_::_=>true
 |_::_,[]=>false
 |x::xs,y::ys=>if x=y then lexLt xs ys else decide (x<y)
theorem fP(x y:Int)(xs ys:List Int):lexLt (x::xs) (y::ys)=if x=y then lexLt xs ys else decide (x<y):=rfl
theorem o8:lexLt [] []=false:=rfl
theorem fQ(y:Int)(ys:List Int):lexLt [] (y::ys)=true:=rfl
theorem dD(x:Int)(xs:List Int):lexLt (x::xs) []=false:=rfl
section
variable {prog:Program} {w:World} {A:Around} {E:Value->Shared->Prop} {s:Shared}
theorem DH(ht:IsTup s.heap t vs.toArray)(hb:IsTup s.heap b ws.toArray)(hv:vs≠[])
  (h1:ws=[]->Q (.ref t) s) (h2:ws≠[]->Q (.ref s.heap.objs.size) { s with heap:=s.heap.push { cls:=.type "tuple",data:=.seq (vs++ws).toArray } })
  (hsz:vs.length+ws.length<=sizeLine):wpAny (model prog w) A (binaryOp .Add (.ref t) (.ref b)) Q E s:=by
 obtain⟨⟨cls,dd,data,sl⟩,ho,hc,n,hd⟩:=id ht;obtain⟨⟨SW,dd2,data2,sl2⟩,ho2,hc2,n2,hd2⟩:=id hb;simp only at hc hd hc2 hd2;subst hc hd hc2 hd2;have e:vs.toArray++ws.toArray=(vs++ws).toArray:=by simp
 by_cases hw:ws=[]
 ·exact concat_meets ⟨_,ho,rfl⟩ ⟨_,ho2,rfl⟩ noFill_tuple_add seq_tuple_add PySem.F.slot_tuple_add PySem.F.entry_tuple_add (PySem.F.args_tuple_add_2 _ _)
   (tuple_addW1 t b vs.toArray ws.toArray n n2 dd dd2 sl sl2 (by simpa using hv) (by simp[hw])) ⟨ho,ho2,h1 hw⟩
 ·refine concat_meets ⟨_,ho,rfl⟩ ⟨_,ho2,rfl⟩ noFill_tuple_add seq_tuple_add PySem.F.slot_tuple_add PySem.F.entry_tuple_add (PySem.F.args_tuple_add_2 _ _)
   (tuple_addW2 t b vs.toArray ws.toArray n n2 dd dd2 sl sl2 (by simpa using hv) (by simpa using hw) (by rw[Vx,Vx];exact hsz)) ⟨ho,ho2,?_⟩
  rw[e];exact h2 hw
def dw(n d:Nat):Option Int->Nat
 |none=>d
 |some v=>if v<0 then (v+(n:Int)).toNat else min v.toNat n
theorem kB(n d:Nat):dw n d none=d:=rfl
theorem mY(n d k:Nat):dw n d (some (k:Int))=min k n:=by
 show (if (k:Int)<0 then ((k:Int)+(n:Int)).toNat else min (k:Int).toNat n)=min k n;rw[Vw (by omega),Int.toNat_natCast]
theorem HP(n d:Nat)(hd:d<=n)(o:Option Int):dw n d o<=n:=by
 cases o with
 |none=>exact hd
 |some v=>
  show (if v<0 then (v+(n:Int)).toNat else min v.toNat n)<=n
  by_cases hv:v<0
  ·rw[Vv hv];omega
  ·rw[Vw hv];exact Nat.min_le_right _ _
theorem wV(v:Int)(n d:Nat):(if v<0 then max (v+(n:Int)) 0 else min v (n:Int))=((dw n d (some v):Nat):Int):=by
 show (if v<0 then max (v+(n:Int)) 0 else min v (n:Int))=(((if v<0 then (v+(n:Int)).toNat else min v.toNat n):Nat):Int)
 by_cases hv:v<0
 ·simp only[if_pos hv];omega
 ·simp only[if_neg hv];omega
theorem vq(lo hi:Option Int)(n:Nat):Builtin.Slice.sliceAdjust lo hi 1 (n:Int)=(((dw n 0 lo:Nat):Int),((dw n n hi:Nat):Int)):=by
 have h1:¬ ((1:Int)<0):=by omega
 unfold Builtin.Slice.sliceAdjust;simp only[h1,if_false];refine Prod.ext ?_ ?_
 ·cases lo with
  |none=>rfl
  |some v=>exact wV v n 0
 ·cases hi with
  |none=>rfl
  |some v=>exact wV v n n
theorem vt(i j:Nat):Builtin.Slice.slicePlaces (i:Int) (j:Int) 1=j-i:=by
 unfold Builtin.Slice.slicePlaces;have h1:(1:Int)>0:=by omega
 simp only[h1,if_true,Int.ediv_one]
 split<;>omega
theorem nh{o:Option Int}(p:IsPart v o)(h:Q o s):wpAny (model prog w) A (Builtin.Slice.slicePartIndex v) Q E s:=by
 cases p with
 |none=>exact slicePart_none h
 |int i t=>exact slicePart_int h
theorem lG{lo hi:Option Int}{n:Nat}(hs:s.heap.IsSliceOf sl vl vu .none)(pl:IsPart vl lo)(pu:IsPart vu hi)
  (h:Q (((dw n 0 lo:Nat):Int),1,dw n n hi-dw n 0 lo) s):wpAny (model prog w) A (Builtin.Slice.sliceApplied (.ref sl) (pure (n:Int))) Q E s:=by
 obtain⟨os,hos,hcs,hds⟩:=id hs;unfold Builtin.Slice.sliceApplied Builtin.Slice.sliceFields;refine Vm (Vm (wpAny_field hos hds (x:=vl) rfl (Vm (wpAny_field hos hds (x:=vu) rfl (Vm (wpAny_field hos hds (x:=.none) rfl (Vt ?_)))))));refine Vm (slicePart_none ?_);show wpAny _ _ (if ((1:Int)==0)=true then _ else _) _ _ s;rw[Vw (by decide)];refine Vm (nh pl (Vm (nh pu (Vm (Vt ?_)))));show wpAny _ _ (match Builtin.Slice.sliceAdjust lo hi 1 (n:Int) with|(lo,hi)=>pure (lo,(1:Int),Builtin.Slice.slicePlaces lo hi 1)) _ _ s;rw[vq lo hi n];show wpAny _ _ (pure (((dw n 0 lo:Nat):Int),(1:Int),Builtin.Slice.slicePlaces ((dw n 0 lo:Nat):Int) ((dw n n hi:Nat):Int) 1)) _ _ s;rw[vt];exact Vt h
theorem Au(xs:Array Value)(i k:Nat):((List.range k).filterMap λ(m:Nat)=>xs[((i:Int)+(m:Int)*1).toNat]?).toArray=((xs.toList.drop i).take k).toArray:=by
 have e:(λ(m:Nat)=>xs[((i:Int)+(m:Int)*1).toNat]?)=λm=>xs[i+m]?:=by
  funext m;have:((i:Int)+(m:Int)*1).toNat=i+m:=by omega
  rw[this]
 rw[e];have:=pick_run xs i k;rw[List.filterMap_map]at this;have e2:((λx=>xs[x]?)∘λx=>i+x)=λm=>xs[i+m]?:=rfl;rw[e2]at this;rw[this]
theorem kD{lo hi:Option Int}(ht:IsTup s.heap t items)(hs:s.heap.IsSliceOf sl vl vu .none)(pl:IsPart vl lo)(pu:IsPart vu hi)
  (hw:¬ (dw items.size 0 lo=0/\dw items.size items.size hi=items.size))
  (h:Q (.ref s.heap.objs.size) { s with heap:=s.heap.push { cls:=.type "tuple",data:=.seq ((items.toList.drop (dw items.size 0 lo)).take (dw items.size items.size hi-dw items.size 0 lo)).toArray } })
  (hsz:items.size<=sizeLine):wpAny (model prog w) A (getItem (.ref t) (.ref sl)) Q E s:=by
 have wW:sizeOk (.seq ((items.toList.drop (dw items.size 0 lo)).take (dw items.size items.size hi-dw items.size 0 lo)).toArray):=by show ((items.toList.drop (dw items.size 0 lo)).take (dw items.size items.size hi-dw items.size 0 lo)).toArray.size<=sizeLine;rw[Vx,Xq,Xr,VU];omega
 have hj:dw items.size items.size hi<=items.size:=HP _ _ (Vu _) hi;obtain⟨os,hos,hcs,hds⟩:=id hs;have PY:s.TypeIs (.ref sl) "slice":=⟨os,hos,hcs⟩;unfold getItem
 try with_reducible refine Wv ?_
 first|refine Vm (Vt ?_)|skip
 refine Vm (wpAny_sequenceKey ht.typeIs (by decide) ?_);refine Vm (Xg (name:=Str.ofString "__getitem__") ht.typeIs PyProof.Rows.slot_tuple_getitem
  (WM PyProof.Rows.slot_tuple_getitem ht.typeIs entry_tuple_getitem ?_ (args_tuple_getitem _ _)))
 show wpAny _ _ (Builtin.Tuple.tupleItemsOf (.ref t) >>= _) _ _ s;refine Vm (tupleItemsOf_ ht ?_);refine Vm (wpAny_typeOf PY ?_);rw[Vv (by decide)];refine Vm (lG hs pl pu ?_);have hno:¬ ((((dw items.size 0 lo:Nat):Int)==0&&(1:Int)==1&&(dw items.size items.size hi-dw items.size 0 lo)==items.size)=true):=by intro q;rw[W5,W5]at q;have q1:((dw items.size 0 lo:Nat):Int)=0:=eq_of_beq q.1.1;have q2:dw items.size items.size hi-dw items.size 0 lo=items.size:=eq_of_beq q.2;exact hw ⟨by omega,by omega⟩
 show wpAny _ _ (if (((dw items.size 0 lo:Nat):Int)==0&&(1:Int)==1&&(dw items.size items.size hi-dw items.size 0 lo)==items.size)=true then _ else _) _ _ s;rw[Vw hno,Au]
 first
  |exact Vm (m:=Builtin.Tuple.tupleExact _) (VY (Vt ⟨_,rfl,Vt h⟩) wW)
  |exact Vm (m:=Builtin.Tuple.tupleExact _) (VY (Vm (Vt (Vt ⟨_,rfl,Vt h⟩))) wW)
  |exact Vm (Vm (m:=Builtin.Tuple.tupleExact _) (VY (Vt (Vt ⟨_,rfl,Vt h⟩)) wW))
  |exact Vm (Vm (m:=Builtin.Tuple.tupleExact _) (VY (Vt ⟨_,rfl,Vt h⟩) wW))
end
end HT
namespace L2
open PySem PySem.Spec PyProof.Rows
abbrev TO:=St->Hp->(Option Int->Hp->Prop)->Prop
def PO(X:Cx)(e:Option Expr)(t:TO):Prop :=
 ∀(pins:List (Addr×Obj)) (s:Shared) (σ:St) (H:Hp) (Q:Option Int->Hp->Prop),Inv X pins σ H s->t σ H Q ->
  wpAny (model X.prog X.w) X.A (evalPart e X.env) (λu s'=>∃o H',Inv X pins σ H' s'/\IsPart u o/\Q o H') X.xe s
def DI:TO:=λ_ H Q=>Q none H
def L8(t:TE):TO:=λσ H Q=>t σ H λx H1=>∃i,x=.int i/\Q (some i) H1
theorem intsAre_of{ns:List Int}:∀{us:List Value},Vals (ns.map V.int) us->IntsAre us ns:=by
 induction ns with
 |nil=>intro us r;rw[WJ]at r;cases r;exact .nil
 |cons n ns ih=>
  intro us r;rw[VC]at r;cases r with
  |cons r1 r2=>obtain⟨t,e⟩:=r1;subst e;exact .cons n t (ih r2)
section
variable {X:Cx} {e:Expr} {te:TE} {lo hi:Option Expr} {tl th:TO} {pos p2:Pos}
theorem DJ:PO X none DI:=by
 intro pins s σ H Q I h;rw[evalPart_none];exact Vt ⟨none,H,I,.none,h⟩
theorem DK(h:PE X e te):PO X (some e) (L8 te):=by
 intro pins s σ H Q I hw;rw[evalPart_some];refine cE (h pins s σ H _ I hw) λu s1 aK=>?_;obtain⟨x,H1,I1,r1,q1⟩:=aK;obtain⟨i,rfl,q⟩:=q1;obtain⟨t,rfl⟩:=r1;exact⟨some i,H1,I1,.int i t,q⟩
def O8(X:Cx)(r:V->Option Int->Option Int->Hp->VK->Prop):Prop :=
 ∀(pins:List (Addr×Obj)) (s:Shared) (σ:St) (H:Hp) (x:V) (v vl vu:Value) (lo hi:Option Int) (sl:Addr) (Q:VK),Inv X pins σ H s->RelV x v->s.heap.IsSliceOf sl vl vu .none->IsPart vl lo->IsPart vu hi->r x lo hi H Q ->
  ∃T id,typeLookup (.type T) "__getitem__" = pure (some (.builtin id))/\s.TypeIs v T/\wpAny (model X.prog X.w) X.A (getItem v (.ref sl)) (EP X pins σ Q) X.xe s
def SX(r:V->Option Int->Option Int->Hp->VK->Prop)(te:TE)(tl th:TO):TE:=λσ H Q=>te σ H λx H1=>tl σ H1 λl H2=>th σ H2 λu H3=>r x l u H3 Q
theorem Av(hr:O8 X r)(he:PE X e te)(hl:PO X lo tl)(hu:PO X hi th):PE X (.Subscript e (.Slice lo hi none p2) pos) (SX r te tl th):=by
 intro pins s σ H Q I h;refine Subscript_ (cE (he pins s σ H _ I h) λv s1 aK=>?_);obtain⟨x,H1,I1,r1,q1⟩:=aK;refine wpAny_Slice (cE (hl pins s1 σ H1 _ I1 q1) λvl s2 ⟨l,H2,I2,pl,q2⟩=>cE (hu pins s2 σ H2 _ I2 q2) λvu s3 aK=>?_);obtain⟨u,H3,I3,pu,q3⟩:=aK;rw[evalPart_none];refine Vt ?_;have I4:Inv X pins σ H3 { s3 with heap:=s3.heap.push { cls:=.type "slice",data:=.fields [vl,vu,.none].toArray } }:=I3.kept (t':=s3.toks) λb ob q=>Vo _ q;obtain⟨T,id,hT,ht,hg⟩:=hr pins { s3 with heap:=s3.heap.push { cls:=.type "slice",data:=.fields [vl,vu,.none].toArray } } σ H3 x v vl vu l u s3.heap.objs.size Q I4 r1 (Heap.IsSliceOf.new ..) pl pu q3;show wpAny (model X.prog X.w) X.A (subscriptTail e (.Slice lo hi none p2) v (.ref s3.heap.objs.size)) (EP X pins σ Q) X.xe { s3 with heap:=s3.heap.push { cls:=.type "slice",data:=.fields [vl,vu,.none].toArray } };exact tail_any (ops:=[.ref s3.heap.objs.size,v]) ht hT hg (by with_unfolding_all rfl)
def sZ(xs:List V)(lo hi:Option Int):List V:=(xs.drop (HT.dw xs.length 0 lo)).take (HT.dw xs.length xs.length hi-HT.dw xs.length 0 lo)
theorem mj(xs:List V)(lo hi:Option Int):(sZ xs lo hi).length<=xs.length:=by
 unfold sZ;rw[Xq,Xr];omega
def PZ(K:Frag):V->Option Int->Option Int->Hp->VK->Prop:=λx lo hi H Q=>∃a xs,x=.ref a/\iA K H a xs /\
 ¬ (HT.dw xs.length 0 lo=0/\HT.dw xs.length xs.length hi=xs.length)/\∀p,H p=none->Q (.ref p) (upd H p (.tup (sZ xs lo hi)))
theorem HQ:O8 X (PZ X.K):=by
 intro pins s σ H x v vl vu lo hi sl Q I rx hs pl pu h;obtain⟨a,xs,rfl,hx,hw,q⟩:=h;cases rx;obtain⟨its,r,ht,hz⟩:=I.tuple hx;have hlen:its.toArray.size=xs.length:=by rw[Vx];exact r.length.symm
 refine⟨"tuple",_,PyProof.Rows.slot_tuple_getitem.lookup,ht.typeIs,?_⟩;refine HT.kD ht hs pl pu (by rw[hlen];exact hw) ?_ (by rw[hlen];exact hz);rw[hlen];refine⟨.ref s.heap.objs.size,_,I.laid (t':=s.toks) (o:=.tup (sZ xs lo hi)) (λb ob q=>Vo _ q) (Vu _) ?_,rfl,q _ (I.hok.fresh (Vu _))⟩;exact⟨VX (mj xs lo hi) hz,_,(r.drop (HT.dw xs.length 0 lo)).take (HT.dw xs.length xs.length hi-HT.dw xs.length 0 lo),IsTup.new _ _⟩
def Ma(K:Frag):R2:=λx y H Q=>∃a b xs ys,x=.ref a/\y=.ref b/\iA K H a xs/\iA K H b ys/\xs≠[]/\xs.length+ys.length<=sizeLine /\
 (ys=[]->Q (.ref a) H)/\(ys≠[]->∀p,H p=none->Q (.ref p) (upd H p (.tup (xs++ys))))
theorem Vals.qY(r:Vals xs us):us=[]↔xs=[]:=by
 cases r with
 |nil=>simp
 |cons _ _=>simp
theorem DL:jC X (binaryOp .Add) (Ma X.K):=by
 intro pins s σ H x y v u Q I rx ry h;obtain⟨a,b,xs,ys,rfl,rfl,ha,hb,hx,hz,q1,q2⟩:=h;cases rx;cases ry;obtain⟨its,r1,p1,_⟩:=I.tuple ha;obtain⟨its2,r2,p2,_⟩:=I.tuple hb;refine HT.DH p1 p2 (λz=>hx (r1.qY.mp z)) (λz=>⟨.ref a,H,I,rfl,q1 (r2.qY.mp z)⟩) (λz=>?_) (by rw[<-r1.length,<-r2.length];exact hz);refine⟨.ref s.heap.objs.size,_,I.laid (t':=s.toks) (o:=.tup (xs++ys)) (λb ob q=>Vo _ q) (Vu _) ?_,rfl,q2 (λw=>z (r2.qY.mpr w)) _ (I.hok.fresh (Vu _))⟩;exact⟨by rw[VL];exact hz,_,r1.append r2,IsTup.new _ _⟩
end
def qZ(n:Nat)(i:Int):Option Nat:=if 0<=i then (if i<n then some i.toNat else none) else if -(n:Int)<=i then some (i+n).toNat else none
def gC{α:Type}(xs:List α)(i:Int):Option α:=(qZ xs.length i).bind λj=>xs[j]?
theorem wX{n:Nat}{i:Int}{j:Nat}(h:qZ n i=some j):seqIndex? i n=some j/\j<n /\ -(n:Int)<=i/\i<n:=by
 unfold qZ at h
 by_cases h0:0<=i
 ·rw[Vv h0]at h
  by_cases h1:i<n
  ·rw[Vv h1]at h;have e:i.toNat=j:=VJ h;exact⟨by rw[seqIndex_of h0 h1,e],by omega,by omega,h1⟩
  ·rw[Vw h1]at h;cases h
 ·rw[Vw h0]at h
  by_cases h1:-(n:Int)<=i
  ·rw[Vv h1]at h;have e:(i+n).toNat=j:=VJ h;exact⟨by rw[seqIndex_neg (by omega) h1,e],by omega,h1,by omega⟩
  ·rw[Vw h1]at h;cases h
theorem rj{α:Type}{xs:List α}{i:Int}{v:α}(h:gC xs i=some v):∃j,seqIndex? i xs.length=some j/\xs[j]?=some v/\j<xs.length /\ -(xs.length:Int)<=i/\i<xs.length:=by
 unfold gC at h;cases e:qZ xs.length i with
 |none=>rw[e]at h;cases h
 |some j=>rw[e]at h;obtain⟨h1,h2,h3,h4⟩:=wX e;exact⟨j,h1,h,h2,h3,h4⟩
theorem mZ{α:Type}{xs:List α}{j:Nat}{v:α}(h:xs[j]?=some v):gC xs (j:Int)=some v:=by
 have hj:j<xs.length:=(Vn.mp h).1;have e:qZ xs.length (j:Int)=some j:=by unfold qZ;rw[Vv (by omega),Vv (by omega)];simp
 unfold gC;rw[e];exact h
def wY(b:Expr):Prop:=∀o i,subscripted b false o i=operate [o,i] (getItem o i)
def Lm(X:Cx)(r:R2):Prop :=
 ∀(value slice:Expr) (pins:List (Addr×Obj)) (s:Shared) (σ:St) (H:Hp) (x y:V) (v u:Value) (Q:VK),Inv X pins σ H s->RelV x v->RelV y u->r x y H Q ->
  subscripted slice false v u=operate [v,u] (getItem v u)->wpAny (model X.prog X.w) X.A (subscriptTail value slice v u) (EP X pins σ Q) X.xe s
def HS(X:Cx)(id:String)(r:V->List V->Hp->VK->Prop):Prop :=
 ∀(pins:List (Addr×Obj)) (s:Shared) (σ:St) (H:Hp) (x:V) (xs:List V) (v:Value) (us:List Value) (Q:VK),Inv X pins σ H s->RelV x v->Vals xs us->r x xs H Q ->
  wpAny (model X.prog X.w) X.A (call (.builtin id) (v::us)) (EP X pins σ Q) X.xe s
section
variable {X:Cx} {a b:Expr} {ta tb:TE} {pos:Pos}
theorem Mb(hr:Lm X r)(ha:PE X a ta)(hb:PE X b tb)(hs:wY b):PE X (.Subscript a b pos) (O6 r ta tb):=by
 intro pins s σ H Q I h;exact Subscript_ (Hw ha hb I h λv u s2 x y H2 I2 rx ry q=>hr a b pins s2 σ H2 x y v u Q I2 rx ry q (hs _ _))
def P0(K:Frag):R2:=λx y H Q=>∃p xs i v,x=.ref p/\y=.int i/\fN K H p xs/\gC xs i=some v/\Q v H
def P1(K:Frag):R2:=λx y H Q=>∃p xs i v,x=.ref p/\y=.int i/\iA K H p xs/\gC xs i=some v/\Q v H
def P4:R2:=λx y H Q=>∃z i c,x=.str z/\y=.int i/\z.length<=sizeLine/\gC z.cps.toList i=some c/\Q (.str ⟨[c].toArray⟩) H
theorem wZ:Lm X (P0 X.K):=by
 intro value slice pins s σ H x y v u Q I rx ry h hs;obtain⟨p,xs,i,z,rfl,rfl,hq,he,q⟩:=h;cases rx;obtain⟨t,rfl⟩:=ry;obtain⟨its,r,pl,hz⟩:=I.list hq;obtain⟨j,h1,h2,h3,h4,h5⟩:=rj he;obtain⟨w,ew,rw'⟩:=r.get h2;have hl:=r.length;have hn:=lF;have fin:EP X pins σ Q w s:=⟨z,H,I,rw',q⟩
 by_cases h0:0<=i
 ·have hj:i.toNat=j:=by
   rw[seqIndex_of h0 h5]at h1;exact VJ h1
  exact item_listR pl.isList h0 (by omega) (by rw[hj];simpa using ew) fin hs
 ·have hj:(i+(its.toArray.size:Int)).toNat=j:=by
   rw[seqIndex_neg (by omega) h4]at h1;rw[Vx,<-hl];exact VJ h1
  exact subscriptTail_builtinR (x:=w) pl.isList.typeIs slot_list_getitem.lookup
   (wpAny_getItem_list_neg (Q:=λr s'=>r=w/\EP X pins σ Q r s') pl.isList (by omega) (by rw[Vx]<;>omega) (by omega) (by rw[hj];simpa using ew) ⟨rfl,fin⟩) hs
theorem HU:Lm X (P1 X.K):=by
 intro value slice pins s σ H x y v u Q I rx ry h hs;obtain⟨p,xs,i,z,rfl,rfl,hq,he,q⟩:=h;cases rx;obtain⟨t,rfl⟩:=ry;obtain⟨its,r,pl,hz⟩:=I.tuple hq;obtain⟨j,h1,h2,h3,h4,h5⟩:=rj he;obtain⟨w,ew,rw'⟩:=r.get h2;have hl:=r.length;have hn:=lF;have fin:EP X pins σ Q w s:=⟨z,H,I,rw',q⟩;exact subscriptTail_builtinR (x:=w) pl.typeIs slot_tuple_getitem.lookup
  (getItem_tuple (j:=j) (Q:=λr s'=>r=w/\EP X pins σ Q r s') pl (by omega) (by omega) (by rw[Vx,<-hl];exact h1) (by simpa using ew) ⟨rfl,fin⟩) hs
theorem HV:Lm X P4:=by
 intro value slice pins s σ H x y v u Q I rx ry h hs;obtain⟨z,i,c,rfl,rfl,hz,he,q⟩:=h;obtain⟨t,rfl⟩:=rx;obtain⟨t',rfl⟩:=ry;obtain⟨j,h1,h2,h3,h4,h5⟩:=rj he;have hl:z.cps.toList.length=z.length:=by simp[Str.length]
 rw[hl]at h1 h4 h5;have hn:=lF;exact tail_any (typeIs_str s z t) slot_str_getitem.lookup (getItem_str (c:=c) (by
  have e1:decide (i < -(2 ^ 63:Int))=false:=decide_eq_false (by omega);have e2:decide (i≥2 ^ 63)=false:=decide_eq_false (by omega);rw[e1,e2,Bool.or_false]) (by rw[h1];simpa using h2) ⟨.str ⟨[c].toArray⟩,H,I.tok _,⟨_,rfl⟩,q⟩) hs
theorem vv(its:List Value)(n j:Nat)(u:Value):Obj.mapSeq (·.setIfInBounds j u) { cls:=.type "list",data:=.seq its.toArray n }={ cls:=.type "list",data:=.seq (its.set j u).toArray n }:=by
 simp[Obj.mapSeq]
theorem Inv.lst(I:Inv X pins σ H s)(h:H p=some (.lst xs)) :
  ∃(its:List Value) (n:Nat),Vals xs its/\s.heap.get? p=some { cls:=.type "list",data:=.seq its.toArray n }/\xs.length<=sizeLine:=by
 obtain⟨z,its,n,r,e⟩:=I.hok p _ h;exact⟨its,n,r,e,z⟩
theorem Inv.HW{pins:List (Addr×Obj)}{σ:St}{H:Hp}{s:Shared}{p:Addr}{xs ys:List V}{its its':List Value}{n n':Nat}{f:Obj->Obj}(I:Inv X pins σ H s)(h:H p=some (.lst xs))
  (ho:s.heap.get? p=some { cls:=.type "list",data:=.seq its.toArray n }) (hf:f { cls:=.type "list",data:=.seq its.toArray n }={ cls:=.type "list",data:=.seq its'.toArray n' }) (r:Vals ys its') (hz:ys.length<=sizeLine) (t:Nat) :
  Inv X pins σ (upd H p (.lst ys)) { s with heap:=s.heap.update p f,toks:=t }:=by
 have e:(s.heap.update p f).get? p=some { cls:=.type "list",data:=.seq its'.toArray n' }:=by rw[V7 f ho (by rw[hf]<;>rfl),hf]
 refine I.write (x:=p) (e:=p) (by rw[h];trivial) (.inl rfl) (λb u hb q=>(WQ _ _ (Ne.symm hb)).trans q) ⟨_,e⟩ ?_;exact⟨hz,its',n',r,e⟩
def Mc:V->V->V->Hp->(Hp->Prop)->Prop:=λo i v H Q=>∃p xs k j,o=.ref p/\i=.int k/\H p=some (.lst xs)/\qZ xs.length k=some j/\Q (upd H p (.lst (xs.set j v)))
theorem set_list:Hq X Mc:=by
 intro pins s σ H o i v ov iv u Q I ro ri rv h;obtain⟨p,xs,k,j,rfl,rfl,hp,hj,q⟩:=h;cases ro;obtain⟨t,rfl⟩:=ri;obtain⟨its,n,r,ho,hz⟩:=I.lst hp;obtain⟨h1,h2,h3,h4⟩:=wX hj;have hl:=r.length;have hn:=lF;have I':Inv X pins σ (upd H p (.lst (xs.set j v))) { s with heap:=s.heap.update p (Obj.mapSeq (·.setIfInBounds j u)) } :=
  I.HW hp ho (vv its n j u) (r.set rv j) (by rw[XO];exact hz) s.toks
 by_cases h0:0<=k
 ·have hk:k.toNat=j:=by
   rw[seqIndex_of h0 h4]at h1;exact VJ h1
  exact PySem.W.ki_setAt ho h0 (by omega) (by rw[Vx,<-hl];exact h4) (by rw[hk];exact⟨_,I',q⟩)
 ·have hk:(k+(its.toArray.size:Int)).toNat=j:=by
   rw[seqIndex_neg (by omega) h3]at h1;rw[Vx,<-hl];exact VJ h1
  exact PySem.W.ki_setBack ho (by omega) (by rw[Vx,<-hl];exact h3) (by omega) (by rw[hk];exact⟨_,I',q⟩)
theorem rm(lo hi:Option Int)(n:Nat):(sliceBounds lo hi none n).1=((HT.dw n 0 lo:Nat):Int)/\(sliceBounds lo hi none n).2.1=((HT.dw n n hi:Nat):Int)/\(sliceBounds lo hi none n).2.2=1:=by
 refine⟨?_,?_,rfl⟩
 ·cases lo with
  |none=>simp[sliceBounds,HT.dw]
  |some i=>
   simp only[sliceBounds,HT.dw,getD_none,show (1:Int)>0 by decide,if_true]
   by_cases h:i<0
   ·simp only[h,if_true]<;>omega
   ·simp only[h,if_false]<;>omega
 ·cases hi with
  |none=>simp[sliceBounds,HT.dw]
  |some i=>
   simp only[sliceBounds,HT.dw,getD_none,show (1:Int)>0 by decide,if_true]
   by_cases h:i<0
   ·simp only[h,if_true]<;>omega
   ·simp only[h,if_false]<;>omega
theorem o9(its:List Value)(lo hi:Option Int):slicePick its.toArray lo hi none=((its.drop (HT.dw its.length 0 lo)).take (HT.dw its.length its.length hi-HT.dw its.length 0 lo)).toArray:=by
 obtain⟨h1,h2,h3⟩:=rm lo hi its.toArray.size;unfold slicePick;rw[h1,h2,h3];simp only[sliceRange_one,pick_run,size_toArray]<;>rfl
def P5(K:Frag):V->Option Int->Option Int->Hp->VK->Prop:=λx lo hi H Q=>∃a xs,x=.ref a/\fN K H a xs/\∀p,H p=none->Q (.ref p) (upd H p (.lst (sZ xs lo hi)))
theorem DM:O8 X (P5 X.K):=by
 intro pins s σ H x v vl vu lo hi sl Q I rx hs pl pu h;obtain⟨a,xs,rfl,hx,q⟩:=h;cases rx;obtain⟨its,r,ht,hz⟩:=I.list hx;have hlen:=r.length;refine⟨"list",_,slot_list_getitem.lookup,ht.isList.typeIs,?_⟩;refine wpAny_getItem_list_slice ht.isList hs pl pu .none (by simp) ?_ (by rw[Vx]<;>omega);rw[o9,<-hlen];refine⟨.ref s.heap.objs.size,_,I.laid (t':=s.toks) (o:=.lst (sZ xs lo hi)) (λb ob q=>Vo _ q) (Vu _) ?_,rfl,q _ (I.hok.fresh (Vu _))⟩;exact⟨VX (mj xs lo hi) hz,_,0,(r.drop (HT.dw xs.length 0 lo)).take (HT.dw xs.length xs.length hi-HT.dw xs.length 0 lo),VB _ rfl⟩
def bE:V->Bool
 |.non=>true
 |.bl _=>true
 |.int _=>true
 |.str _=>true
 |_=>false
theorem rq:bU X (.type "list") (λxs H Q=>∃p ys,xs=[.ref p]/\(fN X.K H p ys\/iA X.K H p ys)/\∀l,H l=none->Q (.ref l) (upd H l (.lst ys))):=by
 intro pins s σ H xs us Q I r h;obtain⟨p,ys,rfl,hq,q⟩:=h;obtain⟨u,rfl,rx⟩:=vals1 r;cases rx;have fin:∀(its:List Value),Vals ys its->ys.length<=sizeLine->∀(h':Heap) (c':Nat),(∀b o',s.heap.get? b=some o'->h'.get? b=some o') ->
   h'.get? s.heap.objs.size=some { cls:=.type "list",dict:=none,data:=.seq its.toArray c',slots:=#[] }->EP X pins σ Q (.ref s.heap.objs.size) { s with heap:=h' }:=λits r' hz h' c' kp e=>
  ⟨.ref s.heap.objs.size,_,I.laid (t':=s.toks) kp (Vu _) (show cg X.prog X.w _ h' _ (.lst ys) from⟨hz,its,c',r',e⟩),rfl,q _ (I.hok.fresh (Vu _))⟩
 rcases hq with hq|hq
 ·obtain⟨its,r',pl,hz⟩:=I.list hq;have hlen:=r'.length;obtain⟨o,ho,hc,n,hd⟩:=pl.isList;exact call_list_seq p (.inl rfl) ho hc hd (λh' c' kp e=>fin its r' hz h' c' kp e) (by simp only[size_toArray]<;>omega)
 ·obtain⟨its,r',pl,hz⟩:=I.tuple hq;have hlen:=r'.length;obtain⟨o,ho,hc,n,hd⟩:=pl;exact call_list_seq p (.inr rfl) ho hc hd (λh' c' kp e=>fin its r' hz h' c' kp e) (by simp only[size_toArray]<;>omega)
theorem jV:bU X (.type "tuple") (λxs H Q=>∃p ys,xs=[.ref p]/\((fN X.K H p ys/\∀l,H l=none->Q (.ref l) (upd H l (.tup ys)))\/(iA X.K H p ys/\Q (.ref p) H))):=by
 intro pins s σ H xs us Q I r h;obtain⟨p,ys,rfl,h⟩:=h;obtain⟨u,rfl,rx⟩:=vals1 r;cases rx
 rcases h with ⟨hq,q⟩|⟨hq,q⟩
 ·obtain⟨its,r',pl,hz⟩:=I.list hq
  have hlen:=r'.length;refine call_tuple_list pl.isList (λh' kp=>?_) (by simp only[size_toArray]<;>omega);have I1:Inv X pins σ H { s with heap:=h' }:=I.kept (t':=s.toks) kp;have I2:Inv X pins σ (upd H h'.objs.size (.tup ys)) { s with heap:=h'.push { cls:=.type "tuple",data:=.seq its.toArray } } :=
   I1.laid (t':=s.toks) (λb o e=>Vo _ e) (Vu _) (show cg X.prog X.w _ _ _ (.tup ys) from⟨hz,its,r',IsTup.new _ _⟩)
  exact⟨.ref h'.objs.size,_,I2,rfl,q _ (I1.hok.fresh (Vu _))⟩
 ·obtain⟨its,r',pl,hz⟩:=I.tuple hq;exact call_tuple_same pl ⟨.ref p,H,I,rfl,q⟩
def P6(K:Frag)(T:String)(x:V)(H:Hp):Prop:=match x with
 |.str _=>T = "str"
 |.int _=>T = "int"
 | .ref p=>(T = "list" /\ ∃xs,fN K H p xs)\/(T = "tuple" /\ ∃o,K.lookup p=some o/\o.cls=.type "tuple" /\ o.dict=none) \/
   (T = "dict" /\ ((∃kvs,H p=some (.dK kvs))\/∃kvs,H p=some (.dT kvs)))\/(T = "set" /\ ∃S n,H p=some (.set S n))
 |_=>False
theorem HX{T:String}(I:Inv X pins σ H s)(r:RelV x v)(ty:P6 X.K T x H) :
  s.TypeIs v T/\∀a,v=.ref a->∃ob,s.heap.get? a=some ob/\ob.dict=none:=by
 cases x with
 |str z=>obtain⟨t,rfl⟩:=r;cases (show T = "str" from ty);exact⟨typeIs_str s z t,λ_ e=>nomatch e⟩
 |int i=>obtain⟨t,rfl⟩:=r;cases (show T = "int" from ty);exact⟨typeIs_int s i t,λ_ e=>nomatch e⟩
 |ref p=>
  cases r
  rcases ty with ⟨rfl,xs,hq⟩|⟨rfl,o,hk,hc,hd⟩|⟨rfl,hk⟩|⟨rfl,S,n,hk⟩
  ·obtain⟨its,_,pl,_⟩:=I.list hq;refine⟨pl.isList.typeIs,λa e=>?_⟩;cases e;obtain⟨o,n,e,c,hd,_⟩:=pl;exact⟨o,e,hd⟩
  ·refine⟨⟨o,I.qT p o hk,hc⟩,λa e=>?_⟩;cases e;exact⟨o,I.qT _ o hk,hd⟩
  ·have z:∃o,s.heap.get? p=some o/\o.ExactDict:=by
    rcases hk with ⟨kvs,hk⟩|⟨kvs,hk⟩
    ·obtain⟨_,_,_,_,o,_,_,e,ex,_⟩:=I.hok p _ hk;exact⟨o,e,ex⟩
    ·obtain⟨_,_,_,_,o,_,_,e,ex,_⟩:=I.hok p _ hk;exact⟨o,e,ex⟩
   obtain⟨o,e,ex⟩:=z;refine⟨⟨o,e,ex.1⟩,λa e2=>?_⟩;cases e2;exact⟨o,e,ex.2.1⟩
  ·obtain⟨o,_,_,_,e,ex,_⟩:=I.hok p _ hk;refine⟨⟨o,e,ex.1⟩,λa e2=>?_⟩;cases e2;exact⟨o,e,ex.2.1⟩
 |_=>exact False.elim ty
def Rx(K:Frag)(T:String)(r:V->List V->Hp->VK->Prop)(to:TE)(t:TA):TE:=λσ H Q=>to σ H λx H1=>P6 K T x H1/\t σ H1 λxs H2=>r x xs H2 Q
variable {o e:Expr} {es:List Expr} {to:TE} {t:TA} {name:Str} {apos cpos:Pos} {T id:String} {r:V->List V->Hp->VK->Prop}
theorem tu(pa:PlainAttrs T)(slot:Slot T name id)(hty:typeOf (.builtin id)=pure (.type "method_descriptor"))(hm:HS X id r)(ho:PE X o to)(ha:PA X (e::es) t)
  (hbase:attributeBase o name X.env (eval o X.env)=eval o X.env)
  (hfew:((backTo cpos (starEach (e::es) X.env)).all (λx=>!x.1)&&(backToKw cpos (keywordEach [] X.env)).all (λx=>x.1.isSome)
   && decide ((e::es).length+([]:List Keyword).length+(if ([]:List Keyword).isEmpty then 0 else 1)<30))=true)
  (hline:(apos.endLine==cpos.line)=true) (hs:starEach (e::es) X.env=(false,eval e X.env)::starEach es X.env) (hplain:(backTo cpos (starEach es X.env)).any (·.1)=false) :
  PE X (.Call (.Attribute o name apos) (e::es) [] cpos) (Rx X.K T r to t):=by
 intro pins s σ H Q I h;refine wpAny_Call_method_late hbase hfew hline rfl (cE (ho pins s σ H _ I h) λv s1 aK=>?_);obtain⟨x,H1,I1,r1,ty,q1⟩:=aK;obtain⟨h1,h2⟩:=HX I1 r1 ty;refine⟨T,id,pa,slot,hty,h1,h2,?_⟩;have hA:=ha cpos pins s1 σ H1 _ I1 q1;rw[hs]at hA |-;refine Calls.callWith_builtin (by show (false||(backTo cpos (starEach es X.env)).any (·.1))=false;rw[hplain]<;>rfl) (Calls.evalArgs_plain ?_);exact cE hA λus s2 ⟨vs,H2,I2,r2,q2⟩=>hm pins s2 σ H2 x vs v us Q I2 r1 r2 q2
/- xs.append(e),list.index on a Mf tuple .. are HS facts of 06m -/
end
def Lo(X:Cx)(id:String)(r:V->List V->Hp->VK->Prop):Prop :=
 ∀(pins:List (Addr×Obj)) (s:Shared) (σ:St) (H:Hp) (x:V) (xs:List V) (v:Value) (us:List Value) (Q:VK),Inv X pins σ H s->RelV x v->Vals xs us->r x xs H Q ->
  wpAny (model X.prog X.w) X.A (call (.builtin id) (v::us)) (EP X pins σ Q) X.xe s
theorem Vals.one:∀{x:V} {us:List Value},Vals [x] us->∃u,us=[u]/\RelV x u
 |_,_,.cons r .nil=>⟨_,rfl,r⟩
theorem Vals.eraseIdx:∀{xs:List V} {us:List Value} (i:Nat),Vals xs us->Vals (xs.eraseIdx i) (us.eraseIdx i)
 |_,_,_,.nil=>.nil
 |_,_,0,.cons _ t=>t
 |_,_,i+1,.cons r t=>.cons r (Vals.eraseIdx i t)
theorem pU{α:Type}:∀(l:List α) (i:Nat),(l.eraseIdx i).length<=l.length
 |[],_=>Vu _
 |_::_,0=>Wr _
 |_::r,i+1=>Nat.succ_le_succ (pU r i)
section
variable {X:Cx} {pins:List (Addr×Obj)} {σ:St} {H:Hp} {s:Shared} {l b:Addr} {xs ys zs:List V}
theorem Inv.DN{its its':List Value}{n:Nat}{f:Array Value->Array Value}{t':Nat}(I:Inv X pins σ H s)(hH:H l=some (.lst xs))
  (e:s.heap.get? l=some { cls:=.type "list",data:=.seq its.toArray n }) (hf:f its.toArray=its'.toArray) (hv:Vals ys its') (hz:ys.length<=sizeLine) :
  Inv X pins σ (upd H l (.lst ys)) { s with heap:=s.heap.update l (Obj.mapSeq f),toks:=t' }:=by
 have q:=PySem.IsL.update e f;rw[hf]at q;refine I.write (x:=l) (e:=l) (by rw[hH];exact trivial) (.inl rfl) (λb' u hb hu=>(WQ s.heap (Obj.mapSeq f) (Ne.symm hb)).trans hu) ⟨_,q⟩ ?_;exact⟨hz,its',_,hv,q⟩
theorem Inv.P7{t':Nat}(I:Inv X pins σ H s)(hv:Vals ys its)(hz:ys.length<=sizeLine) :
  Inv X pins σ (upd H s.heap.objs.size (.lst ys)) { s with heap:=s.heap.push { cls:=.type "list",data:=.seq its.toArray },toks:=t' } :=
 I.laid (λ_ _ q=>Vo _ q) (Vu _) ⟨hz,its,0,hv,VB _ rfl⟩
theorem Inv.Aw(I:Inv X pins σ H s)(hH:H l=some (.lst xs)):xs.length<=sizeLine/\∃(its:List Value) (n:Nat),Vals xs its/\xs.length=its.length/\s.heap.get? l=some { cls:=.type "list",data:=.seq its.toArray n }:=by
 obtain⟨z,its,n,r,e⟩:=I.hok l _ hH;exact⟨z,its,n,r,r.length,e⟩
theorem tw{n:Nat}(h:n<=sizeLine):Builtin.List.listTooLong n=false:=by
 unfold Builtin.List.listTooLong;exact decide_eq_false (by omega)
end
section
variable {X:Cx}
def DO:V->List V->Hp->VK->Prop:=λx vs H Q=>∃l xs y,x=.ref l/\vs=[y]/\H l=some (.lst xs)/\xs.length<sizeLine/\Q .non (upd H l (.lst (xs++[y])))
theorem pV:Lo X "list.append" DO:=by
 intro pins s σ H x vs v us Q I rx rv h;obtain⟨l,xs,y,rfl,rfl,hH,hz,q⟩:=h;cases rx;obtain⟨u,rfl,ru⟩:=rv.one;obtain⟨z,its,n,r,hl,e⟩:=I.Aw hH;refine XI F.slot_list_append ⟨_,e,rfl⟩ F.entry_list_append (F.args_list_append_2 _ _) (PySem.list_append l its.toArray n u (by rw[Vx];omega)) ⟨e,?_⟩;refine⟨.non,_,I.DN (its':=its++[u]) hH e (by simp) (r.append #[ru]) ?_,rfl,q⟩;rw[VL,List.length_singleton];omega
def DP:V->List V->Hp->VK->Prop:=λx vs H Q=>∃l b xs zs,x=.ref l/\vs=[.ref b]/\H l=some (.lst xs)/\H b=some (.lst zs)/\xs.length+zs.length<=sizeLine/\Q .non (upd H l (.lst (xs++zs)))
theorem yM:Lo X "list.extend" DP:=by
 intro pins s σ H x vs v us Q I rx rv h;obtain⟨l,b,xs,zs,rfl,rfl,hH,hB,hz,q⟩:=h;cases rx;obtain⟨u,rfl,ru⟩:=rv.one;cases ru;obtain⟨z,its,n,r,hl,e⟩:=I.Aw hH;obtain⟨z2,its2,n2,r2,hl2,e2⟩:=I.Aw hB;have hsz:its.toArray.size+its2.toArray.size<=sizeLine:=by rw[Vx,Vx];omega
 have Ax:¬ (!its.toArray.isEmpty&&Builtin.List.listTooLong (its.toArray.size+its2.toArray.size))=true:=by rw[tw hsz,Bool.and_false];exact Vl
 refine XI F.slot_list_extend ⟨_,e,rfl⟩ F.entry_list_extend (F.args_list_extend_2 _ _)
  (AutoSeq1.list_extend_list_list_0 l its.toArray n b its2.toArray n2 Ax (by rw[Vx];omega) (by omega)) ⟨e,e2,?_⟩
 refine⟨.non,_,I.DN (its':=its++its2) hH e (by simp) (r.append r2) ?_,rfl,q⟩;rw[VL];omega
end
section
variable {κ:Type} [DecidableEq κ]
def gD(kvs:List (κ × V))(k:κ):Option V:=(kvs.find? λkv=>decide (kv.1=k)).map (·.2)
def putK(kvs:List (κ × V))(k:κ)(v:V):List (κ × V) :=
 if (kvs.any λkv=>decide (kv.1=k))=true then kvs.map (λkv=>if kv.1=k then (kv.1,v) else kv) else kvs++[(k,v)]
theorem ni{p:κ × V}{r:List (κ × V)}{k:κ}(e:p.1=k):gD (p::r) k=some p.2:=by simp[gD,find?_cons,e]
theorem nj{p:κ × V}{r:List (κ × V)}{k:κ}(e:¬ p.1=k):gD (p::r) k=gD r k:=by simp[gD,find?_cons,e]
theorem tB(k:κ):∀kvs:List (κ × V),(kvs.any λkv=>decide (kv.1=k))=(gD kvs k).isSome
 |[]=>rfl
 | p::r=>by
  rw[W9]
  by_cases e:p.1=k
  ·simp only[ni e,decide_eq_true e,Bool.true_or,Option.isSome_some]
  ·rw[nj e,decide_eq_false e,Bool.false_or];exact tB k r
theorem iX(kvs:List (κ × V))(k:κ)(v:V):(putK kvs k v).length<=kvs.length+1:=by
 unfold putK
 split
 ·rw[Vp];omega
 ·rw[VL,VQ,XQ];omega
theorem o4.gE(r:o4 o u):o.isSome=u.isSome:=by
 cases o with
 | none=>cases u with
  |none=>rfl
  |some _=>exact(show False from r).elim
 | some _=>cases u with
  |none=>exact(show False from r).elim
  |some _=>rfl
theorem KV.val(r:KV kvs vs)(k:κ):o4 (gD kvs k) (valueAt vs k):=by
 unfold KV at r
 induction r with
 |nil=>exact Wu
 |@cons p q ps qs h t ih=>
  obtain⟨h1,h2⟩:=h
  by_cases e:p.1=k
  ·have e':q.1=k:=h1.symm.trans e
   have b:valueAt (q::qs) k=some q.2:=by simp[valueAt,find?_cons,e']
   rw[ni e,b];exact h2
  ·have e':¬ q.1=k:=λz=>e (h1.trans z)
   have b:valueAt (q::qs) k=valueAt qs k:=by simp[valueAt,find?_cons,e']
   rw[nj e,b];exact ih
theorem KV.any(r:KV kvs vs)(k:κ):(kvs.any λkv=>decide (kv.1=k))=vs.any λkv=>decide (kv.1=k):=by
 unfold KV at r
 induction r with
 |nil=>rfl
 |cons h t ih=>rw[W9,W9,ih,h.1]
theorem KV.repl(r:KV kvs vs)(k:κ)(ry:RelV y u) :
  KV (kvs.map λkv=>if kv.1=k then (kv.1,y) else kv) (vs.map λkv=>if kv.1=k then (kv.1,u) else kv):=by
 unfold KV at r |-
 induction r with
 |nil=>exact .nil
 |@cons p q ps qs h t ih=>
  rw[VC,VC];refine .cons ?_ ih;obtain⟨h1,h2⟩:=h
  by_cases e:p.1=k
  ·rw[Vv e,Vv (h1.symm.trans e)];exact⟨h1,ry⟩
  ·rw[Vw e,Vw (λz=>e (h1.trans z))];exact⟨h1,h2⟩
theorem KV.put(r:KV kvs vs)(k:κ)(ry:RelV y u):KV (putK kvs k y) (stored vs k u):=by
 unfold putK stored;rw[r.any k]
 by_cases e:(vs.any λkv=>decide (kv.1=k))=true
 ·rw[Vv e,Vv e];exact r.repl k ry
 ·rw[Vw e,Vw e];exact Paired.snoc r ⟨rfl,ry⟩
theorem KV.length(r:KV kvs vs):kvs.length=vs.length:=XH r
end
theorem pW(r:RelV (kV k) u):(bX P w).is k u=true:=by
 cases k with
 |inl i=>obtain⟨t,e⟩:=(show ∃t,u=Value.int i t from r);subst e;exact sN P w i t
 |inr x=>obtain⟨t,e⟩:=(show ∃t,u=Value.str x t from r);subst e;exact sO P w x t
theorem pX:∀{ks:List Key} {us:List Value},Vals (ks.map kV) us->ItemsAre (bX P w) ks us
 |[],_,r=>by rw[WJ]at r;cases r;exact .nil
 | k::ks,_,r=>by
  rw[VC]at r;cases r with
  |cons h t=>exact .cons (pW h) (pX t)
abbrev KT(H:Hp):List (List Key×V)->List (List Key×Addr×Value)->Prop:=Paired λp q=>p.1=q.1/\H q.2.1=some (.tup (p.1.map kV))/\RelV p.2 q.2.2
theorem KT.val(r:KT H kvs xs)(k:List Key):o4 (gD kvs k) ((atKey xs k).map (·.2)):=by
 induction r with
 |nil=>exact Wu
 |@cons p q ps qs h t ih=>
  obtain⟨h1,_,h2⟩:=h
  by_cases e:p.1=k
  ·have e':q.1=k:=h1.symm.trans e
   have b:atKey (q::qs) k=some q.2:=by simp[atKey,find?_cons,e']
   rw[ni e,b];exact h2
  ·have e':¬ q.1=k:=λz=>e (h1.trans z)
   have b:atKey (q::qs) k=atKey qs k:=by simp[atKey,find?_cons,e']
   rw[nj e,b];exact ih
theorem KT.repl(r:KT H kvs xs)(k:List Key)(ry:RelV y u) :
  KT H (kvs.map λkv=>if kv.1=k then (kv.1,y) else kv) (xs.map (putAt k u)):=by
 induction r with
 |nil=>exact .nil
 |@cons p q ps qs h t ih=>
  rw[VC,VC];refine .cons ?_ ih;obtain⟨h1,h2,h3⟩:=h;unfold putAt
  by_cases e:p.1=k
  ·rw[Vv e,Vv (h1.symm.trans e)];exact⟨h1,h2,ry⟩
  ·rw[Vw e,Vw (λz=>e (h1.trans z))];exact⟨h1,h2,h3⟩
theorem KT.put(r:KT H kvs xs)(k:List Key)(hb:H b=some (.tup (k.map kV)))(ry:RelV y u) :
  KT H (putK kvs k y) (storedH xs k b u):=by
 have e:(kvs.any λkv=>decide (kv.1=k))=(atKey xs k).isSome:=by rw[tB,(r.val k).gE,Xj]
 unfold putK storedH;rw[e]
 by_cases q:(atKey xs k).isSome=true
 ·rw[Vv q,Vv q];exact r.repl k ry
 ·rw[Vw q,Vw q];exact Paired.snoc r ⟨rfl,hb,ry⟩
theorem KT.keeps(r:KT H kvs xs)(ht:∀b ys,H b=some (.tup ys)->H' b=some (.tup ys)):KT H' kvs xs :=
 Paired.GQ r λ_ _ z=>⟨z.1,ht _ _ z.2.1,z.2.2⟩
section
variable {P:Program} {w:World} {H:Hp} {h:Heap} {a:Addr}
theorem Gd(ok:ko P w H h)(e:Rd H a u):cg P w H h a u:=e.ok ok
theorem pY(ok:ko P w H h)(e:Rd H a (.dK kvs)):kvs.length<=sizeLine/\(a==sysModules)=false/\∃vs,KV kvs vs/\h.DictOf (bX P w) a vs :=
 show cg P w H h a (.dK kvs) from Gd ok e
theorem Ge(ok:ko P w H h)(e:H a=some (.dK kvs)):kvs.length<=sizeLine/\(a==sysModules)=false/\∃vs,KV kvs vs/\h.DictOf (bX P w) a vs:=pY ok (.inl e)
theorem nk(ok:ko P w H h)(e:H a=some (.tup (ks.map kV))):(tupleKind (bX P w)).is h ks a:=by
 obtain⟨_,its,r,o,h1,h2,n,h3⟩:=(show cg P w H h a (.tup (ks.map kV)) from ok a _ e);exact⟨o,its.toArray,n,h1,h2,h3,by simpa using pX r⟩
theorem tD(ok:ko P w H h)(e:Rd H a (.dT kvs)):kvs.length<=sizeLine/\(a==sysModules)=false /\
  ∃xs,KT H kvs xs/\h.DictOfH (tupleKind (bX P w)) a xs:=by
 obtain⟨z,y,xs,r,o,es,ep,h1,h2,h3,h4,h5⟩:=(show cg P w H h a (.dT kvs) from Gd ok e);refine⟨z,y,xs,r,o,es,ep,h1,h2,h3,h4,λx hx=>?_,h5⟩;have all:∀{l:List (List Key×V)} {m:List (List Key×Addr×Value)},KT H l m->∀x∈m,(tupleKind (bX P w)).is h x.1 x.2.1:=by
  intro l m q
  induction q with
  |nil=>intro x hx;exact nomatch hx
  |@cons p q ps qs hq t ih=>
   intro x hx
   rcases VF.mp hx with e|hx
   ·subst e;exact nk ok (by rw[<-hq.1];exact hq.2.1)
   ·exact ih x hx
 exact all r x hx
theorem Mg(ok:ko P w H h)(e:H a=some (.dT kvs)):kvs.length<=sizeLine/\(a==sysModules)=false /\
  ∃xs,KT H kvs xs/\h.DictOfH (tupleKind (bX P w)) a xs:=tD ok (.inl e)
end
def lH(H:Hp)(a:Addr)(y:V)(r:Option V):Prop :=
 (∃kvs k,Rd H a (.dK kvs)/\y=kV k/\r=gD kvs k)\/∃kvs k b,Rd H a (.dT kvs)/\y=.ref b/\H b=some (.tup (k.map kV))/\r=gD kvs k
def DQ(H:Hp)(a:Addr)(y v:V)(H':Hp):Prop :=
 (∃kvs k,H a=some (.dK kvs)/\y=kV k/\kvs.length<sizeLine/\H'=upd H a (.dK (putK kvs k v))) \/
 ∃kvs k b,H a=some (.dT kvs)/\y=.ref b/\H b=some (.tup (k.map kV))/\kvs.length<sizeLine/\H'=upd H a (.dT (putK kvs k v))
theorem lH.k{H:Hp}{a:Addr}{kvs:List (Key×V)}{k:Key}(e:H a=some (.dK kvs)):lH H a (kV k) (gD kvs k):=.inl ⟨kvs,k,.inl e,rfl,rfl⟩
theorem DQ.k{H:Hp}{a:Addr}{kvs:List (Key×V)}{k:Key}{v:V}(e:H a=some (.dK kvs))(hl:kvs.length<sizeLine):DQ H a (kV k) v (upd H a (.dK (putK kvs k v))):=.inl ⟨kvs,k,e,rfl,hl,rfl⟩
section
variable {X:Cx} {pins:List (Addr×Obj)} {σ:St} {H:Hp} {s:Shared} {a:Addr} {y v:V} {u r:Value} {o:Option V} {A:Around} {E:Value->Shared->Prop}
theorem Inv.big(I:Inv X pins σ H s):sysModules<s.heap.objs.size:=by
 have h:mainGlobals<s.heap.objs.size:=(I.mod.glob.keeps I.bk).lt;exact XJ (by decide) h
theorem yN(hu:A.units+1<cLine)(I:Inv X pins σ H s)(g:lH H a y (some v))(ry:RelV y u)(h:∀w' s',Inv X pins σ H s'->RelV v w'->Q w' s') :
  wpAny (model X.prog X.w) A (getItem (.ref a) u) Q E s:=by
 rcases g with ⟨kvs,k,e,ey,l⟩|⟨kvs,k,b,e,ey,eb,l⟩
 ·subst ey;obtain⟨z,hd,vs,rel,dd⟩:=pY I.hok e;obtain⟨w',hw,rw'⟩:=o4.some_of (v:=v) (o:=valueAt vs k) (by rw[l];exact rel.val k);exact wpAny_getItem_of (pW ry) dd.mapOf hw (h w' _ (I.tok _) rw')
 ·subst ey;cases (show u=Value.ref b from ry);obtain⟨z,hd,xs,rel,dd⟩:=tD I.hok e;obtain⟨w',hw,rw'⟩:=o4.some_of (v:=v) (o:=(atKey xs k).map (·.2)) (by rw[l];exact rel.val k);obtain⟨p,hp,hp2⟩:=VS.mp hw;refine wpAny_getItem_heap (Xe hu) (nk I.hok eb) dd hp ?_;rw[hp2];exact h w' _ (I.tok _) rw'
theorem P8(hu:A.units+1<cLine)(I:Inv X pins σ H s)(g:lH H a y o)(ry:RelV y u)(h:∀s',Inv X pins σ H s'->Q (.bool o.isSome) s') :
  wpAny (model X.prog X.w) A (compareOp .In u (.ref a)) Q E s:=by
 rcases g with ⟨kvs,k,e,ey,l⟩|⟨kvs,k,b,e,ey,eb,l⟩
 ·subst ey;obtain⟨z,hd,vs,rel,dd⟩:=pY I.hok e;refine wpAny_in_of (pW ry) hd dd.mapOf ?_;rw[<-(rel.val k).gE,<-l];exact h _ (I.tok _)
 ·subst ey;cases (show u=Value.ref b from ry);obtain⟨z,hd,xs,rel,dd⟩:=tD I.hok e;refine wpAny_in_heap (Xe hu) (nk I.hok eb) hd dd ?_;have q:=(rel.val k).gE;rw[Xj]at q;rw[<-q,<-l];exact h _ (I.tok _)
theorem DR(hu:A.units+1<cLine)(I:Inv X pins σ H s)(g:lH H a y o)(ry:RelV y u)(h:∀s',Inv X pins σ H s'->Q (.bool (!o.isSome)) s') :
  wpAny (model X.prog X.w) A (compareOp .NotIn u (.ref a)) Q E s:=by
 rcases g with ⟨kvs,k,e,ey,l⟩|⟨kvs,k,b,e,ey,eb,l⟩
 ·subst ey;obtain⟨z,hd,vs,rel,dd⟩:=pY I.hok e;refine wpAny_notIn_of (pW ry) hd dd.mapOf ?_;rw[<-(rel.val k).gE,<-l];exact h _ (I.tok _)
 ·subst ey;cases (show u=Value.ref b from ry);obtain⟨z,hd,xs,rel,dd⟩:=tD I.hok e;refine wpAny_notIn_heap (Xe hu) (nk I.hok eb) hd dd ?_;have q:=(rel.val k).gE;rw[Xj]at q;rw[<-q,<-l];exact h _ (I.tok _)
theorem rz{t':Nat}(I:Inv X pins σ H s)(mu:Ly (H a))(hs:Heap.SameBut a s.heap h')(he:∃q,h'.get? a=some q)(new:cg X.prog X.w (upd H a ob) h' a ob) :
  Inv X pins σ (upd H a ob) { s with heap:=h',toks:=t' } :=
 I.write (x:=a) (e:=a) mu (.inl rfl) (λb q hb z=>(hs.2 b hb).trans z) he new
theorem Ay(z:kvs.length<=sizeLine)(hd:(a==sysModules)=false)(rel:KV kvs vs)(dd:h'.DictOf (bX P w) a vs) :
  cg P w H' h' a (.dK kvs):=⟨z,hd,vs,rel,dd⟩
theorem yO(hu:A.units+1<cLine)(I:Inv X pins σ H s)(g:DQ H a y v H')(ry:RelV y u)(rv:RelV v r)(h:∀s',Inv X pins σ H' s'->Q () s') :
  wpAny (model X.prog X.w) A (setItem (.ref a) u r) Q E s:=by
 rcases g with ⟨kvs,k,e,ey,l,eH⟩|⟨kvs,k,b,e,ey,eb,l,eH⟩
 ·subst ey eH
  obtain⟨z,hd,vs,rel,dd⟩:=Ge I.hok e;have hz:vs.length<=sizeLine:=by rw[<-rel.length];exact z
  have hl:(putK kvs k v).length<=sizeLine:=by have:=iX kvs k v;omega
  refine wpAny_setItem_pairs (hsz:=hz) (pW ry) dd λh' HY hs=>h _ ?_;have he:∃q,h'.get? a=some q:=let ⟨q,_,_,hq,_⟩:=HY;⟨q,hq⟩
  exact rz I (by rw[e];exact Wu) hs he (Ay hl hd (rel.put k rv) HY)
 ·subst ey eH
  cases (show u=Value.ref b from ry);obtain⟨z,hd,xs,rel,dd⟩:=Mg I.hok e;have hz:xs.length<=sizeLine:=by rw[<-XH rel];exact z
  have hl:(putK kvs k v).length<=sizeLine:=by have:=iX kvs k v;omega
  refine wpAny_setItem_heap (hsz:=hz) (Xe hu) (nk I.hok eb) dd λh' HY hs=>h _ ?_;obtain⟨q,es,ep,hq,h2,h3,h4,_,h5⟩:=HY;refine rz I (by rw[e];exact Wu) hs ⟨q,hq⟩ ⟨hl,hd,_,(rel.put k eb rv).keeps λc ys ec=>?_,q,es,ep,hq,h2,h3,h4,h5⟩;rw[aF (Lx ec e (λz=>nomatch z))];exact ec
end
section
variable {X:Cx} {pins:List (Addr×Obj)} {σ:St} {H:Hp} {s:Shared} {a:Addr} {kvs:List (Key×V)} {k:Key} {u:Value} {A:Around} {E:Value->Shared->Prop}
theorem Mh(I:Inv X pins σ H s)(e:Rd H a (.dK kvs))(h:∀t s',Inv X pins σ H s'->Q (.int kvs.length t) s'):wpAny (model X.prog X.w) A (call (.builtin "len") [.ref a]) Q E s:=by
 obtain⟨z,hd,vs,rel,dd⟩:=pY I.hok e;refine call_len_dict hd dd (by rw[<-rel.length];rw[Wj]at z;omega) ?_;rw[<-rel.length];exact h _ _ (I.tok _)
end
theorem tE(I:Inv X pins σ H s)(g:lH H a y o):s.TypeIs (.ref a) "dict":=by
 rcases g with ⟨kvs,k,e,_,_⟩|⟨kvs,k,b,e,_,_,_⟩
 ·obtain⟨_,_,vs,_,dd⟩:=pY I.hok e;exact dd.typeIs
 ·obtain⟨_,_,xs,_,dd⟩:=tD I.hok e;exact dd.typeIs
theorem tF(h:Heap)(hb:sysModules<h.objs.size):cg P w H (h.push { cls:=.type "dict",data:=.dict #[] }) h.objs.size (.dK []) :=
 ⟨Wx _,Wd.mpr (Ne.symm (VE hb)),[],.nil,Heap.DictOf.new h⟩
def HZ:TE:=λ_ H Q=>∀p,H p=none->Q (.ref p) (upd H p (.dK []))
section
variable {X:Cx} {pos:Pos}
theorem Az:PE X (.Dict [] [] pos) HZ:=λpins s σ H Q I h=>
 wpAny_Dict_empty ⟨.ref s.heap.objs.size,_,I.laid (a:=s.heap.objs.size) (o:=.dK []) (t':=s.toks) (λ_ _ q=>Vo _ q) (Vu _) (tF s.heap I.big),rfl,h _ (I.hok.fresh (Vu _))⟩
end
def vz:List (TE×TE)->St->Hp->(List (V×V)->Hp->Prop)->Prop
 |[],_,H,Q=>Q [] H
 |(tk,tv)::r,σ,H,Q=>tk σ H λx H1=>tv σ H1 λy H2=>vz r σ H2 λps H3=>Q ((x,y)::ps) H3
abbrev VV:List (V×V)->List (Value×Value)->Prop:=Paired λp q=>RelV p.1 q.1/\RelV p.2 q.2
def O9(X:Cx)(pos:Pos)(keys:List (Option Expr))(values:List Expr)(Ia:List (TE×TE)):Prop :=
 ∀(pins:List (Addr×Obj)) (s:Shared) (σ:St) (H:Hp) (Q:List (V×V)->Hp->Prop),Inv X pins σ H s->vz Ia σ H Q ->
  wpAny (model X.prog X.w) X.A (evalPairs (pairTrees keys values X.env pos)) (λvs s'=>∃ps H',Inv X pins σ H' s'/\VV ps vs/\Q ps H') X.xe s
theorem DS:O9 X pos [] [] []:=λpins s σ H Q I h=>pairTrees_nil_walk ⟨[],H,I,.nil,h⟩
theorem AA(hk:PE X k tk)(hv:PE X v tv)(hr:O9 X pos ks vs Ia) :
  O9 X pos (some k::ks) (v::vs) ((tk,tv)::Ia):=λpins s σ H Q I h=>
 pairTrees_cons_walk (cE (hk pins s σ H _ I h) λu s1 ⟨x,H1,I1,rx,q1⟩=>cE (hv pins s1 σ H1 _ I1 q1) λw2 s2 ⟨y,H2,I2,ry,q2⟩=>
  cE (hr pins s2 σ H2 _ I2 q2) λws s3 ⟨ps,H3,I3,rel,q3⟩=>⟨(x,y)::ps,H3,I3,.cons ⟨rx,ry⟩ rel,q3⟩)
def lI(kvs more:List (Key×V)):List (Key×V):=more.foldl (λacc kv=>putK acc kv.1 kv.2) kvs
theorem KV.merge:∀{more:List (Key×V)} {rs:List (Key×Value)} {kvs:List (Key×V)} {vs:List (Key×Value)},KV more rs->KV kvs vs->KV (lI kvs more) (merged vs rs):=by
 intro more rs kvs vs r;unfold KV at r
 induction r generalizing kvs vs with
 |nil=>intro q;exact q
 |@cons p q ps qs h t ih=>
  intro r0;have e:KV (putK kvs p.1 p.2) (stored vs q.1 q.2):=by have:=r0.put p.1 h.2;rw[<-h.1];exact this
  exact ih e
theorem jW:∀(more kvs:List (Key×V)),(lI kvs more).length<=kvs.length+more.length
 |[],kvs=>by show kvs.length<=kvs.length+0;omega
 | p::r,kvs=>by
  have h1:=jW r (putK kvs p.1 p.2);have h2:=iX kvs p.1 p.2;show (lI (putK kvs p.1 p.2) r).length<=_;rw[VQ];omega
theorem nq:∀{kvs:List (Key×V)} {ws:List (Value×Value)},VV (kvs.map λkv=>(kV kv.1,kv.2)) ws->∃rs,Carries (bX P w) ws rs/\KV kvs rs
 |[],_,r=>by rw[WJ]at r;cases r;exact⟨[],Wu,.nil⟩
 | p::kvs,_,r=>by
  rw[VC]at r;cases r with
  |@cons a b as bs h t=>obtain⟨rs,c,q⟩:=nq (P:=P) (w:=w) t;obtain⟨b1,b2⟩:=b;exact⟨(p.1,b2)::rs,⟨pW h.1,rfl,c⟩,.cons ⟨rfl,h.2⟩ q⟩
def Mi(Ia:List (TE×TE)):TE:=λσ H Q=>∀p,H p=none->vz Ia σ (upd H p (.dK [])) λps H2=>H2 p=some (.dK [])/\∃kvs:List (Key×V),ps=kvs.map (λkv=>(kV kv.1,kv.2))/\kvs.length<=15/\Q (.ref p) (upd H2 p (.dK (lI [] kvs)))
theorem DT(h:O9 X pos keys values Ia)(hall:keys.all (·.isSome)=true)(hl:keys.length=values.length)(h0:keys≠[])
  (SY:keys.length<=15):PE X (.Dict keys values pos) (Mi Ia):=by
 intro pins s σ H Q I q;have hn:=I.hok.fresh (Vu s.heap.objs.size);have I1:=I.laid (a:=s.heap.objs.size) (o:=.dK []) (h':=s.heap.push { cls:=.type "dict",data:=.dict #[] }) (t':=s.toks) (λ_ _ q=>Vo _ q) (Vu _) (tF s.heap I.big);refine wpAny_Dict_walk (knd:=bX X.prog X.w) hall hl h0 SY (cE (h pins _ σ _ _ I1 (q _ hn)) λws s2 aK=>?_);obtain⟨ps,H2,I2,rel,e,kvs,ep,lk,q2⟩:=aK;subst ep;obtain⟨rs,c,rk⟩:=nq (P:=X.prog) (w:=X.w) rel;obtain⟨z,hd,U9,r0,dd⟩:=Ge I2.hok e;cases r0;refine⟨rs,c,dd,λh' HY hs=>⟨.ref s.heap.objs.size,_,?_,rfl,q2⟩⟩;have hz:(lI [] kvs).length<=sizeLine:=by have h1:=jW kvs [];rw[XQ]at h1;rw[Wj];omega
 have he:∃q,h'.get? s.heap.objs.size=some q:=let ⟨q,_,_,hq,_⟩:=HY;⟨q,hq⟩
 exact rz I2 (by rw[e];exact Wu) hs he (Ay hz hd (rk.merge .nil) HY)
end L2
namespace Ry
open PySem PySem.W PySem.Calls PyProof.Rows
theorem mL:∀(ns:List Int) (vs:List Value),WellAll P h vs (ns.map WData.int)->IntsAre vs ns:=by
 intro ns
 induction ns with
 |nil=>intro vs w;rw[WJ]at w;cases w;exact .nil
 |cons n ns ih=>
  intro vs w;rw[VC]at w;cases w with
  |cons a b=>cases a;exact .cons _ _ (ih _ b)
theorem yP{l:OpenLaw}{n:Nat}(hn:l.most=some n){P:Params}{h:Heap}{args:List WData}{vals:List Value}
  (hpre:l.row.toRowW.claim.pre args=true) (hwl:WellAll P h vals args) :
  ∃a vs ns,vals=[Value.ref a]/\args=[WData.list (ns.map WData.int)]/\h.get? a=some { cls:=.type "list",data:=.seq vs.toArray }/\IntsAre vs ns/\ns.length<=n:=by
 have hsh:WShape.hasAll [] args [.list .int]=true:=(pre_splitW hpre).1;have hc:l.pre.holds [] { args:=args }=true:=(pre_splitW hpre).2;obtain⟨d,r,rfl,h1,h2⟩:=hasAllW_cons hsh;obtain rfl:=hasAllW_nil h2;obtain⟨xs,rfl,h3⟩:=hasW_list h1;obtain⟨ns,rfl⟩:=items_int h3;have hlen:ns.length<=n:=by
  unfold OpenLaw.pre at hc;have h4:(WTm.not (.lt (.lit (.int (n:Int))) (.len (.arg 0)))).holds [] { args:=[.list (ns.map .int)] }=true:=by have h4:=(holds_andW hc).1;rw[hn]at h4;exact h4
  have h5:=condW_of h4 (w_not (w_lt w_lit (w_len_list (w_arg rfl))));rw[Vp]at h5;refine Nat.le_of_not_lt λq=>?_;have q':(n:Int)<((ns.length:Nat):Int):=by omega
  first
   |(rw[decide_eq_true q']at h5;exact absurd h5 (by decide))
   |(simp at h5;omega)
 cases hwl with
 |cons w1 w2=>
  cases w2;cases w1 with
  |list ho hall=>exact⟨_,_,ns,rfl,rfl,ho,mL ns _ hall,hlen⟩
theorem yQ(l:OpenLaw)(args:List WData):l.row.toRowW.claim.post args (.bool true) args=true :=
 postW_of (r:=l.row.toRowW) (X:=(true==true))
  (show WShape.has [] (.bool true) .bool=true by first|rfl|decide|simp[WShape.has,WShape.arms,WShape.armsAll])
  (show (WTm.eq .res (.lit (.bool true))).value [] { args:=args,res:=some (.bool true),after:=args }=some (.bool (true==true)) from w_eq_bool (w_res rfl) w_lit) rfl
theorem tG{l:OpenLaw}{n:Nat}{q:Program}{loose:List Str}{XP:(Str->Option Value)->Heap->Prop}{YP:World->Heap->Prop}{d:DefRec}
  (hn:l.most=some n) (hdf:d.params.defaults=[])
  (call:∀(w:World) (s₀ s₁:Shared) (mg mb:Str->Option Value) (fa:Addr) (o:Obj) (pm cd doc:Value) (a:Addr) (vs:List Value) (ns:List Int),
   Ground q loose [] XP w s₀ mg mb s₁.heap->YP w s₁.heap ->
   s₁.heap.get? fa=some o->o.data=.func (docDef d.name d.params d.body d.scope pm cd doc)->s₁.heap.CodeRec cd d.name->mg d.name=some (.ref fa) ->
   s₁.heap.get? a=some { cls:=.type "list",data:=.seq vs.toArray }->IntsAre vs ns->ns.length<=n->s₁.gens = #[] ->
   codeAny (model l.prog w) callerA (.call (.ref fa) ⟨[.ref a],[]⟩) (λr s'=>r=.ok (.ret (.bool true))/\OldK s₁.heap s'.heap/\s'.os=s₁.os/\AllBare s'.gens) s₁) :
  WalkO q loose XP YP l.row.toRowW d [] (λf vs=>PySem.call f vs):=by
 intro w s₀ s₁ mg mb G Y fa o pm cd doc dV kV ho hd hcd hD hmg hg args vals as hpre hlay hrd hwl hlo;obtain rfl:dV=.none:=Dflts.none hD hdf;obtain rfl:kV=.none:=Dflts.noKw hD;obtain⟨a,vs,ns,rfl,rfl,hobj,hints,hlen⟩:=yP hn hpre hwl;refine enter_call (Xi (call w s₀ s₁ mg mb fa o pm cd doc a vs ns G Y ho (fd_plain hd) hcd hmg hobj hints hlen hg) λr s' hq=>?_);obtain⟨rfl,h2,h3,h4⟩:=hq;exact⟨.inl ⟨.bool true,.bool true,[],rfl,λ_=>rfl,.bool true,yQ l _,λ_=>⟨List.Pairwise.nil,λ_ hm=>(nomatch hm)⟩⟩,h2,h3,h4⟩
end Ry
namespace L2
open PySem PySem.Spec PyProof.Rows
theorem jE:∀{vs:List Value} {ns:List Int},IntsAre vs ns->Vals (ns.map V.int) vs
 |_,_,.nil=>.nil
 |_,_,.cons n t h=>.cons ⟨t,rfl⟩ (jE h)
def AB(H:Hp):Prop:=∀b,H b=none\/∃o xs,H b=some (.o5 o (.lst xs))
theorem AD{P:Program}{w:World}{K:Frag}{mg mb:Str->Option Value}{CX:yK}{k:Nat}{fa a:Addr}{fd:FuncData}{x:Str}{sp:Sp}{s₁:Shared}{vs:List Value}{ns:List Int}
  (KX:K.In s₁.heap) (hns:s₁.heap.Ns mainGlobals mg) (hb:s₁.heap.Ns builtinsNs mb) (S0:∀x:Str,x ≠ "__name__" -> mb x=bootBuiltins x) (hlim:s₁.heap.NoLimit) (hg:s₁.gens = #[])
  (ha:s₁.heap.get? a=some { cls:=.type "list",data:=.seq vs.toArray }) (hi:IntsAre vs ns) (hl:ns.length<=sizeLine) (hr:dZ k callerA)
  (F:∀base:Heap,K.In base->base.Ns mainGlobals mg->f9 P w K mg base CX k fa fd [x] sp) (hbind:∀(s:Shared) (u:Value),BindsTo s fd ⟨[u],[]⟩ [(x,u)])
  (hsp:∀H:Hp,AB H->fN K H a (ns.map V.int)->sp [.ref a] H (λv _=>v=.bl true) λ_ _ _=>False)
  (hCX:∀H e s',CX [] H s₁ (λ_ _ _=>False) e s'->False) :
  codeAny (model P w) callerA (.call (.ref fa) ⟨[.ref a],[]⟩) (λr s'=>r=.ok (.ret (.bool true))/\OldK s₁.heap s'.heap/\s'.os=s₁.os/\AllBare s'.gens) s₁:=by
 have rv:=jE hi;have P9:=hi.length;have core:∀H:Hp,AB H->fN K H a (ns.map V.int)->ko P w H s₁.heap->(∀b,H b≠none->b=a)->(H a≠none->K.lookup a=none) ->
   codeAny (model P w) callerA (.call (.ref fa) ⟨[.ref a],[]⟩) (λr s'=>r=.ok (.ret (.bool true))/\OldK s₁.heap s'.heap/\s'.os=s₁.os/\AllBare s'.gens) s₁:=by
  intro H hO hS hok hA hK;have base_of:∀{b:Addr} {o:Obj},s₁.heap.get? b=some o->H b=none->(qS s₁.heap H).get? b=some o:=λe n=>z5 e n;have noA:∀{b:Addr} {o:Obj} {es:Array DictEntry} {ep:Nat},s₁.heap.get? b=some o->o.data=.dict es ep->H b=none:=λ{b o es ep} e d=>by
   cases q:H b with
   |none=>rfl
   |some u=>have e':b=a:=hA b (by rw[q];simp);subst e';rw[ha]at e;cases e;have d':Data.seq vs.toArray _=Data.dict es ep:=d;cases d'
  have nsK:∀{b:Addr} {m:Str->Option Value},s₁.heap.Ns b m->(qS s₁.heap H).Ns b m:=λ{b m} ⟨o,es,ep,e,d,r⟩=>⟨o,es,ep,base_of e (noA e d),d,r⟩;have Rz:K.In (qS s₁.heap H):=λb o e=>base_of (KX b o e) (by
   cases q:H b with
   |none=>rfl
   |some u=>have e':b=a:=hA b (by rw[q];simp);subst e';rw[hK (by rw[q];simp)]at e;cases e)
  have hM:Mod K mg (qS s₁.heap H):=⟨Rz,nsK hns,⟨mb,nsK hb,S0⟩,let ⟨mc,h1,h2⟩:=hlim;⟨mc,nsK h1,h2⟩⟩;have e0:vo P w K mg (qS s₁.heap H) callerA [] s₁ H:=⟨rfl,hM,λb o e=>Dl e,Nat.le_of_eq (yz _ _),trivial,λb hb=>absurd (show b∈([]:List Addr) from hb) (by simp),hok,.of_eq hg⟩;refine Xi ((F _ Rz (nsK hns)).run callerA [] s₁ H ⟨[.ref a],[]⟩ [.ref a] [.ref a] _ _ hr e0 (hbind s₁ (.ref a)) #[rfl] (hsp H hO hS)) λr s' h=>?_;cases r with
  |error e=>exact(hCX H e s' h).elim
  |ok fl=>
   cases fl with
   |next=>exact False.elim h
   |brk=>exact False.elim h
   |cont=>exact False.elim h
   |ret u=>
    obtain⟨v,H',os,bare,un,Qa,r',q⟩:=h;have q':v=.bl true:=q;subst q';obtain rfl:u=Value.bool true:=r';refine⟨rfl,OldK.of_keep λb o e=>?_,os,bare⟩;cases q:H b with
    |none=>exact un.keep b o e q (by intro z;exact absurd (show b∈([]:List Addr) from z) (by simp)) (by simp)
    |some u=>
     rcases hO b with z|⟨ob,xs,z⟩
     ·rw[q]at z;cases z
     ·have z2:=un.frzs b ob _ z;obtain⟨e1,_⟩:=hok b _ z;obtain⟨e2,_⟩:=Qa b _ z2;rw[e]at e1;cases e1;exact e2
 cases hk:K.lookup a with
 |some o=>have e:=KX a o hk;rw[ha]at e;cases e;refine core (λ_=>none) (λ_=>.inl rfl) (.inr ⟨_,vs.toArray,_,hk,rfl,rfl,rfl,by rw[Vx,P9];exact hl,by simpa using rv⟩) (λb u z=>by have z':(none:Option HO)=some u:=z;cases z') (λb z=>absurd rfl z) λz=>absurd rfl z
 |none=>
  refine core (λb=>if b=a then some (.o5 { cls:=.type "list",data:=.seq vs.toArray } (.lst (ns.map V.int))) else none) (λb=>?_) (.inl (.inr ⟨{ cls:=.type "list",data:=.seq vs.toArray },Vv rfl⟩)) (λb u z=>?_) (λb z=>?_) λ_=>hk
  ·by_cases hb:b=a
   ·exact .inr ⟨_,_,Vv hb⟩
   ·exact .inl (Vw hb)
  ·by_cases hb:b=a
   ·have z':=(Vv hb).symm.trans z;cases z';subst hb;exact⟨ha,by rw[Vp];exact hl,vs,_,rv,ha⟩
   ·have z':=(Vw hb).symm.trans z;cases z'
  ·by_cases hb:b=a
   ·exact hb
   ·exact absurd (Vw hb) z
theorem DU{l:PySem.W.OpenLaw}{n k:Nat}{q:Program}{loose:List Str}{XP:(Str->Option Value)->Heap->Prop}{YP:World->Heap->Prop}{d:DefRec}{K:Params->Frag}{CX:World->yK}{sp:World->Sp}{x:Str}
  (hn:l.most=some n) (hn2:n<=sizeLine) (hdf:d.params.defaults=[]) (hr:dZ k callerA)
  (hY:∀(w:World) (h:Heap),YP w h->(K w.params).In h)
  (F:∀(w:World) (mg:Str->Option Value) (fa:Addr) (h:Heap),(K w.params).In h->h.Ns mainGlobals mg->mg d.name=some (.ref fa) ->
   ∃fd:FuncData,(∀(s:Shared) (u:Value),BindsTo s fd ⟨[u],[]⟩ [(x,u)]) /\
    ∀base:Heap,(K w.params).In base->base.Ns mainGlobals mg->f9 l.prog w (K w.params) mg base (CX w) k fa fd [x] (sp w))
  (hsp:∀(w:World) (H:Hp) (a:Addr) (ns:List Int),ns.length<=n->AB H->fN (K w.params) H a (ns.map V.int)->sp w [.ref a] H (λv _=>v=.bl true) λ_ _ _=>False)
  (hCX:∀(w:World) (H:Hp) (s:Shared) (e:Value) (s':Shared),CX w [] H s (λ_ _ _=>False) e s'->False) :
  PySem.W.WalkO q loose XP YP l.row.toRowW d [] (λf vs=>PySem.call f vs):=by
 refine Ry.tG hn hdf λw s₀ s₁ mg mb fa o pm cd doc a vs ns G Y ho hd hcd hmg hobj hints hlen hg=>?_;have KX:=hY w _ Y;obtain⟨fd,hb,hF⟩:=F w mg fa _ KX G.T.g hmg;exact AD KX G.T.g G.T.b G.T.builtins G.T.nolimit hg hobj hints (VX hlen hn2) hr hF hb (λH hO hS=>hsp w H a ns hlen hO hS) λH e s'=>hCX w H s₁ e s'
def kE(s:Stmt):Arguments:=match s with
 |.FunctionDef _ a _ _ _ _ _ _ _ _=>a
 |_=>{ posonlyargs:=[],args:=[],vararg:=none,kwonlyargs:=[],kw_defaults:=[],kwarg:=none,defaults:=[] }
def aD(s:Stmt):List Stmt:=match s with
 |.FunctionDef _ _ b _ _ _ _ _ _ _=>b
 |_=>[]
def ah(s:Stmt):Scope:=match s with
 |.FunctionDef _ _ _ _ _ _ sc _ _ _=>sc
 |_=>{ kind:=.function,names:=[],isGenerator:=false,isCoroutine:=false }
abbrev AE:yK:=λ_ _ _ _ _ _=>False
abbrev E0:XK:=λ_ _ _=>False
theorem xg:Passes AE X E0:=λ_ _ _ _ _ _ _ h=>h.elim
structure Gf (K:Frag) (x qual:Str) (st:Stmt) (f:Addr) (fd:FuncData):Prop where
 ex:∃(oc:Value) (od:Option Addr) (kV doc pm:Value) (an:Option Addr) (cdv ct:Value) (osl:Array (Option Value)),
  fd=fnOf x qual (kE st) (aD st) (ah st) .none kV doc pm an cdv ct/\K.lookup f=some ⟨oc,od,.func fd,osl⟩/\codeIn K cdv qual=true
 kp:keepIn K (.ref f)=true
section
variable {P:Program} {w:World} {K:Frag} {mg:Str->Option Value} {base:Heap}
theorem Gf.ok{x qual:Str}{st:Stmt}{f:Addr}{fd:FuncData}{N ps:List Str}{k:Nat}{sp:Sp}(F:Gf K x qual st f fd)(S:mX N ps (ah st))(len:∀vs H Q E,sp vs H Q E->vs.length=ps.length)
  (hbody:∀(cdv:Value) (A:Around) (outer:List Env) (s:Shared) (H:Hp) (vs:List V) (Q:VK) (E:XK),dZ k (A.deeper (envOfC qual (ah st) s.heap.objs.size f cdv))->sp vs H Q E ->
   ∃t,ve (vp AE P w K mg base N qual (ah st) f cdv A outer s H E).LM (aD st) t/\t { nx:=λ_ H'=>Q .non H',rt:=Q } (start N vs) H):f9 P w K mg base AE (k+1) f fd ps sp:=by
 obtain⟨oc,od,kV,doc,pm,an,cdv,ct,osl,rfl,lk,hcd⟩:=F.ex;refine L7 lk hcd S len λA outer s H vs Q E hr hsp=>?_;obtain⟨t,h,q⟩:=hbody cdv A outer s H vs Q E hr hsp;exact⟨t,h.LM,q⟩
theorem Gf.binds{x qual:Str}{st:Stmt}{f:Addr}{fd:FuncData}{ps:List Str}(F:Gf K x qual st f fd)
  (h:∀(kV doc pm:Value) (an:Option Addr) (cdv ct:Value) (us:List Value),us.length=ps.length->bindArgs (fnOf x qual (kE st) (aD st) (ah st) .none kV doc pm an cdv ct) ⟨us,[]⟩=pure (ps.zip us)):Binds K fd ps []:=by
 obtain⟨oc,od,kV,doc,pm,an,cdv,ct,osl,rfl,lk,hcd⟩:=F.ex;exact .all (h kV doc pm an cdv ct)
theorem fun_mk{x qual:Str}{st:Stmt}{f:Addr}{oc:Value}{od an:Option Addr}{osl:Array (Option Value)}{kV doc pm cdv ct:Value}(l:K.lookup f=some ⟨oc,od,.func (fnOf x qual (kE st) (aD st) (ah st) .none kV doc pm an cdv ct),osl⟩)
  (c:codeIn K cdv qual=true) (k:keepIn K (.ref f)=true):Gf K x qual st f (fnOf x qual (kE st) (aD st) (ah st) .none kV doc pm an cdv ct):=⟨⟨oc,od,kV,doc,pm,an,cdv,ct,osl,rfl,l,c⟩,k⟩
end
section
variable {X:Cx}
theorem pv(i:Nat)(hN:X.N[i]?=some x)(hv:Lz X.env.scope x)(hd:(x==("__debug__":Str))=false)
  (hcd:(x==("__classdict__":Str))=false):PE X (.Name x pos) (LG i):=z8 hN hv hd hcd
theorem yR:bU X (.builtin "len") (λxs H Q=>∃a kvs,xs=[V.ref a]/\H a=some (.dK kvs)/\Q (.int kvs.length) H):=by
 intro pins s σ H xs us Q I r h;obtain⟨a,kvs,rfl,ha,q⟩:=h;obtain⟨u,rfl,ru⟩:=vals1 r;cases ru;exact Mh I (.inl ha) λt s' I'=>⟨.int kvs.length,H,I',⟨t,rfl⟩,q⟩
end
def vA(H H':Hp):Prop:=∀b o,H b=some o->H' b=some o
theorem vA.seq{K:Frag}{H H':Hp}{a:Addr}{xs:List V}(e:vA H H')(h:fN K H a xs):fN K H' a xs:=by
 rcases h with (h|⟨o,h⟩)|h
 ·exact .inl (.inl (e _ _ h))
 ·exact .inl (.inr ⟨o,e _ _ h⟩)
 ·exact .inr h
theorem j4(env:Env):∀(names:List (Str×NameKind)) (acc:List (Str×Addr)),(∀y∈names,y.2=.free->∃c,env.cells.lookup y.1=some c) ->
  (∀x c,acc.lookup x=some c->env.cells.lookup x=some c) ->
  ∃cl,(forIn names acc λx r=>if (x.snd==NameKind.free)=true then do let c <-cellOf env x.fst;pure (ForInStep.yield ((x.fst,c)::r)) else pure (ForInStep.yield r))=(pure cl:Sem (List (Str×Addr))) /\
   (∀x c,cl.lookup x=some c->env.cells.lookup x=some c)/\∀x,((x,NameKind.free)∈names\/∃c,acc.lookup x=some c)->∃c,cl.lookup x=some c
 |[],acc,_,ha=>⟨acc,rfl,ha,λx h=>h.elim (λz=>nomatch z) λz=>z⟩
 | (n,k)::r,acc,hn,ha=>by
  have hr:∀y∈r,y.2=NameKind.free->∃c,env.cells.lookup y.1=some c:=λy hy=>hn y (Vq _ hy)
  by_cases hk:k=.free
  ·subst hk
   obtain⟨c,hc⟩:=hn (n,.free) Vs rfl;have ha':∀x d,((n,c)::acc).lookup x=some d->env.cells.lookup x=some d:=λx d h=>by
    rw[lookup_cons]at h;cases e:x==n with
    |true=>rw[e]at h;have e':x=n:=eq_of_beq e;cases h;rw[e'];exact hc
    |false=>rw[e]at h;exact ha x d h
   obtain⟨cl,e1,e2,e3⟩:=j4 env r ((n,c)::acc) hr ha';refine⟨cl,?_,e2,λx h=>?_⟩
   ·rw[XR]
    have hco:cellOf env n=pure c:=by unfold cellOf;rw[hc]
    simp only[beq_self_eq_true,if_true,hco];exact e1
   ·by_cases hx:x=n
    ·subst hx;exact e3 x (.inr ⟨c,by simp[lookup_cons]⟩)
    ·rcases h with h|⟨d,h⟩
     ·rcases VF.mp h with z|z
      ·exact absurd (Wc Prod.fst z) hx
      ·exact e3 x (.inl z)
     ·refine e3 x (.inr ⟨d,?_⟩);rw[lookup_cons];have:(x==n)=false:=Wd.mpr hx;rw[this];exact h
  ·have hb:(k==NameKind.free)=false:=Wd.mpr hk
   obtain⟨cl,e1,e2,e3⟩:=j4 env r acc hr ha;refine⟨cl,?_,e2,λx h=>e3 x ?_⟩
   ·rw[XR];simp only[hb,false_eq_true,if_false];exact e1
   ·rcases h with h|h
    ·rcases VF.mp h with z|z
     ·cases z;exact absurd rfl hk
     ·exact .inl z
    ·exact .inr h
theorem nt(h:∀y∈scope.names,y.2=.free->∃c,env.cells.lookup y.1=some c) :
  ∃cl,closureFor scope env=pure cl/\(∀x c,cl.lookup x=some c->env.cells.lookup x=some c)/\∀x,(x,NameKind.free)∈scope.names->∃c,cl.lookup x=some c:=by
 obtain⟨cl,e1,e2,e3⟩:=j4 env scope.names [] h (λx c z=>by simp at z);refine⟨cl,?_,e2,λx hx=>e3 x (.inl hx)⟩;unfold closureFor;simp only[bind_pure];exact e1
def bJ(X:Cx)(scope:Scope)(N':List Str)(cl:List (Str×Addr))(C:Addr)(s:Shared)(H:Hp)(fp:List Addr):Cx :=
 { prog:=X.prog,w:=X.w,K:=X.K,mg:=X.mg,base:=X.base,A:=X.A,N:=N',s₀:=s,H₀:=H,env:=compEnvC scope cl C X.env,outer:=X.stack,stack:=X.stack,ex:=fp,fn:=λ_=>false,calm:=X.calm,pn:=[],xe:=λ_ _=>False }
def iC(js:List (Option Nat))(σ:St):St:=js.map λo=>match o with
 |none=>none
 | some j=>match σ[j]? with
  |some (some v)=>some v
  |_=>none
def rA(sc:Scope)(x:Str):Bool:=sc.names.lookup x==some .cell||sc.names.lookup x==some .free
def jF(XN:List Str)(xsc scope:Scope)(N':List Str)(js:List (Option Nat)):Bool :=
 scope.kind==.function&&(scope.names.all λy=>y.2 != .local||scope.names.lookup y.1==some .local)&&(scope.names.all λy=>y.2 != .cell) &&
 (scope.names.all λy=>y.2 != .free||(rA xsc y.1&&scope.names.lookup y.1==some .free))&&js.length==N'.length &&
 ((N'.zip js).all λp=>match p.2 with|none=>true|some j=>XN[j]?==some p.1&&scope.names.lookup p.1==some .free)
structure rD (X:Cx) (scope:Scope) (N':List Str) (js:List (Option Nat)):Prop where
 kind:scope.kind=.function
 names:∀y∈scope.names,y.2=.local->scope.names.lookup y.1=some .local
 AF:∀y∈scope.names,y.2≠.cell
 free:∀y∈scope.names,y.2=.free->rA X.env.scope y.1=true/\scope.names.lookup y.1=some .free
 len:js.length=N'.length
 src:∀(i:Nat) (x:Str) (j:Nat),N'[i]?=some x->js[i]?=some (some j)->X.N[j]?=some x/\scope.names.lookup x=some .free
theorem pZ(h:jF X.N X.env.scope scope N' js=true):rD X scope N' js:=by
 unfold jF at h;simp only[and_eq_true,List.all_eq_true]at h;obtain⟨⟨⟨⟨⟨h1,h2⟩,h3⟩,h4⟩,h5⟩,h6⟩:=h;refine⟨eq_of_beq h1,λy hy e=>?_,λy hy e=>?_,λy hy e=>?_,eq_of_beq h5,λi x j e1 e2=>?_⟩
 ·have:=h2 y hy;rw[e]at this;simpa using this
 ·have:=h3 y hy;rw[e]at this;simp at this
 ·have:=h4 y hy;rw[e]at this;simpa using this
 ·have hm:(x,some j)∈N'.zip js:=by
   refine Xp.mpr ⟨i,?_⟩;rw[W7];exact⟨e1,e2⟩
  have:=h6 _ hm;simpa using this
theorem jX(js:List (Option Nat))(σ:St):(iC js σ).length=js.length:=by unfold iC;rw[Vp]
def DV(X:Cx)(ifs:List Expr)(t:TT):Prop :=
 ∀(pins:List (Addr×Obj)) (s:Shared) (σ:St) (H:Hp) (Q:Bool->Hp->Prop),Inv X pins σ H s->t σ H Q ->
  wpAny (model X.prog X.w) X.A (forIn ifs true λc r=>if r=true then do let ok <-isTrue c X.env (eval c X.env);pure (ForInStep.yield ok) else pure (ForInStep.yield r)) (TP X pins σ Q) X.xe s
def tH:TT:=λ_ H Q=>Q true H
theorem DW:DV X [] tH:=λ_ _ _ H _ I h=>wpAny_tests_nil ⟨H,I,h⟩
theorem DX(h:PT X c t):DV X [c] t:=λpins s σ H Q I hw=>wpAny_tests_one (h pins s σ H Q I hw)
def AG(wi:TI)(js:List (Option Nat))(g:TG)(tt:TT)(te:TE):TE:=λσ H Q=>wi σ H λJ H1=>∀D,H1 D=none->∃W:Nat->Nat->St->Hp->Prop,(∃m,W 0 m (iC js σ) (upd H1 D (.lst []))) /\
 ∀i m σ' H,W i m σ' H->(J.stop i H/\Q (.ref D) H)\/(J.go i H/\∃N:St->Hp->Prop,(∀zY H',N zY H'->∃m',m'<m/\W (i+1) m' zY H') /\
  ∀x H',J.vc i H x H'->g x σ' H' λσ2 H2=>tt σ2 H2 λb H3=>if b=true then te σ2 H3 λy H4=>∃ys,H4 D=some (.lst ys)/\ys.length<sizeLine/\N σ2 (upd H4 D (.lst (ys++[y]))) else N σ2 H3)
theorem pe(hc:∀y∈scope.names,y.2≠.cell)
  (h:(relabel scope env).names.lookup x=some .cell\/(relabel scope env).names.lookup x=some .free):(x,NameKind.free)∈scope.names:=by
 unfold relabel at h;simp only at h;generalize scope.names=ns at hc h
 induction ns with
 |nil=>simp at h
 |cons p r ih=>
  obtain⟨n,k⟩:=p;have hc':∀y∈r,y.2≠.cell:=λy hy=>hc y (Vq _ hy);simp only[map_cons]at h;cases hx:x==n with
  |true=>
   have e':x=n:=eq_of_beq hx;subst e'
   by_cases hk:k=.free
   ·subst hk;exact Vs
   ·have hk2:=hc (x,k) Vs
    have hb:(k==NameKind.free)=false:=Wd.mpr hk;rw[hb]at h;simp only[Bool.false_and,false_eq_true,if_false,lookup_cons,beq_self_eq_true]at h
    rcases h with h|h
    ·exact absurd (VJ h) hk2
    ·exact absurd (VJ h) hk
  |false=>
   refine Vq _ (ih hc' ?_)
   by_cases hk:(k==NameKind.free&&env.scope.kind==.function&&env.kindOf n==some .cell)=true
   ·rw[Vv hk]at h;simp only[lookup_cons,hx]at h;exact h
   ·rw[Vw hk]at h;simp only[lookup_cons,hx]at h;exact h
theorem rE(h:scope.names.lookup x=some .free) :
  (relabel scope env).names.lookup x=some .cell\/(relabel scope env).names.lookup x=some .free:=by
 unfold relabel;simp only;generalize scope.names=ns at h
 induction ns with
 |nil=>simp at h
 |cons p r ih=>
  obtain⟨n,k⟩:=p;simp only[map_cons];cases hx:x==n with
  |true=>
   simp only[lookup_cons,hx]at h;have hk:=VJ h;subst hk
   by_cases hk:(NameKind.free==NameKind.free&&env.scope.kind==.function&&env.kindOf n==some .cell)=true
   ·rw[Vv hk];simp[lookup_cons,hx]
   ·rw[Vw hk];simp[lookup_cons,hx]
  |false=>
   simp only[lookup_cons,hx]at h
   by_cases hk:(k==NameKind.free&&env.scope.kind==.function&&env.kindOf n==some .cell)=true
   ·rw[Vv hk];simp only[lookup_cons,hx];exact ih h
   ·rw[Vw hk];simp only[lookup_cons,hx];exact ih h
section
variable {X:Cx} {pins:List (Addr×Obj)} {σ:St} {scope:Scope} {N':List Str} {js:List (Option Nat)}
theorem nu(ok:rD X scope N' js)(xo:X.Ok):∀y∈scope.names,y.2=.free->∃c,X.env.cells.lookup y.1=some c:=λy hy e=>by
 have:=(ok.free y hy e).1;unfold rA at this;rw[XS]at this;refine xo.has y.1 ?_
 rcases this with z|z
 ·exact .inl (eq_of_beq z)
 ·exact .inr (eq_of_beq z)
theorem vB{tk:Nat}(ok:rD X scope N' js)(I:Inv X pins σ H s)
  (hcl1:∀x c,cl.lookup x=some c->X.env.cells.lookup x=some c) (hcl2:∀x,(x,NameKind.free)∈scope.names->∃c,cl.lookup x=some c)
  (hfp:∀b∈fp,mK X pins H b) (hlt:∀b∈fp,b<s.heap.objs.size)
  (hns:h'.Ns s.heap.objs.size (λ_=>none)) (hk:∀b o,s.heap.get? b=some o->h'.get? b=some o) :
  Inv (bJ X scope N' cl s.heap.objs.size s H fp) [] (iC js σ) H { s with heap:=h',toks:=tk }:=by
 have cellK:∀x c,cl.lookup x=some c->∃v,s.heap.IsCell c v:=λx c e=>I.cell x c (hcl1 x c e);have hCf:H s.heap.objs.size=none:=I.hok.fresh (Vu _);refine⟨⟨I.ok.mod,ok.kind,I.ok.glob,I.ok.blt,Vu _,λx y c e1 e2=>I.ok.inj x y c (hcl1 x c e1) (hcl1 y c e2),λx hx=>hcl2 x (pe ok.AF hx),λx c hf _=>absurd hf (by intro z;cases z),I.ok.hd,I.ok.frames,.inl rfl,
   λb hb=>⟨VE (hlt b hb),λx c e z=>?_⟩,I.bs,VX I.ok.FU I.sz,λb o e hb=>?_,λb hb hs=>?_,I.stack,I.wO⟩,rfl,I.bare,Un.kept hk,⟨_,hns,λi x v e1 e2 e3=>?_⟩,λx c e=>?_,hCf,λx c e=>I.iQ x c (hcl1 x c e),
   λp hp=>absurd (show p∈([]:List (Addr×Obj)) from hp) (by simp),I.hok.kept hk,?_⟩
 ·exact(hfp b hb).2.2.2.2.1 x c (hcl1 x c e) z
 ·rcases(hfp b hb).2.2.2.1 with z|z
  ·exact I.ok.mH b o e z
  ·exact absurd (VA (Vy (I.ok.bs b o e).1) z) (Wl _)
 ·rcases VF.mp (I.vd b hs) with z|z
  ·exact(hfp b hb).2.1 z
  ·exact(hfp b hb).2.2.1 z
 ·-- a name S4 has a value: one of the def around
  have Df:(iC js σ)[i]?=some (some v):=e2;unfold iC at Df;rw[VI] at Df;cases hj:js[i]? with
  |none=>rw[hj] at Df;cases Df
  |some o=>
   rw[hj] at Df;cases o with
   |none=>simp at Df
   |some j=>
    obtain⟨hN,hf⟩:=ok.src i x j e1 hj;cases hs:σ[j]? with
    |none=>simp[hs] at Df
    |some ov=>
     cases ov with
     |none=>simp[hs] at Df
     |some v'=>
      simp[hs] at Df;subst Df;have hfr:=(ok.free (x,.free) (Wo hf) rfl).1;unfold rA at hfr;rw[XS]at hfr;have Mj:X.env.scope.names.lookup x=some .cell\/X.env.scope.names.lookup x=some .free:=hfr.imp eq_of_beq eq_of_beq;obtain⟨m,_,hl⟩:=I.loc;obtain⟨u,r,l⟩:=hl j x v' hN hs (.inr Mj);refine⟨u,r,.inr ⟨rE hf,?_⟩⟩
      rcases l with ⟨k,_⟩|⟨_,c,e,z⟩
      ·have k':X.env.scope.names.lookup x=some .local:=k
       rcases Mj with q|q<;>(rw[q]at k';cases k')
      ·obtain⟨d,hd⟩:=hcl2 x (Wo hf);have e':=hcl1 x d hd;rw[e]at e';cases e';obtain⟨oc,hoc,z7⟩:=z;exact⟨c,hd,oc,hk _ _ hoc,z7⟩
 ·obtain⟨v,oc,hoc,z7⟩:=cellK x c e;exact⟨v,oc,hk _ _ hoc,z7⟩
 ·rw[jX];exact ok.len
theorem yS(I:Inv X pins σ H s)(hfp:∀b∈fp,mK X pins H b)
  (J:Inv (bJ X scope N' cl C s H fp) [] σ' H' s'):Inv X pins σ H' s' :=
 I.LF (ch:=fp) J.os J.base J.hok J.bare λb hb=>⟨(hfp b hb).2.2.2.1,(hfp b hb).2.1,(hfp b hb).2.2.2.2.1,(hfp b hb).2.2.2.2.2⟩
end
section
variable {X:Cx} {scope:Scope} {N':List Str} {js:List (Option Nat)} {tg elt iter:Expr} {ifs:List Expr} {pos:Pos} {wi:TI} {g:TG} {tt:TT} {te:TE}
theorem tK{pins:List (Addr×Obj)}{σ:St}{H2:Hp}{s2:Shared}{it:Addr}{fp:List Addr}{tn:Nat->Heap->Prop}{J:It}{cl:List (Str×Addr)}{E:Value->Shared->Prop}{RR:Value->Addr->Result->Shared->Prop}{Q:VK}
  (ok:rD X scope N' js) (hc:X.calm=true) (I2:Inv X pins σ H2 s2) (T:Turn X.prog X.w X.K tg J fp it tn) (st2:tn 0 s2.heap) (f2:∀b∈fp,mK X pins H2 b)
  (hcl1:∀x c,cl.lookup x=some c->X.env.cells.lookup x=some c) (hcl2:∀x,(x,NameKind.free)∈scope.names->∃c,cl.lookup x=some c)
  (hg:∀cl C s H fp,PG (bJ X scope N' cl C s H fp) tg g) (ht:∀cl C s H fp,DV (bJ X scope N' cl C s H fp) ifs tt) (he:∀cl C s H fp,PE (bJ X scope N' cl C s H fp) elt te)
  (rd:∀D,H2 D=none->∃W:Nat->Nat->St->Hp->Prop,(∃m,W 0 m (iC js σ) (upd H2 D (.lst []))) /\
   ∀i m σ' H,W i m σ' H->(J.stop i H/\Q (.ref D) H)\/(J.go i H/\∃N:St->Hp->Prop,(∀zY H',N zY H'->∃m',m'<m/\W (i+1) m' zY H') /\
    ∀x H',J.vc i H x H'->g x σ' H' λσ2 H2=>tt σ2 H2 λb H3=>if b=true then te σ2 H3 λy H4=>∃ys,H4 D=some (.lst ys)/\ys.length<sizeLine/\N σ2 (upd H4 D (.lst (ys++[y]))) else N σ2 H3))
  (hRR:∀(D C:Addr) (s':Shared) (H':Hp) (m:Str->Option Value),s2.heap.objs.size<=C->Inv X pins σ H' s'->H' C=none->s'.heap.Ns C m->Q (.ref D) H'->RR (.ref D) C (.ok .next) s') :
  wpAny (model X.prog X.w) X.A (newList []) (λacc s₃=>wpAny (model X.prog X.w) X.A (newFunctionEnv scope X.env.globals cl [] X.env.qual none .none (some X.env)) (λcenv s₄=>
   codeAny (model X.prog X.w) X.A (.compStart (.ListComp elt [⟨tg,iter,ifs,0⟩] scope pos) 0 (.ref it) acc { cenv with scope:=relabel scope X.env }) (RR acc cenv.locals) s₄) E s₃) E s2:=by
 have hD:H2 s2.heap.objs.size=none:=I2.hok.fresh (Vu _);refine VY (wpAny_newFunctionEnv ok.AF (by intro y hy;simp at hy) (λh₁ Ml Mm=>?_) ok.kind);dsimp only at Ml Mm |-;have I3:Inv X pins σ (upd H2 s2.heap.objs.size (.lst [])) { s2 with heap:=s2.heap.push { cls:=.type "list",dict:=none,data:=.seq ([]:List Value).toArray },toks:=s2.toks } :=
  I2.laid (t':=s2.toks) (λb u e=>Vo _ e) (Vu _) ⟨by simp,[],0,.nil,VB _ rfl⟩
 generalize Mn:({ s2 with heap:=s2.heap.push { cls:=.type "list",dict:=none,data:=.seq ([]:List Value).toArray },toks:=s2.toks }:Shared)=s3 at I3;have hsz:s3.heap.objs.size=s2.heap.objs.size+1:=by rw[<-Mn];exact Wm ..
 have eC:(s2.heap.push { cls:=.type "list",dict:=none,data:=.seq ([]:List Value).toArray }).objs.size=s3.heap.objs.size:=by rw[<-Mn]
 have f3:∀b∈fp,mK X pins (upd H2 s2.heap.objs.size (.lst [])) b:=λb hb=>by
  obtain⟨o,e,_⟩:=T.obj _ _ st2 b hb;refine⟨?_,(f2 b hb).2⟩;rw[aF (VE (Vy e))];exact(f2 b hb).1
 have hlt:∀b∈fp,b<s3.heap.objs.size:=λb hb=>by
  obtain⟨o,e,_⟩:=T.obj _ _ st2 b hb;have hb2:b<s2.heap.objs.size:=Vy e;rw[hsz];exact Wy hb2
 have keep:∀b o,s3.heap.get? b=some o->h₁.get? b=some o:=λb o e=>by
  have e':(s2.heap.push { cls:=.type "list",dict:=none,data:=.seq ([]:List Value).toArray }).get? b=some o:=by rw[<-Mn]at e;exact e
  exact Mm.extBut b o (VE (Vy e')) (Vo _ e')
 have I4:=vB (tk:=s2.toks+([]:List (Str×Value)).length) ok I3 hcl1 hcl2 f3 hlt (h':=h₁) (by rw[<-eC];simpa using Ml) keep;have RA:tn 0 h₁:=T.keep _ _ _ st2 λb hb o e=>keep b o (by rw[<-Mn];exact Vo _ e);obtain⟨W,⟨m0,w0⟩,turn⟩:=rd _ hD;have stat:∀{H':Hp},(∀b∈fp,H' b=none)->∀b∈fp,mK (bJ X scope N' cl s3.heap.objs.size s3 (upd H2 s2.heap.objs.size (.lst [])) fp) [] H' b:=λ{H'} hn b hb=>
  ⟨hn b hb,VE (hlt b hb),I4.ok.z6 b hb,.inl hb,(I4.ok.Pp b hb).2,λp hp=>absurd (show p∈([]:List (Addr×Obj)) from hp) (by simp)⟩
 have S5:∀tk,({ s2 with heap:=h₁,toks:=tk }:Shared)={ s3 with heap:=h₁,toks:=tk }:=λtk=>by rw[<-Mn]
 have loop:codeAny (model X.prog X.w) X.A (.compLoop (.ListComp elt [⟨tg,iter,ifs,0⟩] scope pos) 0 (.ref it) (.ref s2.heap.objs.size) (compEnvC scope cl s3.heap.objs.size X.env)) (RR (.ref s2.heap.objs.size) s3.heap.objs.size)
   { s3 with heap:=h₁,toks:=s2.toks+([]:List (Str×Value)).length }:=by
  refine codeAny_loop rfl (λn s'=>∃i σ' H',Inv (bJ X scope N' cl s3.heap.objs.size s3 (upd H2 s2.heap.objs.size (.lst [])) fp) [] σ' H' s'/\tn i s'.heap/\(∀b∈fp,H' b=none)/\W i n σ' H') ?_ m0 ⟨0,_,_,I4,RA,λb hb=>(f3 b hb).1,w0⟩;rintro n s5 ⟨i,σ5,H5,I5,Ll,O5,w5⟩;show wpAny _ X.A ((compTurn (.ListComp elt [⟨tg,iter,ifs,0⟩] scope pos) 0 (.ref it) (.ref s2.heap.objs.size) (compEnvC scope cl s3.heap.objs.size X.env)).onRaise (λx=>do noteFrame x (compEnvC scope cl s3.heap.objs.size X.env);theTreesLotGoes x)) _ _ s5;refine wpAny_noted ?_;rw[compTurn_list];refine Vm (wpAny_standAt (Vm ?_))
  rcases turn i n σ5 H5 w5 with ⟨stop,qn⟩|⟨go,N,hN,step⟩
  ·refine Wt (T.done (bJ X scope N' cl s3.heap.objs.size s3 (upd H2 s2.heap.objs.size (.lst [])) fp) rfl rfl rfl hc i [] s5 σ5 H5 (λ_ _=>False) I5 (stat O5) Ll stop) (λr s6 ⟨hr,I6⟩=>?_) λ_ _ z=>z.elim;subst hr;refine Vt ?_;obtain⟨m,hm,_⟩:=id I6.loc;exact hRR _ _ s6 H5 m (by rw[hsz];exact Wr _) (yS I3 f3 I6) I6.free hm qn
  ·refine Wt (T.item (bJ X scope N' cl s3.heap.objs.size s3 (upd H2 s2.heap.objs.size (.lst [])) fp) rfl rfl rfl hc i [] s5 σ5 H5 (λ_ _=>False) I5 (stat O5) Ll go) (λr s6 ⟨u,hr,h6⟩=>?_) λ_ _ z=>z.elim
   subst hr;refine Vm (Wt h6 (λ_ s7 ⟨x,H7,I7,r7,y7,Qc,S6⟩=>?_) λ_ _ z=>z.elim);have S7:=I7.pinned (stat S6) (T.obj _ _ Qc);refine Vm (Wt (hg _ _ _ _ _ _ s7 σ5 H7 x u _ S7 r7 (step x H7 y7)) (λ_ s8 ⟨σ8,H8,I8,q8⟩=>?_) λ_ _ z=>z.elim);refine Vm (Wt (ht _ _ _ _ _ _ s8 σ8 H8 _ I8 q8) (λb s9 ⟨H9,I9,q9⟩=>?_) λ_ _ z=>z.elim);have AH:∀{sA:Shared} {σA:St} {HA:Hp},Inv (bJ X scope N' cl s3.heap.objs.size s3 (upd H2 s2.heap.objs.size (.lst [])) fp) ([]++m9 fp s7.heap) σA HA sA->N σA HA ->
     ∃m,m<n/\∃i σ' H',Inv (bJ X scope N' cl s3.heap.objs.size s3 (upd H2 s2.heap.objs.size (.lst [])) fp) [] σ' H' sA/\tn i sA.heap/\(∀b∈fp,H' b=none)/\W i m σ' H':=λ{sA σA HA} IA nA=>by
    obtain⟨m',hm,wA⟩:=hN σA HA nA;refine⟨m',hm,i+1,σA,HA,IA.kr,T.keep _ _ _ Qc λb hb o e=>(IA.pin (b,o) (VW _ (VW _ (iB hb e)))).1,λb hb=>?_,wA⟩;obtain⟨o,e,d⟩:=T.obj _ _ Qc b hb;exact(IA.pin (b,o) (VW _ (VW _ (iB hb e)))).2.1
   cases b with
   |false=>exact Vt ⟨rfl,AH I9 (by simpa using q9)⟩
   |true=>rw[Vv rfl]at q9;refine Vm (Vm (Wt (he _ _ _ _ _ _ s9 σ8 H9 _ I9 q9) (λv sB ⟨y,HB,IB,rB,ys,hys,hlen,nB⟩=>?_) λ_ _ z=>z.elim));refine Vm (Wt (pV (X:=bJ X scope N' cl s3.heap.objs.size s3 (upd H2 s2.heap.objs.size (.lst [])) fp) _ sB σ8 HB (.ref s2.heap.objs.size) [y] _ [v] (λ_ HC=>HC=upd HB s2.heap.objs.size (.lst (ys++[y]))) IB rfl #[rB] ⟨_,ys,y,rfl,rfl,hys,hlen,rfl⟩) (λv' sC ⟨_,HC,IC,_,S8⟩=>?_) λ_ _ z=>z.elim);subst S8;exact Vt (Vt ⟨rfl,AH IC nB⟩)
 rw[S5];have Qd:({ newEnv scope (s2.heap.push { cls:=.type "list",dict:=none,data:=.seq ([]:List Value).toArray }).objs.size X.env.globals cl X.env.qual none Value.none (some X.env) builtinsNs with scope:=relabel scope X.env }:Env)=compEnvC scope cl s3.heap.objs.size X.env:=by rw[eC];rfl
 have Qe:(newEnv scope (s2.heap.push { cls:=.type "list",dict:=none,data:=.seq ([]:List Value).toArray }).objs.size X.env.globals cl X.env.qual none Value.none (some X.env) builtinsNs).locals=s3.heap.objs.size:=by rw[eC];rfl
 rw[Qd,Qe];exact codeAny_compStart_list loop (T.self _ _ _ _ _ RA loop)
theorem DY(hok:jF X.N X.env.scope scope N' js=true)(hc:X.calm=true)(hi:PI X tg iter wi)(hg:∀cl C s H fp,PG (bJ X scope N' cl C s H fp) tg g)
  (ht:∀cl C s H fp,DV (bJ X scope N' cl C s H fp) ifs tt) (he:∀cl C s H fp,PE (bJ X scope N' cl C s H fp) elt te)
  (hs:∀x,foldedSetIterable iter X.env x=pure x):PE X (.ListComp elt [⟨tg,iter,ifs,0⟩] scope pos) (AG wi js g tt te):=by
 intro pins s σ H Q I h;have ok:=pZ hok;obtain⟨cl,Qf,hcl1,hcl2⟩:=nt (nu ok I.ok);rw[eval_ListComp];refine wpAny_comprehension_free (use:=none) rfl hs Qf ok.kind ok.names (cE (hi pins s σ H _ I h) λxv s1 h1=>cE h1 λitv s2 h2=>?_);obtain⟨it,fp,tn,J,H2,rfl,I2,T,st2,f2,rd⟩:=h2;refine tK (RR:=λacc C=>compPost (model X.prog X.w) X.A X.xe none (EP X pins σ Q) acc C) ok hc I2 T st2 f2 hcl1 hcl2 hg ht he rd ?_;intro D C s' H' m hC J' fC hm q;refine⟨m,hm,λh' hs'=>⟨.ref D,H',?_,rfl,q⟩⟩;refine J'.turned (t':=s'.toks) (λb o hb e=>hs'.extBut b o hb e) fC (W4 (VA I2.lt hC)) (.inr (VX I2.sz hC)) (λx c e z=>?_) λp hp z=>?_
 ·obtain⟨v,q'⟩:=I2.cell x c e;exact absurd (VA q'.lt (by rw[z];exact hC)) (Wl _)
 ·exact absurd (VA (Vy (I2.pin p hp).1) (by rw[z];exact hC)) (Wl _)
theorem DZ{i:Nat}(hN:X.N.Nodup)(hx:X.N[i]?=some x)(hl:Loc X.env.scope x)(hok:jF X.N X.env.scope scope N' js=true)(hc:X.calm=true)(hi:PI X tg iter wi)(hg:∀cl C s H fp,PG (bJ X scope N' cl C s H fp) tg g)
  (ht:∀cl C s H fp,DV (bJ X scope N' cl C s H fp) ifs tt) (he:∀cl C s H fp,PE (bJ X scope N' cl C s H fp) elt te)
  (hsw:swapsWith (.ListComp elt [⟨tg,iter,ifs,0⟩] scope pos) (some (.Name x pos')) spos.line X.env=pure true)
  (hf:X.fn x=true\/X.env.scope.names.lookup x=some .local)
  (hs:∀x,foldedSetIterable iter X.env x=pure x):PS X (.Assign [.Name x pos'] (.ListComp elt [⟨tg,iter,ifs,0⟩] scope pos) spos) (Dw (AG wi js g tt te) (pO i)):=by
 intro pins s σ H D I h;have ok:=pZ hok;obtain⟨cl,Qf,hcl1,hcl2⟩:=nt (nu ok I.ok);rw[exec_Assign_Name_used _ _ _ _ hsw];refine Vm (wpAny_standAt (Vm ?_));show wpAny _ X.A (do let _ <-comprehension (.ListComp elt [⟨tg,iter,ifs,0⟩] scope pos) scope X.env _ (newList []) false (eval iter X.env) (some (assign (.Name x pos') X.env))) _ _ s;refine Vm (Wt (wpAny_comprehension_free (use:=some (assign (.Name x pos') X.env)) (Q:=λ_ s'=>SP X pins D .next s') rfl hs Qf ok.kind ok.names
  (cE (hi pins s σ H _ I h) λxv s1 h1=>cE h1 λitv s2 h2=>?_)) (λ_ s' hq=>Vt (Vt hq)) λ_ _ e=>e)
 obtain⟨it,fp,tn,J,H2,rfl,I2,T,st2,f2,rd⟩:=h2;refine tK (RR:=λacc C=>compPost (model X.prog X.w) X.A X.xe (some (assign (.Name x pos') X.env)) (λ_ s'=>SP X pins D .next s') acc C) (Q:=λx H1=>pO i x σ H1 D.nx) ok hc I2 T st2 f2 hcl1 hcl2 hg ht he rd ?_;intro E C s' H' m hC J' fC hm q;have RB:C≠X.env.locals:=W4 (VA I2.lt hC);have hCc:∀x c,X.env.cells.lookup x=some c->c≠C:=λx c e z=>by
  obtain⟨v,q'⟩:=I2.cell x c e;exact absurd (VA q'.lt (by rw[z];exact hC)) (Wl _)
 refine cE (show wpAny _ X.A (assign (.Name x pos') X.env (.ref E)) (λ_ s''=>(∃zY Ib,Inv X pins zY Ib s''/\D.nx zY Ib/\Ib C=none)/\∃m,s''.heap.Ns C m) X.xe s' from ?_) λ_ s'' ⟨⟨zY,Ib,Qg,S9,Qh⟩,Tc,Ic⟩=>?_
 ·refine wpAny_assign_Name (pN J' hN hx hl (show RelV (.ref E) (.ref E) from rfl) (λs'' Qg ⟨a,Td,ha⟩=>⟨⟨_,H',Qg,q,fC⟩,m,?_⟩) hf)
  refine hm.sameBut Td ?_
  rcases ha with z|z
  ·rw[z];exact RB
  ·exact λw=>hCc _ _ z w.symm
 ·refine⟨Tc,Ic,λh' hs'=>⟨zY,Ib,?_,S9⟩⟩;refine Qg.turned (t':=s''.toks) (λb o hb e=>hs'.extBut b o hb e) Qh RB (.inr (VX I2.sz hC)) hCc λp hp z=>?_;exact absurd (VA (Vy (I2.pin p hp).1) (by rw[z];exact hC)) (Wl _)
end
theorem Inv.xh{X:Cx}{pins:List (Addr×Obj)}{σ:St}{H:Hp}{s:Shared}{h':Heap}{t':Nat}{ch:List Addr}(I:Inv X pins σ H s)(hf:∀b∈ch,mK X pins H b)
  (k:∀b o,b∉ch->s.heap.get? b=some o->h'.get? b=some o):Inv X pins σ H { s with heap:=h',toks:=t' }:=by
 have LC:∀b u,H b=some u->b∉ch:=λb u e z=>by rw[(hf b z).1]at e;cases e
 refine I.step (g':=s.gens) (d':=s.drawn) (ch:=ch) (λb hb=>?_) (λb o _ _ hc e _=>k b o hc e) (λb o _ _ hc e _=>⟨o.slots,k b o hc e⟩) (λ_ _ _ _ n=>n)
  (λb o hc e=>⟨o,k b o hc e⟩) (λ_ _ e=>e) (λ_ _ _ e=>e) (λb ps e=>⟨#[],by rw[e];simp⟩) (λm hm=>?_) (λb u e=>?_) I.bare
 ·exact⟨(hf b hb).2.2.2.1,(hf b hb).2.1,(hf b hb).2.2.2.2.1,(hf b hb).2.2.2.2.2⟩
 ·obtain⟨o,es,ep,ho,r⟩:=hm;exact⟨o,es,ep,k _ o (λz=>(hf _ z).2.1 rfl) ho,r⟩
 ·refine(I.hok b u e).stay (λc v hc q=>k c v ?_ q) (λ_ q=>q) λ_ _ q=>q
  rcases hc with z|z
  ·rw[z];exact LC b u e
  ·exact LC c _ z
def Mp(K:Frag)(a:Addr):It :=
 ⟨λi H=>∃xs x,fN K H a xs/\xs[i]?=some x,λi H x H'=>∃p v,H p=none/\x=.ref p/\H'=upd H p (.tup [.int i,v])/\∀xs,fN K H a xs->xs[i]?=some v,λi H=>∃xs,fN K H a xs/\xs.length<=i⟩
theorem yT{P:Program}{w:World}{K:Frag}{es:List Expr}{k:Nat}{pos:Pos}(a e it:Addr)(hne:e≠it) :
  Turn P w K (.Tuple es k pos) (Mp K a) [e,it] e (λi h=>(∃old,IsEnum h e it i old)/\h.IsListIter it a i) where
 mem:=by simp
 obj:=λi h st b hb=>by
  obtain⟨⟨old,he⟩,⟨o,e2,c,d⟩⟩:=st
  rcases VF.mp hb with z|z
  ·subst z;exact⟨_,he,λv z=>nomatch z⟩
  ·rw[VM.mp z];exact⟨o,e2,λv z=>by rw[d]at z;cases z⟩
 keep:=λi h h' st k=>⟨let ⟨old,he⟩:=st.1;⟨old,k e (by simp) _ he⟩,st.2.at λo e=>k it (by simp) o e⟩
 item:=by
  intro X hP hw hK hc i pins s σ H E I hf st hg;subst hP hw hK;obtain⟨xs,x,hq,hx⟩:=hg;obtain⟨its,rv,p,hz⟩:=I.list hq;obtain⟨u,hu,ru⟩:=rv.get hx;obtain⟨⟨old,he⟩,hit⟩:=st;have hei:e<s.heap.objs.size:=Vy he;have Te:it<s.heap.objs.size:=by obtain⟨_,y,_⟩:=hit;exact Vy y
  refine wpAny_pyNext_enum_item he hit p.isList (x:=u) (by simpa using hu) hne λh' ho Qi hT hsz hk=>?_;refine⟨_,rfl,?_⟩;refine wpAny_letOwnedTupleGo_enum ho λh2 Tf hs2=>?_;have hT2:h2.get? s.heap.objs.size=some { cls:=.type "tuple",data:=.seq [.int i s.toks,u].toArray }:=hs2.extBut _ _ (W4 hei) hT;have I1:Inv X pins σ H { s with heap:=h2,toks:=s.toks+1 }:=I.xh (ch:=[e,it]) hf λb o hb q=>by
   have h1:b≠e:=λz=>hb (by simp[z]);have h2:b≠it:=λz=>hb (by simp[z]);exact hs2.extBut b o h1 (hk b o h1 h2 q)
  have hn:H s.heap.objs.size=none:=I.hok.fresh (Vu _);have I2:Inv X pins σ (upd H s.heap.objs.size (.tup [.int i,x])) { s with heap:=h2,toks:=s.toks+1 }:=by
   have un:Un X.fs [] H (upd H s.heap.objs.size (.tup [.int i,x])) s.heap s.heap:=Un.laid (λb u q=>q) (Vu _) hn;refine⟨I1.ok,I1.os,I1.bare,?_,I1.loc,I1.cell,?_,λy c q=>?_,λp hp=>?_,λb o q=>?_,I1.len⟩
   ·refine⟨I1.base.keep,I1.base.slot,λb o q n hx=>?_,I1.base.there,λb ys q=>?_,λb o ys q=>?_,λb ps q=>?_⟩
    ·have hlt:b<s.heap.objs.size:=VA (Vy q) I.sz;rw[aF (VE hlt)];exact I1.base.free b o q n hx
    ·rw[aF (aO (I1.base.tups b ys q) hn)];exact I1.base.tups b ys q
    ·rw[aF (aO (I1.base.frzs b o ys q) hn)];exact I1.base.frzs b o ys q
    ·obtain⟨more,z⟩:=I1.base.qR b ps q;exact⟨more,by rw[aF (aO z hn)];exact z⟩
   ·rw[aF (VE I.lt)];exact I1.free
   ·obtain⟨v,z⟩:=I.cell y c q;rw[aF (VE z.lt)];exact I1.iQ y c q
   ·obtain⟨q1,q2,q3⟩:=I1.pin p hp;refine⟨q1,?_,q3⟩;rw[aF (VE (Vy (I.pin p hp).1))];exact q2
   ·by_cases hb:b=s.heap.objs.size
    ·subst hb;rw[aW]at q;cases q;exact⟨by show 2<=sizeLine;decide,[.int i s.toks,u],.cons ⟨_,rfl⟩ #[ru],_,hT2,rfl,_,rfl⟩
    ·rw[aF hb]at q;exact(I1.hok b o q).stay (λc v _ z=>z) (λc z=>by rw[aF (aO z hn)];exact z) λc ys z=>by rw[aF (aO z hn)];exact z
  refine⟨.ref s.heap.objs.size,_,I2,rfl,⟨s.heap.objs.size,x,hn,rfl,rfl,λys hy=>by rw[I.sS hy hq];exact hx⟩,⟨⟨_,by simpa using Tf⟩,?_⟩,λb hb=>?_⟩
  ·exact Qi.at λo y=>(hs2.2 it hne.symm).trans y
  ·have hlt:b<s.heap.objs.size:=by
    rcases VF.mp hb with z|z
    ·rw[z];exact hei
    ·rw[VM.mp z];exact Te
   rw[aF (VE hlt)];exact(hf b hb).1
 done:=by intro X hP hw hK hc i pins s σ H E I hf st hg;subst hP hw hK;obtain⟨xs,hq,hx⟩:=hg;obtain⟨its,rv,p,hz⟩:=I.list hq;obtain⟨⟨old,he⟩,hit⟩:=st;have hl:=rv.length;exact wpAny_pyNext_enum_end (I.ok.hd hc) he hit p.isList (by simp;omega) λh' eb=>⟨rfl,I.xh (t':=s.toks) (ch:=[e,it]) hf λb o hb q=>eb b o (λz=>hb (by simp[z])) q⟩
 self:=λ_ _ _ _ _ st h=>let ⟨_,he⟩:=st.1;wpAny_pyIter_enum he h
def Mq(K:Frag)(ta:TA):TI:=λσ H R=>ta σ H λvs H1=>∃a,vs=[.ref a]/\(∃xs,fN K H1 a xs)/\R (Mp K a) H1
theorem D0{k:Nat}(hg:Gl X "enumerate")(hm:X.mg "enumerate" = none)(ha:PA X [a] ta)(hs:starEach [a] X.env=[(false,eval a X.env)]) :
  PI X (.Tuple es k tpos) (.Call (.Name "enumerate" p) [a] [] pos) (Mq X.K ta):=by
 intro pins s σ H R I h;refine Call_ (iV I hg hm boot_enumerate (Wk (cE (ha pos pins s σ H _ I h) λus s1 aK=>?_) hs rfl));obtain⟨vs,H1,I1,r1,q1⟩:=aK;obtain⟨l,e,⟨xs,hq⟩,q⟩:=q1;subst e;cases r1 with
 |cons r rr=>
  cases rr;cases r;obtain⟨its,rv,pl,hz⟩:=I1.list hq;refine call_enumerate_list pl.isList λh' he hit hsz hk=>?_;have I2:Inv X pins σ H1 { s1 with heap:=h' }:=I1.kept (t':=s1.toks) hk;refine wpAny_pyIter_enum (s:={ s1 with heap:=h' }) he ?_;refine⟨_,[s1.heap.objs.size+1,s1.heap.objs.size],_,_,H1,rfl,I2,yT l _ _ (W4 (V6 _)),⟨⟨_,by simpa using he⟩,hit⟩,λb hb=>?_,q⟩;have hb':s1.heap.objs.size<=b:=by
   rcases VF.mp hb with z|z
   ·rw[z];exact Wr _
   ·rw[VM.mp z];exact Vu _
  exact I1.Ag hb' (I1.hok.fresh hb')
end L2
end
section
namespace L2
open PySem PySem.W PyProof.Rows
namespace oX
section
variable {O:KeyOrd} {key:Nat->O.α} {N:Nat} {cmp:Nat->Nat->(Bool->Shared->Prop)->Shared->Prop} {s:Shared}
def K(O:KeyOrd)(key:Nat->O.α)(p:Array Nat)(i:Nat):O.α:=key (p.getD i 0)
def Up(O:KeyOrd)(key:Nat->O.α)(p:Array Nat)(k:Nat):Prop:=∀i j,i<=j->j<k->O.kle (K O key p i) (K O key p j)
def Down(O:KeyOrd)(key:Nat->O.α)(p:Array Nat)(k:Nat):Prop:=∀i j,i<=j->j<k->O.kle (K O key p j) (K O key p i)
def D3(O:KeyOrd)(key:Nat->O.α)(N:Nat)(cmp:Nat->Nat->(Bool->Shared->Prop)->Shared->Prop)(s:Shared):Prop :=
 ∀i j (C:Bool->Shared->Prop),i<N->j<N->C (O.blt (key i) (key j)) s->cmp i j C s
def Ent(N:Nat)(p:Array Nat):Prop:=p.size=N/\0<N/\∀x∈p.toList,x<N
theorem Ent.at{p:Array Nat}(h:Ent N p)(i:Nat):p.getD i 0<N:=by
 by_cases hi:i<p.size
 ·have e:p.getD i 0=p[i]:=by simp[Array.getD,hi]
  rw[e];exact h.2.2 _ (by simp)
 ·have e:p.getD i 0=0:=by simp[Array.getD,hi]
  rw[e];exact h.2.1
theorem Ent.perm{p q:Array Nat}(h:Ent N p)(e:q.Perm p):Ent N q :=
 ⟨e.size_eq.trans h.1,h.2.1,λx hx=>h.2.2 x ((Array.perm_iff_toList_perm.mp e).mem_iff.mp hx)⟩
theorem K_congr{p q:Array Nat}{i j:Nat}(h:p[i]?=q[j]?):K O key p i=K O key q j:=by
 unfold K;rw[Array.getD_eq_getD_getElem?,Array.getD_eq_getD_getElem?,h]
theorem K_bubble{p:Array Nat}{src d:Nat}(hs:src<p.size)(hd:d<=src)(k:Nat) :
  K O key (bubble p src d) k=if k=src-d then K O key p src else if src-d<k/\k<=src then K O key p (k-1) else K O key p k:=by
 have e:=getElem?_bubble hs d hd k
 by_cases h1:k=src-d
 ·rw[Vv h1]at e |-;exact K_congr e
 ·rw[Vw h1]at e |-
  by_cases h2:src-d<k/\k<=src
  ·rw[Vv h2]at e |-;exact K_congr e
  ·rw[Vw h2]at e |-;exact K_congr e
theorem AI{p:Array Nat}{i j:Nat}(hj:j<=p.size)(k:Nat):K O key (kas_rev p i j) k=if i<=k/\k<j then K O key p (i+j-1-k) else K O key p k:=by
 have e:=getElem?_mirror_all (i:=i) hj k
 by_cases h1:i<=k/\k<j
 ·rw[Vv h1]at e |-;exact K_congr e
 ·rw[Vw h1]at e |-;exact K_congr e
theorem nv{p:Array Nat}{i j:Nat}(hj:j<=p.size)(h:∀k,i<=k->k<j->K O key p k=K O key p (j-1))(k:Nat):K O key (kas_rev p i j) k=K O key p k:=by
 rw[AI hj]
 split
 ·rw[h _ (by omega) (by omega),h k (by omega) (by omega)]
 ·rfl
theorem tL{p:Array Nat}{m:Nat}(h:∀t,1<=t->t<m->O.kle (K O key p (t-1)) (K O key p t)):Up O key p m:=by
 intro i j hij hj
 induction j with
 |zero=>
  have:i=0:=by omega
  subst this;exact WA _
 |succ j ih=>
  by_cases e:i=j+1
  ·subst e;exact WA _
  ·exact Xs (ih (by omega) (by omega)) (h (j+1) (by omega) hj)
theorem Ie(hA:D3 O key N cmp s){p:Array Nat}(he:Ent N p):∀(f n:Nat) {Q:Nat->Shared->Prop},1<=n ->
  (∀m,n<=m->m<=n+f->(∀t,n<=t->t<m->O.kle (K O key p (t-1)) (K O key p t))->(m<n+f->O.klt (K O key p m) (K O key p (m-1)))->Q m s)->(kas_asc p f n).kasWp cmp Q s
 |0,n,Q,hn,h=>h n (Vu _) (Vu _) (λt h1 h2=>by omega) λq=>by omega
 | f+1,n,Q,hn,h=>by
  show cmp _ _ _ s;refine hA _ _ _ (he.at _) (he.at _) ?_;cases hb:O.blt (key (p.getD n 0)) (key (p.getD (n-1) 0)) with
  |true=>exact h n (Vu _) (by omega) (λt h1 h2=>by omega) λ_=>hb
  |false=>
   show (kas_asc p f (n+1)).kasWp cmp Q s;refine Ie hA he f (n+1) (by omega) λm h1 h2 h3 h4=>h m (by omega) (by omega) (λt t1 t2=>?_) λq=>h4 (by omega)
   by_cases e:t=n
   ·subst e;exact hb
   ·exact h3 t (by omega) t2
theorem xj(hA:D3 O key N cmp s):∀(f:Nat) (p:Array Nat) (n q:Nat) {Q:Array Nat×Nat×Nat->Shared->Prop},Ent N p->1<=n->n+f<=N->q+1<=n->Down O key p n->(∀i,n-(q+1)<=i->i<n->K O key p i=K O key p (n-1)) ->
  (∀p' n' q',p'.Perm p->Ent N p'->1<=n'->n<=n'->n'<=n+f->q'+1<=n'->Down O key p' n'->(∀i,n'-(q'+1)<=i->i<n'->K O key p' i=K O key p' (n'-1))->Q (p',n',q') s)->(kas_desc f p n q).kasWp cmp Q s
 |0,p,n,q,Q,he,hn,hN,hq,hd,hl,h=>h p n q (Xc _) he hn (Vu _) (Vu _) hq hd hl
 | f+1,p,n,q,Q,he,hn,hN,hq,hd,hl,h=>by
  show cmp _ _ _ s;refine hA _ _ _ (he.at _) (he.at _) ?_;cases hb:O.blt (key (p.getD n 0)) (key (p.getD (n-1) 0)) with
  |true=>
   have hlt:O.klt (K O key p n) (K O key p (n-1)):=hb;have hd1:Down O key p (n+1):=λi j hij hj=>by
    by_cases e:j=n
    ·subst e
     by_cases e2:i=j
     ·subst e2;exact WA _
     ·exact Xs (Xk hlt) (hd i (j-1) (by omega) (by omega))
    ·exact hd i j hij (by omega)
   show (if q>0 then kas_desc f (kas_rev p (n-(q+1)) n) (n+1) 0 else kas_desc f p (n+1) 0).kasWp cmp Q s
   by_cases RC:q>0
   ·rw[Vv RC]
    have ep:(kas_rev p (n-(q+1)) n).Perm p:=mirror_perm _ _ _ _;have eK:∀k,K O key (kas_rev p (n-(q+1)) n) k=K O key p k:=λk=>nv (by rw[he.1];omega) hl k;refine xj hA f _ (n+1) 0 (he.perm ep) (by omega) (by omega) (by omega) (λi j hij hj=>by rw[eK,eK];exact hd1 i j hij hj) (λi h1 h2=>?_) λp' n' q' g1 g2 g3 g4 g5 g6 g7 g8=>h p' n' q' (g1.trans ep) g2 g3 (by omega) (by omega) g6 g7 g8;have:i=n:=by omega
    subst this;rfl
   ·rw[Vw RC]
    refine xj hA f p (n+1) 0 he (by omega) (by omega) (by omega) hd1 (λi h1 h2=>?_) λp' n' q' g1 g2 g3 g4 g5 g6 g7 g8=>h p' n' q' g1 g2 g3 (by omega) (by omega) g6 g7 g8;have:i=n:=by omega
    subst this;rfl
  |false=>
   show cmp _ _ _ s;refine hA _ _ _ (he.at _) (he.at _) ?_;cases hc:O.blt (key (p.getD (n-1) 0)) (key (p.getD n 0)) with
   |true=>exact h p n q (Xc _) he hn (Vu _) (by omega) hq hd hl
   |false=>
    have heq:K O key p n=K O key p (n-1):=O.total _ _ hb hc;show (kas_desc f p (n+1) (q+1)).kasWp cmp Q s;refine xj hA f p (n+1) (q+1) he (by omega) (by omega) (by omega) (λi j hij hj=>?_) (λi h1 h2=>?_) λp' n' q' g1 g2 g3 g4 g5 g6 g7 g8=>h p' n' q' g1 g2 g3 (by omega) (by omega) g6 g7 g8
    ·by_cases e:j=n
     ·subst e
      by_cases e2:i=j
      ·subst e2;exact WA _
      ·rw[heq];exact hd i (j-1) (by omega) (by omega)
     ·exact hd i j hij (by omega)
    ·show K O key p i=K O key p (n+1-1)
     rw[Nat.add_sub_cancel]
     by_cases e:i=n
     ·subst e;rfl
     ·rw[heq];exact hl i (by omega) (by omega)
theorem AJ(hA:D3 O key N cmp s){p:Array Nat}{n nrem:Nat}(he:Ent N p)(h1:1<=n)(hn:n<=nrem)(hr:nrem<=N)(hd:Down O key p n)
  (h:∀m p',p'.Perm p->Ent N p'->1<=m->m<=nrem->Up O key p' m->Q (m,p') s):(kas_tail3 n nrem p).kasWp cmp Q s:=by
 unfold kas_tail3;rw[Xd];have ep:(kas_rev p 0 n).Perm p:=mirror_perm _ _ _ _;have hz:n<=p.size:=by rw[he.1];omega
 refine Ie hA (he.perm ep) _ _ h1 λm a1 a2 a3 _=>h m _ ep (he.perm ep) (by omega) (by omega) (tL λt t1 t2=>?_)
 by_cases e:t<n
 ·rw[AI hz,AI hz,Vv (by omega),Vv (by omega)];exact hd _ _ (by omega) (by omega)
 ·exact a3 t (by omega) t2
theorem p7(hA:D3 O key N cmp s){p:Array Nat}{n nrem:Nat}(he:Ent N p)(hn:n+1<=nrem)(hr:nrem<=N)(hd:Down O key p (n+1))
  (h:∀m p',p'.Perm p->Ent N p'->1<=m->m<=nrem->Up O key p' m->Q (m,p') s):(kas_descPart n nrem p).kasWp cmp Q s:=by
 unfold kas_descPart;rw[Xd];have Mr:∀i,n+1-(0+1)<=i->i<n+1->K O key p i=K O key p (n+1-1):=λi h1 h2=>by
  have e:i=n:=by omega
  subst e;rfl
 refine xj hA (nrem-(n+1)) p (n+1) 0 he (by omega) (by omega) (by omega) hd Mr λp' n' q' g1 g2 g3 g4 g5 g6 g7 g8=>?_;show (if q'>0 then kas_tail3 n' nrem (kas_rev p' (n'-(q'+1)) n') else kas_tail3 n' nrem p').kasWp cmp Q s
 by_cases hq:q'>0
 ·rw[Vv hq];have ep:(kas_rev p' (n'-(q'+1)) n').Perm p':=mirror_perm _ _ _ _;have eK:∀k,K O key (kas_rev p' (n'-(q'+1)) n') k=K O key p' k:=λk=>nv (by rw[g2.1];omega) g8 k;exact AJ hA (g2.perm ep) g3 (by omega) hr (λi j hij hj=>by rw[eK,eK];exact g7 i j hij hj) λm p'' a1 a2 a3 a4 a5=>h m p'' ((a1.trans ep).trans g1) a2 a3 a4 a5
 ·rw[Vw hq];exact AJ hA g2 g3 (by omega) hr g7 λm p'' a1 a2 a3 a4 a5=>h m p'' (a1.trans g1) a2 a3 a4 a5
theorem Ig(hA:D3 O key N cmp s){p:Array Nat}{nrem:Nat}(he:Ent N p)(h1:1<=nrem)(hr:nrem<=N)
  (h:∀m p',p'.Perm p->Ent N p'->1<=m->m<=nrem->Up O key p' m->Q (m,p') s):(kas_count nrem p).kasWp cmp Q s:=by
 unfold kas_count;rw[Xd];refine Ie hA he _ _ (Vu _) λn a1 a2 a3 a4=>?_;have hup:Up O key p n:=tL λt t1 t2=>a3 t t1 t2
 by_cases e1:(n==nrem)=true
 ·rw[Vv e1];exact h n p (Xc _) he a1 (by omega) hup
 ·rw[Vw e1]
  have Va:n≠nrem:=λz=>e1 (by simp[z]);have hlt:O.klt (K O key p n) (K O key p (n-1)):=a4 (by omega)
  by_cases e2:n>1
  ·rw[Vv e2]
   show cmp _ _ _ s;refine hA _ _ _ (he.at _) (he.at _) ?_;cases hc:O.blt (key (p.getD 0 0)) (key (p.getD (n-1) 0)) with
   |true=>exact h n p (Xc _) he a1 (by omega) hup
   |false=>
    have hle:O.kle (K O key p (n-1)) (K O key p 0):=hc;have ep:(kas_rev p 0 n).Perm p:=mirror_perm _ _ _ _;have hall:∀k,0<=k->k<n->K O key p k=K O key p (n-1):=λk _ hk=>
     KeyOrd.kle_antisymm (hup k (n-1) (by omega) (by omega)) (Xs hle (hup 0 k (by omega) hk))
    have eK:∀k,K O key (kas_rev p 0 n) k=K O key p k:=λk=>nv (by rw[he.1];omega) hall k;show (kas_descPart n nrem (kas_rev p 0 n)).kasWp cmp Q s;refine p7 hA (he.perm ep) (by omega) hr (λi j hij hj=>?_) λm p' b1 b2 b3 b4 b5=>h m p' (b1.trans ep) b2 b3 b4 b5;rw[eK,eK]
    by_cases ej:j=n
    ·subst ej
     by_cases ei:i=j
     ·subst ei;exact WA _
     ·rw[hall i (by omega) (by omega)];exact Xk hlt
    ·rw[hall i (by omega) (by omega),hall j (by omega) (by omega)];exact WA _
  ·rw[Vw e2]
   have en:n=1:=by omega
   subst en;refine p7 hA he (by omega) hr (λi j hij hj=>?_) λm p' b1 b2 b3 b4 b5=>h m p' b1 b2 b3 b4 b5
   by_cases ei:i=j
   ·subst ei;exact WA _
   ·have:i=0/\j=1:=by omega
    obtain⟨rfl,rfl⟩:=this;exact Xk hlt
theorem vC(hA:D3 O key N cmp s){p:Array Nat}{k:Nat}(he:Ent N p)(hs:Up O key p k):∀(f l r:Nat) {Q:Nat->Shared->Prop},l<=r->r<=k->r-l<=f ->
  (∀i,i<l->O.kle (K O key p i) (K O key p k))->(∀i,r<=i->i<k->O.klt (K O key p k) (K O key p i)) ->
  (∀l',l'<=k->(∀i,i<l'->O.kle (K O key p i) (K O key p k))->(∀i,l'<=i->i<k->O.klt (K O key p k) (K O key p i))->Q l' s)->(kas_place p k f l r).kasWp cmp Q s
 | 0,l,r,Q,hlr,hrk,hf,hlo,hhi,h=>by
  have:l=r:=by omega
  subst this;exact h l hrk hlo hhi
 | f+1,l,r,Q,hlr,hrk,hf,hlo,hhi,h=>by
  show (if l≥r then KasT.ret l else _).kasWp cmp Q s
  by_cases hge:l≥r
  ·rw[Vv hge]
   have:l=r:=by omega
   subst this;exact h l hrk hlo hhi
  ·rw[Vw hge]
   show cmp _ _ _ s;refine hA _ _ _ (he.at _) (he.at _) ?_;cases hb:O.blt (key (p.getD k 0)) (key (p.getD ((l+r)/2) 0)) with
   |true=>show (kas_place p k f l ((l+r)/2)).kasWp cmp Q s;exact vC hA he hs f l ((l+r)/2) (by omega) (by omega) (by omega) hlo (λi h1 h2=>KeyOrd.klt_of_klt_of_kle hb (hs _ _ h1 h2)) h
   |false=>show (kas_place p k f ((l+r)/2+1) r).kasWp cmp Q s;exact vC hA he hs f ((l+r)/2+1) r (by omega) (by omega) (by omega) (λi h1=>Xs (hs i ((l+r)/2) (by omega) (by omega)) hb) hhi h
theorem Ms(hA:D3 O key N cmp s):∀(f:Nat) (p:Array Nat) (k:Nat) {Q:Array Nat->Shared->Prop},Ent N p->k+f<=N->Up O key p k->(∀p',p'.Perm p->Up O key p' (k+f)->Q p' s)->(kas_bin f p k).kasWp cmp Q s
 |0,p,k,Q,he,hk,hs,h=>h p (Xc _) hs
 | f+1,p,k,Q,he,hk,hs,h=>by
  show ((kas_place p k k 0 k).bind λl=>kas_bin f (bubble p k (k-l)) (k+1)).kasWp cmp Q s;rw[Xd];refine vC hA he hs k 0 k (by omega) (by omega) (by omega) (λi hi=>by omega) (λi h1 h2=>by omega) λl hl hlo hhi=>?_;have ep:(bubble p k (k-l)).Perm p:=bubble_perm _ _ _;have hks:k<p.size:=by rw[he.1];omega
  refine Ms hA f _ (k+1) (he.perm ep) (by omega) (λi j hij hj=>?_) λp' a1 a2=>h p' (a1.trans ep) (by rwa [show k+(f+1)=k+1+f by omega]);rw[K_bubble hks (by omega),K_bubble hks (by omega),show k-(k-l)=l by omega]
  repeat' split
  all_goals first
   |(exfalso;omega)
   |exact WA _
   |exact hlo _ (by omega)
   |exact Xk (hhi _ (by omega) (by omega))
   |exact hs _ _ (by omega) (by omega)
theorem Mt(hA:D3 O key N cmp s)(h1:1<=N)(h:∀p,p.Perm (toArray (List.range N))->Up O key p N->Q p s):(kas_sort N).kasWp cmp Q s:=by
 unfold kas_sort;rw[Xd];have he:Ent N (toArray (List.range N)):=⟨by simp,h1,λx hx=>by simpa using hx⟩;refine Ig hA he h1 (Vu _) λm p a1 a2 a3 a4 a5=>?_;show (if m<N then kas_bin (N-max m 1) p (max m 1) else KasT.ret p).kasWp cmp Q s;have em:max m 1=m:=by omega
 by_cases hlt:m<N
 ·rw[Vv hlt,em];exact Ms hA _ p m a2 (by omega) a5 λp' b1 b2=>h p' (b1.trans a1) (by rwa [show m+(N-m)=N by omega]at b2)
 ·rw[Vw hlt]
  have:m=N:=by omega
  subst this;exact h p a1 a5
end
end oX
namespace oX
theorem bY{α:Type}(l:List α)(d:α):(List.range l.length).map (λi=>l.getD i d)=l:=by
 refine Xu (by simp) λi h1 h2=>?_;simp[h2]
section
variable {prog:Program} {w:World} {A:Around} {E:Value->Shared->Prop} {s:Shared}
def p8(prog:Program)(w:World)(A:Around)(O:KeyOrd)(key:Nat->O.α)(vs:List Value)(s6:Shared):Prop :=
 wpAny (model prog w) A (keyKind' vs.toArray) (λκ s'=>s'=s6/\D3 O key vs.length (kas_ask prog w A κ vs) s6) (λ_ _=>False) s6
structure AK (O:KeyOrd) (key:Nat->O.α) (n:Nat) (p:List Nat):Prop where
 perm:p.Perm (List.range n)
 up:(p.map key).Pairwise O.kle
theorem D4{n:Nat}{p:Array Nat}(h1:p.Perm (toArray (List.range n)))(h2:Up O key p n):AK O key n p.toList:=by
 have hp:p.toList.Perm (List.range n):=by simpa using Array.perm_iff_toList_perm.mp h1
 refine⟨hp,WH.mpr λi j hi hj hij=>?_⟩;have hz:p.toList.length=n:=by rw[hp.length_eq,Xl]
 rw[Vp]at hi hj;have q:=h2 i j (WO hij) (by omega);have ei:p.getD i 0=p.toList[i]:=by simp at hi;simp[Array.getD,hi]
 have ej:p.getD j 0=p.toList[j]:=by simp at hj;simp[Array.getD,hj]
 unfold K at q;rw[ei,ej]at q;rw[W6,W6];exact q
theorem AL{n:Nat}(ho:s.heap.get? a=some (seqObj "list" vs.toArray n))(h64:vs.length<64)
  (hk:2<=vs.length->∀h6:Heap,(∀b o,b≠a->s.heap.get? b=some o->h6.get? b=some o)->p8 prog w A O key vs { s with heap:=h6 })
  (h:∀p,AK O key vs.length p->P (.done (.ret .none)) { s with heap:=sortedHeap s.heap a vs (p.map λi=>vs.getD i Value.none).toArray }) :
  wpAny (model prog w) A (Builtin.«list.sort» ⟨[.ref a],[]⟩) P E s:=by
 have alt:a<s.heap.objs.size:=Vy ho;have big:vs.length<=sizeLine:=by rw[Wj];omega
 rw[list_sort_plain];apply Vm;apply listItems_at ho rfl;apply Vm;refine listUpdate_at ho rfl ?_ (by rw[Vx];exact big) (Wx _);have q1:=get?_update_seq ho (λ_=>(#[]:Array Value));apply Vm;apply seqEpoch_at q1 rfl;apply Vm;refine wpAny_newTuple ?_ (by show vs.length<=sizeLine;exact big);apply Vm;refine wpAny_newList ?_ (Wx _);apply Wv;generalize hN:((s.heap.update a (Obj.mapSeq λ_=>(#[]:Array Value))).push (seqObj "tuple" vs.toArray 0)).push (seqObj "list" #[] 0)=h6;have Mv:∀b o,b≠a->s.heap.get? b=some o->h6.get? b=some o:=λb o hb e=>by
  rw[<-hN];refine Vo _ (Vo _ ?_);rw[Heap.get?_update_ne _ _ _ _ hb];exact e
 have q6:h6.get? a=some (seqObj "list" #[] (if (#[]:Array Value).size==vs.toArray.size then n else n+1)):=by rw[<-hN];exact Vo _ (Vo _ q1)
 have eS:∀out,h6.update a (Obj.mapSeq λ_=>out)=sortedHeap s.heap a vs out:=λout=>by rw[<-hN];rfl
 show wpAny (model prog w) A _ P E { s with heap:=h6 };dsimp only
 by_cases h2:vs.toArray.size<2
 ·rw[Vv h2,Vv h2]
  apply Vm;apply Vt;rw[StateT.run_pure];apply Vm;apply Vt;dsimp only;have eo:(arrOf (SortSt.mk' general' (vs.toArray.zip vs.toArray) #[] 7 none)).map (·.2)=vs.toArray:=by show (vs.toArray.zip vs.toArray).map (·.2)=vs.toArray;apply toList_inj.mp;simp[List.map_snd_zip]
  rw[eo];apply Vm;apply seqEpoch_at q6 rfl;apply Vm;refine listUpdate_at q6 rfl ?_ (Wx _) (by show vs.toArray.size<=_;rw[Vx];omega);have hb:((if (#[]:Array Value).size==vs.toArray.size then n else n+1) != (if (#[]:Array Value).size==vs.toArray.size then n else n+1))=false:=by simp
  rw[eS];simp only[hb,false_eq_true,if_false];apply Vt;have g:=h (List.range vs.length) ⟨Xm _,?_⟩
  ·rw[bY]at g;exact g
  ·rw[Vx]at h2;refine WH.mpr λi j hi hj hij=>?_;simp at hi hj;omega
 ·rw[Vw h2,Vw h2]
  rw[Vx]at h2;have ask:=hk (by omega) h6 Mv;apply Vm;refine Wt ask (λκ s0 hκ=>?_) λ_ _ x=>x.elim;obtain⟨rfl,Tg⟩:=hκ;apply Vm;refine Wt (kat_run (Q:=λst' s'=>s'={ s with heap:=h6 }/\∃p:Array Nat,AK O key vs.length p.toList/\p.size=vs.length/\(arrOf st').map (·.2)=(p.toList.map λi=>vs.getD i Value.none).toArray/\failedOf st'=none)
   (G:=λp s'=>s'={ s with heap:=h6 }/\AK O key vs.length p.toList) rfl (by omega) h64 (λp st' s' a1 a2 a3 a4=>⟨a4.1,p,a4.2,a1,kat_snds rfl a2,a3⟩)
   (Mt Tg (by omega) λp b1 b2=>⟨rfl,D4 b1 b2⟩)) ?_ λ_ _ x=>x
  rintro⟨⟨⟩,st'⟩ s' ⟨rfl,p,op,pz,er,ef⟩;dsimp only;rw[er];apply Vm;apply seqEpoch_at q6 rfl;apply Vm;refine listUpdate_at q6 rfl ?_ (Wx _) (by show (toArray _).size<=_;rw[Vx,Vp,VU,pz];omega);have hb:((if (#[]:Array Value).size==vs.toArray.size then n else n+1) != (if (#[]:Array Value).size==vs.toArray.size then n else n+1))=false:=by simp
  rw[eS,ef];simp only[hb,false_eq_true,if_false];exact Vt (h p.toList op)
theorem iY
  (h:wpAny (model prog w) A.in1 (collect x) (λvs s1=>vs.length<64/\∃key:Nat->O.α,(2<=vs.length->∀h6:Heap,(∀b o,s1.heap.get? b=some o->h6.get? b=some o)->p8 prog w A.in1.in1 O key vs { s1 with heap:=h6 }) /\
   ∀p h',AK O key vs.length p->(∀b o,s1.heap.get? b=some o->h'.get? b=some o)->(∃e,h'.get? s1.heap.objs.size=some (seqObj "list" (p.map λi=>vs.getD i Value.none).toArray e))->Q (.ref s1.heap.objs.size) { s1 with heap:=h' }) E s) :
  wpAny (model prog w) A (call (.builtin "sorted") [x]) Q E s:=by
 refine Calls.call_function_entry kind_sorted plain_sorted entry_sorted (args_sorted1 _) ?_;unfold Builtin.«sorted»;refine Vm (m:=checkCount "sorted" 1 1 _) (Vt ?_);apply Vm;refine Wt h (λvs s1 ⟨h64,key,hk,hq⟩=>?_) λ_ _ z=>z;have big:vs.length<=sizeLine:=by rw[Wj];omega
 apply Vm;refine wpAny_newList ?_ big;have q:(s1.heap.push (seqObj "list" vs.toArray 0)).get? s1.heap.objs.size=some (seqObj "list" vs.toArray 0):=VB _ rfl;apply Vm;apply Wv;refine WM (s:={ s1 with heap:=s1.heap.push (seqObj "list" vs.toArray 0) }) slot_list_sort ⟨_,q,rfl⟩ entry_list_sort ?_ (args_list_sort _);refine AL (key:=key) (s:={ s1 with heap:=s1.heap.push (seqObj "list" vs.toArray 0) }) q h64 (λh2 h6 k6=>?_) λp op=>⟨_,rfl,Vt ⟨_,rfl,?_⟩⟩
 ·exact hk h2 h6 λb o e=>k6 b o (VE (Vy e)) (Vo _ e)
 ·refine hq p _ op (λb o e=>?_) (sortedHeap_at q);rw[sortedHeap_old (VE (Vy e)) (by rw[size_push'];exact Wy (Vy e))];exact Vo _ e
end
def vD:KeyOrd where
 α:=Int
 blt:=λa b=>decide (a<b)
 irrefl:=λa=>by simp
 trans:=λa b c h1 h2=>by simp at *;omega
 negTrans:=λa b c h=>by simp at *;omega
 total:=λa b h1 h2=>by simp at *;omega
theorem vE{s6:Shared}{ns:List Int}(hI:IntsAre vs ns)(h2:2<=vs.length):p8 prog w A vD (λi=>ns.getD i 0) vs s6:=by
 have at_:∀i,i<vs.length->∃t,vs.getD i Value.none=.int (ns.getD i 0) t:=by
  intro i hi
  induction hI generalizing i with
  |nil=>simp at hi
  |cons z t r ih=>
   cases i with
   |zero=>exact⟨t,by simp⟩
   |succ i=>
    by_cases hr:2<=1
    ·omega
    ·simp only[length_cons]at hi
     have aux:∀{vs:List Value} {ns:List Int},IntsAre vs ns->∀i,i<vs.length->∃t,vs.getD i Value.none=.int (ns.getD i 0) t:=by
      intro vs ns q
      induction q with
      |nil=>intro i hi;simp at hi
      |cons z t r ih=>
       intro i hi;cases i with
       |zero=>exact⟨t,by simp⟩
       |succ i=>simp only[length_cons]at hi;obtain⟨u,e⟩:=ih i (by omega);exact⟨u,by simpa using e⟩
     obtain⟨u,e⟩:=aux r i (by omega);exact⟨u,by simpa using e⟩
 obtain⟨v₁,v₂,rest,rfl⟩:∃v₁ v₂ rest,vs=v₁::v₂::rest:=by
  match vs,h2 with
  |v₁::v₂::rest,_=>exact⟨v₁,v₂,rest,rfl⟩
 unfold p8;rw[keyKind_ints hI];refine Vt ⟨rfl,λi j C hi hj hc=>?_⟩;obtain⟨t,e1⟩:=at_ i hi;obtain⟨u,e2⟩:=at_ j hj;unfold kas_ask;rw[e1,e2,keyLt'_oneType];exact oneLt_int hc
theorem iD:∀a,HT.lexLt a a=false
 |[]=>rfl
 |x::xs=>by rw[HT.fP,Vv rfl];exact iD xs
theorem gf:∀a b,HT.lexLt a b=false->HT.lexLt b a=false->a=b
 |[],[],_,_=>rfl
 |[],_::_,h,_=>by rw[HT.fQ]at h;cases h
 |_::_,[],_,h=>by rw[HT.fQ]at h;cases h
 | x::xs,y::ys,h1,h2=>by
  rw[HT.fP]at h1 h2
  by_cases e:x=y
  ·subst e;rw[Vv rfl]at h1 h2;rw[gf xs ys h1 h2]
  ·rw[Vw e]at h1;rw[Vw (λz=>e z.symm)]at h2;simp at h1 h2;omega
theorem gg:∀a b c,HT.lexLt a b=true->HT.lexLt b c=true->HT.lexLt a c=true
 |[],[],c,h,_=>by rw[HT.o8]at h;cases h
 |[],_::_,[],_,h=>by rw[HT.dD]at h;cases h
 |[],_::_,_::_,_,_=>rfl
 |_::_,[],_,h,_=>by rw[HT.dD]at h;cases h
 |_::_,_::_,[],_,h=>by rw[HT.dD]at h;cases h
 | x::xs,y::ys,z::zs,h1,h2=>by
  rw[HT.fP]at h1 h2 |-
  by_cases e1:x=y
  ·subst e1
   rw[Vv rfl]at h1
   by_cases e2:x=z
   ·subst e2;rw[Vv rfl]at h2 |-;exact gg xs ys zs h1 h2
   ·rw[Vw e2]at h2 |-;exact h2
  ·rw[Vw e1]at h1
   by_cases e2:y=z
   ·subst e2;rw[Vw e1];exact h1
   ·rw[Vw e2]at h2;simp at h1 h2;rw[Vw (by omega)];simp;omega
theorem p9(a b c:List Int)(h:HT.lexLt a c=true):HT.lexLt a b=true\/HT.lexLt b c=true:=by
 cases h1:HT.lexLt a b with
 |true=>exact .inl rfl
 |false=>
  cases h2:HT.lexLt b c with
  |true=>exact .inr rfl
  |false=>
   cases h3:HT.lexLt b a with
   |true=>have:=gg _ _ _ h3 h;rw[h2]at this;cases this
   |false=>rw[gf _ _ h1 h3]at h;rw[h2]at h;cases h
def lexOrd:KeyOrd where
 α:=List Int
 blt:=HT.lexLt
 irrefl:=iD
 trans:=gg
 negTrans:=p9
 total:=gf
section
variable {prog:Program} {w:World} {A:Around} {s:Shared}
theorem mq{b fin:Bool}:∀{us vs:List Value} {ns ms:List Int} (i:Nat),IntsAre us ns->IntsAre vs ms->(ns.length<ms.length↔fin=true)->us.length=ns.length ->
  Q (HT.lexLt ns ms) s->(ns.length=ms.length\/i=i)->(∀k,k<ns.length->k<ms.length->True)->(ns.length≠ms.length->True)->(fin=decide (ns.length<ms.length))->KatLex prog w A b fin Q (us.zip vs) i s
 | _,_,_,_,i,.nil,.nil,_,_,hq,_,_,_,hf=>by
  refine kat_nil ?_;rw[hf];exact hq
 | _,_,_,_,i,.nil,.cons _ _ _,_,_,hq,_,_,_,hf=>by
  refine kat_nil ?_;rw[hf];simpa [HT.fQ] using hq
 | _,_,_,_,i,.cons _ _ _,.nil,_,_,hq,_,_,_,hf=>by
  refine kat_nil ?_;rw[hf];simpa [HT.dD] using hq
 | _,_,_,_,i,.cons x t r,.cons y u r',h1,h2,hq,_,_,_,hf=>by
  refine kat_cons (wpAny_eqBool_int ?_);rw[HT.fP]at hq
  by_cases e:x=y
  ·subst e
   rw[Vv rfl]at hq;rw[beq_self_eq_true];refine kat_yes (mq (i+1) r r' ?_ ?_ hq (.inr rfl) (λ_ _ _=>trivial) (λ_=>trivial) ?_)
   ·simpa using h1
   ·simpa using h2
   ·rw[hf];simp
  ·rw[Vw e]at hq
   rw[show (x==y)=false from Wd.mpr e];refine kat_no ?_;cases hb:(b&&i==0) with
   |true=>exact oneLt_int hq
   |false=>exact kat_one _ _ (PyProof.Rows.lt_int hq)
end
end oX
end L2
end
section
namespace L2
open PySem PySem.Spec PyProof.Rows
def Qj:Key->PyData
 |.inl i=>.int i
 |.inr x=>.str x
mutual
noncomputable def Den(K:Frag)(H:Hp):PyData->V->Prop
 |.none,v=>v=.non
 |.bool b,v=>v=.bl b
 |.int i,v=>v=.int i
 |.str x,v=>v=.str x
 |.list ds,v=>∃a xs,v=.ref a/\fN K H a xs/\dz K H ds xs
 |.tuple ds,v=>∃a xs,v=.ref a/\iA K H a xs/\dz K H ds xs
 |.dict kvs,v=>∃a ks,v=.ref a/\H a=some (.dK ks)/\kF K H kvs ks
noncomputable def dz(K:Frag)(H:Hp):List PyData->List V->Prop
 |[],xs=>xs=[]
 |d::ds,xs=>∃x r,xs=x::r/\Den K H d x/\dz K H ds r
noncomputable def kF(K:Frag)(H:Hp):List (PyData×PyData)->List (Key×V)->Prop
 |[],ks=>ks=[]
 |(k,d)::r,ks=>∃key x rest,ks=(key,x)::rest/\k=Qj key/\Den K H d x/\kF K H r rest
end
theorem vA.tup{K:Frag}{H H':Hp}{a:Addr}{xs:List V}(e:vA H H')(h:iA K H a xs):iA K H' a xs:=by
 rcases h with (h|⟨o,h⟩)|h
 ·exact .inl (.inl (e _ _ h))
 ·exact .inl (.inr ⟨o,e _ _ h⟩)
 ·exact .inr h
section
variable {K:Frag} {H H':Hp}
mutual
theorem Den.same(e:vA H H'):∀(d:PyData) (v:V),Den K H d v->Den K H' d v
 |.none,_,h=>by rw[Den]at h |-;exact h
 |.bool _,_,h=>by rw[Den]at h |-;exact h
 |.int _,_,h=>by rw[Den]at h |-;exact h
 |.str _,_,h=>by rw[Den]at h |-;exact h
 | .list ds,v,h=>by
  rw[Den]at h |-;obtain⟨a,xs,q1,q2,q3⟩:=h;exact⟨a,xs,q1,e.seq q2,dz.same e ds xs q3⟩
 | .tuple ds,v,h=>by
  rw[Den]at h |-;obtain⟨a,xs,q1,q2,q3⟩:=h;exact⟨a,xs,q1,e.tup q2,dz.same e ds xs q3⟩
 | .dict kvs,v,h=>by
  rw[Den]at h |-;obtain⟨a,ks,q1,q2,q3⟩:=h;exact⟨a,ks,q1,e _ _ q2,kF.same e kvs ks q3⟩
theorem dz.same(e:vA H H'):∀(ds:List PyData) (xs:List V),dz K H ds xs->dz K H' ds xs
 |[],_,h=>by rw[dz]at h |-;exact h
 | d::ds,xs,h=>by
  rw[dz]at h |-;obtain⟨x,r,q1,q2,q3⟩:=h;exact⟨x,r,q1,Den.same e d x q2,dz.same e ds r q3⟩
theorem kF.same(e:vA H H'):∀(kvs:List (PyData×PyData)) (ks:List (Key×V)),kF K H kvs ks->kF K H' kvs ks
 |[],_,h=>by rw[kF]at h |-;exact h
 | (k,d)::r,ks,h=>by
  rw[kF]at h |-;obtain⟨key,x,rest,q1,q2,q3,q4⟩:=h;exact⟨key,x,rest,q1,q2,Den.same e d x q3,kF.same e r rest q4⟩
end
theorem dz.nil:dz K H [] []:=by rw[dz]
theorem dz.cons{d:PyData}{ds:List PyData}{x:V}{r:List V}(h1:Den K H d x)(h2:dz K H ds r):dz K H (d::ds) (x::r):=by rw[dz];exact⟨x,r,rfl,h1,h2⟩
theorem Den.int{i:Int}:Den K H (.int i) (.int i):=by rw[Den]
theorem Den.str:Den K H (.str x) (.str x):=by rw[Den]
theorem Den.bool{b:Bool}:Den K H (.bool b) (.bl b):=by rw[Den]
theorem Den.none:Den K H .none .non:=by rw[Den]
theorem Den.list(h:fN K H a xs)(q:dz K H ds xs):Den K H (.list ds) (.ref a):=by rw[Den];exact⟨a,xs,rfl,h,q⟩
theorem Den.tuple(h:iA K H a xs)(q:dz K H ds xs):Den K H (.tuple ds) (.ref a):=by rw[Den];exact⟨a,xs,rfl,h,q⟩
end
section
variable {X:Cx} {pins:List (Addr×Obj)} {σ:St} {H:Hp} {s:Shared}
mutual
theorem Den.reads(I:Inv X pins σ H s):∀(d:PyData) (v:V) (u:Value),d.canLay0=true->Den X.K H d v->RelV v u->∃as,Reads s.heap u d as
 |.none,v,u,_,h,r=>by rw[Den]at h;subst h;cases r;exact⟨_,.none⟩
 |.bool b,v,u,_,h,r=>by rw[Den]at h;subst h;cases r;exact⟨_,.bool b⟩
 |.int i,v,u,_,h,r=>by rw[Den]at h;subst h;obtain⟨t,rfl⟩:=r;exact⟨_,.int i t⟩
 |.str x,v,u,_,h,r=>by rw[Den]at h;subst h;obtain⟨t,rfl⟩:=r;exact⟨_,.str x t⟩
 | .list ds,v,u,c,h,r=>by
  rw[Den]at h;obtain⟨a,xs,rfl,q1,q2⟩:=h;cases r;obtain⟨its,rv,⟨o,n,e1,e2,_,e3⟩,_⟩:=I.list q1;obtain⟨as,ra⟩:=dz.reads I ds xs its (by simpa [PyData.canLay0] using c) q2 rv;exact⟨_,.list e1 e2 e3 (by simpa using ra)⟩
 | .tuple ds,v,u,c,h,r=>by
  rw[Den]at h;obtain⟨a,xs,rfl,q1,q2⟩:=h;cases r;obtain⟨its,rv,⟨o,e1,e2,n,e3⟩,_⟩:=I.tuple q1;obtain⟨as,ra⟩:=dz.reads I ds xs its (by simpa [PyData.canLay0] using c) q2 rv;exact⟨_,.tuple e1 e2 e3 (by simpa using ra)⟩
 |.dict _,_,_,c,_,_=>by simp[PyData.canLay0]at c
theorem dz.reads(I:Inv X pins σ H s):∀(ds:List PyData) (xs:List V) (us:List Value),PyData.canLayAll0 ds=true->dz X.K H ds xs->Vals xs us->∃as,ReadsAll s.heap us ds as
 |[],xs,us,_,h,r=>by rw[dz]at h;subst h;cases r;exact⟨_,.nil⟩
 | d::ds,xs,us,c,h,r=>by
  have c':d.canLay0=true/\PyData.canLayAll0 ds=true:=by simpa [PyData.canLayAll0] using c
  rw[dz]at h;obtain⟨x,rest,rfl,q1,q2⟩:=h;cases r with
  |cons r1 r2=>obtain⟨as,ra⟩:=Den.reads I d x _ c'.1 q1 r1;obtain⟨bs,rb⟩:=dz.reads I ds rest _ c'.2 q2 r2;exact⟨_,.cons ra rb⟩
end
end
section
variable {X:Cx}
def Qk(K:Frag):R2:=λx y H Q=>∃d e,Den K H d x/\Den K H e y/\d.canLay0=true/\e.canLay0=true/\d.depth<=60/\Q (.bl (PyData.eqv d e)) H
def Ql(K:Frag):R2:=λx y H Q=>∃d e,Den K H d x/\Den K H e y/\d.canLay0=true/\e.canLay0=true/\d.depth<=60/\Q (.bl (!PyData.eqv d e)) H
theorem Ih(hu:X.A.units+64<cLine):jC X (compareOp .Eq) (Qk X.K):=by
 intro pins s σ H x y v u Q I rx ry h;obtain⟨d,e,hd,he,c1,c2,hz,q⟩:=h;obtain⟨as,ra⟩:=Den.reads I d x v c1 hd rx;obtain⟨bs,rb⟩:=Den.reads I e y u c2 he ry;exact SeqAt.compareEq_reads ra rb c1 c2 (by have:=Nat.min_le_left d.depth e.depth;omega) ⟨.bl _,H,I,rfl,q⟩
theorem Ii(hu:X.A.units+64<cLine):jC X (compareOp .NotEq) (Ql X.K):=by
 intro pins s σ H x y v u Q I rx ry h;obtain⟨d,e,hd,he,c1,c2,hz,q⟩:=h;obtain⟨as,ra⟩:=Den.reads I d x v c1 hd rx;obtain⟨bs,rb⟩:=Den.reads I e y u c2 he ry;exact SeqAt.compareNe_reads ra rb c1 c2 (by have:=Nat.min_le_left d.depth e.depth;omega) ⟨.bl _,H,I,rfl,q⟩
theorem nC{ns:List Int}(I:Inv X pins σ H s)(hq:fN X.K H p (ns.map V.int))(h64:ns.length<64)
  (q:∀l,H l=none->Q (.ref l) (upd H l (.lst ((sortI ns).map V.int)))):wpAny (model X.prog X.w) X.A (call (.builtin "sorted") [.ref p]) (EP X pins σ Q) X.xe s:=by
 obtain⟨its,rv,pl,hz⟩:=I.list hq;have hi:=intsAre_of rv;have hl:=hi.length;refine sorted_ints pl.isList hi (by omega) λout ns' a1 a2 a3=>?_;obtain⟨e,he⟩:=sortedAll_at s.heap its out;have es:ns'=sortI ns:=eq_sortI a2 a3;subst es;have hn:H (s.heap.objs.size+1)=none:=I.hok.fresh (Wr _);refine⟨.ref (s.heap.objs.size+1),_,I.laid (t':=s.toks) (λb o z=>sortedAll_old z) (Wr _) (show cg X.prog X.w _ _ _ (.lst ((sortI ns).map V.int)) from⟨?_,out.toList,e,jE a1,by simpa using he⟩),rfl,q _ hn⟩;rw[Vp,(Xf ns).length_eq,Wj];omega
theorem lJ:bU X (.builtin "sorted") (λxs H Q=>∃p ns,xs=[.ref p]/\fN X.K H p (ns.map V.int)/\ns.length<64/\∀l,H l=none->Q (.ref l) (upd H l (.lst ((sortI ns).map V.int)))):=by
 intro pins s σ H xs us Q I r h;obtain⟨p,ns,rfl,hq,h64,q⟩:=h;obtain⟨u,rfl,ru⟩:=vals1 r;cases ru;exact nC I hq h64 q
def Mw(K:Frag)(H:Hp)(r:Addr×List Int):Prop:=iA K H r.1 (r.2.map V.int)/\r.2≠[]
theorem vF{pins:List (Addr×Obj)}{σ:St}{H:Hp}{s:Shared}{A:Around}{rs:List (Addr×List Int)}{h6:Heap}{s6:Shared}(I:Inv X pins σ H s)(ht:∀r∈rs,Mw X.K H r)(h2:2<=rs.length)(k:∀b o,s.heap.get? b=some o->s6.heap.get? b=some o) :
  oX.p8 X.prog X.w A oX.lexOrd (λi=>(rs.getD i (0,[])).2) (rs.map λr=>Value.ref r.1) s6:=by
 have tup:∀r∈rs,∃its o n,s6.heap.get? r.1=some o/\o.cls=.type "tuple" /\ o.data=.seq (toArray its) n/\IntsAre its r.2:=λr hr=>by
  obtain⟨its,rv,⟨o,e1,e2,n,e3⟩,_⟩:=I.tuple (ht r hr).1;exact⟨its,o,n,k _ _ e1,e2,e3,intsAre_of rv⟩
 have kt:∀rs:List (Addr×List Int),(∀r∈rs,∃its o n,s6.heap.get? r.1=some o/\o.cls=.type "tuple" /\ o.data=.seq (toArray its) n/\IntsAre its r.2)->(∀r∈rs,r.2≠[]) ->
   ∃fs,PySem.W.KatTups s6.heap (rs.map λr=>Value.ref r.1) fs/\fs.length=rs.length/\∀v∈fs,∃i t,v=Value.int i t:=by
  intro rs
  induction rs with
  |nil=>intro _ _;exact⟨[],PySem.W.KatTups.nil,rfl,λv hv=>nomatch hv⟩
  |cons r rs ih=>
   intro g1 g2;obtain⟨fs,q1,q2,q3⟩:=ih (λr' hr'=>g1 r' (Vq _ hr')) λr' hr'=>g2 r' (Vq _ hr');obtain⟨its,o,n,e1,e2,e3,hi⟩:=g1 r Vs;have hne:=g2 r Vs;cases hr:r.2 with
   |nil=>exact absurd hr hne
   |cons i is=>
    rw[hr]at hi;cases hi with
    |cons _ t hi'=>
     refine⟨.int i t::fs,PySem.W.KatTups.cons e1 e2 e3 (by simp) q1,by simp[q2],λv hv=>?_⟩
     rcases VF.mp hv with z|z
     ·exact⟨i,t,z⟩
     ·exact q3 v z
 obtain⟨fs,q1,q2,q3⟩:=kt rs tup λr hr=>(ht r hr).2;unfold oX.p8;refine PySem.W.kat_kind q1 (by omega) (T:=Value.type "int") (λv hv=>?_) rfl ⟨rfl,λi j C hi hj hc=>?_⟩
 ·obtain⟨i,t,rfl⟩:=q3 v hv;exact PySem.W.Looks.of_pure rfl
 ·rw[Vp]at hi hj
  unfold PySem.W.kas_ask;have e1:(rs.map λr=>Value.ref r.1).getD i Value.none=Value.ref rs[i].1:=by simp[hi]
  have e2:(rs.map λr=>Value.ref r.1).getD j Value.none=Value.ref rs[j].1:=by simp[hj]
  have e3:rs.getD i (0,[])=rs[i]:=by simp[hi]
  have e4:rs.getD j (0,[])=rs[j]:=by simp[hj]
  rw[e1,e2];simp only[e3,e4]at hc;obtain⟨its,o,n,a1,a2,a3,a4⟩:=tup rs[i] (WE hi);obtain⟨its',o',n',b1,b2,b3,b4⟩:=tup rs[j] (WE hj);have l1:=a4.length;have l2:=b4.length;refine kat_lt a1 a3 b1 b3 (oX.mq 0 a4 b4 ?_ l1 hc (.inr rfl) (λ_ _ _=>trivial) (λ_=>trivial) ?_)
  ·rw[Vx,Vx,l1,l2];simp
  ·rw[Vx,Vx,l1,l2]
theorem yU{rs:List (Addr×List Int)}:∀{us:List Value},Vals (rs.map λr=>V.ref r.1) us->us=rs.map λr=>Value.ref r.1:=by
 induction rs with
 |nil=>intro us r;cases r;rfl
 |cons a rs ih=>
  intro us r;cases r with
  |cons r1 r2=>cases r1;rw[ih r2];rfl
theorem lK:bU X (.builtin "sorted") (λxs H Q=>∃(p:Addr) (rs:List (Addr×List Int)),xs=[.ref p]/\fN X.K H p (rs.map λr=>V.ref r.1)/\rs.length<64/\(∀r∈rs,Mw X.K H r) /\
  ∀(l:Addr) (qs:List (Addr×List Int)),H l=none->qs.Perm rs->qs.Pairwise (λa b=>HT.lexLt b.2 a.2=false)->Q (.ref l) (upd H l (.lst (qs.map λr=>V.ref r.1)))):=by
 intro pins s σ H xs us Q I r h;obtain⟨p,rs,rfl,hq,h64,ht,q⟩:=h;obtain⟨u,rfl,ru⟩:=vals1 r;cases ru;obtain⟨its,rv,pl,hz⟩:=I.list hq;have ev:=yU rv;subst ev;refine oX.iY (O:=oX.lexOrd) (collect_list pl.isList ?_ (by rw[Vp,Wj];omega));have k1:∀b o,s.heap.get? b=some o->((s.heap.push (seqObj "list" #[] 0)).update s.heap.objs.size (Obj.mapSeq (· ++ (rs.map λr=>Value.ref r.1).toArray))).get? b=some o:=λb o e=>by
  rw[Heap.get?_update_ne _ _ _ _ (VE (Vy e))];exact Vo _ e
 have Th:((s.heap.push (seqObj "list" #[] 0)).update s.heap.objs.size (Obj.mapSeq (· ++ (rs.map λr=>Value.ref r.1).toArray))).objs.size=s.heap.objs.size+1:=by rw[Heap.size_update,size_push']
 refine⟨by rw[Vp];exact h64,λi=>(rs.getD i (0,[])).2,λh2 h6 k6=>?_,λpp h' op k' he=>?_⟩
 ·rw[Vp]at h2;exact vF (h6:=h6) I ht h2 λb o e=>k6 b o (k1 b o e)
 ·rw[Vp]at op
  dsimp only at k' he |-;rw[Th]at he |-;obtain⟨e,he⟩:=he;have hn:H (s.heap.objs.size+1)=none:=I.hok.fresh (Wr _);have lp:pp.length=rs.length:=by rw[op.perm.length_eq,Xl]
  have mem:∀i∈pp,i<rs.length:=λi hi=>by simpa using op.perm.mem_iff.mp hi
  have Qm:(pp.map λi=>(rs.map λr=>Value.ref r.1).getD i Value.none)=(pp.map λi=>rs.getD i (0,[])).map λr=>Value.ref r.1:=by rw[Wf];refine WL λi hi=>?_;simp[mem i hi]
  have qp:(pp.map λi=>rs.getD i (0,[])).Perm rs:=by have:=op.perm.map λi=>rs.getD i (0,[]);rwa [oX.bY]at this
  have qs:(pp.map λi=>rs.getD i (0,[])).Pairwise (λa b=>HT.lexLt b.2 a.2=false):=by have up1:=WZ.mp op.up;exact WZ.mpr up1
  refine⟨.ref (s.heap.objs.size+1),_,I.laid (t':=s.toks) (λb o z=>k' b o (k1 b o z)) (Wr _) (show cg X.prog X.w _ _ _ (.lst ((pp.map λi=>rs.getD i (0,[])).map λr=>V.ref r.1)) from⟨?_,_,e,?_,he⟩),rfl,q _ _ hn qp qs⟩
  ·rw[Vp,Vp,lp,Wj];omega
  ·rw[Qm]
   generalize (pp.map λi=>rs.getD i (0,[]))=zs
   induction zs with
   |nil=>exact .nil
   |cons z zs ih=>exact .cons rfl ih
theorem xm{ns:List Int}(h:IntsAre us ns):∀(i:Nat) (v:Value),us[i]?=some v->∃t,v=.int (ns.getD i 0) t:=by
 induction h with
 |nil=>intro i v e;simp at e
 |cons z t r ih=>
  intro i v e;cases i with
  |zero=>simp at e;exact⟨t,by simp[<-e]⟩
  |succ i=>obtain⟨u,q⟩:=ih i v (by simpa using e);exact⟨u,by simpa using q⟩
theorem qa{pins:List (Addr×Obj)}{σ:St}{H:Hp}{s:Shared}{p:Addr}{ns:List Int}(I:Inv X pins σ H s)(hc:X.calm=true)(hq:fN X.K H p (ns.map V.int)\/iA X.K H p (ns.map V.int))(hne:0<ns.length){Q:Value->Shared->Prop}{f:String}{bt:Int->Int->Bool}{op:CmpOp}
  (hf:∀{Q:Value->Shared->Prop},wpAny (model X.prog X.w) X.A.in1 (pyIter (.ref p)) (λit s₂=>∃I fp wr n P St bt,it=.ref I/\Walks X.prog X.w X.A.in1 I fp wr n P St/\St 0 s₂.heap/\(∀b∈fp,b<s₂.heap.objs.size)/\0<n/\CmpOf X.prog X.w X.A.in1 op P bt /\
   ∀v h' tk,P (argBest bt (n-1)) v->(∀b o,b∉wr->s₂.heap.get? b=some o->h'.get? b=some o)->Q v { s₂ with heap:=h',toks:=tk }) X.xe s->wpAny (model X.prog X.w) X.A (call (.builtin f) [.ref p]) Q X.xe s)
  (hcmp:∀(P:Nat->Value->Prop),(∀i v,P i v->∃t,v=.int (ns.getD i 0) t)->CmpOf X.prog X.w X.A.in1 op P λi j=>bt (ns.getD i 0) (ns.getD j 0))
  (h:∀t h' tk,(∀b o,s.heap.get? b=some o->h'.get? b=some o)->argBest (λi j=>bt (ns.getD i 0) (ns.getD j 0)) (ns.length-1)<ns.length->Q (.int (ns.getD (argBest (λi j=>bt (ns.getD i 0) (ns.getD j 0)) (ns.length-1)) 0) t) { s with heap:=h',toks:=tk }) :
  wpAny (model X.prog X.w) X.A (call (.builtin f) [.ref p]) Q X.xe s:=by
 have hh:X.A.in1.handled=none:=I.ok.hd hc;have up:∀{us:List Value} (P:Nat->Value->Prop) (hi:IntsAre us ns),(∀i v,P i v->us.toArray[i]?=some v)->∀i v,P i v->∃t,v=.int (ns.getD i 0) t:=λP hi hP i v q=>xm hi i v (by simpa using hP i v q);have best:∀{us:List Value} (hi:IntsAre us ns) (v:Value) (h':Heap) (tk:Nat),us.toArray[argBest (λi j=>bt (ns.getD i 0) (ns.getD j 0)) (us.toArray.size-1)]?=some v->(∀b o,s.heap.get? b=some o->h'.get? b=some o)->Q v { s with heap:=h',toks:=tk }:=λ{us} hi v h' tk e k=>by
  have hl:=hi.length;rw[Vx,hl]at e;have e':us[argBest (λi j=>bt (ns.getD i 0) (ns.getD j 0)) (ns.length-1)]?=some v:=by simpa using e
  obtain⟨t,rfl⟩:=xm hi _ v e';exact h t h' tk k (by have:=(Vn.mp e').1;omega)
 rcases hq with hq|hq
 ·obtain⟨its,rv,pl,hz⟩:=I.list hq
  have hi:=intsAre_of rv;have hl:=hi.length;have hpl:=pl.isList;have hlt:p<s.heap.objs.size:=by obtain⟨_,e,_⟩:=hpl;exact Vy e
  refine hf (WY hpl ⟨s.heap.objs.size,[s.heap.objs.size,p],[s.heap.objs.size],its.toArray.size,_,_,λi j=>bt (ns.getD i 0) (ns.getD j 0),rfl,Walks.list hh _ p (VE hlt) its.toArray,⟨⟨_,VB _ rfl,rfl,rfl⟩,hpl.push _⟩,λb hb=>?_,by rw[Vx];omega,
   hcmp _ (up _ hi λi v q=>q),λv h' tk e k=>?_⟩)
  ·simp only[size_push']
   rcases VF.mp hb with z|z
   ·rw[z];exact V6 _
   ·rw[VM.mp z];exact Wy hlt
  ·exact best hi v h' tk e λb o z=>k b o (by simp;exact VE (Vy z)) (Vo _ z)
 ·obtain⟨its,rv,pl,hz⟩:=I.tuple hq
  have hi:=intsAre_of rv;have hl:=hi.length;have hpl:s.heap.IsTuple p its.toArray:=pl;have hlt:p<s.heap.objs.size:=by obtain⟨_,e,_⟩:=hpl;exact Vy e
  refine hf (wpAny_pyIter_tuple hpl ⟨s.heap.objs.size,[s.heap.objs.size,p],[s.heap.objs.size],its.toArray.size,_,_,λi j=>bt (ns.getD i 0) (ns.getD j 0),rfl,Walks.tuple hh _ p (VE hlt) its.toArray,⟨⟨_,VB _ rfl,rfl,rfl⟩,?_⟩,λb hb=>?_,by rw[Vx];omega,
   hcmp _ (up _ hi λi v q=>q),λv h' tk e k=>?_⟩)
  ·obtain⟨o,e,c⟩:=hpl;exact⟨o,Vo _ e,c⟩
  ·simp only[size_push']
   rcases VF.mp hb with z|z
   ·rw[z];exact V6 _
   ·rw[VM.mp z];exact Wy hlt
  ·exact best hi v h' tk e λb o z=>k b o (by simp;exact VE (Vy z)) (Vo _ z)
theorem rF(hc:X.calm=true):bU X (.builtin "min") (λxs H Q=>∃(p:Addr) (ns:List Int),xs=[.ref p]/\(fN X.K H p (ns.map V.int)\/iA X.K H p (ns.map V.int))/\0<ns.length/\∀m,m∈ns->(∀a∈ns,m<=a)->Q (.int m) H):=by
 intro pins s σ H xs us Q I r h;obtain⟨p,ns,rfl,hq,hne,q⟩:=h;obtain⟨u,rfl,ru⟩:=vals1 r;cases ru;refine qa (bt:=λa b=>decide (a<b)) (op:=.Lt) I hc hq hne (λ{Q} h=>call_min_walk h) (λP hP=>?_) λt h' tk k hb=>⟨.int _,H,I.kept k,⟨t,rfl⟩,q _ ?_ λa ha=>?_⟩
 ·intro i j x y s' Q' E' hx hy hQ;obtain⟨t,rfl⟩:=hP i x hx;obtain⟨t',rfl⟩:=hP j y hy;exact lt_int (by simpa using hQ)
 ·exact getD_mem hb
 ·obtain⟨j,hj,rfl⟩:=mem_getD ha;exact(argBest_lt (λi=>ns.getD i 0) (ns.length-1)).2 j (by omega)
theorem rG(hc:X.calm=true):bU X (.builtin "max") (λxs H Q=>∃(p:Addr) (ns:List Int),xs=[.ref p]/\(fN X.K H p (ns.map V.int)\/iA X.K H p (ns.map V.int))/\0<ns.length/\∀m,m∈ns->(∀a∈ns,a<=m)->Q (.int m) H):=by
 intro pins s σ H xs us Q I r h;obtain⟨p,ns,rfl,hq,hne,q⟩:=h;obtain⟨u,rfl,ru⟩:=vals1 r;cases ru;refine qa (bt:=λa b=>decide (a>b)) (op:=.Gt) I hc hq hne (λ{Q} h=>call_max_walk h) (λP hP=>?_) λt h' tk k hb=>⟨.int _,H,I.kept k,⟨t,rfl⟩,q _ ?_ λa ha=>?_⟩
 ·intro i j x y s' Q' E' hx hy hQ;obtain⟨t,rfl⟩:=hP i x hx;obtain⟨t',rfl⟩:=hP j y hy;exact gt_int (by simpa using hQ)
 ·exact getD_mem hb
 ·obtain⟨j,hj,rfl⟩:=mem_getD ha;exact(argBest_gt (λi=>ns.getD i 0) (ns.length-1)).2 j (by omega)
end
section
variable {X:Cx}
theorem nD{bs:List Bool}:∀{us:List Value},Vals (bs.map V.bl) us->us=bs.map Value.bool:=by
 induction bs with
 |nil=>intro us r;cases r;rfl
 |cons a bs ih=>
  intro us r;cases r with
  |cons r1 r2=>cases r1;rw[ih r2];rfl
theorem nE(bs:List Bool):((List.range bs.length).all λi=>bs.getD i true)=bs.all id:=by
 conv=>rhs;rw[<-oX.bY bs true]
 rw[List.all_map];rfl
theorem nF(bs:List Bool):((List.range bs.length).any λi=>bs.getD i false)=bs.any id:=by
 conv=>rhs;rw[<-oX.bY bs false]
 rw[any_map];rfl
theorem pq(hc:X.calm=true):bU X (.builtin "all") (λxs H Q=>∃(p:Addr) (bs:List Bool),xs=[.ref p]/\fN X.K H p (bs.map V.bl)/\Q (.bl (bs.all id)) H):=by
 intro pins s σ H xs us Q I r h;obtain⟨p,bs,rfl,hq,q⟩:=h;obtain⟨u,rfl,ru⟩:=vals1 r;cases ru;obtain⟨its,rv,pl,hz⟩:=I.list hq;have ev:=nD rv;subst ev;have hpl:=pl.isList;have hlt:p<s.heap.objs.size:=by obtain⟨_,e,_⟩:=hpl;exact Vy e
 refine call_all_walk (WY hpl ⟨s.heap.objs.size,[s.heap.objs.size,p],[s.heap.objs.size],_,_,_,λi=>bs.getD i true,rfl,Walks.list (A:=X.A.in1) (I.ok.hd hc) _ p (VE hlt) (bs.map Value.bool).toArray,
  ⟨⟨_,VB _ rfl,rfl,rfl⟩,hpl.push _⟩,λi v s' Q' E' hP hQ=>?_,λh' tk hk=>?_⟩)
 ·have hi:i<bs.length:=by simpa using (WG.mp hP).1
  have e:v=Value.bool (bs.getD i true):=by
   have:(bs.map Value.bool)[i]?=some v:=by simpa using hP
   simp[hi]at this;simp[hi,this]
  subst e;exact V8 hQ
 ·have e:((List.range (bs.map Value.bool).toArray.size).all λi=>bs.getD i true)=bs.all id:=by rw[Vx,Vp];exact nE bs
  rw[e];exact⟨.bl _,H,I.kept λb o z=>hk b o (by simp;exact VE (Vy z)) (Vo _ z),rfl,q⟩
theorem pA(hc:X.calm=true):bU X (.builtin "any") (λxs H Q=>∃(p:Addr) (bs:List Bool),xs=[.ref p]/\fN X.K H p (bs.map V.bl)/\Q (.bl (bs.any id)) H):=by
 intro pins s σ H xs us Q I r h;obtain⟨p,bs,rfl,hq,q⟩:=h;obtain⟨u,rfl,ru⟩:=vals1 r;cases ru;obtain⟨its,rv,pl,hz⟩:=I.list hq;have ev:=nD rv;subst ev;have hpl:=pl.isList;have hlt:p<s.heap.objs.size:=by obtain⟨_,e,_⟩:=hpl;exact Vy e
 refine call_any_walk (WY hpl ⟨s.heap.objs.size,[s.heap.objs.size,p],[s.heap.objs.size],_,_,_,λi=>bs.getD i false,rfl,Walks.list (A:=X.A.in1) (I.ok.hd hc) _ p (VE hlt) (bs.map Value.bool).toArray,
  ⟨⟨_,VB _ rfl,rfl,rfl⟩,hpl.push _⟩,λi v s' Q' E' hP hQ=>?_,λh' tk hk=>?_⟩)
 ·have hi:i<bs.length:=by simpa using (WG.mp hP).1
  have e:v=Value.bool (bs.getD i false):=by
   have:(bs.map Value.bool)[i]?=some v:=by simpa using hP
   simp[hi]at this;simp[hi,this]
  subst e;exact V8 hQ
 ·have e:((List.range (bs.map Value.bool).toArray.size).any λi=>bs.getD i false)=bs.any id:=by rw[Vx,Vp];exact nF bs
  rw[e];exact⟨.bl _,H,I.kept λb o z=>hk b o (by simp;exact VE (Vy z)) (Vo _ z),rfl,q⟩
section
open PySem.AutoSeq1 (wpAny_loadPart')
theorem rH(l b:Addr)(items items2:Array Value)(n n2:Nat)(dd2:Option Addr)(sl2:Array (Option Value))(hs0:¬(!items.isEmpty&&Builtin.List.listTooLong (items.size+items2.size))=true)(hs1:items.size<=sizeLine)(hs2:items.size+items2.size<=sizeLine+1) :
  Meets (Builtin.«list.extend» ⟨[.ref l,.ref b],[]⟩) (λ_ R s=>s.heap.get? l=some { cls:=.type "list",data:=.seq items n }/\s.heap.get? b=some { cls:=.type "tuple",dict:=dd2,data:=.seq items2 n2,slots:=sl2 } /\
   R (.ok (.ret Value.none)) { s with heap:=s.heap.update l (Obj.mapSeq λx=>x++items2) }) :=
 .of_wp λprog w A R s h=>by
  obtain⟨hp,g,d,tk,os⟩:=s;obtain⟨hl,hb,h⟩:=h;have f2:=AutoSeq1.sub_tuple_tuple;have f3:=AutoSeq1.sub_list_list;have f4:=AutoSeq1.sub_tuple_list;have f5:=AutoSeq1.sub_list_tuple;have hz':(items++items2).size<=sizeLine+1:=by rw[Array.size_append];exact hs2
  wp_walk using (wpAny_updateSeq hl rfl (hz:=hs1) (_hz':=hz')),wpAny_loadPart' hl,wpAny_loadPart' hb
  exact⟨_,rfl,h⟩
end
def AM(K:Frag):V->List V->Hp->VK->Prop:=λx vs H Q=>∃l b xs zs,x=.ref l/\vs=[.ref b]/\H l=some (.lst xs)/\iA K H b zs/\xs.length+zs.length<=sizeLine/\Q .non (upd H l (.lst (xs++zs)))
theorem vG:Lo X "list.extend" (AM X.K):=by
 intro pins s σ H x vs v us Q I rx rv h;obtain⟨l,b,xs,zs,rfl,rfl,hH,hB,hz,q⟩:=h;cases rx;obtain⟨u,rfl,ru⟩:=rv.one;cases ru;obtain⟨z,its,n,r,hl,e⟩:=I.Aw hH;obtain⟨its2,r2,⟨⟨oc,od,Ti,osl⟩,e2,ec,n2,ed⟩,z2⟩:=I.tuple hB;cases ec;cases ed;have l2:=r2.length;have hsz:its.toArray.size+its2.toArray.size<=sizeLine:=by rw[Vx,Vx];omega
 have Ax:¬ (!its.toArray.isEmpty&&Builtin.List.listTooLong (its.toArray.size+its2.toArray.size))=true:=by rw[tw hsz,Bool.and_false];exact Vl
 refine XI F.slot_list_extend ⟨_,e,rfl⟩ F.entry_list_extend (F.args_list_extend_2 _ _)
  (rH l b its.toArray its2.toArray n n2 od osl Ax (by rw[Vx];omega) (by omega)) ⟨e,e2,?_⟩
 refine⟨.non,_,I.DN (its':=its++its2) hH e (by simp) (r.append r2) ?_,rfl,q⟩;rw[VL];omega
theorem vH:∀{us:List Value},Vals (ys.map V.str) us->StrsAre us ys:=by
 induction ys with
 |nil=>intro us r;cases r;exact .nil
 |cons y ys ih=>
  intro us r;cases r with
  |cons r1 r2=>obtain⟨t,rfl⟩:=r1;exact .cons _ _ (ih r2)
def rJoin(K:Frag):V->List V->Hp->VK->Prop:=λx vs H Q=>∃(z:Str) (p:Addr) (ys:List Str),x=.str z/\vs=[.ref p]/\fN K H p (ys.map V.str)/\(ys.map (·.length)).sum+ys.length*z.length<=16777216/\Q (.str (Txt.join z ys)) H
theorem D5:Lo X "str.join" (rJoin X.K):=by
 intro pins s σ H x vs v us Q I rx rv h;obtain⟨z,p,ys,rfl,rfl,hq,hz,q⟩:=h;obtain⟨t,rfl⟩:=rx;obtain⟨u,rfl,ru⟩:=rv.one;cases ru;obtain⟨its,r,pl,_⟩:=I.list hq;exact join_list pl.isList (by simpa using vH r) hz λt' k=>⟨.str _,H,I.tok _,⟨_,rfl⟩,q⟩
end
end L2
end
section
namespace L2
open PySem
def qb(xs:Array Nat):Prop:=xs.toList.Pairwise (· < ·)
structure Cut (xs:Array Nat) (j p:Nat):Prop where
 le:p<=xs.size
 lo:∀(i:Nat) (hi:i<xs.size),i<p->xs[i]<j
 hi:∀(i:Nat) (hi:i<xs.size),p<=i->j<=xs[i]
theorem Cut.one{xs:Array Nat}{j p q:Nat}(a:Cut xs j p)(b:Cut xs j q):p=q:=by
 rcases Nat.lt_trichotomy p q with h|h|h
 ·have hp:p<xs.size:=VA h b.le;have:=a.hi p hp (Vu _);have:=b.lo p hp h;omega
 ·exact h
 ·have hq:q<xs.size:=VA h a.le;have:=b.hi q hq (Vu _);have:=a.lo q hq h;omega
theorem qb.get{xs:Array Nat}(r:qb xs){a b:Nat}(ha:a<xs.size)(hb:b<xs.size)(h:a<b):xs[a]<xs[b]:=by
 have:=WH.mp r a b (by simpa using ha) (by simpa using hb) h;simpa using this
theorem vI{xs:Array Nat}(r:qb xs)(j:Nat):∀(fuel lo hi:Nat),lo<=hi->hi<=xs.size->hi-lo<=fuel->(∀(i:Nat) (hi:i<xs.size),i<lo->xs[i]<j)->(∀(i:Nat) (h:i<xs.size),hi<=i->j<=xs[i])->Cut xs j (SetTable.below.go xs j fuel lo hi)
 | 0,lo,hi,h1,h2,h3,a,b=>by
  have:lo=hi:=by omega
  subst this;exact⟨h2,a,b⟩
 | fuel+1,lo,hi,h1,h2,h3,a,b=>by
  unfold SetTable.below.go
  by_cases hlt:lo<hi
  ·rw[Vv hlt]
   dsimp only;have hm:(lo+hi)/2<xs.size:=by omega
   have eg:xs.getD ((lo+hi)/2) j=xs[(lo+hi)/2]:=by simp[Array.getD,hm]
   rw[eg]
   by_cases hc:xs[(lo+hi)/2]<j
   ·rw[Vv hc]
    refine vI r j fuel _ hi (by omega) h2 (by omega) (λi hi' hl=>?_) b
    by_cases e:i=(lo+hi)/2
    ·subst e;exact hc
    ·exact XJ (r.get hi' hm (by omega)) hc
   ·rw[Vw hc]
    refine vI r j fuel lo _ (by omega) (by omega) (by omega) a (λi hi' hl=>?_)
    by_cases e:i=(lo+hi)/2
    ·subst e;omega
    ·have:=r.get hm hi' (by omega);omega
  ·rw[Vw hlt]
   have:lo=hi:=by omega
   subst this;exact⟨h2,a,b⟩
theorem jG{xs:Array Nat}(r:qb xs)(j:Nat):Cut xs j (SetTable.below xs j) :=
 vI r j xs.size 0 xs.size (Wx _) (Vu _) (by omega) (λi _ h=>by omega) (λi h hl=>by omega)
theorem vJ{xs:Array Nat}(r:qb xs):SetTable.below xs 0=0:=(jG r 0).one ⟨Wx _,λi _ h=>by omega,λi _ _=>Wx _⟩
theorem vK{xs:Array Nat}(r:qb xs){i:Nat}(hi:i<xs.size):SetTable.below xs (xs[i]+1)=i+1:=by
 refine(jG r _).one ⟨hi,λk hk h=>?_,λk hk h=>?_⟩
 ·by_cases e:k=i
  ·subst e;omega
  ·have:=r.get hk hi (by omega);omega
 ·have:=r.get hi hk (by omega);omega
theorem yV{xs:Array Nat}(r:qb xs){j:Nat}(h:j∈xs):xs[SetTable.below xs j]?=some j:=by
 obtain⟨k,hk,e⟩:=Array.mem_iff_getElem.mp h;have:SetTable.below xs j=k:=by
  refine(jG r j).one ⟨WO hk,λi hi h=>?_,λi hi h=>?_⟩
  ·have:=r.get hi hk h;omega
  ·by_cases e':i=k
   ·subst e';omega
   ·have:=r.get hk hi (by omega);omega
 rw[this,V5 hk,e]
theorem yW{xs:Array Nat}(r:qb xs){j:Nat}(h:j∉xs):qb (SetTable.insertAt xs (SetTable.below xs j) j):=by
 have c:=jG r j;unfold qb;rw[SetTable.toList_insertAt];have rl:xs.toList.Pairwise (· < ·):=r;have lo:∀a∈xs.toList.take (SetTable.below xs j),a<j:=λa ha=>by
  obtain⟨i,hi,e⟩:=W2.mp ha;rw[Xq,VU]at hi;rw[List.getElem_take]at e;have:=c.lo i (by omega) (by omega);rw[<-e];simpa using this
 have up:∀a∈xs.toList.drop (SetTable.below xs j),j<a:=λa ha=>by
  obtain⟨i,hi,e⟩:=W2.mp ha;rw[Xr,VU]at hi;rw[List.getElem_drop]at e;have h1:=c.hi (SetTable.below xs j+i) (by omega) (by omega);have e':xs[SetTable.below xs j+i]'(by omega)=a:=by rw[<-e];simp
  rw[e']at h1;have:a≠j:=λz=>h (by rw[<-z,<-e'];exact Array.getElem_mem _);omega
 rw[List.pairwise_append];refine⟨rl.sublist (List.take_sublist _ _),V9.mpr ⟨up,rl.sublist (List.drop_sublist _ _)⟩,λa ha b hb=>?_⟩
 rcases VF.mp hb with e|hb
 ·rw[e];exact lo a ha
 ·exact XJ (lo a ha) (up b hb)
theorem kG(n:Nat):qb (Array.range n):=by
 unfold qb;rw[Array.toList_range];exact List.pairwise_lt_range
theorem qc{t:SetTable}(r:qb t.place){j:Nat}(h:t.slot j=.empty\/t.slot j=.dummy):j∉t.place:=λhm=>by
 have e:=yV r hm;unfold SetTable.slot at h;dsimp only at h;rw[e]at h;simp at h
theorem j5{h:Int}:∀(fuel:Nat) (p:SetTable.Probe) (j:Nat) (d:Option Nat),(∀k,p.dummy=some k->t.slot k=.dummy)->SetTable.probe.go t f h fuel p=some (.empty j d)->t.slot j=.empty/\∀k,d=some k->t.slot k=.dummy
 |0,p,j,d,hd,e=>by simp[SetTable.probe.go]at e
 | fuel+1,p,j,d,hd,e=>by
  have ad:∀q:SetTable.Probe,(t.advance q).dummy=q.dummy:=λq=>by unfold SetTable.advance;split<;>rfl
  unfold SetTable.probe.go at e;split at e
  ·rename_i hs;cases e;exact⟨hs,hd⟩
  ·rename_i hs;refine j5 fuel _ j d (λk hk=>?_) e;rw[ad]at hk;cases hk;exact hs
  ·split at e
   ·cases e
   ·exact j5 fuel _ j d (λk hk=>hd k (by rw[<-ad];exact hk)) e
theorem AN{t:SetTable}(r:qb t.place){h:Int}{s:Nat}{b:Bool}(e:t.freeSlot h=some (s,b)):s∉t.place:=by
 unfold SetTable.freeSlot at e;split at e
 ·rename_i j d hp
  cases e;obtain⟨h1,h2⟩:=j5 _ _ _ _ (λk hk=>by simp[SetTable.probeStart]at hk) hp;cases d with
  |none=>exact qc r (.inl h1)
  |some k=>exact qc r (.inr (h2 k rfl))
 ·cases e
theorem yX(r:qb t.place)(es:Array (Int×Value))(h:Int)(x:Value):qb (layNew t es h x).2.1.place/\(layNew t es h x).2.1.led=t.led:=by
 unfold layNew
 split
 ·rename_i s b e
  have fr:=AN r e;dsimp only;unfold SetTable.orStandIn
  split
  ·exact⟨yW r fr,rfl⟩
  ·exact⟨kG _,rfl⟩
 ·exact⟨kG _,rfl⟩
theorem AO(r:qb t.place)(es:Array (Int×Value))(n:Nat):qb (relayAll t es n).2.1.place/\(relayAll t es n).2.1.led=t.led:=by
 unfold relayAll
 split
 ·rename_i t' order e
  dsimp only
  split
  ·unfold SetTable.relaid SetTable.laid at e;obtain⟨ow,e1,e⟩:=Vk.mp e;cases e;refine⟨?_,rfl⟩;show List.Pairwise _ (List.map _ _).toArray.toList;rw[List.toList_toArray,WZ];refine List.Pairwise.filterMap _ (R:=(· < ·)) (λa a' hl b hb b' hb'=>?_) List.pairwise_lt_range;obtain⟨x,_,rfl⟩:=VS.mp hb;obtain⟨y,_,rfl⟩:=VS.mp hb';exact hl
  ·exact⟨kG _,rfl⟩
 ·exact⟨kG _,rfl⟩
end L2
end
section
namespace L2
open PySem PyProof.Rows
def pB(w:World):Bool:=w.params.followText "set-order"
structure Gg (w:World) (es:Array (Int×Value)) (t:SetTable):Prop where
 few:es.size<scanBound
 fit:t.fits es.size=true
 rs:qb t.place
 led:t.led = !pB w
structure dF (prog:Program) (w:World) (h:Heap) (a:Addr) (o:Obj) (es:Array (Int×Value)) (ep:Nat) (t:SetTable) (ks:List Int):Prop where
 at_:h.get? a=some o
 ex:o.ExactSet
 dat:o.data=.set es ep t
 el:ElemsOf (intKind prog w) es.toList
 tab:Gg w es t
 RD:ks.Nodup
 mem:∀k,k∈ks↔∃e∈es.toList,(intKind prog w).is k e.2=true
 num:es.size=ks.length
def mO(prog:Program)(w:World)(h:Heap)(a:Addr)(ks:List Int):Prop:=∃o es ep t,dF prog w h a o es ep t ks
def pC(ks:List Int)(k:Int):List Int:=if k∈ks then ks else ks++[k]
section
variable {prog:Program} {w:World} {A:Around} {E:Value->Shared->Prop} {s:Shared}
theorem AQ{h:Heap}{a:Addr}{o:Obj}{es es':Array (Int×Value)}{ep:Nat}{t t':SetTable}(ho:h.get? a=some o)(hd:o.data=.set es ep t):(h.update a (Obj.putSet es' t')).get? a=some { o with data:=.set es' (ep+1) t' }:=by
 have q:=V7 (Obj.putSet es' t') ho (by rw[putSet_of es' t' hd];rfl);rw[putSet_of es' t' hd]at q;exact q
theorem mO.frame{ks:List Int}(S:mO prog w h a ks)(k:∀o,h.get? a=some o->h'.get? a=some o):mO prog w h' a ks:=by
 obtain⟨o,es,ep,t,i⟩:=S;exact⟨o,es,ep,t,{ i with at_:=k o i.at_ }⟩
theorem mem_push{es es1:List (Int×Value)}{ks:List Int}{k:Int}(hx:(intKind prog w).is k x=true)(hm:∀j,j∈ks↔∃e∈es,(intKind prog w).is j e.2=true)(p:es1.Perm (es++[((intKind prog w).hash k,x)]))(j:Int) :
  j∈ks++[k]↔∃e∈es1,(intKind prog w).is j e.2=true:=by
 rw[Wq,VM,hm];constructor
 ·rintro(⟨e,he,q⟩|rfl)
  ·exact⟨e,p.mem_iff.mpr (WI _ he),q⟩
  ·exact⟨_,p.mem_iff.mpr (VW _ Vs),hx⟩
 ·rintro⟨e,he,q⟩
  rcases Wq.mp (p.mem_iff.mp he) with z|z
  ·exact .inl ⟨e,z,q⟩
  ·rw[VM]at z;subst z;exact .inr ((intKind prog w).inj x j k q hx)
theorem tM{g:Bool->Sem Unit}(hg:∀(b:Bool) (s₁:Shared) (Q':Unit->Shared->Prop),Q' () s₁->wpAny (model prog w) A (g b) Q' E s₁)
  {a:Addr} {o:Obj} {es es1:Array (Int×Value)} {ep:Nat} {t t2:SetTable} {ks:List Int} (ho:s.heap.get? a=some o) (hex:o.ExactSet) (hd:o.data=.set es ep t)
  (hel:ElemsOf (intKind prog w) es1.toList) (hm:∀k,k∈ks↔∃e∈es1.toList,(intKind prog w).is k e.2=true) (hnd:ks.Nodup) (hn:es1.size=ks.length) (ht:Gg w es1 t2) {b:Bool} {R:Option Bool->Shared->Prop}
  (h:∀h',Heap.SameBut a s.heap h'->mO prog w h' a ks->R (some true) { s with heap:=h' }) :
  wpAny (model prog w) A (do
    storeSet a es1 t2
    if (!b&&t2.tooFull)=true then do
      g (relayAll t2 es1 (SetTable.grown es1.size)).2.2
      storeSet a (relayAll t2 es1 (SetTable.grown es1.size)).1 (relayAll t2 es1 (SetTable.grown es1.size)).2.1
      pure (some true)
     else pure (some true)) R E s:=by
 refine Vm (wpAny_storeSet_of ho hd ?_ (Xn ht.few));have h1:=AQ (es':=es1) (t':=t2) ho hd;have b1:=We s.heap a (Obj.putSet es1 t2)
 split
 ·have p:=relayAll_perm t2 es1 (SetTable.grown es1.size)
  have f:=relayAll_fits t2 es1 (SetTable.grown es1.size);have rr:=AO ht.rs es1 (SetTable.grown es1.size);generalize relayAll t2 es1 (SetTable.grown es1.size)=Rl at p f rr |-;obtain⟨Qn,t3,gv⟩:=Rl;dsimp only at p f rr |-;have z:Qn.size=es1.size:=by rw[<-VU,p.length_eq,VU]
  have few:Qn.size<scanBound:=by rw[z];exact ht.few
  refine Vm (hg _ _ _ ?_);refine Vm (wpAny_storeSet_of h1 rfl ?_ (Xn few));refine Vt (h _ (b1.trans (We _ a _)) ⟨_,Qn,_,t3,AQ h1 rfl,hex,rfl,hel.perm p,⟨few,f,rr.1,rr.2.trans ht.led⟩,hnd,λk=>(hm k).trans ⟨λ⟨e,he,q⟩=>⟨e,p.mem_iff.mpr he,q⟩,λ⟨e,he,q⟩=>⟨e,p.mem_iff.mp he,q⟩⟩,z.trans hn⟩)
 ·exact Vt (h _ b1 ⟨_,es1,_,t2,h1,hex,rfl,hel,ht,hnd,hm,hn⟩)
theorem add_int{ks:List Int}{k:Int}(S:mO prog w s.heap a ks)(room:ks.length+1<scanBound)
  (h:∀h' b,Heap.SameBut a s.heap h'->mO prog w h' a (pC ks k)->Q b { s with heap:=h' }) :
  wpAny (model prog w) A (setAddHashed a (.int k tk) ((intKind prog w).hash k)) Q E s:=by
 obtain⟨o,es,ep,t,I⟩:=S;have hx:(intKind prog w).is k (.int k tk)=true:=intKind_is _ _ _ _;have sc:(Value.int k tk).scannable=true:=rfl;unfold setAddHashed setAddHashedIn;refine Wv (Vm (Wz I.at_ I.dat I.tab.fit ?_));dsimp only;rw[byScan_of sc I.tab.few I.el];simp only[↓reduceIte];unfold setAddByScan;refine Vm (Vm (wpAny_rule (Vm (wpAny_setScan_of hx I.at_ I.dat I.tab.fit I.el ?_))));cases hr:List.findIdx? (λe=>(intKind prog w).is k e.2) es.toList with
 |some j=>
  dsimp only;obtain⟨hj,pj,_⟩:=List.findIdx?_eq_some_iff_getElem.mp hr;have hk:k∈ks:=(I.mem k).mpr ⟨es.toList[j],WE hj,pj⟩;refine Vt (Vt ?_);have e:s={ s with heap:=s.heap }:=by cases s;rfl
  rw[e];exact h s.heap _ (Heap.SameBut.refl a s.heap) (by unfold pC;rw[Vv hk];exact⟨o,es,ep,t,I⟩)
 |none=>
  dsimp only;have hk:k∉ks:=λz=>by
   obtain⟨e,he,p⟩:=(I.mem k).mp z;have:=List.findIdx?_eq_none_iff.mp hr e he;rw[p]at this;cases this
  have gw:∀(b:Bool) (s₁:Shared) (Q':Unit->Shared->Prop),Q' () s₁->wpAny (model prog w) A (match b with|true=>rule "set.scan.the-table-gave-way" | false=>pure ()) Q' E s₁:=λb s₁ Q' q=>by
   cases b
   ·exact Vt q
   ·exact wpAny_rule q
  have p:=layNew_perm t es ((intKind prog w).hash k) (.int k tk);have f:=layNew_fits t es ((intKind prog w).hash k) (.int k tk);have rr:=yX I.tab.rs es ((intKind prog w).hash k) (.int k tk);generalize layNew t es ((intKind prog w).hash k) (.int k tk)=Ln at p f rr |-;obtain⟨es1,t1,wd,gv⟩:=Ln;dsimp only at p f rr |-;rw[Array.toList_push]at p;have z:es1.size=(ks++[k]).length:=by rw[<-VU,p.length_eq,VL,VL,VU,I.num];rfl
  have few:es1.size<scanBound:=by rw[z,VL];simpa using room
  have nd:(ks++[k]).Nodup:=by rw[W0];exact⟨I.RD,by simp,λx hx' y hy e=>hk (by rw[VM]at hy;rw[<-hy,<-e];exact hx')⟩
  have RE:ElemsOf (intKind prog w) es1.toList:=(I.el.push hx sc).perm p;have m1:=mem_push hx I.mem p;have fin:∀h',Heap.SameBut a s.heap h'->mO prog w h' a (ks++[k])->Q true { s with heap:=h' }:=λh' sb S'=>h h' true sb (by unfold pC;rw[Vw hk];exact S');refine Vm (gw _ _ _ ?_)
  split
  ·refine Vm ?_
   rw[hashByValue_scannable 8 sc];refine Vt ?_;refine tM gw I.at_ I.ex I.dat RE m1 nd z ⟨few,?_,?_,?_⟩ λh' sb S'=>Vt (fin h' sb S')
   ·split
    ·exact f
    ·exact SetTable.fits_plain_off f
   ·split
    ·exact rr.1
    ·exact rr.1
   ·split
    ·exact rr.2.trans I.tab.led
    ·exact rr.2.trans I.tab.led
  ·refine Vm (Vt ?_);simp only[↓reduceIte];exact tM gw I.at_ I.ex I.dat RE m1 nd z ⟨few,f,rr.1,rr.2.trans I.tab.led⟩ λh' sb S'=>Vt (fin h' sb S')
end
def iE:List Int->List Int->List Int
 |ks,[]=>ks
 |ks,k::r=>iE (pC ks k) r
theorem tN(ks:List Int)(k:Int):(pC ks k).length<=ks.length+1:=by unfold pC;split<;>simp
section
variable {prog:Program} {w:World} {A:Around} {E:Value->Shared->Prop} {s:Shared}
theorem AR{R:Result->Shared->Prop}{I:Addr}{fp wr:List Addr}{G:Array GenState->Array GenState->Prop}{n:Nat}{P:Nat->Value->Prop}{St:Nat->Shared->Prop}(W:WalksS prog w A.in1 I fp wr G n P St)(S:Addr)(hSf:S∉fp)(val:Nat->Int)(hval:∀i v,P i v->∃t,v=.int (val i) t) :
  ∀(k i:Nat) (s:Shared) (ks:List Int),n-i=k->i<=n->ks.length+k+1<scanBound->St i s->mO prog w s.heap S ks ->
   (∀s',Moved (S::wr) G s s'->mO prog w s'.heap S (iE ks ((range' i k).map val))->R (.ok (.ret .none)) s') ->
   codeAny (model prog w) A (.builtin "set.update.loop" ⟨[.ref S,.ref I],[]⟩) R s:=by
 have RG:S∉wr:=λh=>hSf (W.sub _ h);have sub:∀b∈wr,b∈S::wr:=λb hb=>Vq _ hb;intro k
 induction k with
 |zero=>
  intro i s ks hk hi _ hst hS hR;have:i=n:=by omega
  subst this;refine WU PyProof.Rows.F.entry_set_update_loop ?_;rw[WK WC _];show wpAny _ A.in1 (pyNext (.ref I) >>= _) _ _ s;refine Vm (W.done s _ _ hst λs' hm=>?_);show wpAny _ A.in1 (ret Value.none) _ _ s';exact Vt (hR s' (hm.mono sub) (hS.frame λo e=>hm.heap S _ RG e))
 |succ k ih=>
  intro i s ks hk hi hl hst hS hR;have hlt:i<n:=by omega
  refine WU PyProof.Rows.F.entry_set_update_loop ?_;rw[WK WC _];show wpAny _ A.in1 (pyNext (.ref I) >>= _) _ _ s;refine Vm (W.item i s _ _ hlt hst λv s' hP Qo hm=>?_);obtain⟨t,rfl⟩:=hval i v hP;have hS':=hS.frame (h':=s'.heap) λo e=>hm.heap S _ RG e;show wpAny _ A.in1 (holding [Value.int (val i) t] (setAdd S (.int (val i) t)) >>= _) _ _ s';refine Vm (Wv ?_);unfold setAdd;refine Wv (Vm ((intKind prog w).pyHash (k:=val i) (intKind_is _ _ _ _) ?_));refine add_int (s:={ s' with toks:=s'.toks+1 }) hS' (by omega) λh' b sb S2=>?_;have hl2:=tN ks (val i);refine Vt ⟨Xw WC _,ih (i+1) _ (pC ks (val i)) (by omega) hlt (by omega) (W.frame _ s' _ _ Qo (Wr _) λb hb o e=>?_) S2 λs'' Ic S3=>?_⟩
  ·rw[sb.2 b λz=>hSf (by rw[<-z];exact hb)];exact e
  ·refine hR s'' (Moved.trans W.gtrans ((hm.mono sub).then_heap (Wr _) λb o hb e=>?_) Ic) ?_
   ·rw[sb.2 b λz=>hb (by rw[z];exact Vs)];exact e
   ·rw[List.range'_succ,VC,iE];exact S3
abbrev nG(w:World):Obj:={ cls:=.type "set",dict:=none,data:=.set #[] 0 (.fresh 0 0 (!pB w)) }
theorem D6(e:h.get? a=some (nG w)):mO prog w h a [] :=
 ⟨_,#[],0,_,e,⟨rfl,rfl,rfl⟩,rfl,λx hx=>by simp at hx,⟨by show 0<4096;decide,rfl,List.Pairwise.nil,rfl⟩,XU,λk=>by simp,rfl⟩
theorem AS(a:Value)(h:Q₁ (.ref s.heap.objs.size) { s with heap:=s.heap.push (nG w) }) :
  codeAny (model prog w) A (.call (.builtin "set.__new__") ⟨[.type "set",a],[]⟩) (wants Q₁ E) s:=by
 refine codeAny_of_tree ?_;show wpAny _ A.in1 (do checkBuiltinCall "set.__new__" ⟨[.type "set",a],[]⟩;again (.builtin "set.__new__" ⟨[.type "set",a],[]⟩)) _ _ s;refine Vm (wpAny_of_eq (PySem.F.newCall_set_1 a) (Vt ⟨Xw PySem.F.plain_set_new _,WU PySem.F.entry_set_new ?_⟩));rw[WK PySem.F.plain_set_new _];unfold Builtin.«set.__new__» Builtin.Frozenset.newClass;have hsub:=sub_set_self;obtain⟨hp,g,d,tk,os⟩:=s;dsimp only
 wp_walk
 refine wpAny_askSetting (Vt ?_);dsimp only;simp only[newObj];refine Vm (wpAny_alloc (Vt ?_));exact Vt h
end
section
variable {prog:Program} {w:World} {A:Around} {E:Value->Shared->Prop} {s:Shared}
theorem vL{ns:List Int}(hi:IntsAre vs ns):(range' 0 vs.length).map (λi=>ns.getD i 0)=ns:=by
 have hl:=IntsAre.length hi;apply Xu
 ·rw[Vp,List.length_range',hl]
 ·intro i h1 h2;simp[List.getD,h2]
theorem tO{ns:List Int}(hh:A.handled=none)(hl:s.heap.IsList l items)(hi:IntsAre items.toList ns)(hb:items.size+1<scanBound)
  (h:∀(h':Heap) (tk:Nat),mO prog w h' s.heap.objs.size (iE [] ns)->(∀b o,b<s.heap.objs.size->s.heap.get? b=some o->h'.get? b=some o)->Q (.ref s.heap.objs.size) { s with heap:=h',toks:=tk }) :
  wpAny (model prog w) A (call (.type "set") [.ref l]) Q E s:=by
 obtain⟨c,tl,mro⟩:=PySem.F.called_set.mro;have made:=PySem.F.called_set.made;have sub:=PySem.F.called_set.sub;refine wpAny_call (codeAny_of_tree ?_);show wpAny _ _ (callAny (.type "set") _) _ _ _;refine Vt ⟨Code.quiet_builtin _ (by decide +kernel),WU PySem.F.entry_type_call ?_⟩;rw[Around.under_plain (weight_type_call_type "set" [.ref l] []) rfl];have n1:=PySem.F.called_set.notType;have n2:=PySem.F.called_set.canCreate;have n3:=PySem.F.typeCall_set_1 (.ref l)
 repeat (any_goals (first|assumption|wp_step))
 refine Xi (AS (.ref l) (E:=E) (Q₁:=λobj s₁=>obj=.ref s.heap.objs.size/\s₁={ s with heap:=s.heap.push (nG w) }) ⟨rfl,rfl⟩) λr s₁ hr=>?_;cases r with
 |error e=>exact hr
 |ok fl=>
  cases fl with
  |ret obj=>
   obtain⟨rfl,rfl⟩:=hr;have Pa:(s.heap.push (nG w)).get? s.heap.objs.size=some (nG w):=VB _ rfl;have hT:Shared.TypeIs { s with heap:=s.heap.push (nG w) } (.ref s.heap.objs.size) "set":=⟨_,Pa,rfl⟩;have look:=PySem.F.called_set.init.lookup;have bind:=PySem.F.called_set.init.bind (.ref s.heap.objs.size)
   repeat (any_goals (first|assumption|wp_step))
   refine Xi (codeAny_call_builtin (R:=wants (λr s₂=>r=.none/\∃h' tk,s₂={ s with heap:=h',toks:=tk }/\mO prog w h' s.heap.objs.size (iE [] ns) /\
     (∀b o,b<s.heap.objs.size->s.heap.get? b=some o->h'.get? b=some o)) E) PySem.F.called_set.init.plain PySem.F.entry_set_init (check_set_init_1 hT ?_)) λr₂ s₂ Qp=>?_
   ·obtain⟨ol,RH,cl,nl,dl⟩:=hl
    obtain⟨oc,od,Vb,os⟩:=ol;simp only at cl dl;subst cl;subst dl;have Qq:(s.heap.push (nG w)).get? l=some { cls:=.type "list",dict:=od,data:=.seq items nl,slots:=os }:=Vo _ RH;have q1:=PySem.F.sub_list_set;have q2:=PySem.F.sub_list_frozenset;have q3:(Value.type "list" == Value.type "dict")=false:=by decide
    have hl1:(s.heap.push (nG w)).IsList l items:=⟨_,Qq,rfl,nl,rfl⟩;unfold Builtin.«set.__init__» noKeywords Builtin.Frozenset.updateFrom;generalize Tj:pyIter=PI
    wp_walk
    subst Tj;refine WY hl1 (Vm (wpAny_runValue ?_));have lS:l<s.heap.objs.size:=Vy RH;have h3:A.in1.in1.in1.handled=none:=by simp[hh]
    have Tn:l≠(s.heap.push (nG w)).objs.size:=by rw[Wm];exact VE (Wy lS)
    have sF:s.heap.objs.size∉[(s.heap.push (nG w)).objs.size,l]:=by rw[Wm];simp only[mem_cons,not_mem_nil,or_false,not_or];exact⟨VE (V6 _),W4 lS⟩
    have val:∀(i:Nat) (v:Value),items[i]?=some v->∃t,v=.int ((λi=>ns.getD i 0) i) t:=λi v hv=>IntsAre.int_at hi i v (by rw[Array.getElem?_toList];exact hv);refine AR ((Walks.list h3 _ l Tn items).toS) s.heap.objs.size sF (λi=>ns.getD i 0) val (items.size-0) 0 _ [] (by omega) (Wx _) (by simpa using hb) ⟨⟨_,VB _ rfl,rfl,rfl⟩,hl1.push _⟩ ?s0 ?sR
    case s0=>exact D6 (Vo _ Pa)
    case sR=>
     intro s' hm S';obtain⟨h',g',d',tk',os'⟩:=s';have eg:g'=s.gens:=hm.gens;have ed:d'=s.drawn:=hm.drawn;have eo:os'=s.os:=hm.os;subst eg;subst ed;subst eo;refine Vt ?_;show wpAny _ _ (ret Value.none) _ _ _;have e0:(range' 0 (items.size-0)).map (λi=>ns.getD i 0)=ns:=by have:=vL hi;rw[VU]at this;exact this
     rw[e0] at S';refine Vt ⟨rfl,h',tk',rfl,S',λb o hb e=>?_⟩;have b1:b≠s.heap.objs.size:=VE hb;have b2:b≠(s.heap.push (nG w)).objs.size:=by rw[Wm];exact VE (Wy hb)
     exact hm.heap b o (by simp only[mem_cons,not_mem_nil,or_false,not_or];exact⟨b1,b2⟩) (Vo _ (Vo _ e))
   ·cases r₂ with
    |error e=>exact Qp
    |ok To=>
     cases To with
     |ret r=>
      obtain⟨rfl,h',tk,rfl,S',hk⟩:=Qp
      repeat (any_goals (first|assumption|wp_step))
      exact h _ _ S' hk
     |_=>exact Qp.elim
  |_=>exact hr.elim
end
namespace SI
theorem vM:entryFor table "set.__iter__" = some Builtin.«frozenset.__iter__» :=
 entryFor_alias (id':="frozenset.__iter__") (by kernel_rfl) rfl (by decide +kernel) (by kernel_rfl)
theorem owner:Manifest.owners.lookup (String.ofList ['r','o','t','a','r','e','t','i','_','t','e','s'].reverse)=some Manifest.sig_set_iterator:=by kernel_rfl
theorem slot_next:Slot "set_iterator" "__next__" "set_iterator.__next__" :=
 .of (owner:="set_iterator") (n:="__next__") (by rw[typeLookup_type,builtinLookup_eq_fast];kernel_rfl) (by decide +kernel) (by decide +kernel) (by decide +kernel) (by first|exact .inl (by decide +kernel)|exact .inr (by decide +kernel)) (by rw[isSubtype_type];kernel_rfl)
theorem entry_next:entryFor table "set_iterator.__next__" = some Builtin.«set_iterator.__next__»:=entryFor_of_tree (by kernel_rfl)
theorem args_next(a:Value):argsOk "set_iterator.__next__" ⟨[a],[]⟩:=by
 unfold argsOk;rw[signature?_of (id:="set_iterator.__next__") (n:=['_','_','t','x','e','n','_','_']) (o:=['r','o','t','a','r','e','t','i','_','t','e','s']) (by kernel_rfl) owner];kernel_rfl
theorem qd:Slot "set_iterator" "__iter__" "set_iterator.__iter__" :=
 .of (owner:="set_iterator") (n:="__iter__") (by rw[typeLookup_type,builtinLookup_eq_fast];kernel_rfl) (by decide +kernel) (by decide +kernel) (by decide +kernel) (by first|exact .inl (by decide +kernel)|exact .inr (by decide +kernel)) (by rw[isSubtype_type];kernel_rfl)
theorem entry_self:entryFor table "set_iterator.__iter__" = some Builtin.«dict_keyiterator.__iter__» :=
 entryFor_alias (id':="dict_keyiterator.__iter__") (by kernel_rfl) rfl (by decide +kernel) (by kernel_rfl)
theorem yY(a:Value):argsOk "set_iterator.__iter__" ⟨[a],[]⟩:=by
 unfold argsOk;rw[signature?_of (id:="set_iterator.__iter__") (n:=['_','_','r','e','t','i','_','_']) (o:=['r','o','t','a','r','e','t','i','_','t','e','s']) (by kernel_rfl) owner];kernel_rfl
end SI
section
variable {prog:Program} {w:World} {A:Around} {E:Value->Shared->Prop} {s:Shared}
def eu(h:Heap)(it:Addr)(f:Value)(i:Nat)(a:Addr)(n ep:Nat):Prop:=∃o,h.get? it=some o/\o.cls=.type "set_iterator" /\ o.data=.fields [f,.int i 0,.ref a,.int n 0,.int ep 0].toArray
theorem eu.typeIs{i:Nat}{n ep:Nat}(x:eu s.heap it f i a n ep):s.TypeIs (.ref it) "set_iterator":=let ⟨o,ho,hc,_⟩:=x;⟨o,ho,hc⟩
theorem lM{i:Nat}{n ep:Nat}(x:eu s.heap it f i a n ep)(h:Q (.ref it) s):wpAny (model prog w) A (pyIter (.ref it)) Q E s:=by
 refine wpAny_pyIter_slot x.typeIs SI.qd (WM SI.qd x.typeIs SI.entry_self ?_ (SI.yY _));exact Vt ⟨_,rfl,"set_iterator",_,x.typeIs,SI.slot_next.lookup,h⟩
end
section
variable {prog:Program} {w:World} {A:Around} {E:Value->Shared->Prop} {s:Shared}
theorem gm{ep:Nat}(ho:s.heap.get? a=some o)(hd:o.data=.set es ep t)(hf:t.fits es.size=true)(h:Q es s):wpAny (model prog w) A (setEntries a) Q E s:=by
 unfold setEntries;exact Vm (Wz ho hd hf (Vt h))
theorem jH(h:Q (pB w) s):wpAny (model prog w) A setsByText Q E s:=by
 unfold setsByText;exact Vm (wpAny_askSetting (Vt h))
theorem qf{ep sl g:Nat}{ks:List Int}(S:dF prog w s.heap a o es ep t ks)(hb:pB w=false)(hp:(!t.plain&&decide (es.size>1))=false)
  (hQ:Q (match es[SetTable.below t.place sl]?,t.place[SetTable.below t.place sl]? with|some (_,x),some j=>some (x,j+1)|_,_=>none) s):wpAny (model prog w) A (setNext a sl g ep) Q E s:=by
 have led:t.led=true:=by rw[S.tab.led,hb];rfl
 unfold setNext;refine Vm (Wz S.at_ S.dat S.tab.fit ?_);dsimp only;refine Vm (jH ?_);rw[hb];simp only[false_eq_true,↓reduceIte];rw[Vw (λz=>by
  have z':(!t.plain&&decide (es.size>1))=true:=z;rw[hp]at z';cases z')]
 refine Vm ?_;show wpAny _ _ (if (!t.led && !es.isEmpty)=true then Sem.unsupported "set:maker-not-led" else pure ()) _ _ _;rw[Vw (by rw[led];simp)];exact Vt (Vt hQ)
theorem qg{ep sl g:Nat}{ks:List Int}(S:dF prog w s.heap a o es ep t ks)(hb:pB w=true)
  (hQ:Q (((pickOrder (w.params.setOrder a ep) es)[g]?).map λe=>(e.2,sl)) s):wpAny (model prog w) A (setNext a sl g ep) Q E s:=by
 unfold setNext;refine Vm (Wz S.at_ S.dat S.tab.fit ?_);dsimp only;refine Vm (jH ?_);rw[hb];simp only[bne_self_eq_false,false_eq_true,↓reduceIte];unfold setWalk;refine Vm (Vm (Wz S.at_ S.dat S.tab.fit ?_));dsimp only;refine Vm (jH ?_);rw[hb];simp only[↓reduceIte];exact Vm (wpAny_askSetting (Vt (Vt hQ)))
theorem kH{ep:Nat}{ks:List Int}{i sl:Nat}(hh:A.handled=none)(x:eu s.heap it (.int sl 0) i a es.size ep)(S:dF prog w s.heap a o es ep t ks)
  (hn:∀(A:Around) (E:Value->Shared->Prop) (Q:Option (Value×Nat)->Shared->Prop),Q r s->wpAny (model prog w) A (setNext a sl i ep) Q E s)
  (hQ:∀v nx,r=some (v,nx)->∀h',eu h' it (.int (nx:Nat) 0) (i+1) a es.size ep->Heap.SameBut it s.heap h'->Q (some v) { s with heap:=h' })
  (hE:r=none->∀h',Heap.ExtBut it s.heap h'->Q none { s with heap:=h' }):wpAny (model prog w) A (pyNext (.ref it)) Q E s:=by
 obtain⟨oi,Dg,Qs,hdi⟩:=id x;unfold pyNext;refine Vm (wpAny_attempt (Xg (name:=Str.ofString "__next__") x.typeIs SI.slot_next (WM SI.slot_next x.typeIs SI.entry_next ?_ (SI.args_next _))));unfold Builtin.«set_iterator.__next__»;refine Vm (Vt ?_);refine Vm (wpAny_fieldsOf Dg hdi ?_);dsimp only;refine Vm (gm S.at_ S.dat S.tab.fit ?_);rw[Vw (by simp)];refine Vm (hn _ _ _ ?_);cases r with
 |some p=>
  obtain⟨v,nx⟩:=p;dsimp only;refine Vm (W3 Dg hdi (by simp) ?_);have h1:=V7 (Obj.mapFields (·.setIfInBounds 0 (rawInt nx))) Dg (WX (Wi hdi _));have d1:=Wi hdi (·.setIfInBounds 0 (rawInt nx));refine Vm (W3 h1 d1 (by simp) ?_);have h2:=V7 (Obj.mapFields (·.setIfInBounds 1 (rawInt ((i:Int)+1)))) h1 (WX (Wi d1 _));refine Vt ⟨_,rfl,Vt (hQ v nx rfl _ ⟨_,h2,?_,?_⟩ ((We ..).trans (We ..)))⟩
  ·rw[XG,XG];exact Qs
  ·rw[Wi d1];simp[rawInt]
 |none=>dsimp only;refine Vm (W3 Dg hdi (by simp) ?_);refine Vm ?_;simp only[newExc,newTuple];refine Vm (VY ?_ (by size_fits));refine Vm (m:=firstArgMember _ _) (wpAny_of_eq (a:=Value.none) (by first|rfl|(simp only[firstArgMember];rfl)) ?_);refine VY ?_ (by size_fits);simp only[raiseNew];refine Vm (wpAny_handled ?_);rw[show A.in1.handled=none from hh];refine Vm (Vt (wpAny_throw ?_));refine Vm (wpAny_isInstance (T:="StopIteration") (b:=true) ⟨_,VB _ rfl,rfl⟩ isSubtype_stop ?_);exact Vt (hE rfl _ (((We ..).extBut.push _).push _))
end
theorem j6{α:Type}:∀(l:List α) (i:Nat) (h:i<l.length),(l[i]::l.eraseIdx i).Perm l
 |x::l,0,_=>Xm _
 | x::l,i+1,h=>by
  simp only[List.getElem_cons_succ,List.eraseIdx_cons_succ];exact(List.Perm.swap _ _ _).trans (XC x (j6 l i (by simpa using h)))
section
variable {prog:Program} {w:World} {A:Around} {E:Value->Shared->Prop} {s:Shared}
theorem yZ{n:Nat}(hn:n≠0)(h:∀i d,i<n->Q i { s with drawn:=d }):wpAny (model prog w) A (choose src n) Q E s:=fun Γ p hΓ=>by
 show Sem.wp _ _ (Sem.choose src n Sem.pure) _ _ _ _;rw[Sem.wp];exact⟨hn,h _ _ (mod_lt _ (Nat.pos_of_ne_zero hn))⟩
theorem xq{α:Type}:∀(n:Nat) (xs:List α) (s:Shared) (Q:List α -> Shared->Prop),xs.length=n->(∀ys d,ys.Perm xs->Q ys { s with drawn:=d })->wpAny (model prog w) A (drawOrder n xs) Q E s
 | 0,xs,s,Q,hl,h=>by
  have:xs=[]:=WN hl;subst this;unfold drawOrder;exact Vt (h [] s.drawn (Xm _))
 |n+1,[],s,Q,hl,h=>by simp at hl
 | n+1,x::xs,s,Q,hl,h=>by
  unfold drawOrder;refine Vm (yZ (by simp) λi d hi=>?_);have hx:(x::xs)[i]?=some ((x::xs)[i]):=VN hi;rw[hx];dsimp only;refine Vm (xq n ((x::xs).eraseIdx i) _ _ (by rw[List.length_eraseIdx,Vv hi];simp at hl |-;omega) λys d' p=>Vt ?_);exact h _ d' (((XC _ p).trans (j6 _ i hi)))
theorem nH{ep c:Nat}{ks:List Int}{i:Nat}{ps:List Nat}(hh:A.handled=none)(x:eu s.heap it (.ref td) i a es.size ep)(S:dF prog w s.heap a o es ep t ks)
  (hT:s.heap.get? td=some oT) (Pb:oT.data=.seq (ps.map λ(j:Nat)=>rawInt j).toArray c) (hlt:∀j∈ps,j<es.size)
  (hQ:∀j e,ps[i]?=some j->es[j]?=some e->∀h',eu h' it (.ref td) (i+1) a es.size ep->Heap.SameBut it s.heap h'->Q (some e.2) { s with heap:=h' })
  (hE:ps[i]?=none->∀h',Heap.ExtBut it s.heap h'->Q none { s with heap:=h' }):wpAny (model prog w) A (pyNext (.ref it)) Q E s:=by
 obtain⟨oi,Dg,Qs,hdi⟩:=id x;unfold pyNext;refine Vm (wpAny_attempt (Xg (name:=Str.ofString "__next__") x.typeIs SI.slot_next (WM SI.slot_next x.typeIs SI.entry_next ?_ (SI.args_next _))));unfold Builtin.«set_iterator.__next__»;refine Vm (Vt ?_);refine Vm (wpAny_fieldsOf Dg hdi ?_);dsimp only;refine Vm (gm S.at_ S.dat S.tab.fit ?_);rw[Vw (by simp)];refine Vm (wpAny_seqItems hT Pb ?_);dsimp only;have hg:((ps.map λ(j:Nat)=>rawInt j).toArray)[((i:Nat):Int).toNat]?=(ps[i]?).map λ(j:Nat)=>rawInt j:=by simp
 rw[hg];cases hp:ps[i]? with
 |some j=>
  have hj:j<es.size:=hlt j (VP hp);simp only[map_some,rawInt];refine Vm ?_;unfold setNextDrawn;refine Vm (Wz S.at_ S.dat S.tab.fit ?_);dsimp only;rw[Vw (by simp)];have Tp:es[((j:Nat):Int).toNat]?=some es[j]:=by simp[hj]
  rw[Tp];refine Vt ?_;refine Vm (W3 Dg hdi (by simp) ?_);have h2:=V7 (Obj.mapFields (·.setIfInBounds 1 (.int ((i:Int)+1) 0))) Dg (WX (Wi hdi _));refine Vt ⟨_,rfl,Vt (hQ j _ hp (V5 hj) _ ⟨_,h2,?_,?_⟩ (We ..))⟩
  ·rw[XG];exact Qs
  ·rw[Wi hdi];simp
 |none=>simp only[Option.map_none];refine Vm (W3 Dg hdi (by simp) ?_);have h1:=V7 (Obj.mapFields (·.setIfInBounds 0 (rawInt 0))) Dg (WX (Wi hdi _));have d1:=Wi hdi (·.setIfInBounds 0 (rawInt 0));refine Vm (W3 h1 d1 (by simp) ?_);refine Vm ?_;simp only[newExc,newTuple];refine Vm (VY ?_ (by size_fits));refine Vm (m:=firstArgMember _ _) (wpAny_of_eq (a:=Value.none) (by first|rfl|(simp only[firstArgMember];rfl)) ?_);refine VY ?_ (by size_fits);simp only[raiseNew];refine Vm (wpAny_handled ?_);rw[show A.in1.handled=none from hh];refine Vm (Vt (wpAny_throw ?_));refine Vm (wpAny_isInstance (T:="StopIteration") (b:=true) ⟨_,VB _ rfl,rfl⟩ isSubtype_stop ?_);exact Vt (hE hp _ ((((We ..).trans (We ..)).extBut.push _).push _))
end
theorem qh{α:Type}(f:Nat->Nat):∀(n k:Nat) (l:List α) (out:Array α),l.length=n->(pickOrder.go f n k l out).toList.Perm (out.toList++l)
 | 0,k,l,out,h=>by
  have:l=[]:=WN h;subst this;unfold pickOrder.go;simp
 | n+1,k,l,out,h=>by
  unfold pickOrder.go;have hl:0<l.length:=by omega
  have hi:f k%l.length<l.length:=mod_lt _ hl;rw[VN hi];dsimp only;refine(qh f n (k+1) _ _ (by rw[List.length_eraseIdx,Vv hi];omega)).trans ?_;rw[Array.toList_push,List.append_assoc];exact List.Perm.append_left _ (j6 l _ hi)
theorem qi{t:SetTable}{n:Nat}(h:t.fits n=true):t.place.size=n:=by
 simp only[SetTable.fits,and_eq_true,beq_iff_eq]at h;exact h.1
def Pc(t:SetTable):Nat->Nat
 |0=>0
 |i+1=>t.place.getD i 0+1
theorem qj(r:qb t.place):∀i,i<=t.place.size->SetTable.below t.place (Pc t i)=i
 |0,_=>vJ r
 | i+1,h=>by
  have hi:i<t.place.size:=h;have e:Pc t (i+1)=t.place[i]+1:=by simp[Pc,Array.getD,hi]
  rw[e];exact vK r hi
section
variable {prog:Program} {w:World} {A:Around} {E:Value->Shared->Prop} {s:Shared}
theorem dF.keep{ep:Nat}{ks:List Int}(S:dF prog w h a o es ep t ks)(k:∀o,h.get? a=some o->h'.get? a=some o):dF prog w h' a o es ep t ks:={ S with at_:=k o S.at_ }
theorem eu.keep{i:Nat}{n ep:Nat}(x:eu h it f i a n ep)(k:∀o,h.get? it=some o->h'.get? it=some o):eu h' it f i a n ep:=by
 obtain⟨o,ho,r⟩:=x;exact⟨o,k o ho,r⟩
def PL(L:List (Int×Value))(i:Nat)(v:Value):Prop:=∃e,L[i]?=some e/\v=e.2
theorem y9(hh:A.handled=none){ep:Nat}{ks:List Int}(hne:a≠I)(hb:pB w=false)(hp:(!t.plain&&decide (es.size>1))=false) :
  Walks prog w A I [I,a] [I] es.toList.length (PL es.toList) (λi h=>dF prog w h a o es ep t ks/\eu h I (.int (Pc t i) 0) i a es.size ep) where
 sub:=λb hb=>by simp at hb;simp[hb]
 frame:=λ_ _ _ st hk=>⟨st.1.keep λo e=>hk a (by simp) o e,st.2.keep λo e=>hk I (by simp) o e⟩
 item:=λi s Q E hi st hQ=>by
  have hi:i<es.size:=by simpa using hi
  have hz:=qi st.1.tab.fit;have hb':=qj st.1.tab.rs i (by rw[hz];exact WO hi);refine kH (r:=some (es[i].2,t.place.getD i 0+1)) hh st.2 st.1 (λA E Q q=>qf st.1 hb hp ?_) (λv nx e h' x' sb=>?_) (λe=>nomatch e)
  ·rw[hb',V5 hi,V5 (by rw[hz];exact hi)]
   have e1:t.place[i]'(by rw[hz];exact hi)=t.place.getD i 0:=by simp[Array.getD,hz,hi]
   dsimp only;rw[e1];exact q
  ·cases e;exact hQ _ h' s.toks ⟨es[i],by simp[hi],rfl⟩ ⟨st.1.keep λo e=>sb.extBut a o hne e,x'⟩ λb o hb e=>sb.extBut b o (λz=>hb (by simp[z])) e
 done:=λs Q E st hQ=>by
  have hz:=qi st.1.tab.fit;have hb':=qj st.1.tab.rs es.toList.length (by rw[hz];simp);refine kH (r:=none) hh st.2 st.1 (λA E Q q=>qf st.1 hb hp ?_) (λv nx e=>nomatch e) (λ_ h' sb=>hQ h' s.toks λb o hb e=>sb b o (λz=>hb (by simp[z])) e);rw[hb',Array.getElem?_eq_none (by simp)];exact q
 self:=λ_ _ _ _ st hQ=>lM st.2 hQ
theorem zb(hh:A.handled=none){ep:Nat}{ks:List Int}(hne:a≠I)(hb:pB w=true) :
  Walks prog w A I [I,a] [I] (pickOrder (w.params.setOrder a ep) es).toList.length (PL (pickOrder (w.params.setOrder a ep) es).toList) (λi h=>dF prog w h a o es ep t ks/\eu h I (.int (0:Nat) 0) i a es.size ep) where
 sub:=λb hb=>by simp at hb;simp[hb]
 frame:=λ_ _ _ st hk=>⟨st.1.keep λo e=>hk a (by simp) o e,st.2.keep λo e=>hk I (by simp) o e⟩
 item:=λi s Q E hi st hQ=>by
  have hi:i<(pickOrder (w.params.setOrder a ep) es).size:=by simpa using hi
  refine kH (r:=some ((pickOrder (w.params.setOrder a ep) es)[i].2,0)) hh st.2 st.1 (λA E Q q=>qg st.1 hb ?_) (λv nx e h' x' sb=>?_) (λe=>nomatch e)
  ·rw[V5 hi];exact q
  ·cases e;exact hQ _ h' s.toks ⟨(pickOrder (w.params.setOrder a ep) es)[i],by simp[hi],rfl⟩ ⟨st.1.keep λo e=>sb.extBut a o hne e,x'⟩ λb o hb e=>sb.extBut b o (λz=>hb (by simp[z])) e
 done:=λs Q E st hQ=>by
  refine kH (r:=none) hh st.2 st.1 (λA E Q q=>qg st.1 hb ?_) (λv nx e=>nomatch e) (λ_ h' sb=>hQ h' s.toks λb o hb e=>sb b o (λz=>hb (by simp[z])) e);rw[Array.getElem?_eq_none (by simp)];exact q
 self:=λ_ _ _ _ st hQ=>lM st.2 hQ
theorem vN(hh:A.handled=none){ep c:Nat}{ks:List Int}{ps:List Nat}(hne:a≠I)(hnt:td≠I)(hlt:∀j∈ps,j<es.size)(Pb:oT.data=.seq (ps.map λ(j:Nat)=>rawInt j).toArray c) :
  Walks prog w A I [I,a,td] [I] ps.length (PL (ps.map λj=>es.getD j (0,.none))) (λi h=>dF prog w h a o es ep t ks/\eu h I (.ref td) i a es.size ep/\h.get? td=some oT) where
 sub:=λb hb=>by simp at hb;simp[hb]
 frame:=λ_ _ _ st hk=>⟨st.1.keep λo e=>hk a (by simp) o e,st.2.1.keep λo e=>hk I (by simp) o e,hk td (by simp) _ st.2.2⟩
 item:=λi s Q E hi st hQ=>by
  refine nH hh st.2.1 st.1 st.2.2 Pb hlt (λj e hj he h' x' sb=>?_) (λhn=>absurd hn (by rw[VN hi];simp));refine hQ _ h' s.toks ⟨e,?_,rfl⟩ ⟨st.1.keep λo e=>sb.extBut a o hne e,x',sb.extBut td _ hnt st.2.2⟩ λb o hb e=>sb.extBut b o (λz=>hb (by simp[z])) e;rw[VI,hj];have hjl:j<es.size:=(WG.mp he).1;have:=(WG.mp he).2;simp[Array.getD,hjl,this]
 done:=λs Q E st hQ=>nH hh st.2.1 st.1 st.2.2 Pb hlt (λj e hj=>absurd hj (by simp)) (λ_ h' sb=>hQ h' s.toks λb o hb e=>sb b o (λz=>hb (by simp[z])) e)
 self:=λ_ _ _ _ st hQ=>lM st.2.1 hQ
end
section
variable {prog:Program} {w:World} {A:Around} {E:Value->Shared->Prop} {s:Shared}
theorem AV{ep:Nat}{ks:List Int}(S:dF prog w s.heap a o es ep t ks)(h:Q (!pB w&&(!t.plain&&decide (es.size>1))) s):wpAny (model prog w) A (setDrawn a) Q E s:=by
 unfold setDrawn;refine Vm (Wz S.at_ S.dat S.tab.fit ?_);dsimp only;exact Vm (jH (Vt h))
theorem tQ{ep:Nat}{ks:List Int}(S:dF prog w s.heap a o es ep t ks)(h:Q ep s):wpAny (model prog w) A (setEpoch a) Q E s:=wpAny_setEpoch_of S.at_ S.dat S.tab.fit h
theorem AW(hh:A.handled=none){ep:Nat}{ks:List Int}(S:dF prog w s.heap a o es ep t ks)
  (hQ:∀(h':Heap) d (I:Addr) (fp:List Addr) (L:List (Int×Value)) (St:Nat->Heap->Prop),L.Perm es.toList->Walks prog w A I fp [I] L.length (PL L) St->St 0 h'->s.heap.objs.size<=I->I<h'.objs.size->(∀b∈fp,b=a\/s.heap.objs.size<=b)->(∀b o,s.heap.get? b=some o->h'.get? b=some o)->Q (.ref I) { s with heap:=h',drawn:=d }) :
  wpAny (model prog w) A (pyIter (.ref a)) Q E s:=by
 have hT:s.TypeIs (.ref a) "set":=⟨o,S.at_,S.ex.1⟩;have hlt:a<s.heap.objs.size:=Vy S.at_;refine wpAny_pyIter_slot hT PySem.F.slot_set_iter (WM PySem.F.slot_set_iter hT SI.vM ?_ (PySem.F.args_set_iter_1 _));unfold Builtin.«frozenset.__iter__» Builtin.Frozenset.slot0 Builtin.Frozenset.sizeOf;refine Vm (Vm (Vt (Vt ?_)));refine Vm (Vm (gm S.at_ S.dat S.tab.fit (Vt ?_)));refine Vm (AV S ?_);cases hd:(!pB w&&(!t.plain&&decide (es.size>1))) with
 |false=>
  simp only[false_eq_true,↓reduceIte];refine Vm (Vt ?_);refine Vm (tQ S ?_);refine Vm (VY (Vt ⟨_,rfl,"set_iterator",_,⟨_,VB _ rfl,rfl⟩,SI.slot_next.lookup,?_⟩));have e:s={ s with drawn:=s.drawn }:=by cases s;rfl
  have RI:∀b∈[s.heap.objs.size,a],b=a\/s.heap.objs.size<=b:=λb hb=>by
   simp only[mem_cons,not_mem_nil,or_false]at hb
   rcases hb with rfl|rfl
   ·exact .inr (Vu _)
   ·exact .inl rfl
  have sz:s.heap.objs.size<(s.heap.push { cls:=.type "set_iterator",data:=.fields ([rawInt 0,rawInt 0,.ref a,rawInt es.size,rawInt ep]:List Value).toArray }).objs.size:=by rw[Wm];exact V6 _
  cases hb:pB w with
  |true=>exact hQ _ s.drawn _ _ _ _ (qh _ _ 0 es.toList #[] (by simp)) (zb hh (VE hlt) hb) ⟨S.keep λo e=>Vo _ e,⟨_,VB _ rfl,rfl,rfl⟩⟩ (Vu _) sz RI λb o e=>Vo _ e
  |false=>rw[hb]at hd;exact hQ _ s.drawn _ _ _ _ (Xm _) (y9 hh (VE hlt) hb (by simpa using hd)) ⟨S.keep λo e=>Vo _ e,⟨_,VB _ rfl,rfl,rfl⟩⟩ (Vu _) sz RI λb o e=>Vo _ e
 |true=>
  simp only[↓reduceIte];refine Vm (xq es.size (List.range es.size) s _ (by simp) λps d pp=>?_);refine Vm ?_;simp only[newTuple];refine VY ?_ (by show (toArray _).size<=sizeLine;rw[Vx,Vp,pp.length_eq,Xl];exact Xn S.tab.few);have S1:dF prog w (s.heap.push { cls:=.type "tuple",data:=.seq (ps.map λ(i:Nat)=>rawInt i).toArray }) a o es ep t ks:=S.keep λo e=>Vo _ e;refine Vm (tQ S1 ?_);refine Vm (VY (Vt ⟨_,rfl,"set_iterator",_,⟨_,VB _ rfl,rfl⟩,SI.slot_next.lookup,?_⟩));have hpl:∀j∈ps,j<es.size:=λj hj=>by simpa using pp.mem_iff.mp hj
  have perm:(ps.map λj=>es.getD j (0,Value.none)).Perm es.toList:=by
   have e2:(List.range es.size).map (λj=>es.getD j (0,Value.none))=es.toList:=by
    apply Xu
    ·simp
    ·intro i h1 h2
     have hi:i<es.size:=by simpa using h2
     simp[Array.getD,hi]
   rw[<-e2];exact pp.map _
  have z1:(s.heap.push { cls:=.type "tuple",data:=.seq (ps.map λ(i:Nat)=>rawInt i).toArray }).objs.size=s.heap.objs.size+1:=Wm _ _;have W:=vN (prog:=prog) (w:=w) (A:=A) (o:=o) (ep:=ep) (t:=t) (ks:=ks) hh (I:=s.heap.objs.size+1) (a:=a) (td:=s.heap.objs.size) (oT:={ cls:=.type "tuple",data:=.seq (ps.map λ(i:Nat)=>rawInt i).toArray }) (es:=es) (c:=0) (ps:=ps) (VE (Wy hlt)) (VE (V6 _)) hpl rfl;rw[show ps.length=(ps.map λj=>es.getD j (0,Value.none)).length by simp] at W;rw[z1];refine hQ _ d _ _ _ _ perm W ⟨S1.keep λo e=>Vo _ e,⟨{ cls:=.type "set_iterator",data:=.fields ([.ref s.heap.objs.size,rawInt 0,.ref a,rawInt es.size,rawInt ep]:List Value).toArray },?_,rfl,rfl⟩,Vo _ (VB _ rfl)⟩ (Wr _) ?_ ?_ λb o e=>Vo _ (Vo _ e)
  ·rw[<-z1];exact VB _ rfl
  ·rw[Wm,z1];exact V6 _
  ·intro b hb
   simp only[mem_cons,not_mem_nil,or_false]at hb
   rcases hb with rfl|rfl|rfl
   ·exact .inr (Wr _)
   ·exact .inl rfl
   ·exact .inr (Vu _)
end
section
variable {prog:Program} {w:World} {A:Around} {E:Value->Shared->Prop} {s:Shared}
theorem AX(hT:s.TypeIs (.ref r) "set")(h:Q false s):wpAny (model prog w) A (Builtin.List.listLengthHint (.ref r)) Q E s:=by
 unfold Builtin.List.listLengthHint;refine Vm (wpAny_specialOf hT PySem.F.slot_set_len.lookup ?_);generalize hid:("set.__len__":String)=Tq
 wp_delta
 rw[show splitId Tq=some ("set","__len__") from by subst hid;decide +kernel];subst hid;refine Vm (wpAny_isInstance (T:="set") (b:=true) hT sub_set_self ?_);refine wpAny_ite_split (λz=>absurd z (by decide)) (λ_=>?_);refine wpAny_ite_split (λ_=>?_) (λz=>absurd (by decide +kernel) z);exact Vm (wpAny_typeOf hT (Vt h))
theorem tR(hh:A.handled=none){ep:Nat}{ks:List Int}(S:dF prog w s.heap a o es ep t ks)
  (h:∀(h':Heap) (tk:Nat) d (L:List (Int×Value)),(∀b o,s.heap.get? b=some o->h'.get? b=some o)->s.heap.objs.size<h'.objs.size->L.Perm es.toList->R (L.map (·.2)) { s with heap:=h',toks:=tk,drawn:=d }) :
  wpAny (model prog w) A (collect (.ref a)) R E s:=by
 have hlt:a<s.heap.objs.size:=Vy S.at_;unfold collect;refine Vm (wpAny_runValue (WU entry_proto_collect' ?_));rw[WK PySem.F.plain_proto_collect _];show wpAny _ A.in1 (newList [] >>= λl=>again (.builtin "list.__iadd__" ⟨[l,.ref a],[]⟩)) _ _ s;refine Vm (VY ?_);refine Vt ⟨Xw PySem.F.plain_list_iadd _,WU entry_list_iadd' ?_⟩;rw[WK PySem.F.plain_list_iadd _]
 let s1:Shared:={ s with heap:=s.heap.push { cls:=.type "list",data:=.seq ([]:List Value).toArray } }
 have l1:s1.heap.get? s.heap.objs.size=some { cls:=.type "list",data:=.seq #[] }:=VB _ rfl;have S1:dF prog w s1.heap a o es ep t ks:=S.keep λo e=>Vo _ e;have z1:s1.heap.objs.size=s.heap.objs.size+1:=Wm _ _;have hT:s1.TypeIs (.ref a) "set":=⟨o,S1.at_,S1.ex.1⟩;show wpAny _ A.in1 (Builtin.List.listExtendWith (.ref s.heap.objs.size) (.ref a) (.ref s.heap.objs.size)) _ _ s1;unfold Builtin.List.listExtendWith;refine Vm (wpAny_typeOf hT ?_);have n1:Builtin.List.listSameRef (.ref s.heap.objs.size) (.ref a)=false:=by simp[Builtin.List.listSameRef,Nat.ne_of_gt hlt]
 simp only[n1,show (Value.type "set" == Value.type "list")=false by decide,show (Value.type "set" == Value.type "tuple")=false by decide,Bool.or_false,false_eq_true,if_false];refine Vm (AW (A:=A.in1) (by simp[hh]) S1 λh2 d I fp L St perm W st zI Vc hfp k2=>?_);have l2:h2.get? s.heap.objs.size=some { cls:=.type "list",data:=.seq #[] }:=k2 _ _ l1;have nfp:s.heap.objs.size∉fp:=λz=>by
  rcases hfp _ z with e|e
  ·exact absurd e (W4 hlt)
  ·rw[z1]at e;exact absurd e (Nat.not_succ_le_self _)
 have hl:L.length<=sizeLine:=by rw[perm.length_eq,VU];exact Xn S.tab.few
 have key:∀(hp:Heap) (c₁:Nat) (Rr:Result->Shared->Prop),St 0 hp->(∀b o,b≠s.heap.objs.size->h2.get? b=some o->hp.get? b=some o)->hp.get? s.heap.objs.size=some { cls:=.type "list",data:=.seq #[] c₁ } ->
   (∀(s':Shared) (acc:Array Value) (c:Nat),s'.heap.get? s.heap.objs.size=some { cls:=.type "list",dict:=none,data:=.seq acc c,slots:=#[] }->R acc.toList s'->Rr (.ok (.ret (.ref s.heap.objs.size))) s') ->
   codeAny (model prog w) A (.builtin "list.extend.loop" ⟨[.ref s.heap.objs.size,.ref I,.ref s.heap.objs.size],[]⟩) Rr { s1 with heap:=hp,drawn:=d }:=by
  intro hp c₁ Rr hst hk hS hR;refine codeAny_extend_loopS W.toS hl s.heap.objs.size nfp (.ref s.heap.objs.size) L.length 0 _ #[] c₁ rfl (Wx _) hst hS (ItemsOf.nil _) λs' acc c hm hS' hacc=>?_;refine hR s' acc c hS' ?_;have ea:acc.toList=L.map (·.2):=by
   apply Xu
   ·rw[VU,hacc.1,Vp]
   ·intro j h1 h2
    have hj:j<acc.size:=by simpa using h1
    obtain⟨e,he,hv⟩:=hacc.2 j acc[j] (V5 hj);rw[Array.getElem_toList,hv,W6];obtain⟨hj2,e2⟩:=Vn.mp he;rw[e2]
  rw[ea,Moved.eq_with hm];refine h s'.heap s'.toks d L (λb o e=>?_) (Vy hS') perm;have hb:b<s.heap.objs.size:=Vy e;refine hm.heap b o (λz=>?_) (hk b o (VE hb) (k2 b o (Vo _ e)))
  rcases VF.mp z with z|z
  ·exact absurd z (VE hb)
  ·rw[VM]at z;rw[z]at hb;rw[z1]at zI;exact absurd (VA hb (Nat.le_of_succ_le zI)) (Wl _)
 have fin:∀(s':Shared) (acc:Array Value) (c:Nat),s'.heap.get? s.heap.objs.size=some { cls:=.type "list",dict:=none,data:=.seq acc c,slots:=#[] }->R acc.toList s'->wpAny (model prog w) A (load s.heap.objs.size >>= λob=>(match ob.data with|.seq xs _=>pure xs.toList|_=>unsupported "internal:collect")) R E s':=λs' acc c e q=>Vm (wpAny_load e (Vt q));refine Vm (Wv (AX ⟨o,k2 _ _ S1.at_,S1.ex.1⟩ ?_));refine wpAny_ite_split (λ_=>?_) (λ_=>Vt ⟨Xw PySem.F.plain_extend_loop _,key _ 0 _ st (λb o _ e=>e) l2 fin⟩);refine Vm (wpAny_rule ?_);refine Vm ?_;show wpAny _ _ (updateSeq s.heap.objs.size (·.push .none) >>= λ_=>updateSeq s.heap.objs.size (·.pop)) _ _ _;refine Vm (wpAny_updateSeq l2 rfl ?_);have l3:=V7 (Obj.mapSeq (·.push Value.none)) l2 rfl;refine wpAny_updateSeq (hz:=by seq_fits) l3 rfl ?_;have l4:=V7 (Obj.mapSeq (·.pop)) l3 rfl;have oth:∀b o,b≠s.heap.objs.size->h2.get? b=some o->((h2.update s.heap.objs.size (Obj.mapSeq (·.push Value.none))).update s.heap.objs.size (Obj.mapSeq (·.pop))).get? b=some o:=λb o hb e=>(WQ _ _ (Ne.symm hb)).trans ((WQ _ _ (Ne.symm hb)).trans e);exact Vt ⟨Xw PySem.F.plain_extend_loop _,key _ _ _ (W.frame 0 _ _ st λb hb o e=>oth b o (λz=>nfp (z▸hb)) e) oth l4 fin⟩
end
theorem tU:∀(ks ns:List Int),ks.Nodup->(∀k∈ks,k∈ns)->ks.length=ns.length->ks.Perm ns
 | [],ns,_,_,h=>by
  have:ns=[]:=WN h.symm;subst this;exact Xm _
 | k::ks,ns,nd,hs,hl=>by
  have hk:=hs k Vs;have RJ:=Wb.mp nd;have p:=List.perm_cons_erase hk;refine(XC k (tU ks (ns.erase k) RJ.2 (λx hx=>?_) ?_)).trans p.symm
  ·exact(List.mem_erase_of_ne λz=>RJ.1 (by rw[<-z];exact hx)).mpr (hs x (Vq _ hx))
  ·rw[List.length_erase_of_mem hk];simp only[length_cons]at hl;omega
def tW:Value->Int
 |.int i _=>i
 |_=>0
section
variable {prog:Program} {w:World} {A:Around} {E:Value->Shared->Prop} {s:Shared}
theorem nI:∀{L:List (Int×Value)},ElemsOf (intKind prog w) L->IntsAre (L.map (·.2)) (L.map λe=>tW e.2)
 |[],_=>.nil
 | (h,v)::L,el=>by
  obtain⟨⟨k,hk,_⟩,_⟩:=el _ Vs;obtain⟨t,e⟩:=XE (k:=k) (v:=v) hk;subst e;exact .cons k t (nI λx hx=>el x (Vq _ hx))
theorem AY{h:Heap}{a:Addr}{o:Obj}{es:Array (Int×Value)}{ep:Nat}{t:SetTable}{ks:List Int}(S:dF prog w h a o es ep t ks){L:List (Int×Value)}(p:L.Perm es.toList):(L.map λe=>tW e.2).Perm ks:=by
 refine(tU ks _ S.RD (λk hk=>?_) ?_).symm
 ·obtain⟨e,he,q⟩:=(S.mem k).mp hk;obtain⟨t',ev⟩:=XE (k:=k) (v:=e.2) q;exact VZ.mpr ⟨e,p.mem_iff.mpr he,by rw[ev];rfl⟩
 ·have:=S.num;rw[Vp,p.length_eq,VU];exact this.symm
theorem vO(hh:A.handled=none){ep:Nat}{ks:List Int}(S:dF prog w s.heap a o es ep t ks)(h64:ks.length<64)
  (hQ:∀(h':Heap) (tk:Nat) d (D:Addr) (out:List Value) (e:Nat),(∀b o,s.heap.get? b=some o->h'.get? b=some o)->s.heap.objs.size<=D->h'.get? D=some (seqObj "list" out.toArray e)->IntsAre out (sortI ks)->Q (.ref D) { s with heap:=h',toks:=tk,drawn:=d }) :
  wpAny (model prog w) A (call (.builtin "sorted") [.ref a]) Q E s:=by
 refine oX.iY (O:=oX.vD) (tR (A:=A.in1) (by simp[hh]) S λh' tk d L hk hz perm=>?_);have el:ElemsOf (intKind prog w) L:=S.el.perm perm;have hI:=nI el;have pk:=AY S perm;have hl:(L.map (·.2)).length<64:=by rw[Vp];have:=pk.length_eq;rw[Vp]at this;omega
 refine⟨hl,λi=>(L.map λe=>tW e.2).getD i 0,λh2 h6 _=>oX.vE hI h2,λp h'' outs k2 he=>?_⟩;obtain⟨e,he⟩:=he;have lv:(L.map (·.2)).length=(L.map λe=>tW e.2).length:=by rw[Vp,Vp]
 have mem:∀i∈p,i<L.length:=λi hi=>by have:=outs.perm.mem_iff.mp hi;simpa using this
 have pn:(p.map λi=>(L.map λe=>tW e.2).getD i 0).Perm ks:=by have:=outs.perm.map λi=>(L.map λe=>tW e.2).getD i 0;rw[lv,oX.bY]at this;exact this.trans pk
 have up:(p.map λi=>(L.map λe=>tW e.2).getD i 0).Pairwise (· <= ·):=by refine List.Pairwise.imp (R:=oX.vD.kle) (λ{x y:Int} hxy=>?_) outs.up;have hxy:(decide (y<x):Bool)=false:=hxy;exact Int.not_lt.mp (of_decide_eq_false hxy)
 have es:=eq_sortI pn up;refine hQ h'' tk d h'.objs.size _ e (λb o z=>k2 b o (hk b o z)) (WO hz) he ?_;rw[<-es];clear he es up pn outs
 induction p with
 |nil=>exact .nil
 |cons i r ih=>
  have hi:=mem i Vs;have hi2:i<(L.map (·.2)).length:=by simpa using hi
  obtain⟨t',ev⟩:=IntsAre.int_at hI i _ (VN hi2);rw[VC,VC];have e1:(L.map (·.2)).getD i Value.none=.int ((L.map λe=>tW e.2).getD i 0) t':=by rw[<-ev];simp[List.getD,List.getElem?_eq_getElem hi]
  rw[e1];exact .cons _ t' (ih λj hj=>mem j (Vq _ hj))
end
end L2
end
section
namespace L2
open PySem PySem.Spec PyProof.Rows
section
variable {X:Cx}
theorem Inv.draws(I:Inv X pins σ H s)(d:Drawn):Inv X pins σ H { s with drawn:=d }:=⟨I.ok,I.os,I.bare,I.base,I.loc,I.cell,I.free,I.iQ,I.pin,I.hok,I.len⟩
def Tr(K:Frag)(te:TE):TE:=λσ H Q=>te σ H λx H1=>∃p ns,x=.ref p/\fN K H1 p (ns.map V.int)/\ns.length<64/\∀l,H1 l=none->Q (.ref l) (upd H1 l (.lst ((sortI (iE [] ns)).map V.int)))
theorem tX:∀(ns ks:List Int),(iE ks ns).length<=ks.length+ns.length
 |[],ks=>by simp[iE]
 | n::ns,ks=>by
  rw[iE,VQ];have:=tX ns (pC ks n);have:=tN ks n;omega
theorem D7{p1 p2 pos1 pos2:Pos}(hh:X.A.handled=none)(hg:Gl X "sorted")(hm:X.mg "sorted" = none)(Tt:Gl X "set")(hm2:X.mg "set" = none)(hv:bootBuiltins "sorted" = some (.builtin "sorted"))(hv2:bootBuiltins "set" = some (.type "set"))(he:PE X e te)
  (hs:starEach [e] X.env=[(false,eval e X.env)]):PE X (.Call (.Name "sorted" p1) [.Call (.Name "set" p2) [e] [] pos2] [] pos1) (Tr X.K te):=by
 intro pins s σ H Q I h;refine Wh (iV I hg hm hv ?_ (by decide) (by decide));refine PyProof.Rows.callWith_builtin1 ?_ rfl rfl;show wpAny _ _ (spliced [(false,eval (.Call (.Name "set" p2) [e] [] pos2) X.env)]) _ _ s;refine XA ?_;refine Wh (iV I Tt hm2 hv2 ?_ (by decide) (by decide));refine Wk ?_ hs rfl;show wpAny _ _ (spliced (backTo pos2 (starEach [e] X.env))) _ _ s;rw[hs];show wpAny _ _ (spliced [(false,eval e X.env)]) _ _ s;refine XA (cE (he pins s σ H _ I h) λu s1 ⟨x,H1,I1,r1,p,ns,ex,hq,h64,q⟩=>XF ?_);subst ex;cases r1;obtain⟨its,rv,pl,hz⟩:=I1.list hq;have hi:=intsAre_of rv;have hl:=hi.length;refine tO hh pl.isList (by simpa using hi) (by show its.toArray.size+1<4096;rw[Vx,hl];omega) λh2 tk S k2=>?_;obtain⟨o,es,ep,t,S⟩:=S;refine XF ?_;have hk:=tX ns [];have Qt:(iE [] ns).length<64:=by simp at hk;omega
 refine vO (s:={ s1 with heap:=h2,toks:=tk }) hh S Qt λh3 Qu d D out e k3 zD eD hout=>?_;have hD:s1.heap.objs.size<=D:=VX (WO (Vy S.at_)) zD;have hn:H1 D=none:=I1.hok.fresh hD;refine⟨.ref D,_,(I1.draws d).laid (t':=Qu) (λb o z=>k3 b o (k2 b o (Vy z) z)) hD (show cg X.prog X.w _ _ _ (.lst ((sortI (iE [] ns)).map V.int)) from⟨?_,out,e,jE hout,eD⟩),rfl,q _ hn⟩;rw[Vp,(Xf _).length_eq,Wj];omega
end
end L2
end
section
namespace L2
open PySem PySem.Spec PyProof.Rows PySem.W
end L2
end
section
namespace L2
open PySem PySem.Spec PyProof.Rows
end L2
end
section
namespace L2
open PySem PySem.Spec PyProof.Rows PySem.W
end L2
end
section
namespace L2
open PySem PySem.Spec PyProof.Rows
section
variable {X:Cx}
theorem Ij:jC X (compareOp .Is) (λx y H Q=>∃b c,x=.bl b/\y=.bl c/\Q (.bl (b==c)) H):=by
 intro pins s σ H x y v u Q I rx ry h;obtain⟨b,c,rfl,rfl,q⟩:=h;cases rx;cases ry;refine wpAny_is_plain rfl (lE I q ?_);cases b<;>cases c<;>rfl
theorem D8:jC X (compareOp .IsNot) (λx y H Q=>∃b c,x=.bl b/\y=.bl c/\Q (.bl (!(b==c))) H):=by
 intro pins s σ H x y v u Q I rx ry h;obtain⟨b,c,rfl,rfl,q⟩:=h;cases rx;cases ry;refine wpAny_isNot_plain rfl (lE I q ?_);cases b<;>cases c<;>rfl
end
end L2
end
section
namespace L2
open PySem PySem.Spec PyProof.Rows PySem.W
section
variable {X:Cx}
structure Mx (K:Frag) (C:Addr) (m:Str) (f:Addr):Prop where
 ga:specialIn K (.ref C) "__getattribute__" = some (some (.builtin "type.__getattribute__"))
 rd:PySem.W.readsIn K C (.type "type")=true
 at_:PySem.W.findCls K (.ref C) (.type "type") m=some (.val (.ref f))
 kp:keepIn K (.ref f)=true
structure RK (K:Frag) (C:Addr):Prop where
 ha:findIn K (.ref C) "__class__" = some (some (.builtin "object.__class__"))
 hn:specialIn K (.builtin "object.__class__") "__get__" = some (some (.builtin "getset_descriptor.__get__"))
 htk:PySem.W.takesIn K (.builtin "object.__class__")=some true
 hm:PySem.W.mroIn K C (.type "object")=some true
end
end L2
end
section
namespace L2
open PySem PySem.Spec PyProof.Rows
section
variable {X:Cx}
def RM(k:Int):Value->Bool
 |.int a _=>a==k
 |_=>false
def D9:V->List V->Hp->VK->Prop:=λx vs H Q=>∃(l:Addr) (ks:List Int) (i:Int),x=.ref l/\vs=[.int i]/\H l=some (.lst (ks.map V.int))/\i∈ks/\Q .non (upd H l (.lst ((ks.map V.int).eraseIdx (ks.idxOf i))))
theorem zc:Lo X "list.remove" D9:=by
 intro pins s σ H x vs v us Q I rx rv h;obtain⟨l,ks,i,rfl,rfl,hH,hi,q⟩:=h;cases rx;obtain⟨u,rfl,ru⟩:=rv.one;obtain⟨t,rfl⟩:=ru;obtain⟨z,its,n,r,hl,e⟩:=I.Aw hH;have hk:ks.length=its.length:=by rw[<-hl,Vp]
 have at':∀m (hm:m<ks.length),∃t,its[m]?=some (.int ks[m] t):=λm hm=>by
  obtain⟨w,hw,t,rfl⟩:=r.get (i:=m) (x:=V.int ks[m]) (by rw[VI,VN hm];rfl);exact⟨t,hw⟩
 have hj:ks.idxOf i<ks.length:=List.idxOf_lt_length_of_mem hi;have sz:its.toArray.size=ks.length:=by rw[Vx,hk]
 have val:∀m (hm:m<its.toArray.size),RM i its.toArray[m]=(ks[m]'(sz▸hm)==i):=λm hm=>by
  obtain⟨t,q⟩:=at' m (sz▸hm);have q2:its.toArray[m]=.int (ks[m]'(sz▸hm)) t:=by have:=V5 hm;rw[List.getElem?_toArray,q]at this;exact(VJ this).symm
  rw[q2];rfl
 refine XI F.slot_list_remove ⟨_,e,rfl⟩ F.entry_list_remove (F.args_list_remove_2 _ _)
  (MeetsSeq.list_remove l its.toArray n (.int i t) (RM i) (λy hy=>?_) (ks.idxOf i) (by rw[sz];exact hj) ?_ ?_ (by rw[Vx];omega)) ⟨e,?_⟩
 ·obtain⟨m,hm,rfl⟩:=W2.mp (List.mem_toArray.mp hy);obtain⟨t',q⟩:=at' m (by omega);rw[VN hm]at q;rw[VJ q];exact MeetsSeq.EqGives.int _ _ _ _
 ·rw[val];exact beq_iff_eq.mpr (List.getElem_idxOf hj)
 ·intro m hm h2
  rw[val];exact Wd.mpr λe=>by
   have:=List.not_of_lt_findIdx (p:=(· == i)) (xs:=ks) (i:=m) h2;exact nomatch this.symm.trans (beq_iff_eq.mpr e)
 refine⟨.non,_,I.DN (its':=its.eraseIdx (ks.idxOf i)) hH e ?_ (r.eraseIdx _) ?_,rfl,q⟩
 ·show its.toArray.eraseIdxIfInBounds _=(its.eraseIdx _).toArray;rw[List.eraseIdxIfInBounds_toArray]
 ·have:=pU (ks.map V.int) (ks.idxOf i);omega
end
section
variable {X:Cx}
def isAscii(x:Str):Bool:=x.cps.all (· < 128)
def eB(x y:Str):List Str:=Builtin.Str.partsBetween x (Builtin.Str.occurrences x y 0 x.length (x.length+1)) y.length
def iF(x y:Str):Bool:=decide (y.length≠0)&&decide (y.length<=x.length)&&isAscii x&&isAscii y && !(Builtin.Str.occurrences x y 0 x.length (x.length+1)).isEmpty&&decide (x.length<=100000)&&decide ((eB x y).length<=100000)
def Il:V->List V->Hp->VK->Prop:=λx vs H Q=>∃(z y:Str),x=.str z/\vs=[.str y]/\iF z y=true/\∀l,H l=none->Q (.ref l) (upd H l (.lst ((eB z y).map V.str)))
theorem nJ(h:isAscii x=true):Builtin.Str.strKind x=1:=by
 unfold Builtin.Str.strKind;rw[Vv];unfold isAscii at h;rw[Array.all_eq_true]at h |-;exact λi hi=>decide_eq_true (XJ (VH (h i hi)) (by decide))
theorem qk:∀(ys:List Str) (t:Nat),Vals (ys.map V.str) (strsFrom t ys)
 |[],_=>.nil
 |y::ys,t=>.cons ⟨t,rfl⟩ (qk ys (t+1))
theorem AZ:Lo X "str.split" Il:=by
 intro pins s σ H x vs v us Q I rx rv h;obtain⟨z,y,rfl,rfl,hs,q⟩:=h;obtain⟨t,rfl⟩:=rx;obtain⟨u,rfl,ru⟩:=rv.one;obtain⟨t2,rfl⟩:=ru;unfold iF at hs;simp only[and_eq_true,decide_eq_true_eq,not_eq_true']at hs;obtain⟨⟨⟨⟨⟨⟨h1,h2⟩,h3⟩,h4⟩,h5⟩,h6⟩,h7⟩:=hs;have b1:z.length<=sizeLine:=by rw[Wj];omega
 have b2:(eB z y).length<=sizeLine:=by rw[Wj];omega
 refine XI F.slot_str_split (typeIs_str s z t) F.entry_str_split (F.args_str_split_2 _ _) (meets_str_split_sep z y t t2 ?_ ?_ h5 b1 b2) ?_
 ·rw[nJ h3,nJ h4];simp;omega
 ·exact Wd.mpr h1
 have hn:H s.heap.objs.size=none:=I.hok.fresh (Vu _);refine⟨.ref _,_,I.laid (t':=s.toks+(eB z y).length) (λb o e=>Vo _ e) (Vu _) (show cg X.prog X.w _ _ _ (.lst ((eB z y).map V.str)) from⟨by rw[Vp];exact b2,_,0,qk _ s.toks,VB _ rfl⟩),rfl,q _ hn⟩
theorem zd:bU X (.type "int") (λxs H Q=>∃(z:Str) (n:Int),xs=[.str z]/\intText? z=some n/\z.length<=640/\Q (.int n) H):=by
 intro pins s σ H xs us Q I r h;obtain⟨z,n,rfl,h1,h2,q⟩:=h;obtain⟨u,rfl,ru⟩:=vals1 r;obtain⟨t,rfl⟩:=ru;exact PySem.W.KIN.call_text h1 h2 ⟨.int n,H,I.tok _,⟨_,rfl⟩,q⟩
def Qv(x:Str):It:=⟨λi _=>i<x.cps.size,λi H v H'=>H'=H/\∃c,x.cps[i]?=some c/\v=.str ⟨[c].toArray⟩,λi _=>x.cps.size<=i⟩
theorem ze{P:Program}{w:World}{K:Frag}{tg:Expr}(x:Str)(t:Tok)(it:Addr):Turn P w K tg (Qv x) [it] it (λi h=>h.IsStrIter it "str_ascii_iterator" x t i) where
 mem:=by simp
 obj:=λi h st b hb=>by
  have e:b=it:=by simpa using hb
  subst e;obtain⟨o,e,c,d⟩:=st;exact⟨o,e,λv z=>by rw[d]at z;cases z⟩
 keep:=λi h h' st k=>by
  obtain⟨o,e,r⟩:=st;exact⟨o,k it (by simp) o e,r⟩
 item:=by intro X hP hw hK hc i pins s σ H E I hf st hg;subst hP hw hK;obtain⟨f0,f1,f2,f3,f4,f5⟩:=hf it (by simp);have hg:i<x.cps.size:=hg;refine wpAny_pyNext_ascii_item st (c:=x.cps[i]) (by simp[hg]) λh' st' sb=>?_;have I1:Inv X pins σ H { s with heap:=h',toks:=s.toks+1 }:=I.turned (t':=s.toks+1) (λb o hb e=>(sb.2 b hb).trans e) f0 f1 f3 f4 f5;obtain⟨o,e,c,d⟩:=id st';exact⟨_,rfl,wU (s:={ s with heap:=h',toks:=s.toks+1 }) e c d (by decide) ⟨.str ⟨[x.cps[i]].toArray⟩,H,I1,⟨_,rfl⟩,⟨rfl,x.cps[i],by simp[hg],rfl⟩,st',λb hb=>(hf b hb).1⟩⟩
 done:=by intro X hP hw hK hc i pins s σ H E I hf st hg;subst hP hw hK;obtain⟨f0,f1,f2,f3,f4,f5⟩:=hf it (by simp);have hg:x.cps.size<=i:=hg;exact wpAny_pyNext_ascii_end (I.ok.hd hc) st (by simp[hg]) λh' eb=>⟨rfl,I.turned (t':=s.toks) (λb o hb e=>eb b o hb e) f0 f1 f3 f4 f5⟩
 self:=λ_ _ _ _ _ st h=>wpAny_pyIter_striter_ascii st h
def My(tl:TE):TI:=λσ H R=>tl σ H λx H1=>∃z,x=.str z/\isAscii z=true/\R (Qv z) H1
theorem Ea(hl:PE X l tl):PI X tg l (My tl):=by
 intro pins s σ H R I h;refine cE (hl pins s σ H _ I h) λv s1 aK=>?_;obtain⟨x,H1,I1,r1,q1⟩:=aK;obtain⟨z,rfl,ha,q⟩:=q1;obtain⟨t,rfl⟩:=r1;refine wpAny_pyIter_ascii ha ?_;refine⟨s1.heap.objs.size,[s1.heap.objs.size],_,_,H1,rfl,I1.kept (t':=s1.toks) λb o e=>Vo _ e,ze z t _,⟨_,VB _ rfl,rfl,rfl⟩,λb hb=>?_,q⟩;have e:b=s1.heap.objs.size:=by simpa using hb
 subst e;exact I1.Ag (Vu _) (I1.hok.fresh (Vu _))
end
end L2
end
section
namespace Hv
open PySem L2 PyProof.Rows
inductive Val
 |non|bl (b:Bool)|int (i:Int)|str (x:Str)|tup (vs:List Val)|rl (vs:List Val)|dc (ks:List Key) (vs:List Val)|ob (c:Nat) (xs:List Str) (vs:List Val)|ref (i:Nat)
inductive Ob
 |lst (xs:List Val)|dct (kvs:List (Key×Val))|ins (c:Nat) (fs:List (Str×Val))
abbrev Hs:=List Ob
inductive Out (α:Type)
 |ok (a:α) (h:Hs)|exc (c:Nat) (vs:List Val) (h:Hs)|no
abbrev M(α:Type):=Hs->Out α
def ret{α:Type}(a:α):M α:=λh=>.ok a h
def bnd{α β:Type}(m:M α)(f:α -> M β):M β:=λh=>match m h with
 |.ok a h'=>f a h'
 |.exc c vs h'=>.exc c vs h'
 |.no=>.no
def aN{α:Type}(o:Option α):M α:=λh=>match o with
 |some a=>.ok a h
 |none=>.no
def ask{α:Type}(f:Hs->Option α):M α:=λh=>aN (f h) h
def new(o:Ob):M Val:=λh=>.ok (.ref h.length) (h++[o])
def put(i:Nat)(o:Ob):M Unit:=λh=>.ok () (h.set i o)
def bK{α β:Type}(f:α -> Option β):List α -> Option (List β)
 |[]=>some []
 |a::r=>(f a).bind λb=>(bK f r).bind λbs=>some (b::bs)
inductive Gh|add|sub|mul|fdiv|mod|pow
 deriving DecidableEq
inductive Im|eq|ne|lt|le|gt|ge|isn|ntn|Eb|nin
 deriving DecidableEq
inductive Bl|len|min|max|sorted|list|tuple|str|int|all|any|isin (T:String)
 deriving DecidableEq
inductive Me|join|append|extend|remove|pop
 deriving DecidableEq
inductive vP|one (i:Nat)|tup (is:List Nat)
 deriving DecidableEq
inductive Ik|seq|range|enum|zip
 deriving DecidableEq
mutual
inductive IE
 |var (i:Nat)|cst (d:Val)|con (x:Str) (d:Val)|no
 |bin (o:Gh) (a b:IE)|neg (a:IE)|cmp (o:Im) (a b:IE)|chn (o p:Im) (a b c:IE)
 |and (a b:IE)|or (a b:IE)|not (a:IE)|ite (c a b:IE)
 |tup (es:j7)|lst (es:j7)|idx (a b:IE)|slc (a lo hi:IE)
 |call (j:Nat) (es:j7)|blt (b:Bl) (es:j7)|met (m:Me) (a:IE) (es:j7)
 |comp (N:List Str) (js:List (Option Nat)) (pat:vP) (k:Ik) (it:j7) (c elt:IE)
 |dct0
 |sset (a:IE)
 |dget (d k x:IE)
 |dct1 (k v:IE)
 |lkeys (d:IE)
 |sdef (d k x:IE)
 |svals (d:IE)
 |skeys (d:IE)
 |fld (n:Nat) (a:IE) (x:Str)
 |mth (a:IE) (m:Str) (js:List (Nat×Nat)) (es:j7)
 |rev (a s:IE)
 |dflt (N:List Str) (js:List (Option Nat)) (p q:Nat) (d w:IE)
 |isc (a:IE) (x:Str) (bs:List Bool)
inductive j7|nil|cons (e:IE) (es:j7)
end
abbrev Env:=List (Option Val)
mutual
inductive IS
 |expr (e:IE)|asg (p:vP) (e:IE)|aug (i:Nat) (o:Gh) (e:IE)|iZ (o i v:IE)
 |iff (c:IE) (a b:eE)|for (p:vP) (k:Ik) (it:j7) (body:eE)|whl (n:Nat) (c:IE) (body:eE)
 |ret (e:IE)|Ba|brk|cnt|pass|never|setF (n:Nat) (a:IE) (x:Str) (v:IE)
inductive eE|nil|cons (s:IS) (r:eE)
end
def ay(h:Hs):Val->Option (List Val)
 |.rl vs=>some vs
 | .ref i=>match h[i]? with
  |some (.lst xs)=>some xs
  |_=>none
 |_=>none
def cB(h:Hs):Val->Option (List Val)
 |.tup vs=>some vs
 |v=>ay h v
def ql(h:Hs):Val->Option (List Val)
 |.tup vs=>some vs
 |.ref i=>ay h (.ref i)
 |_=>none
def aQ:List Val->Option (List Int):=bK λv=>match v with
 |.int i=>some i
 |_=>none
def strs?:List Val->Option (List Str):=bK λv=>match v with
 |.str i=>some i
 |_=>none
def cA:List Val->Option (List Bool):=bK λv=>match v with
 |.bl i=>some i
 |_=>none
def jY:List Val->Option (List (List Int)):=bK λv=>match v with
 |.tup vs=>if vs.isEmpty then none else aQ vs
 |_=>none
def toD:Nat->Hs->Val->Option PyData
 |0,_,_=>none
 |_+1,_,.non=>some .none
 |_+1,_,.bl b=>some (.bool b)
 |_+1,_,.int i=>some (.int i)
 |_+1,_,.str x=>if PyData.strOk x=true then some (.str x) else none
 |n+1,h,.tup vs=>(bK (toD n h) vs).bind λds=>some (.tuple ds)
 |n+1,h,.rl vs=>(bK (toD n h) vs).bind λds=>some (.list ds)
 |_+1,_,.dc _ _=>none
 |_+1,_,.ob _ _ _=>none
 |n+1,h,.ref i=>(ay h (.ref i)).bind λxs=>(bK (toD n h) xs).bind λds=>some (.list ds)
def xr(h:Hs)(v w:Val):Option Bool:=(toD 16 h v).bind λd=>(toD 16 h w).bind λe=>some (PyData.eqv d e)
def rJ(x:List Int):List (List Int)->List (List Int)
 |[]=>[x]
 |y::r=>if HT.lexLt y x=true then y::rJ x r else x::y::r
def kI:List (List Int)->List (List Int)
 |[]=>[]
 |x::r=>rJ x (kI r)
def gn(ks:List Int):Val:=.tup (ks.map .int)
def fR(xs:List Val):Option (List Val) :=
 if xs.length<64 then
  match aQ xs with
  |some ns=>some ((sortI ns).map .int)
  |none=>(jY xs).bind λm5=>some ((kI m5).map gn)
 else none
def rK:List Int->Option Val
 |[]=>none
 |a::r=>some (.int (r.foldl min a))
def rL:List Int->Option Val
 |[]=>none
 |a::r=>some (.int (r.foldl max a))
def fm(i j:Int):Bool:=(decide (-(2 ^ 64)<i)&&decide (i<2 ^ 64))||(decide (-(2 ^ 64)<j)&&decide (j<2 ^ 64))
def aB{α:Type}(c:Bool)(m:M α):M α:=λh=>if c=true then m h else .no
def iT(b:Int):Bool:=decide (0<b/\b<1606938044258990275541962092341162602522202993782792835301376)
def Lp:Gh->Val->Val->M Val
 |.add,.int a,.int b=>ret (.int (a+b))
 |.add,.str a,.str b=>aB (decide (a.length+b.length<=sizeLine)) (ret (.str (a++b)))
 |.add,.tup a,.tup b=>aB (!a.isEmpty&&decide (a.length+b.length<=sizeLine)) (ret (.tup (a++b)))
 |.add,v,w=>bnd (ask λh=>ay h v) λa=>bnd (ask λh=>ay h w) λb=>aB (decide (a.length+b.length<=sizeLine)) (new (.lst (a++b)))
 |.sub,.int a,.int b=>ret (.int (a-b))
 |.mul,.int a,.int b=>aB (fm a b) (ret (.int (a*b)))
 |.fdiv,.int a,.int b=>aB (iT b) (ret (.int (a/b)))
 |.mod,.int a,.int b=>aB (decide (0<b)) (ret (.int (a%b)))
 |.pow,.int a,.int b=>aB (decide (0<=b/\b<=1000000/\a.natAbs<2 ^ 64)) (ret (.int (a ^ b.toNat)))
 |_,_,_=>aN none
def nK:Val->Bool
 |.non=>true
 |_=>false
def dG(kvs:List (Key×Val))(k:Key):Option Val:=(kvs.find? λkv=>decide (kv.1=k)).map (·.2)
def j8(kvs:List (Key×Val))(k:Key)(v:Val):List (Key×Val) :=
 if (kvs.any λkv=>decide (kv.1=k))=true then kvs.map (λkv=>if kv.1=k then (kv.1,v) else kv) else kvs++[(k,v)]
def keyOf:Val->Option Key
 |.int i=>some (.inl i)
 |.str x=>some (.inr x)
 |_=>none
def Io(f d:PyData):Option Bool:=match f with
 |.list ds=>some (ds.any λy=>PyData.eqv y d)
 |.tuple ds=>some (ds.any λy=>PyData.eqv y d)
 |_=>none
def memD(h:Hs)(v w:Val):Option Bool:=(toD 16 h w).bind λf=>(toD 16 h v).bind λd=>Io f d
def Ec(h:Hs)(v:Val)(i:Nat):Ob->Option Bool
 |.dct kvs=>(keyOf v).bind λk=>some (dG kvs k).isSome
 |_=>memD h v (.ref i)
def rM(h:Hs):Val->Val->Option Bool
 |.str a,.str b=>some (!(Builtin.Str.occurrences b a 0 b.length 1).isEmpty)
 |v,.ref i=>(h[i]?).bind (Ec h v i)
 |v,.dc ks _=>(keyOf v).bind λk=>some (ks.any λj=>decide (j=k))
 |v,w=>memD h v w
def Gi(v w:Val):Option Bool:=match w with
 |.non=>some (nK v)
 | .bl b=>(match v with
  |.bl a=>some (a==b)
  |_=>none)
 |_=>none
def cop(h:Hs):Im->Val->Val->Option Bool
 |.eq,v,w=>xr h v w
 |.ne,v,w=>(xr h v w).map (!·)
 |.lt,.int a,.int b=>some (decide (a<b))
 |.le,.int a,.int b=>some (decide (a<=b))
 |.gt,.int a,.int b=>some (decide (b<a))
 |.ge,.int a,.int b=>some (decide (b<=a))
 |.isn,v,w=>Gi v w
 |.ntn,v,w=>(Gi v w).map (!·)
 |.Eb,v,w=>rM h v w
 |.nin,v,w=>(rM h v w).map (!·)
 |_,_,_=>none
def cP(h:Hs):Val->Option Bool
 |.non=>some false
 |.bl b=>some b
 |.int i=>some (i != 0)
 |.str x=>if x.length<=sizeLine then some ((x.length:Int) != 0) else none
 |.tup vs=>some (!vs.isEmpty)
 |.rl vs=>some (!vs.isEmpty)
 |.dc ks _=>some (!ks.isEmpty)
 |.ob _ _ _=>none
 | .ref i=>match h[i]? with
  |some (.lst xs)=>some (!xs.isEmpty)
  |some (.dct xs)=>some (!xs.isEmpty)
  |_=>none
def gF(h:Hs):Val->Val->Option Val
 |.str x,.int i=>if x.length<=sizeLine then (gC x.cps.toList i).map λc=>.str ⟨[c].toArray⟩ else none
 |.tup vs,.int i=>gC vs i
 |.rl vs,.int i=>gC vs i
 | .ref j,.int i=>match h[j]? with
  |some (.dct kvs)=>dG kvs (.inl i)
  |_=>(ay h (.ref j)).bind λxs=>gC xs i
 | .ref j,.str x=>match h[j]? with
  |some (.dct kvs)=>dG kvs (.inr x)
  |_=>none
 |.dc ks vs,.int i=>dG (ks.zip vs) (.inl i)
 |.dc ks vs,.str x=>dG (ks.zip vs) (.inr x)
 |_,_=>none
def bO{α:Type}(ds:List α)(lo hi:Option Int):List α:=(ds.drop (HT.dw ds.length 0 lo)).take (HT.dw ds.length ds.length hi-HT.dw ds.length 0 lo)
def pD(v:Val)(lo hi:Option Int):M Val:=match v with
 |.tup vs=>aB (!(decide (HT.dw vs.length 0 lo=0)&&decide (HT.dw vs.length vs.length hi=vs.length))) (ret (.tup (bO vs lo hi)))
 |v=>bnd (ask λh=>ay h v) λxs=>new (.lst (bO xs lo hi))
def tY(h:Hs):Val->Option String
 |.non=>some "NoneType" | .bl _=>some "bool" | .int _=>some "int" | .str _=>some "str" | .tup _=>some "tuple" | .rl _=>some "list" | .dc _ _=>some "dict" | .ob _ _ _=>none
 | .ref i=>match h[i]? with
  |some (.lst _)=>some "list"
  |some (.dct _)=>some "dict"
  |_=>none
def tZ(T:String)(t:String):Option Bool :=
 if ["list","tuple","str","bool","int","dict"].contains T=true then some (decide (T=t\/(T = "int" /\ t = "bool"))) else none
def jO(h:Hs):Val->Option Nat
 |.str x=>if x.length<=sizeLine then some x.length else none
 |.tup vs=>some vs.length
 |.rl vs=>some vs.length
 |.dc ks _=>some ks.length
 | .ref i=>match h[i]? with
  |some (.lst xs)=>some xs.length
  |some (.dct xs)=>some xs.length
  |_=>none
 |_=>none
def blt:Bl->List Val->M Val
 |.len,[v]=>bnd (ask λh=>jO h v) λn=>ret (.int n)
 |.min,[.int a,.int b]=>ret (.int (if b<a then b else a))
 |.max,[.int a,.int b]=>ret (.int (if b>a then b else a))
 |.min,[v]=>bnd (ask λh=>cB h v) λxs=>aN ((aQ xs).bind rK)
 |.max,[v]=>bnd (ask λh=>cB h v) λxs=>aN ((aQ xs).bind rL)
 |.sorted,[v]=>bnd (ask λh=>ay h v) λxs=>bnd (aN (fR xs)) λys=>new (.lst ys)
 |.list,[v]=>bnd (ask λh=>cB h v) λxs=>new (.lst xs)
 |.tuple,[v]=>bnd (ask λh=>cB h v) λxs=>ret (.tup xs)
 |.str,[.int i]=>aB (decide (i.natAbs.log2<1920)) (ret (.str (toString i)))
 |.int,[.bl b]=>ret (.int (if b=true then 1 else 0))
 |.int,[.int i]=>ret (.int i)
 |.int,[.str x]=>bnd (aN (intText? x)) λn=>aB (decide (x.length<=640)) (ret (.int n))
 |.all,[v]=>bnd (ask λh=>ay h v) λxs=>bnd (aN (cA xs)) λbs=>ret (.bl (bs.all id))
 |.any,[v]=>bnd (ask λh=>ay h v) λxs=>bnd (aN (cA xs)) λbs=>ret (.bl (bs.any id))
 |.isin T,[v]=>bnd (ask λh=>tY h v) λt=>bnd (aN (tZ T t)) λb=>ret (.bl b)
 |_,_=>aN none
def met:Me->Val->List Val->M Val
 |.join,.str z,[v]=>bnd (ask λh=>ay h v) λxs=>bnd (aN (strs? xs)) λys=>aB (decide ((ys.map (·.length)).sum+ys.length*z.length<=16777216)) (ret (.str (Txt.join z ys)))
 |.append,.ref i,[v]=>bnd (ask λh=>match h[i]? with|some (.lst xs)=>some xs|_=>none) λxs=>aB (decide (xs.length<sizeLine)) (bnd (put i (.lst (xs++[v]))) λ_=>ret .non)
 |.extend,.ref i,[v]=>bnd (ask λh=>match h[i]? with|some (.lst xs)=>some xs|_=>none) λxs=>bnd (ask λh=>ql h v) λys=>aB (decide (xs.length+ys.length<=sizeLine)) (bnd (put i (.lst (xs++ys))) λ_=>ret .non)
 |.remove,.ref i,[.int k]=>bnd (ask λh=>match h[i]? with|some (.lst xs)=>some xs|_=>none) λxs=>bnd (aN (aQ xs)) λks=>aB (decide (k∈ks)) (bnd (put i (.lst (xs.eraseIdx (ks.idxOf k)))) λ_=>ret .non)
 |.pop,.str z,[.str y]=>aB (L2.iF z y) (new (.lst ((L2.eB z y).map .str)))
 |_,_,_=>aN none
def recv(h:Hs):Me->Val->Option Unit
 |.join,.str _=>some ()
 |.append,.ref i=>match h[i]? with|some (.lst _)=>some ()|_=>none
 |.extend,.ref i=>match h[i]? with|some (.lst _)=>some ()|_=>none
 |.remove,.ref i=>match h[i]? with|some (.lst _)=>some ()|_=>none
 |.pop,.str _=>some ()
 |_,_=>none
inductive Src
 |fix (xs:List Val)|live (i:Nat)|enum (i:Nat)|zip (v w:Val)
def bQ:Nat->List Val->List Val
 |_,[]=>[]
 |i,d::r=>.tup [.int i,d]::bQ (i+1) r
def Mz:List Val->List Val->List Val
 |a::r,b::t=>.tup [a,b]::Mz r t
 |_,_=>[]
def bT(lo:Int)(n:Nat):List Val:=(List.range n).map λ(i:Nat)=>Val.int (lo+(i:Int))
def inR(i:Int):Bool:=decide (-(2 ^ 62)<=i)&&decide (i<2 ^ 62)
def signs(x:Str):List Val:=x.cps.toList.map λc=>.str ⟨[c].toArray⟩
def srcOf:Ik->List Val->Option Src
 |.seq,[.str x]=>if L2.isAscii x=true then some (.fix (signs x)) else none
 |.seq,[.tup vs]=>some (.fix vs)
 |.seq,[.rl vs]=>some (.fix vs)
 |.seq,[.ref i]=>some (.live i)
 |.range,[.int n]=>if inR n then some (.fix (bT 0 n.toNat)) else none
 |.range,[.int a,.int b]=>if inR a&&inR b then some (.fix (bT a (b-a).toNat)) else none
 |.enum,[.rl vs]=>some (.fix (bQ 0 vs))
 |.enum,[.ref i]=>some (.enum i)
 |.zip,[v,w]=>some (.zip v w)
 |_,_=>none
def Src.items(h:Hs):Src->Option (List Val)
 |.fix xs=>some xs
 |.live i=>ay h (.ref i)
 |.enum i=>(ay h (.ref i)).map (bQ 0)
 |.zip v w=>(ay h v).bind λxs=>(ay h w).map λys=>Mz xs ys
def bindAll:List Nat->List Val->Env->Option Env
 |[],[],env=>some env
 |i::is,d::ds,env=>bindAll is ds (env.set i (some d))
 |_,_,_=>none
def fq:vP->Val->Env->Option Env
 |.one i,d,env=>some (env.set i (some d))
 |.tup is,.tup ds,env=>bindAll is ds env
 |_,_,_=>none
def ja(js:List (Option Nat))(env:Env):Env:=js.map λo=>match o with
 |none=>none
 | some j=>match env[j]? with
  |some (some d)=>some d
  |_=>none
def eT(src:Src)(f:Val->M (Option Val)):Nat->Nat->List Val->M (List Val)
 |0,i,acc=>bnd (ask λh=>src.items h) λxs=>aB (decide (xs.length<=i)) (ret acc)
 | n+1,i,acc=>bnd (ask λh=>src.items h) λxs=>match xs[i]? with
  |none=>ret acc
  |some x=>bnd (f x) λo=>eT src f n (i+1) (match o with|some e=>acc++[e]|none=>acc)
def cQ:IE->Bool
 |.no=>true
 |_=>false
def fS:Val->Option Int
 |.int i=>some i
 |_=>none
def nL:Val->M Bool
 |.bl b=>ret b
 |_=>aN none
def RO(c:Nat)(φ:List Val->M Val)(vs:List Val):M Val:=bnd (new (.ins c [])) λo=>bnd (φ (o::vs)) λr=>match r with
 |.non=>ret o
 |_=>aN none
mutual
noncomputable def aI(Φ:Nat->List Val->M Val):IE->Env->M Val
 | .var i,env=>aN (match env[i]? with
  |some (some d)=>some d
  |_=>none)
 |.cst d,_=>ret d
 |.con _ d,_=>ret d
 |.no,_=>aN none
 |.bin o a b,env=>bnd (aI Φ a env) λx=>bnd (aI Φ b env) λy=>Lp o x y
 |.neg _,_=>aN none
 |.cmp o a b,env=>bnd (aI Φ a env) λx=>bnd (aI Φ b env) λy=>bnd (ask λh=>cop h o x y) λt=>ret (.bl t)
 |.chn o p a b c,env=>bnd (aI Φ a env) λx=>bnd (aI Φ b env) λy=>bnd (ask λh=>cop h o x y) λt=>
  if t=true then bnd (aI Φ c env) λz=>bnd (ask λh=>cop h p y z) λt=>ret (.bl t) else ret (.bl false)
 |.and a b,env=>bnd (aI Φ a env) λx=>bnd (nL x) λt=>if t=true then bnd (aI Φ b env) λy=>bnd (nL y) λu=>ret (.bl u) else ret (.bl false)
 |.or a b,env=>bnd (aI Φ a env) λx=>bnd (nL x) λt=>if t=true then ret (.bl true) else bnd (aI Φ b env) λy=>bnd (nL y) λu=>ret (.bl u)
 |.not a,env=>bnd (aI Φ a env) λx=>bnd (nL x) λt=>ret (.bl (!t))
 |.ite _ _ _,_=>aN none
 |.tup es,env=>bnd (bq Φ es env) λds=>aB (decide (ds.length<=sizeLine)) (ret (.tup ds))
 |.lst es,env=>bnd (bq Φ es env) λds=>aB (decide (ds.length<=sizeLine)) (new (.lst ds))
 |.idx a b,env=>bnd (aI Φ a env) λx=>bnd (aI Φ b env) λy=>ask λh=>gF h x y
 |.slc a lo hi,env=>bnd (aI Φ a env) λx=>bnd (if cQ lo=true then ret none else bnd (aI Φ lo env) λv=>bnd (aN (fS v)) λi=>ret (some i)) λl=>
   bnd (if cQ hi=true then ret none else bnd (aI Φ hi env) λv=>bnd (aN (fS v)) λi=>ret (some i)) λu=>pD x l u
 |.call j es,env=>bnd (bq Φ es env) λds=>Φ j ds
 |.blt b es,env=>bnd (bq Φ es env) λds=>blt b ds
 |.met m a es,env=>bnd (aI Φ a env) λx=>bnd (ask λh=>recv h m x) λ_=>bnd (bq Φ es env) λds=>met m x ds
 | .comp _ js pat k it c elt,env=>bnd (bq Φ it env) λits=>bnd (aN (srcOf k its)) λsrc=>bnd (ask λh=>src.items h) λxs=>aB (decide (xs.length<=100000))
   (bnd (eT src (λd=>bnd (aN (fq pat d (ja js env))) λenv'=>bnd (if cQ c=true then ret true else bnd (aI Φ c env') λv=>ask λh=>cP h v) λt=>
    if t=true then bnd (aI Φ elt env') λe=>ret (some e) else ret none) xs.length 0 []) λys=>new (.lst ys))
 |.dct0,_=>new (.dct [])
 |.sset a,env=>bnd (aI Φ a env) λv=>bnd (ask λh=>ay h v) λxs=>bnd (aN (aQ xs)) λns=>aB (decide (ns.length<64)) (new (.lst ((sortI (L2.iE [] ns)).map .int)))
 |.dget _ _ _,_=>aN none
 |.dct1 k v,env=>bnd (aI Φ k env) λx=>bnd (aN (keyOf x)) λkk=>bnd (aI Φ v env) λy=>new (.dct [(kk,y)])
 |.lkeys _,_=>aN none
 |.sdef _ _ _,_=>aN none
 |.svals _,_=>aN none
 |.skeys _,_=>aN none
 |.fld _ _ _,_=>aN none
 |.mth _ _ _ _,_=>aN none
 |.rev _ _,_=>aN none
 |.dflt _ _ _ _ _ _,_=>aN none
 |.isc _ _ _,_=>aN none
noncomputable def bq(Φ:Nat->List Val->M Val):j7->Env->M (List Val)
 |.nil,_=>ret []
 |.cons e es,env=>bnd (aI Φ e env) λd=>bnd (bq Φ es env) λds=>ret (d::ds)
end
inductive Fl
 |nx (env:Env)|rt (v:Val)|bk (env:Env)|ct (env:Env)
def forM(src:Src)(body:Val->Env->M Fl):Nat->Nat->Env->M Fl
 |0,i,env=>bnd (ask λh=>src.items h) λxs=>aB (decide (xs.length<=i)) (ret (.nx env))
 | n+1,i,env=>bnd (ask λh=>src.items h) λxs=>match xs[i]? with
  |none=>ret (.nx env)
  | some x=>bnd (body x env) λf=>match f with
   |.nx env'=>forM src body n (i+1) env'
   |.ct env'=>forM src body n (i+1) env'
   |.bk env'=>ret (.nx env')
   |.rt v=>ret (.rt v)
def t6(o i v:Val):M Unit:=match o with
 | .ref j=>bnd (ask λh=>h[j]?) λob=>match ob,i with
  |.lst xs,.int k=>bnd (aN (qZ xs.length k)) λn=>put j (.lst (xs.set n v))
  |.dct kvs,i=>bnd (aN (keyOf i)) λk=>aB (decide (kvs.length<sizeLine)) (put j (.dct (j8 kvs k v)))
  |_,_=>aN none
 |_=>aN none
mutual
noncomputable def fJ(Φ:Nat->List Val->M Val):IS->Env->M Fl
 |.expr e,env=>bnd (aI Φ e env) λ_=>ret (.nx env)
 |.asg p e,env=>bnd (aI Φ e env) λv=>bnd (aN (fq p v env)) λenv'=>ret (.nx env')
 |.aug _ _ _,_=>aN none
 |.iZ o i v,env=>bnd (aI Φ v env) λx=>bnd (aI Φ o env) λy=>bnd (aI Φ i env) λz=>bnd (t6 y z x) λ_=>ret (.nx env)
 |.iff c a b,env=>bnd (aI Φ c env) λx=>bnd (ask λh=>cP h x) λt=>if t=true then jb Φ a env else jb Φ b env
 |.for p k it body,env=>bnd (bq Φ it env) λits=>bnd (aN (srcOf k its)) λsrc=>bnd (ask λh=>src.items h) λxs=>
   forM src (λx env=>bnd (aN (fq p x env)) λenv'=>jb Φ body env') xs.length 0 env
 |.whl _ _ _,_=>aN none
 |.ret e,env=>bnd (aI Φ e env) λv=>ret (.rt v)
 |.Ba,_=>ret (.rt .non)
 |.brk,env=>ret (.bk env)
 |.cnt,env=>ret (.ct env)
 |.pass,env=>ret (.nx env)
 |.never,_=>aN none
 |.setF _ _ _ _,_=>aN none
noncomputable def jb(Φ:Nat->List Val->M Val):eE->Env->M Fl
 |.nil,env=>ret (.nx env)
 | .cons s r,env=>bnd (fJ Φ s env) λf=>match f with
  |.nx env'=>jb Φ r env'
  |f=>ret f
end
def j9(Φ:Nat->List Val->M Val)(n:Nat)(body:eE)(vs:List Val):M Val :=
 bnd (jb Φ body (vs.map some++replicate (n-vs.length) none)) λf=>match f with
  |.nx _=>ret .non
  |.rt v=>ret v
  |_=>aN none
theorem jc{b:Bool}(ho:o=.lt\/o=.le\/o=.gt\/o=.ge)(e:cop h o v w=some b):∃i j,v=.int i/\w=.int j:=by
 cases v with
 |int i=>
  cases w with
  |int j=>exact⟨i,j,rfl,rfl⟩
  |_=>rcases ho with rfl|rfl|rfl|rfl<;>cases e
 |_=>rcases ho with rfl|rfl|rfl|rfl<;>cases e
structure Bd where
 K:Frag
 cl:Nat->Addr
def Gj(K:Frag)(H:Hp)(a:Addr)(xs:List V):Prop :=
 (∃o,H a=some (.o5 o (.lst xs)))\/fN K (λ_=>none) a xs
theorem Gj.sq{K:Frag}{H:Hp}{a:Addr}{xs:List V}(h:Gj K H a xs):fN K H a xs:=by
 rcases h with ⟨o,h⟩|(h|⟨o,h⟩)|h
 ·exact .inl (.inr ⟨o,h⟩)
 ·cases h
 ·cases h
 ·exact .inr h
mutual
noncomputable def VR(K:Frag)(ρ:List Addr)(H:Hp):Val->V->Prop
 |.non,x=>x=.non
 |.bl b,x=>x=.bl b
 |.int i,x=>x=.int i
 |.str s,x=>x=.str s
 |.tup vs,x=>∃a xs,x=.ref a/\iA K H a xs/\au K ρ H vs xs
 |.rl vs,x=>∃a xs,x=.ref a/\Gj K H a xs/\au K ρ H vs xs
 |.dc _ _,_=>False
 |.ob _ _ _,_=>False
 |.ref i,x=>∃a,x=.ref a /\ ρ[i]?=some a
noncomputable def au(K:Frag)(ρ:List Addr)(H:Hp):List Val->List V->Prop
 |[],xs=>xs=[]
 |v::vs,xs=>∃x r,xs=x::r/\VR K ρ H v x/\au K ρ H vs r
end
def gG(K:Frag)(ρ:List Addr)(H:Hp):List (Key×Val)->List (Key×V)->Prop
 |[],xs=>xs=[]
 |(k,v)::vs,xs=>∃x r,xs=(k,x)::r/\VR K ρ H v x/\gG K ρ H vs r
def Ip(K:Frag)(ρ:List Addr)(H:Hp):List (Str×Val)->List (Str×V)->Prop
 |[],xs=>xs=[]
 |(k,v)::vs,xs=>∃x r,xs=(k,x)::r/\VR K ρ H v x/\Ip K ρ H vs r
def OR(B:Bd)(ρ:List Addr)(H:Hp)(a:Addr):Ob->Prop
 |.lst xs=>∃ys,H a=some (.lst ys)/\au B.K ρ H xs ys
 |.dct kvs=>∃ks,H a=some (.dK ks)/\gG B.K ρ H kvs ks
 |.ins c fs=>∃dx gs,H a=some (.ins (B.cl c) dx gs)/\Ip B.K ρ H fs gs
structure HR (B:Bd) (ρ:List Addr) (h:Hs) (H:Hp):Prop where
 len:ρ.length=h.length
 nd:ρ.Nodup
 ob:∀(i:Nat) (o:Ob) (a:Addr),h[i]?=some o -> ρ[i]?=some a->OR B ρ H a o
def Mu:HO->Bool
 |.lst _=>true|.dK _=>true|.ins ..=>true
 |_=>false
structure Gw (ρ:List Addr) (H:Hp) (ρ':List Addr) (H':Hp):Prop where
 pre:ρ <+: ρ'
 firm:∀a o,H a=some o->Mu o=false->H' a=some o
structure Gr (ρ:List Addr) (H:Hp) (ρ':List Addr) (H':Hp):Prop where
 pre:ρ <+: ρ'
 keep:∀a o,H a=some o->a ∉ ρ -> H' a=some o
 firm:∀a o,H a=some o->Mu o=false->H' a=some o
 fresh:∀a,a ∈ ρ'->a ∉ ρ -> H a=none
section
variable {K:Frag} {B:Bd} {ρ ρ' ρ1 ρ2:List Addr} {H H' H1 H2:Hp} {h h':Hs}
theorem Gr.w(g:Gr ρ H ρ' H'):Gw ρ H ρ' H':=⟨g.pre,g.firm⟩
theorem Gr.refl:Gr ρ H ρ H:=⟨VG _,λ_ _ e _=>e,λ_ _ e _=>e,λ_ e n=>absurd e n⟩
theorem Gr.trans(g:Gr ρ H ρ1 H1)(k:Gr ρ1 H1 ρ2 H2):Gr ρ H ρ2 H2 where
 pre:=g.pre.trans k.pre
 keep a o e n:=k.keep a o (g.keep a o e n) λz=>by rw[g.fresh a z n]at e;cases e
 firm a o e n:=k.firm a o (g.firm a o e n) n
 fresh a z n:=by
  by_cases hb:a ∈ ρ1
  ·exact g.fresh a hb n
  ·cases e:H a with
   |none=>rfl
   |some o=>have e1:=g.keep a o e n;rw[k.fresh a z hb]at e1;cases e1
theorem rN{i:Nat}(p:ρ <+: ρ')(e:ρ[i]?=some a):ρ'[i]?=some a:=by
 obtain⟨t,rfl⟩:=p;have hi:i < ρ.length:=(Vn.mp e).1;rw[VD hi];exact e
theorem Gw.Pd(g:Gw ρ H ρ' H')(e:iA K H a xs):iA K H' a xs:=by
 rcases e with (e|⟨o,e⟩)|e
 ·exact .inl (.inl (g.firm _ _ e rfl))
 ·exact .inl (.inr ⟨o,g.firm _ _ e rfl⟩)
 ·exact .inr e
theorem Gw.Iq(g:Gw ρ H ρ' H')(e:Gj K H a xs):Gj K H' a xs:=by
 rcases e with ⟨o,e⟩|e
 ·exact .inl ⟨o,g.firm _ _ e rfl⟩
 ·exact .inr e
mutual
theorem VR.jZ(g:Gw ρ H ρ' H'):∀(v:Val) (x:V),VR K ρ H v x->VR K ρ' H' v x
 |.non,x,e=>by rw[VR]at e |-;exact e
 |.bl b,x,e=>by rw[VR]at e |-;exact e
 |.int b,x,e=>by rw[VR]at e |-;exact e
 |.str b,x,e=>by rw[VR]at e |-;exact e
 | .tup vs,x,e=>by
  rw[VR]at e |-;obtain⟨a,xs,rfl,q1,q2⟩:=e;exact⟨a,xs,rfl,g.Pd q1,au.jZ g vs xs q2⟩
 | .rl vs,x,e=>by
  rw[VR]at e |-;obtain⟨a,xs,rfl,q1,q2⟩:=e;exact⟨a,xs,rfl,g.Iq q1,au.jZ g vs xs q2⟩
 |.dc _ _,x,e=>by rw[VR]at e;exact e.elim
 |.ob _ _ _,x,e=>by rw[VR]at e;exact e.elim
 | .ref i,x,e=>by
  rw[VR]at e |-;obtain⟨a,rfl,q⟩:=e;exact⟨a,rfl,rN g.pre q⟩
theorem au.jZ(g:Gw ρ H ρ' H'):∀(vs:List Val) (xs:List V),au K ρ H vs xs->au K ρ' H' vs xs
 |[],xs,e=>by rw[au]at e |-;exact e
 | v::vs,xs,e=>by
  rw[au]at e |-;obtain⟨x,r,rfl,q1,q2⟩:=e;exact⟨x,r,rfl,VR.jZ g v x q1,au.jZ g vs r q2⟩
end
theorem gG.jZ(g:Gw ρ H ρ' H'):∀(vs:List (Key×Val)) (xs:List (Key×V)),gG K ρ H vs xs->gG K ρ' H' vs xs
 |[],xs,e=>e
 |(k,v)::vs,xs,⟨x,r,e,q1,q2⟩=>⟨x,r,e,VR.jZ g v x q1,gG.jZ g vs r q2⟩
theorem Ip.jZ(g:Gw ρ H ρ' H'):∀(vs:List (Str×Val)) (xs:List (Str×V)),Ip K ρ H vs xs->Ip K ρ' H' vs xs
 |[],xs,e=>e
 |(k,v)::vs,xs,⟨x,r,e,q1,q2⟩=>⟨x,r,e,VR.jZ g v x q1,Ip.jZ g vs r q2⟩
theorem VR.up(g:Gr ρ H ρ' H')(v:Val)(x:V)(e:VR K ρ H v x):VR K ρ' H' v x:=VR.jZ g.w v x e
theorem au.up(g:Gr ρ H ρ' H')(v:List Val)(x:List V)(e:au K ρ H v x):au K ρ' H' v x:=au.jZ g.w v x e
theorem gG.up(g:Gr ρ H ρ' H')(v:List (Key×Val))(x:List (Key×V))(e:gG K ρ H v x):gG K ρ' H' v x:=gG.jZ g.w v x e
theorem au.nil:au K ρ H [] []:=by rw[au]
theorem au.cons{v:Val}{vs:List Val}{x:V}{xs:List V}(a:VR K ρ H v x)(b:au K ρ H vs xs):au K ρ H (v::vs) (x::xs):=by rw[au];exact⟨x,xs,rfl,a,b⟩
theorem au.length:∀{vs:List Val} {xs:List V},au K ρ H vs xs->vs.length=xs.length
 |[],xs,e=>by rw[au]at e;subst e;rfl
 |v::vs,xs,e=>by rw[au]at e;obtain⟨x,r,rfl,_,q⟩:=e;simp[au.length q]
theorem au.get:∀{vs:List Val} {xs:List V} {i:Nat} {v:Val},au K ρ H vs xs->vs[i]?=some v->∃x,xs[i]?=some x/\VR K ρ H v x
 |[],xs,i,v,e,q=>by simp at q
 | w::vs,xs,0,v,e,q=>by
  rw[au]at e;obtain⟨x,r,rfl,a,_⟩:=e;simp at q;subst q;exact⟨x,rfl,a⟩
 | w::vs,xs,i+1,v,e,q=>by
  rw[au]at e;obtain⟨x,r,rfl,_,b⟩:=e;simp at q;obtain⟨y,q1,q2⟩:=au.get b q;exact⟨y,by simpa using q1,q2⟩
theorem au.append:∀{vs ws:List Val} {xs ys:List V},au K ρ H vs xs->au K ρ H ws ys->au K ρ H (vs++ws) (xs++ys)
 |[],ws,xs,ys,e,q=>by rw[au]at e;subst e;exact q
 | w::vs,ws,xs,ys,e,q=>by
  rw[au]at e;obtain⟨x,r,rfl,a,b⟩:=e;exact au.cons a (au.append b q)
theorem au.take:∀{vs:List Val} {xs:List V} (n:Nat),au K ρ H vs xs->au K ρ H (vs.take n) (xs.take n)
 |_,_,0,_=>by simp;exact au.nil
 |[],xs,n+1,e=>by rw[au]at e;subst e;simp;exact au.nil
 | w::vs,xs,n+1,e=>by
  rw[au]at e;obtain⟨x,r,rfl,a,b⟩:=e;exact au.cons a (au.take n b)
theorem au.drop:∀{vs:List Val} {xs:List V} (n:Nat),au K ρ H vs xs->au K ρ H (vs.drop n) (xs.drop n)
 |_,_,0,e=>by simpa using e
 |[],xs,n+1,e=>by rw[au]at e;subst e;simp;exact au.nil
 | w::vs,xs,n+1,e=>by
  rw[au]at e;obtain⟨x,r,rfl,a,b⟩:=e;exact au.drop n b
theorem au.cut(lo hi:Option Int)(e:au K ρ H vs xs):au K ρ H (bO vs lo hi) (sZ xs lo hi):=by
 unfold bO sZ;rw[e.length];exact au.take _ (au.drop _ e)
theorem au.gC{i:Int}(e:au K ρ H vs xs)(q:L2.gC vs i=some v):∃x,L2.gC xs i=some x/\VR K ρ H v x:=by
 unfold L2.gC at q |-;rw[e.length]at q;cases hi:L2.qZ xs.length i with
 |none=>rw[hi]at q;cases q
 |some n=>rw[hi]at q;exact au.get e q
theorem au.set:∀{vs:List Val} {xs:List V} (n:Nat) {v:Val} {x:V},au K ρ H vs xs->VR K ρ H v x->au K ρ H (vs.set n v) (xs.set n x)
 |[],xs,n,v,x,e,q=>by rw[au]at e;subst e;simp;exact au.nil
 | w::vs,xs,0,v,x,e,q=>by
  rw[au]at e;obtain⟨y,r,rfl,a,b⟩:=e;exact au.cons q b
 | w::vs,xs,n+1,v,x,e,q=>by
  rw[au]at e;obtain⟨y,r,rfl,a,b⟩:=e;exact au.cons a (au.set n b q)
theorem au.one(e:au K ρ H [v] xs):∃x,xs=[x]/\VR K ρ H v x:=by
 rw[au]at e;obtain⟨x,r,rfl,a,b⟩:=e;rw[au]at b;subst b;exact⟨x,rfl,a⟩
theorem au.two(e:au K ρ H [v,w] xs):∃x y,xs=[x,y]/\VR K ρ H v x/\VR K ρ H w y:=by
 rw[au]at e;obtain⟨x,r,rfl,a,b⟩:=e;obtain⟨y,rfl,c⟩:=au.one b;exact⟨x,y,rfl,a,c⟩
theorem VR.int{i:Int}:VR K ρ H (.int i) (.int i):=by rw[VR]
theorem VR.str:VR K ρ H (.str i) (.str i):=by rw[VR]
theorem VR.bl{i:Bool}:VR K ρ H (.bl i) (.bl i):=by rw[VR]
theorem VR.non:VR K ρ H .non .non:=by rw[VR]
theorem VR.tup(q:iA K H a xs)(e:au K ρ H vs xs):VR K ρ H (.tup vs) (.ref a):=by rw[VR];exact⟨a,xs,rfl,q,e⟩
theorem VR.ref{i:Nat}(q:ρ[i]?=some a):VR K ρ H (.ref i) (.ref a):=by rw[VR];exact⟨a,rfl,q⟩
theorem au.ints:∀{ns:List Int} {xs:List V},au K ρ H (ns.map Val.int) xs↔xs=ns.map V.int
 |[],xs=>by simp[au]
 | n::ns,xs=>by
  simp only[map_cons];rw[au];constructor
  ·rintro⟨x,r,rfl,a,b⟩;rw[VR]at a;subst a;rw[(au.ints (ns:=ns)).mp b]
  ·rintro rfl;exact⟨_,_,rfl,VR.int,(au.ints (ns:=ns)).mpr rfl⟩
theorem au.strs:∀{ns:List Str} {xs:List V},au K ρ H (ns.map Val.str) xs↔xs=ns.map V.str
 |[],xs=>by simp[au]
 | n::ns,xs=>by
  simp only[map_cons];rw[au];constructor
  ·rintro⟨x,r,rfl,a,b⟩;rw[VR]at a;subst a;rw[(au.strs (ns:=ns)).mp b]
  ·rintro rfl;exact⟨_,_,rfl,VR.str,(au.strs (ns:=ns)).mpr rfl⟩
theorem au.bools:∀{ns:List Bool} {xs:List V},au K ρ H (ns.map Val.bl) xs↔xs=ns.map V.bl
 |[],xs=>by simp[au]
 | n::ns,xs=>by
  simp only[map_cons];rw[au];constructor
  ·rintro⟨x,r,rfl,a,b⟩;rw[VR]at a;subst a;rw[(au.bools (ns:=ns)).mp b]
  ·rintro rfl;exact⟨_,_,rfl,VR.bl,(au.bools (ns:=ns)).mpr rfl⟩
theorem au.tups:∀{m5:List (List Int)} {xs:List V},au K ρ H (m5.map gn) xs->∃rs:List (Addr×List Int),xs=rs.map (λr=>V.ref r.1)/\m5=rs.map (·.2)/\∀r∈rs,iA K H r.1 (r.2.map V.int)
 |[],xs,e=>by simp only[map_nil]at e;rw[au]at e;exact⟨[],e,rfl,λ_ z=>nomatch z⟩
 | ks::m5,xs,e=>by
  simp only[map_cons]at e;rw[au]at e;obtain⟨x,r,rfl,a,b⟩:=e;obtain⟨rs,e1,e2,e3⟩:=au.tups b;unfold gn at a;rw[VR]at a;obtain⟨p,ys,rfl,g1,g2⟩:=a;rw[au.ints.mp g2]at g1;refine⟨(p,ks)::rs,by rw[e1];rfl,by rw[e2];rfl,λr hr=>?_⟩
  rcases VF.mp hr with z|z
  ·rw[z];exact g1
  ·exact e3 r z
theorem au.xu:∀{rs:List (Addr×List Int)},(∀r∈rs,iA K H r.1 (r.2.map V.int))->au K ρ H ((rs.map (·.2)).map gn) (rs.map λr=>V.ref r.1)
 |[],_=>au.nil
 |r::rs,e=>au.cons (VR.tup (e r Vs) (au.ints.mpr rfl)) (au.xu λq hq=>e q (Vq _ hq))
theorem OR.mu(q:OR B ρ H a o):∃u,H a=some u/\Mu u=true:=by
 cases o with
 |lst xs=>obtain⟨ys,e,_⟩:=q;exact⟨_,e,rfl⟩
 |dct xs=>obtain⟨ys,e,_⟩:=q;exact⟨_,e,rfl⟩
 |ins c fs=>obtain⟨dx,ys,e,_⟩:=q;exact⟨_,e,rfl⟩
theorem HR.mu(r:HR B ρ h H)(e:a ∈ ρ):∃u,H a=some u/\Mu u=true:=by
 obtain⟨i,hi,rfl⟩:=Xz e;have hi':i<h.length:=by rw[<-r.len];exact hi
 exact(r.ob i _ _ (VN hi') (VN hi)).mu
theorem HR.out(r:HR B ρ h H)(e:H p=none):p ∉ ρ:=λz=>by
 obtain⟨u,q,_⟩:=r.mu z;rw[e]at q;cases q
theorem OR.jZ(g:Gw ρ H ρ' H')(e:H' a=H a)(q:OR B ρ H a o):OR B ρ' H' a o:=by
 cases o with
 |lst xs=>obtain⟨ys,e1,e2⟩:=q;exact⟨ys,e.trans e1,au.jZ g _ _ e2⟩
 |dct xs=>obtain⟨ys,e1,e2⟩:=q;exact⟨ys,e.trans e1,gG.jZ g _ _ e2⟩
 |ins c fs=>obtain⟨dx,ys,e1,e2⟩:=q;exact⟨dx,ys,e.trans e1,Ip.jZ g _ _ e2⟩
theorem OR.up(g:Gr ρ H ρ' H')(e:H' a=H a)(q:OR B ρ H a o):OR B ρ' H' a o:=OR.jZ g.w e q
theorem Gr.side(e:H p=none):Gr ρ H ρ (upd H p o) where
 pre:=VG _
 keep a u q _:=by rw[aF (aO q e)];exact q
 firm a u q _:=by rw[aF (aO q e)];exact q
 fresh a z n:=absurd z n
theorem HR.side(r:HR B ρ h H)(e:H p=none):HR B ρ h (upd H p o) where
 len:=r.len
 nd:=r.nd
 ob i u a q1 q2:=by refine OR.up (Gr.side e) ?_ (r.ob i u a q1 q2);refine aF λz=>?_;subst z;exact r.out e (VP q2)
theorem Gw.other(e:H p=some u)(hm:Mu u=true):Gw ρ H ρ (upd H p o) where
 pre:=VG _
 firm a w q n:=by
  have:a≠p:=λz=>by subst z;rw[e]at q;cases q;rw[hm]at n;cases n
  rw[aF this];exact q
theorem HR.other(r:HR B ρ h H)(hp:p ∉ ρ)(e:H p=some u)(hm:Mu u=true):HR B ρ h (upd H p o) where
 len:=r.len
 nd:=r.nd
 ob i w a q1 q2:=OR.jZ (Gw.other e hm) (aF λz=>by subst z;exact hp (VP q2)) (r.ob i w a q1 q2)
theorem Gr.new(e:H p=none):Gr ρ H (ρ ++ [p]) (upd H p o) where
 pre:=Wa _ _
 keep a u q _:=by rw[aF (aO q e)];exact q
 firm a u q _:=by rw[aF (aO q e)];exact q
 fresh a z n:=by
  rcases Wq.mp z with z|z
  ·exact absurd z n
  ·rw[VM.mp z];exact e
theorem HR.new(r:HR B ρ h H)(e:H p=none)(q:OR B (ρ ++ [p]) (upd H p o) p u):HR B (ρ ++ [p]) (h++[u]) (upd H p o) where
 len:=by simp[r.len]
 nd:=by rw[W0];refine⟨r.nd,by simp,λa ha b hb=>?_⟩;rw[VM.mp hb];rintro rfl;exact r.out e ha
 ob i v a q1 q2:=by
  by_cases hi:i<h.length
  ·rw[VD hi]at q1;rw[VD (by rw[r.len];exact hi)]at q2;refine OR.up (Gr.new e) (aF λz=>?_) (r.ob i v a q1 q2);subst z;exact r.out e (VP q2)
  ·rw[VT (by omega)]at q1
   rw[VT (by rw[r.len];omega)]at q2;have hi0:i-h.length=0:=by have:=(Vn.mp q1).1;simp at this;omega
   rw[hi0]at q1;rw[r.len,hi0]at q2;simp at q1 q2;subst q1;subst q2;exact q
theorem xw(r:HR B ρ h H):VR K (ρ ++ [p]) H' (.ref h.length) (.ref p):=VR.ref (by rw[<-r.len];simp)
theorem Gk{α:Type}:∀{l:List α} {i j:Nat} {a:α},l.Nodup->l[i]?=some a->l[j]?=some a->i=j
 |[],i,j,a,_,e,_=>by simp at e
 |b::l,0,0,a,_,_,_=>rfl
 | b::l,0,j+1,a,n,e,f=>by
  simp at e f;subst e;exact absurd (VP f) (Wb.mp n).1
 | b::l,i+1,0,a,n,e,f=>by
  simp at e f;subst f;exact absurd (VP e) (Wb.mp n).1
 | b::l,i+1,j+1,a,n,e,f=>by
  simp at e f;rw[Gk (Wb.mp n).2 e f]
theorem Gr.put(hp:p ∈ ρ)(e:H p=some u)(hm:Mu u=true):Gr ρ H ρ (upd H p o) where
 pre:=VG _
 keep a w q n:=by rw[aF λz=>n (by rw[z];exact hp)];exact q
 firm a w q n:=by
  have:a≠p:=λz=>by subst z;rw[e]at q;cases q;rw[hm]at n;cases n
  rw[aF this];exact q
 fresh a z n:=absurd z n
theorem HR.put{i:Nat}(r:HR B ρ h H)(hi:ρ[i]?=some p)(e:h[i]?=some w)(q:OR B ρ (upd H p o) p u):HR B ρ (h.set i u) (upd H p o) where
 len:=by simp[r.len]
 nd:=r.nd
 ob j v a q1 q2:=by
  obtain⟨z,k1,k2⟩:=(r.ob i w p e hi).mu
  by_cases hj:j=i
  ·subst hj;rw[hi]at q2;cases q2;have hlt:j<h.length:=(Vn.mp e).1;rw[Vz hlt]at q1;cases q1;exact q
  ·rw[Vr (λz=>hj z.symm)]at q1;refine OR.up (Gr.put (VP hi) k1 k2) (aF λz=>?_) (r.ob j v a q1 q2);subst z;exact hj (Gk r.nd q2 hi)
theorem cX(r:HR B ρ h H)(q:VR B.K ρ H v x)(e:ay h v=some xs):∃a ys,x=.ref a/\fN B.K H a ys/\au B.K ρ H xs ys:=by
 cases v with
 |rl vs=>simp only[ay]at e;cases e;rw[VR]at q;obtain⟨a,ys,rfl,k1,k2⟩:=q;exact⟨a,ys,rfl,k1.sq,k2⟩
 |ref i=>
  simp only[ay]at e;split at e
  ·rename_i zs e1;cases e;rw[VR]at q;obtain⟨a,rfl,k1⟩:=q;obtain⟨ys,k2,k3⟩:=r.ob i _ a e1 k1;exact⟨a,ys,rfl,.inl (.inl k2),k3⟩
  ·cases e
 |_=>cases e
theorem jI{i:Nat}(r:HR B ρ h H)(q:VR B.K ρ H (.ref i) x)(e:h[i]?=some (.lst xs)):∃a ys,x=.ref a /\ ρ[i]?=some a/\H a=some (.lst ys)/\au B.K ρ H xs ys:=by
 rw[VR]at q;obtain⟨a,rfl,k1⟩:=q;obtain⟨ys,k2,k3⟩:=r.ob i _ a e k1;exact⟨a,ys,rfl,k1,k2,k3⟩
theorem rO(r:HR B ρ h H)(q:VR B.K ρ H v x)(e:cB h v=some xs):∃a ys,x=.ref a/\(fN B.K H a ys\/iA B.K H a ys)/\au B.K ρ H xs ys:=by
 cases v with
 |tup vs=>simp only[cB]at e;cases e;rw[VR]at q;obtain⟨a,ys,rfl,k1,k2⟩:=q;exact⟨a,ys,rfl,.inr k1,k2⟩
 |rl vs=>obtain⟨a,ys,e1,k1,k2⟩:=cX r q (show ay h (.rl vs)=some xs from e);exact⟨a,ys,e1,.inl k1,k2⟩
 |ref vs=>obtain⟨a,ys,e1,k1,k2⟩:=cX r q (show ay h (.ref vs)=some xs from e);exact⟨a,ys,e1,.inl k1,k2⟩
 |_=>cases e
theorem lN(r:HR B ρ h H):∀(n:Nat) (v:Val) (x:V) (d:PyData),VR B.K ρ H v x->toD n h v=some d->Den B.K H d x/\d.canLay0=true/\d.depth<=n:=by
 intro n
 induction n with
 |zero=>intro v x d _ e;simp only[toD]at e;cases e
 |succ n ih=>
  have all:∀(vs:List Val) (xs:List V) (ds:List PyData),au B.K ρ H vs xs->bK (toD n h) vs=some ds->dz B.K H ds xs/\PyData.canLayAll0 ds=true/\PyData.depthAll ds<=n:=by
   intro vs
   induction vs with
   |nil=>intro xs ds q e;simp only[bK]at e;cases e;rw[au]at q;subst q;exact⟨dz.nil,rfl,by simp[PyData.depthAll]⟩
   |cons v vs Tu=>intro xs ds q e;simp only[bK]at e;obtain⟨d,e1,e⟩:=Vk.mp e;obtain⟨ds',e2,e⟩:=Vk.mp e;cases e;rw[au]at q;obtain⟨x,r,rfl,q1,q2⟩:=q;obtain⟨a1,a2,a3⟩:=ih v x d q1 e1;obtain⟨b1,b2,b3⟩:=Tu r ds' q2 e2;refine⟨dz.cons a1 b1,by simp[PyData.canLayAll0,a2,b2],?_⟩;simp only[PyData.depthAll];omega
  intro v x d q e;cases v with
  |non=>simp only[toD]at e;cases e;rw[VR]at q;subst q;exact⟨Den.none,rfl,by simp[PyData.depth]⟩
  |bl b=>simp only[toD]at e;cases e;rw[VR]at q;subst q;exact⟨Den.bool,rfl,by simp[PyData.depth]⟩
  |int b=>simp only[toD]at e;cases e;rw[VR]at q;subst q;exact⟨Den.int,rfl,by simp[PyData.depth]⟩
  |str b=>
   simp only[toD]at e;split at e
   ·rename_i hs;cases e;rw[VR]at q;subst q;exact⟨Den.str,by simp[PyData.canLay0,hs],by simp[PyData.depth]⟩
   ·cases e
  |tup vs=>simp only[toD]at e;obtain⟨ds,e1,e⟩:=Vk.mp e;cases e;rw[VR]at q;obtain⟨a,xs,rfl,q1,q2⟩:=q;obtain⟨b1,b2,b3⟩:=all vs xs ds q2 e1;exact⟨Den.tuple q1 b1,by simp[PyData.canLay0,b2],by simp only[PyData.depth];omega⟩
  |rl vs=>simp only[toD]at e;obtain⟨ds,e1,e⟩:=Vk.mp e;cases e;rw[VR]at q;obtain⟨a,xs,rfl,q1,q2⟩:=q;obtain⟨b1,b2,b3⟩:=all vs xs ds q2 e1;exact⟨Den.list q1.sq b1,by simp[PyData.canLay0,b2],by simp only[PyData.depth];omega⟩
  |dc _ _=>rw[VR]at q;exact q.elim
  |ob _ _ _=>rw[VR]at q;exact q.elim
  |ref i=>simp only[toD]at e;obtain⟨vs,e0,e⟩:=Vk.mp e;obtain⟨ds,e1,e⟩:=Vk.mp e;cases e;obtain⟨a,xs,rfl,q1,q2⟩:=cX r q e0;obtain⟨b1,b2,b3⟩:=all vs xs ds q2 e1;exact⟨Den.list q1 b1,by simp[PyData.canLay0,b2],by simp only[PyData.depth];omega⟩
end
theorem lO(x:List Int):∀l,(rJ x l).Perm (x::l)
 |[]=>.refl _
 | y::r=>by
  unfold rJ;split
  ·exact((lO x r).cons y).trans (.swap _ _ _)
  ·exact .refl _
theorem nM:∀l,(kI l).Perm l
 |[]=>.refl _
 |x::r=>(lO x _).trans ((nM r).cons x)
theorem t7{a b c:List Int}(h1:HT.lexLt b a=false)(h2:HT.lexLt c b=false):HT.lexLt c a=false:=by
 cases e:HT.lexLt c a with
 |false=>rfl
 |true=>
  rcases oX.p9 c b a e with z|z
  ·rw[h2]at z;cases z
  ·rw[h1]at z;cases z
theorem t8{a b:List Int}(h:HT.lexLt a b=true):HT.lexLt b a=false:=by
 cases e:HT.lexLt b a with
 |false=>rfl
 |true=>have:=oX.gg _ _ _ h e;rw[oX.iD]at this;cases this
theorem xy(x:List Int):∀l:List (List Int),l.Pairwise (λa b=>HT.lexLt b a=false)->(rJ x l).Pairwise (λa b=>HT.lexLt b a=false)
 |[],_=>by simp[rJ]
 | y::r,h=>by
  obtain⟨h1,h2⟩:=V9.mp h;unfold rJ
  split
  ·rename_i hlt
   refine V9.mpr ⟨λz hz=>?_,xy x r h2⟩
   rcases VF.mp ((lO x r).mem_iff.mp hz) with rfl|hz
   ·exact t8 hlt
   ·exact h1 z hz
  ·rename_i hlt
   refine V9.mpr ⟨λz hz=>?_,h⟩;have hxy:HT.lexLt y x=false:=by simpa using hlt
   rcases VF.mp hz with rfl|hz
   ·exact hxy
   ·exact t7 hxy (h1 z hz)
theorem t9:∀l,(kI l).Pairwise (λa b=>HT.lexLt b a=false)
 |[]=>.nil
 |x::r=>xy x _ (t9 r)
theorem Bb(hp:l.Perm m5)(hs:l.Pairwise (λa b=>HT.lexLt b a=false)):l=kI m5 :=
 List.Perm.eq_of_pairwise (λa b _ _ h1 h2=>oX.gf a b h2 h1) hs (t9 m5) (hp.trans (nM m5).symm)
theorem zf{ns:List Int}{m:Int}(h:m∈ns)(h2:∀a∈ns,m<=a):rK ns=some (.int m):=by
 cases ns with
 |nil=>cases h
 |cons a r=>
  have key:∀(r:List Int) (a:Int),(r.foldl min a)∈a::r/\∀b∈a::r,r.foldl min a<=b:=by
   intro r
   induction r with
   |nil=>intro a;simp
   |cons c r ih=>
    intro a;obtain⟨q1,q2⟩:=ih (min a c);refine⟨?_,λb hb=>?_⟩
    ·show List.foldl min (min a c) r∈_
     rcases VF.mp q1 with z|z
     ·rw[z]
      rcases Int.le_total a c with hc|hc
      ·rw[Int.min_eq_left hc];exact Vs
      ·rw[Int.min_eq_right hc];exact Vq _ Vs
     ·exact Vq _ (Vq _ z)
    ·show List.foldl min (min a c) r<=b
     have q3:=q2 (min a c) Vs
     rcases VF.mp hb with z|z
     ·subst z;omega
     ·rcases VF.mp z with z|z
      ·subst z;omega
      ·exact q2 b (Vq _ z)
  obtain⟨q1,q2⟩:=key r a;show some (Val.int (r.foldl min a))=_;rw[Int.le_antisymm (q2 m h) (h2 _ q1)]
theorem zg{ns:List Int}{m:Int}(h:m∈ns)(h2:∀a∈ns,a<=m):rL ns=some (.int m):=by
 cases ns with
 |nil=>cases h
 |cons a r=>
  have key:∀(r:List Int) (a:Int),(r.foldl max a)∈a::r/\∀b∈a::r,b<=r.foldl max a:=by
   intro r
   induction r with
   |nil=>intro a;simp
   |cons c r ih=>
    intro a;obtain⟨q1,q2⟩:=ih (max a c);refine⟨?_,λb hb=>?_⟩
    ·show List.foldl max (max a c) r∈_
     rcases VF.mp q1 with z|z
     ·rw[z]
      rcases Int.le_total a c with hc|hc
      ·rw[Int.max_eq_right hc];exact Vq _ Vs
      ·rw[Int.max_eq_left hc];exact Vs
     ·exact Vq _ (Vq _ z)
    ·show b<=List.foldl max (max a c) r
     have q3:=q2 (max a c) Vs
     rcases VF.mp hb with z|z
     ·subst z;omega
     ·rcases VF.mp z with z|z
      ·subst z;omega
      ·exact q2 b (Vq _ z)
  obtain⟨q1,q2⟩:=key r a;show some (Val.int (r.foldl max a))=_;rw[Int.le_antisymm (h2 _ q1) (q2 m h)]
def Post(B:Bd)(EX:Nat->List V->Hp->Prop)(ρ:List Addr)(H:Hp){α:Type}(W:α -> Hs->List Addr->Hp->Prop):Out α -> Prop
 |.ok a h'=>∀ρ' H',Gr ρ H ρ' H'->HR B ρ' h' H'->W a h' ρ' H'
 |.exc c vs h'=>∀ρ' H' xs,Gr ρ H ρ' H'->HR B ρ' h' H'->au B.K ρ' H' vs xs->EX c xs H'
 |.no=>False
def WV(K:Frag)(Q:VK):Val->Hs->List Addr->Hp->Prop:=λv _ ρ' H'=>∀x,VR K ρ' H' v x->Q x H'
section
variable {B:Bd} {EX:Nat->List V->Hp->Prop} {ρ ρ':List Addr} {H H':Hp} {α β:Type} {W:β -> Hs->List Addr->Hp->Prop} {h h':Hs} {Q:VK}
theorem Post.up(g:Gr ρ H ρ' H')(p:Post B EX ρ H W o):Post B EX ρ' H' W o:=by
 cases o with
 |ok a h'=>exact λρ2 H2 g2 r=>p ρ2 H2 (g.trans g2) r
 |exc c vs h'=>exact λρ2 H2 xs g2 r=>p ρ2 H2 xs (g.trans g2) r
 |no=>exact p
theorem aC{c:Bool}(p:Post B EX ρ H W (aB c m h)):c=true/\Post B EX ρ H W (m h):=by
 unfold aB at p;split at p
 ·rename_i e;exact⟨e,p⟩
 ·exact p.elim
theorem az(p:Post B EX ρ H W (bnd (ask f) g h)):∃a,f h=some a/\Post B EX ρ H W (g a h):=by
 unfold bnd ask aN at p;cases e:f h with
 |none=>rw[e]at p;exact p.elim
 |some a=>rw[e]at p;exact⟨a,rfl,p⟩
theorem cz(r:HR B ρ h H)(p:Post B EX ρ H W (ask f h)):∃a,f h=some a/\W a h ρ H:=by
 unfold ask aN at p;cases e:f h with
 |none=>rw[e]at p;exact p.elim
 |some a=>rw[e]at p;exact⟨a,rfl,p ρ H Gr.refl r⟩
theorem bL(p:Post B EX ρ H W (bnd (aN o) g h)):∃a,o=some a/\Post B EX ρ H W (g a h):=by
 unfold bnd aN at p;cases e:o with
 |none=>rw[e]at p;exact p.elim
 |some a=>rw[e]at p;exact⟨a,rfl,p⟩
theorem bZ(r:HR B ρ h H)(p:Post B EX ρ H W (aN o h)):∃a,o=some a/\W a h ρ H:=by
 unfold aN at p;cases e:o with
 |none=>rw[e]at p;exact p.elim
 |some a=>rw[e]at p;exact⟨a,rfl,p ρ H Gr.refl r⟩
theorem ai(r:HR B ρ h H)(p:Post B EX ρ H W (ret a h)):W a h ρ H:=p ρ H Gr.refl r
theorem ua(r:HR B ρ h H)(hp:H p=none)(q:OR B (ρ ++ [p]) (upd H p O) p o)(w:Post B EX ρ H (WV B.K Q) (new o h)):Q (.ref p) (upd H p O) :=
 w (ρ ++ [p]) (upd H p O) (Gr.new hp) (r.new hp q) _ (xw r)
theorem dh(r:HR B ρ h H)(hp:H p=none)(q:au B.K ρ H xs ys)(w:Post B EX ρ H (WV B.K Q) (new (.lst xs) h)):Q (.ref p) (upd H p (.lst ys)) :=
 ua (o:=.lst xs) (O:=.lst ys) r hp ⟨ys,aW,au.up (Gr.new hp) _ _ q⟩ w
theorem kJ(r:HR B ρ h H)(hp:H p=none)(q:au B.K ρ H xs ys)(w:Post B EX ρ H (WV B.K Q) (ret (Val.tup xs) h)):Q (.ref p) (upd H p (.tup ys)) :=
 w ρ (upd H p (.tup ys)) (Gr.side hp) (r.side hp) _ (VR.tup (iA.of aW) (au.up (Gr.side hp) _ _ q))
theorem aA(p:Post B EX ρ H W (bnd m f h))(k:∀v h1 ρ1 x H1,Gr ρ H ρ1 H1->HR B ρ1 h1 H1->VR B.K ρ1 H1 v x->Post B EX ρ1 H1 W (f v h1)->Q x H1):Post B EX ρ H (WV B.K Q) (m h):=by
 unfold bnd at p;cases e:m h with
 |ok v h1=>rw[e]at p;exact λρ1 H1 g r x q=>k v h1 ρ1 x H1 g r q (Post.up g p)
 |exc c vs h1=>rw[e]at p;exact p
 |no=>rw[e]at p;exact p
theorem bF(p:Post B EX ρ H W (bnd m f h))(k:∀v h1 ρ1 H1,Gr ρ H ρ1 H1->HR B ρ1 h1 H1->Post B EX ρ1 H1 W (f v h1)->W' v h1 ρ1 H1):Post B EX ρ H W' (m h):=by
 unfold bnd at p;cases e:m h with
 |ok v h1=>rw[e]at p;exact λρ1 H1 g r=>k v h1 ρ1 H1 g r (Post.up g p)
 |exc c vs h1=>rw[e]at p;exact p
 |no=>rw[e]at p;exact p
end
theorem di:∀{ds:List Val} {ns:List Int},aQ ds=some ns->ds=ns.map .int
 |[],ns,e=>by simp only[aQ,bK]at e;cases e;rfl
 | v::r,ns,e=>by
  simp only[aQ,bK]at e;obtain⟨i,e1,e⟩:=Vk.mp e;obtain⟨is,e2,e⟩:=Vk.mp e;cases e;cases v<;>first|cases e1|skip
  rw[di (show aQ r=some is from e2)];rfl
theorem qm:∀{ds:List Val} {ns:List Str},strs? ds=some ns->ds=ns.map .str
 |[],ns,e=>by simp only[strs?,bK]at e;cases e;rfl
 | v::r,ns,e=>by
  simp only[strs?,bK]at e;obtain⟨i,e1,e⟩:=Vk.mp e;obtain⟨is,e2,e⟩:=Vk.mp e;cases e;cases v<;>first|cases e1|skip
  rw[qm (show strs? r=some is from e2)];rfl
theorem kc:∀{ds:List Val} {ns:List Bool},cA ds=some ns->ds=ns.map .bl
 |[],ns,e=>by simp only[cA,bK]at e;cases e;rfl
 | v::r,ns,e=>by
  simp only[cA,bK]at e;obtain⟨i,e1,e⟩:=Vk.mp e;obtain⟨is,e2,e⟩:=Vk.mp e;cases e;cases v<;>first|cases e1|skip
  rw[kc (show cA r=some is from e2)];rfl
theorem qo:∀{ds:List Val} {m5:List (List Int)},jY ds=some m5->ds=m5.map gn/\∀ks∈m5,ks≠[]
 |[],ns,e=>by simp only[jY,bK]at e;cases e;exact⟨rfl,λ_ z=>nomatch z⟩
 | v::r,ns,e=>by
  simp only[jY,bK]at e;obtain⟨i,e1,e⟩:=Vk.mp e;obtain⟨is,e2,e⟩:=Vk.mp e;cases e;cases v<;>first|cases e1|skip
  rename_i vs;dsimp only at e1;split at e1
  ·cases e1
  ·rename_i hne
   obtain⟨q1,q2⟩:=qo (show jY r=some is from e2);have e3:=di e1;subst e3;refine⟨by rw[q1];rfl,λks hk=>?_⟩
   rcases VF.mp hk with z|z
   ·subst z;intro z;subst z;exact hne rfl
   ·exact q2 ks z
section
variable {X:Cx} {cl:Nat->Addr} {EX:Nat->List V->Hp->Prop}
abbrev bd(X:Cx)(cl:Nat->Addr):Bd:=⟨X.K,cl⟩
theorem Ed:jC X (binaryOp .Add) (λx y H Q=>∃a b xs ys,x=.ref a/\y=.ref b/\fN X.K H a xs/\fN X.K H b ys/\xs.length+ys.length<=sizeLine/\∀p,H p=none->Q (.ref p) (upd H p (.lst (xs++ys)))):=by
 intro pins s σ H x y v u Q I rx ry h;obtain⟨l,l',xs,ys,rfl,rfl,q1,q3,hl,q⟩:=h;cases rx;cases ry;obtain⟨its,r1,Tv,z1⟩:=I.list q1;obtain⟨its',r2,Tw,z2⟩:=I.list q3;have l1:=r1.length;have l2:=r2.length;obtain⟨⟨oc,od,Ti,osl⟩,n1,e1,e2,_,e4⟩:=Tv;obtain⟨⟨Vd,od',Tz,Qw⟩,n2,f1,f2,_,f4⟩:=Tw;cases e2;cases e4;cases f2;cases f4;refine concat_meets ⟨_,e1,rfl⟩ ⟨_,f1,rfl⟩ noFill_list_add seq_list_add PySem.F.slot_list_add PySem.F.entry_list_add (PySem.F.args_list_add_2 _ _) (list_addW l l' its.toArray its'.toArray n1 n2 od od' osl Qw (by simp only[size_toArray];omega)) ⟨e1,f1,?_⟩;have ea:its.toArray++its'.toArray=(its++its').toArray:=by simp
 rw[ea];have hn:H s.heap.objs.size=none:=I.hok.fresh (Vu _);exact⟨.ref s.heap.objs.size,_,I.P7 (t':=s.toks) (its:=its++its') (r1.append r2) (by rw[VL];omega),rfl,q _ hn⟩
def Bc:Gh->Operator
 |.add=>.Add|.sub=>.Sub|.mul=>.Mult|.fdiv=>.FloorDiv|.mod=>.Mod|.pow=>.Pow
def mw:Im->CmpOp
 |.eq=>.Eq|.ne=>.NotEq|.lt=>.Lt|.le=>.LtE|.gt=>.Gt|.ge=>.GtE|.isn=>.Is|.ntn=>.IsNot|.Eb=>.In|.nin=>.NotIn
def rB(B:Bd)(EX:Nat->List V->Hp->Prop)(o:Gh):R2:=λx y H Q=>∃ρ h v w,HR B ρ h H/\VR B.K ρ H v x/\VR B.K ρ H w y/\Post B EX ρ H (WV B.K Q) (Lp o v w h)
theorem iT.log{j:Int}(h:iT j=true):0<j/\j.natAbs.log2<9000:=by
 have h:=VH h;refine⟨h.1,(log2_lt (by omega)).mpr ?_⟩;have e:j.natAbs<2 ^ 200:=by
  have:(2:Nat) ^ 200=1606938044258990275541962092341162602522202993782792835301376:=by decide
  omega
 exact VA e (Nat.pow_le_pow_right (by decide) (by decide))
theorem Be:jC X (binaryOp .FloorDiv) (rI (λ_ j=>iT j=true) λi j=>.int (i/j)):=O7 λi j _ _ _ _ _ hc q=>by
 obtain⟨h1,h2⟩:=iT.log hc;exact PyProof.Rows.floordiv_int (by omega) (by rw[Int.fdiv_eq_ediv_of_nonneg i (by omega)];exact q) (.inl (PyProof.noPylong_of_log2 h2))
theorem nN(ho:o≠.add)(v w:Val)(h:Hs):(∃i j,v=.int i/\w=.int j)\/Lp o v w h=.no:=by
 cases v with
 |int i=>
  cases w with
  |int j=>exact .inl ⟨i,j,rfl,rfl⟩
  |_=>right;cases o<;>first|rfl|exact absurd rfl ho
 |_=>right;cases o<;>first|rfl|exact absurd rfl ho
theorem Ir(o:Gh):jC X (binaryOp (Bc o)) (rB (bd X cl) EX o):=by
 intro pins s σ H x y v' u' Q I rx ry hh;obtain⟨ρ,h,v,w,r,hv,hw,p⟩:=hh;have lists:Post (bd X cl) EX ρ H (WV X.K Q) (bnd (ask λh=>ay h v) (λa=>bnd (ask λh=>ay h w) λb=>aB (decide (a.length+b.length<=sizeLine)) (new (.lst (a++b)))) h)->wpAny (model X.prog X.w) X.A (binaryOp .Add v' u') (EP X pins σ Q) X.xe s:=by intro p;obtain⟨a,e1,p⟩:=az p;obtain⟨b,e2,p⟩:=az p;obtain⟨e3,p⟩:=aC p;have e3:=VH e3;obtain⟨a1,MA,rfl,k1,k2⟩:=cX r hv e1;obtain⟨a2,Qx,rfl,k3,k4⟩:=cX r hw e2;exact Ed pins s σ H _ _ v' u' Q I rx ry ⟨a1,a2,MA,Qx,rfl,rfl,k1,k3,by rw[<-k2.length,<-k4.length];exact e3,λq hq=>dh r hq (au.append k2 k4) p⟩
 cases o with
 |add=>
  cases v<;>cases w<;>first
   |exact lists p
   |skip
  ·rename_i a b;rw[VR]at hv hw;subst hv;subst hw;exact Hy pins s σ H _ _ _ _ Q I rx ry ⟨a,b,rfl,rfl,ai r p _ VR.int⟩
  ·rename_i a b;rw[VR]at hv hw;subst hv;subst hw;obtain⟨e,p⟩:=aC p;exact vj pins s σ H _ _ _ _ Q I rx ry ⟨a,b,rfl,rfl,VH e,ai r p _ VR.str⟩
  ·rename_i a b
   rw[VR]at hv hw;obtain⟨a1,MA,rfl,k1,k2⟩:=hv;obtain⟨a2,Qx,rfl,k3,k4⟩:=hw;obtain⟨e,p⟩:=aC p;simp only[and_eq_true,not_eq_true',decide_eq_true_eq]at e;refine DL pins s σ H _ _ _ _ Q I rx ry ⟨a1,a2,MA,Qx,rfl,rfl,k1,k3,?_,by rw[<-k2.length,<-k4.length];exact e.2,λz=>?_,λ_ q hq=>kJ r hq (au.append k2 k4) p⟩
   ·intro z;subst z
    have:=k2.length;cases a with
    |nil=>simp at e
    |cons _ _=>simp at this
   ·subst z
    have hb:b=[]:=by cases b with|nil=>rfl|cons _ _=>have:=k4.length;simp at this
    subst hb;rw[WS]at p;exact ai r p _ (VR.tup k1 k2)
 |sub=>
  rcases nN (o:=.sub) (by intro z;cases z) v w h with ⟨i,j,rfl,rfl⟩|z
  case inr=>rw[z]at p;exact p.elim
  rw[VR]at hv hw;subst hv;subst hw;exact Hz pins s σ H _ _ _ _ Q I rx ry ⟨_,_,rfl,rfl,ai r p _ VR.int⟩
 |mul=>
  rcases nN (o:=.mul) (by intro z;cases z) v w h with ⟨i,j,rfl,rfl⟩|z
  case inr=>rw[z]at p;exact p.elim
  rw[VR]at hv hw;subst hv;subst hw;obtain⟨hm,p⟩:=aC p;refine HD pins s σ H _ _ _ _ Q I rx ry ⟨_,_,rfl,rfl,?_,ai r p _ VR.int⟩;unfold fm at hm;simp only[or_eq_true,and_eq_true,decide_eq_true_eq]at hm;exact hm
 |fdiv=>
  rcases nN (o:=.fdiv) (by intro z;cases z) v w h with ⟨i,j,rfl,rfl⟩|z
  case inr=>rw[z]at p;exact p.elim
  rw[VR]at hv hw;subst hv;subst hw;obtain⟨hm,p⟩:=aC p;exact Be pins s σ H _ _ _ _ Q I rx ry ⟨_,_,rfl,rfl,hm,ai r p _ VR.int⟩
 |mod=>
  rcases nN (o:=.mod) (by intro z;cases z) v w h with ⟨i,j,rfl,rfl⟩|z
  case inr=>rw[z]at p;exact p.elim
  rw[VR]at hv hw;subst hv;subst hw;obtain⟨hm,p⟩:=aC p;exact HE pins s σ H _ _ _ _ Q I rx ry ⟨_,_,rfl,rfl,VH hm,ai r p _ VR.int⟩
 |pow=>
  rcases nN (o:=.pow) (by intro z;cases z) v w h with ⟨i,j,rfl,rfl⟩|z
  case inr=>rw[z]at p;exact p.elim
  rw[VR]at hv hw;subst hv;subst hw;obtain⟨hm,p⟩:=aC p;have hm:=VH hm;exact HF pins s σ H _ _ _ _ Q I rx ry ⟨_,_,rfl,rfl,hm,ai r p _ VR.int⟩
end
section
variable {X:Cx} {cl:Nat->Addr} {EX:Nat->List V->Hp->Prop}
theorem uc{b:Bool}(e:xr h v w=some b):∃d f,toD 16 h v=some d/\toD 16 h w=some f/\b=PyData.eqv d f:=by
 unfold xr at e;obtain⟨d,e1,e⟩:=Vk.mp e;obtain⟨f,e2,e⟩:=Vk.mp e;exact⟨d,f,e1,e2,(VJ e).symm⟩
theorem xA{K:Frag}{ρ:List Addr}{H:Hp}{v:Val}{x:V}(q:VR K ρ H v x):decide (x=.non)=nK v:=by
 cases v<;>rw[VR]at q
 ·subst q;rfl
 ·subst q;rfl
 ·subst q;rfl
 ·subst q;rfl
 ·obtain⟨a,xs,rfl,_⟩:=q;rfl
 ·obtain⟨a,xs,rfl,_⟩:=q;rfl
 ·exact q.elim
 ·exact q.elim
 ·obtain⟨a,rfl,_⟩:=q;rfl
theorem Iu(hu:X.A.units+64<cLine)(neg:Bool):jC X (compareOp (if neg=true then .NotIn else .In)) (λx y H Q=>∃d f ds,Den X.K H d x/\Den X.K H f y/\d.canLay0=true/\f.canLay0=true/\d.depth<=16/\(f=.list ds\/f=.tuple ds)/\Q (.bl (if neg=true then !(ds.any λy=>PyData.eqv y d) else ds.any λy=>PyData.eqv y d)) H):=by
 intro pins s σ H x y v u Q I rx ry hh;obtain⟨d,f,ds,hd,hf,c1,c2,hz,e,q⟩:=hh;obtain⟨as,ra⟩:=Den.reads I d x v c1 hd rx;obtain⟨bs,rb⟩:=Den.reads I f y u c2 hf ry;have Pe:X.A.units+1+min (PyData.depthAll ds) d.depth<cLine:=by have:=Nat.min_le_right (PyData.depthAll ds) d.depth;omega
 rcases e with rfl|rfl
 ·have c3:PyData.canLayAll0 ds=true:=by simpa [PyData.canLay0] using c2
  cases neg with
  |true=>exact SeqAt.notIn_list_reads rb ra c3 c1 Pe ⟨.bl _,H,I,rfl,q⟩
  |false=>exact SeqAt.in_list_reads rb ra c3 c1 Pe ⟨.bl _,H,I,rfl,q⟩
 ·have c3:PyData.canLayAll0 ds=true:=by simpa [PyData.canLay0] using c2
  cases neg with
  |true=>exact SeqAt.notIn_tuple_reads rb ra c3 c1 Pe ⟨.bl _,H,I,rfl,q⟩
  |false=>exact SeqAt.in_tuple_reads rb ra c3 c1 Pe ⟨.bl _,H,I,rfl,q⟩
theorem gG.val{K:Frag}{ρ:List Addr}{H:Hp}(k:Key):∀{kvs:List (Key×Val)} {ks:List (Key×V)},gG K ρ H kvs ks->(dG kvs k=none->gD ks k=none)/\∀v,dG kvs k=some v->∃x,gD ks k=some x/\VR K ρ H v x
 | [],ks,e=>by
  have:ks=[]:=e;subst this;exact⟨λ_=>rfl,λv z=>by simp[dG]at z⟩
 | (k',v')::kvs,ks,⟨x,r,e,q1,q2⟩=>by
  subst e;obtain⟨a,b⟩:=gG.val k q2
  by_cases hk:k'=k
  ·subst hk;refine⟨λz=>by simp[dG]at z,λv z=>⟨x,by simp[gD],?_⟩⟩;simp[dG]at z;subst z;exact q1
  ·have e1:dG ((k',v')::kvs) k=dG kvs k:=by simp[dG,hk]
   have e2:gD ((k',x)::r) k=gD r k:=by simp[gD,hk]
   rw[e1,e2];exact⟨a,b⟩
theorem gG.length{K:Frag}{ρ:List Addr}{H:Hp}:∀{kvs:List (Key×Val)} {ks:List (Key×V)},gG K ρ H kvs ks->kvs.length=ks.length
 |[],ks,e=>by have:ks=[]:=e;subst this;rfl
 |(k',v')::kvs,ks,⟨x,r,e,q1,q2⟩=>by subst e;simp[gG.length q2]
theorem gG.any{K:Frag}{ρ:List Addr}{H:Hp}(k:Key):∀{kvs:List (Key×Val)} {ks:List (Key×V)},gG K ρ H kvs ks->(kvs.any λkv=>decide (kv.1=k))=(ks.any λkv=>decide (kv.1=k))
 |[],ks,e=>by have:ks=[]:=e;subst this;rfl
 |(k',v')::kvs,ks,⟨x,r,e,q1,q2⟩=>by subst e;simp only[List.any_cons];rw[gG.any k q2]
theorem gG.repl{K:Frag}{ρ:List Addr}{H:Hp}(k:Key){v:Val}{y:V}(q:VR K ρ H v y):∀{kvs:List (Key×Val)} {ks:List (Key×V)},gG K ρ H kvs ks->gG K ρ H (kvs.map λkv=>if kv.1=k then (kv.1,v) else kv) (ks.map λkv=>if kv.1=k then (kv.1,y) else kv)
 |[],ks,e=>by have:ks=[]:=e;subst this;rfl
 | (k',v')::kvs,ks,⟨x,r,e,q1,q2⟩=>by
  subst e;simp only[map_cons]
  by_cases hk:k'=k
  ·rw[Vv hk,Vv hk];exact⟨y,_,rfl,q,gG.repl k q q2⟩
  ·rw[Vw hk,Vw hk];exact⟨x,_,rfl,q1,gG.repl k q q2⟩
theorem gG.snoc{K:Frag}{ρ:List Addr}{H:Hp}(k:Key){v:Val}{y:V}(q:VR K ρ H v y):∀{kvs:List (Key×Val)} {ks:List (Key×V)},gG K ρ H kvs ks->gG K ρ H (kvs++[(k,v)]) (ks++[(k,y)])
 |[],ks,e=>by have:ks=[]:=e;subst this;exact⟨y,[],rfl,q,rfl⟩
 |(k',v')::kvs,ks,⟨x,r,e,q1,q2⟩=>by subst e;exact⟨x,_,rfl,q1,gG.snoc k q q2⟩
theorem gG.put{K:Frag}{ρ:List Addr}{H:Hp}(k:Key){v:Val}{y:V}(q:VR K ρ H v y){kvs:List (Key×Val)}{ks:List (Key×V)}(e:gG K ρ H kvs ks):gG K ρ H (j8 kvs k v) (putK ks k y):=by
 unfold j8 putK;rw[gG.any k e]
 split
 ·exact gG.repl k q e
 ·exact gG.snoc k q e
theorem Bf{K:Frag}{ρ:List Addr}{H:Hp}{v:Val}{x:V}{k:Key}(q:VR K ρ H v x)(e:keyOf v=some k):x=kV k:=by
 cases v<;>simp only[keyOf]at e<;>first|cases e|skip
 ·rw[VR]at q;exact q
 ·rw[VR]at q;exact q
theorem xB(hu:X.A.units+64<cLine):Lm X (λx y H Q=>∃a v,x=.ref a/\lH H a y (some v)/\Q v H):=by
 intro value slice pins s σ H x y v u Q I rx ry h hs;obtain⟨a,z,rfl,g,q⟩:=h;cases rx;have hT:=tE I g;unfold subscriptTail;refine Vm ?_;rw[getitemInPython_of_ne hT.not_modules];refine Vm (wpAny_specialOf hT PySem.F.slot_dict_getitem.lookup ?_);have fin:wpAny (model X.prog X.w) X.A (subscripted slice false (.ref a) u) (λr s₃=>wpAny (model X.prog X.w) X.A (letTemporaryGo value (.ref a) r >>= λ_=>pure r) (EP X pins σ Q) X.xe s₃) X.xe s:=by rw[hs];exact wpAny_operating (yN (by omega) I g ry λw' s' I' r'=>Vm (wpAny_letTemporaryGo (Vt ⟨z,H,I',r',q⟩)))
 first
  |exact Vt (Vm fin)
  |exact Vm (Vt (Vm fin))
  |exact Vm fin
def rC(B:Bd)(o:Im):R2:=λx y H Q=>∃ρ h v w b,HR B ρ h H/\VR B.K ρ H v x/\VR B.K ρ H w y/\cop h o v w=some b/\Q (.bl b) H
theorem kK{b:Bool}(e:memD h v w=some b):∃d f ds,toD 16 h v=some d/\toD 16 h w=some f/\(f=.list ds\/f=.tuple ds)/\b=ds.any λy=>PyData.eqv y d:=by
 unfold memD at e;obtain⟨f,e1,e⟩:=Vk.mp e;obtain⟨d,e2,e⟩:=Vk.mp e;cases f<;>simp only[Io]at e<;>first|cases e|skip
 ·exact⟨d,_,_,e2,e1,.inl rfl,rfl⟩
 ·exact⟨d,_,_,e2,e1,.inr rfl,rfl⟩
theorem zh{b:Bool}(hw:∀ks vs,w≠.dc ks vs)(e:rM h v w=some b):(∃x y,v=.str x/\w=.str y/\b = !(Builtin.Str.occurrences y x 0 y.length 1).isEmpty)\/(∃i kvs k,w=.ref i/\h[i]?=some (.dct kvs)/\keyOf v=some k/\b=(dG kvs k).isSome) \/
  ∃d f ds,toD 16 h v=some d/\toD 16 h w=some f/\(f=.list ds\/f=.tuple ds)/\b=ds.any λy=>PyData.eqv y d:=by
 cases w with
 |ref i=>
  have e':(h[i]?).bind (Ec h v i)=some b:=by cases v<;>exact e
  obtain⟨ob,e1,e2⟩:=Vk.mp e';cases ob with
  |dct kvs=>obtain⟨k,e3,e4⟩:=Vk.mp (show (keyOf v).bind _=some b from e2);exact .inr (.inl ⟨i,kvs,k,rfl,e1,e3,(VJ e4).symm⟩)
  |lst xs=>exact .inr (.inr (kK e2))
  |ins c fs=>exact .inr (.inr (kK e2))
 |dc ks vs=>exact absurd rfl (hw ks vs)
 |str y=>
  cases v with
  |str x=>exact .inl ⟨x,y,rfl,rfl,(VJ e).symm⟩
  |_=>exact .inr (.inr (kK e))
 |_=>exact .inr (.inr (kK (by cases v<;>exact e)))
theorem lP(hu:X.A.units+64<cLine)(o:Im):jC X (compareOp (mw o)) (rC (bd X cl) o):=by
 intro pins s σ H x y v' u' Q I rx ry hh;obtain⟨ρ,h,v,w,b,r,hv,hw,e,q⟩:=hh;have mem:∀(neg:Bool),rM h v w=some (if neg=true then !b else b)->wpAny (model X.prog X.w) X.A (compareOp (if neg=true then .NotIn else .In) v' u') (EP X pins σ Q) X.xe s:=by
  intro neg e;have nd:∀ks vs,w≠.dc ks vs:=λks vs z=>by subst z;rw[VR]at hw;exact hw.elim
  rcases zh nd e with ⟨a,c,rfl,rfl,eb⟩|⟨i,kvs,k,rfl,e1,e2,eb⟩|⟨d,f,ds,e1,e2,e3,eb⟩
  ·rw[VR]at hv;rw[VR]at hw;subst hv;subst hw
   cases neg with
   |true=>refine qU pins s σ H _ _ v' u' Q I rx ry ⟨a,c,rfl,rfl,?_⟩;rw[Vv rfl]at eb;rw[<-eb,Bool.not_not];exact q
   |false=>refine yH pins s σ H _ _ v' u' Q I rx ry ⟨a,c,rfl,rfl,?_⟩;rw[Vw Vl]at eb;rw[<-eb];exact q
  ·rw[VR]at hw
   obtain⟨a,rfl,k1⟩:=hw;obtain⟨ks,k2,k3⟩:=r.ob i _ a e1 k1;have ex:=Bf hv e2;subst ex;have es:(gD ks k).isSome=(dG kvs k).isSome:=by
    obtain⟨z1,z2⟩:=gG.val k k3;cases e4:dG kvs k with
    |none=>rw[z1 e4];rfl
    |some z=>obtain⟨x,z3,_⟩:=z2 z e4;rw[z3];rfl
   cases ry;cases neg with
   |true=>refine DR (by omega) I (lH.k (k:=k) k2) rx λs' I'=>⟨.bl _,H,I',rfl,?_⟩;rw[Vv rfl]at eb;rw[es,<-eb,Bool.not_not];exact q
   |false=>refine P8 (by omega) I (lH.k (k:=k) k2) rx λs' I'=>⟨.bl _,H,I',rfl,?_⟩;rw[Vw Vl]at eb;rw[es,<-eb];exact q
  ·obtain⟨a1,a2,a3⟩:=lN r 16 v x d hv e1
   obtain⟨b1,b2,b3⟩:=lN r 16 w y f hw e2;refine Iu hu neg pins s σ H x y v' u' Q I rx ry ⟨d,f,ds,a1,b1,a2,b2,a3,e3,?_⟩;cases neg with
   |true=>rw[Vv rfl]at eb |-;rw[<-eb,Bool.not_not];exact q
   |false=>rw[Vw Vl]at eb |-;rw[<-eb];exact q
 cases o with
 |eq=>obtain⟨d,f,e1,e2,rfl⟩:=uc (show xr h v w=some b by exact e);obtain⟨a1,a2,a3⟩:=lN r 16 v x d hv e1;obtain⟨b1,b2,b3⟩:=lN r 16 w y f hw e2;exact Ih hu pins s σ H x y v' u' Q I rx ry ⟨d,f,a1,b1,a2,b2,by omega,q⟩
 |ne=>have e':(xr h v w).map (!·)=some b:=e;obtain⟨c,e3,rfl⟩:=VS.mp e';obtain⟨d,f,e1,e2,rfl⟩:=uc e3;obtain⟨a1,a2,a3⟩:=lN r 16 v x d hv e1;obtain⟨b1,b2,b3⟩:=lN r 16 w y f hw e2;exact Ii hu pins s σ H x y v' u' Q I rx ry ⟨d,f,a1,b1,a2,b2,by omega,q⟩
 |lt=>obtain⟨i,j,rfl,rfl⟩:=jc (.inl rfl) e;cases e;rw[VR]at hv;rw[VR]at hw;subst hv;subst hw;exact L1 pins s σ H _ _ v' u' Q I rx ry ⟨_,_,rfl,rfl,q⟩
 |le=>obtain⟨i,j,rfl,rfl⟩:=jc (.inr (.inl rfl)) e;cases e;rw[VR]at hv;rw[VR]at hw;subst hv;subst hw;exact L3 pins s σ H _ _ v' u' Q I rx ry ⟨_,_,rfl,rfl,q⟩
 |gt=>obtain⟨i,j,rfl,rfl⟩:=jc (.inr (.inr (.inl rfl))) e;cases e;rw[VR]at hv;rw[VR]at hw;subst hv;subst hw;exact L4 pins s σ H _ _ v' u' Q I rx ry ⟨_,_,rfl,rfl,q⟩
 |ge=>obtain⟨i,j,rfl,rfl⟩:=jc (.inr (.inr (.inr rfl))) e;cases e;rw[VR]at hv;rw[VR]at hw;subst hv;subst hw;exact L5 pins s σ H _ _ v' u' Q I rx ry ⟨_,_,rfl,rfl,q⟩
 |isn=>
  have e:Gi v w=some b:=e;cases w<;>first|(cases e;done)|skip
  ·cases e;rw[VR]at hw;subst hw;refine HG pins s σ H x _ v' u' Q I rx ry ⟨rfl,?_⟩;rw[xA hv];exact q
  ·cases v<;>first|(cases e;done)|skip
   cases e;rw[VR]at hv;rw[VR]at hw;subst hv;subst hw;exact Ij pins s σ H _ _ v' u' Q I rx ry ⟨_,_,rfl,rfl,q⟩
 |ntn=>
  have e:(Gi v w).map (!·)=some b:=e;cases w<;>first|(cases e;done)|skip
  ·cases e;rw[VR]at hw;subst hw;refine DA pins s σ H x _ v' u' Q I rx ry ⟨rfl,?_⟩;rw[xA hv];exact q
  ·cases v<;>first|(cases e;done)|skip
   cases e;rw[VR]at hv;rw[VR]at hw;subst hv;subst hw;exact D8 pins s σ H _ _ v' u' Q I rx ry ⟨_,_,rfl,rfl,q⟩
 |Eb=>exact mem false (by rw[Vw Vl];exact e)
 |nin=>have e':(rM h v w).map (!·)=some b:=e;obtain⟨c,e3,rfl⟩:=VS.mp e';exact mem true (by rw[e3];simp)
theorem Iv{b:Bool}(r:HR B ρ h H)(q:VR B.K ρ H v x)(e:cP h v=some b):HH B.K x H b:=by
 cases v with
 |non=>rw[VR]at q;subst q;exact(VJ e).symm
 |bl c=>rw[VR]at q;subst q;exact(VJ e).symm
 |int i=>rw[VR]at q;subst q;exact(VJ e).symm
 |str z=>
  rw[VR]at q;subst q;simp only[cP]at e;split at e
  ·rename_i hl;exact⟨hl,(VJ e).symm⟩
  ·cases e
 |tup vs=>rw[VR]at q;obtain⟨a,xs,rfl,q1,q2⟩:=q;refine .inr (.inl ⟨xs,q1,?_⟩);rw[<-VJ e];have:=q2.length;cases vs<;>cases xs<;>simp_all
 |rl vs=>rw[VR]at q;obtain⟨a,xs,rfl,q1,q2⟩:=q;refine .inl ⟨xs,q1.sq,?_⟩;rw[<-VJ e];have:=q2.length;cases vs<;>cases xs<;>simp_all
 |dc _ _=>rw[VR]at q;exact q.elim
 |ob _ _ _=>rw[VR]at q;exact q.elim
 |ref i=>
  rw[VR]at q;obtain⟨a,rfl,q1⟩:=q;simp only[cP]at e;split at e
  ·rename_i vs e1;obtain⟨xs,k1,k2⟩:=r.ob i _ a e1 q1;refine .inl ⟨xs,.inl (.inl k1),?_⟩;rw[<-VJ e];have:=k2.length;cases vs<;>cases xs<;>simp_all
  ·rename_i vs e1;obtain⟨xs,k1,k2⟩:=r.ob i _ a e1 q1;refine .inr (.inr ⟨xs,k1,?_⟩);rw[<-VJ e];have:=k2.length;cases vs<;>cases xs<;>simp_all
  ·cases e
def Qy(B:Bd):R2:=λx y H Q=>∃ρ h v w z,HR B ρ h H/\VR B.K ρ H v x/\VR B.K ρ H w y/\gF h v w=some z/\∀u,VR B.K ρ H z u->Q u H
theorem Iw(hu:X.A.units+64<cLine):Lm X (Qy (bd X cl)):=by
 intro value slice pins s σ H x y v' u' Q I rx ry hh hs;obtain⟨ρ,h,v,w,z,r,hv,hw,e,q⟩:=hh;cases v with
 |str t=>
  cases w<;>first|cases e|skip
  rename_i i;change (if t.length<=sizeLine then (gC t.cps.toList i).map (λc=>Val.str ⟨[c].toArray⟩) else none)=some z at e;split at e
  ·rename_i hl;obtain⟨c,e1,rfl⟩:=VS.mp e;rw[VR]at hv;rw[VR]at hw;subst hv;subst hw;exact HV value slice pins s σ H _ _ v' u' Q I rx ry ⟨t,i,c,rfl,rfl,hl,e1,q _ VR.str⟩ hs
  ·cases e
 |tup vs=>
  cases w<;>first|cases e|skip
  rename_i i;rw[VR]at hv;rw[VR]at hw;subst hw;obtain⟨a,xs,rfl,q1,q2⟩:=hv;obtain⟨t,e2,q3⟩:=au.gC q2 e;exact HU value slice pins s σ H _ _ v' u' Q I rx ry ⟨a,xs,i,t,rfl,rfl,q1,e2,q _ q3⟩ hs
 |rl vs=>
  cases w<;>first|cases e|skip
  rename_i i;rw[VR]at hv;rw[VR]at hw;subst hw;obtain⟨a,xs,rfl,q1,q2⟩:=hv;obtain⟨t,e2,q3⟩:=au.gC q2 e;exact wZ value slice pins s σ H _ _ v' u' Q I rx ry ⟨a,xs,i,t,rfl,rfl,q1.sq,e2,q _ q3⟩ hs
 |ref j=>
  cases w with
  |int i=>
   change (match h[j]? with|some (.dct kvs)=>dG kvs (.inl i)|_=>(ay h (.ref j)).bind λxs=>gC xs i)=some z at e;split at e
   ·rename_i kvs e1;rw[VR]at hv;obtain⟨a,rfl,q1⟩:=hv;obtain⟨ks,k1,k2⟩:=r.ob j _ a e1 q1;obtain⟨t,e2,q3⟩:=(gG.val (.inl i) k2).2 z e;have g:lH H a (kV (.inl i)) (gD ks (.inl i)):=lH.k k1;rw[e2]at g;rw[VR]at hw;subst hw;exact xB hu value slice pins s σ H _ _ v' u' Q I rx ry ⟨a,t,rfl,g,q _ q3⟩ hs
   ·obtain⟨vs,e1,e⟩:=Vk.mp e;obtain⟨a,xs,rfl,q1,q2⟩:=cX r hv e1;rw[VR]at hw;subst hw;obtain⟨t,e2,q3⟩:=au.gC q2 e;exact wZ value slice pins s σ H _ _ v' u' Q I rx ry ⟨a,xs,i,t,rfl,rfl,q1,e2,q _ q3⟩ hs
  |str y=>
   change (match h[j]? with|some (.dct kvs)=>dG kvs (.inr y)|_=>none)=some z at e;split at e
   ·rename_i kvs e1;rw[VR]at hv;obtain⟨a,rfl,q1⟩:=hv;obtain⟨ks,k1,k2⟩:=r.ob j _ a e1 q1;obtain⟨t,e2,q3⟩:=(gG.val (.inr y) k2).2 z e;have g:lH H a (kV (.inr y)) (gD ks (.inr y)):=lH.k k1;rw[e2]at g;rw[VR]at hw;subst hw;exact xB hu value slice pins s σ H _ _ v' u' Q I rx ry ⟨a,t,rfl,g,q _ q3⟩ hs
   ·cases e
  |_=>cases e
 |dc _ _=>rw[VR]at hv;exact hv.elim
 |_=>cases w<;>cases e
def TF(B:Bd)(EX:Nat->List V->Hp->Prop):V->Option Int->Option Int->Hp->VK->Prop:=λx lo hi H Q=>∃ρ h v,HR B ρ h H/\VR B.K ρ H v x/\Post B EX ρ H (WV B.K Q) (pD v lo hi h)
theorem Iz:O8 X (TF (bd X cl) EX):=by
 intro pins s σ H x v' vl vu lo hi sl Q I rx hs pl pu hh;obtain⟨ρ,h,v,r,hv,p⟩:=hh;have lists:Post (bd X cl) EX ρ H (WV X.K Q) (bnd (ask λh=>ay h v) (λxs=>new (.lst (bO xs lo hi))) h)->∃T id,typeLookup (.type T) "__getitem__" = pure (some (.builtin id))/\s.TypeIs v' T/\wpAny (model X.prog X.w) X.A (getItem v' (.ref sl)) (EP X pins σ Q) X.xe s:=by intro p;obtain⟨a,e1,p⟩:=az p;obtain⟨a1,MA,rfl,k1,k2⟩:=cX r hv e1;exact DM pins s σ H _ v' vl vu lo hi sl Q I rx hs pl pu ⟨a1,MA,rfl,k1,λq hq=>dh r hq (au.cut lo hi k2) p⟩
 cases v with
 |tup vs=>simp only[pD]at p;rw[VR]at hv;obtain⟨a,xs,rfl,q1,q2⟩:=hv;obtain⟨e,p⟩:=aC p;refine HQ pins s σ H _ v' vl vu lo hi sl Q I rx hs pl pu ⟨a,xs,rfl,q1,?_,λq hq=>kJ r hq (au.cut lo hi q2) p⟩;rw[<-q2.length];simp only[not_eq_true',Bool.and_eq_false_iff,decide_eq_false_iff_not]at e;rintro⟨z1,z2⟩;exact e.elim (λk=>k z1) λk=>k z2
 |_=>exact lists p
end
end Hv
end
section
set_option backward.match.sparseCases false
namespace Hv
open PySem L2 PyProof.Rows
section
variable {X:Cx} {cl:Nat->Addr} {EX:Nat->List V->Hp->Prop}
def Dh(B:Bd)(EX:Nat->List V->Hp->Prop)(b:Bl):List V->Hp->VK->Prop:=λxs H Q=>∃ρ h vs,HR B ρ h H/\au B.K ρ H vs xs/\Post B EX ρ H (WV B.K Q) (blt b vs h)
theorem ID:bU X (.builtin "len") (Dh (bd X cl) EX .len):=by
 intro pins s σ H xs us Q I rr hh;obtain⟨ρ,h,vs,r,hv,p⟩:=hh
 match vs,p with
 |[v],p=>
  obtain⟨n,e,p⟩:=az p;obtain⟨x,rfl,hx⟩:=au.one hv;have fin:=ai r p _ VR.int;cases v with
  |str z=>
   simp only[jO]at e;split at e
   ·rename_i hl;cases e;rw[VR]at hx;subst hx;exact L2.ku pins s σ H _ us Q I rr ⟨_,z.length,rfl,⟨hl,rfl⟩,fin⟩
   ·cases e
  |tup vs=>simp only[jO]at e;cases e;rw[VR]at hx;obtain⟨a,ys,rfl,q1,q2⟩:=hx;refine L2.ku pins s σ H _ us Q I rr ⟨_,ys.length,rfl,.inr ⟨ys,q1,rfl⟩,?_⟩;rw[<-q2.length];exact fin
  |rl vs=>simp only[jO]at e;cases e;rw[VR]at hx;obtain⟨a,ys,rfl,q1,q2⟩:=hx;refine L2.ku pins s σ H _ us Q I rr ⟨_,ys.length,rfl,.inl ⟨ys,q1.sq,rfl⟩,?_⟩;rw[<-q2.length];exact fin
  |dc _ _=>rw[VR]at hx;exact hx.elim
  |ob _ _ _=>rw[VR]at hx;exact hx.elim
  |ref i=>
   rw[VR]at hx;obtain⟨a,rfl,q1⟩:=hx;simp only[jO]at e;split at e
   ·rename_i vs e1;cases e;obtain⟨ys,k1,k2⟩:=r.ob i _ a e1 q1;refine L2.ku pins s σ H _ us Q I rr ⟨_,ys.length,rfl,.inl ⟨ys,.inl (.inl k1),rfl⟩,?_⟩;rw[<-k2.length];exact fin
   ·rename_i vs e1;cases e;obtain⟨ks,k1,k2⟩:=r.ob i _ a e1 q1;refine yR pins s σ H _ us Q I rr ⟨a,ks,rfl,k1,?_⟩;rw[<-k2.length];exact fin
   ·cases e
  |_=>simp only[jO]at e;cases e
theorem IF(hc:X.calm=true):bU X (.builtin "min") (Dh (bd X cl) EX .min):=by
 intro pins s σ H xs us Q I rr hh;obtain⟨ρ,h,vs,r,hv,p⟩:=hh;have seq:∀v,vs=[v]->Post (bd X cl) EX ρ H (WV X.K Q) (bnd (ask λh=>cB h v) (λxs=>aN ((aQ xs).bind rK)) h)->wpAny (model X.prog X.w) X.A (call (.builtin "min") us) (EP X pins σ Q) X.xe s:=by
  rintro v rfl p;obtain⟨zs,e,p⟩:=az p;obtain⟨x,rfl,hx⟩:=au.one hv;obtain⟨a,ys,rfl,q1,q2⟩:=rO r hx e;obtain⟨m,e1,p⟩:=bZ r p;obtain⟨ns,e2,e3⟩:=Vk.mp e1;rw[di e2]at q2;rw[au.ints.mp q2]at q1;have hne:0<ns.length:=by cases ns with|nil=>cases e3|cons _ _=>simp
  refine rF hc pins s σ H _ us Q I rr ⟨a,ns,rfl,q1,hne,λm hm hmin=>?_⟩;rw[zf hm hmin]at e3;cases e3;exact p _ VR.int
 match vs,p with
 |[.int a,.int b],p=>obtain⟨x,y,rfl,hx,hy⟩:=au.two hv;rw[VR]at hx;rw[VR]at hy;subst hx;subst hy;exact yJ hc pins s σ H _ us Q I rr ⟨a,b,rfl,ai r p _ VR.int⟩
 |[v],p=>exact seq v rfl (by cases v<;>exact p)
theorem IG(hc:X.calm=true):bU X (.builtin "max") (Dh (bd X cl) EX .max):=by
 intro pins s σ H xs us Q I rr hh;obtain⟨ρ,h,vs,r,hv,p⟩:=hh;have seq:∀v,vs=[v]->Post (bd X cl) EX ρ H (WV X.K Q) (bnd (ask λh=>cB h v) (λxs=>aN ((aQ xs).bind rL)) h)->wpAny (model X.prog X.w) X.A (call (.builtin "max") us) (EP X pins σ Q) X.xe s:=by
  rintro v rfl p;obtain⟨zs,e,p⟩:=az p;obtain⟨x,rfl,hx⟩:=au.one hv;obtain⟨a,ys,rfl,q1,q2⟩:=rO r hx e;obtain⟨m,e1,p⟩:=bZ r p;obtain⟨ns,e2,e3⟩:=Vk.mp e1;rw[di e2]at q2;rw[au.ints.mp q2]at q1;have hne:0<ns.length:=by cases ns with|nil=>cases e3|cons _ _=>simp
  refine rG hc pins s σ H _ us Q I rr ⟨a,ns,rfl,q1,hne,λm hm hmin=>?_⟩;rw[zg hm hmin]at e3;cases e3;exact p _ VR.int
 match vs,p with
 |[.int a,.int b],p=>obtain⟨x,y,rfl,hx,hy⟩:=au.two hv;rw[VR]at hx;rw[VR]at hy;subst hx;subst hy;exact yI hc pins s σ H _ us Q I rr ⟨a,b,rfl,ai r p _ VR.int⟩
 |[v],p=>exact seq v rfl (by cases v<;>exact p)
theorem zj:bU X (.builtin "sorted") (Dh (bd X cl) EX .sorted):=by
 intro pins s σ H xs us Q I rr hh;obtain⟨ρ,h,vs,r,hv,p⟩:=hh
 match vs,p with
 |[v],p=>
  obtain⟨zs,e,p⟩:=az p;obtain⟨out,e1,p⟩:=bL p;obtain⟨x,rfl,hx⟩:=au.one hv;obtain⟨a,ys,rfl,q1,q2⟩:=cX r hx e;unfold fR at e1;split at e1
  ·rename_i h64
   cases e2:aQ zs with
   |some ns=>rw[e2]at e1;cases e1;rw[di e2]at q2 h64;rw[au.ints.mp q2]at q1;rw[Vp]at h64;exact lJ pins s σ H _ us Q I rr ⟨a,ns,rfl,q1,h64,λl hl=>dh r hl (au.ints.mpr rfl) p⟩
   |none=>rw[e2]at e1;obtain⟨m5,e3,e4⟩:=Vk.mp e1;cases e4;obtain⟨g1,g2⟩:=qo e3;rw[g1]at q2 h64;obtain⟨rs,r1,r2,r3⟩:=au.tups q2;rw[r1]at q1;rw[Vp,r2,Vp]at h64;refine lK pins s σ H _ us Q I rr ⟨a,rs,rfl,q1,h64,λp hp=>⟨r3 p hp,g2 _ (by rw[r2];exact List.mem_map_of_mem hp)⟩,λl qs hl hp hs=>?_⟩;have e4:qs.map (·.2)=kI m5:=Bb (by rw[r2];exact hp.map _) (WZ.mpr hs);rw[<-e4]at p;exact dh r hl (au.xu λz hz=>r3 z (hp.mem_iff.mp hz)) p
  ·cases e1
theorem Ef:bU X (.type "list") (Dh (bd X cl) EX .list):=by
 intro pins s σ H xs us Q I rr hh;obtain⟨ρ,h,vs,r,hv,p⟩:=hh
 match vs,p with
 |[v],p=>obtain⟨zs,e,p⟩:=az p;obtain⟨x,rfl,hx⟩:=au.one hv;obtain⟨a,ys,rfl,q1,q2⟩:=rO r hx e;exact rq pins s σ H _ us Q I rr ⟨a,ys,rfl,q1,λl hl=>dh r hl q2 p⟩
theorem Bg:bU X (.type "tuple") (Dh (bd X cl) EX .tuple):=by
 intro pins s σ H xs us Q I rr hh;obtain⟨ρ,h,vs,r,hv,p⟩:=hh
 match vs,p with
 |[v],p=>
  obtain⟨zs,e,p⟩:=az p;obtain⟨x,rfl,hx⟩:=au.one hv;obtain⟨a,ys,rfl,q1,q2⟩:=rO r hx e
  rcases q1 with q1|q1
  ·exact jV pins s σ H _ us Q I rr ⟨a,ys,rfl,.inl ⟨q1,λl hl=>kJ r hl q2 p⟩⟩
  ·exact jV pins s σ H _ us Q I rr ⟨a,ys,rfl,.inr ⟨q1,ai r p _ (VR.tup q1 q2)⟩⟩
theorem II:bU X (.type "str") (Dh (bd X cl) EX .str):=by
 intro pins s σ H xs us Q I rr hh;obtain⟨ρ,h,vs,r,hv,p⟩:=hh
 match vs,p with
 |[.int i],p=>obtain⟨e,p⟩:=aC p;obtain⟨x,rfl,hx⟩:=au.one hv;rw[VR]at hx;subst hx;exact qV pins s σ H _ us Q I rr ⟨i,rfl,VH e,ai r p _ VR.str⟩
theorem IJ:bU X (.type "int") (Dh (bd X cl) EX .int):=by
 intro pins s σ H xs us Q I rr hh;obtain⟨ρ,h,vs,r,hv,p⟩:=hh
 match vs,p with
 |[.int i],p=>obtain⟨x,rfl,hx⟩:=au.one hv;rw[VR]at hx;subst hx;exact pP pins s σ H _ us Q I rr (.inl ⟨i,rfl,ai r p _ VR.int⟩)
 |[.bl i],p=>obtain⟨x,rfl,hx⟩:=au.one hv;rw[VR]at hx;subst hx;exact pP pins s σ H _ us Q I rr (.inr ⟨i,rfl,ai r p _ VR.int⟩)
 |[.str z],p=>obtain⟨x,rfl,hx⟩:=au.one hv;rw[VR]at hx;subst hx;obtain⟨n,e1,p⟩:=bL p;obtain⟨e2,p⟩:=aC p;exact zd pins s σ H _ us Q I rr ⟨z,n,rfl,e1,VH e2,ai r p _ VR.int⟩
theorem IK(hc:X.calm=true):bU X (.builtin "all") (Dh (bd X cl) EX .all):=by
 intro pins s σ H xs us Q I rr hh;obtain⟨ρ,h,vs,r,hv,p⟩:=hh
 match vs,p with
 |[v],p=>obtain⟨zs,e,p⟩:=az p;obtain⟨bs,e1,p⟩:=bL p;obtain⟨x,rfl,hx⟩:=au.one hv;obtain⟨a,ys,rfl,q1,q2⟩:=cX r hx e;rw[kc e1]at q2;rw[au.bools.mp q2]at q1;exact pq hc pins s σ H _ us Q I rr ⟨a,bs,rfl,q1,ai r p _ VR.bl⟩
theorem IL(hc:X.calm=true):bU X (.builtin "any") (Dh (bd X cl) EX .any):=by
 intro pins s σ H xs us Q I rr hh;obtain⟨ρ,h,vs,r,hv,p⟩:=hh
 match vs,p with
 |[v],p=>obtain⟨zs,e,p⟩:=az p;obtain⟨bs,e1,p⟩:=bL p;obtain⟨x,rfl,hx⟩:=au.one hv;obtain⟨a,ys,rfl,q1,q2⟩:=cX r hx e;rw[kc e1]at q2;rw[au.bools.mp q2]at q1;exact pA hc pins s σ H _ us Q I rr ⟨a,bs,rfl,q1,ai r p _ VR.bl⟩
def TH(B:Bd)(EX:Nat->List V->Hp->Prop)(T:String):List V->Hp->VK->Prop:=λxs H Q=>∃ρ h v x,xs=[x,.ty T]/\HR B ρ h H/\VR B.K ρ H v x/\Post B EX ρ H (WV B.K Q) (blt (.isin T) [v] h)
theorem Eg(K:Frag)(t T:String)(ht:t∈["NoneType","bool","int","str","list","tuple","dict"])(hT:T∈["list","tuple","str","bool","int","dict"]) :
  kitOne K (.type t) (.type T)=some (decide (T=t\/(T = "int" /\ t = "bool"))):=by
 simp only[mem_cons,not_mem_nil,or_false]at ht hT
 rcases ht with rfl|rfl|rfl|rfl|rfl|rfl|rfl<;>rcases hT with rfl|rfl|rfl|rfl|rfl|rfl<;>rfl
theorem Eh{T:String}:bU X (.builtin "isinstance") (TH (bd X cl) EX T):=by
 intro pins s σ H xs us Q I rr hh;obtain⟨ρ,h,v,x,rfl,r,hx,p⟩:=hh;obtain⟨u,w',rfl,r1,r2⟩:=vals2 rr;cases r2;obtain⟨t,e,p⟩:=az p;obtain⟨b,e1,p⟩:=bL p;have q:=ai r p _ VR.bl;unfold tZ at e1;split at e1
 ·rename_i TJ
  have hT:T∈["list","tuple","str","bool","int","dict"]:=by simpa using TJ
  cases e1;have fin:∀tk,EP X pins σ Q (.bool (decide (T=t\/(T = "int" /\ t = "bool")))) { s with toks:=tk }:=λtk=>⟨.bl _,H,I.tok _,rfl,q⟩;have tab:=λht=>Eg X.K t T ht hT;cases v with
  |non=>rw[VR]at hx;subst hx;cases r1;simp only[tY]at e;cases e;exact WB PySem.W.kitx_none I.qT Wu (tab (by simp)) (λz=>nomatch z) fin
  |bl c=>rw[VR]at hx;subst hx;cases r1;simp only[tY]at e;cases e;exact WB PySem.W.kitx_bool I.qT Wu (tab (by simp)) (λz=>nomatch z) fin
  |int i=>rw[VR]at hx;subst hx;obtain⟨t',rfl⟩:=r1;simp only[tY]at e;cases e;exact WB PySem.W.kitx_int I.qT Wu (tab (by simp)) (λz=>nomatch z) fin
  |str i=>rw[VR]at hx;subst hx;obtain⟨t',rfl⟩:=r1;simp only[tY]at e;cases e;exact WB PySem.W.kitx_str I.qT Wu (tab (by simp)) (λz=>nomatch z) fin
  |tup vs=>rw[VR]at hx;obtain⟨a,ys,rfl,q1,_⟩:=hx;cases r1;simp only[tY]at e;cases e;obtain⟨_,_,⟨o,e1,e2,_⟩,_⟩:=I.tuple q1;exact WB PySem.W.kitx_tuple I.qT ⟨o,e1,e2⟩ (tab (by simp)) (λz=>nomatch z) fin
  |rl vs=>rw[VR]at hx;obtain⟨a,ys,rfl,q1,_⟩:=hx;cases r1;simp only[tY]at e;cases e;obtain⟨_,_,⟨o,n,e1,e2,_⟩,_⟩:=I.list q1.sq;exact WB kitx_list I.qT ⟨o,e1,e2⟩ (tab (by simp)) (λz=>nomatch z) fin
  |dc _ _=>rw[VR]at hx;exact hx.elim
  |ob _ _ _=>rw[VR]at hx;exact hx.elim
  |ref i=>
   rw[VR]at hx;obtain⟨a,rfl,q1⟩:=hx;cases r1;simp only[tY]at e;split at e
   ·rename_i vs e1;cases e;obtain⟨ys,k1,k2⟩:=r.ob i _ a e1 q1;obtain⟨_,_,⟨o,n,e1,e2,_⟩,_⟩:=I.list (xs:=ys) (.inl (.inl k1));exact WB kitx_list I.qT ⟨o,e1,e2⟩ (tab (by simp)) (λz=>nomatch z) fin
   ·rename_i vs e1;cases e;obtain⟨ks,k1,k2⟩:=r.ob i _ a e1 q1;obtain⟨_,_,vs,_,p⟩:=(show cg X.prog X.w H s.heap a (.dK ks) from I.hok a _ k1);obtain⟨o,es,ep,h1,h2,_⟩:=p;exact WB PySem.W.kitx_dict I.qT ⟨o,h1,h2.1⟩ (tab (by simp)) (λz=>nomatch z) fin
   ·cases e
 ·cases e1
def Lq(B:Bd)(EX:Nat->List V->Hp->Prop)(m:Me):V->List V->Hp->VK->Prop:=λx xs H Q=>∃ρ h v vs,HR B ρ h H/\VR B.K ρ H v x/\au B.K ρ H vs xs/\Post B EX ρ H (WV B.K Q) (met m v vs h)
theorem Ei:HS X "str.join" (Lq (bd X cl) EX .join):=by
 intro pins s σ H x xs v' us Q I rx rv hh;obtain⟨ρ,h,v,vs,r,hv,hvs,p⟩:=hh
 match v,vs,p with
 |.str z,[w],p=>obtain⟨zs,e,p⟩:=az p;obtain⟨ys,e1,p⟩:=bL p;obtain⟨e2,p⟩:=aC p;rw[VR]at hv;subst hv;obtain⟨y,rfl,hy⟩:=au.one hvs;obtain⟨a,ws,rfl,q1,q2⟩:=cX r hy e;rw[qm e1]at q2;rw[au.strs.mp q2]at q1;exact D5 pins s σ H _ _ v' us Q I rx rv ⟨z,a,ys,rfl,rfl,q1,VH e2,ai r p _ VR.str⟩
theorem nO{i:Nat}(r:HR B ρ h H)(hi:ρ[i]?=some a)(e:h[i]?=some u)(eU:H a=some U)(hm:Mu U=true)(q:OR B ρ (upd H a O) a o)
  (p:Post B EX ρ H (WV B.K Q) (bnd (put i o) (λ_=>ret Val.non) h)):Q .non (upd H a O) :=
 p ρ (upd H a O) (Gr.put (VP hi) eU hm) (r.put hi e q) _ VR.non
theorem zk:HS X "list.append" (Lq (bd X cl) EX .append):=by
 intro pins s σ H x xs v' us Q I rx rv hh;obtain⟨ρ,h,v,vs,r,hv,hvs,p⟩:=hh
 match v,vs,p with
 |.ref i,[w],p=>
  obtain⟨zs,e,p⟩:=az p;split at e
  ·rename_i zs' e1;cases e;obtain⟨e2,p⟩:=aC p;obtain⟨a,ys,rfl,q0,q1,q2⟩:=jI r hv e1;obtain⟨y,rfl,hy⟩:=au.one hvs;refine pV pins s σ H _ _ v' us Q I rx rv ⟨a,ys,y,rfl,rfl,q1,by rw[<-q2.length];exact VH e2,?_⟩;have g:Gr ρ H ρ (upd H a (.lst (ys++[y]))):=Gr.put (VP q0) q1 rfl;exact nO (o:=.lst (zs++[w])) r q0 e1 q1 rfl ⟨_,aW,au.append (au.up g _ _ q2) (au.up g _ _ (au.cons hy au.nil))⟩ p
  ·cases e
theorem zl:HS X "list.extend" (Lq (bd X cl) EX .extend):=by
 intro pins s σ H x xs v' us Q I rx rv hh;obtain⟨ρ,h,v,vs,r,hv,hvs,p⟩:=hh
 match v,vs,p with
 |.ref i,[w],p=>
  obtain⟨zs,e,p⟩:=az p;split at e
  ·rename_i zs' e1;cases e
   obtain⟨ws,e3,p⟩:=az p;obtain⟨e2,p⟩:=aC p;have e2:=VH e2;obtain⟨a,ys,rfl,q0,q1,q2⟩:=jI r hv e1;obtain⟨y,rfl,hy⟩:=au.one hvs;have fin:∀(bs:List V),au X.K ρ H ws bs->Q .non (upd H a (.lst (ys++bs))):=λbs hb=>by
    have g:Gr ρ H ρ (upd H a (.lst (ys++bs))):=Gr.put (VP q0) q1 rfl;exact nO (o:=.lst (zs++ws)) r q0 e1 q1 rfl ⟨_,aW,au.append (au.up g _ _ q2) (au.up g _ _ hb)⟩ p
   cases w with
   |tup ts=>simp only[ql]at e3;cases e3;rw[VR]at hy;obtain⟨b,bs,rfl,k1,k2⟩:=hy;exact vG pins s σ H _ _ v' us Q I rx rv ⟨a,b,ys,bs,rfl,rfl,q1,k1,by rw[<-q2.length,<-k2.length];exact e2,fin bs k2⟩
   |ref j=>
    simp only[ql,ay]at e3;split at e3
    ·rename_i ts e4;cases e3;obtain⟨b,bs,rfl,k0,k1,k2⟩:=jI r hy e4;exact yM pins s σ H _ _ v' us Q I rx rv ⟨a,b,ys,bs,rfl,rfl,q1,k1,by rw[<-q2.length,<-k2.length];exact e2,fin bs k2⟩
    ·cases e3
   |_=>simp only[ql]at e3;cases e3
  ·cases e
theorem au.era{K:Frag}{ρ:List Addr}{H:Hp}:∀{vs:List Val} {xs:List V} (n:Nat),au K ρ H vs xs->au K ρ H (vs.eraseIdx n) (xs.eraseIdx n)
 |[],_,n,e=>by rw[au]at e;subst e;exact au.nil
 | _::_,_,n,e=>by
  rw[au]at e;obtain⟨x,r,rfl,e1,e2⟩:=e;cases n with
  |zero=>exact e2
  |succ n=>exact au.cons e1 (au.era n e2)
theorem zm:HS X "list.remove" (Lq (bd X cl) EX .remove):=by
 intro pins s σ H x xs v' us Q I rx rv hh;obtain⟨ρ,h,v,vs,r,hv,hvs,p⟩:=hh
 match v,vs,p with
 |.ref i,[.int k],p=>
  obtain⟨zs,e,p⟩:=az p;split at e
  ·rename_i zs' e1;cases e;obtain⟨ks,e3,p⟩:=bL p;obtain⟨e2,p⟩:=aC p;have e3:=di e3;subst e3;obtain⟨a,ys,rfl,q0,q1,q2⟩:=jI r hv e1;have hys:=au.ints.mp q2;subst hys;obtain⟨y,rfl,hy⟩:=au.one hvs;rw[VR]at hy;subst hy;refine zc pins s σ H _ _ v' us Q I rx rv ⟨a,ks,k,rfl,rfl,q1,VH e2,?_⟩;have g:Gr ρ H ρ (upd H a (.lst ((ks.map V.int).eraseIdx (ks.idxOf k)))):=Gr.put (VP q0) q1 rfl;exact nO (o:=.lst ((ks.map Val.int).eraseIdx (ks.idxOf k))) r q0 e1 q1 rfl ⟨_,aW,au.era _ (au.up g _ _ q2)⟩ p
  ·cases e
theorem IM:HS X "str.split" (Lq (bd X cl) EX .pop):=by
 intro pins s σ H x xs v' us Q I rx rv hh;obtain⟨ρ,h,v,vs,r,hv,hvs,p⟩:=hh
 match v,vs,p with
 |.str z,[.str y],p=>obtain⟨e2,p⟩:=aC p;rw[VR]at hv;subst hv;obtain⟨w,rfl,hy⟩:=au.one hvs;rw[VR]at hy;subst hy;exact AZ pins s σ H _ _ v' us Q I rx rv ⟨z,y,rfl,rfl,e2,λl hl=>dh r hl (au.strs.mpr rfl) p⟩
end
def nP(f:Str->Pos->Bool):Expr->Bool
 |.Name a b=>f a b
 |_=>false
theorem rP{f:Str->Pos->Bool}{P:Expr->Prop}{e:Expr}(h:nP f e=true)(H:∀a b,f a b=true->P (.Name a b)):P e:=by
 cases e<;>first|exact H _ _ h|exact(Vl h).elim
def vQ(f:Const->Nat->Pos->Bool):Expr->Bool
 |.Constant a b c=>f a b c
 |_=>false
theorem ud{f:Const->Nat->Pos->Bool}{P:Expr->Prop}{e:Expr}(h:vQ f e=true)(H:∀a b c,f a b c=true->P (.Constant a b c)):P e:=by
 cases e<;>first|exact H _ _ _ h|exact(Vl h).elim
def MB(f:Expr->Operator->Expr->Pos->Bool):Expr->Bool
 |.BinOp a b c d=>f a b c d
 |_=>false
theorem IP{f:Expr->Operator->Expr->Pos->Bool}{P:Expr->Prop}{e:Expr}(h:MB f e=true)(H:∀a b c d,f a b c d=true->P (.BinOp a b c d)):P e:=by
 cases e<;>first|exact H _ _ _ _ h|exact(Vl h).elim
def Qz(f:UnaryOp->Expr->Pos->Bool):Expr->Bool
 |.UnaryOp a b c=>f a b c
 |_=>false
theorem MC{f:UnaryOp->Expr->Pos->Bool}{P:Expr->Prop}{e:Expr}(h:Qz f e=true)(H:∀a b c,f a b c=true->P (.UnaryOp a b c)):P e:=by
 cases e<;>first|exact H _ _ _ h|exact(Vl h).elim
def IQ(f:Expr->List CmpOp->List Expr->Pos->Bool):Expr->Bool
 |.Compare a b c d=>f a b c d
 |_=>false
theorem Bh{f:Expr->List CmpOp->List Expr->Pos->Bool}{P:Expr->Prop}{e:Expr}(h:IQ f e=true)(H:∀a b c d,f a b c d=true->P (.Compare a b c d)):P e:=by
 cases e<;>first|exact H _ _ _ _ h|exact(Vl h).elim
def rQ(f:BoolOp->List Expr->Pos->Bool):Expr->Bool
 |.BoolOp a b c=>f a b c
 |_=>false
theorem qt{f:BoolOp->List Expr->Pos->Bool}{P:Expr->Prop}{e:Expr}(h:rQ f e=true)(H:∀a b c,f a b c=true->P (.BoolOp a b c)):P e:=by
 cases e<;>first|exact H _ _ _ h|exact(Vl h).elim
def MD(f:List Expr->Nat->Pos->Bool):Expr->Bool
 |.Tuple a b c=>f a b c
 |_=>false
theorem IT{f:List Expr->Nat->Pos->Bool}{P:Expr->Prop}{e:Expr}(h:MD f e=true)(H:∀a b c,f a b c=true->P (.Tuple a b c)):P e:=by
 cases e<;>first|exact H _ _ _ h|exact(Vl h).elim
def ME(f:List Expr->Pos->Bool):Expr->Bool
 |.List a b=>f a b
 |_=>false
theorem IU{f:List Expr->Pos->Bool}{P:Expr->Prop}{e:Expr}(h:ME f e=true)(H:∀a b,f a b=true->P (.List a b)):P e:=by
 cases e<;>first|exact H _ _ h|exact(Vl h).elim
def Ej(f:Expr->Expr->Pos->Bool):Expr->Bool
 |.Subscript a b c=>f a b c
 |_=>false
theorem vR{f:Expr->Expr->Pos->Bool}{P:Expr->Prop}{e:Expr}(h:Ej f e=true)(H:∀a b c,f a b c=true->P (.Subscript a b c)):P e:=by
 cases e<;>first|exact H _ _ _ h|exact(Vl h).elim
def MF(f:Option Expr->Option Expr->Option Expr->Pos->Bool):Expr->Bool
 |.Slice a b c d=>f a b c d
 |_=>false
theorem IV{f:Option Expr->Option Expr->Option Expr->Pos->Bool}{P:Expr->Prop}{e:Expr}(h:MF f e=true)(H:∀a b c d,f a b c d=true->P (.Slice a b c d)):P e:=by
 cases e<;>first|exact H _ _ _ _ h|exact(Vl h).elim
def Bj(f:Expr->List Expr->List Keyword->Pos->Bool):Expr->Bool
 |.Call a b c d=>f a b c d
 |_=>false
theorem xC{f:Expr->List Expr->List Keyword->Pos->Bool}{P:Expr->Prop}{e:Expr}(h:Bj f e=true)(H:∀a b c d,f a b c d=true->P (.Call a b c d)):P e:=by
 cases e<;>first|exact H _ _ _ _ h|exact(Vl h).elim
def Gm(f:Expr->Str->Pos->Bool):Expr->Bool
 |.Attribute a b c=>f a b c
 |_=>false
theorem Ek{f:Expr->Str->Pos->Bool}{P:Expr->Prop}{e:Expr}(h:Gm f e=true)(H:∀a b c,f a b c=true->P (.Attribute a b c)):P e:=by
 cases e<;>first|exact H _ _ _ h|exact(Vl h).elim
def Gn(f:Expr->List Comprehension->Scope->Pos->Bool):Expr->Bool
 |.ListComp a b c d=>f a b c d
 |_=>false
theorem El{f:Expr->List Comprehension->Scope->Pos->Bool}{P:Expr->Prop}{e:Expr}(h:Gn f e=true)(H:∀a b c d,f a b c d=true->P (.ListComp a b c d)):P e:=by
 cases e<;>first|exact H _ _ _ _ h|exact(Vl h).elim
def Bk(f:List (Option Expr)->List Expr->Pos->Bool):Expr->Bool
 |.Dict a b c=>f a b c
 |_=>false
theorem xD{f:List (Option Expr)->List Expr->Pos->Bool}{P:Expr->Prop}{e:Expr}(h:Bk f e=true)(H:∀a b c,f a b c=true->P (.Dict a b c)):P e:=by
 cases e<;>first|exact H _ _ _ h|exact(Vl h).elim
section
variable {α:Type} {f:α -> Bool} {g:α -> List α -> Bool} {P:List α -> Prop} {Q:Option α -> Prop} {l:List α} {b:Bool} {o:Option α}
def pF(l:List α)(b:Bool):Bool:=l.isEmpty&&b
theorem lQ(h:pF l b=true)(H:b=true->P []):P l:=by
 cases l with
 |nil=>exact H h
 |cons _ _=>cases h
def kC(f:α -> List α -> Bool):List α -> Bool
 |a::r=>f a r
 |[]=>false
theorem vS(h:kC g l=true)(H:∀a r,g a r=true->P (a::r)):P l:=by
 cases l with
 |nil=>cases h
 |cons a r=>exact H a r h
def k1(f:α -> Bool):List α -> Bool:=kC λa r=>pF r (f a)
theorem nQ(h:k1 f l=true)(H:∀a,f a=true->P [a]):P l:=by
 apply vS h;intro a r h;apply lQ h;intro h;exact H a h
def k2(f:α -> α -> Bool):List α -> Bool:=kC λa r=>k1 (f a) r
theorem MG{f:α -> α -> Bool}(h:k2 f l=true)(H:∀a b,f a b=true->P [a,b]):P l:=by
 apply vS h;intro a r h;apply nQ h;intro b h;exact H a b h
def Bm(l:Option α)(b:Bool):Bool:=l.isNone&&b
theorem xE(h:Bm o b=true)(H:b=true->Q none):Q o:=by
 cases o with
 |none=>exact H h
 |some _=>cases h
def Bo(f:α -> Bool)(l:Option α):Bool:=l.any f
theorem xF(h:Bo f o=true)(H:∀a,f a=true->Q (some a)):Q o:=by
 cases o with
 |none=>cases h
 |some a=>exact H a h
def IW[DecidableEq α](a b:α)(c:Bool):Bool:=decide (a=b)&&c
theorem xG[DecidableEq α]{P:α -> Prop}{a d:α}(h:IW a d b=true)(H:b=true->P d):P a:=by
 rw[IW,W5,Wn]at h;rw[h.1];exact H h.2
end
def Bp(f:Str->Pos->List Expr->Pos->Bool):Expr->Bool:=Bj λg l k p=>nP (λx q=>pF k (f x q l p)) g
theorem nR{f:Str->Pos->List Expr->Pos->Bool}{P:Expr->Prop}{e:Expr}(h:Bp f e=true)(H:∀x q l p,f x q l p=true->P (.Call (.Name x q) l [] p)):P e:=by
 apply xC h;intro g l k p h;apply rP h;intro x q h;apply lQ h;intro h;exact H x q l p h
def MH(f:Expr->Str->Pos->List Expr->Pos->Bool):Expr->Bool:=Bj λg l k p=>Gm (λo x q=>pF k (f o x q l p)) g
theorem MI{f:Expr->Str->Pos->List Expr->Pos->Bool}{P:Expr->Prop}{e:Expr}(h:MH f e=true)(H:∀o x q l p,f o x q l p=true->P (.Call (.Attribute o x q) l [] p)):P e:=by
 apply xC h;intro g l k p h;apply Ek h;intro o x q h;apply lQ h;intro h;exact H o x q l p h
def MJ(f:Expr->Expr->List Expr->Int->Bool)(c:Comprehension):Bool:=f c.target c.iter c.ifs c.is_async
theorem IX{f:Expr->Expr->List Expr->Int->Bool}{P:Comprehension->Prop}{c:Comprehension}(h:MJ f c=true)(H:∀a b d i,f a b d i=true->P ⟨a,b,d,i⟩):P c:=by
 cases c;exact H _ _ _ _ h
def MK(f:Str->Bool):Const->Bool
 |.str s=>f s
 |_=>false
theorem IY{f:Str->Bool}{P:Const->Prop}{e:Const}(h:MK f e=true)(H:∀s,f s=true->P (.str s)):P e:=by
 cases e<;>first|exact H _ h|exact(Vl h).elim
theorem TL{a b:Bool}(h:(a||b)=true):a=true\/b=true:=by
 cases a with
 |true=>exact .inl rfl
 |false=>exact .inr h
def Bq(f:Expr->Pos->Bool):Stmt->Bool
 |.Expr a b=>f a b
 |_=>false
theorem xH{f:Expr->Pos->Bool}{P:Stmt->Prop}{e:Stmt}(h:Bq f e=true)(H:∀a b,f a b=true->P (.Expr a b)):P e:=by
 cases e<;>first|exact H _ _ h|exact(Vl h).elim
def IZ(f:List Expr->Expr->Pos->Bool):Stmt->Bool
 |.Assign a b c=>f a b c
 |_=>false
theorem Br{f:List Expr->Expr->Pos->Bool}{P:Stmt->Prop}{e:Stmt}(h:IZ f e=true)(H:∀a b c,f a b c=true->P (.Assign a b c)):P e:=by
 cases e<;>first|exact H _ _ _ h|exact(Vl h).elim
def QA(f:Expr->Operator->Expr->Pos->Bool):Stmt->Bool
 |.AugAssign a b c d=>f a b c d
 |_=>false
def RP(f:Expr->List Stmt->List Stmt->Pos->Bool):Stmt->Bool
 |.If a b c d=>f a b c d
 |_=>false
theorem ML{f:Expr->List Stmt->List Stmt->Pos->Bool}{P:Stmt->Prop}{e:Stmt}(h:RP f e=true)(H:∀a b c d,f a b c d=true->P (.If a b c d)):P e:=by
 cases e<;>first|exact H _ _ _ _ h|exact(Vl h).elim
def MM(f:Expr->Expr->List Stmt->List Stmt->Pos->Bool):Stmt->Bool
 |.For a b c d i=>f a b c d i
 |_=>false
theorem I0{f:Expr->Expr->List Stmt->List Stmt->Pos->Bool}{P:Stmt->Prop}{e:Stmt}(h:MM f e=true)(H:∀a b c d i,f a b c d i=true->P (.For a b c d i)):P e:=by
 cases e<;>first|exact H _ _ _ _ _ h|exact(Vl h).elim
def Ja(f:Expr->List Stmt->List Stmt->Pos->Bool):Stmt->Bool
 |.While a b c d=>f a b c d
 |_=>false
def Jb(f:Option Expr->Pos->Bool):Stmt->Bool
 |.Return a b=>f a b
 |_=>false
theorem Bs{f:Option Expr->Pos->Bool}{P:Stmt->Prop}{e:Stmt}(h:Jb f e=true)(H:∀a b,f a b=true->P (.Return a b)):P e:=by
 cases e<;>first|exact H _ _ h|exact(Vl h).elim
def MN(f:Pos->Bool):Stmt->Bool
 |.Break a=>f a
 |_=>false
theorem Jc{f:Pos->Bool}{P:Stmt->Prop}{e:Stmt}(h:MN f e=true)(H:∀a,f a=true->P (.Break a)):P e:=by
 cases e<;>first|exact H _ h|exact(Vl h).elim
def MO(f:Pos->Bool):Stmt->Bool
 |.Continue a=>f a
 |_=>false
theorem Jd{f:Pos->Bool}{P:Stmt->Prop}{e:Stmt}(h:MO f e=true)(H:∀a,f a=true->P (.Continue a)):P e:=by
 cases e<;>first|exact H _ h|exact(Vl h).elim
def Gp(f:Pos->Bool):Stmt->Bool
 |.Pass a=>f a
 |_=>false
theorem Em{f:Pos->Bool}{P:Stmt->Prop}{e:Stmt}(h:Gp f e=true)(H:∀a,f a=true->P (.Pass a)):P e:=by
 cases e<;>first|exact H _ h|exact(Vl h).elim
end Hv
end
section
namespace Hv
open PySem L2 PyProof.Rows
structure Tb where
 nc:Nat
 MP:List Str
 Je:List (Nat×Str×Nat)
 Jf:List (Str×Str×Nat)
 isc:List (Str×List Bool)
structure oY where
 N:List Str
 sc:Scope
 fns:List (Str×Nat)
 cons:List (Str×Val)
 tb:Tb
def Jg(sc:Scope)(x:Str):Bool:=(sc.names.lookup x==some .local||sc.names.lookup x==some .cell||sc.names.lookup x==some .free) && !(x==("__debug__":Str)) && !(x==("__classdict__":Str))
def vU(sc:Scope)(x:Str):Bool:=sc.names.lookup x==some .globalImplicit && !(x==("__debug__":Str)) && !(x==("__name__":Str))
def Bt:Const->Val->Bool
 |.none,.non=>true
 |.bool a,.bl b=>a==b
 |.int a,.int b=>a==b
 |.str a,.str b=>a==b
 |_,_=>false
def Jh(o:Gh)(op:Operator):Bool:=decide (op=Bc o)
def En(o:Im)(op:CmpOp):Bool:=decide (op=mw o)
def MQ:Bl->Str
 |.len=>"len" | .min=>"min" | .max=>"max" | .sorted=>"sorted" | .list=>"list" | .tuple=>"tuple" | .str=>"str" | .int=>"int" | .all=>"all" | .any=>"any" | .isin _=>"isinstance"
def noStar:Expr->Bool
 |.Starred ..=>false
 |_=>true
def m6:Expr->Bool
 |.Slice ..=>false
 |_=>true
def Eo:Expr->Bool
 |.Name ..=>true|.Call ..=>true|.Subscript ..=>true|.List ..=>true|.Tuple ..=>true|.ListComp ..=>true|.Attribute ..=>true|.BinOp ..=>true
 |_=>false
def superB:Expr->Bool
 |.Call (.Name _ _) [] [] _=>false
 |_=>true
def Gq(scope xsc:Scope):Scope :=
 { scope with names:=scope.names.map λ(n,k)=>if (k==.free&&xsc.kind==.function&&xsc.names.lookup n==some .cell) then (n,.cell) else (n,k) }
def oY.Gs(Γ:oY)(scope:Scope)(N':List Str):oY:={ Γ with N:=N',sc:=Gq scope Γ.sc }
def zo(Γ:oY):vP->Expr->Bool
 |.one i,.Name x _=>Γ.N[i]?==some x && Γ.sc.names.lookup x==some .local
 | .tup is,.Tuple es _ _=>es.length==is.length&&(is.zip es).all λp=>match p.2 with
  |.Name x _=>Γ.N[p.1]?==some x && Γ.sc.names.lookup x==some .local
  |_=>false
 |_,_=>false
def ue:vP->List Nat
 |.one i=>[i]
 |.tup is=>is
def TM:Me->Str
 |.join=>"join" | .append=>"append" | .extend=>"extend" | .remove=>"remove" | .pop=>"split"
def vV:Val->Val->Bool
 |.non,.non=>true
 |.bl a,.bl b=>a==b
 |.int a,.int b=>a==b
 |.str a,.str b=>a==b
 |_,_=>false
def Ji:j7->Bool
 |.nil=>true
 |.cons ..=>false
theorem Bu{b:Bool}(h:(Ji es&&b)=true):es=.nil/\b=true:=by
 cases es with
 |nil=>exact⟨rfl,h⟩
 |cons _ _=>cases h
mutual
noncomputable def bC(Γ:oY):IE->Expr->Bool
 |.var i,e=>nP (λx _=>Γ.N[i]?==some x&&Jg Γ.sc x) e
 |.cst d,e=>vQ (λc _ _=>Bt c d) e
 |.con x d,e=>nP (λy _=>x==y&&vU Γ.sc x && Γ.cons.any λp=>p.1==x&&vV p.2 d) e
 |.no,_=>false
 |.bin o a b,e=>MB (λl op r _=>Jh o op&&bC Γ a l&&bC Γ b r) e
 |.neg a,e=>Qz (λq1 l _=>IW q1 .USub (bC Γ a l)) e
 |.cmp o a b,e=>IQ (λl q1 q2 _=>k1 (λop=>k1 (λr=>En o op && !behindInMarks op r&&bC Γ a l&&bC Γ b r) q2) q1) e
 |.chn o p a b c,e=>IQ (λl q1 q2 _=>k2 (λop op'=>k2 (λm r=>En o op&&En p op' && !behindInMarks op m && !behindInMarks op' r&&bC Γ a l&&bC Γ b m&&bC Γ c r) q2) q1) e
 |.and a b,e=>rQ (λq1 q2 pos=>IW q1 .And (kC (λl q3=>kC (λm r=>bC Γ a l&&(match r with|[]=>bC Γ b m|n::r'=>bC Γ b (.BoolOp .And (m::n::r') pos))) q3) q2)) e
 |.or a b,e=>rQ (λq1 q2 pos=>IW q1 .Or (kC (λl q3=>kC (λm r=>bC Γ a l&&(match r with|[]=>bC Γ b m|n::r'=>bC Γ b (.BoolOp .Or (m::n::r') pos))) q3) q2)) e
 |.not a,e=>Qz (λq1 l _=>IW q1 .Not (bC Γ a l)) e
 |.ite _ _ _,_=>false
 |.tup es,e=>MD (λls _ _=>aT Γ es ls) e
 |.lst es,e=>ME (λls _=>aT Γ es ls) e
 |.idx a b,e=>Ej (λl r _=>m6 r&&bC Γ a l&&bC Γ b r) e
 |.slc a lo hi,e=>Ej (λl q1 _=>MF (λl' h' q2 _=>Bm q2 (bC Γ a l&&(match l' with|none=>cQ lo|some e=>!cQ lo&&bC Γ lo e)&&(match h' with|none=>cQ hi|some e=>!cQ hi&&bC Γ hi e))) q1) e
 |.call j es,e=>Bp (λx _ args _=>vU Γ.sc x && Γ.fns[j]?==some (x,args.length)&&decide (args.length<1000)&&aT Γ es args) e
 | .blt b es,e=>Bp (λx _ args _=>vU Γ.sc x&&x==MQ b&&(match b with
   |.isin T=>(match args with|[a,.Name y _]=>vU Γ.sc y&&y==(T:Str)&&["list","tuple","str","bool","int","dict"].contains T&&aT Γ es [a]|_=>false)
   |_=>!args.isEmpty&&aT Γ es args)) e
 |.met m a es,e=>MH (λo x ap args cp=>x==TM m&&superB o && !args.isEmpty&&decide (args.length<29)&&ap.endLine==cp.line&&bC Γ a o&&aT Γ es args) e
 | .comp N' js pat k it c elt,e=>Gn (λe q1 scope _=>k1 (λq2=>MJ (λtg iter ifs q3=>IW q3 0 (jF Γ.N Γ.sc scope N' js&&xK Γ k it iter&&decide (N'.Nodup)&&zo (Γ.Gs scope N') pat tg&&((ue pat).all λi=>js[i]?==some none)&&(match k,pat with|.enum,.one _=>false|.zip,.one _=>false|_,_=>true) &&
   (match ifs with|[]=>cQ c|[t]=>!cQ c&&bC (Γ.Gs scope N') c t|_=>false)&&bC (Γ.Gs scope N') elt e)) q2) q1) e
 |.dct0,e=>Bk (λq1 q2 _=>pF q1 (pF q2 (true))) e
 |.sset a,e=>Bp (λx _ q1 _=>k1 (λq2=>Bp (λy _ q3 _=>k1 (λl=>x==("sorted":Str)&&y==("set":Str)&&vU Γ.sc x&&vU Γ.sc y&&noStar l&&bC Γ a l) q3) q2) q1) e
 |.dget d k x,e=>MH (λo m ap q1 cp=>k2 (λa b=>m==("get":Str)&&superB o&&noStar a&&noStar b&&ap.endLine==cp.line&&bC Γ d o&&bC Γ k a&&bC Γ x b) q1) e
 |.dct1 k v,e=>Bk (λq1 q2 _=>k1 (λq3=>Bo (λa=>k1 (λb=>bC Γ k a&&bC Γ v b) q2) q3) q1) e
 |.lkeys d,e=>Bp (λx _ q1 _=>k1 (λq2=>MH (λo m ap q3 cp=>pF q3 (x==("list":Str)&&m==("keys":Str)&&vU Γ.sc x&&superB o&&ap.endLine==cp.line&&bC Γ d o)) q2) q1) e||Bp (λx _ q1 _=>k1 (λq2=>nP (λy q=>x==("list":Str)&&vU Γ.sc x&&bC Γ d (.Name y q)) q2) q1) e
 |.sdef _ _ _,_=>false
 |.svals _,_=>false
 |.skeys d,e=>Bp (λx _ q1 _=>k1 (λq2=>MH (λo m ap q3 cp=>pF q3 (x==("sorted":Str)&&m==("keys":Str)&&vU Γ.sc x&&superB o&&ap.endLine==cp.line&&bC Γ d o)) q2) q1) e||Bp (λx _ q1 _=>k1 (λq2=>nP (λy q=>x==("sorted":Str)&&vU Γ.sc x&&bC Γ d (.Name y q)) q2) q1) e
 |.fld _ _ _,_=>false
 |.rev _ _,_=>false
 |.dflt _ _ _ _ _ _,_=>false
 |.isc _ _ _,_=>false
 |.mth _ _ _ _,_=>false
noncomputable def aT(Γ:oY):j7->List Expr->Bool
 |.nil,ls=>ls.isEmpty
 | .cons e es,ls=>match ls with
  |l::ls=>noStar l&&bC Γ e l&&aT Γ es ls
  |[]=>false
noncomputable def xK(Γ:oY)(k:Ik):j7->Expr->Bool
 |.nil,_=>false
 | .cons e es,l=>match k with
  |.seq=>Ji es&&(Eo l&&bC Γ e l)
  |.range=>Bp (λx _ as _=>kC (λa args=>x==("range":Str)&&vU Γ.sc x&&noStar a&&bC Γ e a&&aT Γ es args&&decide (args.length<2)) as) l
  |.enum=>Ji es&&Bp (λx _ as _=>k1 (λa=>x==("enumerate":Str)&&vU Γ.sc x&&noStar a&&bC Γ e a) as) l
  |.zip=>false
end
abbrev Fn:=Nat->List Val->M Val
def cM(K:Frag)(ρ:List Addr)(env:Env)(σ:L2.St)(H:Hp):Prop:=∀(i:Nat) (v:Val),env[i]?=some (some v)->∃x,σ[i]?=some (some x)/\VR K ρ H v x
theorem cM.jZ{K:Frag}{ρ ρ':List Addr}{env:Env}{σ:L2.St}{H H':Hp}(e:cM K ρ env σ H)(g:Gw ρ H ρ' H'):cM K ρ' env σ H':=λi v q=>by
 obtain⟨x,q1,q2⟩:=e i v q;exact⟨x,q1,VR.jZ g v x q2⟩
theorem cM.up{K:Frag}{ρ ρ':List Addr}{env:Env}{σ:L2.St}{H H':Hp}(e:cM K ρ env σ H)(g:Gr ρ H ρ' H'):cM K ρ' env σ H':=e.jZ g.w
def TN(K:Frag)(Q:List V->Hp->Prop):List Val->Hs->List Addr->Hp->Prop:=λvs _ ρ' H'=>∀xs,au K ρ' H' vs xs->Q xs H'
def WT(Q:Bool->Hp->Prop):Bool->Hs->List Addr->Hp->Prop:=λb _ _ H'=>Q b H'
def Jj(Φ:Fn)(ir:IE)(env:Env):M Bool:=bnd (aI Φ ir env) λx=>ask λh=>cP h x
def tV(Φ:Fn)(B:Bd)(EX:Nat->List V->Hp->Prop)(ir:IE):TE:=λσ H Q=>∃ρ env h,cM B.K ρ env σ H/\HR B ρ h H/\Post B EX ρ H (WV B.K Q) (aI Φ ir env h)
def RQ(Φ:Fn)(B:Bd)(EX:Nat->List V->Hp->Prop)(dS:j7):TA:=λσ H Q=>∃ρ env h,cM B.K ρ env σ H/\HR B ρ h H/\Post B EX ρ H (TN B.K Q) (bq Φ dS env h)
def tT(Φ:Fn)(B:Bd)(EX:Nat->List V->Hp->Prop)(ir:IE):TT:=λσ H Q=>∃ρ env h,cM B.K ρ env σ H/\HR B ρ h H/\Post B EX ρ H (WT Q) (Jj Φ ir env h)
theorem _root_.L2.PE.imp(h:PE X e t)(i:∀σ H Q,t' σ H Q->t σ H Q):PE X e t':=λpins s σ H Q I hw=>h pins s σ H Q I (i σ H Q hw)
theorem _root_.L2.PT.imp(h:PT X e t)(i:∀σ H Q,t' σ H Q->t σ H Q):PT X e t':=λpins s σ H Q I hw=>h pins s σ H Q I (i σ H Q hw)
theorem _root_.L2.PA.imp(h:PA X es t)(i:∀σ H Q,t' σ H Q->t σ H Q):PA X es t':=λpos pins s σ H Q I hw=>h pos pins s σ H Q I (i σ H Q hw)
theorem _root_.L2.PO.imp(h:PO X e t)(i:∀σ H Q,t' σ H Q->t σ H Q):PO X e t':=λpins s σ H Q I hw=>h pins s σ H Q I (i σ H Q hw)
theorem _root_.L2.PI.imp(h:PI X tg iter t)(i:∀σ H R,t' σ H R->t σ H R):PI X tg iter t':=λpins s σ H R I hw=>h pins s σ H R I (i σ H R hw)
theorem aR{α β γ:Type}(m:M α)(f:α -> M β)(g:β -> M γ):bnd (bnd m f) g=bnd m λx=>bnd (f x) g:=by
 funext h;show (match (match m h with|.ok a h'=>f a h'|.exc c vs h'=>.exc c vs h'|.no=>.no) with|.ok a h'=>g a h'|.exc c vs h'=>.exc c vs h'|.no=>.no)=(match m h with|.ok a h'=>bnd (f a) g h'|.exc c vs h'=>.exc c vs h'|.no=>.no);cases m h<;>rfl
theorem b6{α β:Type}(a:α)(f:α -> M β):bnd (ret a) f=f a:=rfl
def vW(B:Bd)(n:Nat)(φ:List Val->M Val):Sp:=λxs H Q _=>∃ρ h vs,vs.length=n/\HR B ρ h H/\au B.K ρ H vs xs/\Post B (λ_ _ _=>False) ρ H (WV B.K Q) (φ vs h)
def Lr(P:Program)(w:World)(B:Bd)(mg:Str->Option Value)(base:Heap)(k:Nat)(j:Nat)(x:Str)(n:Nat)(φ:List Val->M Val):Prop :=
 (n<1000/\((∃(f:Addr) (fd:FuncData) (ps:List Str),ps.length=n/\mg x=some (.ref f)/\keepIn B.K (.ref f)=true/\Binds B.K fd ps []/\f9 P w B.K mg base AE k f fd ps (vW B n φ)) \/
  ∃(c:Nat) (f:Addr) (fd:FuncData) (ps:List Str) (φ0:List Val->M Val),φ = RO c φ0/\ps.length=n+1/\mg x=some (.ref (B.cl c))/\Mk B.K (B.cl c) f/\Binds B.K fd ps []/\f9 P w B.K mg base AE k f fd ps (vW B (n+1) φ0))) \/
 (1000<=n/\∃(fd:FuncData) (ps:List Str),ps.length=n-1000/\Binds B.K fd ps []/\f9 P w B.K mg base AE k (B.cl (1000+j)) fd ps (vW B (n-1000) φ))
def bltNames:List Str:=["len","min","max","sorted","list","tuple","str","all","any","isinstance","range","enumerate","int","bool","dict","set","zip"]
structure Ctx (Φ:Fn) (Γ:oY) (k:Nat) (X:Cx) (cl:Nat->Addr) (EX:Nat->List V->Hp->Prop):Prop where
 N:X.N = Γ.N
 sc:X.env.scope = Γ.sc
 calm:X.calm=true
 room:dZ (k+1) X.A
 mH:∀c xs H,¬ EX c xs H
 fns:∀j x n,Γ.fns[j]?=some (x,n)->Lr X.prog X.w (bd X cl) X.mg X.base k j x n (Φ j)
 cls:∀c,c < Γ.tb.nc->Rt X.K (cl c)/\∀x ∈ Γ.tb.MP,An X.K (cl c) x
 Je:∀p ∈ Γ.tb.Je,Meth X.K (cl p.1) p.2.1 (cl (1000+p.2.2))
 Jf:∀p ∈ Γ.tb.Jf,∃C,X.mg p.1=some (.ref C)/\Mx X.K C p.2.1 (cl (1000+p.2.2))
 isc:∀p ∈ Γ.tb.isc,∃C,X.mg p.1=some (.ref C)/\∀c b,p.2[c]?=some b->RK X.K (cl c)/\kitOne X.K (.ref (cl c)) (.ref C)=some b
 cons:∀p ∈ Γ.cons,∃v u,X.mg p.1=some u/\RelV v u/\∀K ρ H,VR K ρ H p.2 v
 blt:∀x∈bltNames,X.mg x=none
section
variable {Φ:Fn} {Γ:oY} {k:Nat} {X:Cx} {cl:Nat->Addr} {EX:Nat->List V->Hp->Prop}
theorem Ctx.units(c:Ctx Φ Γ k X cl EX):X.A.units+64<cLine:=c.room.units
theorem Ctx.vis(c:Ctx Φ Γ k X cl EX)(h:Jg Γ.sc x=true):Lz X.env.scope x/\(x==("__debug__":Str))=false/\(x==("__classdict__":Str))=false:=by
 unfold Jg at h;simp only[and_eq_true,or_eq_true,beq_iff_eq,not_eq_true']at h;obtain⟨⟨h1,h2⟩,h3⟩:=h;refine⟨?_,h2,h3⟩;unfold Lz;rw[c.sc]
 rcases h1 with (z|z)|z
 ·exact .inl z
 ·exact .inr (.inl z)
 ·exact .inr (.inr z)
theorem Ctx.gl(c:Ctx Φ Γ k X cl EX)(h:vU Γ.sc x=true):Gl X x/\(x==("__debug__":Str))=false/\x ≠ "__name__":=by
 unfold vU at h;simp only[and_eq_true,beq_iff_eq,not_eq_true']at h;obtain⟨⟨h1,h2⟩,h3⟩:=h;refine⟨?_,h2,λz=>by rw[z]at h3;simp at h3⟩;show X.env.scope.names.lookup x=_;rw[c.sc];exact h1
theorem Ctx.Gs(c:Ctx Φ Γ k X cl EX)(scope:Scope)(N':List Str)(cls:List (Str×Addr))(C:Addr)(s:Shared)(H:Hp)(fp:List Addr):Ctx Φ (Γ.Gs scope N') k (bJ X scope N' cls C s H fp) cl EX:=by
 refine⟨rfl,?_,c.calm,c.room,c.mH,c.fns,c.cls,c.Je,c.Jf,c.isc,c.cons,c.blt⟩;show relabel scope X.env=Gq scope Γ.sc;rw[<-c.sc];rfl
theorem bR(h:noStar e=true):starEach (e::es) env=(false,eval e env)::starEach es env:=by
 cases e<;>first|rfl|(simp[noStar]at h)
theorem gH:∀{es:List Expr} {dS:j7},aT Γ dS es=true->(backTo pos (starEach es env)).any (·.1)=false
 |[],_,_=>rfl
 |e::es,.nil,h=>by simp[aT]at h
 | e::es,.cons i dS,h=>by
  simp only[aT,and_eq_true]at h;rw[bR h.1.1];show (false||(backTo pos (starEach es env)).any (·.1))=false;rw[gH (dS:=dS) h.2];rfl
theorem Bv(h:aT Γ dS es=true):(backTo pos (starEach es env)).all (λx=>!x.1)=true:=by
 have q:=gH (pos:=pos) (env:=env) h;rw[Xv];intro x hx;have:=List.any_eq_false.mp q x hx;simpa using this
theorem vX(h:m6 e=true):wY e:=by
 intro o i;cases e<;>first|rfl|(simp[m6]at h)
theorem super_ok(h:superB e=true):attributeBase e x env whole=whole:=by
 cases e<;>first
  |rfl
  |skip
 rename_i f args kws pos;cases f<;>first
  |rfl
  |skip
 cases args with
 |cons a r=>rfl
 |nil=>
  cases kws with
  |cons a r=>rfl
  |nil=>simp[superB]at h
theorem fu(q:PE X e (tV Φ (bd X cl) EX ir))(he:∀whole,isTrue e X.env whole=(do let v <-whole;standAt e.pos;holding [v] (truthy v))):PT X e (tT Φ (bd X cl) EX ir) :=
 (Ak q he).imp λσ H Q ⟨ρ,env,h,hE,r,p⟩=>⟨ρ,env,h,hE,r,aA p λv h1 ρ1 x H1 g1 r1 q1 p1=>by
  obtain⟨b,e,w⟩:=cz r1 p1;exact⟨b,Iv r1 q1 e,w⟩⟩
theorem Gu(h:PT X (.BoolOp op vs pos) t):PW X (.BoolOp op vs pos) t:=λwhole pins s σ H Q I hw=>h pins s σ H Q I hw
def bV(Φ:Fn)(ir:IE):Prop:=∀(Γ:oY) (k:Nat) (X:Cx) (cl:Nat->Addr) (EX:Nat->List V->Hp->Prop) (e:Expr),Ctx Φ Γ k X cl EX->bC Γ ir e=true->PE X e (tV Φ (bd X cl) EX ir)/\PT X e (tT Φ (bd X cl) EX ir)
def jP(Φ:Fn)(dS:j7):Prop:=(∀(Γ:oY) (k:Nat) (X:Cx) (cl:Nat->Addr) (EX:Nat->List V->Hp->Prop) (es:List Expr),Ctx Φ Γ k X cl EX->aT Γ dS es=true->PA X es (RQ Φ (bd X cl) EX dS))/\match dS with
 |.nil=>True
 | .cons e r=>bV Φ e/\match r with
  |.nil=>True
  |.cons e' _=>bV Φ e'
theorem Ep(h:Jh o op=true):op=Bc o:=VH h
theorem rR(h:En o op=true):op=mw o:=VH h
theorem fj(hs:∀env h,aI Φ ir env h=.no):bV Φ ir:=by
 intro Γ k X cl EX e c h;exact⟨λpins s σ H Q I ⟨ρ,env,h,hE,r,p⟩=>by rw[hs]at p;exact p.elim,λpins s σ H Q I ⟨ρ,env,h,hE,r,p⟩=>by unfold Jj bnd at p;rw[hs]at p;exact p.elim⟩
theorem Jk{i:Nat}:bV Φ (.var i):=by
 intro Γ k X cl EX e c h;apply rP h;intro x pos h;simp only[and_eq_true,beq_iff_eq]at h;obtain⟨v1,v2,v3⟩:=c.vis h.2;have q:PE X (.Name x pos) (tV Φ (bd X cl) EX (.var i)):=by refine(z8 (by rw[c.N];exact h.1) v1 v2 v3).imp λσ H Q aK=>?_;obtain⟨ρ,env,h,hE,r,p⟩:=aK;rw[aI.eq_def]at p;dsimp only at p;obtain⟨d,e1,w⟩:=bZ r p;split at e1<;>cases e1;rename_i e1;obtain⟨x,e2,e3⟩:=hE i d e1;exact⟨x,e2,w x e3⟩
 exact⟨q,fu q λ_=>rfl⟩
theorem Jl:bV Φ (.cst d):=by
 intro Γ k X cl EX e c h;apply ud h;intro cc j pos h;have q:PE X (.Constant cc j pos) (tV Φ (bd X cl) EX (.cst d)):=by
  unfold Bt at h;split at h<;>first|cases h|skip
  ·refine GV.imp λσ H Q aK=>?_;obtain⟨ρ,env,h,hE,r,p⟩:=aK;simp only[aI]at p;exact ai r p _ VR.non
  ·cases eq_of_beq h;refine LH.imp λσ H Q aK=>?_;obtain⟨ρ,env,h,hE,r,p⟩:=aK;simp only[aI]at p;exact ai r p _ VR.bl
  ·cases eq_of_beq h;refine GU.imp λσ H Q aK=>?_;obtain⟨ρ,env,h,hE,r,p⟩:=aK;simp only[aI]at p;exact ai r p _ VR.int
  ·cases eq_of_beq h;refine GW.imp λσ H Q aK=>?_;obtain⟨ρ,env,h,hE,r,p⟩:=aK;simp only[aI]at p;exact ai r p _ VR.str
 exact⟨q,fu q λ_=>rfl⟩
theorem zp(h:vV a b=true):a=b:=by
 unfold vV at h;split at h<;>first|rfl|(cases eq_of_beq h;rfl)|cases h
theorem Jm:bV Φ (.con x d):=by
 intro Γ k X cl EX e c h;apply rP h;intro y pos h;simp only[and_eq_true,beq_iff_eq]at h;obtain⟨⟨h1,h2⟩,h3⟩:=h;subst h1;obtain⟨g1,g2,g3⟩:=c.gl h2;obtain⟨p,hp,h4⟩:=List.any_eq_true.mp h3;simp only[and_eq_true,beq_iff_eq]at h4;obtain⟨v,u,m1,m2,m3⟩:=c.cons p hp;rw[h4.1]at m1;have q:PE X (.Name x pos) (tV Φ (bd X cl) EX (.con x d)):=by refine(Dp g1 m1 m2 g2).imp λσ H Q aK=>?_;obtain⟨ρ,env,h,hE,r,p⟩:=aK;simp only[aI]at p;exact ai r p _ (by rw[<-zp h4.2];exact m3 _ _ _)
 exact⟨q,fu q λ_=>rfl⟩
theorem MR:bV Φ .no:=by
 intro Γ k X cl EX e c h
 (conv at h=>lhs;whnf);cases h
theorem Bw:jP Φ .nil:=by
 refine⟨fun Γ k X cl EX es c h=>?_,trivial⟩;rw[aT]at h;cases es with
 |cons a r=>cases h
 |nil=>refine Ao.imp λσ H Q aK=>?_;obtain⟨ρ,env,h,hE,r,p⟩:=aK;simp only[bq]at p;exact ai r p _ au.nil
theorem xN(h1:bV Φ e)(h2:jP Φ es):jP Φ (.cons e es):=by
 refine⟨fun Γ k X cl EX ls c h=>?_,h1,?_⟩
 ·rw[aT.eq_def]at h;dsimp only at h
  cases ls with
  |nil=>cases h
  |cons l ls=>simp only[and_eq_true]at h;refine(qW (h1 Γ k X cl EX l c h.1.2).1 (h2.1 Γ k X cl EX ls c h.2) (bR h.1.1)).imp λσ H Q aK=>?_;obtain⟨ρ,env,h,hE,r,p⟩:=aK;simp only[bq]at p;refine⟨ρ,env,h,hE,r,aA p λv h1 ρ1 x H1 g1 r1 q1 p1=>⟨ρ1,env,h1,hE.up g1,r1,bF p1 λvs h2 ρ2 H2 g2 r2 p2 xs q2=>?_⟩⟩;exact ai r2 p2 _ (au.cons (VR.up g2 _ _ q1) q2)
 ·cases es with
  |nil=>trivial
  |cons e' r=>exact h2.2.1
theorem Jo(ha:bV Φ a)(hb:bV Φ b):bV Φ (.bin o a b):=by
 intro Γ k X cl EX e c h;apply IP h;intro l op r pos h;simp only[and_eq_true]at h;obtain⟨⟨h1,h2⟩,h3⟩:=h;have eo:op=Bc o:=Ep h1;subst eo;have q:PE X (.BinOp l (Bc o) r pos) (tV Φ (bd X cl) EX (.bin o a b)):=by refine(LZ (Ir (cl:=cl) (EX:=EX) o) (ha Γ k X cl EX l c h2).1 (hb Γ k X cl EX r c h3).1).imp λσ H Q aK=>?_;obtain⟨ρ,env,h,hE,r,p⟩:=aK;simp only[aI]at p;exact⟨ρ,env,h,hE,r,aA p λv h1 ρ1 x H1 g1 r1 q1 p1=>⟨ρ1,env,h1,hE.up g1,r1,aA p1 λw h2 ρ2 y H2 g2 r2 q2 p2=>⟨ρ2,h2,v,w,r2,VR.up g2 _ _ q1,q2,p2⟩⟩⟩
 exact⟨q,fu q λ_=>rfl⟩
theorem Jp(ha:bV Φ a):bV Φ (.neg a):=fj λ_ _=>rfl
theorem Jq(ha:bV Φ a)(hb:bV Φ b):bV Φ (.cmp o a b):=by
 intro Γ k X cl EX e c h;apply Bh h;intro l q1 q2 pos h;apply nQ h;intro op h;apply nQ h;intro r h;simp only[and_eq_true,not_eq_true']at h;obtain⟨⟨⟨h1,h4⟩,h2⟩,h3⟩:=h;have eo:op=mw o:=rR h1;subst eo;refine⟨(DC (lP (cl:=cl) c.units o) (ha Γ k X cl EX l c h2).1 (hb Γ k X cl EX r c h3).1 h4).imp λσ H Q ⟨ρ,env,h,hE,r,p⟩=>?_,(DE (lP (cl:=cl) c.units o) (ha Γ k X cl EX l c h2).1 (hb Γ k X cl EX r c h3).1 h4).imp λσ H Q ⟨ρ,env,h,hE,r,p⟩=>?_⟩
 ·simp only[aI]at p;refine⟨ρ,env,h,hE,r,aA p λv h1 ρ1 x H1 g1 r1 q1 p1=>⟨ρ1,env,h1,hE.up g1,r1,aA p1 λw h2 ρ2 y H2 g2 r2 q2 p2=>?_⟩⟩;obtain⟨t,e,p3⟩:=az p2;exact⟨ρ2,h2,v,w,t,r2,VR.up g2 _ _ q1,q2,e,ai r2 p3 _ VR.bl⟩
 ·simp only[Jj,aI,aR,b6]at p;refine⟨ρ,env,h,hE,r,aA p λv h1 ρ1 x H1 g1 r1 q1 p1=>⟨ρ1,env,h1,hE.up g1,r1,aA p1 λw h2 ρ2 y H2 g2 r2 q2 p2=>?_⟩⟩;obtain⟨t,e,p3⟩:=az p2;obtain⟨t',e',w'⟩:=cz r2 p3;cases (show some t=some t' from e');exact⟨ρ2,h2,v,w,t,r2,VR.up g2 _ _ q1,q2,e,t,rfl,w'⟩
theorem Jr(ha:bV Φ a)(hb:bV Φ b)(hd:bV Φ d):bV Φ (.chn o o' a b d):=by
 intro Γ k X cl EX e c h;apply Bh h;intro l q1 q2 pos h;apply MG h;intro op op' h;apply MG h;intro m r h;simp only[and_eq_true,not_eq_true']at h;obtain⟨⟨⟨⟨⟨⟨h1,h2⟩,h3⟩,h4⟩,h5⟩,h6⟩,h7⟩:=h;have eo:op=mw o:=rR h1;have ep:op'=mw o':=rR h2;subst eo;subst ep;have hm:lastMarks [mw o,mw o'] [m,r]=false:=h4;refine⟨(Ai (lP (cl:=cl) c.units o) (lP (cl:=cl) c.units o') (ha Γ k X cl EX l c h5).1 (hb Γ k X cl EX m c h6).1 (hd Γ k X cl EX r c h7).1 hm).imp λσ H Q ⟨ρ,env,h,hE,r,p⟩=>?_,
  (Aj (lP (cl:=cl) c.units o) (lP (cl:=cl) c.units o') (ha Γ k X cl EX l c h5).1 (hb Γ k X cl EX m c h6).1 (hd Γ k X cl EX r c h7).1 hm).imp λσ H Q ⟨ρ,env,h,hE,r,p⟩=>?_⟩
 ·simp only[aI]at p
  refine⟨ρ,env,h,hE,r,aA p λv h1 ρ1 x H1 g1 r1 q1 p1=>⟨ρ1,env,h1,hE.up g1,r1,aA p1 λw h2 ρ2 y H2 g2 r2 q2 p2=>?_⟩⟩;obtain⟨t,e,p3⟩:=az p2;refine⟨ρ2,h2,v,w,t,r2,VR.up g2 _ _ q1,q2,e,t,rfl,?_⟩;cases t with
  |false=>rw[Vw Vl]at p3 |-;exact ai r2 p3 _ VR.bl
  |true=>rw[Vv rfl]at p3 |-;refine⟨ρ2,env,h2,(hE.up g1).up g2,r2,aA p3 λw' h3 ρ3 z H3 g3 r3 q3 p4=>?_⟩;obtain⟨t',e',p5⟩:=az p4;exact⟨ρ3,h3,w,w',t',r3,VR.up g3 _ _ q2,q3,e',ai r3 p5 _ VR.bl⟩
 ·simp only[Jj,aI,aR,b6]at p
  refine⟨ρ,env,h,hE,r,aA p λv h1 ρ1 x H1 g1 r1 q1 p1=>⟨ρ1,env,h1,hE.up g1,r1,aA p1 λw h2 ρ2 y H2 g2 r2 q2 p2=>?_⟩⟩;obtain⟨t,e,p3⟩:=az p2;refine⟨ρ2,h2,v,w,t,r2,VR.up g2 _ _ q1,q2,e,t,rfl,?_⟩;cases t with
  |false=>rw[Vw Vl]at p3 |-;rw[b6]at p3;obtain⟨t',e',w'⟩:=cz r2 p3;cases (show some false=some t' from e');exact⟨false,rfl,w'⟩
  |true=>rw[Vv rfl]at p3 |-;simp only[aR,b6]at p3;refine⟨ρ2,env,h2,(hE.up g1).up g2,r2,aA p3 λw' h3 ρ3 z H3 g3 r3 q3 p4=>?_⟩;obtain⟨t',e',p5⟩:=az p4;obtain⟨t2,e2,w2⟩:=cz r3 p5;cases (show some t'=some t2 from e2);exact⟨ρ3,h3,w,w',t',r3,VR.up g3 _ _ q2,q3,e',t',rfl,w2⟩
end
section
variable {B:Bd} {EX:Nat->List V->Hp->Prop} {ρ:List Addr} {H:Hp} {β:Type} {W:β -> Hs->List Addr->Hp->Prop} {h:Hs}
theorem post_bool(p:Post B EX ρ H W (bnd (nL v) f h)):∃t,v=.bl t/\Post B EX ρ H W (f t h):=by
 cases v with
 |bl t=>exact⟨t,rfl,p⟩
 |_=>exact p.elim
theorem lR(p:Post B EX ρ H W (bnd m F h))(k:∀v h1,Post B EX ρ H W (F v h1)->∃t,cP h1 v=some t/\∀ρ1 H1,Gr ρ H ρ1 H1->HR B ρ1 h1 H1->Q t H1) :
  Post B EX ρ H (WT Q) (bnd m (λx=>ask λh=>cP h x) h):=by
 unfold bnd at p |-;cases e:m h with
 |ok v h1=>
  rw[e]at p;obtain⟨t,e1,q⟩:=k v h1 p;show Post B EX ρ H (WT Q) (ask (λh=>cP h v) h1);have e2:ask (λh=>cP h v) h1=.ok t h1:=by unfold ask aN;dsimp only;rw[e1]
  rw[e2];exact λρ1 H1 g r=>q ρ1 H1 g r
 |exc c vs h1=>rw[e]at p;exact p
 |no=>rw[e]at p;exact p
end
section
variable {Φ:Fn} {Γ:oY} {k:Nat} {X:Cx} {cl:Nat->Addr} {EX:Nat->List V->Hp->Prop}
theorem Js(ha:bV Φ a)(hb:bV Φ b):bV Φ (.and a b):=by
 intro Γ k X cl EX e c h;apply qt h;intro q1 q2 pos h;apply xG h;intro h;apply vS h;intro l q3 h;apply vS h;intro m r h;simp only[and_eq_true]at h;obtain⟨h1,h2⟩:=h;have hB:PE X (.BoolOp .And (m::r) pos) (tV Φ (bd X cl) EX b)/\PW X (.BoolOp .And (m::r) pos) (tT Φ (bd X cl) EX b):=by
  cases r with
  |nil=>exact⟨z9 (hb Γ k X cl EX m c h2).1,Dr (hb Γ k X cl EX m c h2).2⟩
  |cons n r'=>exact⟨(hb Γ k X cl EX _ c h2).1,Gu (hb Γ k X cl EX _ c h2).2⟩
 refine⟨(Hf (ha Γ k X cl EX l c h1).1 hB.1).imp λσ H Q ⟨ρ,env,h,hE,r,p⟩=>?_,(GY (ha Γ k X cl EX l c h1).2 hB.2).pt.imp λσ H Q ⟨ρ,env,h,hE,r,p⟩=>?_⟩
 ·simp only[aI]at p
  refine⟨ρ,env,h,hE,r,aA p λv h1 ρ1 x H1 g1 r1 q1 p1=>?_⟩;obtain⟨t,rfl,p2⟩:=post_bool p1;rw[VR]at q1;refine⟨t,q1,?_⟩;cases t with
  |true=>rw[Vv rfl]at p2 |-;refine⟨ρ1,env,h1,hE.up g1,r1,aA p2 λw h2 ρ2 y H2 g2 r2 q2 p3=>?_⟩;obtain⟨u,rfl,p4⟩:=post_bool p3;exact ai r2 p4 _ q2
  |false=>rw[Vw Vl]at p2 |-;exact ai r1 p2 _ VR.bl
 ·simp only[Jj,aI,aR]at p
  refine⟨ρ,env,h,hE,r,lR p λv h1 p1=>?_⟩;obtain⟨t,rfl,p2⟩:=post_bool p1;refine⟨t,rfl,λρ1 H1 g1 r1=>?_⟩;have p2:=Post.up g1 p2;cases t with
  |true=>rw[Vv rfl]at p2 |-;simp only[aR,b6]at p2;refine⟨ρ1,env,h1,hE.up g1,r1,lR p2 λw h2 p3=>?_⟩;obtain⟨u,rfl,p4⟩:=post_bool p3;exact⟨u,rfl,λρ2 H2 g2 r2=>by obtain⟨t',e',w'⟩:=cz r2 (Post.up g2 p4);cases (show some u=some t' from e');exact w'⟩
  |false=>rw[Vw Vl]at p2 |-;obtain⟨t',e',w'⟩:=cz r1 (show Post _ _ ρ1 H1 _ (ask (λh=>cP h (.bl false)) h1) from p2);cases (show some false=some t' from e');exact w'
theorem MS(ha:bV Φ a)(hb:bV Φ b):bV Φ (.or a b):=by
 intro Γ k X cl EX e c h;apply qt h;intro q1 q2 pos h;apply xG h;intro h;apply vS h;intro l q3 h;apply vS h;intro m r h;simp only[and_eq_true]at h;obtain⟨h1,h2⟩:=h;have hB:PE X (.BoolOp .Or (m::r) pos) (tV Φ (bd X cl) EX b)/\PW X (.BoolOp .Or (m::r) pos) (tT Φ (bd X cl) EX b):=by
  cases r with
  |nil=>exact⟨z9 (hb Γ k X cl EX m c h2).1,GX (hb Γ k X cl EX m c h2).2⟩
  |cons n r'=>exact⟨(hb Γ k X cl EX _ c h2).1,Gu (hb Γ k X cl EX _ c h2).2⟩
 refine⟨(LL (ha Γ k X cl EX l c h1).1 hB.1).imp λσ H Q ⟨ρ,env,h,hE,r,p⟩=>?_,(LI (ha Γ k X cl EX l c h1).2 hB.2).pt.imp λσ H Q ⟨ρ,env,h,hE,r,p⟩=>?_⟩
 ·simp only[aI]at p
  refine⟨ρ,env,h,hE,r,aA p λv h1 ρ1 x H1 g1 r1 q1 p1=>?_⟩;obtain⟨t,rfl,p2⟩:=post_bool p1;rw[VR]at q1;refine⟨t,q1,?_⟩;cases t with
  |false=>rw[Vw Vl]at p2 |-;refine⟨ρ1,env,h1,hE.up g1,r1,aA p2 λw h2 ρ2 y H2 g2 r2 q2 p3=>?_⟩;obtain⟨u,rfl,p4⟩:=post_bool p3;exact ai r2 p4 _ q2
  |true=>rw[Vv rfl]at p2 |-;exact ai r1 p2 _ VR.bl
 ·simp only[Jj,aI,aR]at p
  refine⟨ρ,env,h,hE,r,lR p λv h1 p1=>?_⟩;obtain⟨t,rfl,p2⟩:=post_bool p1;refine⟨t,rfl,λρ1 H1 g1 r1=>?_⟩;have p2:=Post.up g1 p2;cases t with
  |false=>rw[Vw Vl]at p2 |-;simp only[aR,b6]at p2;refine⟨ρ1,env,h1,hE.up g1,r1,lR p2 λw h2 p3=>?_⟩;obtain⟨u,rfl,p4⟩:=post_bool p3;exact⟨u,rfl,λρ2 H2 g2 r2=>by obtain⟨t',e',w'⟩:=cz r2 (Post.up g2 p4);cases (show some u=some t' from e');exact w'⟩
  |true=>rw[Vv rfl]at p2 |-;obtain⟨t',e',w'⟩:=cz r1 (show Post _ _ ρ1 H1 _ (ask (λh=>cP h (.bl true)) h1) from p2);cases (show some true=some t' from e');exact w'
theorem Jt(ha:bV Φ a):bV Φ (.not a):=by
 intro Γ k X cl EX e c h;apply MC h;intro q1 l pos h;apply xG h;intro h;refine⟨(Hg (ha Γ k X cl EX l c h).1).imp λσ H Q ⟨ρ,env,h,hE,r,p⟩=>?_,(GZ (ha Γ k X cl EX l c h).2).imp λσ H Q ⟨ρ,env,h,hE,r,p⟩=>?_⟩
 ·simp only[aI]at p;refine⟨ρ,env,h,hE,r,aA p λv h1 ρ1 x H1 g1 r1 q1 p1=>?_⟩;obtain⟨t,rfl,p2⟩:=post_bool p1;rw[VR]at q1;exact⟨t,q1,ai r1 p2 _ VR.bl⟩
 ·simp only[Jj,aI,aR]at p;refine⟨ρ,env,h,hE,r,lR p λv h1 p1=>?_⟩;obtain⟨t,rfl,p2⟩:=post_bool p1;refine⟨t,rfl,λρ1 H1 g1 r1=>?_⟩;obtain⟨t',e',w'⟩:=cz r1 (show Post _ _ ρ1 H1 _ (ask (λh=>cP h (.bl (!t))) h1) from Post.up g1 p2);cases (show some (!t)=some t' from e');exact w'
theorem Ju(ht:bV Φ t)(ha:bV Φ a)(hb:bV Φ b):bV Φ (.ite t a b):=fj λ_ _=>rfl
theorem Jv(hs:jP Φ es):bV Φ (.tup es):=by
 intro Γ k X cl EX e c h;apply IT h;intro ls x1 pos h;have q:PE X (.Tuple ls x1 pos) (tV Φ (bd X cl) EX (.tup es)):=by refine(HL (hs.1 Γ k X cl EX ls c h)).imp λσ H Q aK=>?_;obtain⟨ρ,env,h,hE,r,p⟩:=aK;simp only[aI]at p;refine⟨ρ,env,h,hE,r,bF p λvs h1 ρ1 H1 g1 r1 p1 xs q1=>?_⟩;obtain⟨e1,p2⟩:=aC p1;exact⟨by rw[<-q1.length];exact VH e1,λq hq=>kJ r1 hq q1 p2⟩
 exact⟨q,fu q λ_=>rfl⟩
theorem Jw(hs:jP Φ es):bV Φ (.lst es):=by
 intro Γ k X cl EX e c h;apply IU h;intro ls pos h;have q:PE X (.List ls pos) (tV Φ (bd X cl) EX (.lst es)):=by refine(HM (hs.1 Γ k X cl EX ls c h)).imp λσ H Q aK=>?_;obtain⟨ρ,env,h,hE,r,p⟩:=aK;simp only[aI]at p;refine⟨ρ,env,h,hE,r,bF p λvs h1 ρ1 H1 g1 r1 p1 xs q1=>?_⟩;obtain⟨e1,p2⟩:=aC p1;exact⟨by rw[<-q1.length];exact VH e1,λq hq=>dh r1 hq q1 p2⟩
 exact⟨q,fu q λ_=>rfl⟩
theorem Er:bV Φ .dct0:=by
 intro Γ k X cl EX e c h;apply xD h;intro q1 q2 pos h;apply lQ h;intro h;apply lQ h;intro h;have q:PE X (.Dict [] [] pos) (tV Φ (bd X cl) EX .dct0):=by refine(Az (X:=X) (pos:=pos)).imp λσ H Q aK=>?_;obtain⟨ρ,env,h,hE,r,p⟩:=aK;simp only[aI]at p;exact λa ha=>ua (o:=.dct []) (O:=.dK []) r ha ⟨[],aW,(by rw[gG])⟩ p
 exact⟨q,fu q λ_=>rfl⟩
theorem Jx(ha:bV Φ a)(hb:bV Φ b):bV Φ (.idx a b):=by
 intro Γ k X cl EX e c h;apply vR h;intro l r pos h;simp only[and_eq_true]at h;have q:PE X (.Subscript l r pos) (tV Φ (bd X cl) EX (.idx a b)):=by refine(Mb (Iw (cl:=cl) c.units) (ha Γ k X cl EX l c h.1.2).1 (hb Γ k X cl EX r c h.2).1 (vX h.1.1)).imp λσ H Q aK=>?_;obtain⟨ρ,env,h,hE,r,p⟩:=aK;simp only[aI]at p;refine⟨ρ,env,h,hE,r,aA p λv h1 ρ1 x H1 g1 r1 q1 p1=>⟨ρ1,env,h1,hE.up g1,r1,aA p1 λw h2 ρ2 y H2 g2 r2 q2 p2=>?_⟩⟩;obtain⟨z,e,w'⟩:=cz r2 p2;exact⟨ρ2,h2,v,w,z,r2,VR.up g2 _ _ q1,q2,e,w'⟩
 exact⟨q,fu q λ_=>rfl⟩
def MT(Φ:Fn)(ir:IE)(env:Env):M (Option Int):=if cQ ir=true then ret none else bnd (aI Φ ir env) λv=>bnd (aN (fS v)) λi=>ret (some i)
def tP(Φ:Fn)(B:Bd)(EX:Nat->List V->Hp->Prop)(ir:IE):TO:=λσ H Q=>∃ρ env h,cM B.K ρ env σ H/\HR B ρ h H/\Post B EX ρ H (λo _ _ H'=>Q o H') (MT Φ ir env h)
theorem zq{i:Int}(h:fS d=some i):d=.int i:=by cases d<;>cases h;rfl
theorem xP(hi:bV Φ ir)(c:Ctx Φ Γ k X cl EX)(h:(match o with|none=>cQ ir|some e=>!cQ ir&&bC Γ ir e)=true):PO X o (tP Φ (bd X cl) EX ir):=by
 cases o with
 |none=>refine DJ.imp λσ H Q aK=>?_;obtain⟨ρ,env,h',hE,r,p⟩:=aK;unfold MT at p;rw[Vv h]at p;exact ai r p
 |some e=>simp only[and_eq_true,not_eq_true']at h;refine(DK (hi Γ k X cl EX e c h.2).1).imp λσ H Q aK=>?_;obtain⟨ρ,env,h',hE,r,p⟩:=aK;unfold MT at p;rw[Vw (by rw[h.1];exact Vl)]at p;refine⟨ρ,env,h',hE,r,aA p λv h1 ρ1 x H1 g1 r1 q1 p1=>?_⟩;obtain⟨i,e1,p2⟩:=bL p1;cases zq e1;rw[VR]at q1;exact⟨i,q1,ai r1 p2⟩
theorem Jy{a lo hi:IE}(ha:bV Φ a)(hl:bV Φ lo)(hh:bV Φ hi):bV Φ (.slc a lo hi):=by
 intro Γ k X cl EX e c h;apply vR h;intro l q1 pos h;apply IV h;intro l' h' q2 p2 h;apply xE h;intro h;simp only[and_eq_true]at h;have q:PE X (.Subscript l (.Slice l' h' none p2) pos) (tV Φ (bd X cl) EX (.slc a lo hi)):=by refine(Av (Iz (cl:=cl) (EX:=EX)) (ha Γ k X cl EX l c h.1.1).1 (xP hl c h.1.2) (xP hh c h.2)).imp λσ H Q aK=>?_;obtain⟨ρ,env,h,hE,r,p⟩:=aK;simp only[aI]at p;refine⟨ρ,env,h,hE,r,aA p λv h1 ρ1 x H1 g1 r1 q1 p1=>⟨ρ1,env,h1,hE.up g1,r1,bF (m:=MT Φ lo env) p1 λlo' h2 ρ2 H2 g2 r2 p3=>⟨ρ2,env,h2,(hE.up g1).up g2,r2,bF (m:=MT Φ hi env) p3 λhi' h3 ρ3 H3 g3 r3 p4=>?_⟩⟩⟩;exact⟨ρ3,h3,v,r3,VR.up (g2.trans g3) _ _ q1,p4⟩
 exact⟨q,fu q λ_=>rfl⟩
theorem Jz(ha:bV Φ a)(hs:bV Φ sx):bV Φ (.rev a sx):=fj λ_ _=>rfl
theorem kL:∀{dS:j7} {ls:List Expr} {vs:List Val} {h h':Hs},aT Γ dS ls=true->bq Φ dS env h=.ok vs h'->vs.length=ls.length:=by
 intro dS
 induction dS using j7.rec (motive_1:=λ_=>True) with
 |nil=>
  intro ls ds h h' a b;rw[aT]at a;simp only[bq,ret]at b;cases b;cases ls with
  |nil=>rfl
  |cons _ _=>cases a
 |cons e es _ ih=>
  intro ls ds h h' a b;rw[aT.eq_def]at a;dsimp only at a;cases ls with
  |nil=>cases a
  |cons l ls=>
   simp only[and_eq_true]at a;simp only[bq,bnd]at b;cases e1:aI Φ e env h with
   |ok v h1=>
    rw[e1]at b;dsimp only at b;cases e2:bq Φ es env h1 with
    |ok vs h2=>rw[e2]at b;cases b;simp[ih a.2 e2]
    |exc _ _ _=>rw[e2]at b;cases b
    |no=>rw[e2]at b;cases b
   |exc _ _ _=>rw[e1]at b;cases b
   |no=>rw[e1]at b;cases b
 |_=>trivial
theorem fK{α β:Type}{W:β -> Hs->List Addr->Hp->Prop}{W':α -> Hs->List Addr->Hp->Prop}{m:M α}{f:α -> M β}(p:Post B EX ρ H W (bnd m f h))(k:∀v h1 ρ1 H1,m h=.ok v h1->Gr ρ H ρ1 H1->HR B ρ1 h1 H1->Post B EX ρ1 H1 W (f v h1)->W' v h1 ρ1 H1):Post B EX ρ H W' (m h):=by
 unfold bnd at p;cases e:m h with
 |ok v h1=>rw[e]at p;exact λρ1 H1 g r=>k v h1 ρ1 H1 e g r (Post.up g p)
 |exc c vs h1=>rw[e]at p;exact p
 |no=>rw[e]at p;exact p
theorem iG{α:Type}{h:Hs}{W:α -> Hs->List Addr->Hp->Prop}{o:Out α}(n:∀c xs H,¬ EX c xs H)(p:Post B EX ρ H W o):Post B (λ_ _ _=>False) ρ H W o:=by
 cases o with
 |ok a h'=>exact p
 |exc c vs h'=>exact λρ' H' xs g r q=>n _ _ _ (p ρ' H' xs g r q)
 |no=>exact p
theorem xQ{n c:Nat}{φ0:List Val->M Val}(r:HR B ρ h H)(hv:au B.K ρ H vs xs)(hl:vs.length=n)(p:Post B (λ_ _ _=>False) ρ H (WV B.K Q) (RO c φ0 vs h))
  (nx:H x=none) (nd:H dx=none) (ne:dx≠x):vW B (n+1) φ0 (.ref x::xs) (upd (upd H dx (.own x)) x (.ins (B.cl c) dx [])) (λv H2=>v=.non/\Q (.ref x) H2) E:=by
 have r1:HR B ρ h (upd H dx (.own x)):=r.side nd;have RS:(upd H dx (.own x)) x=none:=by rw[aF λz=>ne z.symm];exact nx
 have g:Gr ρ H (ρ ++ [x]) (upd (upd H dx (.own x)) x (.ins (B.cl c) dx [])):=(Gr.side nd).trans (Gr.new RS);have r2:HR B (ρ ++ [x]) (h++[.ins c []]) (upd (upd H dx (.own x)) x (.ins (B.cl c) dx [])):=r1.new RS ⟨dx,[],aW,rfl⟩;have hx:(ρ ++ [x])[h.length]?=some x:=by rw[<-r.len];simp
 refine⟨ρ ++ [x],h++[.ins c []],.ref h.length::vs,by simp[hl],r2,au.cons (VR.ref hx) (au.up g _ _ hv),?_⟩;have p2:Post B (λ_ _ _=>False) (ρ ++ [x]) (upd (upd H dx (.own x)) x (.ins (B.cl c) dx [])) (WV B.K Q) (bnd (φ0 (.ref h.length::vs)) (λr=>match r with|.non=>ret (.ref h.length)|_=>aN none) (h++[.ins c []])):=Post.up g p;refine bF p2 λv h1 ρ1 H1 g1 r3 p3 y hy=>?_;cases v<;>first|exact p3.elim|skip
 rw[VR]at hy;exact⟨hy,ai r3 p3 _ (VR.ref (rN g1.pre hx))⟩
theorem Es{j:Nat}{k:Nat}(hs:jP Φ es)(c:Ctx Φ Γ k X cl EX)
  (h:(vU Γ.sc x && Γ.fns[j]?==some (x,args.length)&&decide (args.length<1000)&&aT Γ es args)=true):PE X (.Call (.Name x p) args [] pos) (tV Φ (bd X cl) EX (.call j es))/\PT X (.Call (.Name x p) args [] pos) (tT Φ (bd X cl) EX (.call j es)):=by
 simp only[and_eq_true,beq_iff_eq,decide_eq_true_eq]at h;obtain⟨⟨⟨h1,h2⟩,h3⟩,h4⟩:=h;obtain⟨g1,g2,g3⟩:=c.gl h1;have room:dZ k X.A:=c.room.mono (Wr k);have q:PE X (.Call (.Name x p) args [] pos) (tV Φ (bd X cl) EX (.call j es)):=by
  rcases c.fns j x _ h2 with ⟨_,⟨f,fd,ps,f1,f2,f3,f4,f5⟩|⟨cc,f,fd,ps,φ0,f0,f1,f2,f3,f4,f5⟩⟩|⟨z,_⟩
  ·cases args with
   |nil=>
    cases es with
    |cons i dS=>rw[aT.eq_def]at h4;cases h4
    |nil=>refine(Ar f5 room g1 f2 f3 f4 .nil xg g2).imp λσ H Q aK=>?_;obtain⟨ρ,env,h,hE,r,p⟩:=aK;simp only[aI,bq,b6]at p;exact⟨ρ,h,[],rfl,r,au.nil,iG (h:=h) c.mH p⟩
   |cons l ls=>
    cases es with
    |nil=>rw[aT]at h4;cases h4
    |cons i dS=>have h5:=h4;rw[aT.eq_def]at h5;dsimp only at h5;simp only[and_eq_true]at h5;refine(DF f5 room g1 f2 f3 f4 .nil xg (hs.1 Γ k X cl EX _ c h4) g2 (bR h5.1.1) (gH h5.2)).imp λσ H Q aK=>?_;obtain⟨ρ,env,h,hE,r,p⟩:=aK;simp only[aI]at p;refine⟨ρ,env,h,hE,r,fK p λvs h1 ρ1 H1 e1 g1 r1 p1 xs q1=>⟨ρ1,h1,vs,kL h4 e1,r1,by rw[WS];exact q1,iG (h:=h1) c.mH p1⟩⟩
  ·cases args with
   |nil=>
    cases es with
    |cons i dS=>rw[aT.eq_def]at h4;cases h4
    |nil=>refine(As f3 f5 c.room g1 f2 f4 .nil xg g2).imp λσ H Q aK=>?_;obtain⟨ρ,env,h,hE,r,p⟩:=aK;simp only[aI,bq,b6]at p;intro y dy ny QB QC;rw[f0]at p;exact xQ (B:=bd X cl) r au.nil rfl (iG (h:=h) c.mH p) ny QB QC
   |cons l ls=>
    cases es with
    |nil=>rw[aT]at h4;cases h4
    |cons i dS=>have h5:=h4;rw[aT.eq_def]at h5;dsimp only at h5;simp only[and_eq_true]at h5;refine(DG f3 f5 c.room g1 f2 f4 .nil xg (hs.1 Γ k X cl EX _ c h4) g2 (bR h5.1.1) (gH h5.2)).imp λσ H Q aK=>?_;obtain⟨ρ,env,h,hE,r,p⟩:=aK;simp only[aI]at p;refine⟨ρ,env,h,hE,r,fK p λvs h1 ρ1 H1 e1 g1 r1 p1 xs q1 y dy ny QB QC=>?_⟩;rw[f0]at p1;rw[WS];exact xQ (B:=bd X cl) r1 q1 (kL h4 e1) (iG (h:=h1) c.mH p1) ny QB QC
  ·omega
 exact⟨q,fu q λ_=>rfl⟩
theorem Et{j:Nat}(hs:jP Φ es):bV Φ (.call j es):=by
 intro Γ k X cl EX e c h;apply nR h;intro x _ args _ h;exact Es hs c h
theorem JA{n:Nat}(ha:bV Φ a):bV Φ (.fld n a x):=fj λ_ _=>rfl
theorem JB(ha:bV Φ a)(hs:jP Φ es):bV Φ (.mth a m js es):=fj λ_ _=>rfl
end
section
variable {Φ:Fn} {Γ:oY} {k:Nat} {X:Cx} {cl:Nat->Addr} {EX:Nat->List V->Hp->Prop}
theorem JC:bootBuiltins "all" = some (.builtin "all"):=by decide +kernel
theorem JD:bootBuiltins "any" = some (.builtin "any"):=by decide +kernel
theorem qu:bootBuiltins "sorted" = some (.builtin "sorted"):=by decide +kernel
theorem JE:bootBuiltins "min" = some (.builtin "min"):=by decide +kernel
theorem JF:bootBuiltins "max" = some (.builtin "max"):=by decide +kernel
theorem xR:bootBuiltins "list" = some (.type "list"):=by decide +kernel
theorem uf:bootBuiltins "tuple" = some (.type "tuple"):=by decide +kernel
theorem Bx:bootBuiltins "str" = some (.type "str"):=by decide +kernel
theorem By:bootBuiltins "int" = some (.type "int"):=by decide +kernel
theorem Eu:bootBuiltins "bool" = some (.type "bool"):=by decide +kernel
theorem Ew:bootBuiltins "dict" = some (.type "dict"):=by decide +kernel
theorem Ex:bootBuiltins "isinstance" = some (.builtin "isinstance"):=by decide +kernel
theorem ug:bq Φ #[e] env=bnd (aI Φ e env) λd=>ret [d]:=by
 simp only[bq,b6]
theorem six{T:String}(h:["list","tuple","str","bool","int","dict"].contains T=true):T = "list" \/ T = "tuple" \/ T = "str" \/ T = "bool" \/ T = "int" \/ T = "dict":=by simpa using h
theorem Ey{T:String}(h:["list","tuple","str","bool","int","dict"].contains T=true):(T:Str)∈bltNames/\bootBuiltins (T:Str)=some (.type T)/\(T:Str) ≠ "__name__" /\ ((T:Str)==("__debug__":Str))=false:=by
 rcases six h with rfl|rfl|rfl|rfl|rfl|rfl
 ·exact⟨by decide,xR,by decide,by decide⟩
 ·exact⟨by decide,uf,by decide,by decide⟩
 ·exact⟨by decide,Bx,by decide,by decide⟩
 ·exact⟨by decide,Eu,by decide,by decide⟩
 ·exact⟨by decide,By,by decide,by decide⟩
 ·exact⟨by decide,Ew,by decide,by decide⟩
theorem Ez{T:String}(hs:jP Φ es):bV Φ (.blt (.isin T) es):=by
 intro Γ k X cl EX e c h;apply nR h;intro x p args pos h;simp only[and_eq_true,beq_iff_eq]at h;obtain⟨⟨h1,h2⟩,h3⟩:=h;subst h2;obtain⟨g1,g2,g3⟩:=c.gl h1;split at h3<;>first|cases h3|skip
 rename_i a y yp;simp only[and_eq_true,beq_iff_eq]at h3;obtain⟨⟨⟨k1,k2⟩,k3⟩,k4⟩:=h3;obtain⟨b1,b2,b3,b4⟩:=Ey k3;obtain⟨y1,y2,y3⟩:=c.gl k1;subst k2;cases es with
 |nil=>rw[aT]at k4;cases k4
 |cons i dS=>
  rw[aT.eq_def]at k4;dsimp only at k4;simp only[and_eq_true]at k4;cases dS with
  |cons j dS=>have:=k4.2;rw[aT.eq_def]at this;cases this
  |nil=>
   have q:PE X (.Call (.Name (MQ (.isin T)) p) [a,.Name (T:Str) yp] [] pos) (tV Φ (bd X cl) EX (.blt (.isin T) #[i])):=by refine(fO (Eh (cl:=cl) (EX:=EX) (T:=T)) g1 (c.blt _ (show ("isinstance":Str)∈bltNames by decide)) Ex (qW (hs.2.1 Γ k X cl EX a c k4.1.2).1 (qW (Dq (v:=.ty T) y1 (c.blt _ b1) b2 rfl b3 b4) Ao) (bR k4.1.1)) g3 g2 (bR k4.1.1)).imp λσ H Q aK=>?_;obtain⟨ρ,env,h,hE,r,p⟩:=aK;simp only[aI,ug,aR,b6]at p;exact⟨ρ,env,h,hE,r,aA p λv h1 ρ1 x H1 g1 r1 q1 p1=>⟨ρ1,h1,v,x,rfl,r1,q1,p1⟩⟩
   exact⟨q,fu q λ_=>rfl⟩
theorem JG:bootBuiltins "set" = some (.type "set"):=by decide +kernel
theorem EA(ha:bV Φ a):bV Φ (.sset a):=by
 intro Γ k X cl EX e c h;apply nR h;intro x p1 q1 pos1 h;apply nQ h;intro q2 h;apply nR h;intro y p2 q3 pos2 h;apply nQ h;intro l h;simp only[and_eq_true,beq_iff_eq]at h;obtain⟨⟨⟨⟨⟨h1,h2⟩,h3⟩,h4⟩,h5⟩,h6⟩:=h;subst h1;subst h2;have q:PE X (.Call (.Name "sorted" p1) [.Call (.Name "set" p2) [l] [] pos2] [] pos1) (tV Φ (bd X cl) EX (.sset a)):=by have qe:=(ha Γ k X cl EX l c h6).1;intro pins s σ H Q I hh;have hd:X.A.handled=none:=I.ok.hd c.calm;refine((D7 hd (c.gl h3).1 (c.blt _ (by decide)) (c.gl h4).1 (c.blt _ (by decide)) qu JG qe (bR (env:=X.env) (es:=[]) h5)).imp λσ H Q ⟨ρ,env,h,hE,r,p⟩=>?_) pins s σ H Q I hh;simp only[aI]at p;refine⟨ρ,env,h,hE,r,aA p λv h1 ρ1 x H1 g1 r1 q1 p1=>?_⟩;obtain⟨zs,e,p1⟩:=az p1;obtain⟨ns,e1,p1⟩:=bL p1;obtain⟨e2,p1⟩:=aC p1;obtain⟨b,ys,rfl,q2,q3⟩:=cX r1 q1 e;rw[di e1]at q3;rw[au.ints.mp q3]at q2;exact⟨b,ns,rfl,q2,VH e2,λl hl=>dh r1 hl (au.ints.mpr rfl) p1⟩
 exact⟨q,fu q λ_=>rfl⟩
theorem EB{d k x:IE}(hd:bV Φ d)(hk:bV Φ k)(hx:bV Φ x):bV Φ (.dget d k x):=fj λ_ _=>rfl
theorem BA(hd:bV Φ d):bV Φ (.lkeys d):=fj λ_ _=>rfl
theorem EC{d k x:IE}(hd:bV Φ d)(hk:bV Φ k)(hx:bV Φ x):bV Φ (.sdef d k x):=fj λ_ _=>rfl
theorem BB(hd:bV Φ d):bV Φ (.skeys d):=fj λ_ _=>rfl
theorem BC(hd:bV Φ d):bV Φ (.svals d):=fj λ_ _=>rfl
theorem JH(hs:jP Φ es):bV Φ (.blt b es):=by
 cases b with
 |isin T=>exact Ez hs
 |_=>
  intro Γ k X cl EX e c h;apply nR h;intro x p args pos h;simp only[and_eq_true,beq_iff_eq]at h;obtain⟨⟨h1,h2⟩,h3⟩:=h;subst h2;obtain⟨g1,g2,g3⟩:=c.gl h1;cases args with
  |nil=>cases h3.1
  |cons l ls=>
   cases es with
   |nil=>have:=h3.2;rw[aT]at this;cases this
   |cons i dS=>
    have h5:=h3.2;rw[aT.eq_def]at h5;dsimp only at h5;simp only[and_eq_true]at h5;have hA:=hs.1 Γ k X cl EX _ c h3.2;have st:=bR (env:=X.env) (es:=ls) h5.1.1;have an:=gH (pos:=pos) (env:=X.env) h5.2;refine(λq=>⟨q,fu q λ_=>rfl⟩) ?_
    first
     |refine(fO (ID (cl:=cl) (EX:=EX)) g1 (c.blt _ (by decide)) PySem.boot_len hA g3 g2 st an).imp λσ H Q ⟨ρ,env,h,hE,r,p⟩=>?_
     |refine(fO (IF (cl:=cl) (EX:=EX) c.calm) g1 (c.blt _ (by decide)) JE hA g3 g2 st an).imp λσ H Q ⟨ρ,env,h,hE,r,p⟩=>?_
     |refine(fO (IG (cl:=cl) (EX:=EX) c.calm) g1 (c.blt _ (by decide)) JF hA g3 g2 st an).imp λσ H Q ⟨ρ,env,h,hE,r,p⟩=>?_
     |refine(fO (zj (cl:=cl) (EX:=EX)) g1 (c.blt _ (by decide)) qu hA g3 g2 st an).imp λσ H Q ⟨ρ,env,h,hE,r,p⟩=>?_
     |refine(fO (IK (cl:=cl) (EX:=EX) c.calm) g1 (c.blt _ (by decide)) JC hA g3 g2 st an).imp λσ H Q ⟨ρ,env,h,hE,r,p⟩=>?_
     |refine(fO (IL (cl:=cl) (EX:=EX) c.calm) g1 (c.blt _ (by decide)) JD hA g3 g2 st an).imp λσ H Q ⟨ρ,env,h,hE,r,p⟩=>?_
     |refine(jD (Ef (cl:=cl) (EX:=EX)) g1 (c.blt _ (by decide)) xR hA g3 g2 st an).imp λσ H Q ⟨ρ,env,h,hE,r,p⟩=>?_
     |refine(jD (Bg (cl:=cl) (EX:=EX)) g1 (c.blt _ (by decide)) uf hA g3 g2 st an).imp λσ H Q ⟨ρ,env,h,hE,r,p⟩=>?_
     |refine(jD (II (cl:=cl) (EX:=EX)) g1 (c.blt _ (by decide)) Bx hA g3 g2 st an).imp λσ H Q ⟨ρ,env,h,hE,r,p⟩=>?_
     |refine(jD (IJ (cl:=cl) (EX:=EX)) g1 (c.blt _ (by decide)) By hA g3 g2 st an).imp λσ H Q ⟨ρ,env,h,hE,r,p⟩=>?_
    simp only[aI]at p;exact⟨ρ,env,h,hE,r,bF p λvs h1 ρ1 H1 g1 r1 p1 xs q1=>⟨ρ1,h1,vs,r1,q1,p1⟩⟩
def RT:Me->String
 |.join=>"str" | .append=>"list" | .extend=>"list" | .remove=>"list" | .pop=>"str"
theorem ED(r:HR B ρ h H)(q:VR B.K ρ H v x)(e:recv h m v=some ()):P6 B.K (RT m) x H:=by
 cases m<;>cases v<;>simp only[recv]at e<;>first|cases e|skip
 ·rw[VR]at q;subst q;rfl
 all_goals first|(rw[VR]at q;subst q;rfl)|skip
 all_goals
  split at e
  ·rename_i xs e1;obtain⟨a,ys,rfl,q0,q1,q2⟩:=jI r q e1;exact .inl ⟨rfl,ys,.inl (.inl q1)⟩
  ·cases e
theorem JI(ha:bV Φ a)(hs:jP Φ es):bV Φ (.met m a es):=by
 intro Γ k X cl EX e c h;apply MI h;intro o x ap args cp h;simp only[and_eq_true,beq_iff_eq]at h;obtain⟨⟨⟨⟨⟨⟨h1,h2⟩,h3⟩,h4⟩,h5⟩,h6⟩,h7⟩:=h;subst h1;cases args with
 |nil=>cases h3
 |cons l ls=>
  have hA:=hs.1 Γ k X cl EX _ c h7;have h8:noStar l=true/\∃dS,aT Γ dS ls=true:=by
   cases es with
   |nil=>rw[aT]at h7;cases h7
   |cons i dS=>rw[aT.eq_def]at h7;dsimp only at h7;simp only[and_eq_true]at h7;exact⟨h7.1.1,dS,h7.2⟩
  obtain⟨n1,dS,n2⟩:=h8;have st:=bR (env:=X.env) (es:=ls) n1;have an:=gH (pos:=cp) (env:=X.env) n2;have few:((backTo cp (starEach (l::ls) X.env)).all (λx=>!x.1)&&(backToKw cp (keywordEach [] X.env)).all (λx=>x.1.isSome)
   && decide ((l::ls).length+([]:List Keyword).length+(if ([]:List Keyword).isEmpty then 0 else 1)<30))=true:=by
   rw[Bv h7];have:(l::ls).length<29:=VH h4;simp only[Bool.true_and,and_eq_true];exact⟨rfl,decide_eq_true (by simp at this |-;omega)⟩
  have hl:(ap.endLine==cp.line)=true:=by rw[h5];exact beq_self_eq_true _
  refine(λq=>⟨q,fu q λ_=>rfl⟩) ?_;have fin:∀(T:String) (r:V->List V->Hp->VK->Prop),(∀x xs H Q,Lq (bd X cl) EX m x xs H Q->r x xs H Q)->T=RT m->∀σ H Q,tV Φ (bd X cl) EX (.met m a es) σ H Q->Rx X.K T r (tV Φ (bd X cl) EX a) (RQ Φ (bd X cl) EX es) σ H Q:=by rintro T rr hr rfl σ H Q ⟨ρ,env,h,hE,r,p⟩;simp only[aI]at p;refine⟨ρ,env,h,hE,r,aA p λv h1 ρ1 x H1 g1 r1 q1 p1=>?_⟩;obtain⟨_,e1,p2⟩:=az p1;refine⟨ED r1 q1 e1,ρ1,env,h1,hE.up g1,r1,bF p2 λvs h2 ρ2 H2 g2 r2 p3 xs q2=>hr _ _ _ _ ⟨ρ2,h2,v,vs,r2,VR.up g2 _ _ q1,q2,p3⟩⟩
  cases m with
  |join=>exact(tu PySem.F.plainAttrs_str PySem.F.slot_str_join PySem.F.type_str_join (Ei (cl:=cl) (EX:=EX)) (ha Γ k X cl EX o c h6).1 hA (super_ok h2) few hl st an).imp (fin _ _ (λ_ _ _ _ z=>z) rfl)
  |append=>exact(tu Xh PySem.F.slot_list_append PySem.F.type_list_append (zk (cl:=cl) (EX:=EX)) (ha Γ k X cl EX o c h6).1 hA (super_ok h2) few hl st an).imp (fin _ _ (λ_ _ _ _ z=>z) rfl)
  |extend=>exact(tu Xh PySem.F.slot_list_extend PySem.F.type_list_extend (zl (cl:=cl) (EX:=EX)) (ha Γ k X cl EX o c h6).1 hA (super_ok h2) few hl st an).imp (fin _ _ (λ_ _ _ _ z=>z) rfl)
  |remove=>exact(tu Xh PySem.F.slot_list_remove PySem.F.type_list_remove (zm (cl:=cl) (EX:=EX)) (ha Γ k X cl EX o c h6).1 hA (super_ok h2) few hl st an).imp (fin _ _ (λ_ _ _ _ z=>z) rfl)
  |pop=>exact(tu PySem.F.plainAttrs_str PySem.F.slot_str_split PySem.F.type_str_split (IM (cl:=cl) (EX:=EX)) (ha Γ k X cl EX o c h6).1 hA (super_ok h2) few hl st an).imp (fin _ _ (λ_ _ _ _ z=>z) rfl)
end
theorem _root_.L2.PI.or(h:PI X tg iter t)(h':PI X tg iter t'):PI X tg iter (λσ H R=>t σ H R\/t' σ H R):=λpins s σ H R I hw=>hw.elim (h pins s σ H R I) (h' pins s σ H R I)
structure Walks (B:Bd) (src:Src) (J:It) (ρ1:List Addr) (H1:Hp):Prop where
 stop:∀{ρ h H i xs},Gw ρ1 H1 ρ H->HR B ρ h H->src.items h=some xs->xs.length<=i->J.stop i H
 go:∀{ρ h H i xs v},Gw ρ1 H1 ρ H->HR B ρ h H->src.items h=some xs->xs[i]?=some v->J.go i H
 vc:∀{ρ h H i xs v y H'},Gw ρ1 H1 ρ H->HR B ρ h H->src.items h=some xs->xs[i]?=some v->J.vc i H y H'->Gr ρ H ρ H'/\HR B ρ h H'/\VR B.K ρ H' v y
section
variable {B:Bd} {ρ1:List Addr} {H1:Hp} {a:Addr}
theorem zu(q:iA B.K H1 a xs)(e:au B.K ρ1 H1 vs xs):Walks B (.fix vs) (PJ B.K a) ρ1 H1 where
 stop:=λg r hi hl=>by
  cases hi;exact⟨xs,g.Pd q,by rw[<-e.length];exact hl⟩
 go:=λg r hi hv=>by
  cases hi;obtain⟨x,k1,_⟩:=e.get hv;exact⟨xs,x,g.Pd q,k1⟩
 vc:=λg r hi hv y=>by
  cases hi;obtain⟨rfl,y⟩:=y;obtain⟨x,k1,k2⟩:=e.get hv;have:=y xs (g.Pd q);rw[k1]at this;cases this;exact⟨Gr.refl,r,VR.jZ g _ _ k2⟩
theorem BD(q:Gj B.K H1 a xs)(e:au B.K ρ1 H1 vs xs):Walks B (.fix vs) (O4 B.K a) ρ1 H1 where
 stop:=λg r hi hl=>by
  cases hi;exact⟨xs,(g.Iq q).sq,by rw[<-e.length];exact hl⟩
 go:=λg r hi hv=>by
  cases hi;obtain⟨x,k1,_⟩:=e.get hv;exact⟨xs,x,(g.Iq q).sq,k1⟩
 vc:=λg r hi hv y=>by
  cases hi;obtain⟨rfl,y⟩:=y;obtain⟨x,k1,k2⟩:=e.get hv;have:=y xs (g.Iq q).sq;rw[k1]at this;cases this;exact⟨Gr.refl,r,VR.jZ g _ _ k2⟩
theorem jJ{i:Nat}(q:ρ1[i]?=some a)(g:Gw ρ1 H1 ρ H)(r:HR B ρ h H)(hi:(Src.live i).items h=some xs):∃ys,fN B.K H a ys/\au B.K ρ H xs ys:=by
 obtain⟨b,ys,e,k1,k2⟩:=cX r (VR.ref (rN g.pre q)) (show ay h (.ref i)=some xs from hi);cases e;exact⟨ys,k1,k2⟩
theorem vY{i:Nat}(q:ρ1[i]?=some a):Walks B (.live i) (O4 B.K a) ρ1 H1 where
 stop:=λg r hi hl=>by
  obtain⟨ys,k1,k2⟩:=jJ q g r hi;exact⟨ys,k1,by rw[<-k2.length];exact hl⟩
 go:=λg r hi hv=>by
  obtain⟨ys,k1,k2⟩:=jJ q g r hi;obtain⟨x,k3,_⟩:=k2.get hv;exact⟨ys,x,k1,k3⟩
 vc:=λg r hi hv y=>by
  obtain⟨ys,k1,k2⟩:=jJ q g r hi;obtain⟨rfl,y⟩:=y;obtain⟨x,k3,k4⟩:=k2.get hv;have:=y ys k1;rw[k3]at this;cases this;exact⟨Gr.refl,r,k4⟩
theorem signs_get{i:Nat}:(signs x)[i]?=(x.cps[i]?).map λc=>Val.str ⟨[c].toArray⟩:=by
 unfold signs;rw[VI,Array.getElem?_toList]
theorem qv(x:Str):(signs x).length=x.cps.size:=by unfold signs;simp
theorem vZ:Walks B (.fix (signs x)) (Qv x) ρ1 H1 where
 stop:=λg r hi hl=>by
  cases hi;rw[qv]at hl;exact hl
 go:=λg r hi hv=>by
  cases hi;have:=(Vn.mp hv).1;rw[qv]at this;exact this
 vc:=λ{ρ h H i xs v y H'} g r hi hv y'=>by
  cases hi;obtain⟨rfl,c,e1,rfl⟩:=y';rw[signs_get,e1]at hv;cases hv;exact⟨Gr.refl,r,VR.str⟩
theorem gp(lo:Int)(n:Nat):(bT lo n).length=n:=by unfold bT;simp
theorem mz{lo:Int}{n:Nat}:Walks B (.fix (bT lo n)) (LV lo n) ρ1 H1 where
 stop:=λg r hi hl=>by
  cases hi;rw[gp]at hl;exact hl
 go:=λg r hi hv=>by
  cases hi;have:=(Vn.mp hv).1;rw[gp]at this;exact this
 vc:=λ{ρ h H i xs v y H'} g r hi hv y'=>by
  cases hi;obtain⟨rfl,rfl⟩:=y';have hl:=(Vn.mp hv).1;rw[gp]at hl;have e:(bT lo n)[i]?=some (.int (lo+i)):=by unfold bT;simp[hl]
  rw[e]at hv;cases hv;exact⟨Gr.refl,r,VR.int⟩
theorem fF:∀(i:Nat) (ds:List Val),(bQ i ds).length=ds.length
 |_,[]=>rfl
 |i,d::r=>by simp[bQ,fF (i+1) r]
theorem qw:∀(k:Nat) (ds:List Val) (i:Nat) (d:Val),ds[i]?=some d->(bQ k ds)[i]?=some (.tup [.int ((k+i:Nat):Int),d])
 |_,[],_,_,h=>by simp at h
 |k,e::r,0,d,h=>by simp at h;subst h;simp[bQ]
 | k,e::r,i+1,d,h=>by
  have:=qw (k+1) r i d (by simpa using h);simp only[bQ,List.getElem?_cons_succ];rw[this];have e1:k+1+i=k+(i+1):=by omega
  rw[e1]
theorem lT{i:Nat}(e:(bQ 0 ds)[i]?=some v):∃d,ds[i]?=some d/\v=.tup [.int (i:Int),d]:=by
 have hl:=(Vn.mp e).1;rw[fF]at hl;have e1:=qw 0 ds i ds[i] (VN hl);rw[e]at e1;cases e1;exact⟨ds[i],VN hl,by rw[Nat.zero_add]⟩
theorem uh{i:Nat}(r:HR B ρ h H)(k1:fN B.K H a ys)(k2:au B.K ρ H xs ys)(hv:(bQ 0 xs)[i]?=some v)(hy:(Mp B.K a).vc i H y H'):Gr ρ H ρ H'/\HR B ρ h H'/\VR B.K ρ H' v y:=by
 obtain⟨p,w,hn,rfl,rfl,hy⟩:=hy;obtain⟨d,e1,rfl⟩:=lT hv;obtain⟨x,k3,k4⟩:=k2.get e1;have:=hy ys k1;rw[k3]at this;cases this;exact⟨Gr.side hn,r.side hn,VR.tup (iA.of aW) (au.cons VR.int (au.cons (VR.up (Gr.side hn) _ _ k4) au.nil))⟩
theorem um(q:Gj B.K H1 a xs)(e:au B.K ρ1 H1 vs xs):Walks B (.fix (bQ 0 vs)) (Mp B.K a) ρ1 H1 where
 stop:=λg r hi hl=>by
  cases hi;rw[fF]at hl;exact⟨xs,(g.Iq q).sq,by rw[<-e.length];exact hl⟩
 go:=λg r hi hv=>by
  cases hi;obtain⟨d,e1,_⟩:=lT hv;obtain⟨x,k1,_⟩:=e.get e1;exact⟨xs,x,(g.Iq q).sq,k1⟩
 vc:=λg r hi hv y=>by
  cases hi;exact uh r (g.Iq q).sq (au.jZ g _ _ e) hv y
theorem uo{i:Nat}(q:ρ1[i]?=some a):Walks B (.enum i) (Mp B.K a) ρ1 H1 where
 stop:=λg r hi hl=>by
  obtain⟨zs,e1,rfl⟩:=VS.mp hi;obtain⟨ys,k1,k2⟩:=jJ q g r e1;rw[fF]at hl;exact⟨ys,k1,by rw[<-k2.length];exact hl⟩
 go:=λg r hi hv=>by
  obtain⟨zs,e1,rfl⟩:=VS.mp hi;obtain⟨ys,k1,k2⟩:=jJ q g r e1;obtain⟨d,e2,_⟩:=lT hv;obtain⟨x,k3,_⟩:=k2.get e2;exact⟨ys,x,k1,k3⟩
 vc:=λg r hi hv y=>by
  obtain⟨zs,e1,rfl⟩:=VS.mp hi;obtain⟨ys,k1,k2⟩:=jJ q g r e1;exact uh r k1 k2 hv y
end
section
variable {Φ:Fn} {Γ:oY} {k:Nat} {X:Cx} {cl:Nat->Addr} {EX:Nat->List V->Hp->Prop}
def Ls(Φ:Fn)(ik:Ik)(it:j7)(env:Env):M Src:=bnd (bq Φ it env) λits=>aN (srcOf ik its)
def tI(Φ:Fn)(B:Bd)(EX:Nat->List V->Hp->Prop)(ik:Ik)(it:j7):TI:=λσ H R=>∃ρ env h,cM B.K ρ env σ H/\HR B ρ h H /\
 Post B EX ρ H (λsrc h' ρ' H'=>(∃xs,src.items h'=some xs)/\∀J,Walks B src J ρ' H'->R J H') (Ls Φ ik it env h)
theorem Gv(hs:jP Φ it)(c:Ctx Φ Γ k X cl EX)(h:xK Γ ik it iter=true)(ht:ik=.enum\/ik=.zip->∃es kk pos,tg=.Tuple es kk pos):PI X tg iter (tI Φ (bd X cl) EX ik it)/\∀x,foldedSetIterable iter X.env x=pure x:=by
 cases it with
 |nil=>rw[xK]at h;cases h
 |cons e es=>
  cases ik with
  |seq=>
   replace h:=Bu h;obtain⟨rfl,h⟩:=h;simp only[and_eq_true]at h;have q:=(hs.2.1 Γ k X cl EX iter c h.2).1;refine⟨(((Dy q).or (Ht q)).or (Ea q)).imp λσ H R ⟨ρ,env,h,hE,r,p⟩=>?_,λx=>?_⟩
   ·simp only[Ls,ug,aR,b6]at p
    have key:∀(Q:VK),(∀v h1 ρ1 x H1,aI Φ e env h=.ok v h1->Gr ρ H ρ1 H1->HR (bd X cl) ρ1 h1 H1->VR X.K ρ1 H1 v x->Post (bd X cl) EX ρ1 H1 (λsrc h' ρ' H'=>(∃xs,src.items h'=some xs)/\∀J,Walks (bd X cl) src J ρ' H'->R J H') (aN (srcOf .seq [v]) h1)->Q x H1)->tV Φ (bd X cl) EX e σ H Q:=λQ kk=>
     ⟨ρ,env,h,hE,r,fK p λv h1 ρ1 H1 e1 g1 r1 p1 x q1=>kk v h1 ρ1 x H1 e1 g1 r1 q1 p1⟩
    cases ev:aI Φ e env h with
    |ok v h1=>
     cases v with
     |tup vs=>refine .inl (.inr (key _ λv h1 ρ1 x H1 e1 g1 r1 q1 p1=>?_));rw[ev]at e1;cases e1;obtain⟨src,e2,w1,w2⟩:=bZ r1 p1;cases e2;rw[VR]at q1;obtain⟨a,xs,rfl,k1,k2⟩:=q1;exact⟨a,rfl,⟨xs,k1⟩,w2 _ (zu k1 k2)⟩
     |rl vs=>refine .inl (.inl (key _ λv h1 ρ1 x H1 e1 g1 r1 q1 p1=>?_));rw[ev]at e1;cases e1;obtain⟨src,e2,w1,w2⟩:=bZ r1 p1;cases e2;rw[VR]at q1;obtain⟨a,xs,rfl,k1,k2⟩:=q1;exact⟨a,rfl,⟨xs,k1.sq⟩,w2 _ (BD k1 k2)⟩
     |ref i=>refine .inl (.inl (key _ λv h1 ρ1 x H1 e1 g1 r1 q1 p1=>?_));rw[ev]at e1;cases e1;obtain⟨src,e2,⟨zs,w1⟩,w2⟩:=bZ r1 p1;cases e2;have q0:=q1;rw[VR]at q1;obtain⟨a,rfl,k1⟩:=q1;obtain⟨b,ys,e3,k2,k3⟩:=cX r1 q0 (show ay h1 (.ref i)=some zs from w1);cases e3;exact⟨a,rfl,⟨ys,k2⟩,w2 _ (vY k1)⟩
     |str z=>
      refine .inr (key _ λv h1 ρ1 x H1 e1 g1 r1 q1 p1=>?_);rw[ev]at e1;cases e1;obtain⟨src,e2,w1,w2⟩:=bZ r1 p1;change (if L2.isAscii z=true then some (Src.fix (signs z)) else none)=some src at e2;split at e2
      ·rename_i ha;cases e2;rw[VR]at q1;exact⟨z,q1,ha,w2 _ vZ⟩
      ·cases e2
     |_=>refine .inl (.inl (key _ λv h1 ρ1 x H1 e1 g1 r1 q1 p1=>?_));rw[ev]at e1;cases e1;obtain⟨src,e2,_⟩:=bZ r1 p1;cases e2
    |exc _ _ _=>exact .inl (.inl (key _ λv h1 ρ1 x H1 e1=>by rw[ev]at e1;cases e1))
    |no=>exact .inl (.inl (key _ λv h1 ρ1 x H1 e1=>by rw[ev]at e1;cases e1))
   ·cases iter<;>first|rfl|(exact absurd h.1 Vl)
  |range=>
   apply nR h;intro x xp q1 pos h;apply vS h;intro a args h;simp only[and_eq_true,beq_iff_eq]at h;obtain⟨⟨⟨⟨⟨h1,h2⟩,h3⟩,h4⟩,h5⟩,h6⟩:=h;subst h1;obtain⟨g1,g2,g3⟩:=c.gl h2;have hm:=c.blt _ (show ("range":Str)∈bltNames by decide);refine⟨?_,λx=>rfl⟩;have hA:=hs.1 Γ k X cl EX (a::args) c (by rw[aT.eq_def];simp[h3,h4,h5]);cases args with
   |nil=>
    cases es with
    |cons i dS=>rw[aT.eq_def]at h5;cases h5
    |nil=>
     refine(yE g1 hm hA (bR h3)).imp λσ H R aK=>?_;obtain⟨ρ,env,h,hE,r,p⟩:=aK;refine⟨ρ,env,h,hE,r,fK p λvs h1 ρ1 H1 e1 RW r1 p1 xs q1=>?_⟩;obtain⟨src,e2,w1,w2⟩:=bZ r1 p1
     match vs,e2 with
     |[.int n],e2=>
      change (if inR n=true then some (Src.fix (bT 0 n.toNat)) else none)=some src at e2;split at e2
      ·rename_i hn;cases e2;simp only[inR,and_eq_true,decide_eq_true_eq]at hn;obtain⟨x,rfl,hx⟩:=au.one q1;rw[VR]at hx;subst hx;exact⟨n,rfl,hn.1,hn.2,w2 _ mz⟩
      ·cases e2
     |[.int _,.int _],e2=>have:=kL (Γ:=Γ) (ls:=[a]) (by rw[aT.eq_def];simp[h3,h4,aT]) e1;simp at this
   |cons b args=>
    cases args with
    |cons _ _=>have:=VH h6;simp only[length_cons]at this;omega
    |nil=>
     have hb:noStar b=true:=by
      cases es with
      |nil=>rw[aT]at h5;cases h5
      |cons i dS=>rw[aT.eq_def]at h5;dsimp only at h5;simp only[and_eq_true]at h5;exact h5.1.1
     refine(yF g1 hm hA (by rw[bR h3,bR hb];rfl) (by rw[bR hb];rfl)).imp λσ H R aK=>?_;obtain⟨ρ,env,h,hE,r,p⟩:=aK;refine⟨ρ,env,h,hE,r,fK p λvs h1 ρ1 H1 e1 RW r1 p1 xs q1=>?_⟩;obtain⟨src,e2,w1,w2⟩:=bZ r1 p1
     match vs,e2 with
     |[.int _],e2=>have:=kL (Γ:=Γ) (ls:=[a,b]) (by rw[aT.eq_def];simp[h3,h4,h5]) e1;simp at this
     |[.int lo,.int hi],e2=>
      change (if (inR lo&&inR hi)=true then some (Src.fix (bT lo (hi-lo).toNat)) else none)=some src at e2;split at e2
      ·rename_i hn;cases e2;simp only[inR,and_eq_true,decide_eq_true_eq]at hn;obtain⟨x,y,rfl,hx,hy⟩:=au.two q1;rw[VR]at hx;rw[VR]at hy;subst hx;subst hy;exact⟨lo,hi,rfl,⟨hn.1.1,hn.1.2,hn.2.1,hn.2.2⟩,w2 _ mz⟩
      ·cases e2
  |enum=>
   replace h:=Bu h;obtain⟨rfl,h⟩:=h;apply nR h;intro x xp q1 pos h;apply nQ h;intro a h;simp only[and_eq_true,beq_iff_eq]at h;obtain⟨⟨⟨h1,h2⟩,h3⟩,h4⟩:=h;subst h1;obtain⟨g1,g2,g3⟩:=c.gl h2;have hm:=c.blt _ (show ("enumerate":Str)∈bltNames by decide);obtain⟨Ve,tk,tp,rfl⟩:=ht (.inl rfl);refine⟨?_,λx=>rfl⟩;have hA:=hs.1 Γ k X cl EX [a] c (by rw[aT.eq_def];simp[h3,h4,aT]);refine(D0 g1 hm hA (bR h3)).imp λσ H R aK=>?_;obtain⟨ρ,env,h,hE,r,p⟩:=aK;refine⟨ρ,env,h,hE,r,fK p λvs h1 ρ1 H1 e1 RW r1 p1 xs q1=>?_⟩;obtain⟨src,e2,⟨zs,w1⟩,w2⟩:=bZ r1 p1
   match vs,e2 with
   |[.rl ws],e2=>cases e2;obtain⟨x,rfl,hx⟩:=au.one q1;rw[VR]at hx;obtain⟨b,ys,rfl,k1,k2⟩:=hx;exact⟨b,rfl,⟨ys,k1.sq⟩,w2 _ (um k1 k2)⟩
   |[.ref i],e2=>cases e2;obtain⟨x,rfl,hx⟩:=au.one q1;obtain⟨us,w3,_⟩:=VS.mp w1;obtain⟨b,ys,rfl,k2,k3⟩:=cX r1 hx w3;rw[VR]at hx;obtain⟨b',e3,k1⟩:=hx;cases e3;exact⟨b,rfl,⟨ys,k2⟩,w2 _ (uo k1)⟩
  |zip=>cases h
end
section
variable {Φ:Fn} {Γ:oY} {k:Nat} {X:Cx} {cl:Nat->Addr} {EX:Nat->List V->Hp->Prop}
def nS:List Nat->Lj
 |[]=>LR
 |i::is=>FW (pO i) (nS is)
def zv(K:Frag):vP->TG
 |.one i=>pO i
 |.tup is=>LS K is.length (nS is)
def gq:List Nat->List V->L2.St->L2.St
 |i::is,v::vs,σ=>gq is vs (σ.set i (some v))
 |_,_,σ=>σ
theorem lU:∀{is:List Nat} {vs:List V} {σ:L2.St} {H:Hp} {Q:L2.St->Hp->Prop},vs.length=is.length->Q (gq is vs σ) H->nS is vs σ H Q
 |[],[],_,_,_,_,h=>⟨rfl,h⟩
 |i::is,v::vs,σ,H,Q,hl,h=>⟨v,vs,rfl,lU (by simpa using hl) h⟩
theorem qy(hnd:X.N.Nodup):∀{is:List Nat} {es:List Expr},es.length=is.length->(∀p∈is.zip es,∃x pos,p.2=.Name x pos/\X.N[p.1]?=some x/\X.env.scope.names.lookup x=some .local)->Lk X es (nS is)
 |[],[],_,_=>wR
 | i::is,e::es,hl,h=>by
  obtain⟨x,pos,rfl,h1,h2⟩:=h (i,e) (by simp);exact sV (mW hnd h1 (.inl h2) (.inr h2)) (qy hnd (by simpa using hl) λp hp=>h p (by simp[hp]))
theorem fT:∀{es:List Expr},(∀e∈es,∃x pos,e=.Name x pos)->(assignEach es env).length=es.length/\(assignEach es env).findIdx? (·.1)=none
 |[],_=>⟨rfl,rfl⟩
 | e::es,h=>by
  obtain⟨x,pos,rfl⟩:=h e Vs;obtain⟨h1,h2⟩:=fT (env:=env) (es:=es) λe he=>h e (Vq _ he);have e1:assignEach (Expr.Name x pos::es) env=(false,assign (Expr.Name x pos) env)::assignEach es env:=rfl;rw[e1];refine⟨by simp[h1],?_⟩;rw[List.findIdx?_cons,h2];rfl
theorem BE{i:Nat}(h:zo Γ (.one i) tg=true):∃x p,tg=.Name x p:=by
 cases tg<;>first|exact⟨_,_,rfl⟩|exact absurd h Vl
theorem uq{is:List Nat}(h:zo Γ (.tup is) tg=true):∃es k p,tg=.Tuple es k p:=by
 cases tg<;>first|exact⟨_,_,_,rfl⟩|exact absurd h Vl
theorem JJ(c:Ctx Φ Γ k X cl EX)(hnd:X.N.Nodup)(h:zo Γ pat tg=true):PG X tg (zv X.K pat):=by
 cases pat with
 |one i=>obtain⟨x,xp,rfl⟩:=BE h;simp only[zo,and_eq_true,beq_iff_eq]at h;obtain⟨h1,h2⟩:=h;exact mW hnd (by rw[c.N];exact h1) (.inl (by rw[c.sc];exact h2)) (.inr (by rw[c.sc];exact h2))
 |tup is=>
  obtain⟨es,kk,pos,rfl⟩:=uq h
  ·
   simp only[zo,and_eq_true,beq_iff_eq,List.all_eq_true]at h;obtain⟨h1,h2⟩:=h;have names:∀p∈is.zip es,∃x pos,p.2=.Name x pos/\X.N[p.1]?=some x/\X.env.scope.names.lookup x=some .local:=λp hp=>by
    have q:=h2 p hp;cases ep:p.2<;>rw[ep]at q<;>simp at q;rename_i x pos';exact⟨x,pos',rfl,by rw[c.N];exact q.1,by rw[c.sc];exact q.2⟩
   have all:∀e∈es,∃x pos,e=.Name x pos:=λe he=>by
    obtain⟨n,hn,rfl⟩:=Xz he;have hm:(is[n]'(by omega),es[n])∈is.zip es:=Xp.mpr ⟨n,by rw[W7];simp[hn]⟩;obtain⟨x,pos,q,_⟩:=names _ hm;exact⟨x,pos,q⟩
   obtain⟨l1,l2⟩:=fT (env:=X.env) all;exact Ad c.calm (qy hnd h1 names) (by rw[l1,h1]) l2
def ur(Γ:oY):vP->Expr->Bool
 |.one i,.Name x _=>Γ.N[i]?==some x&&(Γ.sc.names.lookup x==some .local || Γ.sc.names.lookup x==some .cell)
 | .tup is,.Tuple es _ _=>es.length==is.length&&(is.zip es).all λp=>match p.2 with
  |.Name x _=>Γ.N[p.1]?==some x&&(Γ.sc.names.lookup x==some .local || Γ.sc.names.lookup x==some .cell)
  |_=>false
 |_,_=>false
theorem nT(hfn:∀x,X.fn x=true)(hnd:X.N.Nodup):∀{is:List Nat} {es:List Expr},es.length=is.length->(∀p∈is.zip es,∃x pos,p.2=.Name x pos/\X.N[p.1]?=some x/\Loc X.env.scope x)->Lk X es (nS is)
 |[],[],_,_=>wR
 | i::is,e::es,hl,h=>by
  obtain⟨x,pos,rfl,h1,h2⟩:=h (i,e) (by simp);exact sV (mW hnd h1 h2 (.inl (hfn x))) (nT hfn hnd (by simpa using hl) λp hp=>h p (by simp[hp]))
theorem nU{i:Nat}(h:ur Γ (.one i) tg=true):∃x p,tg=.Name x p:=by
 cases tg<;>first|exact⟨_,_,rfl⟩|exact absurd h Vl
theorem kM{is:List Nat}(h:ur Γ (.tup is) tg=true):∃es k p,tg=.Tuple es k p:=by
 cases tg<;>first|exact⟨_,_,_,rfl⟩|exact absurd h Vl
theorem xS(c:Ctx Φ Γ k X cl EX)(hfn:∀x,X.fn x=true)(hnd:X.N.Nodup)(h:ur Γ pat tg=true):PG X tg (zv X.K pat):=by
 have loc:∀x,(Γ.sc.names.lookup x==some .local || Γ.sc.names.lookup x==some .cell)=true->Loc X.env.scope x:=λx e=>by
  unfold L2.Loc;rw[c.sc];simpa using e
 cases pat with
 |one i=>obtain⟨x,pos,rfl⟩:=nU h;simp only[ur,and_eq_true,beq_iff_eq]at h;obtain⟨h1,h2⟩:=h;exact mW hnd (by rw[c.N];exact h1) (loc _ h2) (.inl (hfn _))
 |tup is=>
  obtain⟨es,kk,pos,rfl⟩:=kM h
  ·
   simp only[ur,and_eq_true,beq_iff_eq,List.all_eq_true]at h;obtain⟨h1,h2⟩:=h;have names:∀p∈is.zip es,∃x pos,p.2=.Name x pos/\X.N[p.1]?=some x/\Loc X.env.scope x:=λp hp=>by
    have q:=h2 p hp;cases ep:p.2<;>rw[ep]at q<;>first|cases q|skip
    rename_i x pos';simp only[and_eq_true,beq_iff_eq]at q;exact⟨x,pos',rfl,by rw[c.N];exact q.1,loc _ q.2⟩
   have all:∀e∈es,∃x pos,e=.Name x pos:=λe he=>by
    obtain⟨n,hn,rfl⟩:=Xz he;have hm:(is[n]'(by omega),es[n])∈is.zip es:=Xp.mpr ⟨n,by rw[W7];simp[hn]⟩;obtain⟨x,pos,q,_⟩:=names _ hm;exact⟨x,pos,q⟩
   obtain⟨l1,l2⟩:=fT (env:=X.env) all;exact Ad c.calm (nT hfn hnd h1 names) (by rw[l1,h1]) l2
theorem cM.set{K:Frag}{ρ:List Addr}{env:Env}{σ:L2.St}{H:Hp}{i:Nat}{v:Val}{x:V}(e:cM K ρ env σ H)(hl:env.length = σ.length)(q:VR K ρ H v x):cM K ρ (env.set i (some v)) (σ.set i (some x)) H:=λj w hj=>by
 by_cases hij:i=j
 ·subst hij
  have hi:i<env.length:=by have:=(Vn.mp hj).1;simpa using this
  rw[Vz hi]at hj;cases hj;exact⟨x,by rw[Vz (by rw[<-hl];exact hi)],q⟩
 ·rw[Vr hij]at hj;rw[Vr hij];exact e j w hj
theorem kg{K:Frag}{ρ:List Addr}{H:Hp}:∀{is:List Nat} {ds:List Val} {xs:List V} {env env':Env} {σ:L2.St},bindAll is ds env=some env'->au K ρ H ds xs->cM K ρ env σ H->env.length = σ.length->cM K ρ env' (gq is xs σ) H/\env'.length=(gq is xs σ).length/\(gq is xs σ).length = σ.length/\xs.length=is.length
 | [],[],xs,env,env',σ,e,q,hE,hl=>by
  rw[au]at q;subst q;simp only[bindAll]at e;cases e;exact⟨hE,hl,rfl,rfl⟩
 | i::is,d::ds,xs,env,env',σ,e,q,hE,hl=>by
  rw[au]at q;obtain⟨x,r,rfl,q1,q2⟩:=q;simp only[bindAll]at e;obtain⟨a1,a2,a3,a4⟩:=kg e q2 (hE.set hl q1) (by simp[hl]);exact⟨a1,a2,by rw[show gq (i::is) (x::r) σ = gq is r (σ.set i (some x)) from rfl,a3];simp,by simp[a4]⟩
 |[],_::_,_,_,_,_,e,_,_,_=>by simp[bindAll]at e
 |_::_,[],_,_,_,_,e,_,_,_=>by simp[bindAll]at e
theorem xT{K:Frag}{ρ:List Addr}{H:Hp}{pat:vP}{v:Val}{x:V}{env env':Env}{σ:L2.St}{Q:L2.St->Hp->Prop}(e:fq pat v env=some env')(q:VR K ρ H v x)(hE:cM K ρ env σ H)(hl:env.length = σ.length)
  (kk:∀σ',cM K ρ env' σ' H->env'.length = σ'.length -> σ'.length = σ.length->Q σ' H):zv K pat x σ H Q:=by
 cases pat with
 |one i=>simp only[fq]at e;cases e;exact kk _ (hE.set hl q) (by simp[hl]) (by simp)
 |tup is=>
  cases v<;>simp only[fq]at e<;>first|cases e|skip
  rw[VR]at q;obtain⟨a,xs,rfl,q1,q2⟩:=q;obtain⟨a1,a2,a3,a4⟩:=kg e q2 hE hl;exact⟨a,xs,rfl,q1,a4,lU a4 (kk _ a1 a2 a3)⟩
theorem jK{α β:Type}{W:β -> Hs->List Addr->Hp->Prop}{W':α -> Hs->List Addr->Hp->Prop}{m:M α}{f:α -> M β}(g:Gr ρ H ρ' H')(p:Post B EX ρ H W (bnd m f h))
  (kk:∀v h1 ρ2 H2,m h=.ok v h1->Post B EX ρ H W (f v h1)->Gr ρ' H' ρ2 H2->HR B ρ2 h1 H2->W' v h1 ρ2 H2):Post B EX ρ' H' W' (m h):=by
 unfold bnd at p;cases e:m h with
 |ok v h1=>rw[e]at p;exact λρ2 H2 g2 r2=>kk v h1 ρ2 H2 e p g2 r2
 |exc c vs h1=>rw[e]at p;exact λρ2 H2 xs g2 r2 q=>p ρ2 H2 xs (g.trans g2) r2 q
 |no=>rw[e]at p;exact p
theorem HR.adopt(r:HR B ρ h H)(hD:D ∉ ρ)(q:OR B (ρ ++ [D]) H D u):HR B (ρ ++ [D]) (h++[u]) H where
 len:=by simp[r.len]
 nd:=by rw[W0];refine⟨r.nd,by simp,λa ha b hb=>?_⟩;rw[VM.mp hb];rintro rfl;exact hD ha
 ob i v a q1 q2:=by
  by_cases hi:i<h.length
  ·rw[VD hi]at q1;rw[VD (by rw[r.len];exact hi)]at q2;exact OR.jZ ⟨Wa _ _,λ_ _ e _=>e⟩ rfl (r.ob i v a q1 q2)
  ·rw[VT (by omega)]at q1
   rw[VT (by rw[r.len];omega)]at q2;have hi0:i-h.length=0:=by have:=(Vn.mp q1).1;simp at this;omega
   rw[hi0]at q1;rw[r.len,hi0]at q2;simp at q1 q2;subst q1;subst q2;exact q
theorem Gr.over(g:Gr ρ H ρ' H')(hD:H D=none):Gr ρ H ρ' (upd H' D o) where
 pre:=g.pre
 keep a u e n:=by rw[aF (aO e hD)];exact g.keep a u e n
 firm a u e n:=by rw[aF (aO e hD)];exact g.firm a u e n
 fresh:=g.fresh
theorem Gr.adopt(g:Gr ρ H ρ' H')(hD:H D=none):Gr ρ H (ρ'++[D]) H' where
 pre:=g.pre.trans (Wa _ _)
 keep:=g.keep
 firm:=g.firm
 fresh a z n:=by
  rcases Wq.mp z with z|z
  ·exact g.fresh a z n
  ·rw[VM.mp z];exact hD
theorem EE{K:Frag}{ρ:List Addr}{env:Env}{σ:L2.St}{H:Hp}{js:List (Option Nat)}(e:cM K ρ env σ H):cM K ρ (ja js env) (iC js σ) H:=λi v q=>by
 unfold ja at q;rw[VI]at q;cases hj:js[i]? with
 |none=>rw[hj]at q;cases q
 |some o=>
  rw[hj]at q;simp only[map_some]at q;cases o with
  |none=>cases q
  |some j=>
   dsimp only at q;cases ej:env[j]? with
   |none=>rw[ej]at q;cases q
   |some w=>
    cases w with
    |none=>rw[ej]at q;cases q
    |some d=>rw[ej]at q;cases q;obtain⟨x,q1,q2⟩:=e j _ ej;refine⟨x,?_,q2⟩;unfold iC;rw[VI,hj];simp only[map_some];rw[q1]
theorem BF{K:Frag}{ρ:List Addr}{env:Env}{σ σ':L2.St}{H:Hp}{js:List (Option Nat)}{pat:vP}(hp:(ue pat).all (λi=>js[i]?==some none)=true)(e:cM K ρ (ja js env) σ H)(hs:∀i,i∉ue pat -> σ'[i]? = σ[i]?):cM K ρ (ja js env) σ' H:=λi v q=>by
 have hi:i∉ue pat:=λz=>by
  have h1:=Xv.mp hp i z;have h2:js[i]?=some none:=eq_of_beq h1;unfold ja at q;rw[VI,h2]at q;cases q
 obtain⟨x,q1,q2⟩:=e i v q;exact⟨x,(hs i hi).trans q1,q2⟩
theorem nV:∀{is:List Nat} {xs:List V} {σ:L2.St} {i:Nat},i∉is->(gq is xs σ)[i]? = σ[i]?
 |[],xs,σ,i,_=>by cases xs<;>rfl
 |j::is,[],σ,i,_=>rfl
 | j::is,x::xs,σ,i,h=>by
  rw[show gq (j::is) (x::xs) σ = gq is xs (σ.set j (some x)) from rfl,nV λz=>h (Vq _ z),Vr λz=>h (by rw[z];exact Vs)]
theorem BG{K:Frag}{ρ:List Addr}{H:Hp}{pat:vP}{v:Val}{x:V}{env env':Env}{σ:L2.St}{Q:L2.St->Hp->Prop}(e:fq pat v env=some env')(q:VR K ρ H v x)(hE:cM K ρ env σ H)(hl:env.length = σ.length)
  (kk:∀σ',cM K ρ env' σ' H -> σ'.length = σ.length->(∀i,i∉ue pat -> σ'[i]? = σ[i]?)->Q σ' H):zv K pat x σ H Q:=by
 cases pat with
 |one i=>simp only[fq]at e;cases e;exact kk _ (hE.set hl q) (by simp) λj hj=>Vr λz=>hj (by rw[z];exact VM.mpr rfl)
 |tup is=>
  cases v<;>simp only[fq]at e<;>first|cases e|skip
  rw[VR]at q;obtain⟨a,xs,rfl,q1,q2⟩:=q;obtain⟨a1,a2,a3,a4⟩:=kg e q2 hE hl;exact⟨a,xs,rfl,q1,a4,lU a4 (kk _ a1 a3 λj hj=>nV hj)⟩
theorem nW(hs:jP Φ it)(hc:bV Φ t)(he:bV Φ elt)(c:Ctx Φ Γ k X cl EX)(h:bC Γ (.comp N' js pat ik it t elt) e=true) :
  ∃e' tg iter ifs scope pos wi g tt te,e=.ListComp e' [⟨tg,iter,ifs,0⟩] scope pos/\jF X.N X.env.scope scope N' js=true/\PI X tg iter wi/\(∀cls C s H fp,PG (bJ X scope N' cls C s H fp) tg g)/\(∀cls C s H fp,DV (bJ X scope N' cls C s H fp) ifs tt) /\
   (∀cls C s H fp,PE (bJ X scope N' cls C s H fp) e' te)/\(∀x,foldedSetIterable iter X.env x=pure x)/\∀σ H Q,tV Φ (bd X cl) EX (.comp N' js pat ik it t elt) σ H Q->AG wi js g tt te σ H Q:=by
 apply El h;intro e' q1 scope pos h;apply nQ h;intro q2 h;apply IX h;intro tg iter ifs q3 h;apply xG h;intro h;simp only[and_eq_true]at h;obtain⟨⟨⟨⟨⟨⟨⟨h1,h2⟩,h3⟩,h4⟩,h5⟩,h6⟩,h7⟩,h8⟩:=h;have hnd:N'.Nodup:=VH h3;have hen:ik=.enum\/ik=.zip->∃es kk pos,tg=.Tuple es kk pos:=by
  intro hz;cases pat with
  |one i=>rcases hz with rfl|rfl<;>cases h6
  |tup is=>exact uq h4
 obtain⟨hi,hf⟩:=Gv hs c h2 hen
 let tt:TT:=if cQ t=true then tH else tT Φ (bd X cl) EX t
 have PY:∀cls C s H fp,DV (bJ X scope N' cls C s H fp) ifs tt:=λcls C s H fp=>by
  have c':=c.Gs scope N' cls C s H fp;cases ifs with
  |nil=>have:cQ t=true:=h7;show DV _ [] (if cQ t=true then tH else tT Φ (bd X cl) EX t);rw[Vv this];exact DW
  |cons a r=>
   cases r with
   |cons _ _=>cases h7
   |nil=>simp only[and_eq_true,not_eq_true']at h7;show DV _ [a] (if cQ t=true then tH else tT Φ (bd X cl) EX t);rw[Vw (by rw[h7.1];exact Vl)];exact DX (hc _ _ _ _ _ _ c' h7.2).2
 refine⟨e',tg,iter,ifs,scope,pos,_,zv X.K pat,tt,tV Φ (bd X cl) EX elt,rfl,by rw[c.N,c.sc];exact h1,hi,λcls C s H fp=>JJ (c.Gs scope N' cls C s H fp) hnd h4,PY,λcls C s H fp=>(he _ _ _ _ _ _ (c.Gs scope N' cls C s H fp) h8).1,hf,λσ H Q ⟨ρ,env,h,hE,r,p⟩=>?_⟩
 ·skip
  simp only[aI]at p
  let f:Val->M (Option Val):=λd=>bnd (aN (fq pat d (ja js env))) λenv'=>bnd (if cQ t=true then ret true else bnd (aI Φ t env') λv=>ask λh=>cP h v) λt=>
    if t=true then bnd (aI Φ elt env') λe=>ret (some e) else ret none
  have p':Post (bd X cl) EX ρ H (WV X.K Q) (bnd (Ls Φ ik it env) (λsrc=>bnd (ask λh=>src.items h) λxs=>aB (decide (xs.length<=100000)) (bnd (eT src f xs.length 0 []) λys=>new (.lst ys))) h):=by unfold Ls;rw[aR];exact p
  refine⟨ρ,env,h,hE,r,bF p' λsrc h1 ρ1 H1 g1 r1 p1=>?_⟩;obtain⟨xs,e1,p2⟩:=az p1;obtain⟨e2,p3⟩:=aC p2;have e2:=VH e2;refine⟨⟨xs,e1⟩,λJ wk D hD=>?_⟩;have Vf:(100000:Nat)<sizeLine:=by rw[Wj];decide
  refine⟨λi m σ' H'=>∃ρ' h' acc ys,Gr ρ1 H1 ρ' H'/\HR (bd X cl) ρ' h' H'/\D ∉ ρ'/\H' D=some (.lst ys)/\au X.K ρ' H' acc ys/\cM X.K ρ' (ja js env) σ' H' /\ σ'.length=js.length/\acc.length<=i/\i+m=xs.length /\
   Post (bd X cl) EX ρ1 H1 (WV X.K Q) (bnd (eT src f m i acc) (λys=>new (.lst ys)) h'),⟨xs.length,ρ1,h1,[],[],Gr.side hD,r1.side hD,r1.out hD,aW,au.nil,(EE (hE.up g1)).up (Gr.side hD),jX js σ,Vu _,by omega,p3⟩,?_⟩
  rintro i m σ' H' ⟨ρ',h',acc,ys,w1,w2,w3,w4,w5,w6,w7,w8,w9,rS⟩;have fin:∀p:Post (bd X cl) EX ρ1 H1 (WV X.K Q) (new (.lst acc) h'),Q (.ref D) H':=λp=>by
   refine p (ρ'++[D]) H' (w1.adopt hD) (w2.adopt w3 ⟨ys,w4,au.jZ ⟨Wa _ _,λ_ _ e _=>e⟩ _ _ w5⟩) _ (VR.ref (by rw[<-w2.len];simp))
  cases m with
  |zero=>
   simp only[eT,aR]at rS;obtain⟨xs',k1,rS⟩:=az rS;have MU:Post (bd X cl) EX ρ1 H1 (WV X.K Q) (bnd (aB (decide (xs'.length<=i)) (ret acc)) (λys=>new (.lst ys)) h'):=rS;unfold aB at MU
   by_cases hl:xs'.length<=i
   ·have:bnd (λh=>if decide (xs'.length<=i)=true then ret acc h else Out.no) (λys=>new (.lst ys)) h'=new (.lst acc) h':=by
     unfold bnd;dsimp only;rw[Vv (decide_eq_true hl)];rfl
    rw[this] at MU;exact .inl ⟨wk.stop w1.w w2 k1 hl,fin MU⟩
   ·have:bnd (λh=>if decide (xs'.length<=i)=true then ret acc h else Out.no) (λys=>new (.lst ys)) h'=Out.no:=by
     unfold bnd;dsimp only;rw[Vw (by rw[decide_eq_false hl];exact Vl)]
    rw[this] at MU;exact MU.elim
  |succ m=>
   simp only[eT,aR]at rS;obtain⟨xs',k1,rS⟩:=az rS;cases hx:xs'[i]? with
   |none=>rw[hx]at rS;exact .inl ⟨wk.stop w1.w w2 k1 (Ws.mp hx),fin rS⟩
   |some v=>
    rw[hx]at rS;dsimp only at rS;refine .inr ⟨wk.go w1.w w2 k1 hx,_,λzY Ib w=>⟨m,V6 _,w⟩,λy H2 hy=>?_⟩;obtain⟨z1,z2,z3⟩:=wk.vc w1.w w2 k1 hx hy;simp only[aR]at rS;simp only[f,aR]at rS;obtain⟨env',k2,rS⟩:=bL rS;refine BG k2 z3 (w6.up z1) (by rw[w7];simp[ja]) λσ2 Pf hl2 hout=>?_;have MV:H2 D=some (.lst ys):=z1.keep _ _ w4 w3;have G2:Gr ρ1 H1 ρ' H2:=w1.trans z1;have body:∀(b:Bool) (h3:Hs) (ρ3:List Addr) (H3:Hp),Gr ρ' H2 ρ3 H3->HR (bd X cl) ρ3 h3 H3->Post (bd X cl) EX ρ1 H1 (WV X.K Q) (bnd (if b=true then bnd (aI Φ elt env') λe=>ret (some e) else ret none) (λo=>bnd (eT src f m (i+1) (match o with|some e=>acc++[e]|none=>acc)) λys=>new (.lst ys)) h3) ->
      (if b=true then tV Φ (bd X cl) EX elt σ2 H3 (λy H4=>∃ys,H4 D=some (.lst ys)/\ys.length<sizeLine/\(λσ' H'=>∃ρ' h' acc ys,Gr ρ1 H1 ρ' H'/\HR (bd X cl) ρ' h' H'/\D ∉ ρ'/\H' D=some (.lst ys)/\au X.K ρ' H' acc ys/\cM X.K ρ' (ja js env) σ' H' /\ σ'.length=js.length/\acc.length<=i+1/\i+1+m=xs.length /\
       Post (bd X cl) EX ρ1 H1 (WV X.K Q) (bnd (eT src f m (i+1) acc) (λys=>new (.lst ys)) h')) σ2 (upd H4 D (.lst (ys++[y]))))
      else (λσ' H'=>∃ρ' h' acc ys,Gr ρ1 H1 ρ' H'/\HR (bd X cl) ρ' h' H'/\D ∉ ρ'/\H' D=some (.lst ys)/\au X.K ρ' H' acc ys/\cM X.K ρ' (ja js env) σ' H' /\ σ'.length=js.length/\acc.length<=i+1/\i+1+m=xs.length /\
       Post (bd X cl) EX ρ1 H1 (WV X.K Q) (bnd (eT src f m (i+1) acc) (λys=>new (.lst ys)) h')) σ2 H3):=by
     intro b h3 ρ3 H3 g3 r3 p5;have QD:D ∉ ρ3:=λz=>by have:=g3.fresh D z w3;rw[MV]at this;cases this
     have QE:H3 D=some (.lst ys):=g3.keep _ _ MV w3;have E3:cM X.K ρ3 (ja js env) σ2 H3:=(BF h5 (w6.up z1) hout).up g3;cases b with
     |true=>
      rw[Vv rfl]at p5 |-;simp only[aR,b6]at p5;refine⟨ρ3,env',h3,Pf.up g3,r3,jK (G2.trans g3) p5 λv4 h4 ρ4 H4 _ p6 g4 r4 y4 q4=>?_⟩;have RX:D ∉ ρ4:=λz=>by have:=g4.fresh D z QD;rw[QE]at this;cases this
      have QF:H4 D=some (.lst ys):=g4.keep _ _ QE QD;have gw:Gw ρ4 H4 ρ4 (upd H4 D (.lst (ys++[y4]))):=Gw.other QF rfl;have la:=w5.length;refine⟨ys,QF,by omega,ρ4,h4,acc++[v4],ys++[y4],((G2.trans g3).trans g4).over hD,r4.other RX QF rfl,RX,aW,au.append (au.jZ gw _ _ (au.up ((z1.trans g3).trans g4) _ _ w5)) (au.jZ gw _ _ (au.cons q4 au.nil)),(E3.up g4).jZ gw,by rw[hl2,w7],by simp;omega,by omega,p6⟩
     |false=>rw[Vw Vl]at p5 |-;exact⟨ρ3,h3,acc,ys,G2.trans g3,r3,QD,QE,au.up (z1.trans g3) _ _ w5,E3,by rw[hl2,w7],by omega,by omega,p5⟩
    show (if cQ t=true then tH else tT Φ (bd X cl) EX t) σ2 H2 _
    by_cases hn:cQ t=true
    ·rw[Vv hn];rw[Vv hn,b6]at rS;exact body true h' ρ' H2 Gr.refl z2 rS
    ·rw[Vw hn];rw[Vw hn]at rS;exact⟨ρ',env',h',Pf,z2,jK G2 rS λb h3 ρ3 H3 _ p5 g3 r3=>body b h3 ρ3 H3 g3 r3 p5⟩
theorem EF(hs:jP Φ it)(hc:bV Φ t)(he:bV Φ elt):bV Φ (.comp N' js pat ik it t elt):=by
 intro Γ k X cl EX e c h;obtain⟨e',tg,iter,ifs,scope,pos,wi,g,tt,te,rfl,h1,h2,h3,h4,h5,h6,h7⟩:=nW hs hc he c h;have q:=(DY (pos:=pos) h1 c.calm h2 h3 h4 h5 h6).imp h7;exact⟨q,fu q λ_=>rfl⟩
theorem EG{k v:IE}(hk:bV Φ k)(hv:bV Φ v):bV Φ (.dct1 k v):=by
 intro Γ n X cl EX e c h;apply xD h;intro q1 q2 pos h;apply nQ h;intro q3 h;apply xF h;intro a h;apply nQ h;intro b h;simp only[and_eq_true]at h;have q:PE X (.Dict [some a] [b] pos) (tV Φ (bd X cl) EX (.dct1 k v)):=by
  refine(DT (AA (hk Γ n X cl EX a c h.1).1 (hv Γ n X cl EX b c h.2).1 DS) rfl rfl (by simp) (by simp)).imp λσ H Q aK=>?_;obtain⟨ρ,env,h,hE,r,p⟩:=aK;intro D hD;have g0:Gr ρ H ρ (upd H D (.dK [])):=Gr.side hD;simp only[aI]at p;refine⟨ρ,env,h,hE.up g0,r.side hD,jK g0 p λx h1 ρ1 H1 _ p1 g1 r1 y1 q1=>?_⟩;obtain⟨kk,e1,p1⟩:=bL p1;refine⟨ρ1,env,h1,(hE.up g0).up g1,r1,jK (g0.trans g1) p1 λy h2 ρ2 H2 _ p2 g2 r2 y2 q2=>?_⟩;have RY:D ∉ ρ:=r.out hD;have MV:D ∉ ρ2:=λz=>by have:=(g1.trans g2).fresh D z RY;rw[aW]at this;cases this
  have e2:H2 D=some (.dK []):=(g1.trans g2).keep D _ aW RY;have ek:y1=kV kk:=by
   cases x<;>first|(cases e1;done)|skip
   ·cases e1;rw[VR]at q1;exact q1
   ·cases e1;rw[VR]at q1;exact q1
  refine⟨e2,[(kk,y2)],by rw[ek];rfl,by simp,?_⟩;have gw:Gw ρ2 H2 (ρ2++[D]) (upd H2 D (.dK (lI [] [(kk,y2)]))):=⟨Wa _ _,(Gw.other (ρ:=ρ2) e2 rfl).firm⟩;exact p2 (ρ2++[D]) _ ((((g0.trans g1).trans g2).over hD).adopt hD) ((r2.other MV e2 rfl).adopt MV ⟨[(kk,y2)],aW,y2,[],rfl,VR.jZ gw _ _ q2,rfl⟩) _ (xw r2)
 exact⟨q,fu q λ_=>rfl⟩
theorem EH{p q:Nat}:bV Φ (.dflt N' js p q d w):=fj λ_ _=>rfl
theorem JK(ha:bV Φ a):bV Φ (.isc a x bs):=fj λ_ _=>rfl
theorem lV:(∀ir,bV Φ ir)/\∀dS,jP Φ dS:=by
 have one:∀ir,bV Φ ir:=by
  intro ir;exact IE.rec (motive_1:=λir=>bV Φ ir) (motive_2:=λdS=>jP Φ dS) (λ_=>Jk) (λ_=>Jl) (λ_ _=>Jm) MR (λ_ _ _ a b=>Jo a b) (λ_ a=>Jp a) (λ_ _ _ a b=>Jq a b) (λ_ _ _ _ _ a b c=>Jr a b c)
   (λ_ _ a b=>Js a b) (λ_ _ a b=>MS a b) (λ_ a=>Jt a) (λ_ _ _ a b c=>Ju a b c) (λ_ a=>Jv a) (λ_ a=>Jw a) (λ_ _ a b=>Jx a b) (λ_ _ _ a b c=>Jy a b c) (λ_ _ a=>Et a) (λ_ _ a=>JH a)
   (λ_ _ _ a b=>JI a b) (λ_ _ _ _ _ _ _ a b c=>EF a b c) Er (λ_ a=>EA a) (λ_ _ _ a b c=>EB a b c) (λ_ _ a b=>EG a b) (λ_ a=>BA a) (λ_ _ _ a b c=>EC a b c) (λ_ a=>BC a) (λ_ a=>BB a) (λ_ _ _ a=>JA a) (λ_ _ _ _ a b=>JB a b) (λ_ _ a b=>Jz a b) (λ_ _ _ _ _ _ _ _=>EH) (λ_ _ _ a=>JK a) Bw (λ_ _ a b=>xN a b) ir
 refine⟨one,λdS=>?_⟩
 induction dS using j7.rec (motive_1:=λ_=>True) with
 |nil=>exact Bw
 |cons e es _ ih=>exact xN (one e) ih
 |_=>trivial
end
def nX:Expr->Bool
 |.ListComp ..=>false|.SetComp ..=>false|.DictComp ..=>false
 |_=>true
def MW:Expr->Bool
 |.Tuple ..=>false
 |_=>true
def QG:Expr->Bool
 |.SetComp ..=>false|.DictComp ..=>false
 |_=>true
mutual
noncomputable def MX(Γ:oY):IS->Stmt->Bool
 |.expr e,s=>Bq (λx _=>nX x&&bC Γ e x) s
 |.asg p e,s=>IZ (λq1 x _=>k1 (λtg=>ur Γ p tg&&bC Γ e x&&(match p with|.one _=>QG x|.tup _=>nX x&&MW x)) q1) s
 |.aug i o e,s=>QA (λq1 op v _=>nP (λx _=>Γ.N[i]?==some x&&(Γ.sc.names.lookup x==some .local || Γ.sc.names.lookup x==some .cell)&&Jh o op&&(match o with|.pow=>false|_=>true)&&bC Γ e v) q1) s
 |.iZ o i v,s=>IZ (λq1 x _=>k1 (λq2=>Ej (λa b _=>m6 b&&nX x&&bC Γ o a&&bC Γ i b&&bC Γ v x) q2) q1) s
 |.iff c a b,s=>RP (λt x y _=>bC Γ c t&&bx Γ a x&&bx Γ b y) s
 |.for p k it body,s=>MM (λtg iter x q1 _=>pF q1 (ur Γ p tg&&xK Γ k it iter&&(match k,p with|.enum,.one _=>false|.zip,.one _=>false|_,_=>true)&&bx Γ body x)) s
 |.whl _ c body,s=>Ja (λt x q1 _=>pF q1 (bC Γ c t&&bx Γ body x)) s
 |.ret e,s=>Jb (λq1 _=>Bo (λx=>bC Γ e x) q1) s
 |.Ba,s=>Jb (λq1 _=>Bm q1 (true)) s
 |.brk,s=>MN (λ_=>true) s
 |.cnt,s=>MO (λ_=>true) s
 |.pass,s=>Gp (λ_=>true) s||Bq (λq1 _=>vQ (λq2 _ _=>MK (λ_=>true) q2) q1) s
 |.never,_=>true
 |.setF _ _ _ _,_=>false
noncomputable def bx(Γ:oY):eE->List Stmt->Bool
 |.nil,ls=>ls.isEmpty
 | .cons s r,ls=>match ls with
  |l::ls=>MX Γ s l&&bx Γ r ls
  |[]=>false
end
structure JL (Φ:Fn) (Γ:oY) (k:Nat) (X:Cx) (cl:Nat->Addr) (EX:Nat->List V->Hp->Prop):Prop extends Ctx Φ Γ k X cl EX where
 fn:∀x,X.fn x=true
 nd:X.N.Nodup
 kind:X.env.scope.kind=.function
 xe:PassesOwn (model X.prog X.w) X.A X.env X.xe
def WF(K:Frag)(D:Ends):Fl->Hs->List Addr->Hp->Prop
 |.nx env',_,ρ',H'=>∀σ',cM K ρ' env' σ' H'->env'.length = σ'.length->D.nx σ' H'
 |.rt v,_,ρ',H'=>∀x,VR K ρ' H' v x->D.rt x H'
 |.bk env',_,ρ',H'=>∀σ',cM K ρ' env' σ' H'->env'.length = σ'.length->D.bk σ' H'
 |.ct env',_,ρ',H'=>∀σ',cM K ρ' env' σ' H'->env'.length = σ'.length->D.ct σ' H'
def tS(Φ:Fn)(B:Bd)(EX:Nat->List V->Hp->Prop)(ir:IS):TS:=λD σ H=>∃ρ env h,cM B.K ρ env σ H/\env.length = σ.length/\HR B ρ h H/\Post B EX ρ H (WF B.K D) (fJ Φ ir env h)
def TQ(Φ:Fn)(B:Bd)(EX:Nat->List V->Hp->Prop)(ir:eE):TS:=λD σ H=>∃ρ env h,cM B.K ρ env σ H/\env.length = σ.length/\HR B ρ h H/\Post B EX ρ H (WF B.K D) (jb Φ ir env h)
theorem _root_.L2.PS.imp(h:PS X e t)(i:∀D σ H,t' D σ H->t D σ H):PS X e t':=λpins s σ H D I hw=>h pins s σ H D I (i D σ H hw)
theorem _root_.L2.ve.imp(h:ve X e t)(i:∀D σ H,t' D σ H->t D σ H):ve X e t':=λpins s σ H D I hw=>h pins s σ H D I (i D σ H hw)
section
variable {Φ:Fn} {Γ:oY} {k:Nat} {X:Cx} {cl:Nat->Addr} {EX:Nat->List V->Hp->Prop}
def uu(Φ:Fn)(ir:IS):Prop:=∀(Γ:oY) (k:Nat) (X:Cx) (cl:Nat->Addr) (EX:Nat->List V->Hp->Prop) (st:Stmt),JL Φ Γ k X cl EX->MX Γ ir st=true->PS X st (tS Φ (bd X cl) EX ir)
def rT(Φ:Fn)(dS:eE):Prop:=∀(Γ:oY) (k:Nat) (X:Cx) (cl:Nat->Addr) (EX:Nat->List V->Hp->Prop) (st:List Stmt),JL Φ Γ k X cl EX->bx Γ dS st=true->ve X st (TQ Φ (bd X cl) EX dS)
theorem kN{n:Nat}(h:nX e=true):swapsWith e t n env=pure false:=by
 cases e<;>first|rfl|(exact absurd h Vl)
theorem Lu(ir:IE)(c:Ctx Φ Γ k X cl EX)(h:bC Γ ir e=true):PE X e (tV Φ (bd X cl) EX ir):=(lV.1 ir Γ k X cl EX e c h).1
theorem TR(ir:IE)(c:Ctx Φ Γ k X cl EX)(h:bC Γ ir e=true):PT X e (tT Φ (bd X cl) EX ir):=(lV.1 ir Γ k X cl EX e c h).2
theorem BH(hs:∀env h,fJ Φ ir env h=.no):uu Φ ir:=by
 intro Γ k X cl EX st c h;refine m8.imp λD σ H ⟨ρ,env,h,hE,hl,r,p⟩=>?_;rw[hs]at p;exact p.elim
theorem JM:uu Φ (.expr e):=by
 intro Γ k X cl EX st c h;apply xH h;intro x _ h;simp only[and_eq_true]at h;refine(Du (Lu e c.toCtx h.2) (kN h.1)).imp λD σ H aK=>?_;obtain⟨ρ,env,h,hE,hl,r,p⟩:=aK;simp only[fJ]at p;exact⟨ρ,env,h,hE,r,aA p λv h1 ρ1 x H1 g1 r1 q1 p1=>ai r1 p1 σ (hE.up g1) hl⟩
theorem MY:uu Φ (.asg p e):=by
 intro Γ k X cl EX st c h;apply Br h;intro q1 x pos h;apply nQ h;intro tg h;simp only[and_eq_true]at h;obtain⟨⟨h1,h2⟩,h3⟩:=h;have hg:=xS c.toCtx c.fn c.nd h1;have he:=Lu e c.toCtx h2;have fin:∀D σ H,tS Φ (bd X cl) EX (.asg p e) D σ H->Dw (tV Φ (bd X cl) EX e) (zv X.K p) D σ H:=λD σ H ⟨ρ,env,h,hE,hl,r,pp⟩=>by
  simp only[fJ]at pp;refine⟨ρ,env,h,hE,r,aA pp λv h1 ρ1 x H1 g1 r1 q1 p1=>?_⟩;obtain⟨env',e1,p2⟩:=bL p1;exact xT e1 q1 (hE.up g1) hl λσ' QH hl' _=>ai r1 p2 σ' QH hl'
 have TU:(assignEach [tg] X.env).map (·.2)=[assign tg X.env]:=by
  cases p with
  |one i=>obtain⟨t,tp,rfl⟩:=nU h1;rfl
  |tup is=>obtain⟨es,kk,tp,rfl⟩:=kM h1;rfl
 cases p with
 |tup is=>
  simp only[and_eq_true]at h3;refine(Ae he hg ?_ ?_ TU).imp fin
  ·show swapsWith x (some tg) _ _=_;exact kN h3.1
  ·obtain⟨es,kk,tp,rfl⟩:=kM h1;cases x<;>first|rfl|(exact absurd h3.2 Vl)
 |one i=>
  obtain⟨t,tp,rfl⟩:=nU h1
  ·
   simp only[ur,and_eq_true,beq_iff_eq]at h1;have loc:L2.Loc X.env.scope t:=by unfold L2.Loc;rw[c.sc];simpa using h1.2
   have pl:nX x=true->PS X (.Assign [.Name t tp] x pos) (tS Φ (bd X cl) EX (.asg (.one i) e)):=λhx=>(Af c.nd (by rw[c.N];exact h1.1) loc he (kN hx) (.inl (c.fn t))).imp fin;cases x with
   |ListComp e' gens scope p2=>
    cases hb:(X.env.kindOf t==some .local&&tp.line==p2.line && !(scope.names.any λ(n,k)=>n==t&&(k==.local||k==.cell))) with
    |false=>
     refine(Af c.nd (by rw[c.N];exact h1.1) loc he ?_ (.inl (c.fn t))).imp fin;have bk:(X.env.blockKind==.function)=true:=by unfold Env.blockKind;rw[c.kind];rfl
     show (pure (X.env.blockKind==.function&&X.env.kindOf t==some .local&&tp.line==p2.line && !(scope.names.any λ(n,k)=>n==t&&(k==.local||k==.cell))):Sem Bool)=pure false;rw[bk,WD,hb]
    |true=>
     have bk:(X.env.blockKind==.function)=true:=by unfold Env.blockKind;rw[c.kind];rfl
     have hsw:swapsWith (.ListComp e' gens scope p2) (some (.Name t tp)) pos.line X.env=pure true:=by show (pure (X.env.blockKind==.function&&X.env.kindOf t==some .local&&tp.line==p2.line && !(scope.names.any λ(n,k)=>n==t&&(k==.local||k==.cell))):Sem Bool)=pure true;rw[bk,WD,hb]
     cases e with
     |comp N' js pat ik it MZ elt=>obtain⟨e2,Vg,iter,ifs,QI,pos2,wi,g,tt,te,q0,q1,q2,q3,q4,q5,q6,q7⟩:=nW (lV.2 it) (lV.1 MZ) (lV.1 elt) c.toCtx h2;cases q0;refine(DZ c.nd (by rw[c.N];exact h1.1) loc q1 c.calm q2 q3 q4 q5 hsw (.inl (c.fn t)) q6).imp λD σ H hh=>?_;exact q7 σ H _ (fin D σ H hh)
     |dflt N' js p q d w=>refine m8.imp λD σ H hh=>?_;obtain⟨ρ,env,h,hE,hl,r,pp⟩:=hh;simp only[fJ,aI]at pp;exact pp.elim
     |_=>first|exact absurd h2 Vl|(rw[bC.eq_def]at h2;cases h2)
   |SetComp _ _ _ _=>exact absurd h3 Vl
   |DictComp _ _ _ _ _=>exact absurd h3 Vl
   |_=>exact pl rfl
theorem M0{i:Nat}:uu Φ (.aug i o e):=BH λ_ _=>rfl
def M1(B:Bd)(EX:Nat->List V->Hp->Prop):Ho:=λo i v H Q=>∃ρ h a b w,HR B ρ h H/\VR B.K ρ H a o/\VR B.K ρ H b i/\VR B.K ρ H w v/\Post B EX ρ H (λ_ _ _ H'=>Q H') (t6 a b w h)
theorem JN(hu:X.A.units+64<cLine):Hq X (M1 (bd X cl) EX):=by
 intro pins s σ H o i v ov iv u Q I ro ri rv hh;obtain⟨ρ,h,a,b,w,r,ha,hb,hw,p⟩:=hh;cases a with
 |ref j=>
  simp only[t6]at p;obtain⟨ob,e1,p⟩:=az p;have dict:∀kvs,ob=.dct kvs->Post (bd X cl) EX ρ H (λ_ _ _ H'=>Q H') (bnd (aN (keyOf b)) (λk=>aB (decide (kvs.length<sizeLine)) (put j (.dct (j8 kvs k w)))) h)->wpAny (model X.prog X.w) X.A (setItem ov iv u) (λ_ s'=>∃H',L2.Inv X pins σ H' s'/\Q H') X.xe s:=by rintro kvs rfl p;obtain⟨kk,e2,p⟩:=bL p;obtain⟨e3,p⟩:=aC p;have e3:=VH e3;rw[VR]at ha;obtain⟨A,rfl,k1⟩:=ha;obtain⟨ks,k2,k3⟩:=r.ob j _ A e1 k1;cases ro;have ek:=Bf hb e2;subst ek;refine yO (by omega) I (DQ.k (v:=v) k2 (by rw[<-k3.length];exact e3)) ri rv λs' I'=>⟨_,I',?_⟩;have g:Gr ρ H ρ (upd H A (.dK (putK ks kk v))):=Gr.put (VP k1) k2 rfl;exact p ρ _ g (r.put k1 e1 (u:=.dct (j8 kvs kk w)) ⟨_,aW,gG.put kk (VR.up g _ _ hw) (gG.up g _ _ k3)⟩)
  cases ob with
  |lst xs=>
   cases b<;>first|(exact p.elim)|skip
   rename_i n _;obtain⟨jj,e2,p⟩:=bL p;obtain⟨A,ys,rfl,k1,k2,k3⟩:=jI r ha e1;rw[VR]at hb;subst hb;refine set_list pins s σ H _ _ v ov iv u Q I ro ri rv ⟨A,ys,n,jj,rfl,rfl,k2,by rw[<-k3.length];exact e2,?_⟩;have g:Gr ρ H ρ (upd H A (.lst (ys.set jj v))):=Gr.put (VP k1) k2 rfl;exact p ρ _ g (r.put k1 e1 (u:=.lst (xs.set jj w)) ⟨_,aW,au.set jj (au.up g _ _ k3) (VR.up g _ _ hw)⟩)
  |dct kvs=>exact dict kvs rfl (by cases b<;>exact p)
  |ins c fs=>cases b<;>exact p.elim
 |_=>exact p.elim
theorem JO:uu Φ (.iZ o i v):=by
 intro Γ k X cl EX st c h;apply Br h;intro q1 x pos h;apply nQ h;intro q2 h;apply vR h;intro a b sp h;simp only[and_eq_true]at h;obtain⟨⟨⟨⟨h1,h2⟩,h3⟩,h4⟩,h5⟩:=h;have TV:PG X (.Subscript a b sp) (LU (tV Φ (bd X cl) EX o) (tV Φ (bd X cl) EX i) (M1 (bd X cl) EX)):=Hr (Lu o c.toCtx h3) (Lu i c.toCtx h4) (JN c.units) (by
  intro v;cases b<;>first|rfl|(exact absurd h1 Vl))
 refine(Ae (Lu v c.toCtx h5) TV (kN (t:=some (.Subscript a b sp)) (n:=pos.line) (env:=X.env) h2) (by cases x<;>rfl) rfl).imp λD σ H aK=>?_;obtain⟨ρ,env,h,hE,hl,r,p⟩:=aK;simp only[fJ]at p;refine⟨ρ,env,h,hE,r,aA p λw h1 ρ1 x1 H1 g1 r1 q1 p1=>⟨ρ1,env,h1,hE.up g1,r1,aA p1 λw2 h2 ρ2 x2 H2 g2 r2 q2 p2=>⟨ρ2,env,h2,(hE.up g1).up g2,r2,aA p2 λw3 h3 ρ3 x3 H3 g3 r3 q3 p3=>?_⟩⟩⟩;refine⟨ρ3,h3,w2,w3,w,r3,VR.up g3 _ _ q2,q3,VR.up (g2.trans g3) _ _ q1,bF p3 λ_ h4 ρ4 H4 g4 r4 p4=>?_⟩;exact ai r4 p4 σ (((hE.up g1).up g2).up g3 |>.up g4) hl
theorem M3(ha:rT Φ a)(hb:rT Φ b):uu Φ (.iff t a b):=by
 intro Γ k X cl EX st c h;apply ML h;intro tt x y pos h;simp only[and_eq_true]at h;refine(LQ (TR t c.toCtx h.1.1) (ha Γ k X cl EX x c h.1.2) (hb Γ k X cl EX y c h.2)).imp λD σ H aK=>?_;obtain⟨ρ,env,h,hE,hl,r,p⟩:=aK;simp only[fJ]at p;refine⟨ρ,env,h,hE,r,lR p λv h1 p1=>?_⟩;obtain⟨s,e1,p2⟩:=az p1;refine⟨s,e1,λρ1 H1 g1 r1=>?_⟩;have p2:=Post.up g1 p2;cases s with
 |true=>rw[Vv rfl]at p2 |-;exact⟨ρ1,env,h1,hE.up g1,hl,r1,p2⟩
 |false=>rw[Vw Vl]at p2 |-;exact⟨ρ1,env,h1,hE.up g1,hl,r1,p2⟩
theorem M4(hb:rT Φ body):uu Φ (.for p ik it body):=by
 intro Γ k X cl EX st c h;apply I0 h;intro tg iter x q1 pos h;apply lQ h;intro h;simp only[and_eq_true]at h;obtain⟨⟨⟨h1,h2⟩,h3⟩,h4⟩:=h;have hen:ik=.enum\/ik=.zip->∃es kk pos,tg=.Tuple es kk pos:=by
  intro hz;cases p with
  |one i=>rcases hz with rfl|rfl<;>cases h3
  |tup is=>exact kM h1
 obtain⟨hi,hf⟩:=Gv (lV.2 it) c.toCtx h2 hen;refine(Hu c.xe c.calm hi (xS c.toCtx c.fn c.nd h1) (hb Γ k X cl EX x c h4) hf).imp λD σ H aK=>?_;obtain⟨ρ,env,h,hE,hl,r,pp⟩:=aK;simp only[fJ]at pp;have p':Post (bd X cl) EX ρ H (WF X.K D) (bnd (Ls Φ ik it env) (λsrc=>bnd (ask λh=>src.items h) λxs=>forM src (λx env=>bnd (aN (fq p x env)) λenv'=>jb Φ body env') xs.length 0 env) h):=by unfold Ls;rw[aR];exact pp
 refine⟨ρ,env,h,hE,r,bF p' λsrc h1 ρ1 H1 g1 r1 p1=>?_⟩;obtain⟨xs,e1,p2⟩:=az p1;refine⟨⟨xs,e1⟩,λJ wk=>?_⟩;refine⟨λi m σ' H'=>∃ρ' env' h',Gr ρ1 H1 ρ' H'/\cM X.K ρ' env' σ' H'/\env'.length = σ'.length/\HR (bd X cl) ρ' h' H'/\Post (bd X cl) EX ρ' H' (WF X.K D) (forM src (λx env=>bnd (aN (fq p x env)) λenv'=>jb Φ body env') m i env' h'),
  ⟨xs.length,ρ1,env,h1,Gr.refl,hE.up g1,hl,r1,p2⟩,?_⟩
 rintro i m σ' H' ⟨ρ',env',h',w1,w2,w3,w4,w5⟩;cases m with
 |zero=>simp only[forM]at w5;obtain⟨xs',k1,w5⟩:=az w5;obtain⟨k2,w5⟩:=aC w5;exact .inl ⟨wk.stop w1.w w4 k1 (VH k2),ai w4 w5 σ' w2 w3⟩
 |succ m=>
  simp only[forM]at w5;obtain⟨xs',k1,w5⟩:=az w5;cases hx:xs'[i]? with
  |none=>rw[hx]at w5;exact .inl ⟨wk.stop w1.w w4 k1 (Ws.mp hx),ai w4 w5 σ' w2 w3⟩
  |some v=>
   rw[hx]at w5;dsimp only at w5;refine .inr ⟨wk.go w1.w w4 k1 hx,_,λzY Ib w=>⟨m,V6 _,w⟩,λy H2 hy=>?_⟩;obtain⟨z1,z2,z3⟩:=wk.vc w1.w w4 k1 hx hy;rw[aR]at w5;obtain⟨gr,k2,w5⟩:=bL w5;refine xT k2 z3 (w2.up z1) w3 λσ2 Pf hl2 _=>⟨ρ',gr,h',Pf,hl2,z2,bF (Post.up z1 w5) λf h3 ρ3 H3 g3 r3 p3=>?_⟩;cases f with
   |nx EI=>exact λσ3 M5 hl3=>⟨ρ3,EI,h3,(w1.trans z1).trans g3,M5,hl3,r3,p3⟩
   |ct EI=>exact λσ3 M5 hl3=>⟨ρ3,EI,h3,(w1.trans z1).trans g3,M5,hl3,r3,p3⟩
   |bk EI=>exact λσ3 M5 hl3=>ai r3 p3 σ3 M5 hl3
   |rt v=>exact(ai r3 p3:WF X.K D (.rt v) h3 ρ3 H3)
theorem M6{n:Nat}(hb:rT Φ body):uu Φ (.whl n t body):=BH λ_ _=>rfl
theorem M7:uu Φ (.ret e):=by
 intro Γ k X cl EX st c h;apply Bs h;intro q1 _ h;apply xF h;intro x h;refine(Hj (Lu e c.toCtx h)).imp λD σ H aK=>?_;obtain⟨ρ,env,h,hE,hl,r,p⟩:=aK;simp only[fJ]at p;exact⟨ρ,env,h,hE,r,aA p λv h1 ρ1 x H1 g1 r1 q1 p1=>ai r1 p1 x q1⟩
theorem JP:uu Φ .Ba:=by
 intro Γ k X cl EX st c h;apply Bs h;intro q1 _ h;apply xE h;intro h;refine Dv.imp λD σ H aK=>?_;obtain⟨ρ,env,h,hE,hl,r,p⟩:=aK;simp only[fJ]at p;exact ai r p _ VR.non
theorem M8:uu Φ .brk:=by
 intro Γ k X cl EX st c h;apply Jc h;intro _ h;refine Ac.imp λD σ H aK=>?_;obtain⟨ρ,env,h,hE,hl,r,p⟩:=aK;simp only[fJ]at p;exact ai r p σ hE hl
theorem M9:uu Φ .cnt:=by
 intro Γ k X cl EX st c h;apply Jd h;intro _ h;refine sU.imp λD σ H aK=>?_;obtain⟨ρ,env,h,hE,hl,r,p⟩:=aK;simp only[fJ]at p;exact ai r p σ hE hl
theorem JQ:uu Φ .pass:=by
 intro Γ k X cl EX st c h
 rcases TL h with h|h
 ·apply Em h;intro _ h;refine Dt.imp λD σ H aK=>?_;obtain⟨ρ,env,h,hE,hl,r,p⟩:=aK;simp only[fJ]at p;exact ai r p σ hE hl
 ·apply xH h;intro q1 _ h;apply ud h;intro q2 _ _ h;apply IY h;intro _ h;refine Hi.imp λD σ H aK=>?_;obtain⟨ρ,env,h,hE,hl,r,p⟩:=aK;simp only[fJ]at p;exact ai r p σ hE hl
theorem EJ:uu Φ .never:=by
 intro Γ k X cl EX st c h;refine m8.imp λD σ H aK=>?_;obtain⟨ρ,env,h,hE,hl,r,p⟩:=aK;simp only[fJ]at p;exact p.elim
theorem JR{n:Nat}:uu Φ (.setF n a x v):=BH λ_ _=>rfl
theorem JS:rT Φ .nil:=by
 intro Γ k X cl EX st c h;rw[bx]at h;cases st with
 |cons _ _=>cases h
 |nil=>refine Ds.imp λD σ H aK=>?_;obtain⟨ρ,env,h,hE,hl,r,p⟩:=aK;simp only[jb]at p;exact ai r p σ hE hl
theorem EK(h1:uu Φ s)(h2:rT Φ ss):rT Φ (.cons s ss):=by
 intro Γ k X cl EX st c h;rw[bx.eq_def]at h;dsimp only at h;cases st with
 |nil=>cases h
 |cons l ls=>
  simp only[and_eq_true]at h;refine(Ab (h1 Γ k X cl EX l c h.1) (h2 Γ k X cl EX ls c h.2)).imp λD σ H aK=>?_;obtain⟨ρ,env,h,hE,hl,r,p⟩:=aK;simp only[jb]at p;refine⟨ρ,env,h,hE,hl,r,bF p λf h1 ρ1 H1 g1 r1 p1=>?_⟩;cases f with
  |nx env'=>exact λσ' QH hl'=>⟨ρ1,env',h1,QH,hl',r1,p1⟩
  |rt v=>exact(ai r1 p1:WF X.K D (.rt v) h1 ρ1 H1)
  |bk env'=>exact(ai r1 p1:WF X.K D (.bk env') h1 ρ1 H1)
  |ct env'=>exact(ai r1 p1:WF X.K D (.ct env') h1 ρ1 H1)
theorem BI:∀dS,rT Φ dS:=by
 intro dS;exact eE.rec (motive_1:=λs=>uu Φ s) (motive_2:=λss=>rT Φ ss) (λ_=>JM) (λ_ _=>MY) (λ_ _ _=>M0) (λ_ _ _=>JO) (λ_ _ _ a b=>M3 a b) (λ_ _ _ _ a=>M4 a) (λ_ _ _ a=>M6 a) (λ_=>M7) JP M8 M9 JQ EJ (λ_ _ _ _=>JR)
  JS (λ_ _ a b=>EK a b) dS
end
abbrev Row:=Str×Nat×(List Val->M Val)
def look(fs:List Row)(j:Nat):List Val->M Val:=match fs[j]? with
 |some r=>r.2.2
 |none=>λ_=>aN none
def cR(P:Program)(w:World)(B:Bd)(mg:Str->Option Value)(base:Heap)(k:Nat)(fs:List Row):Prop:=∀(j:Nat) (r:Row),fs[j]?=some r->Lr P w B mg base k j r.1 r.2.1 r.2.2
def aX(N P:List Str)(sc:Scope):Bool :=
 sc.kind==.function && !sc.isCoroutine && !sc.isGenerator&&decide N.Nodup&&N.take P.length==P&&(P.all λx=>sc.names.lookup x==some .local||sc.names.lookup x==some .cell)&&(sc.names.all λy=>y.2 != .free)
theorem BJ(h:aX N P sc=true):mX N P sc:=by
 unfold aX at h;simp only[and_eq_true,beq_iff_eq,not_eq_true',decide_eq_true_eq,List.all_eq_true,or_eq_true,bne_iff_ne]at h;obtain⟨⟨⟨⟨⟨⟨h1,h2⟩,h3⟩,h4⟩,h5⟩,h6⟩,h7⟩:=h;exact⟨h1,h2,h3,h4,h5,h6,h7⟩
structure Base (K:Frag) (cl:Nat->Addr) (mg:Str->Option Value) (cons:List (Str×Val)) (tb:Tb):Prop where
 blt:∀x∈bltNames,mg x=none
 cons:∀p∈cons,∃v u,mg p.1=some u/\RelV v u/\∀K ρ H,VR K ρ H p.2 v
 cls:∀c,c<tb.nc->Rt K (cl c)/\∀x∈tb.MP,An K (cl c) x
 Je:∀p∈tb.Je,Meth K (cl p.1) p.2.1 (cl (1000+p.2.2))
 Jf:∀p∈tb.Jf,∃C,mg p.1=some (.ref C)/\Mx K C p.2.1 (cl (1000+p.2.2))
 isc:∀p∈tb.isc,∃C,mg p.1=some (.ref C)/\∀c b,p.2[c]?=some b->RK K (cl c)/\kitOne K (.ref (cl c)) (.ref C)=some b
section
variable {P:Program} {w:World} {K:Frag} {cl:Nat->Addr} {mg:Str->Option Value} {base:Heap} {k:Nat} {fs:List Row} {cons:List (Str×Val)} {tb:Tb}
theorem Gx{x qual:Str}{st:Stmt}{f:Addr}{fd:FuncData}{N ps:List Str}{body:eE}(T:Base K cl mg cons tb)(A:cR P w ⟨K,cl⟩ mg base k fs)(F:Gf K x qual st f fd)(hS:aX N ps (ah st)=true)
  (hc:bx ⟨N,ah st,fs.map (λr=>(r.1,r.2.1)),cons,tb⟩ body (aD st)=true):f9 P w K mg base AE (k+2) f fd ps (vW ⟨K,cl⟩ ps.length (j9 (look fs) N.length body)):=by
 have S:=BJ hS;refine F.ok S (λvs H Q E h=>?_) (λcdv A' outer s H vs Q E hr h=>?_)
 ·obtain⟨ρ,h,ws,h1,_,h2,_⟩:=h;rw[<-h2.length,h1]
 ·obtain⟨ρ,h,ws,hl,r,hv,p⟩:=h
  have lv:=hv.length
  let X:Cx:=(vp AE P w K mg base N qual (ah st) f cdv A' outer s H E).LM
  have c:JL (look fs) ⟨N,ah st,fs.map (λr=>(r.1,r.2.1)),cons,tb⟩ k X cl (λ_ _ _=>False):=by
   refine { N:=rfl,sc:=rfl,calm:=rfl,room:=hr,mH:=λ_ _ _ z=>z,fns:=λj x n e=>?_,cls:=T.cls,Je:=T.Je,Jf:=T.Jf,isc:=T.isc,cons:=T.cons,blt:=T.blt,fn:=λ_=>rfl,nd:=S.nd,kind:=S.kind,xe:=PassesOwn.never };have e':(fs.map (λr=>(r.1,r.2.1)))[j]?=some (x,n):=e;rw[VI]at e';cases er:fs[j]? with
   |none=>rw[er]at e';cases e'
   |some r=>rw[er]at e';cases e';have:=A j r er;unfold look;rw[er];exact this
  refine⟨_,BI body _ k X cl _ (aD st) c hc,ρ,ws.map some++replicate (N.length-ws.length) none,h,λi v e=>?_,?_,r,bF p λfl h1 ρ1 H1 g1 r1 p1=>?_⟩
  ·by_cases hi:i<ws.length
   ·rw[VD (by simpa using hi)]at e
    rw[VI]at e;cases ei:ws[i]? with
    |none=>rw[ei]at e;cases e
    |some w'=>rw[ei]at e;cases e;obtain⟨y,q1,q2⟩:=hv.get ei;refine⟨y,?_,q2⟩;show (vs.map some++_)[i]?=_;rw[VD (by rw[Vp,<-lv];exact hi),VI,q1];rfl
   ·rw[VT (by simp;omega)]at e;have:=VP e;rw[XD]at this;exact absurd this.2 (by simp)
  ·show _=(vs.map some++_).length;simp[lv]
  ·cases fl with
   |nx env'=>exact λσ' _ _=>ai r1 p1 _ VR.non
   |rt v=>exact(ai r1 p1:WV K Q v h1 ρ1 H1)
   |bk env'=>exact p1.elim
   |ct env'=>exact p1.elim
theorem _root_.Hv.Lr.mono{j:Nat}{n:Nat}(g:Lr P w B mg base k j x n φ):Lr P w B mg base (k+2) j x n φ:=by
 have le:k<=k+2:=Nat.le_add_right _ _
 rcases g with ⟨h,⟨f,fd,ps,q1,q2,q3,q4,q5⟩|⟨c,f,fd,ps,φ0,q0,q1,q2,q3,q4,q5⟩⟩|⟨h,fd,ps,q1,q4,q5⟩
 ·exact .inl ⟨h,.inl ⟨f,fd,ps,q1,q2,q3,q4,q5.mono le⟩⟩
 ·exact .inl ⟨h,.inr ⟨c,f,fd,ps,φ0,q0,q1,q2,q3,q4,q5.mono le⟩⟩
 ·exact .inr ⟨h,fd,ps,q1,q4,q5.mono le⟩
theorem all_nil:cR P w ⟨K,cl⟩ mg base k []:=λj r e=>by simp at e
theorem EL{r0:Row}(A:cR P w ⟨K,cl⟩ mg base k fs)(g:Lr P w ⟨K,cl⟩ mg base (k+2) fs.length r0.1 r0.2.1 r0.2.2):cR P w ⟨K,cl⟩ mg base (k+2) (fs++[r0]):=λj r e=>by
 by_cases hj:j<fs.length
 ·rw[VD hj]at e;exact(A j r e).mono
 ·rw[VT (by omega)]at e
  have hj0:j-fs.length=0:=by have:=(Vn.mp e).1;simp at this;omega
  rw[hj0]at e;simp at e;subst e;rw[show j=fs.length by omega];exact g
theorem BK{x qual:Str}{st:Stmt}{f:Addr}{fd:FuncData}{N ps:List Str}{body:eE}(T:Base K cl mg cons tb)(A:cR P w ⟨K,cl⟩ mg base k fs)(F:Gf K x qual st f fd)(hm:mg x=some (.ref f))(hb:Binds K fd ps [])(BL:ps.length<1000)(hS:aX N ps (ah st)=true)
  (hc:bx ⟨N,ah st,fs.map (λr=>(r.1,r.2.1)),cons,tb⟩ body (aD st)=true):cR P w ⟨K,cl⟩ mg base (k+2) (fs++[(x,ps.length,j9 (look fs) N.length body)]) :=
 EL (r0:=(x,ps.length,j9 (look fs) N.length body)) A (.inl ⟨BL,.inl ⟨f,fd,ps,rfl,hm,F.kp,hb,Gx T A F hS hc⟩⟩)
end
def mP(K:Frag)(x qual:Str)(st:Stmt)(f:Addr):Prop:=∃fd,Gf K x qual st f fd
section
variable {α:Type} {p:List α -> Prop}
theorem Di:∀{us:List α},us.length=1->(∀a,p [a])->p us
 |[a],_,h=>h a
theorem ln2:∀{us:List α},us.length=2->(∀a b,p [a,b])->p us
 |[a,b],_,h=>h a b
theorem TX:∀{us:List α},us.length=3->(∀a b c,p [a,b,c])->p us
 |[a,b,c],_,h=>h a b c
theorem Pg:∀{us:List α},us.length=4->(∀a b c d,p [a,b,c,d])->p us
 |[a,b,c,d],_,h=>h a b c d
theorem RZ:∀{us:List α},us.length=5->(∀a b c d e,p [a,b,c,d,e])->p us
 |[a,b,c,d,e],_,h=>h a b c d e
end
def TY(x qual:Str)(st:Stmt)(ps:List Str):Prop:=∀(kV doc pm:Value) (an:Option Addr) (cdv ct:Value) (us:List Value),us.length=ps.length->bindArgs (fnOf x qual (kE st) (aD st) (ah st) .none kV doc pm an cdv ct) ⟨us,[]⟩=pure (ps.zip us)
section
variable {P:Program} {w:World} {K:Frag} {cl:Nat->Addr} {mg:Str->Option Value} {base:Heap} {k:Nat} {fs:List Row} {cons:List (Str×Val)} {tb:Tb} {x i y qual:Str} {st:Stmt} {f:Addr} {N ps:List Str} {body:eE} (T:Base K cl mg cons tb) (A:cR P w ⟨K,cl⟩ mg base k fs)
include T A
theorem cF(F:mP K x qual st f)(hm:mg x=some (.ref f))(hS:aX N ps (ah st)=true)
  (hc:bx ⟨N,ah st,fs.map (λr=>(r.1,r.2.1)),cons,tb⟩ body (aD st)=true) (BL:ps.length<1000) (hb:TY x qual st ps):cR P w ⟨K,cl⟩ mg base (k+2) (fs++[(x,ps.length,j9 (look fs) N.length body)]):=F.elim λ_ F=>BK T A F hm (F.binds hb) BL hS hc
end
theorem JT{K:Frag}{cl:Nat->Addr}{φ:List Val->M Val}{H:Hp}{a:Addr}{ns:List Int}(hO:AB H)(hS:fN K H a (ns.map V.int))(h:∃h',φ [.rl (ns.map .int)] []=.ok (.bl true) h') :
  vW ⟨K,cl⟩ 1 φ [.ref a] H (λv _=>v=.bl true) λ_ _ _=>False:=by
 obtain⟨h',e⟩:=h;have sr:Gj K H a (ns.map V.int):=by
  rcases hS with (z|z)|z
  ·rcases hO a with y|⟨o,xs,y⟩
   ·rw[y]at z;cases z
   ·rw[y]at z;cases z
  ·exact .inl z
  ·exact .inr (.inr z)
 refine⟨[],[],[.rl (ns.map .int)],rfl,⟨rfl,XU,λi o a e=>by simp at e⟩,au.cons (by rw[VR];exact⟨a,_,rfl,sr,au.ints.mpr rfl⟩) au.nil,?_⟩;rw[e];intro ρ' H' g r x q;rw[VR]at q;exact q
def Ph(K:Frag):Sp:=λvs H Q _=>∃(a:Addr) (ns:List Int),vs=[.ref a]/\AB H/\fN K H a (ns.map V.int)/\ns.length<=63/\∀H',Q (.bl true) H'
theorem JU{K:Frag}{cl:Nat->Addr}{φ:List Val->M Val}(hφ:∀ns:List Int,ns.length<=63->∃h',φ [.rl (ns.map .int)] []=.ok (.bl true) h')(vs:List V)(H:Hp)(Q:VK)(E:XK)(h:Ph K vs H Q E):vW ⟨K,cl⟩ 1 φ vs H Q E:=by
 obtain⟨a,ns,rfl,hO,hS,hl,hq⟩:=h;obtain⟨ρ,h,vs,q1,q2,q3,q4⟩:=JT (cl:=cl) hO hS (hφ ns hl);refine⟨ρ,h,vs,q1,q2,q3,?_⟩;revert q4;cases φ vs h with
 |ok v h'=>exact λq4 ρ' H' g r x hx=>by rw[show x=_ from q4 ρ' H' g r x hx];exact hq H'
 |exc c ws h'=>exact λq4=>q4
 |no=>exact λq4=>q4
theorem walk{l:PySem.W.OpenLaw}{q:Program}{loose:List Str}{XP:(Str->Option Value)->Heap->Prop}{YP:World->Heap->Prop}{d:DefRec}{K:Params->Frag}{k:Nat}{x:Str}(hn:l.most=some 63)(hdf:d.params.defaults=[])(hr:dZ k callerA)
  (hY:∀(w:World) (h:Heap),YP w h->(K w.params).In h)
  (F:∀(w:World) (mg:Str->Option Value) (fa:Addr) (h:Heap),(K w.params).In h->h.Ns mainGlobals mg->mg d.name=some (.ref fa) ->
   ∃fd:FuncData,(∀(s:Shared) (u:Value),BindsTo s fd ⟨[u],[]⟩ [(x,u)])/\∀base:Heap,(K w.params).In base->base.Ns mainGlobals mg->f9 l.prog w (K w.params) mg base AE k fa fd [x] (Ph (K w.params))) :
  PySem.W.WalkO q loose XP YP l.row.toRowW d [] (λf vs=>PySem.call f vs) :=
 L2.DU (n:=63) (k:=k) (x:=x) (CX:=λ_=>AE) (sp:=λw=>Ph (K w.params)) hn (by decide) hdf hr hY F (λ_ _ a ns hl hO hS=>⟨a,ns,rfl,hO,hS,hl,λ_=>rfl⟩) λ_ _ _ _ _ z=>z
end Hv
end
section
namespace Hv
open PySem L2
inductive Pr (α:Type)
 |ok (a:α)|exc (c:Nat) (ds:List Val)|no
def pb{α β:Type}(m:Pr α)(f:α -> Pr β):Pr β:=match m with
 |.ok a=>f a
 |.exc c ds=>.exc c ds
 |.no=>.no
def pl{α:Type}(o:Option α):Pr α:=match o with
 |some a=>.ok a
 |none=>.no
def pg{α:Type}(c:Bool)(m:Pr α):Pr α:=if c=true then m else .no
inductive Mk
 |sh|nw|ow
def pG:Mk->Bool
 |.ow=>false
 |_=>true
def JV:Mk->Bool
 |.nw=>true
 |_=>false
abbrev aL:=List (Option (Mk×Val))
abbrev FV:=Bool×Val
mutual
noncomputable def lD:Val->Bool
 |.rl _=>false
 |.dc _ _=>false
 |.ob _ _ _=>false
 |.ref _=>false
 |.tup vs=>bz vs
 |.non=>true
 |.bl _=>true
 |.int _=>true
 |.str _=>true
noncomputable def bz:List Val->Bool
 |[]=>true
 |v::vs=>lD v&&bz vs
end
def gI(f:Bool)(d:Val):Mk:=if (f && !lD d)=true then .nw else .sh
def putD(ks:List Key)(ds:List Val)(k:Key)(d:Val):Val:=.dc ((j8 (ks.zip ds) k d).map (·.1)) ((j8 (ks.zip ds) k d).map (·.2))
def jd:Gh->Val->Val->Pr FV
 |.add,.int a,.int b=>.ok (true,.int (a+b))
 |.add,.str a,.str b=>pg (decide (a.length+b.length<=sizeLine)) (.ok (true,.str (a++b)))
 |.add,.tup a,.tup b=>pg (!a.isEmpty&&decide (a.length+b.length<=sizeLine)) (.ok (bz (a++b),.tup (a++b)))
 |.add,.rl a,.rl b=>pg (decide (a.length+b.length<=sizeLine)) (.ok (bz (a++b),.rl (a++b)))
 |.sub,.int a,.int b=>.ok (true,.int (a-b))
 |.mul,.int a,.int b=>pg (fm a b) (.ok (true,.int (a*b)))
 |.fdiv,.int a,.int b=>pg (iT b) (.ok (true,.int (a/b)))
 |.mod,.int a,.int b=>pg (decide (0<b)) (.ok (true,.int (a%b)))
 |.pow,.int a,.int b=>pg (decide (0<=b/\b<=1000000/\a.natAbs<2 ^ 64)) (.ok (true,.int (a ^ b.toNat)))
 |_,_,_=>.no
def zw(v:Val)(lo hi:Option Int):Pr FV:=match v with
 |.tup vs=>pg (!(decide (HT.dw vs.length 0 lo=0)&&decide (HT.dw vs.length vs.length hi=vs.length))) (.ok (bz (bO vs lo hi),.tup (bO vs lo hi)))
 |.rl vs=>.ok (bz (bO vs lo hi),.rl (bO vs lo hi))
 |_=>.no
def dB:Bl->List Val->Pr FV
 |.len,[v]=>pb (pl (jO [] v)) λn=>.ok (true,.int n)
 |.min,[.int a,.int b]=>.ok (true,.int (if b<a then b else a))
 |.max,[.int a,.int b]=>.ok (true,.int (if b>a then b else a))
 |.min,[v]=>pb (pl (cB [] v)) λxs=>pb (pl ((aQ xs).bind rK)) λm=>.ok (true,m)
 |.max,[v]=>pb (pl (cB [] v)) λxs=>pb (pl ((aQ xs).bind rL)) λm=>.ok (true,m)
 |.sorted,[.rl xs]=>pb (pl (fR xs)) λys=>.ok (true,.rl ys)
 |.list,[v]=>pb (pl (cB [] v)) λxs=>.ok (bz xs,.rl xs)
 |.tuple,[v]=>pb (pl (cB [] v)) λxs=>.ok (bz xs,.tup xs)
 |.str,[.int i]=>pg (decide (i.natAbs.log2<1920)) (.ok (true,.str (toString i)))
 |.int,[.bl b]=>.ok (true,.int (if b=true then 1 else 0))
 |.int,[.int i]=>.ok (true,.int i)
 |.int,[.str x]=>pb (pl (intText? x)) λn=>pg (decide (x.length<=640)) (.ok (true,.int n))
 |.all,[.rl xs]=>pb (pl (cA xs)) λbs=>.ok (true,.bl (bs.all id))
 |.any,[.rl xs]=>pb (pl (cA xs)) λbs=>.ok (true,.bl (bs.any id))
 |.isin T,[v]=>pb (pl (tY [] v)) λt=>pb (pl (tZ T t)) λb=>.ok (true,.bl b)
 |_,_=>.no
def BN:Val->List Val->Pr FV
 |.str z,[.rl xs]=>pb (pl (strs? xs)) λys=>pg (decide ((ys.map (·.length)).sum+ys.length*z.length<=16777216)) (.ok (true,.str (Txt.join z ys)))
 |_,_=>.no
def BO:Val->List Val->Pr FV
 |.str z,[.str y]=>pg (L2.iF z y) (.ok (true,.rl ((L2.eB z y).map .str)))
 |_,_=>.no
def fk:Ik->List Val->Option (List Val)
 |.seq,[.str x]=>if L2.isAscii x=true then some (signs x) else none
 |.seq,[.tup vs]=>some vs
 |.seq,[.rl vs]=>some vs
 |.range,[.int n]=>if inR n then some (bT 0 n.toNat) else none
 |.range,[.int a,.int b]=>if inR a&&inR b then some (bT a (b-a).toNat) else none
 |.enum,[.rl vs]=>some (bQ 0 vs)
 |_,_=>none
def zx(k:Ik)(ds:List Val):Option (List Val):=match k with
 |.zip=>none
 |k=>fk k ds
def bA:List Nat->List Val->aL->Option aL
 |[],[],env=>some env
 |i::is,d::ds,env=>bA is ds (env.set i (some (.sh,d)))
 |_,_,_=>none
def dj:vP->Val->aL->Option aL
 |.one i,d,env=>some (env.set i (some (.sh,d)))
 |.tup is,.tup ds,env=>bA is ds env
 |_,_,_=>none
def fy(js:List (Option Nat))(env:aL):aL:=js.map λo=>match o with
 |none=>none
 | some j=>match env[j]? with
  |some (some d)=>some d
  |_=>none
def fU(f:Val->Pr (Option FV)):List Val->Pr (Bool×List Val)
 |[]=>.ok (true,[])
 |x::r=>pb (f x) λo=>pb (fU f r) λp=>.ok (match o with|some e=>(e.1&&p.1,e.2::p.2)|none=>p)
def nY:Val->Pr Bool
 |.bl b=>.ok b
 |_=>.no
def jQ(env:aL):IE->Option FV
 | .var i=>match env[i]? with
  |some (some (_,d))=>some (lD d,d)
  |_=>none
 |_=>none
def isVar:IE->Bool
 |.var _=>true
 |_=>false
mutual
noncomputable def aV(Ψ:Nat->List Val->Pr FV):IE->aL->Pr FV
 | .var i,env=>match env[i]? with
  |some (some (m,d))=>pg (pG m) (.ok (lD d,d))
  |_=>.no
 |.cst d,_=>.ok (lD d,d)
 |.con _ d,_=>.ok (lD d,d)
 |.no,_=>.no
 |.bin o a b,env=>pb (if isVar a=true then pl (jQ env a) else aV Ψ a env) λx=>pb (if isVar b=true then pl (jQ env b) else aV Ψ b env) λy=>jd o x.2 y.2
 |.neg _,_=>.no
 |.cmp o a b,env=>pb (if isVar a=true then pl (jQ env a) else aV Ψ a env) λx=>pb (if isVar b=true then pl (jQ env b) else aV Ψ b env) λy=>pb (pl (cop [] o x.2 y.2)) λt=>.ok (true,.bl t)
 |.chn o p a b c,env=>pb (aV Ψ a env) λx=>pb (aV Ψ b env) λy=>pb (pl (cop [] o x.2 y.2)) λt=>
  if t=true then pb (aV Ψ c env) λz=>pb (pl (cop [] p y.2 z.2)) λt=>.ok (true,.bl t) else .ok (true,.bl false)
 |.and a b,env=>pb (aV Ψ a env) λx=>pb (nY x.2) λt=>if t=true then pb (aV Ψ b env) λy=>pb (nY y.2) λu=>.ok (true,.bl u) else .ok (true,.bl false)
 |.or a b,env=>pb (aV Ψ a env) λx=>pb (nY x.2) λt=>if t=true then .ok (true,.bl true) else pb (aV Ψ b env) λy=>pb (nY y.2) λu=>.ok (true,.bl u)
 |.not a,env=>pb (aV Ψ a env) λx=>pb (nY x.2) λt=>.ok (true,.bl (!t))
 |.ite _ _ _,_=>.no
 |.tup es,env=>pb (uv Ψ es env) λp=>pg (decide (p.2.length<=sizeLine)) (.ok (p.1,.tup p.2))
 |.lst es,env=>pb (uv Ψ es env) λp=>pg (decide (p.2.length<=sizeLine)) (.ok (p.1,.rl p.2))
 |.idx a b,env=>pb (if isVar a=true then pl (jQ env a) else aV Ψ a env) λx=>pb (aV Ψ b env) λy=>pb (pl (gF [] x.2 y.2)) λz=>.ok (lD z,z)
 |.slc a lo hi,env=>pb (if isVar a=true then pl (jQ env a) else aV Ψ a env) λx=>pb (if cQ lo=true then .ok none else pb (aV Ψ lo env) λv=>pb (pl (fS v.2)) λi=>.ok (some i)) λl=>
   pb (if cQ hi=true then .ok none else pb (aV Ψ hi env) λv=>pb (pl (fS v.2)) λi=>.ok (some i)) λu=>zw x.2 l u
 |.call j es,env=>pb (uv Ψ es env) λp=>Ψ j p.2
 |.blt b es,env=>pb (fG Ψ es env) λds=>dB b ds
 | .met m a es,env=>match m with
  |.join=>pb (aV Ψ a env) λx=>pb (pl (recv [] .join x.2)) λ_=>pb (fG Ψ es env) λds=>BN x.2 ds
  |.pop=>pb (aV Ψ a env) λx=>pb (pl (recv [] .pop x.2)) λ_=>pb (fG Ψ es env) λds=>BO x.2 ds
  |_=>.no
 | .comp _ js pat k it c elt,env=>pb (fG Ψ it env) λits=>pb (pl (zx k its)) λxs=>pg (decide (xs.length<=100000))
   (pb (fU (λd=>pb (pl (dj pat d (fy js env))) λenv'=>pb (if cQ c=true then .ok true else pb (aV Ψ c env') λv=>pl (cP [] v.2)) λt=>
    if t=true then pb (aV Ψ elt env') λe=>.ok (some e) else .ok none) xs) λp=>.ok (p.1,.rl p.2))
 |.dct0,_=>.ok (true,.dc [] [])
 | .sset a,env=>pb (if isVar a=true then pl (jQ env a) else aV Ψ a env) λx=>match x.2 with
  |.rl xs=>pb (pl (aQ xs)) λns=>pg (decide (ns.length<64)) (.ok (true,.rl ((sortI (L2.iE [] ns)).map .int)))
  |_=>.no
 |.dget _ _ _,_=>.no
 |.dct1 _ _,_=>.no
 |.lkeys _,_=>.no
 |.sdef ..,_=>.no
 |.svals _,_=>.no
 |.skeys _,_=>.no
 |.fld _ _ _,_=>.no
 |.mth _ _ _ _,_=>.no
 |.rev _ _,_=>.no
 |.dflt _ _ _ _ _ _,_=>.no
 |.isc _ _ _,_=>.no
noncomputable def uv(Ψ:Nat->List Val->Pr FV):j7->aL->Pr (Bool×List Val)
 |.nil,_=>.ok (true,[])
 |.cons e es,env=>pb (aV Ψ e env) λd=>pb (uv Ψ es env) λp=>.ok (d.1&&p.1,d.2::p.2)
noncomputable def fG(Ψ:Nat->List Val->Pr FV):j7->aL->Pr (List Val)
 |.nil,_=>.ok []
 |.cons e es,env=>pb (if isVar e=true then pl (jQ env e) else aV Ψ e env) λd=>pb (fG Ψ es env) λp=>.ok (d.2::p)
end
def R0(Ψ:Nat->List Val->Pr FV)(e:IE)(env:aL):Pr FV:=if isVar e=true then pl (jQ env e) else aV Ψ e env
inductive xU
 |nx (env:aL)|rt (p:FV)|bk (env:aL)|ct (env:aL)
mutual
noncomputable def pH:IS->List Nat
 |.expr (.met .append (.var i) _)=>[i]
 |.expr (.met .extend (.var i) _)=>[i]
 |.iZ (.var i) _ _=>[i]
 |.iff _ a b=>gh a++gh b
 |.for _ _ _ b=>gh b
 |.whl _ _ b=>gh b
 |_=>[]
noncomputable def gh:eE->List Nat
 |.nil=>[]
 |.cons s r=>pH s++gh r
end
def stored:vP->List Nat
 |.one i=>[i]
 |.tup is=>is
mutual
noncomputable def mQ:IS->List Nat
 |.asg p _=>stored p
 |.aug i _ _=>[i]
 |.iff _ a b=>j3 a++j3 b
 |.for p _ _ b=>stored p++j3 b
 |.whl _ _ b=>j3 b
 |_=>[]
noncomputable def j3:eE->List Nat
 |.nil=>[]
 |.cons s r=>mQ s++j3 r
end
def QJ:IE->Bool
 |.lst _=>true
 |.comp ..=>true
 |.slc ..=>true
 |.blt .list _=>true
 |.blt .sorted _=>true
 |.dct0=>true
 |.dct1 ..=>true
 |_=>false
def iU(body:Val->aL->Pr xU):List Val->aL->Pr xU
 |[],env=>.ok (.nx env)
 | x::r,env=>pb (body x env) λf=>match f with
  |.nx env'=>iU body r env'
  |.ct env'=>iU body r env'
  |.bk env'=>.ok (.nx env')
  |.rt p=>.ok (.rt p)
def R1:Mk->Mk
 |.ow=>.sh
 |m=>m
def R3:Option (Mk×Val)->Option (Mk×Val)
 |none=>none
 |some (m,d)=>some (R1 m,d)
def o5(env:aL):aL:=env.map R3
def EM(env:aL):j7->Option (Val×Val)
 | .cons (.var i) #[.var j]=>match env[i]?,env[j]? with
  |some (some (.nw,d)),some (some (.nw,e))=>some (d,e)
  |_,_=>none
 |_=>none
def EN(Ψ:Nat->List Val->Pr FV)(es:j7)(env:aL):Pr FV:=match EM env es with
 |some p=>.ok (true,.tup [p.1,p.2])
 |none=>aV Ψ (.tup es) (o5 env)
def Pj(Ψ:Nat->List Val->Pr FV)(e:IE)(env:aL):Pr FV:=match e with
 | .var i=>match env[i]? with
  | some (some (m,d))=>if pG m=true then .ok (lD d||JV m,d) else match d with
   |.rl ds=>.ok (bz ds,.rl ds)
   |.dc ks ds=>.ok (bz ds,.dc ks ds)
   |_=>.no
  |_=>.no
 |.call j es=>aV Ψ (.call j es) (o5 env)
 |.bin o a b=>aV Ψ (.bin o a b) (o5 env)
 |.tup es=>EN Ψ es env
 |e=>aV Ψ e env
def BP(p:vP)(it:j7)(body:eE):Bool:=match it with
 |.cons (.var i) .nil=>!(gh body).contains i && !(j3 body).contains i && !(stored p).contains i
 |_=>true
mutual
noncomputable def bW(Ψ:Nat->List Val->Pr FV)(ms:List Nat):IS->aL->Pr xU
 | .expr e,env=>match e with
  | .met .append (.var i) #[a]=>match env[i]? with
   |some (some (.ow,.rl ds))=>pb (aV Ψ a env) λx=>pg (decide (ds.length<sizeLine)) (.ok (.nx (env.set i (some (.ow,.rl (ds++[x.2]))))))
   |_=>.no
  | .met .extend (.var i) #[a]=>match env[i]? with
   | some (some (.ow,.rl ds))=>pb (aV Ψ a env) λx=>match x.2 with
    |.tup vs=>pg (decide (ds.length+vs.length<=sizeLine)) (.ok (.nx (env.set i (some (.ow,.rl (ds++vs))))))
    |_=>.no
   |_=>.no
  |e=>pb (aV Ψ e env) λ_=>.ok (.nx env)
 | .asg p e,env=>match p with
  | .one i=>if ms.contains i=true then pg (QJ e) (pb (aV Ψ e env) λx=>match x.2 with
    |.rl ds=>.ok (.nx (env.set i (some (.ow,.rl ds))))
    |.dc ks ds=>.ok (.nx (env.set i (some (.ow,.dc ks ds))))
    |_=>.no) else pb (aV Ψ e env) λx=>.ok (.nx (env.set i (some (gI x.1 x.2,x.2))))
  |.tup is=>pg (is.all λi=>!ms.contains i) (pb (aV Ψ e env) λx=>pb (pl (dj (.tup is) x.2 env)) λenv'=>.ok (.nx env'))
 |.aug _ _ _,_=>.no
 | .iZ o i v,env=>match o with
  | .var j=>pb (aV Ψ v env) λx=>match env[j]? with
   |some (some (.ow,.rl ds))=>pb (aV Ψ i env) λz=>pb (pl (fS z.2)) λk=>pb (pl (qZ ds.length k)) λn=>.ok (.nx (env.set j (some (.ow,.rl (ds.set n x.2)))))
   |some (some (.ow,.dc ks ds))=>pb (aV Ψ i env) λz=>pb (pl (keyOf z.2)) λk=>pg (decide (ks.length<sizeLine)) (.ok (.nx (env.set j (some (.ow,putD ks ds k x.2)))))
   |_=>.no
  |_=>.no
 |.iff c a b,env=>pb (R0 Ψ c env) λx=>pb (pl (cP [] x.2)) λt=>if t=true then fV Ψ ms a env else fV Ψ ms b env
 |.for p k it body,env=>pg (BP p it body&&(stored p).all λi=>!ms.contains i) (pb (fG Ψ it env) λits=>pb (pl (fk k its)) λxs=>
   iU (λx env=>pb (pl (dj p x env)) λenv'=>fV Ψ ms body env') xs env)
 |.whl _ _ _,_=>.no
 |.ret e,env=>pb (Pj Ψ e env) λp=>.ok (.rt p)
 |.Ba,_=>.ok (.rt (true,.non))
 |.brk,env=>.ok (.bk env)
 |.cnt,env=>.ok (.ct env)
 |.pass,env=>.ok (.nx env)
 |.never,_=>.no
 |.setF _ _ _ _,_=>.no
noncomputable def fV(Ψ:Nat->List Val->Pr FV)(ms:List Nat):eE->aL->Pr xU
 |.nil,env=>.ok (.nx env)
 | .cons s r,env=>pb (bW Ψ ms s env) λf=>match f with
  |.nx env'=>fV Ψ ms r env'
  |f=>.ok f
end
def dU(Ψ:Nat->List Val->Pr FV)(n:Nat)(body:eE)(ds:List Val):Pr FV :=
 pb (fV Ψ (gh body) body (ds.map (λd=>some (.sh,d))++replicate (n-ds.length) none)) λf=>match f with
  |.nx _=>.ok (true,.non)
  |.rt p=>.ok p
  |_=>.no
abbrev AP:=Option Nat->Prop
def Fr(n:Nat):AP:=λo=>match o with
 |none=>False
 |some k=>n<=k
theorem Fr.le{n m:Nat}(h:n<=m):∀o,Fr m o->Fr n o
 |none,e=>e
 |some k,e=>VX h e
mutual
noncomputable def Dn(A:AP)(h:Hs):Val->Val->Prop
 |.non,v=>v=.non
 |.bl b,v=>v=.bl b
 |.int i,v=>v=.int i
 |.str x,v=>v=.str x
 |.tup ds,v=>∃vs,v=.tup vs/\ao A h ds vs
 |.rl ds,v=>(∃vs,v=.rl vs/\A none/\ao A h ds vs)\/∃i vs,v=.ref i/\A (some i)/\h[i]?=some (.lst vs)/\ao A h ds vs
 |.dc ks ds,v=>∃i kvs,v=.ref i/\A (some i)/\h[i]?=some (.dct kvs)/\kvs.map (·.1)=ks/\ao A h ds (kvs.map (·.2))
 |.ob c xs ds,v=>∃i fs,v=.ref i/\A (some i)/\h[i]?=some (.ins c fs)/\fs.map (·.1)=xs/\ao A h ds (fs.map (·.2))
 |.ref _,_=>False
noncomputable def ao(A:AP)(h:Hs):List Val->List Val->Prop
 |[],vs=>vs=[]
 |d::ds,vs=>∃v r,vs=v::r/\Dn A h d v/\ao A h ds r
end
section
variable {A A':AP} {h h' h1:Hs}
mutual
theorem Dn.mono(hA:∀i,A i->A' i)(hh:∀(i:Nat) (o:Ob),A (some i)->h[i]?=some o->h'[i]?=some o):∀(d v:Val),Dn A h d v->Dn A' h' d v
 |.non,v,e=>by rw[Dn]at e |-;exact e
 |.bl _,v,e=>by rw[Dn]at e |-;exact e
 |.int _,v,e=>by rw[Dn]at e |-;exact e
 |.str _,v,e=>by rw[Dn]at e |-;exact e
 | .tup ds,v,e=>by
  rw[Dn]at e |-;obtain⟨vs,rfl,q⟩:=e;exact⟨vs,rfl,ao.mono hA hh ds vs q⟩
 | .rl ds,v,e=>by
  rw[Dn]at e |-
  rcases e with ⟨vs,rfl,n,q⟩|⟨i,vs,rfl,a,g,q⟩
  ·exact .inl ⟨vs,rfl,hA _ n,ao.mono hA hh ds vs q⟩
  ·exact .inr ⟨i,vs,rfl,hA _ a,hh i _ a g,ao.mono hA hh ds vs q⟩
 | .dc ks ds,v,e=>by
  rw[Dn]at e |-;obtain⟨i,kvs,rfl,a,g,k,q⟩:=e;exact⟨i,kvs,rfl,hA _ a,hh i _ a g,k,ao.mono hA hh ds _ q⟩
 | .ob c xs ds,v,e=>by
  rw[Dn]at e |-;obtain⟨i,kvs,rfl,a,g,k,q⟩:=e;exact⟨i,kvs,rfl,hA _ a,hh i _ a g,k,ao.mono hA hh ds _ q⟩
 |.ref _,v,e=>by rw[Dn]at e;exact e.elim
theorem ao.mono(hA:∀i,A i->A' i)(hh:∀(i:Nat) (o:Ob),A (some i)->h[i]?=some o->h'[i]?=some o):∀(ds vs:List Val),ao A h ds vs->ao A' h' ds vs
 |[],vs,e=>by rw[ao]at e |-;exact e
 | d::ds,vs,e=>by
  rw[ao]at e |-;obtain⟨v,r,rfl,q1,q2⟩:=e;exact⟨v,r,rfl,Dn.mono hA hh d v q1,ao.mono hA hh ds r q2⟩
end
theorem bB{i:Nat}(p:h<+:h')(e:h[i]?=some o):h'[i]?=some o:=by
 obtain⟨t,rfl⟩:=p;have hi:i<h.length:=(Vn.mp e).1;rw[VD hi];exact e
theorem Dn.ext(p:h<+:h')(e:Dn A h d v):Dn A h' d v:=Dn.mono (λ_ a=>a) (λ_ _ _ q=>bB p q) d v e
theorem ao.ext(p:h<+:h')(e:ao A h d v):ao A h' d v:=ao.mono (λ_ a=>a) (λ_ _ _ q=>bB p q) d v e
theorem Dn.dR(hA:∀i,A i->A' i)(e:Dn A h d v):Dn A' h d v:=Dn.mono hA (λ_ _ _ q=>q) d v e
theorem ao.dR(hA:∀i,A i->A' i)(e:ao A h d v):ao A' h d v:=ao.mono hA (λ_ _ _ q=>q) d v e
mutual
theorem iH:∀(d v:Val),lD d=true->(Dn A h d v↔v=d)
 |.non,v,_=>by rw[Dn]
 |.bl _,v,_=>by rw[Dn]
 |.int _,v,_=>by rw[Dn]
 |.str _,v,_=>by rw[Dn]
 | .tup ds,v,e=>by
  rw[lD]at e;rw[Dn];constructor
  ·rintro⟨vs,rfl,q⟩;rw[(aS ds vs e).mp q]
  ·rintro rfl;exact⟨ds,rfl,(aS ds ds e).mpr rfl⟩
 |.rl _,v,e=>by rw[lD]at e;cases e
 |.dc _ _,v,e=>by rw[lD]at e;cases e
 |.ob _ _ _,v,e=>by rw[lD]at e;cases e
 |.ref _,v,e=>by rw[lD]at e;cases e
theorem aS:∀(ds vs:List Val),bz ds=true->(ao A h ds vs↔vs=ds)
 |[],vs,_=>by rw[ao]
 | d::ds,vs,e=>by
  rw[bz,W5]at e;rw[ao];constructor
  ·rintro⟨v,r,rfl,q1,q2⟩;rw[(iH d v e.1).mp q1,(aS ds r e.2).mp q2]
  ·rintro rfl;exact⟨d,ds,rfl,(iH d d e.1).mpr rfl,(aS ds ds e.2).mpr rfl⟩
end
theorem ao.nil:ao A h [] []:=by rw[ao]
theorem ao.cons{d v:Val}{ds vs:List Val}(a:Dn A h d v)(b:ao A h ds vs):ao A h (d::ds) (v::vs):=by rw[ao];exact⟨v,vs,rfl,a,b⟩
theorem ao.length:∀{ds vs:List Val},ao A h ds vs->ds.length=vs.length
 |[],vs,e=>by rw[ao]at e;subst e;rfl
 |d::ds,vs,e=>by rw[ao]at e;obtain⟨v,r,rfl,_,q⟩:=e;simp[ao.length q]
theorem ao.get:∀{ds vs:List Val} {i:Nat} {d:Val},ao A h ds vs->ds[i]?=some d->∃v,vs[i]?=some v/\Dn A h d v
 |[],vs,i,d,e,q=>by simp at q
 | c::ds,vs,0,d,e,q=>by
  rw[ao]at e;obtain⟨v,r,rfl,a,_⟩:=e;simp at q;subst q;exact⟨v,rfl,a⟩
 | c::ds,vs,i+1,d,e,q=>by
  rw[ao]at e;obtain⟨v,r,rfl,_,b⟩:=e;simp at q;obtain⟨w,q1,q2⟩:=ao.get b q;exact⟨w,by simpa using q1,q2⟩
theorem ao.append:∀{ds es vs ws:List Val},ao A h ds vs->ao A h es ws->ao A h (ds++es) (vs++ws)
 |[],es,vs,ws,e,q=>by rw[ao]at e;subst e;exact q
 | d::ds,es,vs,ws,e,q=>by
  rw[ao]at e;obtain⟨v,r,rfl,a,b⟩:=e;exact ao.cons a (ao.append b q)
theorem ao.take:∀{ds vs:List Val} (n:Nat),ao A h ds vs->ao A h (ds.take n) (vs.take n)
 |_,_,0,_=>by simp;exact ao.nil
 |[],vs,n+1,e=>by rw[ao]at e;subst e;simp;exact ao.nil
 | d::ds,vs,n+1,e=>by
  rw[ao]at e;obtain⟨v,r,rfl,a,b⟩:=e;exact ao.cons a (ao.take n b)
theorem ao.drop:∀{ds vs:List Val} (n:Nat),ao A h ds vs->ao A h (ds.drop n) (vs.drop n)
 |_,_,0,e=>by simpa using e
 |[],vs,n+1,e=>by rw[ao]at e;subst e;simp;exact ao.nil
 | d::ds,vs,n+1,e=>by
  rw[ao]at e;obtain⟨v,r,rfl,a,b⟩:=e;exact ao.drop n b
theorem ao.cut(lo hi:Option Int)(e:ao A h ds vs):ao A h (bO ds lo hi) (bO vs lo hi):=by
 unfold bO;rw[e.length];exact ao.take _ (ao.drop _ e)
theorem ao.set:∀{ds vs:List Val} (n:Nat) {d v:Val},ao A h ds vs->Dn A h d v->ao A h (ds.set n d) (vs.set n v)
 |[],vs,n,d,v,e,q=>by rw[ao]at e;subst e;simp;exact ao.nil
 | c::ds,vs,0,d,v,e,q=>by
  rw[ao]at e;obtain⟨w,r,rfl,a,b⟩:=e;exact ao.cons q b
 | c::ds,vs,n+1,d,v,e,q=>by
  rw[ao]at e;obtain⟨w,r,rfl,a,b⟩:=e;exact ao.cons a (ao.set n b q)
theorem ao.gC{i:Int}(e:ao A h ds vs)(q:L2.gC ds i=some d):∃v,L2.gC vs i=some v/\Dn A h d v:=by
 unfold L2.gC at q |-;rw[e.length]at q;cases hi:L2.qZ vs.length i with
 |none=>rw[hi]at q;cases q
 |some n=>rw[hi]at q;exact ao.get e q
def OD(A:AP)(h:Hs)(d:Val)(a:Nat):Prop:=match d with
 |.rl ds=>∃vs,h[a]?=some (.lst vs)/\ao A h ds vs
 |.dc ks ds=>∃kvs,h[a]?=some (.dct kvs)/\kvs.map (·.1)=ks/\ao A h ds (kvs.map (·.2))
 |_=>False
theorem OD.mono{a:Nat}(e:OD A h d a)(ho:∀o,h[a]?=some o->h'[a]?=some o)(hq:∀ds vs,ao A h ds vs->ao A' h' ds vs):OD A' h' d a:=by
 cases d with
 |rl ds=>obtain⟨vs,g,q⟩:=e;exact⟨vs,ho _ g,hq _ _ q⟩
 |dc ks ds=>obtain⟨kvs,g,k,q⟩:=e;exact⟨kvs,ho _ g,k,hq _ _ q⟩
 |_=>exact False.elim e
theorem OD.ext{a:Nat}(p:h<+:h')(e:OD A h d a):OD A h' d a:=e.mono (λ_ g=>bB p g) λ_ _ q=>q.ext p
theorem OD.lt{a:Nat}(e:OD A h d a):a<h.length:=by
 cases d with
 |rl ds=>obtain⟨vs,g,q⟩:=e;exact(Vn.mp g).1
 |dc ks ds=>obtain⟨kvs,g,k,q⟩:=e;exact(Vn.mp g).1
 |_=>exact False.elim e
theorem OD.dn{a:Nat}(e:OD A h d a)(ha:A (.some a)):Dn A h d (.ref a):=by
 cases d with
 |rl ds=>obtain⟨vs,g,q⟩:=e;rw[Dn];exact .inr ⟨a,vs,rfl,ha,g,q⟩
 |dc ks ds=>obtain⟨kvs,g,k,q⟩:=e;rw[Dn];exact⟨a,kvs,rfl,ha,g,k,q⟩
 |_=>exact False.elim e
def OB(A:AP)(h:Hs)(d:Val)(o:Ob):Prop:=match d with
 |.rl ds=>∃vs,o=.lst vs/\ao A h ds vs
 |.dc ks ds=>∃kvs,o=.dct kvs/\kvs.map (·.1)=ks/\ao A h ds (kvs.map (·.2))
 |_=>False
theorem OB.od{a:Nat}(e:OB A h d o)(g:h'[a]?=.some o)(hq:∀ds vs,ao A h ds vs->ao A' h' ds vs):OD A' h' d a:=by
 cases d with
 |rl ds=>obtain⟨vs,rfl,q⟩:=e;exact⟨vs,g,hq _ _ q⟩
 |dc ks ds=>obtain⟨kvs,rfl,k,q⟩:=e;exact⟨kvs,g,k,hq _ _ q⟩
 |_=>exact False.elim e
def DB(A:AP)(h:Hs)(d v:Val):Prop:=Dn A h d v\/∃i,v=.ref i/\OD A h d i
theorem DB.all(e:DB A h d v):Dn (λ_=>True) h d v:=by
 rcases e with e|⟨i,rfl,q⟩
 ·exact e.dR λ_ _=>trivial
 ·exact(q.mono (A':=λ_=>True) (λ_ g=>g) λ_ _ z=>z.dR λ_ _=>trivial).dn trivial
theorem DB.ext(p:h<+:h')(e:DB A h d v):DB A h' d v:=by
 rcases e with e|⟨i,rfl,q⟩
 ·exact .inl (e.ext p)
 ·exact .inr ⟨i,rfl,q.ext p⟩
theorem DB.dc(e:DB A h (.dc ks ds) v):∃i kvs,v=.ref i/\h[i]?=some (.dct kvs)/\kvs.map (·.1)=ks/\ao A h ds (kvs.map (·.2)):=by
 rcases e with e|⟨i,rfl,kvs,g,k,q⟩
 ·rw[Dn]at e;obtain⟨i,kvs,rfl,_,g,k,q⟩:=e;exact⟨i,kvs,rfl,g,k,q⟩
 ·exact⟨i,kvs,rfl,g,k,q⟩
theorem DB.lst(e:DB A h (.rl ds) v):∃vs,ay h v=some vs/\ao A h ds vs:=by
 rcases e with e|⟨i,rfl,vs,g,q⟩
 ·rw[Dn]at e
  rcases e with ⟨vs,rfl,_,q⟩|⟨i,vs,rfl,_,g,q⟩
  ·exact⟨vs,rfl,q⟩
  ·exact⟨vs,by simp[ay,g],q⟩
 ·exact⟨vs,by simp[ay,g],q⟩
theorem DB.seq(e:DB A h d v)(q:cB [] d=some ds):∃vs,cB h v=some vs/\ao A h ds vs:=by
 cases d with
 |tup es=>
  simp only[cB]at q;cases q
  rcases e with e|⟨_,_,e1⟩
  ·rw[Dn]at e;obtain⟨vs,rfl,q⟩:=e;exact⟨vs,rfl,q⟩
  ·exact False.elim e1
 |rl es=>simp only[cB,ay]at q;cases q;obtain⟨vs,q1,q2⟩:=e.lst;refine⟨vs,?_,q2⟩;cases v<;>first|(simp[ay]at q1;done)|exact q1
 |ref i=>simp[cB,ay]at q
 |_=>simp[cB,ay]at q
theorem DB.int{i:Int}(e:DB A h (.int i) v):v=.int i:=by
 rcases e with e|⟨_,_,e1⟩
 ·rw[Dn]at e;exact e
 ·exact False.elim e1
theorem DB.str(e:DB A h (.str i) v):v=.str i:=by
 rcases e with e|⟨_,_,e1⟩
 ·rw[Dn]at e;exact e
 ·exact False.elim e1
theorem DB.bl{i:Bool}(e:DB A h (.bl i) v):v=.bl i:=by
 rcases e with e|⟨_,_,e1⟩
 ·rw[Dn]at e;exact e
 ·exact False.elim e1
theorem DB.tup(e:DB A h (.tup ds) v):∃vs,v=.tup vs/\ao A h ds vs:=by
 rcases e with e|⟨_,_,e1⟩
 ·rw[Dn]at e;exact e
 ·exact False.elim e1
theorem rU:∀(n:Nat) (d v:Val) (p:PyData),Dn (λ_=>True) h d v->toD n [] d=some p->toD n h v=some p:=by
 intro n
 induction n with
 |zero=>intro d v p _ e;simp[toD]at e
 |succ n ih=>
  have all:∀(ds vs:List Val) (ps:List PyData),ao (λ_=>True) h ds vs->bK (toD n []) ds=some ps->bK (toD n h) vs=some ps:=by
   intro ds
   induction ds with
   |nil=>intro vs ps q e;rw[ao]at q;subst q;exact e
   |cons d ds TZ=>intro vs ps q e;rw[ao]at q;obtain⟨v,r,rfl,q1,q2⟩:=q;simp only[bK]at e |-;obtain⟨x,e1,e⟩:=Vk.mp e;obtain⟨xs,e2,e⟩:=Vk.mp e;rw[ih d v x q1 e1,TZ r xs q2 e2];exact e
  intro d v p q e;cases d with
  |non=>rw[Dn]at q;subst q;exact e
  |bl b=>rw[Dn]at q;subst q;exact e
  |int b=>rw[Dn]at q;subst q;exact e
  |str b=>rw[Dn]at q;subst q;exact e
  |tup ds=>rw[Dn]at q;obtain⟨vs,rfl,q⟩:=q;simp only[toD]at e |-;obtain⟨ps,e1,e⟩:=Vk.mp e;rw[all ds vs ps q e1];exact e
  |rl ds=>
   rw[Dn]at q;simp only[toD]at e;obtain⟨ps,e1,e⟩:=Vk.mp e
   rcases q with ⟨vs,rfl,_,q⟩|⟨i,vs,rfl,_,g,q⟩
   ·simp only[toD];rw[all ds vs ps q e1];exact e
   ·simp only[toD,ay,g,bind_some];rw[all ds vs ps q e1];exact e
  |dc ks ds=>simp[toD]at e
  |ob c xs ds=>simp[toD]at e
  |ref i=>rw[Dn]at q;exact q.elim
theorem Gy{b:Bool}(a:DB A h d v)(c:DB A h e w)(q:xr [] d e=some b):xr h v w=some b:=by
 unfold xr at q |-;obtain⟨x,e1,q⟩:=Vk.mp q;obtain⟨y,e2,q⟩:=Vk.mp q;rw[rU 16 d v x a.all e1,rU 16 e w y c.all e2];exact q
theorem BQ(a:DB A h d v):nK v=nK d:=by
 rcases a with a|⟨i,rfl,q⟩
 ·cases d<;>rw[Dn]at a
  ·subst a;rfl
  ·subst a;rfl
  ·subst a;rfl
  ·subst a;rfl
  ·obtain⟨vs,rfl,_⟩:=a;rfl
  ·rcases a with ⟨vs,rfl,_⟩|⟨i,vs,rfl,_⟩<;>rfl
  ·obtain⟨i,kvs,rfl,_⟩:=a;rfl
  ·obtain⟨i,kvs,rfl,_⟩:=a;rfl
  ·exact a.elim
 ·cases d<;>first|exact False.elim q|rfl
theorem BR{b:Bool}(q:memD h v (.str y)=some b):False:=by
 unfold memD at q;obtain⟨x,e1,q⟩:=Vk.mp q;obtain⟨z,e2,q⟩:=Vk.mp q;simp only[toD]at e1;split at e1<;>cases e1;simp[Io]at q
theorem BS{b:Bool}(a:DB A h d v)(c:DB A h e w)(q:rM [] d e=some b):rM h v w=some b:=by
 have data:memD [] d e=some b->memD h v w=some b:=λq=>by
  unfold memD at q |-;obtain⟨x,e1,q⟩:=Vk.mp q;obtain⟨y,e2,q⟩:=Vk.mp q;rw[rU 16 e w x c.all e1,rU 16 d v y a.all e2];exact q
 cases e with
 |str y=>
  have:=c.str;subst this;cases d with
  |str x=>have:=a.str;subst this;exact q
  |_=>exact(BR (data q)).elim
 |tup es=>obtain⟨ws,rfl,_⟩:=c.tup;have q':=data (by cases d<;>exact q);cases v<;>exact q'
 |rl es=>
  have q':=data (by cases d<;>exact q)
  rcases c with c|⟨i,rfl,vs,g,q2⟩
  ·rw[Dn]at c
   rcases c with ⟨ws,rfl,_⟩|⟨i,ws,rfl,_,g,_⟩
   ·cases v<;>exact q'
   ·cases v<;>(show (h[i]?).bind _=_;rw[g];exact q')
  ·cases v<;>(show (h[i]?).bind _=_;rw[g];exact q')
 |dc ks es=>
  obtain⟨i,kvs,rfl,g,hk,_⟩:=c.dc
  ·skip
   have q':(keyOf d).bind (λk=>some (ks.any λj=>decide (j=k)))=some b:=by cases d<;>exact q
   obtain⟨kk,e1,q'⟩:=Vk.mp q';have ev:keyOf v=some kk:=by
    cases d<;>simp only[keyOf]at e1<;>first|(cases e1;done)|skip
    ·have:=a.int;subst this;exact e1
    ·have:=a.str;subst this;exact e1
   have:(dG kvs kk).isSome=(ks.any λj=>decide (j=kk)):=by
    subst hk;unfold dG;rw[Xj,any_map];have key:∀l:List (Key×Val),(List.find? (λkv=>decide (kv.fst=kk)) l).isSome=l.any ((λj=>decide (j=kk))∘λx=>x.fst):=by
     intro l
     induction l with
     |nil=>rfl
     |cons x l ih=>
      rw[find?_cons,W9]
      by_cases hx:x.1=kk
      ·simp[hx]
      ·simp[hx];simpa using ih
    exact key kvs
   have fin:Ec h v i (.dct kvs)=some b:=by simp only[Ec,ev,bind_some,this];exact q'
   cases v<;>(show (h[i]?).bind _=_;rw[g];exact fin)
 |ref i=>
  rcases c with c|⟨_,_,e1⟩
  ·rw[Dn]at c;exact c.elim
  ·exact False.elim e1
 |ob cc xs es=>
  have q':memD [] d (.ob cc xs es)=some b:=by cases d<;>exact q
  unfold memD at q';obtain⟨x,e1,q'⟩:=Vk.mp q';simp[toD]at e1
 |non=>
  have q':=data (by cases d<;>exact q);have:w=.non:=by
   rcases c with c|⟨_,_,e1⟩
   ·rw[Dn]at c;exact c
   ·exact False.elim e1
  subst this;cases v<;>exact q'
 |bl x=>
  have q':=data (by cases d<;>exact q);have:w=.bl x:=by
   rcases c with c|⟨_,_,e1⟩
   ·rw[Dn]at c;exact c
   ·exact False.elim e1
  subst this;cases v<;>exact q'
 |int x=>
  have q':=data (by cases d<;>exact q);have:w=.int x:=by
   rcases c with c|⟨_,_,e1⟩
   ·rw[Dn]at c;exact c
   ·exact False.elim e1
  subst this;cases v<;>exact q'
theorem BU{b:Bool}(a:DB A h d v)(c:DB A h e w)(q:Gi d e=some b):Gi v w=some b:=by
 cases e<;>first|(cases q;done)|skip
 ·have:w=.non:=by
   rcases c with c|⟨_,_,e1⟩
   ·rw[Dn]at c;exact c
   ·exact False.elim e1
  subst this;show some (nK v)=_;rw[BQ a];exact q
 ·have:=c.bl;subst this
  cases d<;>first|(cases q;done)|skip
  have:=a.bl;subst this;exact q
theorem v5{b:Bool}(a:DB A h d v)(c:DB A h e w)(q:cop [] o d e=some b):cop h o v w=some b:=by
 cases o with
 |eq=>exact Gy a c q
 |ne=>obtain⟨x,e1,e2⟩:=VS.mp (show (xr [] d e).map _=some b from q);show (xr h v w).map _=_;rw[Gy a c e1];exact Wc some e2
 |isn=>exact BU a c q
 |ntn=>obtain⟨x,e1,e2⟩:=VS.mp (show (Gi d e).map _=some b from q);show (Gi v w).map _=_;rw[BU a c e1];exact Wc some e2
 |Eb=>exact BS a c q
 |nin=>obtain⟨x,e1,e2⟩:=VS.mp (show (rM [] d e).map _=some b from q);show (rM h v w).map _=_;rw[BS a c e1];exact Wc some e2
 |lt=>obtain⟨i,j,rfl,rfl⟩:=jc (.inl rfl) q;have:=a.int;subst this;have:=c.int;subst this;exact q
 |le=>obtain⟨i,j,rfl,rfl⟩:=jc (.inr (.inl rfl)) q;have:=a.int;subst this;have:=c.int;subst this;exact q
 |gt=>obtain⟨i,j,rfl,rfl⟩:=jc (.inr (.inr (.inl rfl))) q;have:=a.int;subst this;have:=c.int;subst this;exact q
 |ge=>obtain⟨i,j,rfl,rfl⟩:=jc (.inr (.inr (.inr rfl))) q;have:=a.int;subst this;have:=c.int;subst this;exact q
theorem rV{b:Bool}(a:DB A h d v)(q:cP [] d=some b):cP h v=some b:=by
 cases d with
 |rl ds=>
  obtain⟨vs,q1,q2⟩:=a.lst;have l:=q2.length;have e:(!ds.isEmpty) = !vs.isEmpty:=by cases ds<;>cases vs<;>simp_all
  simp only[cP]at q;rw[e]at q;cases v<;>simp only[ay]at q1<;>first|(cases q1;done)|skip
  ·cases q1;exact q
  ·split at q1<;>cases q1;rename_i g;simp only[cP,g];exact q
 |tup ds=>
  obtain⟨vs,rfl,q2⟩:=a.tup;have l:=q2.length;have e:(!ds.isEmpty) = !vs.isEmpty:=by cases ds<;>cases vs<;>simp_all
  simp only[cP]at q |-;rw[<-e];exact q
 |dc ks ds=>obtain⟨i,kvs,rfl,g,hk,_⟩:=a.dc;subst hk;simp only[cP,g]at q |-;rw[<-q];cases kvs<;>rfl
 |ob c xs ds=>cases q
 |ref i=>
  rcases a with a|⟨_,_,e1⟩
  ·rw[Dn]at a;exact a.elim
  ·exact False.elim e1
 |non=>
  rcases a with a|⟨_,_,e1⟩
  ·rw[Dn]at a;subst a;exact q
  ·exact False.elim e1
 |bl b=>have:=a.bl;subst this;exact q
 |int b=>have:=a.int;subst this;exact q
 |str b=>have:=a.str;subst this;exact q
theorem JW{n:Nat}(a:DB A h d v)(q:jO [] d=some n):jO h v=some n:=by
 cases d with
 |rl ds=>
  obtain⟨vs,q1,q2⟩:=a.lst;have l:=q2.length;simp only[jO]at q;rw[l]at q;cases v<;>simp only[ay]at q1<;>first|(cases q1;done)|skip
  ·cases q1;exact q
  ·split at q1<;>cases q1;rename_i g;simp only[jO,g];exact q
 |tup ds=>obtain⟨vs,rfl,q2⟩:=a.tup;simp only[jO]at q |-;rw[<-q2.length];exact q
 |dc ks ds=>obtain⟨i,kvs,rfl,g,hk,_⟩:=a.dc;subst hk;simp only[jO,g]at q |-;rw[<-q];simp
 |str b=>have:=a.str;subst this;exact q
 |_=>simp[jO]at q
theorem Na{t:String}(a:DB A h d v)(q:tY [] d=some t):tY h v=some t:=by
 cases d with
 |rl ds=>
  obtain⟨vs,q1,q2⟩:=a.lst;cases v<;>simp only[ay]at q1<;>first|(cases q1;done)|skip
  ·exact q
  ·split at q1<;>cases q1;rename_i g;simp only[tY,g];exact q
 |tup ds=>obtain⟨vs,rfl,q2⟩:=a.tup;exact q
 |dc ks ds=>obtain⟨i,kvs,rfl,g,hk,_⟩:=a.dc;simp only[tY,g]at q |-;exact q
 |ob c xs ds=>cases q
 |ref i=>
  rcases a with a|⟨_,_,e1⟩
  ·rw[Dn]at a;exact a.elim
  ·exact False.elim e1
 |non=>
  rcases a with a|⟨_,_,e1⟩
  ·rw[Dn]at a;subst a;exact q
  ·exact False.elim e1
 |bl b=>have:=a.bl;subst this;exact q
 |int b=>have:=a.int;subst this;exact q
 |str b=>have:=a.str;subst this;exact q
theorem rW:∀{kvs:List (Key×Val)} {ks:List Key} {ds:List Val} {z:Val},kvs.map (·.1)=ks->ao A h ds (kvs.map (·.2))->dG (ks.zip ds) k=some z->∃v,dG kvs k=some v/\Dn A h z v
 |[],ks,ds,z,hk,q,e=>by subst hk;simp[dG]at e
 | (k',v')::kvs,ks,ds,z,hk,q,e=>by
  subst hk;have l:=q.length;cases ds with
  |nil=>simp at l
  |cons d ds=>
   simp only[map_cons]at q;rw[ao]at q;obtain⟨v,r,e1,q1,q2⟩:=q;cases e1
   by_cases hkk:k'=k
   ·subst hkk;simp[dG]at e |-;subst e;exact q1
   ·have e':dG ((kvs.map (·.1)).zip ds) k=some z:=by simpa [dG,hkk] using e
    obtain⟨w,a1,a2⟩:=rW rfl q2 e';exact⟨w,by simpa [dG,hkk] using a1,a2⟩
theorem DB.BV{j:Nat}(c:DB A h (.ref j) v):False:=by
 rcases c with c|⟨_,_,e1⟩
 ·rw[Dn]at c;exact c
 ·exact e1
theorem JX(a:DB A h d v)(c:Dn A h e w)(q:gF [] d e=some z):∃u,gF h v w=some u/\Dn A h z u:=by
 cases e with
 |int i=>
  rw[Dn]at c;subst c;cases d with
  |str x=>
   have:=a.str;subst this;refine⟨z,q,?_⟩;change (if x.length<=sizeLine then (gC x.cps.toList i).map (λc=>Val.str ⟨[c].toArray⟩) else none)=some z at q;split at q
   ·obtain⟨c,_,rfl⟩:=VS.mp q;rw[Dn]
   ·cases q
  |tup ds=>obtain⟨vs,rfl,q2⟩:=a.tup;exact q2.gC q
  |rl ds=>
   obtain⟨vs,q1,q2⟩:=a.lst;obtain⟨u,q3,q4⟩:=q2.gC q;refine⟨u,?_,q4⟩;cases v<;>simp only[ay]at q1<;>first|(cases q1;done)|skip
   ·cases q1;exact q3
   ·split at q1<;>cases q1;rename_i g;unfold gF;simp only[ay,g,bind_some];exact q3
  |dc ks ds=>obtain⟨i',kvs,rfl,g,hk,q2⟩:=a.dc;obtain⟨u,q3,q4⟩:=rW hk q2 q;refine⟨u,?_,q4⟩;show (match h[i']? with|some (.dct kvs)=>dG kvs (.inl i)|_=>(ay h (.ref i')).bind λxs=>gC xs i)=_;rw[g];exact q3
  |ref j=>exact(DB.BV a).elim
  |_=>cases q
 |str x=>
  rw[Dn]at c;subst c;cases d with
  |dc ks ds=>obtain⟨i',kvs,rfl,g,hk,q2⟩:=a.dc;obtain⟨u,q3,q4⟩:=rW hk q2 q;refine⟨u,?_,q4⟩;show (match h[i']? with|some (.dct kvs)=>dG kvs (.inr x)|_=>none)=_;rw[g];exact q3
  |ref j=>exact(DB.BV a).elim
  |_=>cases q
 |_=>cases d<;>first|(cases q;done)|exact(DB.BV a).elim
end
def Up(A:AP)(h:Hs):Prop:=∀k,h.length<=k->A (some k)
def Rel(A:AP)(h:Hs){α β:Type}(R:α -> Hs -> β -> Prop)(o:Out β):Pr α -> Prop
 |.ok a=>∃b h',o=.ok b h'/\h<+:h'/\R a h' b
 |.exc c es=>∃ws h',o=.exc c ws h'/\h<+:h'/\ao A h' es ws
 |.no=>True
def RV(A:AP)(h:Hs):FV->Hs->Val->Prop:=λx h' v=>Dn A h' x.2 v/\(x.1=true->Dn (Fr h.length) h' x.2 v)
def T4(A:AP)(h:Hs):Bool×List Val->Hs->List Val->Prop:=λx h' v=>ao A h' x.2 v/\(x.1=true->ao (Fr h.length) h' x.2 v)
def QK(A:AP):FV->Hs->Val->Prop:=λx h' v=>DB A h' x.2 v
def Dj(A:AP)(h:Hs):List Val->List Val->Prop
 |[],vs=>vs=[]
 |d::ds,vs=>∃v r,vs=v::r/\DB A h d v/\Dj A h ds r
def ER(A:AP)(aa:aL)(env:Env)(h:Hs):Prop:=∀(i:Nat) (f:Mk) (d:Val),aa[i]?=some (some (f,d)) ->
 if pG f=false then ∃a,env[i]?=some (some (.ref a))/\OD A h d a else ∃v,env[i]?=some (some v)/\Dn A h d v
section
variable {A:AP} {h h1:Hs} {α β γ δ:Type}
theorem Up.ext(u:Up A h)(p:h<+:h1):Up A h1:=λk hk=>u k (VX p.length_le hk)
theorem ER.ext(e:ER A aa env h)(p:h<+:h1):ER A aa env h1:=λi f d q=>by
 have:=e i f d q;revert this;generalize pG f=t;intro this;cases t with
 |false=>rw[Vv rfl]at this |-;obtain⟨a,k2,k3⟩:=this;exact⟨a,k2,k3.ext p⟩
 |true=>rw[Vw (by decide)]at this |-;obtain⟨v,k1,k2⟩:=this;exact⟨v,k1,k2.ext p⟩
theorem af(r:Rel A h R (m h) p)(k:∀a h1 b,h<+:h1->R a h1 b->Rel A h1 R' (f b h1) (F a)):Rel A h R' (bnd m f h) (pb p F):=by
 unfold bnd;cases p with
 |ok a=>
  obtain⟨b,h1,e,q,r⟩:=r;rw[e];show Rel A h R' (f b h1) (F a);have:=k a h1 b q r;cases e2:F a with
  |ok c=>rw[e2]at this;obtain⟨d,h2,e3,q2,r2⟩:=this;exact⟨d,h2,e3,q.trans q2,r2⟩
  |exc c es=>rw[e2]at this;obtain⟨d,h2,e3,q2,r2⟩:=this;exact⟨d,h2,e3,q.trans q2,r2⟩
  |no=>trivial
 |exc c es=>obtain⟨ws,h1,e,q,r⟩:=r;rw[e];exact⟨ws,h1,rfl,q,r⟩
 |no=>trivial
theorem aq(r:R a h b):Rel A h R (ret b h) (.ok a):=⟨b,h,rfl,VG _,r⟩
theorem bu(r:∀a,o=some a->∃b,o'=some b/\R a h b):Rel A h R (aN o' h) (pl o):=by
 cases o with
 |none=>trivial
 |some a=>obtain⟨b,rfl,q⟩:=r a rfl;exact⟨b,h,rfl,VG _,q⟩
theorem cj(r:∀a,o=some a->∃b,f h=some b/\R a h b):Rel A h R (ask f h) (pl o):=bu r
theorem aY{c c':Bool}(e:c=true->c'=true)(r:c=true->Rel A h R (m h) p):Rel A h R (aB c' m h) (pg c p):=by
 unfold aB pg;cases c with
 |true=>rw[Vv (e rfl),Vv rfl];exact r rfl
 |false=>rw[Vw Vl];trivial
theorem uw(r:Rel A h R o p)(k:∀a h' b,h<+:h'->R a h' b->R' a h' b):Rel A h R' o p:=by
 cases p with
 |ok a=>obtain⟨b,h',e,q,r⟩:=r;exact⟨b,h',e,q,k a h' b q r⟩
 |exc c es=>exact r
 |no=>trivial
theorem gJ(o:Ob):h<+:h++[o]:=Wa _ _
theorem kO(o:Ob):(h++[o])[h.length]?=some o:=by simp
theorem gi{f:Bool}{h0:Hs}(u:Up A h)(p:h0<+:h)(q:ao A h xs vs)(g:f=true->ao (Fr h0.length) h xs vs):Rel A h (RV A h0) (new (.lst vs) h) (.ok (f,.rl xs)):=by
 refine⟨_,_,rfl,gJ _,?_,λhf=>?_⟩
 ·show Dn A _ (.rl xs) _;rw[Dn];exact .inr ⟨_,vs,rfl,u _ (Vu _),kO _,q.ext (gJ _)⟩
 ·show Dn _ _ (.rl xs) _;rw[Dn];exact .inr ⟨_,vs,rfl,p.length_le,kO _,(g hf).ext (gJ _)⟩
theorem rX{h0:Hs}(q:Dn A h d v):RV A h0 (lD d,d) h v:=⟨q,λhi=>(iH d v hi).mpr ((iH d v hi).mp q)⟩
theorem eV(q:ao A h ds vs)(hi:bz ds=true):ao A' h' ds vs:=(aS ds vs hi).mpr ((aS ds vs hi).mp q)
theorem gu{i:Int}{h0:Hs}{f:Bool}:RV A h0 (f,.int i) h (.int i):=⟨by rw[Dn],λ_=>by rw[Dn]⟩
theorem je{i:Bool}{h0:Hs}{f:Bool}:RV A h0 (f,.bl i) h (.bl i):=⟨by rw[Dn],λ_=>by rw[Dn]⟩
theorem v7{h0:Hs}{f:Bool}:RV A h0 (f,.str i) h (.str i):=⟨by rw[Dn],λ_=>by rw[Dn]⟩
theorem RV.br{h0:Hs}(r:RV A h0 x h v):QK A x h v:=.inl r.1
theorem EO(ho:o≠.add)(v w:Val):(∃i j,v=.int i/\w=.int j)\/jd o v w=.no:=by
 cases v with
 |int i=>
  cases w with
  |int j=>exact .inl ⟨i,j,rfl,rfl⟩
  |_=>right;cases o<;>first|rfl|exact absurd rfl ho
 |_=>right;cases o<;>first|rfl|exact absurd rfl ho
theorem ES{h0:Hs}(u:Up A h)(p:h0<+:h)(a:DB A h d v)(c:DB A h e w):Rel A h (RV A h0) (Lp o v w h) (jd o d e):=by
 have ii:o≠.add->(∃i j,d=.int i/\e=.int j)\/jd o d e=.no:=λho=>EO ho d e;cases o with
 |add=>
  cases d<;>cases e<;>first|trivial|skip
  ·have:=a.int;subst this;have:=c.int;subst this;exact aq gu
  ·have:=a.str;subst this;have:=c.str;subst this;exact aY (λz=>z) λ_=>aq v7
  ·rename_i xs ys
   obtain⟨vs,rfl,q1⟩:=a.tup;obtain⟨ws,rfl,q2⟩:=c.tup;have l1:=q1.length;have l2:=q2.length;refine aY (λz=>?_) λ_=>aq ⟨?_,λhi=>?_⟩
   ·rw[l1,l2]at z
    have:xs.isEmpty=vs.isEmpty:=by cases xs<;>cases vs<;>simp_all
    rw[<-this];exact z
   ·show Dn A h (.tup _) _;rw[Dn];exact⟨_,rfl,q1.append q2⟩
   ·show Dn _ h (.tup _) _;rw[Dn];exact⟨_,rfl,eV (q1.append q2) hi⟩
  ·rename_i xs ys
   obtain⟨vs,e1,q1⟩:=a.lst;obtain⟨ws,e2,q2⟩:=c.lst;have eb:Lp .add v w=bnd (ask λh=>ay h v) λa=>bnd (ask λh=>ay h w) λb=>aB (decide (a.length+b.length<=sizeLine)) (new (.lst (a++b))):=by
    cases v<;>simp only[ay]at e1<;>first|(cases e1;done)|skip
    all_goals cases w<;>simp only[ay]at e2<;>first|(cases e2;done)|rfl
   have ev:Lp .add v w h=aB (decide (vs.length+ws.length<=sizeLine)) (new (.lst (vs++ws))) h:=by rw[eb];unfold bnd ask aN;dsimp only;rw[e1];dsimp only;rw[e2]
   rw[ev];refine aY (λz=>?_) λ_=>gi u p (q1.append q2) λhi=>eV (q1.append q2) hi;rw[<-q1.length,<-q2.length];exact z
 |_=>
  rcases ii (by intro z;cases z) with ⟨i,j,rfl,rfl⟩|z
  case inr=>rw[z];trivial
  have:=a.int;subst this;have:=c.int;subst this
  first
   |exact aq gu
   |exact aY (λz=>z) λ_=>aq gu
theorem ET{lo hi:Option Int}{h0:Hs}(u:Up A h)(p:h0<+:h)(a:DB A h d v):Rel A h (RV A h0) (pD v lo hi h) (zw d lo hi):=by
 cases d with
 |tup ds=>
  obtain⟨vs,rfl,q⟩:=a.tup;have l:=q.length;simp only[zw,pD];refine aY (λz=>?_) λ_=>aq ⟨?_,λhi=>?_⟩
  ·rw[l]at z;exact z
  ·show Dn A h (.tup _) _;rw[Dn];exact⟨_,rfl,q.cut lo hi⟩
  ·show Dn _ h (.tup _) _;rw[Dn];exact⟨_,rfl,eV (q.cut _ _) hi⟩
 |rl ds=>
  obtain⟨vs,e1,q⟩:=a.lst;have ev:pD v lo hi h=new (.lst (bO vs lo hi)) h:=by
   have:pD v lo hi=bnd (ask λh=>ay h v) λxs=>new (.lst (bO xs lo hi)):=by cases v<;>simp only[ay]at e1<;>first|(cases e1;done)|rfl
   rw[this];unfold bnd ask aN;dsimp only;rw[e1]
  rw[ev];exact gi u p (q.cut lo hi) λhh=>eV (q.cut lo hi) hh
 |_=>trivial
theorem Dj.one(e:Dj A h [d] vs):∃v,vs=[v]/\DB A h d v:=by
 obtain⟨v,r,rfl,a,b⟩:=e;cases (show r=[] from b);exact⟨v,rfl,a⟩
theorem EU{ns:List Int}(q:ao A h ds vs)(e:aQ ds=some ns):vs=ds:=by
 have:bz ds=true:=by
  clear q
  induction ds generalizing ns with
  |nil=>rfl
  |cons d ds ih=>
   simp only[aQ,bK]at e;obtain⟨i,e1,e⟩:=Vk.mp e;obtain⟨is,e2,e⟩:=Vk.mp e;cases d<;>first|(cases e1;done)|skip
   rw[bz,lD,WD];exact ih e2
 exact(aS ds vs this).mp q
theorem EW(q:ao A h ds vs)(e:strs? ds=some ns):vs=ds:=by
 have:bz ds=true:=by
  clear q
  induction ds generalizing ns with
  |nil=>rfl
  |cons d ds ih=>
   simp only[strs?,bK]at e;obtain⟨i,e1,e⟩:=Vk.mp e;obtain⟨is,e2,e⟩:=Vk.mp e;cases d<;>first|(cases e1;done)|skip
   rw[bz,lD,WD];exact ih e2
 exact(aS ds vs this).mp q
theorem ux(q:ao A h ds vs)(e:cA ds=some ns):vs=ds:=by
 have:bz ds=true:=by
  clear q
  induction ds generalizing ns with
  |nil=>rfl
  |cons d ds ih=>
   simp only[cA,bK]at e;obtain⟨i,e1,e⟩:=Vk.mp e;obtain⟨is,e2,e⟩:=Vk.mp e;cases d<;>first|(cases e1;done)|skip
   rw[bz,lD,WD];exact ih e2
 exact(aS ds vs this).mp q
theorem nZ:∀{ds:List Val} {ns:List Int},aQ ds=some ns->bz ds=true
 |[],_,_=>rfl
 | d::ds,ns,e=>by
  simp only[aQ,bK]at e;obtain⟨i,e1,e⟩:=Vk.mp e;obtain⟨is,e2,e⟩:=Vk.mp e;cases d<;>first|(cases e1;done)|skip
  rw[bz,lD,WD];exact nZ (show aQ ds=some is from e2)
theorem uy:∀{ds:List Val} {ns:List (List Int)},jY ds=some ns->bz ds=true
 |[],_,_=>rfl
 | d::ds,ns,e=>by
  simp only[jY,bK]at e;obtain⟨i,e1,e⟩:=Vk.mp e;obtain⟨is,e2,e⟩:=Vk.mp e;cases d<;>first|(cases e1;done)|skip
  rename_i vs;dsimp only at e1;split at e1
  ·cases e1
  ·rw[bz,lD,nZ e1,WD];exact uy (show jY ds=some is from e2)
theorem bH:∀ns:List Int,bz (ns.map .int)=true
 |[]=>rfl
 |n::ns=>by rw[VC,bz,lD,WD];exact bH ns
theorem kP:∀m5:List (List Int),bz (m5.map gn)=true
 |[]=>rfl
 |n::ns=>by rw[VC,bz,gn,lD,bH,WD];exact kP ns
theorem qz(e:fR xs=some ys):bz xs=true/\bz ys=true:=by
 unfold fR at e;split at e
 ·cases e2:aQ xs with
  |some ns=>rw[e2]at e;cases e;exact⟨nZ e2,bH _⟩
  |none=>rw[e2]at e;obtain⟨m5,e3,e4⟩:=Vk.mp e;cases e4;exact⟨uy e3,kP _⟩
 ·cases e
theorem EY{h0:Hs}(u:Up A h)(p:h0<+:h)(a:Dj A h ds vs):Rel A h (RV A h0) (blt b vs h) (dB b ds):=by
 have mm:∀(f:List Int->Option Val) (d:Val),(∀ns m,f ns=some m->∃i,m=.int i)->∀v,DB A h d v->Rel A h (RV A h0) (bnd (ask λh=>cB h v) (λxs=>aN ((aQ xs).bind f)) h) (pb (pl (cB [] d)) λxs=>pb (pl ((aQ xs).bind f)) λm=>.ok (true,m)):=by
  intro f d hf v hv;refine af (R:=λxs h' ws=>ao A h' xs ws) (cj λxs e=>hv.seq e) λxs h1 ws q1 q=>?_;have:aN ((aQ ws).bind f) h1=bnd (aN ((aQ ws).bind f)) (λm=>ret m) h1:=by unfold bnd aN;cases (aQ ws).bind f<;>rfl
  rw[this];refine af (R:=λm _ m'=>m'=m/\∃i,m=.int i) (bu λm e=>?_) λm h2 m' _ hm=>?_
  ·obtain⟨ns,e1,e2⟩:=Vk.mp e;rw[EU q e1];exact⟨m,e,rfl,hf ns m e2⟩
  ·obtain⟨rfl,i,rfl⟩:=hm;exact aq gu
 have hmin:∀ns m,rK ns=some m->∃i,m=Val.int i:=λns m e=>by cases ns<;>simp[rK]at e;exact⟨_,e.symm⟩
 have QL:∀ns m,rL ns=some m->∃i,m=Val.int i:=λns m e=>by cases ns<;>simp[rL]at e;exact⟨_,e.symm⟩
 match ds,a with
 |[],a=>cases b<;>trivial
 |[d],a=>
  obtain⟨v,rfl,hv⟩:=a.one;cases b with
  |len=>exact af (R:=λn _ m=>m=n) (cj λn e=>⟨n,JW hv e,rfl⟩) λn h1 m _ e=>by subst e;exact aq gu
  |min=>
   have e1:dB .min [d]=pb (pl (cB [] d)) λxs=>pb (pl ((aQ xs).bind rK)) λm=>.ok (true,m):=by cases d<;>rfl
   have e2:blt .min [v]=bnd (ask λh=>cB h v) λxs=>aN ((aQ xs).bind rK):=by cases v<;>rfl
   rw[e1,e2];exact mm rK d hmin v hv
  |max=>
   have e1:dB .max [d]=pb (pl (cB [] d)) λxs=>pb (pl ((aQ xs).bind rL)) λm=>.ok (true,m):=by cases d<;>rfl
   have e2:blt .max [v]=bnd (ask λh=>cB h v) λxs=>aN ((aQ xs).bind rL):=by cases v<;>rfl
   rw[e1,e2];exact mm rL d QL v hv
  |sorted=>
   cases d<;>first|trivial|skip
   rename_i xs;obtain⟨ws,e1,q⟩:=hv.lst;have ev:bnd (ask λh=>ay h v) (λxs=>bnd (aN (fR xs)) λys=>new (.lst ys)) h=bnd (aN (fR ws)) (λys=>new (.lst ys)) h:=by unfold bnd ask aN;dsimp only;rw[e1]
   show Rel A h (RV A h0) (bnd (ask λh=>ay h v) (λxs=>bnd (aN (fR xs)) λys=>new (.lst ys)) h) _;rw[ev];refine af (R:=λys _ zs=>zs=ys/\bz ys=true) (bu λys e=>?_) λys h1 zs q1 hz=>?_
   ·obtain⟨i1,i2⟩:=qz e;rw[(aS xs ws i1).mp q];exact⟨ys,e,rfl,i2⟩
   ·obtain⟨rfl,hi⟩:=hz;exact gi (u.ext q1) (p.trans q1) ((aS _ _ hi).mpr rfl) λ_=>(aS _ _ hi).mpr rfl
  |list=>refine af (R:=λxs h' ws=>ao A h' xs ws) (cj λxs e=>hv.seq e) λxs h1 ws q1 q=>?_;exact gi (u.ext q1) (p.trans q1) q λhi=>eV q hi
  |tuple=>
   refine af (R:=λxs h' ws=>ao A h' xs ws) (cj λxs e=>hv.seq e) λxs h1 ws q1 q=>?_;refine aq ⟨?_,λhi=>?_⟩
   ·show Dn A h1 (.tup _) _;rw[Dn];exact⟨_,rfl,q⟩
   ·show Dn _ h1 (.tup _) _;rw[Dn];exact⟨_,rfl,eV q hi⟩
  |str=>
   cases d<;>first|trivial|skip
   have:=hv.int;subst this;exact aY (λz=>z) λ_=>aq v7
  |int=>
   cases d<;>first|trivial|skip
   ·have:=hv.bl;subst this;exact aq gu
   ·have:=hv.int;subst this;exact aq gu
   ·have:=hv.str;subst this;exact af (R:=λn _ m=>m=n) (bu λn e=>⟨n,e,rfl⟩) λn h1 m p1 e=>by subst e;exact aY (λz=>z) λ_=>aq gu
  |all=>
   cases d<;>first|trivial|skip
   rename_i xs;obtain⟨ws,e1,q⟩:=hv.lst;have ev:bnd (ask λh=>ay h v) (λxs=>bnd (aN (cA xs)) λbs=>ret (Val.bl (bs.all id))) h=bnd (aN (cA ws)) (λbs=>ret (Val.bl (bs.all id))) h:=by unfold bnd ask aN;dsimp only;rw[e1]
   show Rel A h (RV A h0) (bnd (ask λh=>ay h v) (λxs=>bnd (aN (cA xs)) λbs=>ret (Val.bl (bs.all id))) h) _;rw[ev];exact af (R:=λys _ zs=>zs=ys) (bu λys e=>⟨ys,by rw[ux q e];exact e,rfl⟩) λys h1 zs q1 hz=>by subst hz;exact aq je
  |any=>
   cases d<;>first|trivial|skip
   rename_i xs;obtain⟨ws,e1,q⟩:=hv.lst;have ev:bnd (ask λh=>ay h v) (λxs=>bnd (aN (cA xs)) λbs=>ret (Val.bl (bs.any id))) h=bnd (aN (cA ws)) (λbs=>ret (Val.bl (bs.any id))) h:=by unfold bnd ask aN;dsimp only;rw[e1]
   show Rel A h (RV A h0) (bnd (ask λh=>ay h v) (λxs=>bnd (aN (cA xs)) λbs=>ret (Val.bl (bs.any id))) h) _;rw[ev];exact af (R:=λys _ zs=>zs=ys) (bu λys e=>⟨ys,by rw[ux q e];exact e,rfl⟩) λys h1 zs q1 hz=>by subst hz;exact aq je
  |isin T=>refine af (R:=λn _ m=>m=n) (cj λn e=>⟨n,Na hv e,rfl⟩) λn h1 m _ e=>?_;subst e;exact af (R:=λn _ m=>m=n) (bu λn e=>⟨n,e,rfl⟩) λn h1 m _ e=>by subst e;exact aq je
 |[d,e],a=>
  obtain⟨v,r,rfl,hv,hr⟩:=a;obtain⟨w,rfl,hw⟩:=Dj.one hr;cases b<;>first|trivial|(cases d<;>trivial)|skip
  ·cases d<;>cases e<;>first|trivial|skip
   have:=hv.int;subst this;have:=hw.int;subst this;exact aq gu
  ·cases d<;>cases e<;>first|trivial|skip
   have:=hv.int;subst this;have:=hw.int;subst this;exact aq gu
 |x::y::z::t,a=>cases b<;>first|trivial|(cases x<;>trivial)|(cases x<;>cases y<;>trivial)
theorem BW{h0:Hs}(a:Dn A h d v)(b:Dj A h ds vs):Rel A h (RV A h0) (met .join v vs h) (BN d ds):=by
 cases d<;>first|trivial|skip
 rw[Dn]at a;subst a
 match ds,b with
 |[],_=>trivial
 |[d],b=>
  cases d<;>first|trivial|skip
  obtain⟨v,rfl,hv⟩:=b.one;obtain⟨ws,e1,q⟩:=hv.lst;rename_i z xs _;have ev:met .join (.str z) [v] h=bnd (aN (strs? ws)) (λys=>aB (decide ((ys.map (·.length)).sum+ys.length*z.length<=16777216)) (ret (.str (Txt.join z ys)))) h:=by show bnd (ask λh=>ay h v) (λxs=>bnd (aN (strs? xs)) λys=>aB (decide ((ys.map (·.length)).sum+ys.length*z.length<=16777216)) (ret (Val.str (Txt.join z ys)))) h=_;unfold bnd ask aN;dsimp only;rw[e1]
  rw[ev];exact af (R:=λys _ zs=>zs=ys) (bu λys e=>⟨ys,by rw[EW q e];exact e,rfl⟩) λys h1 zs q1 hz=>by subst hz;exact aY (λz=>z) λ_=>aq v7
 |x::y::_,_=>cases x<;>trivial
end
def Imp(φ:List Val->M Val)(ψ:List Val->Pr FV):Prop:=∀(A:AP) (h:Hs) (ds vs:List Val),Up A h->ao A h ds vs->Rel A h (RV A h) (φ vs h) (ψ ds)
section
variable {Φ:Nat->List Val->M Val} {Ψ:Nat->List Val->Pr FV} {A:AP} {h h1:Hs}
theorem b9{x y:Bool}(f:(x&&y)=true):x=true/\y=true:=Bool.and_eq_true_iff.mp f
theorem mT{x y z:Bool}(f:(x&&y&&z)=true):(x=true/\y=true)/\z=true:=⟨b9 (b9 f).1,(b9 f).2⟩
def bG(Φ:Nat->List Val->M Val)(Ψ:Nat->List Val->Pr FV)(ir:IE):Prop:=∀(aa:aL) (env:Env) (A:AP) (h:Hs),Up A h->ER A aa env h->Rel A h (RV A h) (aI Φ ir env h) (aV Ψ ir aa)
def jR(Φ:Nat->List Val->M Val)(Ψ:Nat->List Val->Pr FV)(dS:j7):Prop:=(∀(aa:aL) (env:Env) (A:AP) (h:Hs),Up A h->ER A aa env h->Rel A h (T4 A h) (bq Φ dS env h) (uv Ψ dS aa)) /\
 ∀(aa:aL) (env:Env) (A:AP) (h:Hs),Up A h->ER A aa env h->Rel A h (λds h' vs=>Dj A h' ds vs) (bq Φ dS env h) (fG Ψ dS aa)
theorem RV.up{h0 h':Hs}(p:h0<+:h)(r:RV A h x h' v):RV A h0 x h' v:=⟨r.1,λf=>(r.2 f).dR (Fr.le p.length_le)⟩
theorem JY{h0:Hs}(p:h0<+:h)(r:Rel A h (RV A h) o x):Rel A h (RV A h0) o x:=uw r λ_ _ _ _ q=>q.up p
theorem Nb{i:Nat}(e:ER A aa env h):Rel A h (QK A) (aI Φ (.var i) env h) (pl (jQ aa (.var i))):=by
 rw[aI];refine bu λx hx=>?_;simp only[jQ]at hx;split at hx
 ·rename_i f d hd
  cases hx;have:=e i f d hd;revert this;generalize pG f=t;intro this;cases t with
  |false=>rw[Vv rfl]at this;obtain⟨a,k2,k3⟩:=this;exact⟨.ref a,by rw[k2],.inr ⟨a,rfl,k3⟩⟩
  |true=>rw[Vw (by decide)]at this;obtain⟨v,k1,k2⟩:=this;exact⟨v,by rw[k1],.inl k2⟩
 ·cases hx
theorem pI(o:bG Φ Ψ ir)(u:Up A h)(e:ER A aa env h):Rel A h (QK A) (aI Φ ir env h) (if isVar ir=true then pl (jQ aa ir) else aV Ψ ir aa):=by
 by_cases hv:isVar ir=true
 ·rw[Vv hv];cases ir<;>first|(cases hv;done)|exact Nb e
 ·rw[Vw hv];exact uw (o aa env A h u e) λ_ _ _ _ q=>q.br
theorem EZ{α β:Type}{R:α -> Hs -> β -> Prop}{c:Bool}{o:Out β}{p:Pr α}(r:c=true->Rel A h R o p):Rel A h R o (pg c p):=by
 unfold pg;cases c with
 |true=>rw[Vv rfl];exact r rfl
 |false=>rw[Vw Vl];trivial
theorem v_var{i:Nat}:bG Φ Ψ (.var i):=λaa env A h u e=>by
 rw[aI,aV];cases hv:aa[i]? with
 |none=>trivial
 |some o=>
  cases o with
  |none=>trivial
  |some fd=>
   obtain⟨f,d⟩:=fd;refine EZ λhf=>?_
   ·have:=e i f d hv;rw[Vw (by simp[hf])]at this;obtain⟨v,k1,k2⟩:=this;rw[k1];exact⟨v,h,rfl,VG _,rX k2⟩
theorem E1{α:Type}{f:Hs->Option α}:ask f h=bnd (ask f) (λz=>ret z) h:=by unfold bnd ask aN;cases f h<;>rfl
theorem xW(f:lD d=true):Dn A h d d:=(iH d d f).mpr rfl
theorem Nc(f:lD d=true):bG Φ Ψ (.cst d):=λaa env A h u e=>by rw[aI,aV];exact aq (rX (xW f))
theorem Nd(f:lD d=true):bG Φ Ψ (.con x d):=λaa env A h u e=>by rw[aI,aV];exact aq (rX (xW f))
theorem QM:bG Φ Ψ .no:=λaa env A h u e=>by rw[aV];trivial
theorem Nf(ha:bG Φ Ψ a)(hb:bG Φ Ψ b):bG Φ Ψ (.bin o a b):=λaa env A h u e=>by
 rw[aI,aV];exact af (pI ha u e) λx h1 v p1 q1=>af (pI hb (u.ext p1) (e.ext p1)) λy h2 w p2 q2=>ES ((u.ext p1).ext p2) (p1.trans p2) (DB.ext p2 q1) q2
theorem Ng(ha:bG Φ Ψ a):bG Φ Ψ (.neg a):=λaa env A h u e=>by rw[aV];trivial
theorem Nh(ha:bG Φ Ψ a)(hb:bG Φ Ψ b):bG Φ Ψ (.cmp o a b):=λaa env A h u e=>by
 rw[aI,aV];exact af (pI ha u e) λx h1 v p1 q1=>af (pI hb (u.ext p1) (e.ext p1)) λy h2 w p2 q2=>
  af (R:=λt _ t'=>t'=t) (cj λt et=>⟨t,v5 (DB.ext p2 q1) q2 et,rfl⟩) λt h3 t' p3 et=>by subst et;exact aq je
theorem Ni(ha:bG Φ Ψ a)(hb:bG Φ Ψ b)(hc:bG Φ Ψ c):bG Φ Ψ (.chn o o' a b c):=λaa env A h u e=>by
 rw[aI,aV];refine af (ha aa env A h u e) λx h1 v p1 q1=>af (hb aa env A h1 (u.ext p1) (e.ext p1)) λy h2 w p2 q2=>
  af (R:=λt _ t'=>t'=t) (cj λt et=>⟨t,v5 (DB.ext p2 q1.br) q2.br et,rfl⟩) λt h3 t' p3 et=>?_
 subst et;cases t' with
 |true=>
  rw[Vv rfl,Vv rfl];exact af (hc aa env A h3 (((u.ext p1).ext p2).ext p3) (((e.ext p1).ext p2).ext p3)) λz h4 w' p4 q4=>
   af (R:=λt _ t'=>t'=t) (cj λt et=>⟨t,v5 (DB.ext (p3.trans p4) q2.br) q4.br et,rfl⟩) λt h3 t' p3 et=>by subst et;exact aq je
 |false=>rw[Vw Vl,Vw Vl];exact aq je
theorem jf(q:Dn A h d v):Rel A h (λt _ t'=>t'=t) (nL v h) (nY d):=by
 cases d<;>first|trivial|skip
 rw[Dn]at q;subst q;exact aq rfl
theorem v_and(ha:bG Φ Ψ a)(hb:bG Φ Ψ b):bG Φ Ψ (.and a b):=λaa env A h u e=>by
 rw[aI,aV];refine af (ha aa env A h u e) λx h1 v p1 q1=>af (jf q1.1) λt h2 t' p2 et=>?_;subst et;cases t' with
 |true=>rw[Vv rfl,Vv rfl];exact af (hb aa env A h2 ((u.ext p1).ext p2) ((e.ext p1).ext p2)) λy h3 w p3 q3=>af (jf q3.1) λt h2 t' p2 et=>by subst et;exact aq je
 |false=>rw[Vw Vl,Vw Vl];exact aq je
theorem v_or(ha:bG Φ Ψ a)(hb:bG Φ Ψ b):bG Φ Ψ (.or a b):=λaa env A h u e=>by
 rw[aI,aV];refine af (ha aa env A h u e) λx h1 v p1 q1=>af (jf q1.1) λt h2 t' p2 et=>?_;subst et;cases t' with
 |false=>rw[Vw Vl,Vw Vl];exact af (hb aa env A h2 ((u.ext p1).ext p2) ((e.ext p1).ext p2)) λy h3 w p3 q3=>af (jf q3.1) λt h2 t' p2 et=>by subst et;exact aq je
 |true=>rw[Vv rfl,Vv rfl];exact aq je
theorem v_not(ha:bG Φ Ψ a):bG Φ Ψ (.not a):=λaa env A h u e=>by
 rw[aI,aV];exact af (ha aa env A h u e) λx h1 v p1 q1=>af (jf q1.1) λt h2 t' p2 et=>by subst et;exact aq je
theorem v_ite(hc:bG Φ Ψ c)(ha:bG Φ Ψ a)(hb:bG Φ Ψ b):bG Φ Ψ (.ite c a b):=λaa env A h u e=>by rw[aV];trivial
theorem Gz:jR Φ Ψ .nil:=⟨λaa env A h u e=>by rw[bq,uv];exact aq ⟨ao.nil,λ_=>ao.nil⟩,λaa env A h u e=>by rw[bq,fG];exact aq rfl⟩
theorem BX(he:bG Φ Ψ e)(hs:jR Φ Ψ es):jR Φ Ψ (.cons e es):=by
 refine⟨λaa env A h u er=>?_,λaa env A h u er=>?_⟩
 ·rw[bq,uv]
  refine af (he aa env A h u er) λx h1 v p1 q1=>af (hs.1 aa env A h1 (u.ext p1) (er.ext p1)) λy h2 vs p2 q2=>?_;refine aq ⟨ao.cons (q1.1.ext p2) q2.1,λhf=>?_⟩;have hf':x.1=true/\y.1=true:=by simpa using hf
  exact ao.cons ((q1.2 hf'.1).ext p2) ((q2.2 hf'.2).dR (Fr.le p1.length_le))
 ·rw[bq,fG];refine af (pI he u er) λx h1 v p1 q1=>af (hs.2 aa env A h1 (u.ext p1) (er.ext p1)) λy h2 vs p2 q2=>?_;exact aq ⟨v,vs,rfl,DB.ext p2 q1,q2⟩
theorem Nj(hs:jR Φ Ψ es):bG Φ Ψ (.tup es):=λaa env A h u e=>by
 rw[aI,aV];refine af (hs.1 aa env A h u e) λx h1 vs p1 q1=>aY (λz=>by rw[<-q1.1.length];exact z) λ_=>aq ⟨?_,λhf=>?_⟩
 ·show Dn A h1 (.tup _) _;rw[Dn];exact⟨vs,rfl,q1.1⟩
 ·show Dn _ h1 (.tup _) _;rw[Dn];exact⟨vs,rfl,q1.2 hf⟩
theorem JZ:bG Φ Ψ .dct0:=λaa env A h u e=>by
 rw[aI,aV];refine⟨_,_,rfl,gJ _,?_,λhf=>?_⟩
 ·show Dn A _ (.dc [] []) _;rw[Dn];exact⟨_,[],rfl,u _ (Vu _),kO _,rfl,ao.nil⟩
 ·show Dn _ _ (.dc [] []) _;rw[Dn];exact⟨_,[],rfl,Vu _,kO _,rfl,ao.nil⟩
theorem J0(hk:bG Φ Ψ k)(hv:bG Φ Ψ v):bG Φ Ψ (.dct1 k v):=λaa env A h u e=>by rw[aV];trivial
theorem J1(hd:bG Φ Ψ d)(hk:bG Φ Ψ k)(hx:bG Φ Ψ x):bG Φ Ψ (.dget d k x):=λaa env A h u e=>by rw[aV];trivial
theorem E2(hd:bG Φ Ψ d):bG Φ Ψ (.lkeys d):=λaa env A h u e=>by rw[aV];trivial
theorem E4(hd:bG Φ Ψ d):bG Φ Ψ (.skeys d):=λaa env A h u e=>by rw[aV];trivial
theorem uz:∀{xs:List Val} {ns:List Int},aQ xs=some ns->xs=ns.map .int
 |[],ns,e=>by cases e;rfl
 | x::xs,ns,e=>by
  unfold aQ at e;rw[bK]at e;obtain⟨i,e1,e⟩:=Vk.mp e;obtain⟨r,e2,e⟩:=Vk.mp e;cases e;cases x<;>simp at e1;subst e1;rw[uz e2];rfl
theorem J2{p q:Nat}(hd:bG Φ Ψ d)(hw:bG Φ Ψ w):bG Φ Ψ (.dflt N' js p q d w):=λaa env A h u e=>by rw[aV];trivial
theorem Nk(ha:bG Φ Ψ a):bG Φ Ψ (.isc a x bs):=λaa env A h u e=>by rw[aV];trivial
theorem J3(ha:bG Φ Ψ a):bG Φ Ψ (.sset a):=λaa env A h u e=>by
 rw[aI,aV];refine af (pI ha u e) λx h1 v p1 q1=>?_;obtain⟨f,d⟩:=x;cases d<;>first|trivial|skip
 rename_i xs;obtain⟨vs,e1,e2⟩:=DB.lst q1;have ea:∀(F:List Val->M Val),bnd (ask λh=>ay h v) F h1=F vs h1:=λF=>by unfold bnd ask aN;dsimp only;rw[e1]
 rw[ea];show Rel A h1 _ _ (pb (pl (aQ xs)) _);refine af (R:=λns h' ns'=>ns'=ns) (bu λns en=>⟨ns,?_,rfl⟩) λns h2 ns' p2 en=>?_
 ·have ei:=uz en;subst ei;rw[(aS _ _ (bH ns)).mp e2];exact en
 ·subst en;refine aY (λz=>z) λ_=>?_;have hi:∀ms:List Int,ao A h2 (ms.map Val.int) (ms.map Val.int):=λms=>(aS _ _ (bH ms)).mpr rfl;exact gi ((u.ext p1).ext p2) (p1.trans p2) (hi _) λ_=>(aS _ _ (bH _)).mpr rfl
theorem Nl(hs:jR Φ Ψ es):bG Φ Ψ (.lst es):=λaa env A h u e=>by
 rw[aI,aV];exact af (hs.1 aa env A h u e) λx h1 vs p1 q1=>aY (λz=>by rw[<-q1.1.length];exact z) λ_=>gi (u.ext p1) p1 q1.1 q1.2
theorem Nm(ha:bG Φ Ψ a)(hb:bG Φ Ψ b):bG Φ Ψ (.idx a b):=λaa env A h u e=>by
 rw[aI,aV];refine af (pI ha u e) λx h1 v p1 q1=>af (hb aa env A h1 (u.ext p1) (e.ext p1)) λy h2 w p2 q2=>?_;rw[E1];exact af (R:=λz h' z'=>Dn A h' z z') (cj λz ez=>JX (DB.ext p2 q1) q2.1 ez) λz h3 z' p3 q3=>aq (rX q3)
theorem kQ(o:bG Φ Ψ ir)(u:Up A h)(e:ER A aa env h) :
  Rel A h (λ(t:Option Int) _ t'=>t'=t) ((if cQ ir=true then ret none else bnd (aI Φ ir env) λv=>bnd (aN (fS v)) λi=>ret (some i)) h) (if cQ ir=true then .ok none else pb (aV Ψ ir aa) λv=>pb (pl (fS v.2)) λi=>.ok (some i)):=by
 by_cases hn:cQ ir=true
 ·rw[Vv hn,Vv hn];exact aq rfl
 ·rw[Vw hn,Vw hn]
  refine af (o aa env A h u e) λx h1 v p1 q1=>af (R:=λt _ t'=>t'=t) (bu λi ei=>?_) λt h2 t' p2 et=>by subst et;exact aq rfl
  obtain⟨f,d⟩:=x;have q:=q1.1;cases d<;>first|(cases ei;done)|skip
  dsimp only at q;rw[Dn]at q;subst q;exact⟨i,ei,rfl⟩
theorem Nn(ha:bG Φ Ψ a)(hl:bG Φ Ψ lo)(hh:bG Φ Ψ hi):bG Φ Ψ (.slc a lo hi):=λaa env A h u e=>by
 rw[aI,aV];refine af (pI ha u e) λx h1 v p1 q1=>af (kQ hl (u.ext p1) (e.ext p1)) λl h2 l' p2 el=>af (kQ hh ((u.ext p1).ext p2) ((e.ext p1).ext p2)) λr h3 r' p3 er=>?_;subst el;subst er;exact ET (((u.ext p1).ext p2).ext p3) ((p1.trans p2).trans p3) (DB.ext (p2.trans p3) q1)
theorem Np(ha:bG Φ Ψ a)(hs:bG Φ Ψ sx):bG Φ Ψ (.rev a sx):=λaa env A h u e=>by rw[aV];trivial
theorem J4{j:Nat}(hΦ:∀j,Imp (Φ j) (Ψ j))(hs:jR Φ Ψ es):bG Φ Ψ (.call j es):=λaa env A h u e=>by
 rw[aI,aV];exact af (hs.1 aa env A h u e) λx h1 vs p1 q1=>JY p1 (hΦ j A h1 x.2 vs (u.ext p1) q1.1)
theorem Nq{n:Nat}(ha:bG Φ Ψ a):bG Φ Ψ (.fld n a x):=λaa env A h u e=>by rw[aV];trivial
theorem Nr(hΦ:∀j,Imp (Φ j) (Ψ j))(ha:bG Φ Ψ a)(hs:jR Φ Ψ es):bG Φ Ψ (.mth a m js es):=λaa env A h u e=>by rw[aV];trivial
theorem Nt(hs:jR Φ Ψ es):bG Φ Ψ (.blt b es):=λaa env A h u e=>by
 rw[aI,aV];exact af (hs.2 aa env A h u e) λx h1 vs p1 q1=>EY (u.ext p1) p1 q1
theorem jg:∀ys:List Str,bz (ys.map Val.str)=true
 |[]=>rfl
 |y::ys=>by rw[VC,bz,jg ys];rfl
theorem Nu(ha:bG Φ Ψ a)(hs:jR Φ Ψ es):bG Φ Ψ (.met m a es):=λaa env A h u e=>by
 cases m with
 |join=>
  rw[aI,aV];refine af (ha aa env A h u e) λx h1 v p1 q1=>af (R:=λ_ _ _=>True) (cj λt et=>?_) λ_ h2 _ p2 _=>?_
  ·obtain⟨f,d⟩:=x
   have q:=q1.1;cases d<;>first|(cases et;done)|skip
   dsimp only at q;rw[Dn]at q;subst q;exact⟨(),rfl,trivial⟩
  ·exact af (hs.2 aa env A h2 ((u.ext p1).ext p2) ((e.ext p1).ext p2)) λds h3 vs p3 q3=>BW (q1.1.ext (p2.trans p3)) q3
 |append=>exact Wu
 |extend=>exact Wu
 |remove=>exact Wu
 |pop=>
  rw[aI,aV];refine af (ha aa env A h u e) λx h1 v p1 q1=>af (R:=λ_ _ _=>True) (cj λt et=>?_) λ_ h2 _ p2 _=>?_
  ·obtain⟨f,d⟩:=x
   have q:=q1.1;cases d<;>first|(cases et;done)|skip
   dsimp only at q;rw[Dn]at q;subst q;exact⟨(),rfl,trivial⟩
  ·refine af (hs.2 aa env A h2 ((u.ext p1).ext p2) ((e.ext p1).ext p2)) λds h3 vs p3 q3=>?_
   obtain⟨f,d⟩:=x;have q:=q1.1;cases d<;>first|trivial|skip
   dsimp only at q;rw[Dn]at q;subst q;cases ds with
   |nil=>trivial
   |cons d r=>
    cases r with
    |cons _ _=>cases d<;>trivial
    |nil=>
     cases d<;>first|trivial|skip
     obtain⟨w,rfl,hw⟩:=q3.one;have:=hw.str;subst this;exact aY (λz=>z) λ_=>gi (((u.ext p1).ext p2).ext p3) ((p1.trans p2).trans p3) ((aS _ _ (jg _)).mpr rfl) λ_=>(aS _ _ (jg _)).mpr rfl
def SrcR(A:AP)(h:Hs)(xs:List Val)(src:Src):Prop:=∃ws,ao A h xs ws/\∀h',h<+:h'->src.items h'=some ws
theorem gK{lo:Int}{n:Nat}:ao A h (bT lo n) (bT lo n):=by
 unfold bT;generalize List.range n=l
 induction l with
 |nil=>exact ao.nil
 |cons a l ih=>exact ao.cons (by rw[Dn]) ih
theorem eW:∀{xs ws:List Val} (i:Nat),ao A h xs ws->ao A h (bQ i xs) (bQ i ws)
 |[],ws,i,q=>by rw[ao]at q;subst q;exact ao.nil
 | x::xs,ws,i,q=>by
  rw[ao]at q;obtain⟨w,r,rfl,a,b⟩:=q;exact ao.cons (by rw[Dn];exact⟨_,rfl,ao.cons (by rw[Dn]) (ao.cons a ao.nil)⟩) (eW (i+1) b)
theorem xY{ds vs:List Val}(a:DB A h (.rl ds) v):∃ws,ao A h ds ws/\((v=.rl ws)\/∃i,v=.ref i/\∀h',h<+:h'->ay h' (.ref i)=some ws):=by
 rcases a with a|⟨i,rfl,vs,g,q⟩
 ·rw[Dn]at a
  rcases a with ⟨vs,rfl,_,q⟩|⟨i,vs,rfl,_,g,q⟩
  ·exact⟨vs,q,.inl rfl⟩
  ·exact⟨vs,q,.inr ⟨i,rfl,λh' p=>by simp[ay,bB p g]⟩⟩
 ·exact⟨vs,q,.inr ⟨i,rfl,λh' p=>by simp[ay,bB p g]⟩⟩
theorem xZ(a:Dj A h ds vs):Rel A h (λxs h' src=>SrcR A h' xs src) (aN (srcOf k vs) h) (pl (zx k ds)):=by
 refine bu λxs e=>?_;cases k with
 |seq=>
  match ds,e with
  |[.str z],e=>
   obtain⟨v,rfl,hv⟩:=a.one;have:=hv.str;subst this;change (if L2.isAscii z=true then some (signs z) else none)=some _ at e;split at e
   ·rename_i hn;cases e
    refine⟨.fix _,Vv hn,signs z,?_,λ_ _=>rfl⟩;unfold signs;generalize z.cps.toList=l
    induction l with
    |nil=>exact ao.nil
    |cons a l ih=>exact ao.cons (by rw[Dn]) ih
   ·cases e
  |[.tup es],e=>cases e;obtain⟨v,rfl,hv⟩:=a.one;obtain⟨ws,rfl,q⟩:=hv.tup;exact⟨.fix ws,rfl,ws,q,λ_ _=>rfl⟩
  |[.rl es],e=>
   cases e;obtain⟨v,rfl,hv⟩:=a.one;obtain⟨ws,q,rfl|⟨i,rfl,g⟩⟩:=xY (vs:=[]) hv
   ·exact⟨.fix ws,rfl,ws,q,λ_ _=>rfl⟩
   ·exact⟨.live i,rfl,ws,q,λh' p=>g h' p⟩
 |range=>
  match ds,e with
  |[.int n],e=>
   obtain⟨v,rfl,hv⟩:=a.one;have:=hv.int;subst this;change (if inR n=true then some (bT 0 n.toNat) else none)=some _ at e;split at e
   ·rename_i hn;cases e;exact⟨.fix _,Vv hn,_,gK,λ_ _=>rfl⟩
   ·cases e
  |[.int n,.int m],e=>
   obtain⟨v,r,rfl,hv,hr⟩:=a;obtain⟨w,rfl,hw⟩:=Dj.one hr;have:=hv.int;subst this;have:=hw.int;subst this;change (if (inR n&&inR m)=true then some (bT n (m-n).toNat) else none)=some _ at e;split at e
   ·rename_i hn;cases e;exact⟨.fix _,Vv hn,_,gK,λ_ _=>rfl⟩
   ·cases e
 |enum=>
  match ds,e with
  |[.rl es],e=>
   cases e;obtain⟨v,rfl,hv⟩:=a.one;obtain⟨ws,q,rfl|⟨i,rfl,g⟩⟩:=xY (vs:=[]) hv
   ·exact⟨.fix _,rfl,_,eW 0 q,λ_ _=>rfl⟩
   ·exact⟨.enum i,rfl,_,eW 0 q,λh' p=>by simp[Src.items,g h' p]⟩
 |zip=>cases e
theorem x6:∀{is:List Nat} {ds vs:List Val} {aa ak:aL} {env:Env},bA is ds aa=some ak->ao A h ds vs->ER A aa env h->(∀i∈is,i<aa.length->i<env.length)->∃env',bindAll is vs env=some env'/\ER A ak env' h
 | [],[],vs,aa,ak,env,e,q,er,_=>by
  rw[ao]at q;subst q;simp only[bA]at e;cases e;exact⟨env,rfl,er⟩
 | i::is,d::ds,vs,aa,ak,env,e,q,er,hl=>by
  rw[ao]at q;obtain⟨v,r,rfl,q1,q2⟩:=q;simp only[bA]at e;have T5:ER A (aa.set i (some (.sh,d))) (env.set i (some v)) h:=λj f d' hj=>by
   by_cases hij:i=j
   ·subst hij
    have hi:i<aa.length:=by have:=(Vn.mp hj).1;simpa using this
    rw[Vz hi]at hj;cases hj;rw[Vw (by decide)];exact⟨v,by rw[Vz (hl i Vs hi)],q1⟩
   ·rw[Vr hij]at hj;rw[Vr hij];exact er j f d' hj
  simp only[bindAll];exact x6 e q2 T5 λj hj hl'=>by simpa using hl j (Vq _ hj) (by simpa using hl')
 |[],_::_,_,_,_,_,e,_,_,_=>by simp[bA]at e
 |_::_,[],_,_,_,_,e,_,_,_=>by simp[bA]at e
theorem uA(e:dj p d aa=some ak)(q:Dn A h d v)(er:ER A aa env h)(hl:aa.length<=env.length):∃env',fq p v env=some env'/\ER A ak env' h:=by
 cases p with
 |one i=>
  simp only[dj]at e;cases e;refine⟨_,rfl,λj f d' hj=>?_⟩
  by_cases hij:i=j
  ·subst hij
   have hi:i<aa.length:=by have:=(Vn.mp hj).1;simpa using this
   rw[Vz hi]at hj;cases hj;rw[Vw (by decide)];exact⟨v,by rw[Vz (by omega)],q⟩
  ·rw[Vr hij]at hj;rw[Vr hij];exact er j f d' hj
 |tup is=>
  cases d<;>simp only[dj]at e<;>first|(cases e;done)|skip
  rw[Dn]at q;obtain⟨vs,rfl,q⟩:=q;exact x6 e q er λi _ hi=>by omega
theorem x8(e:ER A aa env h):ER A (fy js aa) (ja js env) h:=λi f d q=>by
 unfold fy at q;rw[VI]at q;cases hj:js[i]? with
 |none=>rw[hj]at q;cases q
 |some o=>
  rw[hj]at q;simp only[map_some]at q;cases o with
  |none=>cases q
  |some j=>
   dsimp only at q;cases ej:aa[j]? with
   |none=>rw[ej]at q;cases q
   |some w=>
    cases w with
    |none=>rw[ej]at q;cases q
    |some fd=>
     rw[ej]at q;cases q;have:=e j f d ej;revert this;generalize pG f=t;intro this;cases t with
     |false=>rw[Vv rfl]at this |-;obtain⟨a,k2,k3⟩:=this;refine⟨a,?_,k3⟩;unfold ja;rw[VI,hj];simp only[map_some];rw[k2]
     |true=>rw[Vw (by decide)]at this |-;obtain⟨v,k1,k2⟩:=this;refine⟨v,?_,k2⟩;unfold ja;rw[VI,hj];simp only[map_some];rw[k1]
theorem n6 :
  ∀(xs:List Val) (vs:List Val) (i:Nat) (acc:List Val) (h:Hs),hb<+:h->Up A h->(∀h',h<+:h'->src.items h'=some ws)->ws.drop i=vs->ao A h xs vs ->
   (∀x v h',h<+:h'->Dn A h' x v->Rel A h' (λo h'' o'=>match o,o' with|some e,some e'=>RV A hb e h'' e'|none,none=>True|_,_=>False) (f v h') (g x)) ->
   Rel A h (λp h' ys=>∃zs,ys=acc++zs/\ao A h' p.2 zs/\(p.1=true->ao (Fr hb.length) h' p.2 zs)) (eT src f vs.length i acc h) (fU g xs)
 | [],vs,i,acc,h,R4,u,hi,hd,q,hf=>by
  rw[ao]at q;subst q;have hl:ws.length<=i:=Xx.mp hd;have ev:eT src f ([]:List Val).length i acc h=.ok acc h:=by show eT src f 0 i acc h=_;simp only[eT];unfold bnd ask aN aB;dsimp only;rw[hi h (VG _)];dsimp only;rw[Vv (decide_eq_true hl)];rfl
  rw[ev,fU];exact⟨acc,h,rfl,VG _,[],by simp,ao.nil,λ_=>ao.nil⟩
 | x::xs,vs,i,acc,h,R4,u,hi,hd,q,hf=>by
  rw[ao]at q;obtain⟨v,r,rfl,q1,q2⟩:=q;have hv:ws[i]?=some v:=by have:=Wc (λl=>l[0]?) hd;simpa using this
  have hr:ws.drop (i+1)=r:=by
   have:ws.drop (i+1)=(ws.drop i).drop 1:=by rw[XW]
   rw[this,hd];rfl
  have ev:eT src f (v::r).length i acc h=bnd (f v) (λo=>eT src f r.length (i+1) (match o with|some e=>acc++[e]|none=>acc)) h:=by show eT src f (r.length+1) i acc h=_;simp only[eT];unfold bnd ask aN;dsimp only;rw[hi h (VG _)];dsimp only;rw[hv];try rfl
  rw[ev,fU];refine af (hf x v h (VG _) q1) λo h1 o' p1 ho=>?_;have ih:=λacc'=>n6 xs r (i+1) acc' h1 (R4.trans p1) (u.ext p1) (λh' p=>hi h' (p1.trans p)) hr (q2.ext p1) λx v h' p=>hf x v h' (p1.trans p);cases o' with
  |some e'=>
   cases o with
   |none=>exact ho.elim
   |some e=>
    have ih:=ih (acc++[e']);cases e2:fU g xs with
    |ok p=>
     rw[e2]at ih;obtain⟨ys,h2,e3,p2,zs,rfl,z1,z2⟩:=ih;refine⟨_,h2,e3,p2,e'::zs,by simp,ao.cons (ho.1.ext p2) z1,λhp=>?_⟩;have R5:e.1=true/\p.1=true:=by simpa using hp
     exact ao.cons ((ho.2 R5.1).ext p2) (z2 R5.2)
    |exc c es=>rw[e2]at ih;exact ih
    |no=>trivial
  |none=>
   cases o with
   |some e'=>exact ho.elim
   |none=>
    have ih:=ih acc;cases e2:fU g xs with
    |ok p=>rw[e2]at ih;obtain⟨ys,h2,e3,p2,zs,rfl,z1,z2⟩:=ih;exact⟨_,h2,e3,p2,zs,rfl,z1,z2⟩
    |exc c es=>rw[e2]at ih;exact ih
    |no=>trivial
theorem J5(hs:jR Φ Ψ it)(hc:bG Φ Ψ c)(he:bG Φ Ψ elt):bG Φ Ψ (.comp N js pat k it c elt):=λaa env A h u e=>by
 rw[aI,aV];refine af (hs.2 aa env A h u e) λds h1 vs p1 q1=>af (xZ q1) λxs h2 src p2 q2=>?_;obtain⟨ws,q3,q4⟩:=q2;have l:=q3.length;have ev:∀(F:List Val->M Val),bnd (ask λh=>src.items h) F h2=F ws h2:=λF=>by unfold bnd ask aN;dsimp only;rw[q4 h2 (VG _)]
 rw[ev];refine aY (λz=>by rw[<-l];exact z) λ_=>?_;have u2:=(u.ext p1).ext p2;have e2:=(e.ext p1).ext p2;refine af (n6 (hb:=h) xs ws 0 [] h2 (p1.trans p2) u2 q4 rfl q3 λx v h' p' qx=>?_) λp h3 ys p3 hp=>?_
 ·refine af (R:=λak _ env'=>∃_:ER A ak env' h',True) (bu λak ev'=>?_) λak h4 env' p4 he'=>?_
  ·obtain⟨env',a1,a2⟩:=uA ev' qx (x8 (e2.ext p')) (by simp[fy,ja]);exact⟨env',a1,a2,trivial⟩
  ·obtain⟨er,_⟩:=he'
   have er:=er.ext p4;have u4:=(u2.ext p').ext p4;have MZ:Rel A h4 (λt _ t'=>t'=t) ((if cQ c=true then ret true else bnd (aI Φ c env') λv=>ask λh=>cP h v) h4) (if cQ c=true then .ok true else pb (aV Ψ c ak) λv=>pl (cP [] v.2)):=by
    by_cases hn:cQ c=true
    ·rw[Vv hn,Vv hn];exact aq rfl
    ·rw[Vw hn,Vw hn];exact af (hc ak env' A h4 u4 er) λy h5 w p5 q5=>cj λt et=>⟨t,rV q5.br et,rfl⟩
   refine af MZ λt h5 t' p5 et=>?_;subst et;cases t' with
   |true=>rw[Vv rfl,Vv rfl];exact af (he ak env' A h5 (u4.ext p5) (er.ext p5)) λy h6 w p6 q6=>aq (q6.up ((p1.trans p2).trans (p'.trans (p4.trans p5))))
   |false=>rw[Vw Vl,Vw Vl];exact aq trivial
 ·obtain⟨zs,rfl,z1,z2⟩:=hp;exact gi (u2.ext p3) ((p1.trans p2).trans p3) z1 z2
mutual
noncomputable def cO:IE->Bool
 |.cst d=>lD d
 |.con _ d=>lD d
 |.bin _ a b=>cO a&&cO b
 |.neg a=>cO a
 |.cmp _ a b=>cO a&&cO b
 |.chn _ _ a b c=>cO a&&cO b&&cO c
 |.and a b=>cO a&&cO b
 |.or a b=>cO a&&cO b
 |.not a=>cO a
 |.ite a b c=>cO a&&cO b&&cO c
 |.tup es=>kR es
 |.lst es=>kR es
 |.idx a b=>cO a&&cO b
 |.slc a b c=>cO a&&cO b&&cO c
 |.call _ es=>kR es
 |.blt _ es=>kR es
 |.met _ a es=>cO a&&kR es
 |.comp _ _ _ _ es a b=>kR es&&cO a&&cO b
 |.var _=>true
 |.no=>true
 |.dct0=>true
 |.sset a=>cO a
 |.dget a b c=>cO a&&cO b&&cO c
 |.dct1 a b=>cO a&&cO b
 |.lkeys a=>cO a
 |.sdef ..=>false
 |.svals _=>false
 |.skeys a=>cO a
 |.fld _ a _=>cO a
 |.mth a _ _ es=>cO a&&kR es
 |.rev a b=>cO a&&cO b
 |.dflt _ _ _ _ a b=>cO a&&cO b
 |.isc a _ _=>cO a
noncomputable def kR:j7->Bool
 |.nil=>true
 |.cons e es=>cO e&&kR es
end
theorem v_all(hΦ:∀j,Imp (Φ j) (Ψ j)):(∀ir,cO ir=true->bG Φ Ψ ir)/\∀dS,kR dS=true->jR Φ Ψ dS:=by
 have one:∀ir,cO ir=true->bG Φ Ψ ir:=by
  intro ir;refine IE.rec (motive_1:=λir=>cO ir=true->bG Φ Ψ ir) (motive_2:=λdS=>kR dS=true->jR Φ Ψ dS) ?_ ?_ ?_ ?_ ?_ ?_ ?_ ?_ ?_ ?_ ?_ ?_ ?_ ?_ ?_ ?_ ?_ ?_ ?_ ?_ ?_ ?_ ?_ ?_ ?_ ?_ ?_ ?_ ?_ ?_ ?_ ?_ ?_ ?_ ?_ ir
  ·exact λ_ _=>v_var
  ·exact λ_ f=>Nc f
  ·exact λ_ _ f=>Nd f
  ·exact λ_=>QM
  ·intro _ _ _ a b f;have f:=b9 f;exact Nf (a f.1) (b f.2)
  ·intro _ a f;exact Ng (a f)
  ·intro _ _ _ a b f;have f:=b9 f;exact Nh (a f.1) (b f.2)
  ·intro _ _ _ _ _ a b c f;have f:=mT f;exact Ni (a f.1.1) (b f.1.2) (c f.2)
  ·intro _ _ a b f;have f:=b9 f;exact v_and (a f.1) (b f.2)
  ·intro _ _ a b f;have f:=b9 f;exact v_or (a f.1) (b f.2)
  ·intro _ a f;exact v_not (a f)
  ·intro _ _ _ a b c f;have f:=mT f;exact v_ite (a f.1.1) (b f.1.2) (c f.2)
  ·intro _ a f;exact Nj (a f)
  ·intro _ a f;exact Nl (a f)
  ·intro _ _ a b f;have f:=b9 f;exact Nm (a f.1) (b f.2)
  ·intro _ _ _ a b c f;have f:=mT f;exact Nn (a f.1.1) (b f.1.2) (c f.2)
  ·intro _ _ a f;exact J4 hΦ (a f)
  ·intro _ _ a f;exact Nt (a f)
  ·intro _ _ _ a b f;have f:=b9 f;exact Nu (a f.1) (b f.2)
  ·intro _ _ _ _ _ _ _ a b c f;have f:=mT f;exact J5 (a f.1.1) (b f.1.2) (c f.2)
  ·exact λ_=>JZ
  ·intro _ a f;exact J3 (a f)
  ·intro _ _ _ a b c f;have f:=mT f;exact J1 (a f.1.1) (b f.1.2) (c f.2)
  ·intro _ _ a b f;have f:=b9 f;exact J0 (a f.1) (b f.2)
  ·intro _ a f;exact E2 (a f)
  ·intro _ _ _ _ _ _ f;exact nomatch (show false=true from f)
  ·intro _ _ f;exact nomatch (show false=true from f)
  ·intro _ a f;exact E4 (a f)
  ·intro _ _ _ a f;exact Nq (a f)
  ·intro _ _ _ _ a b f;have f:=b9 f;exact Nr hΦ (a f.1) (b f.2)
  ·intro _ _ a b f;have f:=b9 f;exact Np (a f.1) (b f.2)
  ·intro _ _ _ _ _ _ a b f;have f:=b9 f;exact J2 (a f.1) (b f.2)
  ·intro _ _ _ a f;exact Nk (a f)
  ·exact λ_=>Gz
  ·intro _ _ a b f;have f:=b9 f;exact BX (a f.1) (b f.2)
 refine⟨one,λdS=>?_⟩
 induction dS using j7.rec (motive_1:=λ_=>True) with
 |nil=>exact λ_=>Gz
 |cons e es _ ih=>exact λf=>by have f:=b9 f;exact BX (one e f.1) (ih f.2)
 |_=>trivial
end
section
variable {A A':AP} {h h':Hs}
mutual
theorem Dn.move(hn:A none->A' none)(hh:∀(i:Nat) (o:Ob),A (some i)->h[i]?=some o->A' (some i)/\h'[i]?=some o):∀(d v:Val),Dn A h d v->Dn A' h' d v
 |.non,v,e=>by rw[Dn]at e |-;exact e
 |.bl _,v,e=>by rw[Dn]at e |-;exact e
 |.int _,v,e=>by rw[Dn]at e |-;exact e
 |.str _,v,e=>by rw[Dn]at e |-;exact e
 | .tup ds,v,e=>by
  rw[Dn]at e |-;obtain⟨vs,rfl,q⟩:=e;exact⟨vs,rfl,ao.move hn hh ds vs q⟩
 | .rl ds,v,e=>by
  rw[Dn]at e |-
  rcases e with ⟨vs,rfl,n,q⟩|⟨i,vs,rfl,a,g,q⟩
  ·exact .inl ⟨vs,rfl,hn n,ao.move hn hh ds vs q⟩
  ·exact .inr ⟨i,vs,rfl,(hh i _ a g).1,(hh i _ a g).2,ao.move hn hh ds vs q⟩
 | .dc ks ds,v,e=>by
  rw[Dn]at e |-;obtain⟨i,kvs,rfl,a,g,k,q⟩:=e;exact⟨i,kvs,rfl,(hh i _ a g).1,(hh i _ a g).2,k,ao.move hn hh ds _ q⟩
 | .ob c xs ds,v,e=>by
  rw[Dn]at e |-;obtain⟨i,kvs,rfl,a,g,k,q⟩:=e;exact⟨i,kvs,rfl,(hh i _ a g).1,(hh i _ a g).2,k,ao.move hn hh ds _ q⟩
 |.ref _,v,e=>by rw[Dn]at e;exact e.elim
theorem ao.move(hn:A none->A' none)(hh:∀(i:Nat) (o:Ob),A (some i)->h[i]?=some o->A' (some i)/\h'[i]?=some o):∀(ds vs:List Val),ao A h ds vs->ao A' h' ds vs
 |[],vs,e=>by rw[ao]at e |-;exact e
 | d::ds,vs,e=>by
  rw[ao]at e |-;obtain⟨v,r,rfl,q1,q2⟩:=e;exact⟨v,r,rfl,Dn.move hn hh d v q1,ao.move hn hh ds r q2⟩
end
end
def Al(A0:AP)(O:Nat->Option Nat):AP:=λo=>A0 o/\∀i,o.isSome=true->O i≠o
structure SR (A0:AP) (h0:Hs) (aa:aL) (env:Env) (h:Hs) (O:Nat->Option Nat):Prop where
 len:aa.length=env.length
 sh:∀(i:Nat) (m:Mk) (d:Val),aa[i]?=some (some (m,d))->pG m=true->∃v,env[i]?=some (some v)/\Dn (Al A0 O) h d v/\(JV m=true->Dn (Al (Fr h0.length) O) h d v)
 ow:∀(i:Nat) (d:Val),aa[i]?=some (some (.ow,d))->∃a,env[i]?=some (some (.ref a))/\O i=some a/\OD (Al A0 O) h d a
 own:∀i a,O i=some a->h0.length<=a/\a<h.length/\∃d,aa[i]?=some (some (.ow,d))
 inj:∀i j a,O i=some a->O j=some a->i=j
 pre:h0<+:h
 up:Up A0 h0
structure Fm (m:List Nat) (aa:aL) (env:Env) (h:Hs) (O:Nat->Option Nat) (ak:aL) (env':Env) (h':Hs) (O':Nat->Option Nat):Prop where
 le:h.length<=h'.length
 keep:∀k,k<h.length->(∀i,O i≠some k)->h'[k]?=h[k]?/\∀i,O' i≠some k
 stay:∀i,i∉m->O' i=O i/\ak[i]?=aa[i]?/\env'[i]?=env[i]?/\∀a,O i=some a->h'[a]?=h[a]?
def RF(A0:AP)(h0:Hs)(m:List Nat)(aa:aL)(env:Env)(h:Hs)(O:Nat->Option Nat):xU->Hs->Fl->Prop
 |.nx ak,h',.nx env'=>∃O',SR A0 h0 ak env' h' O'/\Fm m aa env h O ak env' h' O'
 |.bk ak,h',.bk env'=>∃O',SR A0 h0 ak env' h' O'/\Fm m aa env h O ak env' h' O'
 |.ct ak,h',.ct env'=>∃O',SR A0 h0 ak env' h' O'/\Fm m aa env h O ak env' h' O'
 |.rt p,h',.rt v=>Dn A0 h' p.2 v/\(p.1=true->Dn (Fr h0.length) h' p.2 v)/\h0<+:h'
 |_,_,_=>False
def gb(A0:AP)(h0:Hs){α β:Type}(R:α -> Hs -> β -> Prop)(o:Out β):Pr α -> Prop
 |.ok f=>∃g h',o=.ok g h'/\R f h' g
 |.exc c es=>∃ws h',o=.exc c ws h'/\h0<+:h'/\ao A0 h' es ws
 |.no=>True
section
variable {A0:AP} {h0:Hs} {aa:aL} {env:Env} {h h1:Hs} {O:Nat->Option Nat} {m:List Nat}
theorem SR.er(s:SR A0 h0 aa env h O):ER (Al A0 O) aa env h:=λi f d e=>by
 cases f with
 |ow=>rw[Vv (show pG .ow=false by decide)];obtain⟨a,k2,_,k3⟩:=s.ow i d e;exact⟨a,k2,k3⟩
 |sh=>rw[Vw (by decide)];obtain⟨v,k1,k2,_⟩:=s.sh i _ d e rfl;exact⟨v,k1,k2⟩
 |nw=>rw[Vw (by decide)];obtain⟨v,k1,k2,_⟩:=s.sh i _ d e rfl;exact⟨v,k1,k2⟩
theorem SR.zy(s:SR A0 h0 aa env h O):Up (Al A0 O) h:=λk hk=>⟨s.up k (VX s.pre.length_le hk),λi _ e=>by have:=(s.own i k e).2.1;omega⟩
theorem SR.ext(s:SR A0 h0 aa env h O)(p:h<+:h1):SR A0 h0 aa env h1 O where
 len:=s.len
 sh i m d e hm:=by obtain⟨v,k1,k2,k3⟩:=s.sh i m d e hm;exact⟨v,k1,k2.ext p,λz=>(k3 z).ext p⟩
 ow i d e:=by obtain⟨a,k2,k3,k4⟩:=s.ow i d e;exact⟨a,k2,k3,k4.ext p⟩
 own i a e:=by obtain⟨k1,k2,k3⟩:=s.own i a e;exact⟨k1,VA k2 p.length_le,k3⟩
 inj:=s.inj
 pre:=s.pre.trans p
 up:=s.up
theorem gM(p:h<+:h1){k:Nat}(hk:k<h.length):h1[k]?=h[k]?:=by
 obtain⟨t,rfl⟩:=p;rw[VD hk]
theorem Fm.refl(s:SR A0 h0 aa env h O)(p:h<+:h1):Fm m aa env h O aa env h1 O where
 le:=p.length_le
 keep k hk n:=⟨gM p hk,n⟩
 stay i _:=⟨rfl,rfl,rfl,λa e=>gM p (s.own i a e).2.1⟩
theorem Fm.trans{kT gO:aL}{rY gr:Env}{h2:Hs}{O1 O2:Nat->Option Nat}(a:Fm m aa env h O kT rY h1 O1)(b:Fm m kT rY h1 O1 gO gr h2 O2):Fm m aa env h O gO gr h2 O2 where
 le:=VX a.le b.le
 keep k hk n:=by obtain⟨a1,a2⟩:=a.keep k hk n;obtain⟨b1,b2⟩:=b.keep k (VA hk a.le) a2;exact⟨b1.trans a1,b2⟩
 stay i hi:=by obtain⟨a1,a2,a3,a4⟩:=a.stay i hi;obtain⟨b1,b2,b3,b4⟩:=b.stay i hi;exact⟨b1.trans a1,b2.trans a2,b3.trans a3,λc e=>(b4 c (a1.trans e)).trans (a4 c e)⟩
theorem Fm.dR{m':List Nat}(hm:∀i∈m,i∈m')(a:Fm m aa env h O ak env' h1 O'):Fm m' aa env h O ak env' h1 O':=⟨a.le,a.keep,λi hi=>a.stay i λz=>hi (hm i z)⟩
theorem RF.pre(s:SR A0 h0 aa env h O)(p:h<+:h1)(r:RF A0 h0 m aa env h1 O f h' g):RF A0 h0 m aa env h O f h' g:=by
 cases f<;>cases g<;>first|exact r.elim|exact r|(obtain⟨O',a,b⟩:=r;exact⟨O',a,(Fm.refl s p).trans b⟩)
theorem RF.dR{m':List Nat}(hm:∀i∈m,i∈m')(r:RF A0 h0 m aa env h O f h' g):RF A0 h0 m' aa env h O f h' g:=by
 cases f<;>cases g<;>first|exact r.elim|exact r|(obtain⟨O',a,b⟩:=r;exact⟨O',a,b.dR hm⟩)
theorem RF.seq{kT:aL}{rY:Env}{O1:Nat->Option Nat}(a:Fm m aa env h O kT rY h1 O1)(r:RF A0 h0 m kT rY h1 O1 f h' g):RF A0 h0 m aa env h O f h' g:=by
 cases f<;>cases g<;>first|exact r.elim|exact r|(obtain⟨O',b,c⟩:=r;exact⟨O',b,a.trans c⟩)
theorem bM{α β γ δ:Type}{R:α -> Hs -> β -> Prop}{R':γ -> Hs -> δ -> Prop}{mm:M β}{f:β -> M δ}{p:Pr α}{F:α -> Pr γ}(s:SR A0 h0 aa env h O)(r:Rel (Al A0 O) h R (mm h) p)(k:∀a h1 b,h<+:h1->R a h1 b->gb A0 h0 R' (f b h1) (F a)):gb A0 h0 R' (bnd mm f h) (pb p F):=by
 unfold bnd;cases p with
 |ok a=>obtain⟨b,h1,e,q,r⟩:=r;rw[e];exact k a h1 b q r
 |exc c es=>obtain⟨ws,h1,e,q,r⟩:=r;rw[e];exact⟨ws,h1,rfl,s.pre.trans q,r.dR λ_ z=>z.1⟩
 |no=>trivial
theorem bf{α β:Type}{R:α -> Hs -> β -> Prop}{a:α}{b:β}(r:R a h b):gb A0 h0 R (ret b h) (.ok a):=⟨b,h,rfl,r⟩
theorem gP{α β:Type}{R R':α -> Hs -> β -> Prop}{o:Out β}{p:Pr α}(r:gb A0 h0 R o p)(k:∀a h' b,R a h' b->R' a h' b):gb A0 h0 R' o p:=by
 cases p with
 |ok a=>obtain⟨b,h',e,r⟩:=r;exact⟨b,h',e,k a h' b r⟩
 |exc c es=>exact r
 |no=>trivial
theorem n8{α β γ δ:Type}{R:α -> Hs -> β -> Prop}{R':γ -> Hs -> δ -> Prop}{mm:M β}{f:β -> M δ}{p:Pr α}{F:α -> Pr γ}(r:gb A0 h0 R (mm h) p)(k:∀a h1 b,R a h1 b->gb A0 h0 R' (f b h1) (F a)):gb A0 h0 R' (bnd mm f h) (pb p F):=by
 unfold bnd;cases p with
 |ok a=>obtain⟨b,h1,e,r⟩:=r;rw[e];exact k a h1 b r
 |exc c es=>obtain⟨ws,h1,e,q,r⟩:=r;rw[e];exact⟨ws,h1,rfl,q,r⟩
 |no=>trivial
theorem jL{α β:Type}{R:α -> Hs -> β -> Prop}{c:Bool}{o:Out β}{p:Pr α}(r:c=true->gb A0 h0 R o p):gb A0 h0 R o (pg c p):=by
 unfold pg;cases c with
 |true=>rw[Vv rfl];exact r rfl
 |false=>rw[Vw Vl];trivial
def fz(O:Nat->Option Nat)(i:Nat):Nat->Option Nat:=λj=>if j=i then none else O j
theorem m7:Al A0 O none->Al A0 O none:=id
theorem jh:Al A0 O none->Al A0 O' none:=λh=>⟨h.1,λ_ z=>by cases z⟩
theorem iI{i:Nat}:∀k,Al A0 O k->Al A0 (fz O i) k:=λk ⟨a,b⟩=>⟨a,λj z=>by unfold fz;split;(cases k<;>simp_all);exact b j z⟩
theorem SR.setM(s:SR A0 h0 aa env h O){i:Nat}{mk:Mk}{d v:Val}(T6:pG mk=true)(q:Dn (Al A0 O) h d v)(qn:JV mk=true->Dn (Al (Fr h0.length) O) h d v):SR A0 h0 (aa.set i (some (mk,d))) (env.set i (some v)) h (fz O i)/\Fm [i] aa env h O (aa.set i (some (mk,d))) (env.set i (some v)) h (fz O i):=by
 refine⟨⟨by simp[s.len],λj m' d' e hm'=>?_,λj d' e=>?_,λj a e=>?_,λj l a e1 e2=>?_,s.pre,s.up⟩,Vu _,λk hk n=>⟨rfl,λj=>?_⟩,λj hj=>?_⟩
 ·by_cases hij:i=j
  ·subst hij
   have hi:i<aa.length:=by have:=(Vn.mp e).1;simpa using this
   rw[Vz hi]at e;cases e;exact⟨v,by rw[Vz (by rw[<-s.len];exact hi)],q.dR iI,λz=>(qn z).dR iI⟩
  ·rw[Vr hij]at e;rw[Vr hij];obtain⟨w,k1,k2,k3⟩:=s.sh j m' d' e hm';exact⟨w,k1,k2.dR iI,λz=>(k3 z).dR iI⟩
 ·by_cases hij:i=j
  ·subst hij
   have hi:i<aa.length:=by have:=(Vn.mp e).1;simpa using this
   rw[Vz hi]at e;cases e;cases T6
  ·rw[Vr hij]at e;rw[Vr hij];obtain⟨a,k2,k3,k4⟩:=s.ow j d' e;exact⟨a,k2,by unfold fz;rw[Vw (λz=>hij z.symm)];exact k3,k4.mono (λ_ g=>g) λ_ _ z=>z.dR iI⟩
 ·unfold fz at e
  split at e
  ·cases e
  ·rename_i hj;obtain⟨k1,k2,d',k3⟩:=s.own j a e;exact⟨k1,k2,d',by rw[Vr (λz=>hj z.symm)];exact k3⟩
 ·unfold fz at e1 e2
  split at e1
  ·cases e1
  ·split at e2
   ·cases e2
   ·exact s.inj j l a e1 e2
 ·unfold fz;split;simp;exact n j
 ·have hj':j≠i:=by simpa using hj
  exact⟨by unfold fz;rw[Vw hj'],Vr (λz=>hj' z.symm),Vr (λz=>hj' z.symm),λ_ _=>rfl⟩
theorem SR.set(s:SR A0 h0 aa env h O){i:Nat}(q:Dn (Al A0 O) h d v):SR A0 h0 (aa.set i (some (.sh,d))) (env.set i (some v)) h (fz O i)/\Fm [i] aa env h O (aa.set i (some (.sh,d))) (env.set i (some v)) h (fz O i):=s.setM rfl q λz=>nomatch z
theorem SR.binds:∀{is:List Nat} {ds vs:List Val} {aa:aL} {env:Env} {O:Nat->Option Nat} {ak:aL},SR A0 h0 aa env h O->bA is ds aa=some ak->ao (Al A0 O) h ds vs ->
  ∃env' O',bindAll is vs env=some env'/\SR A0 h0 ak env' h O'/\Fm is aa env h O ak env' h O'
 | [],[],vs,aa,env,O,ak,s,e,q=>by
  rw[ao]at q;subst q;simp only[bA]at e;cases e;exact⟨env,O,rfl,s,Fm.refl s (VG _)⟩
 | i::is,d::ds,vs,aa,env,O,ak,s,e,q=>by
  rw[ao]at q;obtain⟨v,r,rfl,q1,q2⟩:=q;simp only[bA]at e;obtain⟨s1,f1⟩:=s.set (i:=i) q1;obtain⟨env',O',b1,b2,b3⟩:=SR.binds s1 e (q2.dR iI);refine⟨env',O',by simp only[bindAll];exact b1,b2,(f1.dR λj hj=>?_).trans (b3.dR λj hj=>Vq _ hj)⟩;rw[VM.mp hj];exact Vs
 |[],_::_,_,_,_,_,_,_,e,_=>by simp[bA]at e
 |_::_,[],_,_,_,_,_,_,e,_=>by simp[bA]at e
theorem SR.bind(s:SR A0 h0 aa env h O)(e:dj p d aa=some ak)(q:Dn (Al A0 O) h d v):∃env' O',fq p v env=some env'/\SR A0 h0 ak env' h O'/\Fm (stored p) aa env h O ak env' h O':=by
 cases p with
 |one i=>simp only[dj]at e;cases e;obtain⟨s1,f1⟩:=s.set (i:=i) q;exact⟨_,_,rfl,s1,f1⟩
 |tup is=>
  cases d<;>simp only[dj]at e<;>first|(cases e;done)|skip
  rw[Dn]at q;obtain⟨vs,rfl,q⟩:=q;exact s.binds e q
theorem E5{a:Nat}(p:h0<+:h)(ha:h0.length<=a):h0<+:h.set a o:=by
 obtain⟨t,rfl⟩:=p;rw[List.set_append_right _ _ ha];exact Wa _ _
theorem SR.put(s:SR A0 h0 aa env h O){i a:Nat}{d d1:Val}(e:aa[i]?=some (some (.ow,d)))(ha:O i=some a)(q:OB (Al A0 O) h d1 ob) :
  SR A0 h0 (aa.set i (some (.ow,d1))) env (h.set a ob) O/\Fm [i] aa env h O (aa.set i (some (.ow,d1))) env (h.set a ob) O:=by
 obtain⟨o1,o2,_⟩:=s.own i a ha;have hi:i<aa.length:=(Vn.mp e).1;have mv:∀{A0:AP} (k:Nat) (o:Ob),Al A0 O k->h[k]?=some o->Al A0 O k/\(h.set a ob)[k]?=some o:=λk o hk g=>⟨hk,by rw[Vr λz=>hk.2 i rfl (by rw[<-z];exact ha)];exact g⟩;obtain⟨a0,e2,e3,_⟩:=s.ow i d e;refine⟨⟨by simp[s.len],λj m' d' ej hm'=>?_,λj d' ej=>?_,λj b ej=>?_,s.inj,E5 s.pre o1,s.up⟩,by simp,λk hk n=>⟨?_,n⟩,λj hj=>?_⟩
 ·by_cases hij:i=j
  ·subst hij;rw[Vz hi]at ej;cases ej;cases hm'
  ·rw[Vr hij]at ej;obtain⟨w,k1,k2,k3⟩:=s.sh j m' d' ej hm';exact⟨w,k1,Dn.move m7 mv _ _ k2,λz=>Dn.move m7 mv _ _ (k3 z)⟩
 ·by_cases hij:i=j
  ·subst hij;rw[Vz hi]at ej;cases ej;rw[ha]at e3;cases e3;exact⟨a,e2,ha,q.od (by rw[Vz o2]) λ_ _ z=>ao.move m7 mv _ _ z⟩
  ·rw[Vr hij]at ej;obtain⟨a1,k2,k3,k4⟩:=s.ow j d' ej;have:a≠a1:=λz=>hij (s.inj i j a ha (by rw[z];exact k3));exact⟨a1,k2,k3,k4.mono (λ_ g=>by rw[Vr this];exact g) λ_ _ z=>ao.move m7 mv _ _ z⟩
 ·obtain⟨k1,k2,d',k3⟩:=s.own j b ej
  refine⟨k1,by simp[k2],?_⟩
  by_cases hij:i=j
  ·subst hij;exact⟨_,by rw[Vz hi]⟩
  ·exact⟨d',by rw[Vr hij];exact k3⟩
 ·rw[Vr λz=>n i (by rw[<-z];exact ha)]
 ·have hj':j≠i:=by simpa using hj
  exact⟨rfl,Vr (λz=>hj' z.symm),rfl,λb eb=>by rw[Vr λz=>hj' (s.inj j i b eb (by rw[<-z];exact ha))]⟩
def pJ(O:Nat->Option Nat)(i a:Nat):Nat->Option Nat:=λj=>if j=i then some a else O j
theorem SR.fresh(s:SR A0 h0 aa env h O){i:Nat}{d1:Val}{h2:Hs}(p:h<+:h2)(q:OB (Al A0 O) h2 d1 ob) :
  SR A0 h0 (aa.set i (some (.ow,d1))) (env.set i (some (.ref h2.length))) (h2++[ob]) (if i<aa.length then pJ O i h2.length else fz O i) /\
   Fm [i] aa env h O (aa.set i (some (.ow,d1))) (env.set i (some (.ref h2.length))) (h2++[ob]) (if i<aa.length then pJ O i h2.length else fz O i):=by
 have pp:h<+:h2++[ob]:=p.trans (Wa _ _);have s2:=s.ext p;have mv:∀{A0:AP} (j:Nat),∀(k:Nat) (o:Ob),Al A0 O k->h2[k]?=some o->Al A0 (if i<aa.length then pJ O i h2.length else fz O i) k/\(h2++[ob])[k]?=some o:=λ{A0} j k o hk g=>by
  have hlt:k<h2.length:=(Vn.mp g).1;refine⟨?_,by rw[VD hlt];exact g⟩
  split
  ·refine⟨hk.1,λl _=>?_⟩
   unfold pJ
   split
   ·intro z;cases z;omega
   ·exact hk.2 l rfl
  ·exact iI k hk
 by_cases hi:i<aa.length
 ·rw[Vv hi]at mv |-
  refine⟨⟨by simp[s.len],λj m' d' ej hm'=>?_,λj d' ej=>?_,λj b ej=>?_,λj l b e1 e2=>?_,s.pre.trans pp,s.up⟩,pp.length_le,λk hk n=>⟨gM pp hk,λl=>?_⟩,λj hj=>?_⟩
  ·by_cases hij:i=j
   ·subst hij;rw[Vz hi]at ej;cases ej;cases hm'
   ·rw[Vr hij]at ej;rw[Vr hij];obtain⟨w,k1,k2,k3⟩:=s2.sh j m' d' ej hm';exact⟨w,k1,Dn.move jh (mv 0) _ _ k2,λz=>Dn.move jh (mv 0) _ _ (k3 z)⟩
  ·by_cases hij:i=j
   ·subst hij;rw[Vz hi]at ej;cases ej;exact⟨h2.length,by rw[Vz (by rw[<-s.len];exact hi)],by unfold pJ;rw[Vv rfl],q.od (by simp) λ_ _ z=>ao.move jh (mv 0) _ _ z⟩
   ·rw[Vr hij]at ej;rw[Vr hij];obtain⟨a1,k2,k3,k4⟩:=s2.ow j d' ej;have hlt:a1<h2.length:=k4.lt;exact⟨a1,k2,by unfold pJ;rw[Vw λz=>hij z.symm];exact k3,k4.mono (λ_ g=>by rw[VD hlt];exact g) λ_ _ z=>ao.move jh (mv 0) _ _ z⟩
  ·unfold pJ at ej
   split at ej
   ·rename_i hj;cases ej;subst hj;exact⟨VX s.pre.length_le p.length_le,by simp,_,by rw[Vz hi]⟩
   ·rename_i hj;obtain⟨k1,k2,d',k3⟩:=s2.own j b ej;exact⟨k1,by simp;omega,d',by rw[Vr λz=>hj z.symm];exact k3⟩
  ·unfold pJ at e1 e2
   split at e1
   ·rename_i h1;cases e1
    split at e2
    ·rename_i h3;rw[h1,h3]
    ·have:=(s2.own l _ e2).2.1;omega
   ·split at e2
    ·cases e2;have:=(s2.own j _ e1).2.1;omega
    ·exact s.inj j l b e1 e2
  ·unfold pJ;split
   ·intro z;cases z;have:=p.length_le;omega
   ·exact n l
  ·have hj':j≠i:=by simpa using hj
   exact⟨by unfold pJ;rw[Vw hj'],Vr (λz=>hj' z.symm),Vr (λz=>hj' z.symm),λb eb=>gM pp (s.own j b eb).2.1⟩
 ·rw[Vw hi]at mv |-
  have e1:aa.set i (some (.ow,d1))=aa:=Xa (by omega);have e2:env.set i (some (.ref h2.length))=env:=Xa (by rw[<-s.len];omega);have e3:fz O i=O:=by
   funext j;unfold fz;split
   ·rename_i hj;subst hj
    cases e:O j with
    |none=>rfl
    |some a=>obtain⟨_,_,d,k⟩:=s.own j a e;exact absurd (Vn.mp k).1 hi
   ·rfl
  rw[e1,e2,e3];exact⟨s.ext pp,Fm.refl s pp⟩
end
section
variable {Φ:Nat->List Val->M Val} {Ψ:Nat->List Val->Pr FV} {A:AP} {h h1:Hs}
def isRef:Val->Bool
 |.rl _=>true
 |.dc _ _=>true
 |_=>false
def RN(A:AP)(h:Hs):FV->Hs->Val->Prop:=λx h' v=>isRef x.2=true->∃h2 o,h'=h2++[o]/\v=.ref h2.length/\h<+:h2/\OB A h2 x.2 o
def GA(Φ:Nat->List Val->M Val)(Ψ:Nat->List Val->Pr FV)(ir:IE):Prop:=∀(aa:aL) (env:Env) (A:AP) (h:Hs),Up A h->ER A aa env h->Rel A h (RN A h) (aI Φ ir env h) (aV Ψ ir aa)
theorem ji{f:Bool}{h0:Hs}(p:h0<+:h)(q:ao A h xs vs):Rel A h (RN A h0) (new (.lst vs) h) (.ok (f,.rl xs)) :=
 ⟨_,_,rfl,gJ _,λ_=>⟨h,.lst vs,rfl,rfl,p,vs,rfl,q⟩⟩
theorem J6:GA Φ Ψ .dct0:=λaa env A h u e=>by
 rw[aI,aV];exact⟨_,_,rfl,gJ _,λ_=>⟨h,.dct [],rfl,rfl,VG _,[],rfl,rfl,ao.nil⟩⟩
theorem J7(hk:bG Φ Ψ k)(hv:bG Φ Ψ v):GA Φ Ψ (.dct1 k v):=λaa env A h u e=>by rw[aV];trivial
theorem Nv(hs:jR Φ Ψ es):GA Φ Ψ (.lst es):=λaa env A h u e=>by
 rw[aI,aV];exact af (hs.1 aa env A h u e) λx h1 vs p1 q1=>aY (λz=>by rw[<-q1.1.length];exact z) λ_=>ji p1 q1.1
theorem Nx(ha:bG Φ Ψ a)(hl:bG Φ Ψ lo)(hh:bG Φ Ψ hi):GA Φ Ψ (.slc a lo hi):=λaa env A h u e=>by
 rw[aI,aV];refine af (pI ha u e) λx h1 v p1 q1=>af (kQ hl (u.ext p1) (e.ext p1)) λl h2 l' p2 el=>af (kQ hh ((u.ext p1).ext p2) ((e.ext p1).ext p2)) λr h3 r' p3 er=>?_;subst el;subst er;have q1:=DB.ext (p2.trans p3) q1;obtain⟨f,d⟩:=x;cases d with
 |tup ds=>obtain⟨vs,rfl,q⟩:=DB.tup q1;have l:=q.length;simp only[zw,pD];exact aY (λz=>by rw[l]at z;exact z) λ_=>aq λe=>by cases e
 |rl ds=>
  obtain⟨vs,e1,q⟩:=DB.lst q1;have ev:pD v l' r' h3=new (.lst (bO vs l' r')) h3:=by
   have:pD v l' r'=bnd (ask λh=>ay h v) λxs=>new (.lst (bO xs l' r')):=by cases v<;>simp only[ay]at e1<;>first|(cases e1;done)|rfl
   rw[this];unfold bnd ask aN;dsimp only;rw[e1]
  rw[ev];exact ji ((p1.trans p2).trans p3) (q.cut l' r')
 |_=>trivial
theorem J8(hs:jR Φ Ψ es):GA Φ Ψ (.blt .list es):=λaa env A h u e=>by
 rw[aI,aV];refine af (hs.2 aa env A h u e) λds h1 vs p1 q1=>?_
 match ds,q1 with
 |[],q1=>trivial
 |[d],q1=>obtain⟨v,rfl,hv⟩:=q1.one;exact af (R:=λxs h' ws=>ao A h' xs ws) (cj λxs e=>hv.seq e) λxs h2 ws p2 q=>ji (p1.trans p2) q
 |_::_::_,_=>trivial
theorem BY(hs:jR Φ Ψ es):GA Φ Ψ (.blt .sorted es):=λaa env A h u e=>by
 rw[aI,aV];refine af (hs.2 aa env A h u e) λds h1 vs p1 q1=>?_
 match ds,q1 with
 |[],q1=>trivial
 |[d],q1=>
  obtain⟨v,rfl,hv⟩:=q1.one;cases d<;>first|trivial|skip
  rename_i xs;obtain⟨ws,e1,q⟩:=hv.lst;have ev:bnd (ask λh=>ay h v) (λxs=>bnd (aN (fR xs)) λys=>new (.lst ys)) h1=bnd (aN (fR ws)) (λys=>new (.lst ys)) h1:=by unfold bnd ask aN;dsimp only;rw[e1]
  show Rel A h1 (RN A h) (bnd (ask λh=>ay h v) (λxs=>bnd (aN (fR xs)) λys=>new (.lst ys)) h1) _;rw[ev];refine af (R:=λys _ zs=>zs=ys/\bz ys=true) (bu λys e=>?_) λys h2 zs p2 hz=>?_
  ·obtain⟨i1,i2⟩:=qz e;rw[(aS xs ws i1).mp q];exact⟨ys,e,rfl,i2⟩
  ·obtain⟨rfl,hi⟩:=hz;exact ji (p1.trans p2) ((aS _ _ hi).mpr rfl)
 |x::_::_,_=>cases x<;>trivial
theorem J9(hs:jR Φ Ψ it)(hc:bG Φ Ψ c)(he:bG Φ Ψ elt):GA Φ Ψ (.comp N js pat k it c elt):=λaa env A h u e=>by
 rw[aI,aV];refine af (hs.2 aa env A h u e) λds h1 vs p1 q1=>af (xZ q1) λxs h2 src p2 q2=>?_;obtain⟨ws,q3,q4⟩:=q2;have l:=q3.length;have ev:∀(F:List Val->M Val),bnd (ask λh=>src.items h) F h2=F ws h2:=λF=>by unfold bnd ask aN;dsimp only;rw[q4 h2 (VG _)]
 rw[ev];refine aY (λz=>by rw[<-l];exact z) λ_=>?_;have u2:=(u.ext p1).ext p2;have e2:=(e.ext p1).ext p2;refine af (n6 (hb:=h) xs ws 0 [] h2 (p1.trans p2) u2 q4 rfl q3 λx v h' p' qx=>?_) λp h3 ys p3 hp=>?_
 ·refine af (R:=λak _ env'=>∃_:ER A ak env' h',True) (bu λak ev'=>?_) λak h4 env' p4 he'=>?_
  ·obtain⟨env',a1,a2⟩:=uA ev' qx (x8 (e2.ext p')) (by simp[fy,ja]);exact⟨env',a1,a2,trivial⟩
  ·obtain⟨er,_⟩:=he'
   have er:=er.ext p4;have u4:=(u2.ext p').ext p4;have MZ:Rel A h4 (λt _ t'=>t'=t) ((if cQ c=true then ret true else bnd (aI Φ c env') λv=>ask λh=>cP h v) h4) (if cQ c=true then .ok true else pb (aV Ψ c ak) λv=>pl (cP [] v.2)):=by
    by_cases hn:cQ c=true
    ·rw[Vv hn,Vv hn];exact aq rfl
    ·rw[Vw hn,Vw hn];exact af (hc ak env' A h4 u4 er) λy h5 w p5 q5=>cj λt et=>⟨t,rV q5.br et,rfl⟩
   refine af MZ λt h5 t' p5 et=>?_;subst et;cases t' with
   |true=>rw[Vv rfl,Vv rfl];exact af (he ak env' A h5 (u4.ext p5) (er.ext p5)) λy h6 w p6 q6=>aq (q6.up ((p1.trans p2).trans (p'.trans (p4.trans p5))))
   |false=>rw[Vw Vl,Vw Vl];exact aq trivial
 ·obtain⟨zs,rfl,z1,z2⟩:=hp;exact ji ((p1.trans p2).trans p3) z1
theorem Ny(hΦ:∀j,Imp (Φ j) (Ψ j))(hf:QJ e=true)(ho:cO e=true):GA Φ Ψ e:=by
 have V:=v_all hΦ;cases e<;>first|(cases hf;done)|skip
 ·exact Nv (V.2 _ ho)
 ·have ho:=mT ho;exact Nx (V.1 _ ho.1.1) (V.1 _ ho.1.2) (V.1 _ ho.2)
 ·rename_i b es
  change kR _=true at ho;cases b<;>first|(cases hf;done)|skip
  ·exact BY (V.2 _ ho)
  ·exact J8 (V.2 _ ho)
 ·have ho:=mT ho;exact J9 (V.2 _ ho.1.1) (V.1 _ ho.1.2) (V.1 _ ho.2)
 ·exact J6
 ·have ho:=b9 ho;exact J7 (V.1 _ ho.1) (V.1 _ ho.2)
mutual
noncomputable def QN:IS->Bool
 |.expr e=>cO e
 |.asg _ e=>cO e
 |.aug _ _ e=>cO e
 |.iZ o i v=>cO o&&cO i&&cO v
 |.iff c a b=>cO c&&n9 a&&n9 b
 |.for _ _ it b=>kR it&&n9 b
 |.whl _ c b=>cO c&&n9 b
 |.ret e=>cO e
 |_=>true
noncomputable def n9:eE->Bool
 |.nil=>true
 |.cons s r=>QN s&&n9 r
end
def mS(s:IS):List Nat:=pH s++mQ s
def E6(s:eE):List Nat:=gh s++j3 s
variable {ms:List Nat}
def x9(Φ:Nat->List Val->M Val)(Ψ:Nat->List Val->Pr FV)(ms:List Nat)(s:IS):Prop:=∀(A0:AP) (h0:Hs) (aa:aL) (env:Env) (h:Hs) (O:Nat->Option Nat),SR A0 h0 aa env h O->gb A0 h0 (RF A0 h0 (mS s) aa env h O) (fJ Φ s env h) (bW Ψ ms s aa)
def rZ(Φ:Nat->List Val->M Val)(Ψ:Nat->List Val->Pr FV)(ms:List Nat)(s:eE):Prop:=∀(A0:AP) (h0:Hs) (aa:aL) (env:Env) (h:Hs) (O:Nat->Option Nat),SR A0 h0 aa env h O->gb A0 h0 (RF A0 h0 (E6 s) aa env h O) (jb Φ s env h) (fV Ψ ms s aa)
theorem BZ(he:bG Φ Ψ e)(hx:∀aa,bW Ψ ms (.expr e) aa=pb (aV Ψ e aa) λ_=>.ok (.nx aa)):x9 Φ Ψ ms (.expr e):=λA0 h0 aa env h O s=>by
 rw[fJ,hx];exact bM s (he aa env _ h s.zy s.er) λx h1 v p1 q1=>bf ⟨O,s.ext p1,Fm.refl s p1⟩
theorem aj{α β γ:Type}(m:M α)(f:α -> M β)(g:β -> M γ):bnd (bnd m f) g=bnd m λx=>bnd (f x) g:=by
 funext h;show (match (match m h with|.ok a h'=>f a h'|.exc c vs h'=>.exc c vs h'|.no=>.no) with|.ok a h'=>g a h'|.exc c vs h'=>.exc c vs h'|.no=>.no)=(match m h with|.ok a h'=>bnd (f a) g h'|.exc c vs h'=>.exc c vs h'|.no=>.no);cases m h<;>rfl
theorem aZ{α β:Type}{m:M α}{f:α -> M β}{a:α}{h h1:Hs}(e:m h=.ok a h1):bnd m f h=f a h1:=by unfold bnd;rw[e]
theorem cY{i:Nat}(e:env[i]?=some (some v)):aI Φ (.var i) env h=.ok v h:=by rw[aI,e];rfl
theorem zA{i:Nat}(ha:bG Φ Ψ a):x9 Φ Ψ ms (.expr (.met .append (.var i) #[a])):=λA0 h0 aa env h O s=>by
 rw[fJ,bW];try dsimp only
 split
 ·rename_i ds hv
  obtain⟨b,e2,e3,vs,e4,e5⟩:=s.ow i _ hv;have ev:bnd (aI Φ (.met .append (.var i) #[a]) env) (λ_=>ret (Fl.nx env)) h=bnd (aI Φ a env) (λv=>bnd (met .append (.ref b) [v]) λ_=>ret (Fl.nx env)) h:=by
   rw[aI,aj,aZ (cY e2)];rw[aj,aZ (a:=()) (h1:=h) (by unfold ask aN;simp[recv,e4])];rw[aj,bq,aj]
   congr 1
  rw[ev];refine bM s (ha aa env _ h s.zy s.er) λx h1 v p1 q1=>jL λhg=>?_;have s1:=s.ext p1;obtain⟨s2,f2⟩:=s1.put (d1:=.rl (ds++[x.2])) (ob:=.lst (vs++[v])) hv e3 ⟨_,rfl,(e5.ext p1).append (ao.cons q1.1 ao.nil)⟩;have l:=e5.length;refine⟨.nx env,h1.set b (.lst (vs++[v])),?_,O,s2,(Fm.refl s p1).trans (f2.dR λj hj=>?_)⟩
  ·have g:=bB p1 e4;unfold met bnd ask aN aB put ret;dsimp only;rw[g];dsimp only;rw[Vv (by rw[<-l];exact hg)]
  ·rw[VM.mp hj];exact WI _ Vs
 ·trivial
theorem zB{i:Nat}(ha:bG Φ Ψ a):x9 Φ Ψ ms (.expr (.met .extend (.var i) #[a])):=λA0 h0 aa env h O s=>by
 rw[fJ,bW];try dsimp only
 split
 ·rename_i ds hv
  obtain⟨b,e2,e3,vs,e4,e5⟩:=s.ow i _ hv;have ev:bnd (aI Φ (.met .extend (.var i) #[a]) env) (λ_=>ret (Fl.nx env)) h=bnd (aI Φ a env) (λv=>bnd (met .extend (.ref b) [v]) λ_=>ret (Fl.nx env)) h:=by
   rw[aI,aj,aZ (cY e2)];rw[aj,aZ (a:=()) (h1:=h) (by unfold ask aN;simp[recv,e4])];rw[aj,bq,aj]
   congr 1
  rw[ev];refine bM s (ha aa env _ h s.zy s.er) λx h1 v p1 q1=>?_;obtain⟨f,d⟩:=x;cases d<;>first|trivial|skip
  rename_i ts;have q:=q1.1;dsimp only at q;rw[Dn]at q;obtain⟨ws,rfl,q⟩:=q;refine jL λhg=>?_;have s1:=s.ext p1;obtain⟨s2,f2⟩:=s1.put (d1:=.rl (ds++ts)) (ob:=.lst (vs++ws)) hv e3 ⟨_,rfl,(e5.ext p1).append q⟩;have l:=e5.length;have l2:=q.length;refine⟨.nx env,h1.set b (.lst (vs++ws)),?_,O,s2,(Fm.refl s p1).trans (f2.dR λj hj=>?_)⟩
  ·have g:=bB p1 e4;unfold met bnd ask aN aB put ret ql;dsimp only;rw[g];dsimp only;rw[Vv (by rw[<-l,<-l2];exact hg)]
  ·rw[VM.mp hj];exact WI _ Vs
 ·trivial
theorem E7(hΦ:∀j,Imp (Φ j) (Ψ j))(ho:cO e=true):x9 Φ Ψ ms (.expr e):=by
 have V:=v_all hΦ;have gen:(∀aa,bW Ψ ms (.expr e) aa=pb (aV Ψ e aa) λ_=>.ok (.nx aa))->x9 Φ Ψ ms (.expr e):=λhx=>BZ (V.1 e ho) hx;cases e with
 |met m a es=>
  cases m with
  |join=>exact gen λaa=>by rw[bW]<;>(intros;simp_all)
  |append=>
   cases a with
   |var i=>
    cases es with
    |nil=>exact gen λaa=>by rw[bW]<;>(intros;simp_all)
    |cons x r=>
     cases r with
     |nil=>exact zA (V.1 x (b9 (b9 ho).2).1)
     |cons _ _=>exact gen λaa=>by rw[bW]<;>(intros;simp_all)
   |_=>exact gen λaa=>by rw[bW]<;>(intros;simp_all)
  |extend=>
   cases a with
   |var i=>
    cases es with
    |nil=>exact gen λaa=>by rw[bW]<;>(intros;simp_all)
    |cons x r=>
     cases r with
     |nil=>exact zB (V.1 x (b9 (b9 ho).2).1)
     |cons _ _=>exact gen λaa=>by rw[bW]<;>(intros;simp_all)
   |_=>exact gen λaa=>by rw[bW]<;>(intros;simp_all)
  |remove=>exact gen λaa=>by rw[bW]<;>(intros;simp_all)
  |pop=>exact gen λaa=>by rw[bW]<;>(intros;simp_all)
 |_=>exact gen λaa=>by rw[bW]<;>(intros;simp_all)
end
section
variable {Φ:Nat->List Val->M Val} {Ψ:Nat->List Val->Pr FV} {ms:List Nat}
theorem B0{i:Nat}{l:List Nat}(h:i∈l):∀j∈[i],j∈l:=λj hj=>by rw[VM.mp hj];exact h
theorem Ka(hΦ:∀j,Imp (Φ j) (Ψ j))(ho:cO e=true):x9 Φ Ψ ms (.asg p e):=λA0 h0 aa env h O s=>by
 have V:=(v_all hΦ).1 e ho;cases p with
 |one i=>
  rw[fJ,bW];try dsimp only
  split
  ·refine jL λhf=>?_
   refine bM s (Ny hΦ hf ho aa env _ h s.zy s.er) λx h1 v p1 q1=>?_;obtain⟨f,d⟩:=x;cases d<;>first|trivial|skip
   ·obtain⟨h2,vs,rfl,rfl,p2,q2⟩:=q1 rfl;obtain⟨s2,f2⟩:=s.fresh (i:=i) p2 q2;exact⟨_,_,rfl,_,s2,f2.dR (B0 (by simp[mS,mQ,stored]))⟩
   ·obtain⟨h2,vs,rfl,rfl,p2,q2⟩:=q1 rfl;obtain⟨s2,f2⟩:=s.fresh (i:=i) p2 q2;exact⟨_,_,rfl,_,s2,f2.dR (B0 (by simp[mS,mQ,stored]))⟩
  ·refine bM s (V aa env _ h s.zy s.er) λx h1 v p1 q1=>?_
   have hnw:JV (gI x.1 x.2)=true->Dn (Al (Fr h0.length) O) h1 x.2 v:=λz=>by
    have hx:x.1=true:=by
     unfold gI at z;split at z
     ·rename_i hh;simp only[and_eq_true]at hh;exact hh.1
     ·cases z
    refine(q1.2 hx).dR λo ho=>?_;cases o with
    |none=>exact ho.elim
    |some k=>exact⟨VX s.pre.length_le ho,λj _ e=>by have:=(s.own j k e).2.1;have ho':h.length<=k:=ho;omega⟩
   have hrd:pG (gI x.1 x.2)=true:=by unfold gI;split<;>rfl
   obtain⟨s2,f2⟩:=(s.ext p1).setM (i:=i) hrd q1.1 hnw;exact⟨_,_,rfl,_,s2,(Fm.refl s p1).trans (f2.dR (B0 (by simp[mS,mQ,stored])))⟩
 |tup is=>
  rw[fJ,bW];try dsimp only
  refine jL λhf=>bM s (V aa env _ h s.zy s.er) λx h1 v p1 q1=>?_;have s1:=s.ext p1;refine bM s1 (R:=λak h' env'=>∃O',SR A0 h0 ak env' h' O'/\Fm (stored (.tup is)) aa env h1 O ak env' h' O') (bu λak ev=>?_) λak h2 env' p2 hh=>?_
  ·obtain⟨env',O',b1,b2,b3⟩:=s1.bind ev q1.1;exact⟨env',b1,O',b2,b3⟩
  ·obtain⟨O',b2,b3⟩:=hh;exact bf ⟨O',b2,(Fm.refl s p1).trans (b3.dR λj hj=>by simp only[mS,mQ];exact VW _ hj)⟩
theorem Kc{i:Nat}(hΦ:∀j,Imp (Φ j) (Ψ j))(ho:cO e=true):x9 Φ Ψ ms (.aug i o e):=λA0 h0 aa env h O s=>by rw[bW];trivial
theorem ya(k:Key)(l:List (Key×Val)):(l.any λkv=>decide (kv.1=k))=((l.map (·.1)).any λx=>decide (x=k)):=by
 rw[any_map];rfl
theorem yb(e:Dn A h d v):∀{kvs:List (Key×Val)} {ds:List Val},ao A h ds (kvs.map (·.2)) ->
  ao A h ((((kvs.map (·.1)).zip ds).map λkv=>if kv.1=k then (kv.1,d) else kv).map (·.2)) ((kvs.map λkv=>if kv.1=k then (kv.1,v) else kv).map (·.2))
 |[],ds,q=>by simp only[map_nil,List.zip_nil_left];exact ao.nil
 | (k',v')::kvs,ds,q=>by
  have l:=q.length;cases ds with
  |nil=>simp at l
  |cons d' ds=>
   simp only[map_cons]at q;rw[ao]at q;obtain⟨v1,r,e1,q1,q2⟩:=q;cases e1;simp only[map_cons,List.zip_cons_cons];refine ao.cons ?_ (yb e q2)
   by_cases hk:k'=k
   ·rw[Vv hk,Vv hk];exact e
   ·rw[Vw hk,Vw hk];exact q1
theorem mC(k:Key)(d:Val)(l:List (Key×Val)):(l.map λkv=>if kv.1=k then (kv.1,d) else kv).map (·.1)=l.map (·.1):=by
 rw[Wf];refine WL λx _=>?_;show (if x.1=k then (x.1,d) else x).1=x.1
 split<;>rfl
theorem E8(hk:kvs.map (·.1)=ks)(q:ao A h ds (kvs.map (·.2)))(e:Dn A h d v) :
  (j8 kvs k v).map (·.1)=(j8 (ks.zip ds) k d).map (·.1)/\ao A h ((j8 (ks.zip ds) k d).map (·.2)) ((j8 kvs k v).map (·.2)):=by
 subst hk;have l:=q.length;rw[Vp]at l;have z1:((kvs.map (·.1)).zip ds).map (·.1)=kvs.map (·.1):=List.map_fst_zip (by rw[Vp];omega);have z2:((kvs.map (·.1)).zip ds).map (·.2)=ds:=List.map_snd_zip (by rw[Vp];omega);unfold j8;rw[ya,ya,z1]
 split
 ·rw[mC,mC,z1];exact⟨rfl,yb e q⟩
 ·rw[Wg,Wg,Wg,Wg,z1,z2];exact⟨rfl,q.append (ao.cons e ao.nil)⟩
theorem E9(hΦ:∀j,Imp (Φ j) (Ψ j))(ho:cO o=true)(hi:cO i=true)(hv:cO v=true):x9 Φ Ψ ms (.iZ o i v):=λA0 h0 aa env h O s=>by
 have V:=(v_all hΦ).1;cases o with
 |var j=>
  rw[fJ,bW];refine bM s (V v hv aa env _ h s.zy s.er) λx h1 w p1 q1=>?_;have s1:=s.ext p1
  split
  ·rename_i ds hj
   obtain⟨b,e2,e3,vs,e4,e5⟩:=s1.ow j _ hj;rw[aZ (cY e2)];refine bM s1 (V i hi aa env _ h1 s1.zy s1.er) λz h2 u p2 q2=>?_;have s2:=s1.ext p2;obtain⟨f,d⟩:=z;have q:=q2.1;cases d<;>first|trivial|skip
   dsimp only at q;rw[Dn]at q;subst q;rename_i kk;have g:=bB p2 e4;have l:=e5.length;show gb A0 h0 _ _ (pb (pl (qZ ds.length kk)) _);cases hn:qZ ds.length kk with
   |none=>trivial
   |some n=>obtain⟨s3,f3⟩:=s2.put (d1:=.rl (ds.set n x.2)) (ob:=.lst (vs.set n w)) hj e3 ⟨_,rfl,(e5.ext p2).set n (q1.1.ext p2)⟩;refine⟨.nx env,h2.set b (.lst (vs.set n w)),?_,O,s3,(Fm.refl s (p1.trans p2)).trans (f3.dR (B0 (by simp[mS,pH])))⟩;rw[l]at hn;simp only[t6];unfold bnd ask aN put ret;dsimp only;rw[g];dsimp only;rw[hn]
  ·rename_i ks ds hj
   obtain⟨b,e2,e3,kvs,e4,ek,e5⟩:=s1.ow j _ hj;rw[aZ (cY e2)];refine bM s1 (V i hi aa env _ h1 s1.zy s1.er) λz h2 u p2 q2=>?_;have s2:=s1.ext p2;obtain⟨f,d⟩:=z;have q:=q2.1;dsimp only at q;show gb A0 h0 _ _ (pb (pl (keyOf d)) _);cases hk:keyOf d with
   |none=>trivial
   |some kk=>
    have hu:keyOf u=some kk:=by
     cases d<;>simp only[keyOf]at hk<;>first|(cases hk;done)|skip
     all_goals (rw[Dn]at q;subst q;exact hk)
    show gb A0 h0 _ _ (pg _ _);refine jL λhl=>?_;have g:=bB p2 e4;obtain⟨k1,k2⟩:=E8 (k:=kk) ek (e5.ext p2) (q1.1.ext p2);obtain⟨s3,f3⟩:=s2.put (d1:=putD ks ds kk x.2) (ob:=.dct (j8 kvs kk w)) hj e3 ⟨_,rfl,k1,k2⟩;refine⟨.nx env,h2.set b (.dct (j8 kvs kk w)),?_,O,s3,(Fm.refl s (p1.trans p2)).trans (f3.dR (B0 (by simp[mS,pH])))⟩;have hl':decide (kvs.length<sizeLine)=true:=by rw[<-ek,Vp]at hl;exact hl
    simp only[t6];unfold bnd ask aN put ret aB;dsimp only;rw[g];dsimp only;rw[hu];dsimp only;rw[Vv hl']
  ·trivial
 |_=>rw[bW]<;>first|trivial|(intros;simp_all)
theorem Kd(hΦ:∀j,Imp (Φ j) (Ψ j))(hc:cO c=true)(ha:rZ Φ Ψ ms a)(hb:rZ Φ Ψ ms b):x9 Φ Ψ ms (.iff c a b):=λA0 h0 aa env h O s=>by
 have V:=(v_all hΦ).1 c hc;rw[fJ,bW];refine bM s (pI V s.zy s.er) λx h1 v p1 q1=>?_;have s1:=s.ext p1;refine bM s1 (R:=λt _ t'=>t'=t) (cj λt et=>⟨t,rV q1 et,rfl⟩) λt h2 t' p2 et=>?_;subst et;have s2:=s1.ext p2;cases t' with
 |true=>
  rw[Vv rfl,Vv rfl];refine gP (ha A0 h0 aa env h2 O s2) λf h' g r=>(r.pre s (p1.trans p2)).dR λi hi=>?_;simp only[E6,mS,pH,mQ,mem_append]at hi |-
  rcases hi with z|z
  ·exact .inl (.inl z)
  ·exact .inr (.inl z)
 |false=>
  rw[Vw Vl,Vw Vl];refine gP (hb A0 h0 aa env h2 O s2) λf h' g r=>(r.pre s (p1.trans p2)).dR λi hi=>?_;simp only[E6,mS,pH,mQ,mem_append]at hi |-
  rcases hi with z|z
  ·exact .inl (.inr z)
  ·exact .inr (.inr z)
def v8(h:Hs)(O:Nat->Option Nat)(m:List Nat)(src:Src)(ws:List Val):Prop :=
 ∀h':Hs,(∀k,k<h.length->(∀i,O i≠some k)->h'[k]?=h[k]?)->(∀i,i∉m->∀a,O i=some a->h'[a]?=h[a]?)->src.items h'=some ws
theorem eF{i:Nat}(e:h[i]?=some (.lst ws)):(Src.live i).items h=some ws:=by simp[Src.items,ay,e]
theorem eG{i:Nat}(e:h[i]?=some (.lst ws)):(Src.enum i).items h=some (bQ 0 ws):=by simp[Src.items,ay,e]
theorem uB{A0:AP}{h0:Hs}{m:List Nat}(hb:∀aa env h O x v,SR A0 h0 aa env h O->Dn (Al A0 O) h x v->gb A0 h0 (RF A0 h0 m aa env h O) (body v env h) (bodyV x aa))
  {kT:aL} {rY:Env} {h1:Hs} {O1:Nat->Option Nat} (st:v8 h1 O1 m src ws) :
  ∀(xs vs:List Val) (i:Nat) (aa:aL) (env:Env) (h:Hs) (O:Nat->Option Nat),SR A0 h0 aa env h O->Fm m kT rY h1 O1 aa env h O->ws.drop i=vs->ao (Al A0 O) h xs vs ->
   gb A0 h0 (RF A0 h0 m kT rY h1 O1) (forM src body vs.length i env h) (iU bodyV xs aa)
 | [],vs,i,aa,env,h,O,s,f,hd,q=>by
  rw[ao]at q;subst q;have hl:ws.length<=i:=Xx.mp hd;have hi:=st h (λk hk n=>(f.keep k hk n).1) (λj hj a e=>(f.stay j hj).2.2.2 a e);rw[iU];refine⟨.nx env,h,?_,O,s,f⟩;show forM src body 0 i env h=_;simp only[forM];unfold bnd ask aN aB;dsimp only;rw[hi];dsimp only;rw[Vv (decide_eq_true hl)];rfl
 | x::xs,vs,i,aa,env,h,O,s,f,hd,q=>by
  rw[ao]at q;obtain⟨v,r,rfl,q1,q2⟩:=q;have hv:ws[i]?=some v:=by have:=Wc (λl=>l[0]?) hd;simpa using this
  have hr:ws.drop (i+1)=r:=by
   have:ws.drop (i+1)=(ws.drop i).drop 1:=by rw[XW]
   rw[this,hd];rfl
  have hi:=st h (λk hk n=>(f.keep k hk n).1) (λj hj a e=>(f.stay j hj).2.2.2 a e);have ev:forM src body (v::r).length i env h=bnd (body v env) (λf=>match f with
   |.nx env'=>forM src body r.length (i+1) env'
   |.ct env'=>forM src body r.length (i+1) env'
   |.bk env'=>ret (.nx env')
   |.rt v=>ret (.rt v)) h:=by
   show forM src body (r.length+1) i env h=_;simp only[forM];unfold bnd ask aN;dsimp only;rw[hi];dsimp only;rw[hv];try rfl
  rw[ev,iU];refine n8 (hb aa env h O x v s q1) λfl h2 gl hr2=>?_;have go:∀ak env' O',SR A0 h0 ak env' h2 O'->Fm m aa env h O ak env' h2 O'->gb A0 h0 (RF A0 h0 m kT rY h1 O1) (forM src body r.length (i+1) env' h2) (iU bodyV xs ak):=λak env' O' s' f'=>by
   refine uB hb st xs r (i+1) ak env' h2 O' s' (f.trans f') hr (ao.move jh (λk o hk g=>?_) _ _ q2);have hlt:k<h.length:=(Vn.mp g).1;obtain⟨a1,a2⟩:=f'.keep k hlt λi=>hk.2 i rfl;exact⟨⟨hk.1,λi _=>a2 i⟩,a1.trans g⟩
  cases fl<;>cases gl<;>first|exact hr2.elim|skip
  ·obtain⟨O',s',f'⟩:=hr2;exact go _ _ O' s' f'
  ·exact bf hr2
  ·obtain⟨O',s',f'⟩:=hr2;exact bf ⟨O',s',f.trans f'⟩
  ·obtain⟨O',s',f'⟩:=hr2;exact go _ _ O' s' f'
theorem B3{A0:AP}{m:List Nat}(q:Dn (Al A0 O) h d v)(e:fk k [d]=some xs):∃src ws,srcOf k [v]=some src/\ao (Al A0 O) h xs ws/\src.items h=some ws/\v8 h O m src ws:=by
 have lst:∀es,d=.rl es->(∃ws,v=.rl ws/\ao (Al A0 O) h es ws)\/∃a ws,v=.ref a/\h[a]?=some (.lst ws)/\ao (Al A0 O) h es ws/\∀h':Hs,(∀k,k<h.length->(∀i,O i≠some k)->h'[k]?=h[k]?)->h'[a]?=some (Ob.lst ws):=by
  rintro es rfl;rw[Dn]at q
  rcases q with ⟨ws,rfl,_,q⟩|⟨a,ws,rfl,al,g,q⟩
  ·exact .inl ⟨ws,rfl,q⟩
  ·exact .inr ⟨a,ws,rfl,g,q,λh' hk=>(hk a (Vn.mp g).1 λi=>al.2 i rfl).trans g⟩
 cases k with
 |seq=>
  cases d<;>first|(cases e;done)|skip
  ·rename_i z
   change (if L2.isAscii z=true then some (signs z) else none)=some xs at e;rw[Dn]at q;subst q;split at e
   ·rename_i hn;cases e
    refine⟨.fix (signs z),signs z,Vv hn,?_,rfl,λ_ _ _=>rfl⟩;unfold signs;generalize z.cps.toList=l
    induction l with
    |nil=>exact ao.nil
    |cons a l ih=>exact ao.cons (by rw[Dn]) ih
   ·cases e
  ·cases e;rw[Dn]at q;obtain⟨ws,rfl,q⟩:=q;exact⟨.fix ws,ws,rfl,q,rfl,λ_ _ _=>rfl⟩
  ·cases e
   rcases lst _ rfl with ⟨ws,rfl,q'⟩|⟨a,ws,rfl,g,q',st⟩
   ·exact⟨.fix ws,ws,rfl,q',rfl,λ_ _ _=>rfl⟩
   ·exact⟨.live a,ws,rfl,q',eF g,λh' hk _=>eF (st h' hk)⟩
 |range=>
  cases d<;>first|(cases e;done)|skip
  rw[Dn]at q;subst q;rename_i n;change (if inR n=true then some (bT 0 n.toNat) else none)=some _ at e;split at e
  ·rename_i hn;cases e;exact⟨.fix _,_,Vv hn,gK,rfl,λ_ _ _=>rfl⟩
  ·cases e
 |enum=>
  cases d<;>first|(cases e;done)|skip
  cases e
  rcases lst _ rfl with ⟨ws,rfl,q'⟩|⟨a,ws,rfl,g,q',st⟩
  ·exact⟨.fix _,_,rfl,eW 0 q',rfl,λ_ _ _=>rfl⟩
  ·exact⟨.enum a,_,rfl,eW 0 q',eG g,λh' hk _=>eG (st h' hk)⟩
 |zip=>cases e
theorem B4{α β γ δ:Type}{R:α -> Hs -> β -> Prop}{R':γ -> Hs -> δ -> Prop}{m:M β}{f:β -> M δ}{p:Pr α}{F:α -> Pr γ}(r:Rel A h R (m h) p)(k:∀a h1 b,p=.ok a->h<+:h1->R a h1 b->Rel A h1 R' (f b h1) (F a)):Rel A h R' (bnd m f h) (pb p F):=by
 unfold bnd;cases p with
 |ok a=>
  obtain⟨b,h1,e,q,r⟩:=r;rw[e];show Rel A h R' (f b h1) (F a);have:=k a h1 b rfl q r;cases e2:F a with
  |ok c=>rw[e2]at this;obtain⟨d,h2,e3,q2,r2⟩:=this;exact⟨d,h2,e3,q.trans q2,r2⟩
  |exc c es=>rw[e2]at this;obtain⟨d,h2,e3,q2,r2⟩:=this;exact⟨d,h2,e3,q.trans q2,r2⟩
  |no=>trivial
 |exc c es=>obtain⟨ws,h1,e,q,r⟩:=r;rw[e];exact⟨ws,h1,rfl,q,r⟩
 |no=>trivial
theorem B5{e e2:IE}(h:fG Ψ (.cons e (.cons e2 r)) aa=.ok ds):2<=ds.length:=by
 rw[fG,fG]at h;cases h1:(if isVar e=true then pl (jQ aa e) else aV Ψ e aa) with
 |ok a=>
  rw[h1]at h;cases h2:(if isVar e2=true then pl (jQ aa e2) else aV Ψ e2 aa) with
  |ok b=>
   rw[h2]at h;cases h3:fG Ψ r aa with
   |ok c=>rw[h3]at h;cases h;simp
   |exc _ _=>rw[h3]at h;cases h
   |no=>rw[h3]at h;cases h
  |exc _ _=>rw[h2]at h;cases h
  |no=>rw[h2]at h;cases h
 |exc _ _=>rw[h1]at h;cases h
 |no=>rw[h1]at h;cases h
theorem B6{d1 d2:Val}(ex:fk k [d1,d2]=some xs):k=.range/\∃n m,d1=.int n/\d2=.int m/\(inR n&&inR m)=true/\xs=bT n (m-n).toNat:=by
 cases k with
 |seq=>cases d1<;>cases ex
 |enum=>cases d1<;>cases ex
 |zip=>cases ex
 |range=>
  cases d1<;>first|(cases ex;done)|skip
  cases d2<;>first|(cases ex;done)|skip
  rename_i n m;change (if (inR n&&inR m)=true then some (bT n (m-n).toNat) else none)=some xs at ex
  by_cases hn:(inR n&&inR m)=true
  ·rw[Vv hn]at ex;cases ex;exact⟨rfl,n,m,rfl,rfl,hn,rfl⟩
  ·rw[Vw hn]at ex;cases ex
theorem v9{d1 d2 d3:Val}:fk k (d1::d2::d3::r)=none:=by
 cases k with
 |seq=>cases d1<;>rfl
 |enum=>cases d1<;>rfl
 |zip=>rfl
 |range=>cases d1<;>first|rfl|(cases d2<;>rfl)
theorem Fb{A0:AP}{h0:Hs}{m:List Nat}(hΦ:∀j,Imp (Φ j) (Ψ j))(hi:kR it=true)(s:SR A0 h0 aa env h O)(hm:∀i,it=.cons (.var i) .nil->i∉m) :
  Rel (Al A0 O) h (λxs h' src=>∃ws,ao (Al A0 O) h' xs ws/\src.items h'=some ws/\v8 h' O m src ws) (bnd (bq Φ it env) (λits=>aN (srcOf k its)) h) (pb (fG Ψ it aa) λits=>pl (fk k its)):=by
 have V:=v_all hΦ;cases it with
 |nil=>rw[fG];cases k<;>trivial
 |cons e es=>
  cases es with
  |nil=>
   replace hi:=b9 hi
   by_cases hv:isVar e=true
   ·cases e<;>first|(cases hv;done)|skip
    rename_i i;rw[fG,fG,Vv hv];simp only[jQ];cases hx:aa[i]? with
    |none=>trivial
    |some o=>
     cases o with
     |none=>trivial
     |some fd=>
      obtain⟨f,d⟩:=fd;show Rel _ _ _ _ (pl (fk k [d]));cases hf:pG f with
      |false=>
       have hf:f=.ow:=by cases f<;>first|rfl|cases hf
       subst hf;obtain⟨a,e2,e3,e4⟩:=s.ow i d hx;have ev:bnd (bq Φ #[.var i] env) (λits=>aN (srcOf k its)) h=aN (srcOf k [.ref a]) h:=by rw[bq,bq,aj,aZ (cY e2)];rfl
       rw[ev];refine bu λxs ex=>?_;have hd:∃ds,d=.rl ds:=by cases d<;>first|exact⟨_,rfl⟩|exact False.elim e4|(cases k<;>cases ex)
       obtain⟨ds,rfl⟩:=hd;obtain⟨vs,e4,e5⟩:=e4;have st:∀h':Hs,(∀i,i∉m->∀a,O i=some a->h'[a]?=h[a]?)->h'[a]?=some (Ob.lst vs):=λh' hs=>(hs i (hm i rfl) a e3).trans e4;cases k with
       |seq=>cases ex;exact⟨.live a,rfl,vs,e5,eF e4,λh' _ hs=>eF (st h' hs)⟩
       |range=>cases ex
       |enum=>cases ex;exact⟨.enum a,rfl,_,eW 0 e5,eG e4,λh' _ hs=>eG (st h' hs)⟩
       |zip=>cases ex
      |true=>
       obtain⟨v,e1,e2,_⟩:=s.sh i f d hx hf;have ev:bnd (bq Φ #[.var i] env) (λits=>aN (srcOf k its)) h=aN (srcOf k [v]) h:=by rw[bq,bq,aj,aZ (cY e1)];rfl
       rw[ev];refine bu λxs ex=>?_;obtain⟨src,ws,a1,a2,a3,a4⟩:=B3 (m:=m) e2 ex;exact⟨src,a1,ws,a2,a3,a4⟩
   ·rw[fG,fG,Vw hv]
    have ev:bnd (bq Φ #[e] env) (λits=>aN (srcOf k its)) h=bnd (aI Φ e env) (λv=>aN (srcOf k [v])) h:=by rw[bq,bq,aj];rfl
    rw[ev];have ep:(pb (pb (aV Ψ e aa) λd=>pb (Pr.ok ([]:List Val)) λp=>Pr.ok (d.2::p)) λits=>pl (fk k its))=pb (aV Ψ e aa) λd=>pl (fk k [d.2]):=by cases aV Ψ e aa<;>rfl
    rw[ep];refine af (V.1 e hi.1 aa env _ h s.zy s.er) λx h1 v p1 q1=>bu λxs ex=>?_;obtain⟨src,ws,a1,a2,a3,a4⟩:=B3 (m:=m) q1.1 ex;exact⟨src,a1,ws,a2,a3,a4⟩
  |cons e2 r=>
   have V2:=V.2 _ hi;refine B4 (V2.2 aa env _ h s.zy s.er) λds h1 vs eb p1 q1=>bu λxs ex=>?_;have hl:2<=ds.length:=B5 eb
   match ds,q1 with
   |[],q1=>cases k<;>cases ex
   |[d],q1=>simp at hl
   |[d1,d2],q1=>obtain⟨v,rr,rfl,hv,hr⟩:=q1;obtain⟨w,rfl,hw⟩:=Dj.one hr;obtain⟨rfl,n,m',rfl,rfl,hn,rfl⟩:=B6 ex;have:=hv.int;subst this;have:=hw.int;subst this;exact⟨.fix _,Vv hn,_,gK,rfl,λ_ _ _=>rfl⟩
   |d1::d2::d3::dr,q1=>rw[v9]at ex;cases ex
theorem Ke(hΦ:∀j,Imp (Φ j) (Ψ j))(hi:kR it=true)(hb:rZ Φ Ψ ms body):x9 Φ Ψ ms (.for p k it body):=λA0 h0 aa env h O s=>by
 rw[fJ,bW];refine jL λhg=>?_;rw[W5]at hg;have hm:∀i,it=.cons (.var i) .nil->i∉mS (.for p k it body):=by
  rintro i rfl z;simp only[BP,and_eq_true,not_eq_true',List.contains_eq_mem,decide_eq_false_iff_not]at hg;simp only[mS,pH,mQ,mem_append]at z
  rcases z with z|z|z
  ·exact hg.1.1.1 z
  ·exact hg.1.2 z
  ·exact hg.1.1.2 z
 have ev:∀(F:Src->M Fl),bnd (bq Φ it env) (λits=>bnd (aN (srcOf k its)) F) h=bnd (bnd (bq Φ it env) λits=>aN (srcOf k its)) F h:=λF=>by rw[aj]
 have ep:∀(F:List Val->Pr xU),pb (fG Ψ it aa) (λits=>pb (pl (fk k its)) F)=pb (pb (fG Ψ it aa) λits=>pl (fk k its)) F:=λF=>by cases fG Ψ it aa<;>rfl
 rw[ev,ep];refine bM s (Fb (m:=mS (.for p k it body)) hΦ hi s hm) λxs h1 src p1 hx=>?_;obtain⟨ws,q1,q2,st⟩:=hx;have s1:=s.ext p1;have l:=q1.length;have QO:∀(F:List Val->M Fl),bnd (ask λh=>src.items h) F h1=F ws h1:=λF=>by unfold bnd ask aN;dsimp only;rw[q2]
 rw[QO];refine gP (uB (m:=mS (.for p k it body)) (λak env' h' O' x v s' qx=>?_) st xs ws 0 aa env h1 O s1 (Fm.refl s1 (VG _)) rfl q1) λf h' g r=>r.pre s p1;refine bM s' (R:=λgO h2 gr=>∃O2,SR A0 h0 gO gr h2 O2/\Fm (stored p) ak env' h' O' gO gr h2 O2) (bu λgO e2=>?_) λgO h2 gr p2 hh=>?_
 ·obtain⟨gr,O2,b1,b2,b3⟩:=s'.bind e2 qx;exact⟨gr,b1,O2,b2,b3⟩
 ·obtain⟨O2,b2,b3⟩:=hh
  refine gP (hb A0 h0 gO gr h2 O2 b2) λf h'' g r=>RF.seq (b3.dR λi hi=>?_) (r.dR λi hi=>?_)
  ·simp only[mS,pH,mQ,mem_append];exact .inr (.inl hi)
  ·simp only[E6,mS,pH,mQ,mem_append]at hi |-
   rcases hi with z|z
   ·exact .inl z
   ·exact .inr (.inr z)
theorem Kf{n:Nat}(hΦ:∀j,Imp (Φ j) (Ψ j))(hc:cO c=true)(hb:rZ Φ Ψ ms body):x9 Φ Ψ ms (.whl n c body):=λA0 h0 aa env h O s=>by rw[bW];trivial
theorem GB:pG (R1 m)=true:=by cases m<;>rfl
theorem SR.fr{A0:AP}{h0:Hs}(s:SR A0 h0 aa env h O):ER A0 (o5 aa) env h:=λi f d e=>by
 unfold o5 at e;rw[VI]at e;cases hx:aa[i]? with
 |none=>rw[hx]at e;cases e
 |some o=>
  rw[hx]at e;cases o with
  |none=>cases e
  |some fd=>
   obtain⟨m,d'⟩:=fd;cases e;rw[Vw (by rw[GB];decide)];cases hm:pG m with
   |false=>
    have hm:m=.ow:=by cases m<;>first|rfl|cases hm
    subst hm;obtain⟨a,e2,e3,e4⟩:=s.ow i d hx;exact⟨_,e2,(e4.mono (A':=A0) (λ_ g=>g) λ_ _ z=>z.dR λ_ y=>y.1).dn (s.up a (s.own i a e3).1)⟩
   |true=>obtain⟨v,e1,e2,_⟩:=s.sh i m d hx hm;exact⟨v,e1,e2.dR λ_ z=>z.1⟩
theorem lW{A0:AP}{h0:Hs}{α β γ δ:Type}{R:α -> Hs -> β -> Prop}{R':γ -> Hs -> δ -> Prop}{mm:M β}{f:β -> M δ}{p:Pr α}{F:α -> Pr γ}(s:SR A0 h0 aa env h O)(r:Rel A0 h R (mm h) p)(k:∀a h1 b,h<+:h1->R a h1 b->gb A0 h0 R' (f b h1) (F a)):gb A0 h0 R' (bnd mm f h) (pb p F):=by
 unfold bnd;cases p with
 |ok a=>obtain⟨b,h1,e,q,r⟩:=r;rw[e];exact k a h1 b q r
 |exc c es=>obtain⟨ws,h1,e,q,r⟩:=r;rw[e];exact⟨ws,h1,rfl,s.pre.trans q,r⟩
 |no=>trivial
theorem zC(h:EM env es=some p):∃i j,es=.cons (.var i) #[.var j]/\env[i]?=some (some (.nw,p.1))/\env[j]?=some (some (.nw,p.2)):=by
 unfold EM at h;split at h
 ·split at h
  ·rename_i a b;cases h;exact⟨_,_,rfl,a,b⟩
  ·cases h
 ·cases h
theorem Kg(hΦ:∀j,Imp (Φ j) (Ψ j))(ho:cO e=true):x9 Φ Ψ ms (.ret e):=λA0 h0 aa env h O s=>by
 have V:=(v_all hΦ).1 e ho;have gen:Pj Ψ e aa=aV Ψ e aa->gb A0 h0 (RF A0 h0 (mS (.ret e)) aa env h O) (fJ Φ (.ret e) env h) (bW Ψ ms (.ret e) aa):=λhe=>by
  rw[fJ,bW,he];exact bM s (V aa env _ h s.zy s.er) λx h1 v p1 q1=>bf ⟨q1.1.dR λ_ z=>z.1,λf=>(q1.2 f).dR (Fr.le s.pre.length_le),s.pre.trans p1⟩
 cases e with
 |var i=>
  rw[fJ,bW];simp only[Pj];cases hx:aa[i]? with
  |none=>trivial
  |some o=>
   cases o with
   |none=>trivial
   |some fd=>
    obtain⟨f,d⟩:=fd;cases hf:pG f with
    |false=>
     have hf:f=.ow:=by cases f<;>first|rfl|cases hf
     subst hf;obtain⟨a,e2,e3,e4⟩:=s.ow i d hx;rw[aZ (cY e2)];have ha:=s.own i a e3;cases d<;>first|exact False.elim e4|skip
     ·refine⟨_,h,rfl,?_,λhi=>?_,s.pre⟩
      ·exact(e4.mono (A':=A0) (λ_ g=>g) λ_ _ z=>z.dR λ_ y=>y.1).dn (s.up a ha.1)
      ·obtain⟨vs,e4,e5⟩:=e4;show Dn _ h (.rl _) (.ref a);rw[Dn];exact .inr ⟨a,vs,rfl,ha.1,e4,eV e5 hi⟩
     ·refine⟨_,h,rfl,?_,λhi=>?_,s.pre⟩
      ·exact(e4.mono (A':=A0) (λ_ g=>g) λ_ _ z=>z.dR λ_ y=>y.1).dn (s.up a ha.1)
      ·obtain⟨kvs,e4,ek,e5⟩:=e4;show Dn _ h (.dc _ _) (.ref a);rw[Dn];exact⟨a,kvs,rfl,ha.1,e4,ek,eV e5 hi⟩
    |true=>
     obtain⟨v,e1,e2,e3⟩:=s.sh i f d hx hf;rw[aZ (cY e1)];dsimp only;rw[Vv hf];refine⟨_,h,rfl,e2.dR λ_ z=>z.1,λhi=>?_,s.pre⟩
     rcases(XS _ _).mp hi with hi|hi
     ·exact(iH d v hi).mpr ((iH d v hi).mp e2)
     ·exact(e3 hi).dR λ_ z=>z.1
 |bin o a b=>rw[fJ,bW];exact lW s (V (o5 aa) env A0 h (s.up.ext s.pre) s.fr) λx h1 v p1 q1=>bf ⟨q1.1,λf=>(q1.2 f).dR (Fr.le s.pre.length_le),s.pre.trans p1⟩
 |call j es=>rw[fJ,bW];exact lW s (V (o5 aa) env A0 h (s.up.ext s.pre) s.fr) λx h1 v p1 q1=>bf ⟨q1.1,λf=>(q1.2 f).dR (Fr.le s.pre.length_le),s.pre.trans p1⟩
 |tup es=>
  rw[fJ,bW];change gb A0 h0 _ _ (pb (EN Ψ es aa) _);unfold EN
  split
  ·rename_i pp hp
   obtain⟨i,j,he,hi,hj⟩:=zC hp;subst he;obtain⟨v,e1,e2,e3⟩:=s.sh i .nw _ hi rfl;obtain⟨w,k1,k2,k3⟩:=s.sh j .nw _ hj rfl;have ev:aI Φ (.tup #[.var i,.var j]) env h=.ok (.tup [v,w]) h:=by rw[aI,bq,bq,bq];rw[aZ (a:=[v,w]) (h1:=h) (by rw[aZ (cY e1),aZ (a:=[w]) (h1:=h) (by rw[aZ (cY k1)];rfl)];rfl)];rfl
   rw[aZ ev];refine⟨_,h,rfl,?_,λ_=>?_,s.pre⟩
   ·show Dn A0 h (.tup _) _;rw[Dn];exact⟨_,rfl,ao.cons (e2.dR λ_ z=>z.1) (ao.cons (k2.dR λ_ z=>z.1) ao.nil)⟩
   ·show Dn (Fr h0.length) h (.tup _) _;rw[Dn];exact⟨_,rfl,ao.cons ((e3 rfl).dR λ_ z=>z.1) (ao.cons ((k3 rfl).dR λ_ z=>z.1) ao.nil)⟩
  exact lW s (V (o5 aa) env A0 h (s.up.ext s.pre) s.fr) λx h1 v p1 q1=>bf ⟨q1.1,λf=>(q1.2 f).dR (Fr.le s.pre.length_le),s.pre.trans p1⟩
 |_=>exact gen rfl
theorem Kh:rZ Φ Ψ ms .nil:=λA0 h0 aa env h O s=>by rw[jb,fV];exact bf ⟨O,s,Fm.refl s (VG _)⟩
theorem Fc(ha:x9 Φ Ψ ms a)(hr:rZ Φ Ψ ms r):rZ Φ Ψ ms (.cons a r):=λA0 h0 aa env h O s=>by
 rw[jb,fV];have w1:∀i∈mS a,i∈E6 (.cons a r):=λi hi=>by
  simp only[mS,E6,gh,j3,mem_append]at hi |-
  rcases hi with z|z
  ·exact .inl (.inl z)
  ·exact .inr (.inl z)
 have w2:∀i∈E6 r,i∈E6 (.cons a r):=λi hi=>by
  simp only[E6,gh,j3,mem_append]at hi |-
  rcases hi with z|z
  ·exact .inl (.inr z)
  ·exact .inr (.inr z)
 refine n8 (ha A0 h0 aa env h O s) λf h1 g rr=>?_;have rr:=rr.dR w1;cases f<;>cases g<;>first|exact rr.elim|skip
 ·obtain⟨O',s',f'⟩:=rr;exact gP (hr A0 h0 _ _ h1 O' s') λf h' g r'=>RF.seq f' (r'.dR w2)
 ·exact bf rr
 ·exact bf rr
 ·exact bf rr
theorem Nz(hΦ:∀j,Imp (Φ j) (Ψ j)):∀ss,n9 ss=true->rZ Φ Ψ ms ss:=by
 intro ss;refine eE.rec (motive_1:=λs=>QN s=true->x9 Φ Ψ ms s) (motive_2:=λss=>n9 ss=true->rZ Φ Ψ ms ss) ?_ ?_ ?_ ?_ ?_ ?_ ?_ ?_ ?_ ?_ ?_ ?_ ?_ ?_ ?_ ?_ ss
 ·exact λe f=>E7 hΦ f
 ·exact λp e f=>Ka hΦ f
 ·exact λi o e f=>Kc hΦ f
 ·intro o i v f;have f:=mT f;exact E9 hΦ f.1.1 f.1.2 f.2
 ·intro c a b ia ib f;have f:=mT f;exact Kd hΦ f.1.1 (ia f.1.2) (ib f.2)
 ·intro p k it b ib f;have f:=b9 f;exact Ke hΦ f.1 (ib f.2)
 ·intro n c b ib f;have f:=b9 f;exact Kf hΦ f.1 (ib f.2)
 ·exact λe f=>Kg hΦ f
 ·exact λ_ A0 h0 aa env h O s=>by rw[fJ,bW];exact bf ⟨by rw[Dn],λ_=>by rw[Dn],s.pre⟩
 ·exact λ_ A0 h0 aa env h O s=>by rw[fJ,bW];exact bf ⟨O,s,Fm.refl s (VG _)⟩
 ·exact λ_ A0 h0 aa env h O s=>by rw[fJ,bW];exact bf ⟨O,s,Fm.refl s (VG _)⟩
 ·exact λ_ A0 h0 aa env h O s=>by rw[fJ,bW];exact bf ⟨O,s,Fm.refl s (VG _)⟩
 ·exact λ_ A0 h0 aa env h O s=>by rw[bW];trivial
 ·exact λ_ _ _ _ _ A0 h0 aa env h O s=>by rw[bW];trivial
 ·exact λ_=>Kh
 ·intro a r ia ir f;have f:=b9 f;exact Fc (ia f.1) (ir f.2)
theorem NB{n:Nat}(u:Up A h)(q:ao A h ds vs):SR A h (ds.map (λd=>some (.sh,d))++replicate (n-ds.length) none) (vs.map some++replicate (n-vs.length) none) h (λ_=>none):=by
 have l:=q.length;have al:∀k,A k->Al A (λ_=>none) k:=λk hk=>⟨hk,λi z e=>by subst e;cases z⟩;have get:∀(i:Nat) (f:Mk) (d:Val),(ds.map (λd=>some (.sh,d))++replicate (n-ds.length) none:aL)[i]?=some (some (f,d))->f=.sh/\ds[i]?=some d:=λi f d e=>by
  by_cases hi:i<ds.length
  ·rw[VD (by simpa using hi),VI]at e
   cases ei:ds[i]? with
   |none=>rw[ei]at e;cases e
   |some d'=>rw[ei]at e;cases e;exact⟨rfl,rfl⟩
  ·rw[VT (by simp;omega)]at e;have:=VP e;rw[XD]at this;exact absurd this.2 (by simp)
 refine⟨by simp[l],λi m d e hm=>?_,λi d e=>?_,(λi a e=>nomatch e),(λi j a e=>nomatch e),VG _,u⟩
 ·obtain⟨hm',e⟩:=get i m d e;obtain⟨v,k1,k2⟩:=q.get e;have hi:i<vs.length:=(Vn.mp k1).1;exact⟨v,by rw[VD (by simpa using hi),VI,k1];rfl,k2.dR al,λz=>by subst hm';cases z⟩
 ·obtain⟨z,_⟩:=get i .ow d e;cases z
theorem bN{n:Nat}(hΦ:∀j,Imp (Φ j) (Ψ j))(ho:n9 body=true):Imp (j9 Φ n body) (dU Ψ n body):=λA h ds vs u q=>by
 have l:=q.length;have s:=NB (n:=n) u q;unfold j9 dU;have r:=n8 (R':=λx h' v=>h<+:h'/\RV A h x h' v) (Nz (ms:=gh body) hΦ body ho A h _ _ h _ s) (f:=λf=>match f with
  |.nx _=>ret .non
  |.rt v=>ret v
  |_=>aN none) (F:=λf=>match f with
  |.nx _=>.ok (true,.non)
  |.rt p=>.ok p
  | _=>.no) λf h1 g rr=>by
   cases f<;>cases g<;>first|exact rr.elim|skip
   ·obtain⟨O',s',_⟩:=rr;exact bf ⟨s'.pre,by show Dn _ _ Val.non _;rw[Dn],λ_=>by show Dn _ _ Val.non _;rw[Dn]⟩
   ·exact bf ⟨rr.2.2,rr.1,rr.2.1⟩
   ·trivial
   ·trivial
 revert r;generalize (pb (fV Ψ (gh body) body (ds.map (λd=>some (.sh,d))++replicate (n-ds.length) none)) _)=p;intro r;cases p with
 |ok x=>obtain⟨v,h',e,a,b⟩:=r;exact⟨v,h',e,a,b⟩
 |exc c es=>exact r
 |no=>trivial
end
abbrev bD:=List Val->Pr FV
def av(gs:List bD)(j:Nat):bD:=match gs[j]? with
 |some g=>g
 |none=>λ_=>.no
def dW(fs:List Row)(gs:List bD):Prop:=fs.length=gs.length/\∀(j:Nat) (r:Row) (g:bD),fs[j]?=some r->gs[j]?=some g->Imp r.2.2 g
theorem B7:dW [] []:=⟨rfl,λj r g e=>by simp at e⟩
theorem aE(a:dW fs gs)(j:Nat):Imp (look fs j) (av gs j):=by
 unfold look av;cases e:fs[j]? with
 |none=>
  have:gs[j]?=none:=by have:=Ws.mp e;exact Ws.mpr (by rw[<-a.1];exact this)
  rw[this];exact λ_ _ _ _ _ _=>trivial
 |some r=>
  cases e2:gs[j]? with
  |none=>exact λ_ _ _ _ _ _=>trivial
  |some g=>exact a.2 j r g e e2
theorem aG{k:Nat}(a:dW fs gs)(i:Imp f g):dW (fs++[(x,k,f)]) (gs++[g]):=by
 refine⟨by simp[a.1],λj r g' e1 e2=>?_⟩
 by_cases hj:j<fs.length
 ·rw[VD hj]at e1;rw[VD (by rw[<-a.1];exact hj)]at e2;exact a.2 j r g' e1 e2
 ·rw[VT (by omega)]at e1
  rw[VT (by rw[<-a.1];omega)]at e2;have hj0:j-fs.length=0:=by have:=(Vn.mp e1).1;simp at this;omega
  rw[<-a.1]at e2;rw[hj0]at e1 e2;simp at e1 e2;subst e1;subst e2;exact i
section
variable {α β γ:Type}
theorem cC(a:α)(f:α -> Pr β):pb (.ok a) f=f a:=rfl
theorem Kl(c:Prop)[Decidable c](m n:Pr α)(f:α -> Pr β):pb (if c then m else n) f=if c then pb m f else pb n f:=by split<;>rfl
theorem iR(m:Pr α)(f:α -> Pr β)(g:β -> Pr γ):pb (pb m f) g=pb m λx=>pb (f x) g:=by cases m<;>rfl
theorem eO(a:α):pl (some a)=.ok a:=rfl
theorem Fd(m:Pr α):pg true m=m:=rfl
theorem Km(c:Prop)[Decidable c](m:Pr α):pg (decide c) m=if c then m else .no:=by unfold pg;simp
theorem gx{c:Bool}(h:c=true)(m:Pr α):pg c m=m:=by rw[h];rfl
end
theorem B8{f:Bool}:pG (gI f d)=true:=by unfold gI;split<;>rfl
theorem NC:pG .sh=true:=rfl
theorem ND:pG .nw=true:=rfl
theorem NF:pG .ow=false:=rfl
theorem NG:JV .sh=false:=rfl
theorem NH:JV .nw=true:=rfl
theorem Kn{f:Bool}{i:Int}:gI f (.int i)=.sh:=by cases f<;>rfl
theorem NI{f:Bool}{i:Bool}:gI f (.bl i)=.sh:=by cases f<;>rfl
theorem Ko{f:Bool}:gI f (.str i)=.sh:=by cases f<;>rfl
theorem Kp{f:Bool}:gI f .non=.sh:=by cases f<;>rfl
theorem QS:gI false d=.sh:=rfl
theorem NJ:gI true (.rl ds)=.nw:=rfl
theorem NK:gI true (.dc ks ds)=.nw:=rfl
theorem uC(Q:List Val->aL->Prop):∀(xs done:List Val) (env:aL),Q done env->(∀(pre:List Val) (x:Val) (post:List Val) (env:aL),done++xs=pre++x::post->Q pre env->∃env',(body x env=.ok (.nx env')\/body x env=.ok (.ct env'))/\Q (pre++[x]) env')->∃env',iU body xs env=.ok (.nx env')/\Q (done++xs) env'
 |[],done,env,q,_=>⟨env,rfl,by rw[WS];exact q⟩
 | x::xs,done,env,q,h=>by
  obtain⟨env',e,q'⟩:=h done x xs env rfl q;have eq:done++x::xs=done++[x]++xs:=by simp
  obtain⟨gr,e2,q2⟩:=uC Q xs (done++[x]) env' q' (by rw[<-eq];exact h);refine⟨gr,?_,by rw[eq];exact q2⟩;rw[iU]
  rcases e with e|e<;>(rw[e,cC];exact e2)
theorem lX{f:Val->Pr (Option FV)}{g:Val->FV}:∀(xs:List Val),(∀x∈xs,f x=.ok (some (g x)))->fU f xs=.ok (xs.all λx=>(g x).1,xs.map λx=>(g x).2)
 |[],_=>rfl
 | x::xs,h=>by
  rw[fU,h x Vs,cC,lX xs λy hy=>h y (Vq _ hy),cC];rfl
section
variable {a b:Int} {x y:Str} {t:Bool} {vs ws:List Val} {v:Val}
theorem NL:jd .add (.int a) (.int b)=.ok (true,.int (a+b)):=rfl
theorem NO:jd .sub (.int a) (.int b)=.ok (true,.int (a-b)):=rfl
theorem oh(h:fm a b=true):jd .mul (.int a) (.int b)=.ok (true,.int (a*b)):=by simp only[jd];exact gx h _
theorem iJ(h:iT b=true):jd .fdiv (.int a) (.int b)=.ok (true,.int (a/b)):=by simp only[jd];exact gx h _
theorem cD(h:decide (0<b)=true):jd .mod (.int a) (.int b)=.ok (true,.int (a%b)):=by simp only[jd];exact gx h _
theorem yc(h:decide (0<=b/\b<=1000000/\a.natAbs<2 ^ 64)=true):jd .pow (.int a) (.int b)=.ok (true,.int (a ^ b.toNat)):=by simp only[jd];exact gx h _
theorem add_l(h:decide (vs.length+ws.length<=sizeLine)=true):jd .add (.rl vs) (.rl ws)=.ok (bz (vs++ws),.rl (vs++ws)):=by simp only[jd];exact gx h _
theorem QT:cop [] .lt (.int a) (.int b)=some (decide (a<b)):=rfl
theorem QU:cop [] .le (.int a) (.int b)=some (decide (a<=b)):=rfl
theorem QV:cop [] .gt (.int a) (.int b)=some (decide (b<a)):=rfl
theorem QW:cop [] .ge (.int a) (.int b)=some (decide (b<=a)):=rfl
theorem QX:cop [] .eq (.int a) (.int b)=some (decide (a=b)):=by
 show some (a==b)=_
 congr 1
theorem NP:cop [] .ne (.int a) (.int b)=some (!decide (a=b)):=by
 show some (!(a==b))=_
 congr 1
theorem NR:cop [] .isn v .non=some (nK v):=by cases v<;>rfl
theorem NS:cop [] .ntn v .non=some (!nK v):=by cases v<;>rfl
theorem GC:cP [] (.bl t)=some t:=rfl
theorem NU:cP [] (.int a)=some (a != 0):=rfl
theorem NV:cP [] (.rl vs)=some (!vs.isEmpty):=rfl
theorem NW:cP [] (.tup vs)=some (!vs.isEmpty):=rfl
theorem GD:dB .len [.rl vs]=.ok (true,.int vs.length):=rfl
theorem NX:dB .len [.tup vs]=.ok (true,.int vs.length):=rfl
theorem GF(h:x.length<=sizeLine):dB .len [.str x]=.ok (true,.int x.length):=by
 show pb (pl (jO [] (.str x))) _=_;rw[show jO [] (.str x)=some x.length from Vv h];rfl
theorem NY:dB .min [.int a,.int b]=.ok (true,.int (if b<a then b else a)):=rfl
theorem NZ:dB .max [.int a,.int b]=.ok (true,.int (if b>a then b else a)):=rfl
theorem Kq:dB .min [.tup [.int a,.int b]]=.ok (true,.int (min a b)):=rfl
theorem Kr:dB .max [.tup [.int a,.int b]]=.ok (true,.int (max a b)):=rfl
theorem Ks:dB .list [.rl vs]=.ok (bz vs,.rl vs):=rfl
theorem Ku:dB .list [.tup vs]=.ok (bz vs,.rl vs):=rfl
theorem Fe:dB .tuple [.rl vs]=.ok (bz vs,.tup vs):=rfl
theorem GG(h:decide (a.natAbs.log2<1920)=true):dB .str [.int a]=.ok (true,.str (toString a)):=by simp only[dB];exact gx h _
theorem N1:dB .int [.bl t]=.ok (true,.int (if t=true then 1 else 0)):=rfl
theorem oj(h:gC vs a=some v):gF [] (.rl vs) (.int a)=some v:=h
theorem gQ(h:gC vs a=some v):gF [] (.tup vs) (.int a)=some v:=h
end
theorem pK:gC (v::vs) (0:Int)=some v:=by
 have:=mZ (xs:=v::vs) (j:=0) (v:=v) rfl;exact this
theorem r6:gC (u::v::vs) (1:Int)=some v:=by
 have:=mZ (xs:=u::v::vs) (j:=1) (v:=v) rfl;exact this
theorem jM{T:String}{t:String}(h1:tY [] v=some t)(h2:tZ T t=some true):dB (.isin T) [v]=.ok (true,.bl true):=by
 show pb (pl (tY [] v)) _=_;rw[h1,eO,cC,h2];rfl
theorem wc{T:String}{t:String}(h1:tY [] v=some t)(h2:tZ T t=some false):dB (.isin T) [v]=.ok (true,.bl false):=by
 show pb (pl (tY [] v)) _=_;rw[h1,eO,cC,h2];rfl
theorem ne_self(h:toD 16 [] d=some p)(hp:p.canLay0=true):cop [] .ne d d=some false:=by
 simp only[cop,xr,h,bind_some];rw[SeqAt.eqv_refl p hp];rfl
theorem qA:recv [] .join (.str x)=some ():=rfl
theorem B9:fk .seq [.tup vs]=some vs:=rfl
theorem gR:fk .seq [.rl vs]=some vs:=rfl
theorem Kv:zx .seq ds=fk .seq ds:=rfl
theorem Kw:zx .range ds=fk .range ds:=rfl
theorem Ky:zx .enum ds=fk .enum ds:=rfl
theorem Ca:fk .enum [.rl vs]=some (bQ 0 vs):=rfl
theorem qB{lo hi:Option Int}:zw (.rl vs) lo hi=.ok (bz (bO vs lo hi),.rl (bO vs lo hi)):=rfl
theorem bg{i:Nat}:dj (.one i) d env=some (env.set i (some (.sh,d))):=rfl
theorem r8{i j:Nat}:dj (.tup [i,j]) (.tup [d,e]) env=some ((env.set i (some (.sh,d))).set j (some (.sh,e))):=rfl
theorem om{α β:Type}(f:α -> β)(ds:List α)(lo hi:Option Int):bO (ds.map f) lo hi=(bO ds lo hi).map f:=by
 unfold bO;simp only[length_map,List.map_take,List.map_drop]
theorem Cb{α:Type}(ds:List α)(lo hi:Option Int):(bO ds lo hi).length<=ds.length:=by
 unfold bO;simp only[List.length_take,List.length_drop];omega
theorem lY:∀(i:Nat) (ds:List Val),(bQ i ds).length=ds.length
 |_,[]=>rfl
 |i,d::r=>by rw[bQ,VQ,lY (i+1) r,VQ]
theorem fW{α β γ:Type}{f:β -> Option γ}{g:α -> β}{k:α -> γ}:∀(xs:List α),(∀x∈xs,f (g x)=some (k x))->bK f (xs.map g)=some (xs.map k)
 |[],_=>rfl
 | x::r,h=>by
  rw[VC,bK,h x Vs,fW r λy hy=>h y (Vq _ hy)];rfl
theorem ints_map(xs:List Int):aQ (xs.map .int)=some xs:=by
 have:=fW (f:=λv=>match v with|.int i=>some i|_=>none) (g:=Val.int) (k:=id) xs λ_ _=>rfl;rw[XX]at this;exact this
theorem we(m5:List (List Int))(h:∀k∈m5,k≠[])(hl:m5.length<64):fR (m5.map gn)=some ((kI m5).map gn):=by
 unfold fR;rw[Vv (by rw[Vp];exact hl)];cases m5 with
 |nil=>rfl
 |cons k r=>
  have e:aQ (List.map gn (k::r))=none:=by unfold aQ ;rw[VC,bK];rfl
  rw[e];have e2:jY (List.map gn (k::r))=some (k::r):=by
   have:=fW (f:=λv=>match v with|.tup vs=>if vs.isEmpty then none else aQ vs|_=>none) (g:=gn) (k:=id) (k::r) λx hx=>by
    have hx:=h x hx;show (if (x.map Val.int).isEmpty=true then none else aQ (x.map .int))=some x;rw[Vw (by simpa using hx),ints_map]
   rw[XX]at this;exact this
  show (jY (List.map gn (k::r))).bind _=_;rw[e2];rfl
theorem wg{α:Type}(xs:List α):cA (xs.map λ_=>Val.bl true)=some (xs.map λ_=>true):=fW (g:=λ_=>Val.bl true) (k:=λ_=>true) xs λ_ _=>rfl
theorem all_true{α:Type}(xs:List α):dB .all [.rl (xs.map λ_=>Val.bl true)]=.ok (true,.bl true):=by
 show pb (pl (cA _)) _=_;rw[wg,eO,cC]
 congr 3
 simp
theorem strs_map{α:Type}(f:α -> Str)(xs:List α):strs? (xs.map λa=>Val.str (f a))=some (xs.map f):=fW (g:=λa=>Val.str (f a)) (k:=f) xs λ_ _=>rfl
theorem Cc{o7:aL}{β:Type}{k:xU->Pr β}(G:Pr β -> Prop)(Q:List Val->aL->Prop)(h0:Q [] o7)
  (step:∀(pre:List Val) (x:Val) (env:aL),x∈xs->pre.length<xs.length->Q pre env->∃env',body x env=.ok (.nx env')/\Q (pre++[x]) env')
  (post:∀env',Q xs env'->G (k (.nx env'))):G (pb (iU body xs o7) k):=by
 obtain⟨env',e,q⟩:=uC Q xs [] o7 h0 (λpre x post env ep q=>by
  rw[XT]at ep;obtain⟨env',e,q'⟩:=step pre x env (by rw[ep];simp) (by rw[ep];simp) q;exact⟨env',.inl e,q'⟩)
 rw[e,cC];exact post env' (by rw[XT]at q;exact q)
def aP(i:Int):Str:=Str.ofString (toString i)
theorem uD(s:String):PyData.strOk (Str.ofString s)=true:=by
 have:=PyProof.Rows.signs_ofString s;unfold PyData.strOk;rw[<-all_toList,this,Xv];intro c hc;obtain⟨d,_,rfl⟩:=VZ.mp hc;have:=d.valid;simp only[decide_eq_true_eq];show d.val.toNat<1114112;unfold UInt32.isValidChar Nat.isValidChar at this;omega
theorem qC(ha:PyData.strOk a=true)(hb:PyData.strOk b=true):PyData.strOk (a++b)=true:=by
 unfold PyData.strOk at *;rw[Str.cps_append,Array.all_append,ha,hb];rfl
theorem oq(hz:PyData.strOk z=true):∀l:List Str,(∀a∈l,PyData.strOk a=true)->PyData.strOk (Str.join z l)=true
 |[],_=>by show PyData.strOk Str.empty=true;simp[PyData.strOk,Str.empty]
 |[x],h=>h x (Vs ..)
 | x::y::r,h=>by
  show PyData.strOk (x++z++Str.join z (y::r))=true;exact qC (qC (h x (Vs ..)) hz) (oq hz (y::r) λa ha=>h a (Vq _ ha))
theorem uE(hz:PyData.strOk z=true)(l:List Str)(h:∀a∈l,PyData.strOk a=true):PyData.strOk (Txt.join z l)=true:=by
 show PyData.strOk (Builtin.Str.glued z l)=true;rw[StrLaws.glued_eq_join];exact oq hz l h
theorem gS{i:Int}{k:Nat}(hk:1<=k)(h0:0<=i)(h1:i<10 ^ k):(aP i).length<=k:=by
 obtain⟨m,rfl⟩:=V4 h0;have e:=PySem.W.KIN.signs_num m;have:(aP m).length=(toDigits 10 m).length:=by show (Str.ofString (toString ((m:Nat):Int))).cps.size=_;rw[<-VU,e,Vp]
 rw[this];refine PyProof.Rows.digits10_le hk ?_;have:((10 ^ k:Nat):Int)=10 ^ k:=by simp
 omega
theorem r9{n:Nat}(e:PyData.strOk x=true):toD (n+1) h (.str x)=some (.str x):=Vv e
theorem Cd{α:Type}{n:Nat}(f:α -> Val)(g:α -> PyData)(xs:List α)(e:∀x∈xs,toD n h (f x)=some (g x)):toD (n+1) h (.rl (xs.map f))=some (.list (xs.map g)):=by
 show (bK (toD n h) _).bind _=_;rw[fW xs e];rfl
theorem Ff{α:Type}{n:Nat}(f:α -> Val)(g:α -> PyData)(xs:List α)(e:∀x∈xs,toD n h (f x)=some (g x)):toD (n+1) h (.tup (xs.map f))=some (.tuple (xs.map g)):=by
 show (bK (toD n h) _).bind _=_;rw[fW xs e];rfl
theorem Ce{n:Nat}(ks:List Int):toD (n+2) h (gn ks)=some (.tuple (ks.map .int)):=Ff _ _ ks λ_ _=>rfl
theorem iK{α:Type}(g:α -> PyData):∀(xs:List α),(∀x∈xs,(g x).canLay0=true)->PyData.canLayAll0 (xs.map g)=true
 |[],_=>by simp[PyData.canLayAll0]
 | x::r,h=>by
  rw[VC,PyData.canLayAll0,h x Vs,iK g r λy hy=>h y (Vq _ hy)];rfl
theorem qD{α:Type}(enc:α -> Val)(Q:List α -> aL->Prop):∀(us done:List α) (env:aL),Q done env->(∀(pre:List α) (u:α) (post:List α) (env:aL),done++us=pre++u::post->Q pre env->∃env',body (enc u) env=.ok (.nx env')/\Q (pre++[u]) env')->∃env',iU body (us.map enc) env=.ok (.nx env')/\Q (done++us) env'
 |[],done,env,q,_=>⟨env,rfl,by rw[WS];exact q⟩
 | x::xs,done,env,q,h=>by
  obtain⟨env',e,q'⟩:=h done x xs env rfl q;have eq:done++x::xs=done++[x]++xs:=by simp
  obtain⟨gr,e2,q2⟩:=qD enc Q xs (done++[x]) env' q' (by rw[<-eq];exact h);refine⟨gr,?_,by rw[eq];exact q2⟩;rw[VC,iU,e,cC];exact e2
theorem b7{α:Type}(enc:α -> Val){us:List α}{o7:aL}{β:Type}{k:xU->Pr β}(G:Pr β -> Prop)(Q:List α -> aL->Prop)(h0:Q [] o7)
  (step:∀(pre:List α) (u:α) (post:List α) (env:aL),us=pre++u::post->Q pre env->∃env',body (enc u) env=.ok (.nx env')/\Q (pre++[u]) env')
  (post:∀env',Q us env'->G (k (.nx env'))):G (pb (iU body (us.map enc) o7) k):=by
 obtain⟨env',e,q⟩:=qD enc Q us [] o7 h0 (λpre x post env ep q=>step pre x post env ep q);rw[e,cC];exact post env' q
theorem qE:∀{l m:List Int},l.Nodup->(∀x∈l,x∈m)->l.length<=m.length
 |[],_,_,_=>Wx _
 | x::r,m,h,hs=>by
  rw[Wb]at h;have hx:x∈m:=hs x Vs;have:=qE (m:=m.erase x) h.2 λy hy=>(List.mem_erase_of_ne (λe:y=x=>h.1 (e▸hy))).mpr (hs y (Vq _ hy));rw[List.length_erase_of_mem hx]at this;have:=List.length_pos_of_mem hx;rw[VQ];omega
abbrev GH(xs:List Int)(g:Int->Val):Val:=.dc (xs.map Sum.inl) (xs.map g)
def Cf(g:Int->Val)(x:Int)(v:Val):Int->Val:=λy=>if y=x then v else g y
theorem Kz(xs:List Int)(g:Int->Val):(xs.map (Sum.inl:Int->Key)).zip (xs.map g)=xs.map λx=>((Sum.inl x:Key),g x):=by
 induction xs with
 |nil=>rfl
 |cons x r ih=>simp only[map_cons,List.zip_cons_cons,ih]
theorem N2{xs:List Int}{x:Int}:cop [] .Eb (.int x) (GH xs g)=some (decide (x∈xs)):=by
 show some ((xs.map (Sum.inl:Int->Key)).any λj=>decide (j=Sum.inl x))=_
 congr 1
 induction xs with
 |nil=>rfl
 |cons y r ih=>
  rw[VC,W9,ih]
  by_cases e:y=x
  ·subst e;simp
  ·have e':¬ x=y:=λh=>e h.symm;simp[e,e']
theorem KA(xs:List Int)(g:Int->Val)(x:Int):((xs.map λx=>((Sum.inl x:Key),g x)).any λkv=>decide (kv.1=Sum.inl x))=decide (x∈xs):=by
 induction xs with
 |nil=>rfl
 |cons y r ih=>
  rw[VC,W9,ih]
  by_cases e:y=x
  ·subst e;simp
  ·have e':¬ x=y:=λh=>e h.symm;simp[e,e']
theorem Fg{xs:List Int}{x:Int}(h:x∉xs):putD (xs.map Sum.inl) (xs.map g) (.inl x) v=GH (xs++[x]) (Cf g x v):=by
 unfold putD j8;rw[Kz,KA,Vw (by simpa using h)];unfold GH;simp only[map_append,List.map_map,map_cons,map_nil]
 congr 1
 congr 1
 ·refine WL λy hy=>?_;show g y=Cf g x v y;unfold Cf;rw[Vw (λe:y=x=>h (e▸hy))]
 ·simp[Cf]
theorem zE{xs:List Int}(h:∀x∈xs,g x=g' x):GH xs g=GH xs g':=by
 unfold GH;rw[WL h]
theorem N3{x:Int}:keyOf (.int x)=some (.inl x):=rfl
theorem uF(x:Int):∀(ns ks:List Int),x∈iE ks ns↔x∈ks\/x∈ns
 |[],ks=>by simp[iE]
 | k::r,ks=>by
  rw[iE,uF x r,pC]
  split
  ·rename_i h
   constructor
   ·rintro(h'|h')
    ·exact .inl h'
    ·exact .inr (Vq _ h')
   ·rintro(h'|h')
    ·exact .inl h'
    ·rcases VF.mp h' with h'|h'
     ·exact .inl (h'▸h)
     ·exact .inr h'
  ·simp[or_assoc]
theorem ou:∀(ns ks:List Int),ks.Nodup->(iE ks ns).Nodup
 |[],ks,h=>h
 | k::r,ks,h=>by
  rw[iE];refine ou r _ ?_;rw[pC]
  split
  ·exact h
  ·rename_i hk;rw[W0];exact⟨h,by simp,λa ha b hb=>by simp at hb;subst hb;exact λe=>hk (e▸ha)⟩
def iZ(ns:List Int):List Int:=sortI (iE [] ns)
theorem Cg(x:Int)(ns:List Int):x∈iZ ns↔x∈ns:=by
 unfold iZ;rw[(Xf _).mem_iff,uF];simp
theorem wj(ns:List Int):(iZ ns).Nodup:=by
 unfold iZ;rw[(Xf _).nodup_iff];exact ou ns [] XU
abbrev T3:=Int×Int×Int
def l3(t:T3):List Int:=[t.1,t.2.1,t.2.2]
def aH(t:T3):Val:=.tup [.int t.1,.int t.2.1,.int t.2.2]
def sd(x:T3):List T3->List T3
 |[]=>[x]
 |y::r=>if HT.lexLt (l3 y) (l3 x)=true then y::sd x r else x::y::r
def gT:List T3->List T3
 |[]=>[]
 |x::r=>sd x (gT r)
theorem uG(x:T3):∀l:List T3,rJ (l3 x) (l.map l3)=(sd x l).map l3
 |[]=>rfl
 | y::r=>by
  rw[VC,rJ,sd]
  split
  ·rw[VC,uG x r]
  ·rfl
theorem qF:∀l:List T3,kI (l.map l3)=(gT l).map l3
 |[]=>rfl
 |x::r=>by rw[VC,kI,qF r,uG];rfl
theorem lZ(x:T3):∀l:List T3,(sd x l).Perm (x::l)
 |[]=>.refl _
 | y::r=>by
  rw[sd]
  split
  ·exact((lZ x r).cons y).trans (List.Perm.swap ..)
  ·exact .refl _
theorem iL:∀l:List T3,(gT l).Perm l
 |[]=>.refl _
 |x::r=>(lZ x _).trans ((iL r).cons x)
theorem Fi(ts:List T3)(hl:ts.length<64):fR (ts.map aH)=some ((gT ts).map aH):=by
 have e:∀us:List T3,us.map aH=(us.map l3).map gn:=λus=>by rw[Wf];rfl
 rw[e,we _ (λk hk=>by obtain⟨t,_,rfl⟩:=VZ.mp hk;simp[l3]) (by rw[Vp];exact hl),qF,e]
theorem uH(hl:ts.length<64):dB .sorted [.rl (ts.map aH)]=.ok (true,.rl ((gT ts).map aH)):=by
 show pb (pl (fR _)) _=_;rw[Fi ts hl];rfl
def Dk(ts:List T3):Prop:=ts.Pairwise λa b=>a.1<b.1
theorem yd(x:T3):∀l:List T3,Dk l->(∀y∈l,y.1≠x.1)->Dk (sd x l)
 |[],_,_=>by simp[sd,Dk]
 | y::r,h,hn=>by
  unfold Dk at *;rw[V9]at h;have ny:y.1≠x.1:=hn y Vs;rw[sd];have lx:HT.lexLt (l3 y) (l3 x)=decide (y.1<x.1):=by show HT.lexLt (y.1::_) (x.1::_)=_;rw[HT.fP,Vw ny]
  rw[lx]
  by_cases c:y.1<x.1
  ·rw[Vv (by simpa using c),V9]
   refine⟨λz hz=>?_,yd x r h.2 λz hz=>hn z (Vq _ hz)⟩
   rcases VF.mp ((lZ x r).mem_iff.mp hz) with hz|hz
   ·rw[hz];exact c
   ·exact h.1 z hz
  ·rw[Vw (by simpa using c),V9,V9]
   refine⟨λz hz=>?_,h⟩;have:x.1<y.1:=by omega
   rcases VF.mp hz with hz|hz
   ·rw[hz];exact this
   ·have:=h.1 z hz;omega
theorem oz:∀l:List T3,(l.map (·.1)).Nodup->Dk (gT l)
 |[],_=>.nil
 | x::r,h=>by
  rw[VC,Wb]at h;refine yd x _ (oz r h.2) λy hy e=>h.1 ?_;rw[(iL r).mem_iff]at hy;exact VZ.mpr ⟨y,hy,e⟩
theorem qG:∀(a b:List T3),Dk a->Dk b->a.Perm b->a=b
 |[],b,_,_,p=>(List.nil_perm.mp p).symm
 |x::r,[],_,_,p=>by simpa using p
 | x::r,y::s,ha,hb,p=>by
  unfold Dk at ha hb;rw[V9]at ha hb;have e:x=y:=by
   have hx:=p.mem_iff.mp Vs;have hy:=p.mem_iff.mpr (Vs (a:=y) (l:=s))
   rcases VF.mp hx with h|h
   ·exact h
   ·rcases VF.mp hy with k|k
    ·exact k.symm
    ·have h1:=hb.1 x h;have h2:=ha.1 y k;omega
  subst e;rw[qG r s ha.2 hb.2 (List.perm_cons x |>.mp p)]
def turnT(t:T3):T3:=(t.1,if t.2.2<t.2.1 then t.2.2 else t.2.1,if t.2.2>t.2.1 then t.2.2 else t.2.1)
def cG(p q:Int)(ts:List T3):Val:=.tup [.tup [.int p,.int q],.rl (ts.map aH)]
theorem ye(p q:Int)(ts:List T3):cop [] .ne (cG p q ts) (cG p q ts)=some false:=by
 have h1:toD 15 [] (.tup [.int p,.int q])=some (.tuple [.int p,.int q]):=rfl;have h2:toD 15 [] (.rl (ts.map aH))=some (.list (ts.map λt=>.tuple ((l3 t).map .int))):=Cd aH _ ts λt _=>Ce (l3 t);have h:toD 16 [] (cG p q ts)=some (.tuple [.tuple [.int p,.int q],.list (ts.map λt=>.tuple ((l3 t).map .int))]):=by show (bK (toD 15 []) _).bind _=_;rw[bK,h1,bK,h2,bK];rfl
 refine ne_self h ?_;have hi:∀xs:List Int,PyData.canLayAll0 (xs.map PyData.int)=true:=λxs=>iK _ _ λ_ _=>by rw[PyData.canLay0]
 have h3:PyData.canLayAll0 (ts.map λt=>.tuple ((l3 t).map .int))=true:=iK _ _ λt _=>by rw[PyData.canLay0];exact hi _
 have h4:=hi [p,q];simp only[map_cons,map_nil]at h4;rw[PyData.canLay0,PyData.canLayAll0,PyData.canLay0,h4,PyData.canLayAll0,PyData.canLay0,h3,PyData.canLayAll0];rfl
theorem yf{i j k:Nat}:dj (.tup [i,j,k]) (aH t) env=some (((env.set i (some (.sh,.int t.1))).set j (some (.sh,.int t.2.1))).set k (some (.sh,.int t.2.2))):=rfl
theorem zF{α:Type}(ds:List α)(lo:Int)(n:Nat)(h:0<=lo):(bO ds (some lo) (some (lo+n))).length<=n:=by
 unfold bO HT.dw;dsimp only;rw[Vw (by omega),Vw (by omega)];simp only[List.length_take,List.length_drop];omega
theorem KC:zw (aH t) (some 1) none=.ok (true,.tup [.int t.2.1,.int t.2.2]):=rfl
theorem oA{α:Type}(enc:α -> Val)(g:α -> FV):∀(us:List α),(∀u∈us,f (enc u)=.ok (some (g u)))->fU f (us.map enc)=.ok (us.all λu=>(g u).1,us.map λu=>(g u).2)
 |[],_=>rfl
 | x::xs,h=>by
  rw[VC,fU,h x Vs,cC,oA enc g xs λy hy=>h y (Vq _ hy),cC];rfl
theorem cH{α:Type}(enc dec:α -> Val)(us:List α)(h:∀u∈us,f (enc u)=.ok (some (true,dec u))):fU f (us.map enc)=.ok (true,us.map dec):=by
 rw[oA enc (λu=>(true,dec u)) us h];simp
theorem Fj:∀m,m<67->∀d,d<67->0<m->0<d->(m*d)%67≠0:=by decide +kernel
theorem Fo{m c i j:Int}(hm:0<m/\m<67)(hi:0<=i/\i<67)(hj:0<=j/\j<67)(e:(m*i+c)%67=(m*j+c)%67):i=j:=by
 have key:∀i j:Int,0<=i->j<67->i<j->(m*i+c)%67=(m*j+c)%67->False:=by
  intro i j h0 h1 hlt e;obtain⟨a,ha⟩:=V4 (show 0<=m by omega);obtain⟨d,hd⟩:=V4 (show 0<=j-i by omega);have p:=Fj a (by omega) d (by omega) (by omega) (by omega);have:m*j=m*i+m*(j-i):=by rw[Int.mul_sub];omega
  rw[this]at e;have e2:(m*(j-i))%67=0:=by omega
  rw[ha,hd]at e2;apply p;have:((a*d:Nat):Int)%67=0:=by rw[Int.natCast_mul];exact e2
  omega
 rcases Int.lt_trichotomy i j with h|h|h
 ·exact(key i j hi.1 hj.2 h e).elim
 ·exact h
 ·exact(key j i hj.1 hi.2 h e.symm).elim
def bE(aa:aL):aL:=aa.map λo=>match o with
 |some (.nw,.tup _)=>none
 |some (_,d)=>some (.sh,d)
 |none=>none
def jk(aa:aL):aL:=aa.map λo=>match o with
 |some (.sh,d)=>some (.sh,d)
 |_=>none
def Fp(Ψ:Nat->List Val->Pr FV)(e:IE)(env:aL):Pr FV:=match aV Ψ e (jk env) with
 |.ok x=>.ok x
 |_=>pb (aV Ψ e (bE env)) λx=>pg x.1 (.ok x)
def Fq(_:IE)(_:vP)(_:Ik)(_:eE):Option (Nat×Nat):=none
def gU:List Val->Option (List (List Int)):=bK λv=>match v with
 |.rl es=>aQ es
 |_=>none
def QY(env:aL)(iq:Nat×Nat):Pr xU:=match env[iq.1]? with
 |some (some (.ow,.rl ds))=>pb (pl (gU ds)) λls=>pg ((ls.all λl=>decide (l.length+ls.length<sizeLine))&&decide (iq.2<env.length)) (.ok (.nx ((env.set iq.1 none).set iq.2 none)))
 |_=>.no
def new2:IE->Option (IE×IE)
 |.lst #[a,b]=>some (a,b)
 |_=>none
def Ci:List Val->Option Nat
 |[]=>some 0
 |.rl es::r=>(Ci r).bind λn=>some (max es.length n)
 |_=>none
def N4(ds:List Val):Option (Mk×Val):=match Ci ds with
 |some n=>some (.nw,.tup [.int ((n+1:Nat):Int),.int ds.length])
 |none=>none
def KD:List Val->Int->Option Int
 |[.int n,.int l],j=>if 0<=j/\j<l then some n else none
 |_,_=>none
inductive XK
 |app (i:Nat) (a:IE)
 |apI (i:Nat) (j:Int) (a:IE)
 |ext (i:Nat) (a:IE)
 |rem (i:Nat) (j a:IE)
def XK.ie:XK->IE
 |.app i a=>.met .append (.var i) #[a]
 |.apI i j a=>.met .append (.idx (.var i) (.cst (.int j))) #[a]
 |.ext i a=>.met .extend (.var i) #[a]
 |.rem i j a=>.met .remove (.idx (.var i) j) #[a]
def XK.at:XK->Nat
 |.app i _=>i
 |.apI i _ _=>i
 |.ext i _=>i
 |.rem i _ _=>i
def xV:IE->Option Nat
 |.var i=>some i
 |_=>none
def xX:IE->Option (IE×IE)
 |.idx a b=>some (a,b)
 |_=>none
def xI:IE->Option Val
 |.cst d=>some d
 |_=>none
def xM:IE->Option (Me×IE×j7)
 |.met m a es=>some (m,a,es)
 |_=>none
def xO:j7->Option IE
 |.cons a .nil=>some a
 |_=>none
def xJ(o:IE):Option (Nat×Int):=(xX o).bind λy=>(xV y.1).bind λx=>(xI y.2).bind λd=>(fS d).bind λj=>some (x,j)
def T7:Me->IE->IE->Option XK
 |.append,a,x=>(match xV a with|some i=>some (.app i x)|none=>(xJ a).bind λy=>some (.apI y.1 y.2 x))
 |.extend,a,x=>(xV a).bind λi=>some (.ext i x)
 |.remove,a,x=>(xX a).bind λy=>(xV y.1).bind λi=>some (.rem i y.2 x)
 |_,_,_=>none
def N5(e:IE):Option XK:=(xM e).bind λm=>(xO m.2.2).bind λx=>T7 m.1 m.2.1 x
section
variable {e:IE}
theorem Ft{i:Nat}(h:xV e=some i):e=.var i:=by
 cases e<;>first|(cases h;rfl)|exact nomatch (show none=some _ from h)
theorem N6(h:xX e=some y):e=.idx y.1 y.2:=by
 cases e<;>first|(cases h;rfl)|exact nomatch (show none=some _ from h)
theorem QZ(h:xI e=some d):e=.cst d:=by
 cases e<;>first|(cases h;rfl)|exact nomatch (show none=some _ from h)
theorem Q0(h:xM e=some y):e=.met y.1 y.2.1 y.2.2:=by
 cases e<;>first|(cases h;rfl)|exact nomatch (show none=some _ from h)
theorem Q2(h:xO es=some e):es=.cons e .nil:=by
 cases es with
 |nil=>cases h
 |cons a r=>
  cases r with
  |nil=>cases h;rfl
  |cons _ _=>cases h
theorem Q3(h:xJ e=some y):e=.idx (.var y.1) (.cst (.int y.2)):=by
 obtain⟨z,h1,h⟩:=Vk.mp h;obtain⟨x,h2,h⟩:=Vk.mp h;obtain⟨d,h3,h⟩:=Vk.mp h;obtain⟨j,h4,h⟩:=Vk.mp h;cases h;rw[N6 h1,Ft h2,QZ h3];cases d<;>first|(cases h4;rfl)|cases h4
theorem N7(h:N5 e=some k):e=k.ie:=by
 obtain⟨⟨m,a,es⟩,h1,h⟩:=Vk.mp h;obtain⟨x,h2,h⟩:=Vk.mp h;rw[Q0 h1,Q2 h2];clear h1 h2;cases m with
 |append=>
  cases h3:xV a with
  |some i=>change (match xV a with|some i=>some (XK.app i x)|none=>(xJ a).bind λy=>some (XK.apI y.1 y.2 x))=some k at h;rw[h3]at h;cases h;rw[Ft h3];rfl
  |none=>change (match xV a with|some i=>some (XK.app i x)|none=>(xJ a).bind λy=>some (XK.apI y.1 y.2 x))=some k at h;rw[h3]at h;obtain⟨y,h4,h⟩:=Vk.mp h;cases h;rw[Q3 h4];rfl
 |extend=>obtain⟨i,h3,h⟩:=Vk.mp h;cases h;rw[Ft h3];rfl
 |remove=>obtain⟨y,h3,h⟩:=Vk.mp h;obtain⟨i,h4,h⟩:=Vk.mp h;cases h;rw[N6 h3,Ft h4];rfl
 |_=>cases h
end
def zZ(Ψ:Nat->List Val->Pr FV):XK->aL->Pr xU
 | .app i a,env=>match env[i]? with
  |some (some (.ow,.rl ds))=>pb (aV Ψ a (bE env)) λx=>pg (decide (ds.length<sizeLine)) (.ok (.nx (env.set i (if bz (ds++[x.2])=true then some (.ow,.rl (ds++[x.2])) else none))))
  |_=>.no
 | .apI i j a,env=>match env[i]? with
  | some (some (.ow,.tup ds))=>match gC ds j with
   |some (.rl es)=>pb (aV Ψ a (bE env)) λx=>pg (decide (es.length<sizeLine)) (.ok (.nx (env.set i (N4 ds))))
   |_=>.no
  |some (some (.nw,.tup ds))=>pb (pl (KD ds j)) λn=>pb (aV Ψ a (bE env)) λx=>pg (decide (n<sizeLine)) (.ok (.nx (env.set i none)))
  |_=>.no
 | .ext i a,env=>match env[i]? with
  | some (some (.ow,.rl ds))=>pb (aV Ψ a (bE env)) λx=>match x.2 with
   |.rl es=>pg (x.1&&bz (ds++es)&&decide (ds.length+es.length<=sizeLine)) (.ok (.nx (env.set i (some (.ow,.rl (ds++es))))))
   |_=>.no
  |_=>.no
 | .rem i j a,env=>match env[i]? with
  |some (some (.nw,.rl ds))=>pb (aV Ψ j (bE env)) λz=>pb (pl (fS z.2)) λk=>pb (pl (qZ ds.length k)) λn=>pb (pl (gU ds)) λls=>pb (pl ls[n]?) λl=>
    pb (aV Ψ a (bE env)) λx=>pb (pl (fS x.2)) λm=>pg (decide (m∈l)) (.ok (.nx (env.set i (some (.nw,.rl (ds.set n (.rl ((l.eraseIdx (l.idxOf m)).map .int))))))))
  |_=>.no
mutual
noncomputable def ck(Ψ:Nat->List Val->Pr FV)(sp:List Nat):IS->aL->Pr xU
 | .expr e,env=>match N5 e with
  |some k=>zZ Ψ k env
  |none=>.no
 | .asg p e,env=>match p with
  | .one i=>if sp.contains i=true then (match new2 e with
    |some ab=>pb (aV Ψ ab.1 (bE env)) λx=>pb (aV Ψ ab.2 (bE env)) λy=>pb (pl (gU [x.2,y.2])) λ_=>pg (x.1&&y.1) (.ok (.nx (env.set i (some (.nw,.rl [x.2,y.2])))))
    |none=>pb (aV Ψ e (bE env)) λx=>pg x.1 (.ok (.nx (env.set i (some (.ow,x.2))))))
    else pb (Fp Ψ e env) λx=>.ok (.nx (env.set i (some (.sh,x.2))))
  |.tup is=>pb (Fp Ψ e env) λx=>pb (pl (dj (.tup is) x.2 env)) λenv'=>.ok (.nx env')
 |.iZ _ _ _,_=>.no
 |.iff c a b,env=>pb (aV Ψ c (bE env)) λx=>pb (pl (cP [] x.2)) λt=>if t=true then dX Ψ sp a env else dX Ψ sp b env
 | .for p k it body,env=>match it with
  | .cons e .nil=>match Fq e p k body with
   |some iq=>QY env iq
   |none=>pb (Fp Ψ e env) λx=>pb (pl (fk k [x.2])) λxs=>iU (λx env=>pb (pl (dj p x env)) λenv'=>dX Ψ sp body env') xs env
  |_=>.no
 |.ret e,env=>pb (aV Ψ e (bE env)) λp=>.ok (.rt p)
 |.brk,env=>.ok (.bk env)
 |.cnt,env=>.ok (.ct env)
 |.pass,env=>.ok (.nx env)
 |.aug ..,_=>.no
 |.whl ..,_=>.no
 |.Ba,_=>.no
 |.never,_=>.no
 |.setF ..,_=>.no
noncomputable def dX(Ψ:Nat->List Val->Pr FV)(sp:List Nat):eE->aL->Pr xU
 |.nil,env=>.ok (.nx env)
 | .cons s r,env=>pb (ck Ψ sp s env) λf=>match f with
  |.nx env'=>dX Ψ sp r env'
  |f=>.ok f
end
mutual
noncomputable def Q4:IS->List Nat
 |.expr e=>(match N5 e with|some k=>[k.at]|none=>[])
 |.iZ o _ _=>(match xJ o with|some y=>[y.1]|none=>[])
 |.iff _ a b=>jl a++jl b
 | .for p k it b=>match it with
  | .cons e .nil=>match Fq e p k b with
   |some iq=>[iq.1]
   |none=>jl b
  |_=>jl b
 |_=>[]
noncomputable def jl:eE->List Nat
 |.nil=>[]
 |.cons s r=>Q4 s++jl r
end
theorem N8{sp:List Nat}(h:N5 e=some k):ck Ψ sp (.expr e) env=zZ Ψ k env:=by rw[ck,h]
def KG(Ψ:Nat->List Val->Pr FV)(n:Nat)(body:eE)(ds:List Val):Pr FV :=
 pb (dX Ψ (jl body) body (ds.map (λd=>some (.sh,d))++replicate (n-ds.length) none)) λf=>match f with
  |.nx _=>.ok (true,.non)
  |.rt p=>.ok p
  |_=>.no
abbrev UR:=Nat->Nat->Prop
def AU(U:UR):AP:=λo=>match o with
 |none=>True
 |some k=>∀i,¬ U i k
def RU(U:UR)(i:Nat):AP:=λo=>match o with
 |none=>False
 |some k=>U i k
def NN(U:UR)(i:Nat)(h:Hs)(d v:Val):Prop:=∃(b:Nat) (bs:List Nat) (ds:List Val) (ls:List (List Int)),v=.ref b/\d=.rl ds/\gU ds=some ls/\U i b/\h[b]?=some (.lst (bs.map .ref))/\bs.length=ls.length/\(b::bs).Nodup /\
 ∀(k c:Nat) (l:List Int),bs[k]?=some c->ls[k]?=some l->U i c/\h[c]?=some (.lst (l.map .int))
theorem NN.move{i:Nat}(q:NN U i h d v)(m:∀(c:Nat) (o:Ob),U i c->h[c]?=some o->U' i c/\h'[c]?=some o):NN U' i h' d v:=by
 obtain⟨b,bs,ds,ls,e1,e2,e3,e4,e5,e6,e7,e8⟩:=q;exact⟨b,bs,ds,ls,e1,e2,e3,(m b _ e4 e5).1,(m b _ e4 e5).2,e6,e7,λk c l a z=>m c _ (e8 k c l a z).1 (e8 k c l a z).2⟩
theorem jn:∀{ds:List Val} {ls:List (List Int)},gU ds=some ls->ds=ls.map λl=>.rl (l.map .int)
 |[],ls,e=>by simp only[gU,bK]at e;cases e;rfl
 | d::ds,ls,e=>by
  simp only[gU,bK]at e;obtain⟨x,e1,e⟩:=Vk.mp e;obtain⟨y,e2,e⟩:=Vk.mp e;cases e;rw[jn (show gU ds=some y from e2)];cases d<;>first|(cases e1;done)|skip
  rw[di e1];rfl
theorem yg:∀(l:List Int),aQ (l.map .int)=some l
 |[]=>rfl
 |a::l=>by have ih:=yg l;simp only[aQ,map_cons,bK]at ih |-;rw[ih];rfl
theorem yh:∀(ls:List (List Int)),gU (ls.map λl=>.rl (l.map .int))=some ls
 |[]=>rfl
 | l::ls=>by
  have h1:aQ (l.map .int)=some l:=by
   induction l with
   |nil=>rfl
   |cons a l ih=>simp only[aQ,map_cons,bK]at ih |-;rw[ih];rfl
  have h2:=yh ls;simp only[gU,map_cons,bK]at h2 |-;rw[h1,h2];rfl
theorem NN.dn{i:Nat}(q:NN U i h d v)(hA:∀k,U i k->A (some k)):Dn A h d v:=by
 obtain⟨b,bs,ds,ls,rfl,rfl,e3,e4,e5,e6,e7,e8⟩:=q;rw[jn e3,Dn];refine .inr ⟨b,_,rfl,hA _ e4,e5,?_⟩;clear e5 e7 e3 e4
 induction ls generalizing bs with
 | nil=>cases bs with
  |nil=>rw[WJ,WJ,ao]
  |cons _ _=>cases e6
 |cons l ls ih=>
  cases bs with
  |nil=>cases e6
  |cons c bs=>refine ao.cons ?_ (ih bs (Nat.succ.inj e6) λk c l a z=>e8 (k+1) c l a z);rw[Dn];exact .inr ⟨c,_,rfl,hA _ (e8 0 c l rfl rfl).1,(e8 0 c l rfl rfl).2,(aS _ _ (bH l)).mpr rfl⟩
def NT(U:UR)(i:Nat)(h:Hs)(d v:Val):Prop:=∃(n:Int) (ws:List Val),d=.tup [.int n,.int ws.length]/\v=.tup ws/\∀w∈ws,∃(b:Nat) (xs:List Val),w=.ref b/\U i b/\h[b]?=some (.lst xs)/\(xs.length:Int)<=n
def NQ(U:UR)(i:Nat)(h:Hs)(d v:Val):Prop:=NN U i h d v\/NT U i h d v
theorem NQ.move{i:Nat}(q:NQ U i h d v)(m:∀(c:Nat) (o:Ob),U i c->h[c]?=some o->U' i c/\h'[c]?=some o):NQ U' i h' d v:=by
 rcases q with q|⟨n,ws,e1,e2,e3⟩
 ·exact .inl (q.move m)
 ·refine .inr ⟨n,ws,e1,e2,λw hw=>?_⟩;obtain⟨b,xs,k1,k2,k3,k4⟩:=e3 w hw;exact⟨b,xs,k1,(m b _ k2 k3).1,(m b _ k2 k3).2,k4⟩
theorem NQ.dn{i:Nat}(q:NQ U i h d v)(n:∀ds,d≠.tup ds)(hA:∀k,U i k->A (some k)):Dn A h d v:=by
 rcases q with q|⟨_,_,e1,_⟩
 ·exact q.dn hA
 ·exact(n _ e1).elim
structure SL (aa:aL) (env:Env) (h:Hs) (U:UR):Prop where
 len:aa.length=env.length
 sh:∀(i:Nat) (d:Val),aa[i]?=some (some (.sh,d))->∃v,env[i]?=some (some v)/\Dn (AU U) h d v
 un:∀(i:Nat) (d:Val),aa[i]?=some (some (.ow,d))->∃v,env[i]?=some (some v)/\Dn (RU U i) h d v
 nn:∀(i:Nat) (d:Val),aa[i]?=some (some (.nw,d))->∃v,env[i]?=some (some v)/\NQ U i h d v
 ub:∀i k,U i k->k<h.length
 Fv:∀i j k,U i k->U j k->i=j
structure KU (h:Hs) (U:UR) (h':Hs) (U':UR):Prop where
 le:h.length<=h'.length
 keep:∀k,k<h.length->(∀i,¬ U i k)->h'[k]?=h[k]?/\∀i,¬ U' i k
def Q5(U:UR)(i:Nat):UR:=λj k=>j≠i/\U j k
def zG(U:UR)(i n m:Nat):UR:=λj k=>if j=i then n<=k/\k<m else U j k
def cZ{α β:Type}(R:α -> Hs -> β -> Prop)(o:Out β):Pr α -> Prop
 |.ok a=>∃b h',o=.ok b h'/\R a h' b
 |_=>True
def RL(h:Hs)(U:UR):xU->Hs->Fl->Prop
 |.nx ak,h',.nx env'=>∃U',SL ak env' h' U'/\KU h U h' U'
 |.bk ak,h',.bk env'=>∃U',SL ak env' h' U'/\KU h U h' U'
 |.ct ak,h',.ct env'=>∃U',SL ak env' h' U'/\KU h U h' U'
 |.rt p,h',.rt v=>RV (λ_=>True) h p h' v/\∃U',KU h U h' U'
 |_,_,_=>False
section
variable {α β γ δ:Type} {h h1 h2:Hs} {U U1 U2:UR} {aa:aL} {env:Env}
theorem aU(r:cZ R (m h) p)(k:∀a h1 b,R a h1 b->cZ R' (f b h1) (F a)):cZ R' (bnd m f h) (pb p F):=by
 unfold bnd;cases p with
 |ok a=>obtain⟨b,h1,e,q⟩:=r;rw[e];exact k a h1 b q
 |exc c es=>trivial
 |no=>trivial
theorem Fw(r:Rel A h R o p):cZ (λa h' b=>h<+:h'/\R a h' b) o p:=by
 cases p with
 |ok a=>exact r
 |exc c es=>trivial
 |no=>trivial
theorem cI(r:R a h b):cZ R (ret b h) (.ok a):=⟨b,h,rfl,r⟩
theorem kU(r:∀a,o=some a->∃b,o'=some b/\R a h b):cZ R (aN o' h) (pl o):=by
 cases o with
 |none=>trivial
 |some a=>obtain⟨b,rfl,q⟩:=r a rfl;exact⟨b,h,rfl,q⟩
theorem gj{c:Bool}(r:c=true->cZ R o p):cZ R o (pg c p):=by
 unfold pg;cases c with
 |true=>rw[Vv rfl];exact r rfl
 |false=>rw[Vw Vl];trivial
theorem gW(r:cZ R o p)(k:∀a h' b,R a h' b->R' a h' b):cZ R' o p:=by
 cases p with
 |ok a=>obtain⟨b,h',e,r⟩:=r;exact⟨b,h',e,k a h' b r⟩
 |exc c es=>trivial
 |no=>trivial
theorem KU.refl(s:SL aa env h U)(p:h<+:h1):KU h U h1 U:=⟨p.length_le,λk hk n=>⟨gM p hk,n⟩⟩
theorem KU.trans(a:KU h U h1 U1)(b:KU h1 U1 h2 U2):KU h U h2 U2 where
 le:=VX a.le b.le
 keep k hk n:=by obtain⟨a1,a2⟩:=a.keep k hk n;obtain⟨b1,b2⟩:=b.keep k (VA hk a.le) a2;exact⟨b1.trans a1,b2⟩
theorem RL.seq(a:KU h U h1 U1)(r:RL h1 U1 f h' g):RL h U f h' g:=by
 cases f<;>cases g<;>first|exact r.elim|(obtain⟨O',b,c⟩:=r;exact⟨O',b,a.trans c⟩)|(obtain⟨⟨b,c⟩,O',d⟩:=r;exact⟨⟨b,λz=>(c z).dR (Fr.le a.le)⟩,O',a.trans d⟩)
theorem SL.ext(s:SL aa env h U)(p:h<+:h1):SL aa env h1 U where
 len:=s.len
 sh i d e:=by obtain⟨v,k1,k2⟩:=s.sh i d e;exact⟨v,k1,k2.ext p⟩
 un i d e:=by obtain⟨v,k1,k2⟩:=s.un i d e;exact⟨v,k1,k2.ext p⟩
 nn i d e:=by obtain⟨v,k1,k2⟩:=s.nn i d e;exact⟨v,k1,k2.move λ_ _ a g=>⟨a,bB p g⟩⟩
 ub i k e:=VA (s.ub i k e) p.length_le
 Fv:=s.Fv
theorem SL.flat(s:SL aa env h U):ER (λ_=>True) (bE aa) env h:=λi f d q=>by
 unfold bE at q;rw[VI]at q;cases e:aa[i]? with
 |none=>rw[e]at q;cases q
 |some o=>
  rw[e]at q;cases o with
  |none=>cases q
  |some fd=>
   obtain⟨g,d'⟩:=fd;cases g with
   |nw=>cases d'<;>first|(cases q;done)|(cases q;rw[Vw (by decide)];obtain⟨v,k1,k2⟩:=s.nn i _ e;exact⟨v,k1,k2.dn (λ_ z=>nomatch z) λ_ _=>trivial⟩)
   |ow=>cases q;rw[Vw (by decide)];obtain⟨v,k1,k2⟩:=s.un i _ e;exact⟨v,k1,k2.dR λ_ _=>trivial⟩
   |sh=>cases q;rw[Vw (by decide)];obtain⟨v,k1,k2⟩:=s.sh i _ e;exact⟨v,k1,k2.dR λ_ _=>trivial⟩
theorem SL.hide(s:SL aa env h U):ER (AU U) (jk aa) env h:=λi f d q=>by
 unfold jk at q;rw[VI]at q;cases e:aa[i]? with
 |none=>rw[e]at q;cases q
 |some o=>
  rw[e]at q;cases o with
  |none=>cases q
  |some fd=>
   obtain⟨g,d'⟩:=fd;cases g with
   |ow=>cases q
   |nw=>cases q
   |sh=>cases q;rw[Vw (by decide)];exact s.sh i _ e
theorem SL.up(s:SL aa env h U):Up (AU U) h:=λk hk i z=>by have:=s.ub i k z;omega
theorem wm{i:Nat}:∀o,AU U o->AU (Q5 U i) o
 |none,_=>trivial
 |some k,n=>λj z=>n j z.2
theorem SL.gen(s:SL aa env h U){i:Nat}(hl:env'.length=env.length)(he:∀j,j≠i->env'[j]?=env[j]?)
  (mA:∀(k:Nat) (b:Ob),AU U (some k)->h[k]?=some b->AU U' (some k)/\h'[k]?=some b) (mR:∀j,j≠i->∀(k:Nat) (b:Ob),U j k->h[k]?=some b->U' j k/\h'[k]?=some b)
  (ub:∀j k,U' j k->k<h'.length) (Fv:∀j l k,U' j k->U' l k->j=l)
  (at':∀m d,i<aa.length->o=some (m,d)->∃v,env'[i]?=some (some v)/\match m with
   |.sh=>Dn (AU U') h' d v
   |.ow=>Dn (RU U' i) h' d v
   |.nw=>NQ U' i h' d v):SL (aa.set i o) env' h' U':=by
 have off:∀(j:Nat) (m:Mk) (d:Val),(aa.set i o)[j]?=some (some (m,d))->(j=i/\i<aa.length/\o=some (m,d))\/(j≠i/\aa[j]?=some (some (m,d))):=λj m d e=>by
  by_cases hij:i=j
  ·subst hij
   have hi:i<aa.length:=by have:=(Vn.mp e).1;simpa using this
   rw[Vz hi]at e;cases e;exact .inl ⟨rfl,hi,rfl⟩
  ·rw[Vr hij]at e;exact .inr ⟨λz=>hij z.symm,e⟩
 refine⟨by simp[s.len,hl],λj d e=>?_,λj d e=>?_,λj d e=>?_,ub,Fv⟩
 ·rcases off j _ _ e with ⟨rfl,a,b⟩|⟨n,e⟩
  ·exact at' _ _ a b
  ·obtain⟨w,k1,k2⟩:=s.sh j d e;exact⟨w,(he j n).trans k1,Dn.move (λ_=>trivial) mA _ _ k2⟩
 ·rcases off j _ _ e with ⟨rfl,a,b⟩|⟨n,e⟩
  ·exact at' _ _ a b
  ·obtain⟨w,k1,k2⟩:=s.un j d e;exact⟨w,(he j n).trans k1,Dn.move (A:=RU U j) (A':=RU U' j) (λz=>False.elim z) (λk b a g=>mR j n k b a g) _ _ k2⟩
 ·rcases off j _ _ e with ⟨rfl,a,b⟩|⟨n,e⟩
  ·exact at' _ _ a b
  ·obtain⟨w,k1,k2⟩:=s.nn j d e;exact⟨w,(he j n).trans k1,k2.move λk b=>mR j n k b⟩
theorem yi{i:Nat}:∀j,j≠i->(env.set i v)[j]?=env[j]?:=λj n=>Vr λz=>n z.symm
theorem SL.at_(s:SL aa env h U){i:Nat}(hi:i<aa.length):(env.set i (some v))[i]?=some (some v):=Vz (by rw[<-s.len];exact hi)
theorem SL.set(s:SL aa env h U){i:Nat}(q:Dn (AU U) h d v):SL (aa.set i (some (.sh,d))) (env.set i (some v)) h (Q5 U i)/\KU h U h (Q5 U i) :=
 ⟨s.gen (by simp) yi (λk b a g=>⟨wm _ a,g⟩) (λj n k b a g=>⟨⟨n,a⟩,g⟩) (λj k e=>s.ub j k e.2) (λj l k a b=>s.Fv j l k a.2 b.2) (λm d' hi e=>by cases e;exact⟨v,s.at_ hi,q.dR wm⟩),Vu _,λk hk n=>⟨rfl,λj z=>n j z.2⟩⟩
theorem SL.N9(s:SL aa env h U)(p:h<+:h1){i:Nat}(q:Dn (Fr h.length) h1 d v):SL (aa.set i (some (.ow,d))) (env.set i (some v)) h1 (zG U i h.length h1.length)/\KU h U h1 (zG U i h.length h1.length):=by
 have no:∀k j,k<h.length->¬ U j k->¬ zG U i h.length h1.length j k:=λk j hk n z=>by
  unfold zG at z;split at z
  ·omega
  ·exact n z
 refine⟨s.gen (by simp) yi (λk o a g=>⟨λj=>no k j (Vn.mp g).1 (a j),bB p g⟩) (λj n k b a g=>⟨?_,bB p g⟩) (λj k e=>?_) (λj l k e1 e2=>?_) (λm d' hi e=>?_),p.length_le,λk hk n=>⟨gM p hk,λj=>no k j hk (n j)⟩⟩
 ·unfold zG;rw[Vw n];exact a
 ·unfold zG at e
  split at e
  ·exact e.2
  ·exact VA (s.ub j k e) p.length_le
 ·unfold zG at e1 e2
  split at e1<;>split at e2
  ·rename_i a b;rw[a,b]
  ·have:=s.ub l k e2;omega
  ·have:=s.ub j k e1;omega
  ·exact s.Fv j l k e1 e2
 ·cases e;refine⟨v,s.at_ hi,Dn.move (A:=Fr h.length) (λz=>False.elim z) (λk o a g=>⟨?_,g⟩) _ _ q⟩;show zG U i h.length h1.length i k;unfold zG;rw[Vv rfl];exact⟨a,(Vn.mp g).1⟩
theorem SL.binds:∀{is:List Nat} {ds vs:List Val} {aa:aL} {env:Env} {U:UR} {ak:aL},SL aa env h U->bA is ds aa=some ak->ao (AU U) h ds vs ->
  ∃env' U',bindAll is vs env=some env'/\SL ak env' h U'/\KU h U h U'
 | [],[],vs,aa,env,U,ak,s,e,q=>by
  rw[ao]at q;subst q;simp only[bA]at e;cases e;exact⟨env,U,rfl,s,KU.refl s (VG _)⟩
 | i::is,d::ds,vs,aa,env,U,ak,s,e,q=>by
  rw[ao]at q;obtain⟨v,r,rfl,q1,q2⟩:=q;simp only[bA]at e;obtain⟨s1,f1⟩:=s.set (i:=i) q1;obtain⟨env',U',b1,b2,b3⟩:=SL.binds s1 e (q2.dR wm);exact⟨env',U',by simp only[bindAll];exact b1,b2,f1.trans b3⟩
 |[],_::_,_,_,_,_,_,_,e,_=>by simp[bA]at e
 |_::_,[],_,_,_,_,_,_,e,_=>by simp[bA]at e
theorem SL.bind(s:SL aa env h U)(e:dj p d aa=some ak)(q:Dn (AU U) h d v):∃env' U',fq p v env=some env'/\SL ak env' h U'/\KU h U h U':=by
 cases p with
 |one i=>simp only[dj]at e;cases e;obtain⟨s1,f1⟩:=s.set (i:=i) q;exact⟨_,_,rfl,s1,f1⟩
 |tup is=>
  cases d<;>simp only[dj]at e<;>first|(cases e;done)|skip
  rw[Dn]at q;obtain⟨vs,rfl,q⟩:=q;exact s.binds e q
theorem SL.Oa(s:SL aa env h U){i b:Nat}(hb:U i b) (at':∀m d,i<aa.length->x=some (m,d)->∃v,env[i]?=some (some v)/\match m with
   |.sh=>Dn (AU U) (h.set b o) d v
   |.ow=>Dn (RU U i) (h.set b o) d v
   |.nw=>NQ U i (h.set b o) d v):SL (aa.set i x) env (h.set b o) U/\KU h U (h.set b o) U :=
 ⟨s.gen rfl (λ_ _=>rfl) (λk b' a g=>⟨a,by rw[Vr λz=>a i (by rw[<-z];exact hb)];exact g⟩) (λj n k b' a g=>⟨a,by rw[Vr λz=>n (s.Fv j i k a (by rw[<-z];exact hb))];exact g⟩)
  (λj k e=>by rw[XO];exact s.ub j k e) s.Fv at',by simp,λk hk n=>⟨by rw[Vr λz=>n i (by rw[<-z];exact hb)],n⟩⟩
theorem SL.Oc(s:SL aa env h U){i b:Nat}(hb:U i b):SL (aa.set i none) env (h.set b o) U/\KU h U (h.set b o) U:=s.Oa hb λ_ _ _ e=>nomatch e
theorem SL.Cj(s:SL aa env h U){i b:Nat}(hb:U i b):SL (aa.set i none) env (h.set b o) U/\KU h U (h.set b o) U:=s.Oc hb
theorem SL.regrow(s:SL aa env h U){i b:Nat}{mk:Mk}{d dn w:Val}{o:Ob}(e:aa[i]?=some (some (mk,d)))(ee:env[i]?=some (some w))(hb:U i b)(nw:Dn (RU U i) (h.set b o) dn w) :
  SL (aa.set i (some (.ow,dn))) env (h.set b o) U/\KU h U (h.set b o) U:=s.Oa hb λ_ _ _ e=>by cases e;exact⟨w,ee,nw⟩
theorem SL.toN(s:SL aa env h U){i:Nat}(hlt:i<aa.length)(ee:env[i]?=some (some w))(q:NQ U i h d w):SL (aa.set i (some (.nw,d))) env h U :=
 s.gen rfl (λ_ _=>rfl) (λ_ _ a g=>⟨a,g⟩) (λ_ _ _ _ a g=>⟨a,g⟩) s.ub s.Fv λ_ _ _ e=>by cases e;exact⟨w,ee,q⟩
theorem SL.grow(s:SL aa env h U){i b:Nat}(e:aa[i]?=some (some (.ow,d)))(ee:env[i]?=some (some (.ref b)))(hb:U i b)(hi:bz ds=true)(hv:vs=ds) :
  SL (aa.set i (some (.ow,.rl ds))) env (h.set b (.lst vs)) U/\KU h U (h.set b (.lst vs)) U :=
 s.regrow e ee hb (by rw[Dn];exact .inr ⟨b,vs,rfl,hb,by rw[Vz (s.ub i b hb)],(aS _ _ hi).mpr hv⟩)
end
section
variable {Φ:Nat->List Val->M Val} {Ψ:Nat->List Val->Pr FV} {sp:List Nat} {aa:aL} {env:Env} {h:Hs} {U:UR}
theorem se(V:bG Φ Ψ e)(s:SL aa env h U):cZ (λx h' v=>h<+:h'/\Dn (AU U) h' x.2 v) (aI Φ e env h) (Fp Ψ e aa):=by
 have r1:=V (jk aa) env (AU U) h s.up s.hide;have r2:=V (bE aa) env (λ_=>True) h (λ_ _=>trivial) s.flat
 have go:cZ (λx h' v=>h<+:h'/\Dn (AU U) h' x.2 v) (aI Φ e env h) (pb (aV Ψ e (bE aa)) λx=>pg x.1 (.ok x)):=by
  cases e2:aV Ψ e (bE aa) with
  |ok x=>
   rw[e2]at r2;obtain⟨v,h',ev,p,q⟩:=r2;show cZ _ _ (pg x.1 (.ok x));refine gj λhx=>⟨v,h',ev,p,(q.2 hx).dR λo z=>?_⟩;cases o with
   |none=>exact False.elim z
   |some k=>exact s.up k z
  |exc c es=>trivial
  |no=>trivial
 unfold Fp;cases e1:aV Ψ e (jk aa) with
 |ok x=>rw[e1]at r1;obtain⟨v,h',ev,p,q⟩:=r1;exact⟨v,h',ev,p,q.1⟩
 |exc c es=>exact go
 |no=>exact go
theorem cJ(V:bG Φ Ψ e)(s:SL aa env h U):cZ (λx h' v=>h<+:h'/\RV (λ_=>True) h x h' v) (aI Φ e env h) (aV Ψ e (bE aa)):=Fw (V (bE aa) env (λ_=>True) h (λ_ _=>trivial) s.flat)
def zH(Φ:Nat->List Val->M Val)(Ψ:Nat->List Val->Pr FV)(sp:List Nat)(s:IS):Prop:=∀(aa:aL) (env:Env) (h:Hs) (U:UR),SL aa env h U->cZ (RL h U) (fJ Φ s env h) (ck Ψ sp s aa)
def uI(Φ:Nat->List Val->M Val)(Ψ:Nat->List Val->Pr FV)(sp:List Nat)(s:eE):Prop:=∀(aa:aL) (env:Env) (h:Hs) (U:UR),SL aa env h U->cZ (RL h U) (jb Φ s env h) (dX Ψ sp s aa)
theorem sf{b:Nat}{h1:Hs}(g:h1[b]?=some (.lst vs))(hl:decide (vs.length<sizeLine)=true):bnd (met .append (.ref b) [v]) (λ_=>ret (Fl.nx env)) h1=.ok (.nx env) (h1.set b (.lst (vs++[v]))):=by
 simp only[met];unfold bnd ask aN aB put ret;dsimp only;rw[g];dsimp only;rw[Vv hl]
theorem Ck{i:Nat}(ha:bG Φ Ψ a):zH Φ Ψ sp (.expr (.met .append (.var i) #[a])):=λaa env h U s=>by
 rw[fJ,ck];try dsimp only
 change cZ (RL h U) _ (zZ Ψ (.app i a) aa);unfold zZ;try dsimp only
 split
 ·rename_i ds hv
  obtain⟨w,e2,q⟩:=s.un i _ hv;rw[Dn]at q
  rcases q with ⟨_,_,n,_⟩|⟨b,vs,rfl,hb,e4,e5⟩
  ·exact False.elim n
  have ev:bnd (aI Φ (.met .append (.var i) #[a]) env) (λ_=>ret (Fl.nx env)) h=bnd (aI Φ a env) (λv=>bnd (met .append (.ref b) [v]) λ_=>ret (Fl.nx env)) h:=by
   rw[aI,aj,aZ (cY e2)];rw[aj,aZ (a:=()) (h1:=h) (by unfold ask aN;simp[recv,e4])];rw[aj,bq,aj]
   congr 1
  rw[ev];refine aU (cJ ha s) λx h1 v ⟨p1,q1⟩=>gj λhg=>?_;have s1:=s.ext p1;have l:=e5.length;have run:=sf (env:=env) (v:=v) (bB p1 e4) (by rw[<-l];exact hg)
  by_cases hi:bz (ds++[x.2])=true
  ·rw[Vv hi];have eq:vs++[v]=ds++[x.2]:=(aS (A:=λ_=>True) (h:=h1) _ _ hi).mp (((e5.dR λ_ _=>trivial).ext p1).append (ao.cons q1.1 ao.nil));obtain⟨s2,f2⟩:=s1.grow hv e2 hb hi eq;exact⟨_,_,run,U,s2,(KU.refl s p1).trans f2⟩
  ·rw[Vw hi];obtain⟨s2,f2⟩:=s1.Cj (o:=.lst (vs++[v])) hb;exact⟨_,_,run,_,s2,(KU.refl s p1).trans f2⟩
 ·trivial
theorem Cm{i:Nat}(ha:bG Φ Ψ a):zH Φ Ψ sp (.expr (.met .extend (.var i) #[a])):=λaa env h U s=>by
 rw[fJ,ck];try dsimp only
 change cZ (RL h U) _ (zZ Ψ (.ext i a) aa);unfold zZ;try dsimp only
 split
 ·rename_i ds hv
  obtain⟨w,e2,q⟩:=s.un i _ hv;rw[Dn]at q
  rcases q with ⟨_,_,n,_⟩|⟨b,vs,rfl,hb,e4,e5⟩
  ·exact False.elim n
  have ev:bnd (aI Φ (.met .extend (.var i) #[a]) env) (λ_=>ret (Fl.nx env)) h=bnd (aI Φ a env) (λv=>bnd (met .extend (.ref b) [v]) λ_=>ret (Fl.nx env)) h:=by
   rw[aI,aj,aZ (cY e2)];rw[aj,aZ (a:=()) (h1:=h) (by unfold ask aN;simp[recv,e4])];rw[aj,bq,aj]
   congr 1
  rw[ev];refine aU (cJ ha s) λx h1 v aK=>?_;obtain⟨p1,q1⟩:=aK;obtain⟨f,d⟩:=x;cases d<;>first|trivial|skip
  rename_i es;refine gj λhg=>?_;have hg:=mT hg;have r:=q1.2 hg.1.1;dsimp only at r;rw[Dn]at r
  rcases r with ⟨_,_,n,_⟩|⟨c,ws,rfl,hc,e6,e7⟩
  ·exact False.elim n
  have s1:=s.ext p1;have l:=e5.length;have l2:=e7.length;have g4:=bB p1 e4;have eq:vs++ws=ds++es:=(aS (A:=λ_=>True) (h:=h1) _ _ hg.1.2).mp (((e5.dR λ_ _=>trivial).ext p1).append (e7.dR λ_ _=>trivial));obtain⟨s2,f2⟩:=s1.grow hv e2 hb hg.1.2 eq;refine⟨.nx env,h1.set b (.lst (vs++ws)),?_,U,s2,(KU.refl s p1).trans f2⟩;unfold met bnd ask aN aB put ret ql ay;dsimp only;rw[g4];dsimp only;rw[e6];dsimp only;rw[Vv (by rw[<-l,<-l2];exact hg.2)]
 ·trivial
theorem yj{α β:Type}{f:α -> β}:∀(l:List α) (n:Nat),(l.map f).eraseIdx n=(l.eraseIdx n).map f
 |[],_=>rfl
 |_::_,0=>rfl
 |a::l,n+1=>Wc (f a :: ·) (yj l n)
theorem Cn{i:Nat}(hj:bG Φ Ψ j)(ha:bG Φ Ψ a):zH Φ Ψ sp (.expr (.met .remove (.idx (.var i) j) #[a])):=λaa env h U s=>by
 rw[fJ,ck];try dsimp only
 change cZ (RL h U) _ (zZ Ψ (.rem i j a) aa);unfold zZ;try dsimp only
 split
 ·rename_i ds hv
  obtain⟨w,e2,q⟩:=s.nn i _ hv
  rcases q with ⟨b,bs,ds',ls,rfl,ed,el,hb,e5,e6,e7,e8⟩|⟨_,_,ed,_⟩<;>cases ed
  have ev:bnd (aI Φ (.met .remove (.idx (.var i) j) #[a]) env) (λ_=>ret (Fl.nx env)) h=bnd (aI Φ j env) (λz=>bnd (ask λh=>gF h (.ref b) z) λo=>bnd (ask λh=>recv h .remove o) λ_=>bnd (aI Φ a env) λv=>bnd (met .remove o [v]) λ_=>ret (Fl.nx env)) h:=by
   rw[aI,aj,aI,aj,aZ (cY e2),aj];refine congrFun ?_ h
   congr 1;funext z
   congr 1;funext o
   rw[aj]
   congr 1;funext _
   rw[aj,bq,aj]
   congr 1
  rw[ev];refine aU (cJ hj s) λz h1 z' aK=>?_;obtain⟨p1,q1⟩:=aK;cases ek:fS z.2 with
  |none=>trivial
  |some k=>
   obtain⟨f,zz⟩:=z;cases zz<;>first|(cases ek;done)|skip
   cases ek;have ez:z'=.int k:=(iH _ _ rfl).mp q1.1;subst ez;show cZ (RL h U) _ (pb (pl (qZ ds.length k)) _);cases en:qZ ds.length k with
   |none=>trivial
   |some n=>
    show cZ (RL h U) _ (pb (pl (gU ds)) _);rw[el];show cZ (RL h U) _ (pb (pl ls[n]?) _);cases eL:ls[n]? with
    |none=>trivial
    |some l=>
     have dl:ds.length=ls.length:=by rw[jn el,Vp]
     have hn:n<bs.length:=by rw[e6];exact(Vn.mp eL).1
     have eb:bs[n]?=some bs[n]:=VN hn;obtain⟨hc,gc⟩:=e8 n _ l eb eL;have g1:=bB p1 e5;have R6:=bB p1 gc;rw[aZ (a:=Val.ref bs[n]) (h1:=h1) (by
      unfold ask aN gF ay;dsimp only;rw[g1];dsimp only;rw[bind_some,show gC (bs.map Val.ref) k=some (.ref bs[n]) from by unfold gC;rw[Vp,e6,<-dl,en];simp[hn]])]
     rw[aZ (a:=()) (h1:=h1) (by unfold ask aN recv;dsimp only;rw[R6])];show cZ (RL h U) _ (pb (aV Ψ a (bE aa)) _);refine aU (cJ ha (s.ext p1)) λx h2 v aK=>?_;obtain⟨p2,q2⟩:=aK;cases em:fS x.2 with
     |none=>trivial
     |some m=>
      obtain⟨f2,xx⟩:=x;cases xx<;>first|(cases em;done)|skip
      cases em;have ex:v=.int m:=(iH _ _ rfl).mp q2.1;subst ex;show cZ (RL h U) _ (pg (decide (m∈l)) _);refine gj λhm=>?_;have s2:=(s.ext p1).ext p2;have g2:=bB p2 g1;have R7:=bB p2 R6;have hl:bs[n]<h2.length:=(Vn.mp R7).1;have nd:=Wb.mp e7;have T8:bs[n]≠b:=λz=>nd.1 (z▸WE hn);have nn:NN U i (h2.set bs[n] (.lst ((l.eraseIdx (l.idxOf m)).map .int))) (.rl (ds.set n (.rl ((l.eraseIdx (l.idxOf m)).map .int)))) (.ref b):=by
       refine⟨b,bs,_,ls.set n (l.eraseIdx (l.idxOf m)),rfl,rfl,?_,hb,by rw[Vr T8];exact g2,by rw[XO];exact e6,e7,λk' c l' a' z'=>?_⟩
       ·rw[jn el,<-yh (ls.set n (l.eraseIdx (l.idxOf m))),List.map_set]
       ·by_cases hk:n=k'
        ·subst hk;rw[eb]at a';cases a';rw[Vz (by rw[<-e6];exact hn)]at z';cases z';exact⟨hc,by rw[Vz hl]⟩
        ·rw[Vr hk]at z'
         obtain⟨y1,y2⟩:=e8 k' c l' a' z';refine⟨y1,?_⟩;have hk':k'<bs.length:=(Vn.mp a').1;have ne:bs[n]≠c:=λz=>hk (by
          have:bs[k']=c:=(Vn.mp a').2;exact(List.getElem_inj nd.2).mp (z.trans this.symm))
         rw[Vr ne];exact bB p2 (bB p1 y2)
      obtain⟨s3,f3⟩:=s2.regrow (o:=.lst ((l.eraseIdx (l.idxOf m)).map .int)) hv e2 hc (nn.dn λk hk=>hk);have hlt:i<aa.length:=(Vn.mp hv).1;have s4:=s3.toN (i:=i) (by simpa using hlt) e2 (.inl nn);rw[set_set]at s4;refine⟨.nx env,_,?_,U,s4,(KU.refl s (p1.trans p2)).trans f3⟩;unfold met bnd ask aN aB put ret;dsimp only;rw[R7];dsimp only;rw[yg];dsimp only;rw[Vv hm,yj]
 ·trivial
theorem uJ{i:Nat}:∀{ds vs:List Val} {m:Nat},Ci ds=some m->ao (RU U i) h ds vs->∀w∈vs,∃(b:Nat) (xs:List Val),w=.ref b/\U i b/\h[b]?=some (.lst xs)/\xs.length<=m
 |[],vs,m,e,q,w,hw=>by rw[ao]at q;subst q;cases hw
 | d::ds,vs,m,e,q,w,hw=>by
  rw[ao]at q;obtain⟨v,r,rfl,q1,q2⟩:=q;cases d<;>first|(cases e;done)|skip
  rename_i es;simp only[Ci]at e;obtain⟨n,e1,e⟩:=Vk.mp e;cases e
  rcases VF.mp hw with rfl|hw
  ·rw[Dn]at q1
   rcases q1 with ⟨_,_,n,_⟩|⟨b,xs,rfl,hb,e4,e5⟩
   ·exact False.elim n
   exact⟨b,xs,rfl,hb,e4,by rw[<-e5.length];exact Nat.le_max_left _ _⟩
  ·obtain⟨b,xs,k1,k2,k3,k4⟩:=uJ e1 q2 w hw;exact⟨b,xs,k1,k2,k3,VX k4 (Nat.le_max_right _ _)⟩
theorem zJ{i:Nat}{j:Int}(ha:bG Φ Ψ a):zH Φ Ψ sp (.expr (.met .append (.idx (.var i) (.cst (.int j))) #[a])):=λaa env h U s=>by
 rw[fJ,ck];try dsimp only
 change cZ (RL h U) _ (zZ Ψ (.apI i j a) aa);unfold zZ;try dsimp only
 split
 ·rename_i ds hv
  split
  ·rename_i es hj
   obtain⟨w,e2,q⟩:=s.un i _ hv;rw[Dn]at q;obtain⟨ws,rfl,q⟩:=q;have qq:=q;obtain⟨u,hu,q⟩:=q.gC hj;rw[Dn]at q
   rcases q with ⟨_,_,n,_⟩|⟨b,vs,rfl,hb,e4,e5⟩
   ·exact False.elim n
   have er:aI Φ (.idx (.var i) (.cst (.int j))) env h=.ok (.ref b) h:=by rw[aI,aZ (cY e2),aI];unfold bnd ask aN ret;dsimp only;rw[show gF h (.tup ws) (.int j)=some (.ref b) from hu]
   have ev:bnd (aI Φ (.met .append (.idx (.var i) (.cst (.int j))) #[a]) env) (λ_=>ret (Fl.nx env)) h=bnd (aI Φ a env) (λv=>bnd (met .append (.ref b) [v]) λ_=>ret (Fl.nx env)) h:=by
    rw[aI,aj,aZ er];rw[aj,aZ (a:=()) (h1:=h) (by unfold ask aN;simp[recv,e4])];rw[aj,bq,aj]
    congr 1
   rw[ev];refine aU (cJ ha s) λx h1 v ⟨p1,q1⟩=>gj λhg=>?_;have s1:=s.ext p1;have l:=e5.length;have run:=sf (env:=env) (v:=v) (bB p1 e4) (by rw[<-l];exact hg);unfold N4;cases em:Ci ds with
   |none=>obtain⟨s2,f2⟩:=s1.Cj (o:=.lst (vs++[v])) hb;exact⟨_,_,run,_,s2,(KU.refl s p1).trans f2⟩
   |some m=>
    obtain⟨s2,f2⟩:=s1.Oc (i:=i) (o:=.lst (vs++[v])) hb;have hlt:i<aa.length:=(Vn.mp hv).1;have T9:b<h1.length:=s1.ub i b hb;have s3:=s2.toN (i:=i) (d:=.tup [.int ((m+1:Nat):Int),.int ds.length]) (by simpa using hlt) e2 (.inr ⟨_,ws,by rw[qq.length],rfl,λw hw=>by
     obtain⟨c,xs,k1,k2,k3,k4⟩:=uJ em qq w hw
     by_cases hcb:b=c
     ·subst hcb;refine⟨b,vs++[v],k1,k2,by rw[Vz T9],?_⟩;rw[k3]at e4;cases e4;simp only[length_append,List.length_singleton];omega
     ·exact⟨c,xs,k1,k2,by rw[Vr hcb];exact bB p1 k3,by omega⟩⟩)
    rw[set_set]at s3;exact⟨_,_,run,_,s3,(KU.refl s p1).trans f2⟩
  ·trivial
 ·rename_i ds hv
  obtain⟨w,e2,q⟩:=s.nn i _ hv
  rcases q with ⟨b,bs,ds',ls,rfl,ed,_⟩|⟨n,ws,ed,rfl,q⟩
  ·cases ed
  cases ed
  by_cases hj:0<=j/\j<(ws.length:Int)
  ·have en:KD [.int n,.int ws.length] j=some n:=Vv hj
   rw[en];show cZ (RL h U) _ (pb (aV Ψ a (bE aa)) _);have hj':j.toNat<ws.length:=by omega
   have hu:gC ws j=some ws[j.toNat]:=by unfold gC qZ;rw[Vv hj.1,Vv hj.2];simp[hj']
   obtain⟨b,xs,eb,hb,e4,e5⟩:=q _ (WE hj');rw[eb]at hu;have er:aI Φ (.idx (.var i) (.cst (.int j))) env h=.ok (.ref b) h:=by rw[aI,aZ (cY e2),aI];unfold bnd ask aN ret;dsimp only;rw[show gF h (.tup ws) (.int j)=some (.ref b) from hu]
   have ev:bnd (aI Φ (.met .append (.idx (.var i) (.cst (.int j))) #[a]) env) (λ_=>ret (Fl.nx env)) h=bnd (aI Φ a env) (λv=>bnd (met .append (.ref b) [v]) λ_=>ret (Fl.nx env)) h:=by
    rw[aI,aj,aZ er];rw[aj,aZ (a:=()) (h1:=h) (by unfold ask aN;simp[recv,e4])];rw[aj,bq,aj]
    congr 1
   rw[ev];refine aU (cJ ha s) λx h1 v ⟨p1,q1⟩=>gj λhg=>?_;have s1:=s.ext p1;have hg:=VH hg;have run:=sf (env:=env) (v:=v) (bB p1 e4) (decide_eq_true (by omega));obtain⟨s2,f2⟩:=s1.Cj (o:=.lst (xs++[v])) hb;exact⟨_,_,run,_,s2,(KU.refl s p1).trans f2⟩
  ·have en:KD [.int n,.int ws.length] j=none:=Vw hj;rw[en];trivial
 ·trivial
theorem oB{n:Nat}{l:List Int}(q:Dn (Fr n) h (.rl (l.map .int)) v):∃b,v=.ref b/\n<=b/\h[b]?=some (.lst (l.map .int)):=by
 rw[Dn]at q
 rcases q with ⟨_,_,n,_⟩|⟨b,vs,rfl,hb,e4,e5⟩
 ·exact False.elim n
 exact⟨b,rfl,hb,by rw[e4,(aS _ _ (bH l)).mp e5]⟩
theorem KH{i:Nat}(hab:new2 e=some ab)(ha:bG Φ Ψ ab.1)(hb:bG Φ Ψ ab.2)(s:SL aa env h U):cZ (RL h U) (bnd (aI Φ e env) (λv=>bnd (aN (fq (.one i) v env)) λenv'=>ret (Fl.nx env')) h)
  (pb (aV Ψ ab.1 (bE aa)) λx=>pb (aV Ψ ab.2 (bE aa)) λy=>pb (pl (gU [x.2,y.2])) λ_=>pg (x.1&&y.1) (.ok (.nx (aa.set i (some (.nw,.rl [x.2,y.2])))))):=by
 have ee:e=.lst #[ab.1,ab.2]:=by
  unfold new2 at hab;split at hab
  ·cases hab;rfl
  ·cases hab
 rw[ee];have ev:∀K:Val->M Fl,bnd (aI Φ (.lst #[ab.1,ab.2]) env) K h=bnd (aI Φ ab.1 env) (λv=>bnd (aI Φ ab.2 env) λw=>bnd (new (.lst [v,w])) K) h:=λK=>by
  rw[aI,bq,bq,bq,aj,aj];refine congrFun ?_ h
  congr 1;funext v;rw[aj,aj]
  congr 1
 rw[ev];refine aU (cJ ha s) λx h1 v ⟨p1,q1⟩=>aU (cJ hb (s.ext p1)) λy h2 w ⟨p2,q2⟩=>?_;cases el:gU [x.2,y.2] with
 |none=>trivial
 |some ls=>
  show cZ _ _ (pg _ _);refine gj λhx=>?_;have hx:=b9 hx;have r1:=q1.2 hx.1;have r2:=q2.2 hx.2;have em:=jn el
  match ls,em with
  |[_],em=>exact nomatch (Ww em).2
  |_::_::_::_,em=>exact nomatch (Ww (Ww em).2).2
  |[l1,l2],em=>
   have e1:x.2=.rl (l1.map .int):=(Ww em).1;have e2:y.2=.rl (l2.map .int):=(Ww (Ww em).2).1;rw[e1]at r1;rw[e2]at r2;obtain⟨b1,rfl,n1,g1⟩:=oB r1;obtain⟨b2,rfl,n2,g2⟩:=oB r2;have Vh:=(Vn.mp g1).1;have Vi:=(Vn.mp g2).1;have g1:=bB p2 g1;have z1:=p1.length_le;have z2:=p2.length_le;have p3:h2<+:h2++[.lst [.ref b1,.ref b2]]:=Wa _ _;have sz:(h2++[Ob.lst [.ref b1,.ref b2]]).length=h2.length+1:=by simp
   have nn:NN (zG U i h.length (h2++[Ob.lst [.ref b1,.ref b2]]).length) i (h2++[.lst [.ref b1,.ref b2]]) (.rl [x.2,y.2]) (.ref h2.length):=by
    have rg:∀k,h.length<=k->k<h2.length+1->zG U i h.length (h2++[Ob.lst [.ref b1,.ref b2]]).length i k:=λk a b=>by
     unfold zG;rw[Vv rfl,sz];exact⟨a,b⟩
    refine⟨h2.length,[b1,b2],_,_,rfl,rfl,el,rg _ (by omega) (by omega),by simp,rfl,?_,λk c l a z=>?_⟩
    ·simp only[List.nodup_cons,mem_cons,not_mem_nil,List.nodup_nil,or_false,not_false_eq_true,and_true,not_or];omega
    ·match k,a,z with
     |0,a,z=>cases a;cases z;exact⟨rg _ (by omega) (by omega),bB p3 g1⟩
     |1,a,z=>cases a;cases z;exact⟨rg _ (by omega) (by omega),bB p3 g2⟩
   obtain⟨s2,f2⟩:=s.N9 ((p1.trans p2).trans p3) (i:=i) (d:=.rl [x.2,y.2]) (v:=.ref h2.length) (nn.dn λk hk=>by
    unfold zG at hk;rw[Vv rfl]at hk;exact hk.1)
   by_cases hi:i<aa.length
   ·have s3:=s2.toN (i:=i) (by simpa using hi) (by rw[Vz (by rw[<-s.len];exact hi)]) (.inl nn);rw[set_set]at s3;exact⟨_,_,rfl,_,s3,f2⟩
   ·rw[Xa (by omega)]at s2 |-;exact⟨_,_,rfl,_,s2,f2⟩
theorem Od(V:bG Φ Ψ e)(V2:∀ab,new2 e=some ab->bG Φ Ψ ab.1/\bG Φ Ψ ab.2):zH Φ Ψ sp (.asg p e):=λaa env h U s=>by
 cases p with
 |one i=>
  rw[fJ,ck];try dsimp only
  split
  ·split
   ·rename_i ab hab;exact KH hab (V2 _ hab).1 (V2 _ hab).2 s
   ·refine aU (cJ V s) λx h1 v ⟨p1,q1⟩=>gj λhx=>?_;obtain⟨s2,f2⟩:=s.N9 p1 (i:=i) (q1.2 hx);exact⟨_,_,rfl,_,s2,f2⟩
  ·refine aU (se V s) λx h1 v aK=>?_;obtain⟨p1,q1⟩:=aK;obtain⟨s2,f2⟩:=(s.ext p1).set (i:=i) q1;exact⟨_,_,rfl,_,s2,(KU.refl s p1).trans f2⟩
 |tup is=>
  rw[fJ,ck];try dsimp only
  refine aU (se V s) λx h1 v aK=>?_;obtain⟨p1,q1⟩:=aK;have s1:=s.ext p1;refine aU (R:=λak h' env'=>∃U',SL ak env' h' U'/\KU h1 U h' U') (kU λak ev=>?_) λak h2 env' hh=>?_
  ·obtain⟨env',U',b1,b2,b3⟩:=s1.bind ev q1;exact⟨env',b1,U',b2,b3⟩
  ·obtain⟨U',b2,b3⟩:=hh;exact cI ⟨U',b2,(KU.refl s p1).trans b3⟩
theorem Oe(V:bG Φ Ψ c)(ha:uI Φ Ψ sp a)(hb:uI Φ Ψ sp b):zH Φ Ψ sp (.iff c a b):=λaa env h U s=>by
 rw[fJ,ck];refine aU (cJ V s) λx h1 v aK=>?_;obtain⟨p1,q1⟩:=aK;refine aU (R:=λt h' t'=>h'=h1/\t'=t) (kU λt ht=>⟨t,rV (.inl q1.1) ht,rfl,rfl⟩) λt h2 t' aK=>?_;obtain⟨e1,e2⟩:=aK;subst e1;subst e2;have s1:=s.ext p1;cases t' with
 |true=>rw[Vv rfl,Vv rfl];exact gW (ha aa env _ U s1) λf h' g r=>r.seq (KU.refl s p1)
 |false=>rw[Vw Vl,Vw Vl];exact gW (hb aa env _ U s1) λf h' g r=>r.seq (KU.refl s p1)
theorem Of(V:bG Φ Ψ e):zH Φ Ψ sp (.ret e):=λaa env h U s=>by
 rw[fJ,ck];exact aU (cJ V s) λx h1 v ⟨p1,q1⟩=>cI ⟨q1,U,KU.refl s p1⟩
def Q6(h:Hs)(U:UR)(src:Src)(ws:List Val):Prop:=∀h':Hs,(∀k,k<h.length->(∀i,¬ U i k)->h'[k]?=h[k]?)->src.items h'=some ws
theorem Og(q:Dn (AU U) h d v)(e:fk k [d]=some xs):∃src ws,srcOf k [v]=some src/\ao (AU U) h xs ws/\src.items h=some ws/\Q6 h U src ws:=by
 have lst:∀es,d=.rl es->(∃ws,v=.rl ws/\ao (AU U) h es ws)\/∃a ws,v=.ref a/\h[a]?=some (.lst ws)/\ao (AU U) h es ws/\∀h':Hs,(∀k,k<h.length->(∀i,¬ U i k)->h'[k]?=h[k]?)->h'[a]?=some (Ob.lst ws):=by
  rintro es rfl;rw[Dn]at q
  rcases q with ⟨ws,rfl,_,q⟩|⟨a,ws,rfl,al,g,q⟩
  ·exact .inl ⟨ws,rfl,q⟩
  ·exact .inr ⟨a,ws,rfl,g,q,λh' hk=>(hk a (Vn.mp g).1 al).trans g⟩
 cases k with
 |seq=>
  cases d<;>simp only[fk]at e<;>first|(cases e;done)|skip
  ·rename_i z
   rw[Dn]at q;subst q;split at e
   ·rename_i hn;cases e
    refine⟨.fix (signs z),signs z,Vv hn,?_,rfl,λ_ _=>rfl⟩;unfold signs;generalize z.cps.toList=l
    induction l with
    |nil=>exact ao.nil
    |cons a l ih=>exact ao.cons (by rw[Dn]) ih
   ·cases e
  ·cases e;rw[Dn]at q;obtain⟨ws,rfl,q⟩:=q;exact⟨.fix ws,ws,rfl,q,rfl,λ_ _=>rfl⟩
  ·cases e
   rcases lst _ rfl with ⟨ws,rfl,q'⟩|⟨a,ws,rfl,g,q',st⟩
   ·exact⟨.fix ws,ws,rfl,q',rfl,λ_ _=>rfl⟩
   ·exact⟨.live a,ws,rfl,q',eF g,λh' hk=>eF (st h' hk)⟩
 |range=>
  cases d<;>simp only[fk]at e<;>first|(cases e;done)|skip
  rw[Dn]at q;subst q;split at e
  ·rename_i hn;cases e;exact⟨.fix _,_,by simp only[srcOf];rw[Vv hn],gK,rfl,λ_ _=>rfl⟩
  ·cases e
 |enum=>
  cases d<;>simp only[fk]at e<;>first|(cases e;done)|skip
  cases e
  rcases lst _ rfl with ⟨ws,rfl,q'⟩|⟨a,ws,rfl,g,q',st⟩
  ·exact⟨.fix _,_,rfl,eW 0 q',rfl,λ_ _=>rfl⟩
  ·exact⟨.enum a,_,rfl,eW 0 q',eG g,λh' hk=>eG (st h' hk)⟩
 |zip=>cases e
theorem uK(hb:∀aa env h U x v,SL aa env h U->Dn (AU U) h x v->cZ (RL h U) (body v env h) (bodyV x aa))
  {h1:Hs} {U1:UR} (st:Q6 h1 U1 src ws) :
  ∀(xs vs:List Val) (i:Nat) (aa:aL) (env:Env) (h:Hs) (U:UR),SL aa env h U->KU h1 U1 h U->ws.drop i=vs->ao (AU U) h xs vs ->
   cZ (RL h1 U1) (forM src body vs.length i env h) (iU bodyV xs aa)
 | [],vs,i,aa,env,h,U,s,f,hd,q=>by
  rw[ao]at q;subst q;have hl:ws.length<=i:=Xx.mp hd;have hi:=st h (λk hk n=>(f.keep k hk n).1);rw[iU];refine⟨.nx env,h,?_,U,s,f⟩;show forM src body 0 i env h=_;simp only[forM];unfold bnd ask aN aB;dsimp only;rw[hi];dsimp only;rw[Vv (decide_eq_true hl)];try rfl
 | x::xs,vs,i,aa,env,h,U,s,f,hd,q=>by
  rw[ao]at q;obtain⟨v,r,rfl,q1,q2⟩:=q;have hv:ws[i]?=some v:=by have:=Wc (λl=>l[0]?) hd;simpa using this
  have hr:ws.drop (i+1)=r:=by
   have:ws.drop (i+1)=(ws.drop i).drop 1:=by rw[XW]
   rw[this,hd];rfl
  have hi:=st h (λk hk n=>(f.keep k hk n).1);have ev:forM src body (v::r).length i env h=bnd (body v env) (λf=>match f with
   |.nx env'=>forM src body r.length (i+1) env'
   |.ct env'=>forM src body r.length (i+1) env'
   |.bk env'=>ret (.nx env')
   |.rt v=>ret (.rt v)) h:=by
   show forM src body (r.length+1) i env h=_;simp only[forM];unfold bnd ask aN;dsimp only;rw[hi];dsimp only;rw[hv];try rfl
  rw[ev,iU];refine aU (hb aa env h U x v s q1) λfl h2 gl hr2=>?_;have go:∀ak env' U',SL ak env' h2 U'->KU h U h2 U'->cZ (RL h1 U1) (forM src body r.length (i+1) env' h2) (iU bodyV xs ak):=λak env' U' s' f'=>by
   refine uK hb st xs r (i+1) ak env' h2 U' s' (f.trans f') hr (ao.move (A:=AU U) (λ_=>trivial) (λk o hk g=>?_) _ _ q2);have hlt:k<h.length:=(Vn.mp g).1;obtain⟨a1,a2⟩:=f'.keep k hlt hk;exact⟨a2,a1.trans g⟩
  cases fl<;>cases gl<;>first|exact hr2.elim|skip
  ·obtain⟨U',s',f'⟩:=hr2;exact go _ _ U' s' f'
  ·exact cI (RL.seq (f:=.rt _) (g:=.rt _) f hr2)
  ·obtain⟨U',s',f'⟩:=hr2;exact cI ⟨U',s',f.trans f'⟩
  ·obtain⟨U',s',f'⟩:=hr2;exact go _ _ U' s' f'
theorem Oh(V:bG Φ Ψ e)(hb:uI Φ Ψ sp body):zH Φ Ψ sp (.for p k #[e] body):=λaa env h U s=>by
 rw[ck];try dsimp only
 have hsp:Fq e p k body=none:=rfl;rw[hsp];dsimp only;rw[fJ];have ev:∀(F:List Val->M Fl),bnd (bq Φ #[e] env) F h=bnd (aI Φ e env) (λv=>F [v]) h:=λF=>by
  rw[bq,bq,aj];rfl
 rw[ev];refine aU (se V s) λx h1 v aK=>?_;obtain⟨p1,q1⟩:=aK;have s1:=s.ext p1;refine aU (R:=λxs h' src=>h'=h1/\∃ws,ao (AU U) h1 xs ws/\src.items h1=some ws/\Q6 h1 U src ws) (kU λxs ex=>?_) λxs h2 src ⟨e2,ws,q2,q3,st⟩=>?_
 ·obtain⟨src,ws,a1,a2,a3,a4⟩:=Og q1 ex;exact⟨src,a1,rfl,ws,a2,a3,a4⟩
 ·subst e2
  have QO:∀(F:List Val->M Fl),bnd (ask λh=>src.items h) F h2=F ws h2:=λF=>by unfold bnd ask aN;dsimp only;rw[q3]
  rw[QO];refine gW (uK (λak env' h' U' x v s' qx=>?_) st xs ws 0 aa env h2 U s1 (KU.refl s1 (VG _)) rfl q2) λf h' g r=>r.seq (KU.refl s p1);refine aU (R:=λgO h2 gr=>∃U2,SL gO gr h2 U2/\KU h' U' h2 U2) (kU λgO e2=>?_) λgO h2 gr hh=>?_
  ·obtain⟨gr,U2,b1,b2,b3⟩:=s'.bind e2 qx;exact⟨gr,b1,U2,b2,b3⟩
  ·obtain⟨U2,b2,b3⟩:=hh;exact gW (hb gO gr h2 U2 b2) λf h'' g r=>r.seq b3
theorem Oi:uI Φ Ψ sp .nil:=λaa env h U s=>by rw[jb,dX];exact cI ⟨U,s,KU.refl s (VG _)⟩
theorem KI(ha:zH Φ Ψ sp a)(hr:uI Φ Ψ sp r):uI Φ Ψ sp (.cons a r):=λaa env h U s=>by
 rw[jb,dX];refine aU (ha aa env h U s) λf h1 g q=>?_;cases f<;>cases g<;>first|exact q.elim|skip
 ·obtain⟨U1,s1,f1⟩:=q;exact gW (hr _ _ h1 U1 s1) λf h' g r=>r.seq f1
 ·exact cI q
 ·exact cI q
 ·exact cI q
theorem sj(e:∀aa,ck Ψ sp s aa=.no):zH Φ Ψ sp s:=λaa env h U _=>by rw[e];trivial
theorem KJ(V:∀e,cO e=true->bG Φ Ψ e)(ho:cO e=true):zH Φ Ψ sp (.expr e):=by
 cases hk:N5 e with
 |none=>exact sj λaa=>by rw[ck,hk]
 |some k=>
  cases N7 hk;cases k with
  |app i a=>exact Ck (V a (b9 (b9 ho).2).1)
  |apI i j a=>exact zJ (V a (b9 (b9 ho).2).1)
  |ext i a=>exact Cm (V a (b9 (b9 ho).2).1)
  |rem i j a=>exact Cn (V j (b9 (b9 ho).1).2) (V a (b9 (b9 ho).2).1)
theorem Oj(hi:bG Φ Ψ i)(hv:bG Φ Ψ v):zH Φ Ψ sp (.iZ o i v):=sj λaa=>by rw[ck]
theorem Ol(hΦ:∀j,Imp (Φ j) (Ψ j)):∀ss,n9 ss=true->uI Φ Ψ sp ss:=by
 have V:=(v_all hΦ).1;intro ss;refine eE.rec (motive_1:=λs=>QN s=true->zH Φ Ψ sp s) (motive_2:=λss=>n9 ss=true->uI Φ Ψ sp ss) ?_ ?_ ?_ ?_ ?_ ?_ ?_ ?_ ?_ ?_ ?_ ?_ ?_ ?_ ?_ ?_ ss
 ·intro e f;exact KJ V f
 ·intro p e f;exact Od (V e f) λab hab=>by
   have ee:e=.lst #[ab.1,ab.2]:=by
    unfold new2 at hab;split at hab
    ·cases hab;rfl
    ·cases hab
   subst ee;have f:(cO ab.1&&(cO ab.2&&true))=true:=f;have f:=b9 f;exact⟨V _ f.1,V _ (b9 f.2).1⟩
 ·intro i o e f;exact sj λaa=>by rw[ck]
 ·intro o i v f;have f:=mT f;exact Oj (V i f.1.2) (V v f.2)
 ·intro c a b ha hb f;have f:=mT f;exact Oe (V c f.1.1) (ha f.1.2) (hb f.2)
 ·intro p k it b hb f
  have f:=b9 f;cases it with
  |nil=>exact sj λaa=>by rw[ck.eq_def]<;>rfl
  |cons e es=>
   cases es with
   |nil=>exact Oh (V e (b9 f.1).1) (hb f.2)
   |cons _ _=>exact sj λaa=>by rw[ck];intro _ z;cases z
 ·intro n c b _ f;exact sj λaa=>by rw[ck]
 ·intro e f;exact Of (V e f)
 ·intro _;exact sj λaa=>by rw[ck]
 ·intro _ aa env h U s;rw[fJ,ck];exact cI ⟨U,s,KU.refl s (VG _)⟩
 ·intro _ aa env h U s;rw[fJ,ck];exact cI ⟨U,s,KU.refl s (VG _)⟩
 ·intro _ aa env h U s;rw[fJ,ck];exact cI ⟨U,s,KU.refl s (VG _)⟩
 ·intro _;exact sj λaa=>by rw[ck]
 ·intro _ _ _ _ _;exact sj λaa=>by rw[ck]
 ·intro _;exact Oi
 ·intro a r ha hr f;have f:=b9 f;exact KI (ha f.1) (hr f.2)
theorem ao.at:∀{ds vs:List Val} {i:Nat} {d:Val},ao A h ds vs->ds[i]?=some d->∃v,vs[i]?=some v/\Dn A h d v
 |[],vs,i,d,q,e=>by cases e
 | d::ds,vs,0,d',q,e=>by
  rw[ao]at q;obtain⟨v,r,rfl,q1,q2⟩:=q;cases e;exact⟨v,rfl,q1⟩
 | d::ds,vs,i+1,d',q,e=>by
  rw[ao]at q;obtain⟨v,r,rfl,q1,q2⟩:=q;exact ao.at (i:=i) q2 e
theorem Om{n:Nat}(q:ao A h ds vs):SL (ds.map (λd=>some (.sh,d))++replicate (n-ds.length) none) (vs.map some++replicate (n-vs.length) none) h (λ_ _=>False):=by
 have l:=q.length;have here:∀(i:Nat) (m:Mk) (d:Val),(ds.map (λd=>some (Mk.sh,d))++replicate (n-ds.length) none)[i]?=some (some (m,d))->m=.sh/\ds[i]?=some d:=λi m d e=>by
  by_cases hi:i<ds.length
  ·rw[VD (by simpa using hi),VI,VN hi]at e;cases e;exact⟨rfl,VN hi⟩
  ·rw[VT (by simpa using hi)]at e;cases (XD.mp (VP e)).2
 refine⟨by simp[l],λi d e=>?_,λi d e=>?_,λi d e=>?_,λ_ _ z=>z.elim,λ_ _ _ z=>z.elim⟩
 ·obtain⟨_,e⟩:=here i _ d e;obtain⟨v,e2,q2⟩:=q.at e;refine⟨v,?_,q2.dR λo _=>by cases o<;>first|trivial|exact λ_ z=>z⟩;have hi:=(Vn.mp e2).1;rw[VD (by simpa using hi),VI,e2];rfl
 ·cases (here i _ d e).1
 ·cases (here i _ d e).1
theorem zK{n:Nat}(hΦ:∀j,Imp (Φ j) (Ψ j))(ho:n9 body=true){ns:List Int}{f:Bool}(e:KG Ψ n body [.rl (ns.map .int)]=.ok (f,.bl true)):∃h',j9 Φ n body [.rl (ns.map .int)] []=.ok (.bl true) h':=by
 have s:SL ([(Val.rl (ns.map .int))].map (λd=>some (.sh,d))++replicate (n-1) none) ([(Val.rl (ns.map .int))].map some++replicate (n-1) none) [] (λ_ _=>False):=Om (A:=λ_=>True) (h:=[]) (n:=n) (ds:=[.rl (ns.map .int)]) (vs:=[.rl (ns.map .int)]) (ao.cons (by rw[Dn];exact .inl ⟨_,rfl,trivial,(aS _ _ (bH ns)).mpr rfl⟩) ao.nil);have r:=Ol (sp:=jl body) hΦ body ho _ _ [] _ s;unfold KG at e;show ∃h',bnd (jb Φ body ([(Val.rl (ns.map .int))].map some++replicate (n-1) none)) _ []=_;change pb (dX Ψ (jl body) body ([(Val.rl (ns.map .int))].map (λd=>some (.sh,d))++replicate (n-1) none)) _=_ at e;cases e1:dX Ψ (jl body) body ([(Val.rl (ns.map .int))].map (λd=>some (.sh,d))++replicate (n-1) none) with
 |ok fl=>
  rw[e1]at e r;obtain⟨g,h',eg,q⟩:=r;unfold bnd;rw[eg];cases fl with
  |rt p=>
   cases g<;>first|exact q.elim|skip
   change Pr.ok p=_ at e;cases e;have q:Dn (λ_=>True) h' (.bl true) _:=q.1.1;rw[Dn]at q;subst q;exact⟨h',rfl⟩
  |nx _=>cases e
  |bk _=>cases e
  |ct _=>cases e
 |exc c es=>rw[e1]at e;cases e
 |no=>rw[e1]at e;cases e
end
end Hv
end
section
namespace K05
open PySem L2 Hv
abbrev Co:List PySem.Str:=["_law_script","_law_k"]
abbrev KL:List PySem.Str:=["_law_poles_here","_law_ties_here","_law_rows"]
abbrev uL:List PySem.Str:=["_law_script"]
abbrev KN:List PySem.Str:=["_law_script","_law_seat","_law_k","_law_one","_law_two","_law_number_here","_law_step","_law_shift"]
abbrev KO:List PySem.Str:=["_law_script","_law_many","_law_cell","_law_one"]
abbrev KP:List PySem.Str:=["_law_script","_law_start","_law_most","_law_many","_law_ties_here","_law_cells","_law_k","_law_cell","_law_one","_law_other"]
abbrev Oo:List PySem.Str:=["_law_script","_law_start","_law_most","_law_many"]
abbrev KQ:List PySem.Str:=["_law_script","_law_many","_law_nets_here","_law_start"]
abbrev Cp:List PySem.Str:=["word","numbers"]
abbrev KR:List PySem.Str:=["net","rows","tie"]
abbrev Cq:List PySem.Str:=["rows","at","word","many","words"]
abbrev Cr:List PySem.Str:=["poles","ties","numbers","tie","number"]
abbrev qH:List PySem.Str:=["poles","ties"]
abbrev Cs:List PySem.Str:=["ties","seen","tie"]
abbrev Ct:List PySem.Str:=["poles","ties","named","name","one","other"]
abbrev Cu:List PySem.Str:=["net","places","tie"]
abbrev Cv:List PySem.Str:=["poles","ties","net"]
abbrev Cw:List PySem.Str:=["rows","poles","ties"]
abbrev Cy:List PySem.Str:=["_law_rows","_law_cell","_law_told","_law_number_here","_law_row","_law_at"]
abbrev uM:List PySem.Str:=["_law_found","_law_many"]
abbrev uN:List PySem.Str:=["_law_found","_law_due"]
abbrev uO:List PySem.Str:=["_law_word","_law_numbers"]
abbrev Cz:List PySem.Str:=["_law_net_here","_law_cell","_law_poles_here","_law_rows","_law_k","_law_tie"]
abbrev GI:List PySem.Str:=["_law_script","_law_k","_law_net_here","_law_cell","_law_handed","_law_rows","_law_kept","_law_found","_law_mixed"]
def top(i:Nat):Stmt:=PySem.Challenge.pw_linkorcut_k05_whole_read_again.main.body.getD i (.Pass ⟨0,0,0,0⟩)
def cons:List (Str×Val):=[("MOST_TIES",(.int 14)),("MOST_PLACES",(.int 8)),("FIGURES",(.str "0123456789")),("MOST_FIGURES",(.int 60))]
def tb:Tb:=⟨0,[],[],[],[]⟩
def dH:eE:=#[.iff (.cmp .lt (!1) (.blt .len #[!0])) #[.ret (.idx (!0) (!1))] .nil,.ret (¬0)]
def jo:eE:=#[.asg (.one 2) (.comp ["_law_name","_law_one","_law_other"] [none,none,none] (.tup [0,1,2]) .seq #[!1] .no (.tup #[!0,.blt .min #[!1,!2],.blt .max #[!1,!2]])),.ret (.tup #[.tup #[.blt .min #[!0],.blt .max #[!0]],.blt .sorted #[!2]])]
def jq:eE:=#[.ret (.cmp .eq (.bin .mod (.call 0 #[!0,¬3]) (¬2)) (¬1))]
def eX:eE:=#[.asg (.one 3) (.call 0 #[!0,!1]),.asg (.one 4) (.call 0 #[!0,.bin .add (!1) (¬1)]),.iff (.call 2 #[!0]) #[.asg (.one 5) (.bin .sub (¬0) (¬1)),.for (.one 6) .range #[.bin .add (!2) (¬1)] #[.asg (.one 5) (.bin .add (.bin .add (!5) (¬1)) (.bin .mod (!3) (.bin .pow (¬10) (¬57)))),.asg (.one 3) (.bin .fdiv (!3) (.bin .pow (¬10) (¬57)))],.ret (!5)] .nil,.asg (.one 6) (¬1),.asg (.one 7) (¬0),.iff (.cmp .gt (.bin .mod (!3) (¬3)) (¬0)) #[.asg (.one 6) (.bin .add (.bin .mod (!3) (.bin .pow (¬10) (¬57))) (¬1))] .nil,.iff (.cmp .gt (.bin .mod (!4) (¬3)) (¬0)) #[.asg (.one 7) (.bin .mod (!4) (.bin .pow (¬10) (¬57)))] .nil,.asg (.one 5) (.bin .add (.bin .mul (!6) (.bin .mod (.bin .add (.bin .mul (.bin .add (¬1) (.bin .mod (.bin .fdiv (!4) (¬3)) (¬66))) (!2)) (.bin .mod (.bin .fdiv (!3) (¬3)) (¬67))) (¬67))) (!7)),.iff (.cmp .eq (.bin .mod (!4) (¬7)) (¬3)) #[.ret (.bin .sub (.bin .sub (.bin .pow (¬10) (¬60)) (¬1)) (!5))] .nil,.ret (!5)]
def fX:eE:=#[.asg (.one 2) (.call 0 #[!0,¬4]),.iff (.call 2 #[!0]) #[.ret (.tup #[.call 3 #[!0,¬2,.bin .mod (.bin .mod (.bin .fdiv (!2) (¬8)) (¬8)) (!1)],.call 3 #[!0,¬2,.bin .mod (.bin .mod (.bin .fdiv (!2) (¬64)) (¬8)) (!1)]])] .nil,.asg (.one 3) (.call 3 #[!0,¬2,¬0]),.iff (.or (.cmp .eq (!1) (¬1)) (.cmp .eq (.bin .mod (.bin .fdiv (!2) (¬8)) (¬5)) (¬4))) #[.ret (.tup #[!3,!3])] .nil,.ret (.tup #[!3,.call 3 #[!0,¬2,¬1]])]
def dm:eE:=#[.asg (.one 4) (.lst .nil),.asg (.one 5) (.slc (!0) (!1) (.bin .add (!1) (!2))),.iff (.call 2 #[!0]) #[.asg (.one 5) (.slc (!5) .no (.bin .mod (.bin .mod (.bin .fdiv (.call 0 #[!0,¬4]) (¬512)) (¬16)) (.bin .add (!2) (¬1))))] .nil,.for (.tup [6,7]) .enum #[!5] #[.asg (.one 8) (.call 3 #[!0,¬2,.bin .mod (.bin .mod (.bin .mul (!7) (¬48271)) (¬10007)) (!3)]),.asg (.one 9) (.call 3 #[!0,¬2,.bin .mod (.bin .mod (.bin .mul (!7) (¬16807)) (¬10009)) (!3)]),.iff (.call 2 #[!0]) #[.asg (.one 8) (.call 3 #[!0,¬2,.bin .mod (!7) (!3)]),.asg (.one 9) (.call 3 #[!0,¬2,.bin .mod (.bin .fdiv (!7) (!3)) (!3)])] .nil,.expr (.met .append (!4) #[.tup #[.call 3 #[!0,¬0,!6],!8,!9]])],.ret (!4)]
def gX:eE:=#[.asg (.one 1) (.bin .add (¬1) (.bin .mod (.call 0 #[!0,¬4]) (¬8))),.asg (.one 2) (.lst .nil),.for (.one 3) .seq #[.lst #[¬5,¬19,¬33,¬47]] #[.iff (.or (.cmp .eq (!3) (¬5)) (.cmp .lt (!3) (.blt .len #[!0]))) #[.expr (.met .append (!2) #[.call 1 #[.call 4 #[!0,!1],.call 5 #[!0,!3,¬14,!1]]])] .nil],.ret (!2)]
def gY:eE:=#[.ret (.met .join (.cst (.str " ")) #[.bin .add (.lst #[!0]) (.comp ["number"] [none] (.one 0) .seq #[!1] .no (.blt .str #[!0]))])]
def jr:eE:=#[.asg (.one 1) (.lst #[.call 7 #[.cst (.str "poles"),.idx (!0) (¬0)]]),.for (.one 2) .seq #[.idx (!0) (¬1)] #[.expr (.met .append (!1) #[.call 7 #[.cst (.str "tie"),!2]])],.ret (!1)]
def cS:eE:=#[.iff (.or (.cmp .eq (!0) (.cst (.str ""))) (.cmp .gt (.blt .len #[!0]) (.con "MOST_FIGURES" (.int 60)))) #[.ret (.cst (.bl false))] .nil,.iff (.and (.cmp .eq (.idx (!0) (¬0)) (.cst (.str "0"))) (.cmp .ne (!0) (.cst (.str "0")))) #[.ret (.cst (.bl false))] .nil,.ret (.blt .all #[.comp ["sign"] [none] (.one 0) .seq #[!0] .no (.cmp .Eb (!0) (.con "FIGURES" (.str "0123456789")))])]
def cT:eE:=#[.asg (.one 4) (.met .pop (.idx (!0) (!1)) #[.cst (.str " ")]),.iff (.or (.cmp .ne (.idx (!4) (¬0)) (!2)) (.cmp .ne (.blt .len #[!4]) (.bin .add (!3) (¬1)))) #[.never] .nil,.iff (.not (.blt .all #[.comp ["text"] [none] (.one 0) .seq #[.slc (!4) (¬1) .no] .no (.call 9 #[!0])])) #[.never] .nil,.ret (.blt .tuple #[.comp ["text"] [none] (.one 0) .seq #[.slc (!4) (¬1) .no] .no (.blt .int #[!0])])]
def dI:eE:=#[.ret (.chn .le .lt (¬0) (!0) (.bin .pow (¬10) (¬60)))]
def bS:eE:=#[.asg (.one 2) (.blt .list #[!0]),.for (.one 3) .seq #[!1] #[.expr (.met .extend (!2) #[!3])],.for (.one 4) .seq #[!2] #[.iff (.not (.call 11 #[!4])) #[.never] .nil]]
def cu:eE:=#[.asg (.one 1) .dct0,.for (.one 2) .seq #[!0] #[.iff (.cmp .Eb (.idx (!2) (¬0)) (!1)) #[.never] .nil,.iZ (!1) (.idx (!2) (¬0)) (.cst (.bl true))]]
def cy:eE:=#[.asg (.one 2) (.lst .nil),.for (.tup [3,4,5]) .seq #[!1] #[.expr (.met .append (!2) #[.tup #[!3,.blt .min #[!4,!5],.blt .max #[!4,!5]]])],.ret (.tup #[.tup #[.blt .min #[.idx (!0) (¬0),.idx (!0) (¬1)],.blt .max #[.idx (!0) (¬0),.idx (!0) (¬1)]],.blt .sorted #[!2]])]
def dJ:eE:=#[.asg (.one 1) (.blt .list #[.idx (!0) (¬0)]),.for (.one 2) .seq #[.idx (!0) (¬1)] #[.expr (.met .extend (!1) #[.slc (!2) (¬1) .no])],.ret (.sset (!1))]
def gZ:eE:=#[.expr (.call 12 #[!0,!1]),.expr (.call 13 #[!1]),.asg (.one 2) (.call 14 #[!0,!1]),.iff (.or (.cmp .gt (.blt .len #[!1]) (.con "MOST_TIES" (.int 14))) (.cmp .gt (.blt .len #[.call 15 #[!2]]) (.con "MOST_PLACES" (.int 8)))) #[.never] .nil,.ret (!2)]
def kW:eE:=#[.iff (.cmp .eq (.blt .len #[!0]) (¬0)) #[.never] .nil,.asg (.one 1) (.call 10 #[!0,¬0,.cst (.str "poles"),¬2]),.asg (.one 2) (.comp ["at","rows"] [none,some 0] (.one 0) .range #[¬1,.blt .len #[!0]] .no (.call 10 #[!1,!0,.cst (.str "tie"),¬3])),.ret (.call 16 #[!1,!2])]
def fY:eE:=#[.asg (.one 2) (.lst .nil),.asg (.one 3) (.bin .mod (!1) (¬2147483647)),.for (.one 4) .seq #[!0] #[.asg (.one 3) (.bin .mod (.bin .add (.bin .mul (!3) (¬48271)) (¬7919)) (¬2147483647)),.asg (.one 5) (.bin .mod (.bin .fdiv (!3) (¬64)) (.bin .add (.blt .len #[!2]) (¬1))),.asg (.one 2) (.bin .add (.bin .add (.slc (!2) .no (!5)) (.lst #[!4])) (.slc (!2) (!5) .no))],.ret (!2)]
def eY:eE:=#[.iff (.or (.not (.blt (.isin "tuple") #[!0])) (.cmp .ne (.blt .len #[!0]) (!1))) #[.ret (.cst (.bl false))] .nil,.ret (.blt .all #[.comp ["_law_one"] [none] (.one 0) .seq #[!0] .no (.and (.blt (.isin "int") #[!0]) (.not (.blt (.isin "bool") #[!0])))])]
def cU:eE:=#[.iff (.or (.not (.blt (.isin "tuple") #[!0])) (.or (.cmp .ne (.blt .len #[!0]) (¬2)) (.not (.call 19 #[.idx (!0) (¬0),¬2])))) #[.ret (.cst (.bl false))] .nil,.iff (.or (.not (.blt (.isin "list") #[.idx (!0) (¬1)])) (.not (.blt .all #[.comp ["_law_tie"] [none] (.one 0) .seq #[.idx (!0) (¬1)] .no (.call 19 #[!0,¬3])]))) #[.ret (.cst (.bl false))] .nil,.ret (.cmp .eq (!0) (!1))]
def g9:eE:=#[.ret (.met .join (.cst (.str " ")) #[.bin .add (.lst #[!0]) (.comp ["_law_number_here"] [none] (.one 0) .seq #[!1] .no (.blt .str #[!0]))])]
def dM:eE:=#[.asg (.one 2) (.idx (.lst #[.idx (!0) (¬0),.tup #[.idx (.idx (!0) (¬0)) (¬1),.idx (.idx (!0) (¬0)) (¬0)]]) (.bin .mod (!1) (¬2))),.asg (.one 3) (.lst .nil),.for (.tup [4,5]) .enum #[.idx (!0) (¬1)] #[.expr (.met .append (!3) #[.call 21 #[.cst (.str "tie"),.idx (.lst #[!5,.tup #[.idx (!5) (¬0),.idx (!5) (¬2),.idx (!5) (¬1)]]) (.bin .mod (.bin .fdiv (!1) (.bin .add (!4) (¬2))) (¬2))]])],.ret (.bin .add (.lst #[.call 21 #[.cst (.str "poles"),!2]]) (.call 18 #[!3,!1]))]
def jt:eE:=#[.for (.tup [1,2]) .enum #[.call 6 #[!0]] #[.asg (.one 3) (.call 0 #[!0,.bin .add (¬5) (!1)]),.asg (.one 4) (.tup #[.idx (!2) (¬0),.blt .list #[.idx (!2) (¬1)]]),.asg (.one 5) (.call 8 #[!4]),.iff (.or (.not (.blt (.isin "list") #[!5])) (.or (.not (.blt .all #[.comp ["_law_row"] [none] (.one 0) .seq #[!5] .no (.blt (.isin "str") #[!0])])) (.cmp .ne (!4) (!2)))) #[.ret (.cst (.bl false))] .nil,.asg (.one 6) (.blt .list #[!5]),.asg (.one 7) (.call 17 #[!5]),.iff (.or (.not (.call 20 #[!7,!2])) (.cmp .ne (!5) (!6))) #[.ret (.cst (.bl false))] .nil,.expr (.met .append (.idx (!7) (¬1)) #[.tup #[¬0,¬0,¬0]]),.asg (.one 8) (.bin .add (.slc (!6) .no (¬1)) (.call 18 #[.slc (!6) (¬1) .no,!3])),.iff (.or (.not (.call 20 #[.call 17 #[!8],!2])) (.not (.call 20 #[.call 17 #[.call 22 #[!2,!3]],!2]))) #[.ret (.cst (.bl false))] .nil,.expr (.met .append (!5) #[.cst (.str "tie")]),.iff (.or (.not (.call 20 #[.call 17 #[!6],!2])) (.cmp .ne (.call 8 #[!4]) (!6))) #[.ret (.cst (.bl false))] .nil],.ret (.cst (.bl true))]
def Oq:List Row:=[]
def mD:List Val->M Val:=j9 (look Oq) 2 dH
def Ot:List Row:=Oq++[(("_law_cell_at":Str),2,mD)]
def yk:List Val->M Val:=j9 (look Ot) 3 jo
def Ou:List Row:=Ot++[(("_law_net":Str),2,yk)]
def yl:List Val->M Val:=j9 (look Ou) 1 jq
def Ov:List Row:=Ou++[(("_law_own":Str),1,yl)]
def oE:List Val->M Val:=j9 (look Ov) 8 eX
def Ow:List Row:=Ov++[(("_law_number":Str),3,oE)]
def qI:List Val->M Val:=j9 (look Ow) 4 fX
def Ox:List Row:=Ow++[(("_law_poles":Str),2,qI)]
def uP:List Val->M Val:=j9 (look Ox) 10 dm
def Oz:List Row:=Ox++[(("_law_ties":Str),4,uP)]
def uQ:List Val->M Val:=j9 (look Oz) 4 gX
def OA:List Row:=Oz++[(("_law_nets":Str),1,uQ)]
def uR:List Val->M Val:=j9 (look OA) 2 gY
def OC:List Row:=OA++[(("row_of":Str),2,uR)]
def ym:List Val->M Val:=j9 (look OC) 3 jr
def OE:List Row:=OC++[(("shown":Str),1,ym)]
def kX:List Val->M Val:=j9 (look OE) 1 cS
def CA:List Row:=OE++[(("is_written":Str),1,kX)]
def kY:List Val->M Val:=j9 (look CA) 5 cT
def CB:List Row:=CA++[(("numbers_at":Str),4,kY)]
def mE:List Val->M Val:=j9 (look CB) 1 dI
def CC:List Row:=CB++[(("is_number":Str),1,mE)]
def ic:List Val->M Val:=j9 (look CC) 5 bS
def CD:List Row:=CC++[(("refuse_numbers":Str),2,ic)]
def ju:List Val->M Val:=j9 (look CD) 3 cu
def CF:List Row:=CD++[(("refuse_names":Str),1,ju)]
def jv:List Val->M Val:=j9 (look CF) 6 cy
def CG:List Row:=CF++[(("put_in_order":Str),2,jv)]
def mF:List Val->M Val:=j9 (look CG) 3 dJ
def CH:List Row:=CG++[(("places_of":Str),1,mF)]
def uS:List Val->M Val:=j9 (look CH) 3 gZ
def CI:List Row:=CH++[(("net_of":Str),2,uS)]
def CJ:List Val->M Val:=j9 (look CI) 3 kW
def CK:List Row:=CI++[(("read":Str),1,CJ)]
def qJ:List Val->M Val:=j9 (look CK) 6 fY
def CL:List Row:=CK++[(("_law_about":Str),2,qJ)]
def oF:List Val->M Val:=j9 (look CL) 2 eY
def CM:List Row:=CL++[(("_law_wholes":Str),2,oF)]
def kZ:List Val->M Val:=j9 (look CM) 2 cU
def CN:List Row:=CM++[(("_law_same_net":Str),2,kZ)]
def uT:List Val->M Val:=j9 (look CN) 2 g9
def CO:List Row:=CN++[(("_law_line":Str),2,uT)]
def mG:List Val->M Val:=j9 (look CO) 6 dM
def Fx:List Row:=CO++[(("_law_written":Str),2,mG)]
def CP:List Val->M Val:=j9 (look Fx) 9 jt
def Q7:List bD:=[]
def aJ:bD:=dU (av Q7) 2 dH
def Q8:List bD:=Q7++[aJ]
def k7:bD:=dU (av Q8) 3 jo
def Pk:List bD:=Q8++[k7]
def iM:bD:=dU (av Pk) 1 jq
def OF:List bD:=Pk++[iM]
def eN:bD:=dU (av OF) 8 eX
def Lv:List bD:=OF++[eN]
def ig:bD:=dU (av Lv) 4 fX
def KS:List bD:=Lv++[ig]
def jw:bD:=dU (av KS) 10 dm
def KW:List bD:=KS++[jw]
def jx:bD:=dU (av KW) 4 gX
def Q9:List bD:=KW++[jx]
def iu:bD:=dU (av Q9) 2 gY
def Pn:List bD:=Q9++[iu]
def k8:bD:=dU (av Pn) 3 jr
def Ra:List bD:=Pn++[k8]
def dN:bD:=dU (av Ra) 1 cS
def wo:List bD:=Ra++[dN]
def bw:bD:=dU (av wo) 5 cT
def KY:List bD:=wo++[bw]
def eZ:bD:=dU (av KY) 1 dI
def Fy:List bD:=KY++[eZ]
def b8:bD:=dU (av Fy) 5 bS
def KZ:List bD:=Fy++[b8]
def cK:bD:=dU (av KZ) 3 cu
def K0:List bD:=KZ++[cK]
def cL:bD:=dU (av K0) 6 cy
def K1:List bD:=K0++[cL]
def e9:bD:=dU (av K1) 3 dJ
def wu:List bD:=K1++[e9]
def iw:bD:=dU (av wu) 3 gZ
def oG:List bD:=wu++[iw]
def l0:bD:=dU (av oG) 3 kW
def K2:List bD:=oG++[l0]
def fL:bD:=dU (av K2) 6 fY
def K3:List bD:=K2++[fL]
def dg:bD:=dU (av K3) 2 eY
def Fz:List bD:=K3++[dg]
def dO:bD:=dU (av Fz) 2 cU
def K4:List bD:=Fz++[dO]
def iy:bD:=dU (av K4) 2 g9
def CQ:List bD:=K4++[iy]
def fc:bD:=dU (av CQ) 6 dM
def k9:List bD:=CQ++[fc]
def GJ:bD:=KG (av k9) 9 jt
theorem kh:av Pk 0=aJ:=rfl
theorem dY:av OF 0=aJ:=rfl
theorem gk:av OF 2=iM:=rfl
theorem ff:av Lv 0=aJ:=rfl
theorem iz:av Lv 2=iM:=rfl
theorem fD:av Lv 3=eN:=rfl
theorem jS:av KS 0=aJ:=rfl
theorem cV:av KS 2=iM:=rfl
theorem fZ:av KS 3=eN:=rfl
theorem jT:av KW 0=aJ:=rfl
theorem mU:av KW 1=k7:=rfl
theorem lg:av KW 4=ig:=rfl
theorem l5:av KW 5=jw:=rfl
theorem iS:av Pn 7=iu:=rfl
theorem gy:av wo 9=dN:=rfl
theorem fH:av Fy 11=eZ:=rfl
theorem gz:av wu 12=b8:=rfl
theorem iN:av wu 13=cK:=rfl
theorem iO:av wu 14=cL:=rfl
theorem jU:av wu 15=e9:=rfl
theorem f6:av oG 10=bw:=rfl
theorem oH:av oG 16=iw:=rfl
theorem dP:av Fz 19=dg:=rfl
theorem jy:av CQ 18=fL:=rfl
theorem fE:av CQ 21=iy:=rfl
theorem l6:av k9 0=aJ:=rfl
theorem pL:av k9 6=jx:=rfl
theorem lq:av k9 8=k8:=rfl
theorem jz:av k9 17=l0:=rfl
theorem oJ:av k9 18=fL:=rfl
theorem dQ:av k9 20=dO:=rfl
theorem l7:av k9 22=fc:=rfl
theorem i0:dW Oq Q7:=B7
theorem uU:Imp mD aJ:=bN (aE i0) (by decide +kernel)
theorem i1:dW Ot Q8:=aG i0 uU
theorem FA:Imp yk k7:=bN (aE i1) (by decide +kernel)
theorem i2:dW Ou Pk:=aG i1 FA
theorem FD:Imp yl iM:=bN (aE i2) (by decide +kernel)
theorem i3:dW Ov OF:=aG i2 FD
theorem wz:Imp oE eN:=bN (aE i3) (by decide +kernel)
theorem i4:dW Ow Lv:=aG i3 wz
theorem zL:Imp qI ig:=bN (aE i4) (by decide +kernel)
theorem i5:dW Ox KS:=aG i4 zL
theorem CS:Imp uP jw:=bN (aE i5) (by decide +kernel)
theorem i6:dW Oz KW:=aG i5 CS
theorem CT:Imp uQ jx:=bN (aE i6) (by decide +kernel)
theorem i7:dW OA Q9:=aG i6 CT
theorem CU:Imp uR iu:=bN (aE i7) (by decide +kernel)
theorem i8:dW OC Pn:=aG i7 CU
theorem FE:Imp ym k8:=bN (aE i8) (by decide +kernel)
theorem i9:dW OE Ra:=aG i8 FE
theorem sy:Imp kX dN:=bN (aE i9) (by decide +kernel)
theorem R8:dW CA wo:=aG i9 sy
theorem sD:Imp kY bw:=bN (aE R8) (by decide +kernel)
theorem R9:dW CB KY:=aG R8 sD
theorem uV:Imp mE eZ:=bN (aE R9) (by decide +kernel)
theorem i12:dW CC Fy:=aG R9 uV
theorem l9:Imp ic b8:=bN (aE i12) (by decide +kernel)
theorem Sa:dW CD KZ:=aG i12 l9
theorem oK:Imp ju cK:=bN (aE Sa) (by decide +kernel)
theorem Sb:dW CF K0:=aG Sa oK
theorem oM:Imp jv cL:=bN (aE Sb) (by decide +kernel)
theorem Sd:dW CG K1:=aG Sb oM
theorem uW:Imp mF e9:=bN (aE Sd) (by decide +kernel)
theorem Se:dW CH wu:=aG Sd uW
theorem CV:Imp uS iw:=bN (aE Se) (by decide +kernel)
theorem Sf:dW CI oG:=aG Se CV
theorem K5:Imp CJ l0:=bN (aE Sf) (by decide +kernel)
theorem Sg:dW CK K2:=aG Sf K5
theorem zM:Imp qJ fL:=bN (aE Sg) (by decide +kernel)
theorem Sh:dW CL K3:=aG Sg zM
theorem wB:Imp oF dg:=bN (aE Sh) (by decide +kernel)
theorem Si:dW CM Fz:=aG Sh wB
theorem sE:Imp kZ dO:=bN (aE Si) (by decide +kernel)
theorem Sj:dW CN K4:=aG Si sE
theorem CW:Imp uT iy:=bN (aE Sj) (by decide +kernel)
theorem Sk:dW CO CQ:=aG Sj CW
theorem uX:Imp mG fc:=bN (aE Sk) (by decide +kernel)
theorem Ua:dW Fx k9:=aG Sk uX
theorem FF{ns:List Int}{f:Bool}(e:GJ [.rl (ns.map .int)]=.ok (f,.bl true)):∃h',CP [.rl (ns.map .int)] []=.ok (.bl true) h':=zK (aE Ua) (by decide +kernel) e
theorem c0:aX Co Co (ah (top 24))=true:=by decide +kernel
theorem d0:bx ⟨Co,ah (top 24),Oq.map (λr=>(r.1,r.2.1)),cons,tb⟩ dH (aD (top 24))=true:=by decide +kernel
theorem c1:aX KL ["_law_poles_here","_law_ties_here"] (ah (top 29))=true:=by decide +kernel
theorem d1:bx ⟨KL,ah (top 29),Ot.map (λr=>(r.1,r.2.1)),cons,tb⟩ jo (aD (top 29))=true:=by decide +kernel
theorem c2:aX uL uL (ah (top 25))=true:=by decide +kernel
theorem d2:bx ⟨uL,ah (top 25),Ou.map (λr=>(r.1,r.2.1)),cons,tb⟩ jq (aD (top 25))=true:=by decide +kernel
theorem c3:aX KN ["_law_script","_law_seat","_law_k"] (ah (top 26))=true:=by decide +kernel
theorem d3:bx ⟨KN,ah (top 26),Ov.map (λr=>(r.1,r.2.1)),cons,tb⟩ eX (aD (top 26))=true:=by decide +kernel
theorem c4:aX KO ["_law_script","_law_many"] (ah (top 28))=true:=by decide +kernel
theorem d4:bx ⟨KO,ah (top 28),Ow.map (λr=>(r.1,r.2.1)),cons,tb⟩ fX (aD (top 28))=true:=by decide +kernel
theorem c5:aX KP Oo (ah (top 27))=true:=by decide +kernel
theorem d5:bx ⟨KP,ah (top 27),Ox.map (λr=>(r.1,r.2.1)),cons,tb⟩ dm (aD (top 27))=true:=by decide +kernel
theorem c6:aX KQ uL (ah (top 30))=true:=by decide +kernel
theorem d6:bx ⟨KQ,ah (top 30),Oz.map (λr=>(r.1,r.2.1)),cons,tb⟩ gX (aD (top 30))=true:=by decide +kernel
theorem c7:aX Cp Cp (ah (top 19))=true:=by decide +kernel
theorem d7:bx ⟨Cp,ah (top 19),OA.map (λr=>(r.1,r.2.1)),cons,tb⟩ gY (aD (top 19))=true:=by decide +kernel
theorem c8:aX KR ["net"] (ah (top 18))=true:=by decide +kernel
theorem d8:bx ⟨KR,ah (top 18),OC.map (λr=>(r.1,r.2.1)),cons,tb⟩ jr (aD (top 18))=true:=by decide +kernel
theorem c9:aX ["text"] ["text"] (ah (top 22))=true:=by decide +kernel
theorem d9:bx ⟨["text"],ah (top 22),OE.map (λr=>(r.1,r.2.1)),cons,tb⟩ cS (aD (top 22))=true:=by decide +kernel
theorem Ub:aX Cq ["rows","at","word","many"] (ah (top 21))=true:=by decide +kernel
theorem Uc:bx ⟨Cq,ah (top 21),CA.map (λr=>(r.1,r.2.1)),cons,tb⟩ cT (aD (top 21))=true:=by decide +kernel
theorem Ud:aX ["number"] ["number"] (ah (top 11))=true:=by decide +kernel
theorem Ue:bx ⟨["number"],ah (top 11),CB.map (λr=>(r.1,r.2.1)),cons,tb⟩ dI (aD (top 11))=true:=by decide +kernel
theorem c12:aX Cr qH (ah (top 10))=true:=by decide +kernel
theorem Ug:bx ⟨Cr,ah (top 10),CC.map (λr=>(r.1,r.2.1)),cons,tb⟩ bS (aD (top 10))=true:=by decide +kernel
theorem Uh:aX Cs ["ties"] (ah (top 12))=true:=by decide +kernel
theorem Ui:bx ⟨Cs,ah (top 12),CD.map (λr=>(r.1,r.2.1)),cons,tb⟩ cu (aD (top 12))=true:=by decide +kernel
theorem Uj:aX Ct qH (ah (top 13))=true:=by decide +kernel
theorem Uk:bx ⟨Ct,ah (top 13),CF.map (λr=>(r.1,r.2.1)),cons,tb⟩ cy (aD (top 13))=true:=by decide +kernel
theorem Ul:aX Cu ["net"] (ah (top 14))=true:=by decide +kernel
theorem Um:bx ⟨Cu,ah (top 14),CG.map (λr=>(r.1,r.2.1)),cons,tb⟩ dJ (aD (top 14))=true:=by decide +kernel
theorem Uo:aX Cv qH (ah (top 9))=true:=by decide +kernel
theorem Uq:bx ⟨Cv,ah (top 9),CH.map (λr=>(r.1,r.2.1)),cons,tb⟩ gZ (aD (top 9))=true:=by decide +kernel
theorem Ur:aX Cw ["rows"] (ah (top 20))=true:=by decide +kernel
theorem Us:bx ⟨Cw,ah (top 20),CI.map (λr=>(r.1,r.2.1)),cons,tb⟩ kW (aD (top 20))=true:=by decide +kernel
theorem Ut:aX Cy ["_law_rows","_law_cell"] (ah (top 33))=true:=by decide +kernel
theorem Uu:bx ⟨Cy,ah (top 33),CK.map (λr=>(r.1,r.2.1)),cons,tb⟩ fY (aD (top 33))=true:=by decide +kernel
theorem Uv:aX uM uM (ah (top 31))=true:=by decide +kernel
theorem Uw:bx ⟨uM,ah (top 31),CL.map (λr=>(r.1,r.2.1)),cons,tb⟩ eY (aD (top 31))=true:=by decide +kernel
theorem Ux:aX uN uN (ah (top 32))=true:=by decide +kernel
theorem Uy:bx ⟨uN,ah (top 32),CM.map (λr=>(r.1,r.2.1)),cons,tb⟩ cU (aD (top 32))=true:=by decide +kernel
theorem Uz:aX uO uO (ah (top 34))=true:=by decide +kernel
theorem UA:bx ⟨uO,ah (top 34),CN.map (λr=>(r.1,r.2.1)),cons,tb⟩ g9 (aD (top 34))=true:=by decide +kernel
theorem UB:aX Cz ["_law_net_here","_law_cell"] (ah (top 35))=true:=by decide +kernel
theorem UC:bx ⟨Cz,ah (top 35),CO.map (λr=>(r.1,r.2.1)),cons,tb⟩ dM (aD (top 35))=true:=by decide +kernel
theorem UD:aX GI uL (ah (top 36))=true:=by decide +kernel
theorem UE:bx ⟨GI,ah (top 36),Fx.map (λr=>(r.1,r.2.1)),cons,tb⟩ jt (aD (top 36))=true:=by decide +kernel
section
variable {P:Program} {w:World} {K:Frag} {mg:Str->Option Value} {base:Heap}
theorem all_mk{l:PySem.W.OpenLaw}{h:Heap}{fa:Addr}(X:K.In h)(G:h.Ns mainGlobals mg)(UG:mg "law" = some (.ref fa))(hφ:∀ns:List Int,ns.length<=63->∃h',CP [.rl (ns.map .int)] []=.ok (.bl true) h'){a0:Addr}{a1:Addr}{a2:Addr}{a3:Addr}{a4:Addr}{a5:Addr}{a6:Addr}{a7:Addr}{a8:Addr}{a9:Addr}{Sn:Addr}{So:Addr}{Sq:Addr}{Ss:Addr}{Su:Addr}{Sv:Addr}{Sw:Addr}{Sx:Addr}{Sy:Addr}{Sz:Addr}{SA:Addr}{SD:Addr}{SE:Addr}{SG:Addr}{tk0:Tok}{UH:Tok}{tk2:Tok}{Qu:Tok}
  (A0:nsIn K mainGlobals "_law_cell_at" = some (some (.ref a0)))
  (F0:mP K "_law_cell_at" "_law_cell_at" (top 24) a0)
  (A1:nsIn K mainGlobals "_law_net" = some (some (.ref a1)))
  (F1:mP K "_law_net" "_law_net" (top 29) a1)
  (A2:nsIn K mainGlobals "_law_own" = some (some (.ref a2)))
  (F2:mP K "_law_own" "_law_own" (top 25) a2)
  (A3:nsIn K mainGlobals "_law_number" = some (some (.ref a3)))
  (F3:mP K "_law_number" "_law_number" (top 26) a3)
  (A4:nsIn K mainGlobals "_law_poles" = some (some (.ref a4)))
  (F4:mP K "_law_poles" "_law_poles" (top 28) a4)
  (A5:nsIn K mainGlobals "_law_ties" = some (some (.ref a5)))
  (F5:mP K "_law_ties" "_law_ties" (top 27) a5)
  (A6:nsIn K mainGlobals "_law_nets" = some (some (.ref a6)))
  (F6:mP K "_law_nets" "_law_nets" (top 30) a6)
  (A7:nsIn K mainGlobals "row_of" = some (some (.ref a7)))
  (F7:mP K "row_of" "row_of" (top 19) a7)
  (A8:nsIn K mainGlobals "shown" = some (some (.ref a8)))
  (F8:mP K "shown" "shown" (top 18) a8)
  (A9:nsIn K mainGlobals "is_written" = some (some (.ref a9)))
  (F9:mP K "is_written" "is_written" (top 22) a9)
  (A10:nsIn K mainGlobals "numbers_at" = some (some (.ref Sn)))
  (F10:mP K "numbers_at" "numbers_at" (top 21) Sn)
  (A11:nsIn K mainGlobals "is_number" = some (some (.ref So)))
  (F11:mP K "is_number" "is_number" (top 11) So)
  (A12:nsIn K mainGlobals "refuse_numbers" = some (some (.ref Sq)))
  (F12:mP K "refuse_numbers" "refuse_numbers" (top 10) Sq)
  (A13:nsIn K mainGlobals "refuse_names" = some (some (.ref Ss)))
  (F13:mP K "refuse_names" "refuse_names" (top 12) Ss)
  (A14:nsIn K mainGlobals "put_in_order" = some (some (.ref Su)))
  (F14:mP K "put_in_order" "put_in_order" (top 13) Su)
  (A15:nsIn K mainGlobals "places_of" = some (some (.ref Sv)))
  (F15:mP K "places_of" "places_of" (top 14) Sv)
  (A16:nsIn K mainGlobals "net_of" = some (some (.ref Sw)))
  (F16:mP K "net_of" "net_of" (top 9) Sw)
  (A17:nsIn K mainGlobals "read" = some (some (.ref Sx)))
  (F17:mP K "read" "read" (top 20) Sx)
  (A18:nsIn K mainGlobals "_law_about" = some (some (.ref Sy)))
  (F18:mP K "_law_about" "_law_about" (top 33) Sy)
  (A19:nsIn K mainGlobals "_law_wholes" = some (some (.ref Sz)))
  (F19:mP K "_law_wholes" "_law_wholes" (top 31) Sz)
  (A20:nsIn K mainGlobals "_law_same_net" = some (some (.ref SA)))
  (F20:mP K "_law_same_net" "_law_same_net" (top 32) SA)
  (A21:nsIn K mainGlobals "_law_line" = some (some (.ref SD)))
  (F21:mP K "_law_line" "_law_line" (top 34) SD)
  (A22:nsIn K mainGlobals "_law_written" = some (some (.ref SE)))
  (F22:mP K "_law_written" "_law_written" (top 35) SE)
  (A23:nsIn K mainGlobals "law" = some (some (.ref SG)))
  (F23:mP K "law" "law" (top 36) SG)
  (Z:∀x∈bltNames,nsIn K mainGlobals x=some none)
  (V0:nsIn K mainGlobals "MOST_TIES" = some (some (.int (14) tk0)))
  (V1:nsIn K mainGlobals "MOST_PLACES" = some (some (.int (8) UH)))
  (V2:nsIn K mainGlobals "FIGURES" = some (some (.str "0123456789" tk2)))
  (V3:nsIn K mainGlobals "MOST_FIGURES" = some (some (.int (60) Qu))) :
  ∃fd:FuncData,(∀(s:Shared) (v:Value),BindsTo s fd ⟨[v],[]⟩ [("_law_script",v)])/\∀base:Heap,K.In base->base.Ns mainGlobals mg->f9 l.prog w K mg base AE 48 fa fd ["_law_script"] (Ph K):=by
 have e:=UG.symm.trans (VO X G A23);cases e;obtain⟨cl,hcl⟩:∃cl:Nat->Addr,cl=λn=>0:=⟨_,rfl⟩;have T:Base K cl mg cons tb:=by
  subst hcl;refine⟨λx hx=>?_,λp hp=>?_,λc hc=>?_,λp hp=>?_,λp hp=>?_,λp hp=>?_⟩
  ·exact PySem.W.mg_none_of X G (Z x hx)
  ·simp only[cons,mem_cons,not_mem_nil,or_false]at hp
   rcases hp with rfl|rfl|rfl|rfl
   ·exact⟨.int (14),_,VO X G V0,⟨_,rfl⟩,λ_ _ _=>VR.int⟩
   ·exact⟨.int (8),_,VO X G V1,⟨_,rfl⟩,λ_ _ _=>VR.int⟩
   ·exact⟨.str "0123456789",_,VO X G V2,⟨_,rfl⟩,λ_ _ _=>VR.str⟩
   ·exact⟨.int (60),_,VO X G V3,⟨_,rfl⟩,λ_ _ _=>VR.int⟩
  ·exact absurd hc (Nat.not_lt_zero _)
  ·simp[tb]at hp
  ·simp[tb]at hp
  ·simp[tb]at hp
 obtain⟨fd,F⟩:=F23;obtain⟨_,_,_,_,_,_,_,_,_,e,_⟩:=F.ex;refine⟨fd,λs v=>by rw[e];exact .of_eq rfl,λbase _ _=>?_⟩;have G0:cR l.prog w ⟨K,cl⟩ mg base 0 Oq:=all_nil;have G1:cR l.prog w ⟨K,cl⟩ mg base 2 Ot:=cF (x:="_law_cell_at") (N:=Co) (ps:=Co) (body:=dH) T G0 F0 (VO X G A0) c0 d0 (by decide) (by intro _ _ _ _ _ _ _ l;apply ln2 l;intros;rfl);have G2:cR l.prog w ⟨K,cl⟩ mg base 4 Ou:=cF (x:="_law_net") (N:=KL) (ps:=["_law_poles_here","_law_ties_here"]) (body:=jo) T G1 F1 (VO X G A1) c1 d1 (by decide) (by intro _ _ _ _ _ _ _ l;apply ln2 l;intros;rfl);have G3:cR l.prog w ⟨K,cl⟩ mg base 6 Ov:=cF (x:="_law_own") (N:=uL) (ps:=uL) (body:=jq) T G2 F2 (VO X G A2) c2 d2 (by decide) (by intro _ _ _ _ _ _ _ l;apply Di l;intros;rfl);have G4:cR l.prog w ⟨K,cl⟩ mg base 8 Ow:=cF (x:="_law_number") (N:=KN) (ps:=["_law_script","_law_seat","_law_k"]) (body:=eX) T G3 F3 (VO X G A3) c3 d3 (by decide) (by intro _ _ _ _ _ _ _ l;apply TX l;intros;rfl);have G5:cR l.prog w ⟨K,cl⟩ mg base 10 Ox:=cF (x:="_law_poles") (N:=KO) (ps:=["_law_script","_law_many"]) (body:=fX) T G4 F4 (VO X G A4) c4 d4 (by decide) (by intro _ _ _ _ _ _ _ l;apply ln2 l;intros;rfl);have G6:cR l.prog w ⟨K,cl⟩ mg base 12 Oz:=cF (x:="_law_ties") (N:=KP) (ps:=Oo) (body:=dm) T G5 F5 (VO X G A5) c5 d5 (by decide) (by intro _ _ _ _ _ _ _ l;apply Pg l;intros;rfl);have G7:cR l.prog w ⟨K,cl⟩ mg base 14 OA:=cF (x:="_law_nets") (N:=KQ) (ps:=uL) (body:=gX) T G6 F6 (VO X G A6) c6 d6 (by decide) (by intro _ _ _ _ _ _ _ l;apply Di l;intros;rfl);have G8:cR l.prog w ⟨K,cl⟩ mg base 16 OC:=cF (x:="row_of") (N:=Cp) (ps:=Cp) (body:=gY) T G7 F7 (VO X G A7) c7 d7 (by decide) (by intro _ _ _ _ _ _ _ l;apply ln2 l;intros;rfl);have G9:cR l.prog w ⟨K,cl⟩ mg base 18 OE:=cF (x:="shown") (N:=KR) (ps:=["net"]) (body:=jr) T G8 F8 (VO X G A8) c8 d8 (by decide) (by intro _ _ _ _ _ _ _ l;apply Di l;intros;rfl);have UI:cR l.prog w ⟨K,cl⟩ mg base 20 CA:=cF (x:="is_written") (N:=["text"]) (ps:=["text"]) (body:=cS) T G9 F9 (VO X G A9) c9 d9 (by decide) (by intro _ _ _ _ _ _ _ l;apply Di l;intros;rfl);have UJ:cR l.prog w ⟨K,cl⟩ mg base 22 CB:=cF (x:="numbers_at") (N:=Cq) (ps:=["rows","at","word","many"]) (body:=cT) T UI F10 (VO X G A10) Ub Uc (by decide) (by intro _ _ _ _ _ _ _ l;apply Pg l;intros;rfl);have UK:cR l.prog w ⟨K,cl⟩ mg base 24 CC:=cF (x:="is_number") (N:=["number"]) (ps:=["number"]) (body:=dI) T UJ F11 (VO X G A11) Ud Ue (by decide) (by intro _ _ _ _ _ _ _ l;apply Di l;intros;rfl);have UL:cR l.prog w ⟨K,cl⟩ mg base 26 CD:=cF (x:="refuse_numbers") (N:=Cr) (ps:=qH) (body:=bS) T UK F12 (VO X G A12) c12 Ug (by decide) (by intro _ _ _ _ _ _ _ l;apply ln2 l;intros;rfl);have UM:cR l.prog w ⟨K,cl⟩ mg base 28 CF:=cF (x:="refuse_names") (N:=Cs) (ps:=["ties"]) (body:=cu) T UL F13 (VO X G A13) Uh Ui (by decide) (by intro _ _ _ _ _ _ _ l;apply Di l;intros;rfl);have UN:cR l.prog w ⟨K,cl⟩ mg base 30 CG:=cF (x:="put_in_order") (N:=Ct) (ps:=qH) (body:=cy) T UM F14 (VO X G A14) Uj Uk (by decide) (by intro _ _ _ _ _ _ _ l;apply ln2 l;intros;rfl);have UO:cR l.prog w ⟨K,cl⟩ mg base 32 CH:=cF (x:="places_of") (N:=Cu) (ps:=["net"]) (body:=dJ) T UN F15 (VO X G A15) Ul Um (by decide) (by intro _ _ _ _ _ _ _ l;apply Di l;intros;rfl);have UP:cR l.prog w ⟨K,cl⟩ mg base 34 CI:=cF (x:="net_of") (N:=Cv) (ps:=qH) (body:=gZ) T UO F16 (VO X G A16) Uo Uq (by decide) (by intro _ _ _ _ _ _ _ l;apply ln2 l;intros;rfl);have UQ:cR l.prog w ⟨K,cl⟩ mg base 36 CK:=cF (x:="read") (N:=Cw) (ps:=["rows"]) (body:=kW) T UP F17 (VO X G A17) Ur Us (by decide) (by intro _ _ _ _ _ _ _ l;apply Di l;intros;rfl);have US:cR l.prog w ⟨K,cl⟩ mg base 38 CL:=cF (x:="_law_about") (N:=Cy) (ps:=["_law_rows","_law_cell"]) (body:=fY) T UQ F18 (VO X G A18) Ut Uu (by decide) (by intro _ _ _ _ _ _ _ l;apply ln2 l;intros;rfl);have UT:cR l.prog w ⟨K,cl⟩ mg base 40 CM:=cF (x:="_law_wholes") (N:=uM) (ps:=uM) (body:=eY) T US F19 (VO X G A19) Uv Uw (by decide) (by intro _ _ _ _ _ _ _ l;apply ln2 l;intros;rfl);have UU:cR l.prog w ⟨K,cl⟩ mg base 42 CN:=cF (x:="_law_same_net") (N:=uN) (ps:=uN) (body:=cU) T UT F20 (VO X G A20) Ux Uy (by decide) (by intro _ _ _ _ _ _ _ l;apply ln2 l;intros;rfl);have UW:cR l.prog w ⟨K,cl⟩ mg base 44 CO:=cF (x:="_law_line") (N:=uO) (ps:=uO) (body:=g9) T UU F21 (VO X G A21) Uz UA (by decide) (by intro _ _ _ _ _ _ _ l;apply ln2 l;intros;rfl);have UX:cR l.prog w ⟨K,cl⟩ mg base 46 Fx:=cF (x:="_law_written") (N:=Cz) (ps:=["_law_net_here","_law_cell"]) (body:=dM) T UW F22 (VO X G A22) UB UC (by decide) (by intro _ _ _ _ _ _ _ l;apply ln2 l;intros;rfl);exact(Gx T UX F UD UE).imp (JU hφ)
end
def Sm(i:Int):Prop:=0<=i/\i<10 ^ 60
def gl(c:Nat):List (List Nat)->List Nat
 |[]=>[]
 |[p]=>p
 |p::q::r=>p++c::gl c (q::r)
theorem lu(c:Nat):∀(ps:List (List Nat)),ps≠[]->(gl c ps).count c+1=ps.length+(ps.map (·.count c)).sum
 |[p],_=>by simp[gl];omega
 | p::q::r,_=>by
  have ih:=lu c (q::r) (by simp);rw[gl,List.count_append,List.count_cons_self,VQ,VC,sum_cons];omega
theorem uY{c:Nat}:∀{p w a b:List Nat},c∉p->c∉w->p++c::a=w++c::b->p=w/\a=b
 |[],[],a,b,_,_,h=>by simpa using h
 | [],y::w,a,b,_,hw,h=>by
  have:=(Ww h).1;exact absurd (this▸Vs) hw
 | x::p,[],a,b,hp,_,h=>by
  have:=(Ww h).1;exact absurd (this.symm▸Vs) hp
 | x::p,y::w,a,b,hp,hw,h=>by
  obtain⟨h1,h2⟩:=Ww h;obtain⟨e1,e2⟩:=uY (λz=>hp (Vq _ z)) (λz=>hw (Vq _ z)) h2;exact⟨by rw[h1,e1],e2⟩
theorem yo{c:Nat}:∀{ps ws:List (List Nat)},(∀p∈ps,c∉p)->(∀w∈ws,c∉w)->ps.length=ws.length->gl c ps=gl c ws->ps=ws
 |[],[],_,_,_,_=>rfl
 |[p],[w],_,_,_,h=>by rw[show p=w from h]
 | p::q::r,w::v::t,hp,hw,hl,h=>by
  rw[gl,gl]at h;obtain⟨e1,e2⟩:=uY (hp p Vs) (hw w Vs) h;rw[e1,yo (λx hx=>hp x (Vq _ hx)) (λx hx=>hw x (Vq _ hx)) (by simpa using hl) e2]
 |[],_::_,_,_,hl,_=>by simp at hl
 |_::_,[],_,_,hl,_=>by simp at hl
 |[_],_::_::_,_,_,hl,_=>by simp at hl
 |_::_::_,[_],_,_,hl,_=>by simp at hl
theorem oN(y:Str):∀(r:List Str) (acc:Array Nat),(r.foldl (λacc p=>acc++y.cps++p.cps) acc).toList=acc.toList++r.flatMap λp=>y.cps.toList++p.cps.toList
 |[],acc=>by simp
 | p::r,acc=>by
  rw[List.foldl_cons,oN y r];simp
theorem oO(c:Nat):∀(ws:List Str),(Builtin.Str.glued ⟨[c].toArray⟩ ws).cps.toList=gl c (ws.map λw=>w.cps.toList)
 |[]=>rfl
 | p::r=>by
  show (r.foldl (λacc q=>acc++(⟨[c].toArray⟩:Str).cps++q.cps) p.cps).toList=_;rw[oN]
  induction r generalizing p with
  |nil=>simp[gl]
  |cons q r ih=>rw[VC,VC,gl,<-VC (f:=λw:Str=>w.cps.toList),<-ih q];simp
theorem oQ(s:Str)(c lim:Nat):∀(k a:Nat) (st:Array Nat×Nat),st.2<=a->st.1.size+k<=lim->a+k<=s.length+1 ->
  (forIn (range' a k) st (StrLaws.occBody s ⟨[c].toArray⟩ s.length lim)).run.1.size=st.1.size+((s.cps.toList.drop a).take k).count c
 |0,a,st,_,_,_=>by simp
 | k+1,a,st,h1,h2,h3=>by
  rw[List.range'_succ,XR];have key:=StrLaws.subAt_one s c a;unfold StrLaws.occBody;have hd:((s.cps.toList.drop a).take (k+1)).count c=(if s.cps.toList[a]?=some c then 1 else 0)+((s.cps.toList.drop (a+1)).take k).count c:=by
   cases e:s.cps.toList[a]? with
   |none=>have hl:=Ws.mp e;rw[List.drop_eq_nil_of_le hl,List.drop_eq_nil_of_le (by omega)];simp
   |some d=>
    obtain⟨hl,e2⟩:=Vn.mp e;rw[List.drop_eq_getElem_cons hl,List.take_succ_cons,List.count_cons,e2]
    by_cases hd:d=c
    ·subst hd;simp;omega
    ·simp[hd]
  rw[hd]
  by_cases hc:s.cps.toList[a]?=some c
  ·obtain⟨k1,k2⟩:=key.mpr hc;rw[Vv ⟨⟨⟨by omega,h1⟩,k1⟩,k2⟩,Vv hc];have ih:=oQ s c lim k (a+1) (st.1.push a,a+(⟨[c].toArray⟩:Str).length) (Vu _) (by simp;omega) (by omega);rw[Array.size_push]at ih;refine Eq.trans ih ?_;omega
  ·rw[Vw (λz=>hc (key.mp ⟨z.1.2,z.2⟩)),Vw hc];have ih:=oQ s c lim k (a+1) (st.1,st.2) (by show st.2<=_;omega) (by show st.1.size+k<=_;omega) (by omega);refine Eq.trans ih ?_;show st.1.size+_=_;omega
theorem qK(s:Str)(c:Nat):(Builtin.Str.occurrences s ⟨[c].toArray⟩ 0 s.length (s.length+1)).length=s.cps.toList.count c:=by
 rw[StrLaws.occ_eq,VU];have h:=oQ s c (s.length+1) (s.length+1) 0 (#[],0) (Vu _) (by simp) (by omega);rw[show s.length+1-0=s.length+1 from rfl];refine h.trans ?_;have:s.cps.toList.length=s.length:=by simp[Str.length]
 rw[drop_zero,Xo (by omega)];simp
theorem uZ{c:Nat}(h0:ws≠[])(hw:∀w∈ws,c∉w.cps.toList):eB (Builtin.Str.glued ⟨[c].toArray⟩ ws) ⟨[c].toArray⟩=ws:=by
 generalize hx:Builtin.Str.glued ⟨[c].toArray⟩ ws=x;have g1:=StrLaws.glued_between_self x ⟨[c].toArray⟩ (x.length+1);have hlen:(eB x ⟨[c].toArray⟩).length=x.cps.toList.count c+1:=by unfold eB;rw[length_partsBetween,qK]
 change Builtin.Str.glued ⟨[c].toArray⟩ (eB x ⟨[c].toArray⟩)=x at g1;generalize eB x ⟨[c].toArray⟩=ps at *;have e1:=oO c ps;rw[g1]at e1;have e2:=oO c ws;rw[hx]at e2;have hps:ps.map (λw=>w.cps.toList)≠[]:=by intro z;have:=W8.mp z;rw[this]at hlen;simp at hlen
 have c1:=lu c (ps.map λw=>w.cps.toList) hps;have c2:=lu c (ws.map λw=>w.cps.toList) (λz=>h0 (W8.mp z));rw[<-e1,Vp]at c1;rw[<-e2,Vp]at c2;have z2:((ws.map λw=>w.cps.toList).map (·.count c)).sum=0:=by
  rw[Wf];have:∀l:List Str,(∀w∈l,c∉w.cps.toList)->(l.map ((·.count c)∘λw=>w.cps.toList)).sum=0:=λl=>by
   induction l with
   |nil=>intro _;rfl
   |cons w r ih=>intro h;rw[VC,sum_cons,ih λv hv=>h v (Vq _ hv)];simp[List.count_eq_zero.mpr (h w List.mem_cons_self)]
  exact this ws hw
 have z1:((ps.map λw=>w.cps.toList).map (·.count c)).sum=0:=by omega
 have hp:∀p∈ps.map (λw=>w.cps.toList),c∉p:=λp hp hc=>by
  have:∀l:List (List Nat),p∈l->0<(l.map (·.count c)).sum:=λl=>by
   induction l with
   |nil=>intro h;simp at h
   |cons q r ih=>
    intro h;rw[VC,sum_cons]
    rcases VF.mp h with rfl|h
    ·have:=List.count_pos_iff.mpr hc;omega
    ·have:=ih h;omega
  have:=this _ hp;omega
 have key:=yo hp (λw UY=>by obtain⟨v,hv,rfl⟩:=VZ.mp UY;exact hw v hv) (by rw[Vp,Vp];omega) (e1.symm.trans e2);have inj:∀{a b:List Str},a.map (λw:Str=>w.cps.toList)=b.map (λw:Str=>w.cps.toList)->a=b:=λ{a b} h=>by
  induction a generalizing b with
  |nil=>exact(W8.mp h.symm).symm
  |cons x r ih=>
   cases b with
   |nil=>simp at h
   |cons y t=>obtain⟨h1,h2⟩:=Ww h;rw[ih h2];obtain⟨x⟩:=x;obtain⟨y⟩:=y;rw[show x=y from toList_inj.mp h1]
 exact inj key
def aP(n:Int):Str:=Str.ofString (toString n)
theorem qL:∀(m:Nat),0<m->∃d r,toDigits 10 m=d::r/\d ≠ '0':=λm=>by
 induction m using Nat.strongRecOn with
 |_ m ih=>
  intro h0
  by_cases h:m<10
  ·rw[Nat.toDigits_of_lt_base h]
   refine⟨_,[],rfl,?_⟩;have:∀d:Nat,d<10->0<d->Nat.digitChar d ≠ '0':=by decide
   exact this m h h0
  ·have hm:m%10<10:=mod_lt m (by decide);have t:toDigits 10 (m/10)++toDigits 10 (m%10)=toDigits 10 (10*(m/10)+m%10):=Nat.toDigits_append_toDigits (by decide) (by omega) hm;rw[Nat.div_add_mod]at t;obtain⟨d,r,e,hd⟩:=ih (m/10) (by omega) (by omega);rw[<-t,e];exact⟨d,_,rfl,hd⟩
theorem jN(m:Nat):(aP ((m:Nat):Int)).cps.toList=(toDigits 10 m).map Char.toNat:=PySem.W.KIN.signs_num m
theorem fh{n:Int}(h0:0<=n):NumText.AllDigits (aP n).cps.toList:=by
 obtain⟨m,rfl⟩:=V4 h0;intro c hc;rw[jN]at hc;obtain⟨ch,hch,e⟩:=VZ.mp hc;have r:=PyProof.Rows.digit_range (Nat.isDigit_of_mem_toDigits (by decide) (by decide) hch);rw[<-e];exact r
theorem gS{n:Int}(h0:0<=n)(h1:n<10 ^ 60):(aP n).length<=60:=PyProof.Rows.toString_length_le h0 (by decide) h1
theorem yq{n:Int}(h0:0<=n):(aP n).cps.toList≠[]:=by
 obtain⟨m,rfl⟩:=V4 h0;rw[jN];intro e;have e:=W8.mp e
 by_cases h:m=0
 ·subst h;revert e;decide
 ·obtain⟨d,r,e2,_⟩:=qL m (by omega);rw[e]at e2;cases e2
theorem zN{n:Int}(h0:0<=n)(h1:n<10 ^ 60):intText? (aP n)=some n:=by
 have hd:=fh h0;have hne:=yq h0;have hl:=gS h0 h1;have e:=PySem.intText_digits hd hne (VX hl (by decide));obtain⟨m,rfl⟩:=V4 h0;rw[jN,PySem.W.KIN.val_back]at e;exact e
theorem zO{n:Int}(h0:0<=n)(h:(aP n).cps.toList[0]?=some 48):n=0:=by
 obtain⟨m,rfl⟩:=V4 h0
 by_cases hm:m=0
 ·rw[hm];rfl
 ·exfalso
  obtain⟨d,r,e,hd⟩:=qL m (by omega);rw[jN,e]at h;have hc:d.toNat=48:=by simpa using h
  refine hd (Char.ext ?_);have:d.val.toNat=('0':Char).val.toNat:=hc;exact UInt32.toNat_inj.mp this
theorem wC{n:Int}(h0:0<=n):isAscii (aP n)=true:=by
 unfold isAscii;rw[Array.all_eq_true];intro i hi;have:=fh h0 (aP n).cps[i] (by simp);exact decide_eq_true (by omega)
theorem wD{n:Int}(h0:0<=n):32∉(aP n).cps.toList:=λh=>by
 have:=fh h0 32 h;omega
end K05
end
section
open PySem L2 Hv
set_option hygiene false
local macro_rules | `(tactic| simp only[EV,$ls,*] $[$l:location]?)=>`(tactic| simp only[dU,Kv,Kw,Ky,B8,NC,ND,NF,NG,NH,Kn,NI,Ko,Kp,QS,NJ,NK,fV,bW,R0,aV,uv,fG,Pj,EN,EM,o5,R3,GB,cC,Kl,eO,Fd,Km,isVar,jQ,List.getElem?_cons_zero,List.getElem?_cons_succ,set_cons_zero,set_cons_succ,map_cons,map_nil,length_cons,length_nil,cons_append,nil_append,List.replicate_succ,List.replicate_zero,Nat.reduceSub,Nat.reduceAdd,Nat.reduceLeDiff,NL,NO,QT,QU,QV,QW,QX,NP,NR,NS,GC,NU,NV,NW,GD,NX,NY,NZ,Kq,Kr,Ks,Ku,Fe,N1,lD,bz,nY,QJ,cQ,fS,Hv.stored,List.contains_nil,List.contains_cons,List.elem_nil,List.elem_cons,Nat.reduceBEq,Nat.reduceEqDiff,BEq.rfl,List.all_cons,List.all_nil,beq_self_eq_true,BP,gh,pH,j3,mQ,↓reduceIte,Bool.and_true,Bool.true_and,Bool.false_and,Bool.and_false,Bool.or_false,Bool.false_or,Bool.or_true,Bool.true_or,Bool.or_self,Nat.zero_le,Bool.not_true,Bool.not_false,false_eq_true,decide_eq_true_eq,not_eq_true',decide_eq_false_iff_not,List.append_nil,nil_append,reduceCtorEq,$ls,*] $[$l:location]?)
section
open PySem L2 Hv
namespace K05
def jA(p q:Int)(ts:List T3):List Int:=p::q::ts.flatMap λt=>[t.2.1,t.2.2]
def K6(p q:Int)(ts:List T3):List Int:=iZ (jA p q ts)
theorem qM(p q:Int)(ts:List T3):(jA p q ts).length=2+2*ts.length:=by
 unfold jA
 induction ts with
 |nil=>rfl
 |cons t r ih=>simp only[List.flatMap_cons,length_cons,length_append,length_nil] at *;omega
theorem FG{p q x:Int}:x∈K6 p q ts↔x=p\/x=q\/∃t∈ts,x=t.2.1\/x=t.2.2:=by
 unfold K6;rw[Cg];unfold jA;simp only[mem_cons,List.mem_flatMap,not_mem_nil,or_false]
theorem places_eq{p q:Int}(h:ts.length<=14):e9 [cG p q ts]=.ok (true,.rl ((K6 p q ts).map .int)):=by
 unfold e9 dJ cG;simp only[EV,gQ pK,gQ r6,gR];rw[iR];refine b7 aH (λr:Pr FV=>r=.ok (true,.rl ((K6 p q ts).map .int)))
  (λdone env=>∃a,env=[some (.sh,cG p q ts),some (.ow,.rl ((jA p q done).map .int)),a])
  ⟨none,rfl⟩ ?_ ?_
 ·rintro pre t post env hx ⟨a,rfl⟩
  refine⟨[some (.sh,cG p q ts),some (.ow,.rl ((jA p q (pre++[t])).map .int)),some (.sh,aH t)],?_,_,rfl⟩;have hpl:pre.length<14:=by have:=Wc length hx;rw[VL,VQ]at this;omega
  have z:((jA p q pre).map Val.int).length+2<=sizeLine:=by rw[Vp,qM];unfold sizeLine;omega
  have ea:(jA p q (pre++[t])).map Val.int=(jA p q pre).map Val.int++[.int t.2.1,.int t.2.2]:=by unfold jA;simp
  simp only[EV,bg,KC,z,ea]
 ·rintro env ⟨a,rfl⟩
  have hl:(jA p q ts).length<64:=by rw[qM];omega
  simp only[EV,ints_map,hl];rfl
end K05
end
section
open PySem L2 Hv
namespace K05
theorem K7(hx:PyData.strOk x=true)(hy:PyData.strOk y=true):cop [] .eq (.str x) (.str y)=some (decide (x=y)):=by
 show xr [] (.str x) (.str y)=_;unfold xr;rw[r9 hx,r9 hy];show some (PyData.eqv (.str x) (.str y))=_
 congr 1
theorem OG(hx:PyData.strOk x=true)(hy:PyData.strOk y=true):cop [] .ne (.str x) (.str y)=some (!decide (x=y)):=by
 show (cop [] .eq (.str x) (.str y)).map (λb=>!b)=_;rw[K7 hx hy];rfl
theorem mh(n:Int):PyData.strOk (aP n)=true:=uD _
theorem fM(s:String):PyData.strOk (s:Str)=true:=uD s
theorem zP{c:Nat}(h:48<=c/\c<=57):PyData.strOk ⟨[c].toArray⟩=true:=by
 unfold PyData.strOk;simp;omega
theorem K8{c:Nat}(h:48<=c/\c<=57):cop [] .Eb (.str ⟨[c].toArray⟩) (.str "0123456789")=some true:=by
 show some (!(Builtin.Str.occurrences ("0123456789":Str) ⟨[c].toArray⟩ 0 ("0123456789":Str).length 1).isEmpty)=_;rw[StrLaws.found_one];have:("0123456789":Str).cps.toList=[48,49,50,51,52,53,54,55,56,57]:=by decide
 rw[this]
 congr 1
 rw[Wn];simp;omega
theorem wF{n:Int}(h0:0<=n)(h1:n<10 ^ 60):dN [.str (aP n)]=.ok (true,.bl true):=by
 have hd:=fh h0;have hne:=yq h0;have hl:=gS h0 h1;have ha:=wC h0;have hsz:(aP n).cps.toList.length=(aP n).length:=by simp[Str.length]
 have ez:cop [] .eq (.str (aP n)) (.str "")=some false:=by
  rw[K7 (mh n) (fM "")]
  congr 1
  refine decide_eq_false λz=>hne ?_;rw[z];decide
 have Rb:(aP n).length<=sizeLine:=by unfold sizeLine;omega
 have hgt:¬ ((aP n).length:Int)>60:=by omega
 obtain⟨c,r,ec⟩:∃c r,(aP n).cps.toList=c::r:=by
  cases e:(aP n).cps.toList with
  |nil=>exact absurd e hne
  |cons c r=>exact⟨c,r,rfl⟩
 have hc:48<=c/\c<=57:=hd c (by rw[ec];exact Vs);have i0:gF [] (.str (aP n)) (.int 0)=some (.str ⟨[c].toArray⟩):=by
  show (if (aP n).length<=sizeLine then (gC (aP n).cps.toList 0).map λc=>Val.str ⟨[c].toArray⟩ else none)=_;rw[Vv Rb,ec];have e0:qZ (c::r).length 0=some 0:=by unfold qZ;simp
  unfold gC;rw[e0];rfl
 have e0:cop [] .eq (.str ⟨[c].toArray⟩) (.str "0")=some (decide (c=48)):=by
  rw[K7 (zP hc) (fM "0")]
  congr 1
  have:("0":Str)=⟨[48].toArray⟩:=by decide
  rw[this]
  by_cases h:c=48<;>simp[h]
 have hsg:fk .seq [.str (aP n)]=some ((aP n).cps.toList.map λc=>Val.str ⟨[c].toArray⟩):=by show (if isAscii (aP n)=true then some (signs (aP n)) else none)=_;rw[Vv ha];rfl
 have hlen:(aP n).cps.toList.length<=100000:=by omega
 have comp:∀Ψ,fU (λd=>pb (pl (dj (.one 0) d [none])) λenv'=>pb (.ok true) λt=>if t=true then pb (aV Ψ (.cmp .Eb (!0) (.con "FIGURES" (.str "0123456789"))) env') λe=>.ok (some e) else .ok none) ((aP n).cps.toList.map λc=>Val.str ⟨[c].toArray⟩)=.ok (true,(aP n).cps.toList.map λ_=>Val.bl true):=fun Ψ=>by
  rw[cH (λc:Nat=>Val.str ⟨[c].toArray⟩) (λ_=>Val.bl true) _ (λc hc=>by
   simp only[EV,bg,K8 (hd c hc)])]
 unfold dN cS
 by_cases h:c=48
 ·subst h
  have hn0:n=0:=zO h0 (by rw[ec];rfl);have en:cop [] .ne (.str (aP n)) (.str "0")=some false:=by
   rw[OG (mh n) (fM "0"),hn0]
   decide
  simp only[EV,ez,GF Rb,hgt,i0,e0,en,decide_true,decide_false,hsg,fy,length_map,hlen]at comp |-;rw[comp λ_ _=>.no];simp only[EV,all_true]
 ·simp only[EV,ez,GF Rb,hgt,i0,e0,h,decide_false,hsg,fy,length_map,hlen]at comp |-;rw[comp λ_ _=>.no];simp only[EV,all_true]
end K05
end
section
open PySem L2 Hv
namespace K05
def aM(w:Str)(xs:List Int):Str:=Txt.join " " (w::xs.map aP)
theorem oR{xs:List Int}(hw:w.length<=10)(hx:xs.length<=3)(hs:∀i∈xs,Sm i):(((w::xs.map aP).map (·.length)).sum+(w::xs.map aP).length*(" ":Str).length<=16777216):=by
 have b:∀ys:List Int,(∀i∈ys,Sm i)->((ys.map aP).map (·.length)).sum<=60*ys.length:=by
  intro ys
  induction ys with
  |nil=>intro _;simp
  |cons y r ih=>intro h;have:=ih λi hi=>h i (Vq _ hi);have hy:=h y Vs;have:=gS hy.1 hy.2;simp only[map_cons,sum_cons,length_cons];omega
 have:=b xs hs;have e:(" ":Str).length=1:=by decide +kernel
 simp only[map_cons,sum_cons,length_cons,length_map,e];omega
theorem CY(e:strs? vs=some ys)(h:(ys.map (·.length)).sum+ys.length*z.length<=16777216):BN (.str z) [.rl vs]=.ok (true,.str (Txt.join z ys)):=by
 show pb (pl (strs? vs)) _=_;rw[e,eO,cC,gx (decide_eq_true h)]
theorem CZ{xs:List Int}(hw:w.length<=10)(hx:xs.length<=3)(hs:∀i∈xs,Sm i):∃f,iu [.str w,gn xs]=.ok (f,.str (aM w xs)):=by
 unfold iu gY gn;have hc:xs.length<=100000:=by omega
 have z1:1<=sizeLine:=by decide
 have za:([Val.str w]).length+(List.map (λi=>Val.str (aP i)) xs).length<=sizeLine:=by rw[Vp];simp only[length_cons,length_nil];unfold sizeLine;omega
 simp only[EV,qA,B9,length_map,hc,fy,z1];rw[lX (g:=λv=>(true,match v with|.int a=>.str (aP a)|v=>v))]
 rotate_left
 ·intro x hx
  obtain⟨t,ht,rfl⟩:=VZ.mp hx;have hl:decide (t.natAbs.log2<1920)=true:=by
   have ht:=hs t ht;rw[Wn]
   by_cases h0:t.natAbs=0
   ·rw[h0];decide
   ·refine(log2_lt h0).mpr ?_
    have:t.natAbs<10 ^ 60:=by
     have:((10 ^ 60:Nat):Int)=10 ^ 60:=by simp
     have:=ht.1;have:=ht.2;omega
    exact VA this (by decide +kernel)
  simp only[EV,bg,GG hl];rfl
 have em:(List.map Val.int xs).map (λx=>((λv=>((true:Bool),match v with|.int a=>.str (aP a)|v=>v)) x).2)=xs.map λi=>Val.str (aP i):=by rw[Wf];rfl
 rw[em];simp only[EV,add_l (decide_eq_true za)];have es:strs? (Val.str w::List.map (λi=>Val.str (aP i)) xs)=some (w::xs.map aP):=by have:=strs_map aP xs;show (bK _ _)=_;rw[bK];show ((some w).bind λy=>(strs? (xs.map λi=>Val.str (aP i))).bind λys=>some (y::ys))=_;rw[this];rfl
 rw[CY es (oR hw hx hs)];exact⟨_,rfl⟩
theorem blank_eq:(" ":Str)=⟨[32].toArray⟩:=by decide
theorem C0{c x:Nat}:∀{ps:List (List Nat)},x∈gl c ps->x=c\/∃p∈ps,x∈p
 |[],h=>by simp[gl]at h
 |[p],h=>.inr ⟨p,Vs,h⟩
 | p::q::r,h=>by
  rw[gl,Wq,VF]at h
  rcases h with h|h|h
  ·exact .inr ⟨p,Vs,h⟩
  ·exact .inl h
  ·rcases C0 h with z|⟨p',h1,h2⟩
   ·exact .inl z
   ·exact .inr ⟨p',Vq _ h1,h2⟩
structure ki (w:Str):Prop where
 asc:∀c∈w.cps.toList,c<128
 non:32∉w.cps.toList
 len:w.length<=10
 ok:PyData.strOk w=true
theorem ly:ki "poles":=⟨by decide,by decide,by decide,fM _⟩
theorem sG:ki "tie":=⟨by decide,by decide,by decide,fM _⟩
theorem wG{xs:List Int}(hw:ki w)(hs:∀i∈xs,Sm i):∀v∈w::xs.map aP,32∉v.cps.toList:=λv hv=>by
 rcases VF.mp hv with rfl|hv
 ·exact hw.non
 ·obtain⟨n,hn,rfl⟩:=VZ.mp hv;exact wD (hs n hn).1
theorem oS{xs:List Int}(hw:ki w)(hs:∀i∈xs,Sm i):eB (aM w xs) " " = w::xs.map aP:=by
 rw[blank_eq];unfold aM;rw[blank_eq];exact uZ (by simp) (wG hw hs)
theorem FH{xs:List Int}(hw:ki w)(h0:xs≠[])(hx:xs.length<=3)(hs:∀i∈xs,Sm i):iF (aM w xs) " " = true:=by
 have fit:=oR hw.len hx hs;have hg:(aM w xs).cps.toList=gl 32 ((w::xs.map aP).map λv=>v.cps.toList):=by unfold aM;rw[blank_eq];exact oO 32 _
 have hsp:=oS hw hs;have cnt:=lu 32 ((w::xs.map aP).map λv=>v.cps.toList) (by simp);rw[<-hg,Vp,VQ,Vp]at cnt;have hpos:0<xs.length:=List.length_pos_iff.mpr h0;have UZ:0<(aM w xs).cps.toList.count 32:=by omega
 have hsz:(aM w xs).cps.toList.length=(aM w xs).length:=by simp[Str.length]
 have hle:=List.count_le_length (a:=32) (l:=(aM w xs).cps.toList);have hlen:(aM w xs).length<=100000:=by
  have e:=size_glued (" ":Str) (w::xs.map aP);have b:∀ys:List Int,(∀i∈ys,Sm i)->((ys.map aP).map (·.length)).sum<=60*ys.length:=by
   intro ys
   induction ys with
   |nil=>intro _;simp
   |cons y r ih=>intro h;have:=ih λi hi=>h i (Vq _ hi);have hy:=h y Vs;have:=gS hy.1 hy.2;simp only[map_cons,sum_cons,length_cons];omega
  have:=b xs hs;have e1:(" ":Str).length=1:=by decide +kernel
  have hwl:=hw.len;have e':(aM w xs).length=_:=e;rw[e',e1];simp only[map_cons,sum_cons,length_cons,length_map];omega
 have Rc:(Builtin.Str.occurrences (aM w xs) ⟨[32].toArray⟩ 0 (aM w xs).length ((aM w xs).length+1)).isEmpty=false:=by
  have:=qK (aM w xs) 32;cases h:Builtin.Str.occurrences (aM w xs) ⟨[32].toArray⟩ 0 (aM w xs).length ((aM w xs).length+1) with
  |nil=>rw[h,XQ]at this;omega
  |cons a r=>rfl
 have hasc:isAscii (aM w xs)=true:=by
  unfold isAscii;rw[<-all_toList,Xv];intro c hc;rw[hg]at hc;refine decide_eq_true ?_
  rcases C0 hc with rfl|⟨p,hp,hcp⟩
  ·decide
  ·obtain⟨v,hv,rfl⟩:=VZ.mp hp
   rcases VF.mp hv with rfl|hv
   ·exact hw.asc c hcp
   ·obtain⟨n,hn,rfl⟩:=VZ.mp hv;have:=fh (hs n hn).1 c hcp;omega
 unfold iF;rw[hsp,blank_eq,Rc,hasc];have e1:(⟨[32].toArray⟩:Str).length=1:=rfl;have e2:isAscii ⟨[32].toArray⟩=true:=by unfold isAscii;simp
 rw[e1,e2];simp only[and_eq_true,decide_eq_true_eq,length_cons,length_map];refine⟨⟨⟨⟨⟨⟨by decide,by omega⟩,trivial⟩,trivial⟩,rfl⟩,hlen⟩,by omega⟩
end K05
end
section
open PySem L2 Hv
namespace K05
theorem oU{α:Type}(a:α)(l:List α):bO (a::l) (some 1) none=l:=by
 unfold bO;rw[show (some (1:Int))=some ((1:Nat):Int) from rfl,HT.mY,HT.kB];have e:min 1 (a::l).length=1:=by rw[VQ];omega
 rw[e,List.drop_succ_cons,drop_zero];exact Xo (by simp)
theorem OH{n:Int}(h:Sm n):dB .int [.str (aP n)]=.ok (true,.int n):=by
 show pb (pl (intText? (aP n))) _=_;have:=gS h.1 h.2;rw[zN h.1 h.2,eO,cC,gx (decide_eq_true (by omega))]
theorem FI{xs:List Int}(hw:ki w)(h0:xs≠[])(hx:xs.length<=3)(hs:∀i∈xs,Sm i):BO (.str (aM w xs)) [.str " "]=.ok (true,.rl (.str w::xs.map λn=>.str (aP n))):=by
 show pg (iF (aM w xs) " ") _=_;rw[gx (FH hw h0 hx hs),oS hw hs,VC,Wf];rfl
theorem C1:recv [] .pop (.str x)=some ():=rfl
theorem zQ(xs:List Int):bz (xs.map Val.int)=true:=bH xs
theorem GK{rows:List Str}{k:Nat}{w:Str}{xs:List Int}(hk:rows[k]?=some (aM w xs))(hw:ki w)(h0:xs≠[])(hx:xs.length<=3)(hs:∀i∈xs,Sm i):bw [.rl (rows.map .str),.int k,.str w,.int xs.length]=.ok (true,gn xs):=by
 have i1:gF [] (.rl (rows.map .str)) (.int (k:Int))=some (.str (aM w xs)):=oj (mZ (by rw[VI,hk];rfl));have sp:=FI hw h0 hx hs;have n0:cop [] .ne (.str w) (.str w)=some false:=by rw[OG hw.ok hw.ok];simp
 have hc:xs.length<=100000:=by omega
 have nl:cop [] .ne (.int ((xs.length+1:Nat):Int)) (.int ((xs.length:Int)+1))=some false:=by rw[NP];simp
 have c1:∀Ψ,(∀n∈xs,Ψ 9 [.str (aP n)]=Pr.ok ((true,.bl true):FV))->fU (λd=>pb (pl (dj (.one 0) d [none])) λenv'=>pb (.ok true) λt=>if t=true then pb (aV Ψ (.call 9 #[!0]) env') λe=>.ok (some e) else .ok none) (xs.map λn=>Val.str (aP n))=.ok (true,xs.map λ_=>Val.bl true):=fun Ψ hΨ=>by
  rw[cH (λn:Int=>Val.str (aP n)) (λ_=>Val.bl true) xs (λn hn=>by
   simp only[EV,bg,hΨ n hn])]
 have c2:∀Ψ,fU (λd=>pb (pl (dj (.one 0) d [none])) λenv'=>pb (.ok true) λt=>if t=true then pb (aV Ψ (.blt .int #[!0]) env') λe=>.ok (some e) else .ok none) (xs.map λn=>Val.str (aP n))=.ok (true,xs.map Val.int):=fun Ψ=>by
  rw[cH (λn:Int=>Val.str (aP n)) Val.int xs (λn hn=>by
   simp only[EV,bg,OH (hs n hn)])]
 have lk:∀n∈xs,av wo 9 [.str (aP n)]=.ok (true,.bl true):=λn hn=>by
  rw[gy];exact wF (hs n hn).1 (hs n hn).2
 have SH:=c1 (av wo) lk;have SJ:=c2 (av wo);unfold bw cT;simp only[EV,i1,C1,sp,oj pK,n0,length_map,nl,qB,oU,gR,fy,hc] at SH SJ |-;rw[SH];simp only[EV,all_true,qB,oU,gR,fy,length_map,hc];rw[SJ];simp only[EV,zQ];rfl
end K05
end
section
open PySem L2 Hv
namespace K05
def cellAt(ns:List Int)(k:Nat):Int:=ns.getD k 0
theorem iP(ns:List Int)(k:Nat):aJ [.rl (ns.map .int),.int k]=.ok (true,.int (cellAt ns k)):=by
 unfold aJ dH
 by_cases h:k<ns.length
 ·have e:gC (List.map Val.int ns) (k:Int)=some (.int (ns[k])):=mZ (by simp[h])
  have h':(k:Int)<ns.length:=by omega
  simp only[EV,oj e,length_map,h',cellAt,List.getD,List.getElem?_eq_getElem h,Option.getD_some]
 ·have h':¬ (k:Int)<ns.length:=by omega
  have e:ns[k]?=none:=by simp;omega
  simp only[EV,length_map,h',cellAt,List.getD,e,getD_none]
def lz(ns:List Int):Bool:=decide (cellAt ns 3%2=1)
theorem sH(ns:List Int):iM [.rl (ns.map .int)]=.ok (true,.bl (lz ns)):=by
 have c:aJ [.rl (ns.map .int),.int 3]=.ok (true,.int (cellAt ns 3)):=iP ns 3;unfold iM jq lz;simp only[EV,kh,c,cD (show decide ((0:Int)<2)=true by decide)]
def oZ(one:Int):Nat->Int×Int
 |0=>(0-1,one)
 |n+1=>((oZ one n).1+1+(oZ one n).2%10 ^ (57:Int).toNat,(oZ one n).2/10 ^ (57:Int).toNat)
theorem yr(one:Int)(n:Nat):oZ one (n+1)=((oZ one n).1+1+(oZ one n).2%10 ^ (57:Int).toNat,(oZ one n).2/10 ^ (57:Int).toNat):=rfl
theorem C2(x:Int):0<=x%10 ^ (57:Int).toNat:=WW _ (by decide)
theorem wH(one:Int)(m:Nat):∀n,(oZ one m).1<(oZ one (m+n+1)).1
 | 0=>by
  have:=C2 (oZ one m).2;rw[Nat.add_zero,yr];dsimp only;omega
 | n+1=>by
  have:=wH one m n;have:=C2 (oZ one (m+n+1)).2;rw[<-Nat.add_assoc,yr];dsimp only;omega
theorem zR(a b:Int)(h:0<=b/\b<67):fm a b=true:=by
 unfold fm;simp only[or_eq_true,and_eq_true,decide_eq_true_eq];right;omega
theorem wI(a b:Int)(h:0<=a/\a<67):fm a b=true:=by
 unfold fm;simp only[or_eq_true,and_eq_true,decide_eq_true_eq];left;omega
def number(ns:List Int)(gA:Nat)(k:Int):Int :=
 let one:=cellAt ns gA
 let two:=cellAt ns (gA+1)
 if lz ns=true then (oZ one (k.toNat+1)).1 else
 let step:=if 0<one%3 then one%10 ^ 57+1 else 1
 let shift:=if 0<two%3 then two%10 ^ 57 else 0
 let here:=step*(((1+two/3%66)*k+one/3%67)%67)+shift
 if two%7=3 then 10 ^ 60-1-here else here
theorem OI{n:Int}(h:inR n=true):fk .range [.int n]=some ((List.range n.toNat).map λ(i:Nat)=>Val.int (0+(i:Int))):=by
 show (if inR n=true then some (bT 0 n.toNat) else none)=_;rw[Vv h];rfl
theorem cN(ns:List Int)(gA:Nat)(k:Int)(hk:0<=k/\k<64):eN [.rl (ns.map .int),.int gA,.int k]=.ok (true,.int (number ns gA k)):=by
 have c1:=iP ns gA;have c2:aJ [.rl (ns.map .int),.int ((gA:Int)+1)]=.ok (true,.int (cellAt ns (gA+1))):=iP ns (gA+1);have c3:=sH ns;unfold eN eX number;generalize h1:cellAt ns gA=one at *;generalize h2:cellAt ns (gA+1)=two at *;cases ho:lz ns with
 |true=>
  rw[ho]at c3;have hr:inR (k+1)=true:=by unfold inR;simp only[and_eq_true,decide_eq_true_eq];omega
  simp only[EV,dY,gk,c1,c2,c3,OI hr]
  repeat rw[iR]
  refine b7 (λi:Nat=>Val.int (0+(i:Int))) (λr:Pr FV=>r=.ok (true,.int (oZ one (k.toNat+1)).1))
   (λdone env=>∃a,env=[some (.sh,.rl (ns.map .int)),some (.sh,.int gA),some (.sh,.int k),some (.sh,.int (oZ one done.length).2),some (.sh,.int two),some (.sh,.int (oZ one done.length).1),a,none]) ⟨none,rfl⟩ ?_ ?_
  ·rintro pre u post env hx ⟨a,rfl⟩;refine⟨_,?_,some (.sh,.int (0+(u:Int))),rfl⟩;simp only[EV,bg,yc (show decide ((0:Int)<=57/\(57:Int)<=1000000/\(10:Int).natAbs<2 ^ 64)=true by decide),cD (show decide ((0:Int)<10 ^ (57:Int).toNat)=true by decide),iJ (show iT (10 ^ (57:Int).toNat)=true by decide),length_append,yr]
  ·rintro env ⟨a,rfl⟩
   have hl:(k+1).toNat=k.toNat+1:=by omega
   simp only[EV,List.length_range,hl]
 |false=>
  rw[ho]at c3;have m1:fm (1+two/3%66) k=true:=wI _ _ (by omega);have m2:∀x,fm x (((1+two/3%66)*k+one/3%67)%67)=true:=λx=>zR _ _ (by omega);simp only[EV,dY,gk,c1,c2,c3,cD (show decide ((0:Int)<3)=true by decide),cD (show decide ((0:Int)<7)=true by decide),cD (show decide ((0:Int)<66)=true by decide),cD (show decide ((0:Int)<67)=true by decide),iJ (show iT 3=true by decide),yc (show decide ((0:Int)<=57/\(57:Int)<=1000000/\(10:Int).natAbs<2 ^ 64)=true by decide),yc (show decide ((0:Int)<=60/\(60:Int)<=1000000/\(10:Int).natAbs<2 ^ 64)=true by decide),oh m1,oh (m2 _),cD (show decide ((0:Int)<10 ^ (57:Int).toNat)=true by decide)]
  repeat' split
  all_goals first|rfl|contradiction
theorem wJ(ns:List Int)(gA:Nat)(i j:Int)(hi:0<=i/\i<67)(hj:0<=j/\j<67)(e:number ns gA i=number ns gA j):i=j:=by
 unfold number at e;dsimp only at e;generalize cellAt ns gA=one at *;generalize cellAt ns (gA+1)=two at *;cases ho:lz ns with
 |true=>
  rw[ho,Vv rfl,Vv rfl]at e
  rcases Int.lt_trichotomy i j with h|h|h
  ·have:=wH one (i.toNat+1) (j.toNat-i.toNat-1);rw[show i.toNat+1+(j.toNat-i.toNat-1)+1=j.toNat+1 by omega]at this;omega
  ·exact h
  ·have:=wH one (j.toNat+1) (i.toNat-j.toNat-1);rw[show j.toNat+1+(i.toNat-j.toNat-1)+1=i.toNat+1 by omega]at this;omega
 |false=>
  rw[ho,Vw Vl,Vw Vl]at e;have hs:∃st:Int,(if 0<one%3 then one%10 ^ 57+1 else 1)=st/\1<=st:=by refine⟨_,rfl,?_⟩;split<;>omega
  obtain⟨st,e1,a1⟩:=hs;rw[e1]at e;have e2:st*(((1+two/3%66)*i+one/3%67)%67)=st*(((1+two/3%66)*j+one/3%67)%67):=by split at e<;>omega
  have e3:=Int.eq_of_mul_eq_mul_left (by omega:st≠0) e2;exact Fo (by omega) hi hj e3
theorem C3(one:Int):∀n:Nat,(n:Int)-1<=(oZ one n).1/\(oZ one n).1<n*10 ^ 57+(if n=0 then 0 else 0)
 |0=>by simp[oZ]
 | n+1=>by
  obtain⟨a,b⟩:=C3 one n;have h1:=C2 (oZ one n).2;have h2:=WR (oZ one n).2 (show (0:Int)<10 ^ (57:Int).toNat by decide);rw[show (57:Int).toNat=57 from rfl]at h1 h2;rw[yr,show (57:Int).toNat=57 from rfl];dsimp only;simp only[ite_self]at b |-;generalize (oZ one n).2%10 ^ 57=z at *
  push_cast
  constructor<;>omega
theorem qN(ns:List Int)(gA:Nat)(k:Int)(hk:0<=k/\k<64):Sm (number ns gA k):=by
 unfold number Sm;dsimp only;generalize cellAt ns gA=one;generalize cellAt ns (gA+1)=two
 by_cases ho:lz ns=true
 ·rw[Vv ho]
  obtain⟨a,b⟩:=C3 one (k.toNat+1);simp only[ite_self]at b;generalize (oZ one (k.toNat+1)).1=z at *;have:((k.toNat+1:Nat):Int)<=64:=by omega
  constructor<;>omega
 ·rw[Vw ho]
  generalize ((1+two/3%66)*k+one/3%67)=z;have hs:∃st:Int,(if 0<one%3 then one%10 ^ 57+1 else 1)=st/\1<=st/\st<=10 ^ 57:=by refine⟨_,rfl,?_,?_⟩<;>split<;>omega
  have hf:∃st:Int,(if 0<two%3 then two%10 ^ 57 else 0)=st/\0<=st/\st<=10 ^ 57:=by refine⟨_,rfl,?_,?_⟩<;>split<;>omega
  obtain⟨st,e1,a1,a2⟩:=hs;obtain⟨sh,e2,b1,b2⟩:=hf;rw[e1,e2];have r1:0<=z%67:=by omega
  have r2:z%67<=66:=by omega
  have p1:0<=st*(z%67):=Int.mul_nonneg (by omega) r1;have p2:st*(z%67)<=10 ^ 57*66:=Int.mul_le_mul a2 r2 r1 (by decide);generalize st*(z%67)=y at *
  split<;>omega
def Pl(ns:List Int)(many x:Int):Prop:=∃j,0<=j/\j<many/\x=number ns 2 j
structure kj (ns:List Int) (many:Int) (ts:List T3):Prop where
 len:ts.length<=14
 name:∀i (h:i<ts.length),(ts[i]).1=number ns 0 i
 ends:∀t∈ts,Pl ns many t.2.1/\Pl ns many t.2.2
theorem kj.nodup{ns:List Int}{many:Int}(h:kj ns many ts):(ts.map (·.1)).Nodup:=by
 unfold List.Nodup;rw[WH];intro i j hi hj hij;rw[Vp]at hi hj;rw[W6,W6,h.name i hi,h.name j hj];intro e;have:=h.len;have:=wJ ns 0 i j (by omega) (by omega) e;omega
theorem oV:∀(i:Nat) (ms:List Int) (pre post:List Val) (x:Val),bQ i (ms.map .int)=pre++x::post->∃c:Int,x=.tup [.int ((i+pre.length:Nat):Int),.int c]
 |_,[],pre,post,x,h=>by simp[bQ]at h
 | i,d::r,[],post,x,h=>by
  rw[VC,bQ,XT]at h;injection h with h _
  exact⟨d,by rw[<-h];rfl⟩
 | i,d::r,y::pre,post,x,h=>by
  rw[VC,bQ,cons_append]at h;injection h with _ h
  obtain⟨c,e⟩:=oV (i+1) r pre post x h;exact⟨c,by rw[e,VQ];congr 4;omega⟩
def oW:eE:=match dm with
 |.cons _ (.cons _ (.cons _ t))=>t
 |_=>.nil
theorem qO(ns cs:List Int)(start many:Int)(hm:0<many/\many<=8)(hl:cs.length<=14)(mk:Mk):∃f ts,fV (av KS) [4] oW [some (.sh,.rl (ns.map .int)),some (.sh,.int start),some (.sh,.int 14),some (.sh,.int many),some (.ow,.rl []),some (mk,.rl (cs.map .int)),none,none,none,none]=.ok (.rt (f,.rl (ts.map aH)))/\kj ns many ts:=by
 have hmd:decide (0<many)=true:=by simpa using hm.1
 have Rf:iT many=true:=by unfold iT;rw[Wn];omega
 have c3:=sH ns;unfold oW dm;dsimp only;simp only[EV,Ca]
 repeat rw[iR]
 have hx:bQ 0 (cs.map Val.int)=(bQ 0 (cs.map Val.int)).map id:=(XX _).symm;rw[hx];refine b7 id (λr:Pr xU=>∃(f:Bool) (ts:List T3),r=.ok (.rt (f,.rl (ts.map aH)))/\kj ns many ts)
  (λdone env=>∃ts a b c d,env=[some (.sh,.rl (ns.map .int)),some (.sh,.int start),some (.sh,.int 14),some (.sh,.int many),some (.ow,.rl (ts.map aH)),some (mk,.rl (cs.map .int)),a,b,c,d]/\ts.length=done.length/\(ts.length<=14->kj ns many ts))
  ⟨[],none,none,none,none,rfl,rfl,λ_=>⟨by simp,λi h=>(by simp at h),λt h=>(by simp at h)⟩⟩ ?_ ?_
 ·rintro pre x post env hx ⟨ts,a,b,c,d,rfl,hl',hg⟩
  have hpl:pre.length<14:=by have:=Wc length hx;rw[lY,Vp,VL,VQ]at this;omega
  obtain⟨cell,rfl⟩:=oV _ _ _ _ _ hx;rw[Nat.zero_add];have hg:=hg (by omega);have bd:∀z:Int,0<=z%many/\z%many<64:=λz=>by
   have b1:=WW z (show many≠0 by omega);have b2:=WR z hm.1;omega
  have bd2:∀z:Int,0<=z%many/\z%many<many:=λz=>⟨WW z (show many≠0 by omega),WR z hm.1⟩;have e1:=cN ns 2 _ (bd (cell*48271%10007));have e2:=cN ns 2 _ (bd (cell*16807%10009));have e4:=cN ns 2 _ (bd cell);have e5:=cN ns 2 _ (bd (cell/many));have e3:=cN ns 0 (pre.length:Int) (by omega);rw[show ((2:Nat):Int)=2 from rfl]at e1 e2 e4 e5;rw[show ((0:Nat):Int)=0 from rfl]at e3;have Di:Pl ns many (number ns 2 (cell*48271%10007%many)):=⟨_,(bd2 _).1,(bd2 _).2,rfl⟩;generalize number ns 2 (cell*48271%10007%many)=n1 at *;have ln2:Pl ns many (number ns 2 (cell*16807%10009%many)):=⟨_,(bd2 _).1,(bd2 _).2,rfl⟩;generalize number ns 2 (cell*16807%10009%many)=n2 at *;have Pg:Pl ns many (number ns 2 (cell%many)):=⟨_,(bd2 _).1,(bd2 _).2,rfl⟩;generalize number ns 2 (cell%many)=n4 at *;have RZ:Pl ns many (number ns 2 (cell/many%many)):=⟨_,(bd2 _).1,(bd2 _).2,rfl⟩;generalize number ns 2 (cell/many%many)=n5 at *;generalize U0:number ns 0 (pre.length:Int)=n3 at *;have m1:∀x:Int,fm x 48271=true:=λx=>by unfold fm;simp
  have m2:∀x:Int,fm x 16807=true:=λx=>by unfold fm;simp
  have z:ts.length<sizeLine:=by rw[hl'];unfold sizeLine;omega
  have fin:∀a b:Int,Pl ns many a->Pl ns many b->∃(ts':List T3) (a' b' c d:Option (Mk×Val)),[some (.sh,.rl (ns.map .int)),some (.sh,.int start),some (.sh,.int 14),some (.sh,.int many),some (.ow,.rl (ts.map aH++[.tup [.int n3,.int a,.int b]])),some (mk,.rl (cs.map .int)),some (.sh,.int pre.length),some (.sh,.int cell),some (.sh,.int a),some (.sh,.int b)]=[some (.sh,.rl (ns.map .int)),some (.sh,.int start),some (.sh,.int 14),some (.sh,.int many),some (.ow,.rl (ts'.map aH)),some (mk,.rl (cs.map .int)),a',b',c,d]/\ts'.length=(pre++[Val.tup [.int (pre.length:Nat),.int cell]]).length/\(ts'.length<=14->kj ns many ts'):=λa b pa pb=>by
   refine⟨ts++[(n3,a,b)],some (.sh,.int pre.length),some (.sh,.int cell),some (.sh,.int a),some (.sh,.int b),by rw[Wg];rfl,by simp[hl'],λRg=>⟨Rg,λi hi=>?_,λt ht=>(Wq.mp ht).elim (hg.ends t) λht=>by rw[VM]at ht;subst ht;exact⟨pa,pb⟩⟩⟩;rw[List.getElem_append]
   split
   ·exact hg.name i (by assumption)
   ·simp only[length_append,length_cons,length_nil]at hi
    have:i=pre.length:=by omega
    subst this;simp[hl',U0]
  cases ho:lz ns with
  |false=>rw[ho]at c3;refine⟨_,?_,fin n1 n2 Di ln2⟩;simp only[EV,id,r8,fZ,cV,c3,oh (m1 _),oh (m2 _),cD hmd,cD (show decide ((0:Int)<10007)=true by decide),cD (show decide ((0:Int)<10009)=true by decide),e1,e2,e3,length_map,z,show 3<=sizeLine by decide]
  |true=>rw[ho]at c3;refine⟨_,?_,fin n4 n5 Pg RZ⟩;simp only[EV,id,r8,fZ,cV,c3,oh (m1 _),oh (m2 _),cD hmd,iJ Rf,cD (show decide ((0:Int)<10007)=true by decide),cD (show decide ((0:Int)<10009)=true by decide),e1,e2,e3,e4,e5,length_map,z,show 3<=sizeLine by decide]
 ·rintro env ⟨ts,a,b,c,d,rfl,hl',hg⟩;refine⟨_,ts,by simp only[EV,cC];rfl,hg ?_⟩;rw[hl',lY,Vp];exact hl
theorem FJ(ns:List Int)(start many:Int)(h0:0<=start)(hm:0<many/\many<=8):∃f ts,jw [.rl (ns.map .int),.int start,.int 14,.int many]=.ok (f,.rl (ts.map aH))/\kj ns many ts:=by
 have c3:=sH ns;have c4:aJ [.rl (ns.map .int),.int 4]=.ok (true,.int (cellAt ns 4)):=iP ns 4;have hlen:=zF ns start 14 h0;have U3:((14:Nat):Int)=14:=rfl;rw[U3]at hlen;unfold jw dU;rw[show gh dm=[4] from rfl,show dm=.cons (.asg (.one 4) (.lst .nil)) (.cons (.asg (.one 5) (.slc (!0) (!1) (.bin .add (!1) (!2)))) (.cons (.iff (.call 2 #[!0]) #[.asg (.one 5) (.slc (!5) .no (.bin .mod (.bin .mod (.bin .fdiv (.call 0 #[!0,¬4]) (¬512)) (¬16)) (.bin .add (!2) (¬1))))] .nil) oW)) from rfl];cases ho:lz ns with
 |false=>rw[ho]at c3;simp only[EV,qB,om,cV,c3];obtain⟨f,ts,e,ok⟩:=qO ns _ start many hm hlen _;exact⟨f,ts,by rw[e];rfl,ok⟩
 |true=>rw[ho]at c3;simp only[EV,qB,om,cV,jS,c3,c4,iJ (show iT 512=true by decide),cD (show decide ((0:Int)<16)=true by decide),cD (show decide ((0:Int)<14+1)=true by decide)];obtain⟨f,ts,e,ok⟩:=qO ns _ start many hm (VX (Cb _ none (some (cellAt ns 4/512%16%(14+1)))) hlen) _;exact⟨f,ts,by rw[e];rfl,ok⟩
theorem C4(ns:List Int)(many:Int)(hm:0<many/\many<=8):∃f p q,ig [.rl (ns.map .int),.int many]=.ok (f,.tup [.int p,.int q])/\Pl ns many p/\Pl ns many q:=by
 have bd:∀z:Int,0<=z%many/\z%many<64:=λz=>by
  have b1:=WW z (show many≠0 by omega);have b2:=WR z hm.1;omega
 have bd2:∀z:Int,0<=z%many/\z%many<many:=λz=>⟨WW z (show many≠0 by omega),WR z hm.1⟩;have hmd:decide (0<many)=true:=by simpa using hm.1
 have e1:=cN ns 2 0 (by omega);have e2:=cN ns 2 1 (by omega);have e3:=cN ns 2 _ (bd (cellAt ns 4/8%8));have e4:=cN ns 2 _ (bd (cellAt ns 4/64%8));rw[show ((2:Nat):Int)=2 from rfl]at e1 e2 e3 e4;have c1:aJ [.rl (ns.map .int),.int 4]=.ok (true,.int (cellAt ns 4)):=iP ns 4;have c3:=sH ns;have z:2<=sizeLine:=by decide
 unfold ig fX;cases ho:lz ns with
 |true=>rw[ho]at c3;simp only[EV,ff,fD,iz,c3,e3,e4,c1,iJ (show iT 8=true by decide),iJ (show iT 64=true by decide),cD (show decide ((0:Int)<8)=true by decide),cD hmd,z];exact⟨_,_,_,rfl,⟨_,(bd2 _).1,(bd2 _).2,rfl⟩,⟨_,(bd2 _).1,(bd2 _).2,rfl⟩⟩
 |false=>
  rw[ho]at c3;simp only[EV,ff,fD,iz,c3,e1,e2,c1,iJ (show iT 8=true by decide),cD (show decide ((0:Int)<5)=true by decide),z]
  by_cases m1:many=1
  ·simp only[m1,decide_true,↓reduceIte];exact⟨_,_,_,rfl,⟨0,by omega,by omega,rfl⟩,⟨0,by omega,by omega,rfl⟩⟩
  ·simp only[m1,decide_false]
   repeat' split
   all_goals first|exact⟨_,_,_,rfl,⟨0,by omega,by omega,rfl⟩,⟨0,by omega,by omega,rfl⟩⟩|exact⟨_,_,_,rfl,⟨0,by omega,by omega,rfl⟩,⟨1,by omega,by omega,rfl⟩⟩
theorem K9{p q:Int}{ts:List T3}(hl:ts.length<=63):k7 [.tup [.int p,.int q],.rl (ts.map aH)]=.ok (true,cG (min p q) (max p q) (gT (ts.map turnT))):=by
 unfold k7 jo;have z:2<=sizeLine:=by decide
 have z3:3<=sizeLine:=by decide
 have hc:ts.length<=100000:=by omega
 simp only[EV,gR,length_map,hc,fy];rw[cH aH (λt=>aH (turnT t)) ts (λt ht=>by
  simp only[EV,yf,z3];rfl)]
 have em:ts.map (λt=>aH (turnT t))=(ts.map turnT).map aH:=by rw[Wf];rfl
 rw[em];simp only[EV,z,uH (show (ts.map turnT).length<64 by rw[length_map];omega)];rfl
structure lA (ns:List Int) (n:Int×Int×List T3):Prop where
 len:n.2.2.length<=14
 up:Dk n.2.2
 ord:n.1<=n.2.1
 ends:∀t∈n.2.2,t.2.1<=t.2.2
 names:∀t∈n.2.2,Sm t.1
 many:∃m:Int,0<m/\m<=8/\∀x,(x=n.1\/x=n.2.1\/∃t∈n.2.2,x=t.2.1\/x=t.2.2)->Pl ns m x
def sI(n:Int×Int×List T3):Val:=cG n.1 n.2.1 n.2.2
theorem FL(ns:List Int):∃(f:Bool) (gB:List (Int×Int×List T3)),jx [.rl (ns.map .int)]=.ok (f,.rl (gB.map sI))/\gB.length<=4/\∀n∈gB,lA ns n:=by
 have c1:aJ [.rl (ns.map .int),.int 4]=.ok (true,.int (cellAt ns 4)):=iP ns 4;unfold jx gX;have z4:4<=sizeLine:=by decide
 simp only[EV,jT,c1,cD (show decide ((0:Int)<8)=true by decide),z4,gR];rw[iR];have yt:0<1+cellAt ns 4%8/\1+cellAt ns 4%8<=8:=by omega
 generalize 1+cellAt ns 4%8=many at *;have hx:[Val.int 5,Val.int 19,Val.int 33,Val.int 47]=[5,19,33,47].map Val.int:=rfl;rw[hx];refine b7 Val.int (λr:Pr FV=>∃(f:Bool) (gB:List (Int×Int×List T3)),r=.ok (f,.rl (gB.map sI))/\gB.length<=4/\∀n∈gB,lA ns n)
  (λdone env=>∃(gB:List (Int×Int×List T3)) (a:Option (Mk×Val)),env=[some (.sh,.rl (ns.map .int)),some (.sh,.int many),some (.ow,.rl (gB.map sI)),a]/\gB.length<=done.length/\∀n∈gB,lA ns n)
  ⟨[],none,rfl,Vu _,λ_ h=>by simp at h⟩ ?_ ?_
 ·rintro pre j post env hx ⟨gB,a,rfl,hl,hg⟩
  have hj:j∈[5,19,33,47]:=by rw[hx];simp
  have hj0:0<=j:=by simp at hj;omega
  have hlen:pre.length<4:=by have:=Wc length hx;simp only[length_cons,length_nil,length_append]at this;omega
  obtain⟨f1,p,q,e1,hp,hq⟩:=C4 ns many yt;obtain⟨f2,ts,e2,ht⟩:=FJ ns j many hj0 yt;have e3:=K9 (p:=p) (q:=q) (ts:=ts) (by have:=ht.len;omega);have z:gB.length<sizeLine:=by unfold sizeLine;omega
  have ok:lA ns (min p q,max p q,gT (ts.map turnT)):=by
   have pm:=iL (ts.map turnT);refine⟨?_,oz _ ?_,by dsimp only;omega,λt h=>?_,λt h=>?_,many,yt.1,yt.2,λx hx=>?_⟩
   ·dsimp only;rw[pm.length_eq,Vp];exact ht.len
   ·rw[Wf];exact ht.nodup
   ·obtain⟨u,_,rfl⟩:=VZ.mp (pm.mem_iff.mp h)
    unfold turnT;dsimp only
    split<;>split<;>omega
   ·obtain⟨u,hu,rfl⟩:=VZ.mp (pm.mem_iff.mp h);obtain⟨i,hi,rfl⟩:=W2.mp hu;show Sm (ts[i]).1;rw[ht.name i hi];have:=ht.len;exact qN _ _ _ (by omega)
   ·dsimp only at hx
    rcases hx with h|h|⟨t,h,h'⟩
    ·rcases(show x=p\/x=q by omega) with h|h<;>rw[h]<;>assumption
    ·rcases(show x=p\/x=q by omega) with h|h<;>rw[h]<;>assumption
    ·obtain⟨u,hu,rfl⟩:=VZ.mp (pm.mem_iff.mp h)
     obtain⟨h1,h2⟩:=ht.ends u hu;have:x=u.2.1\/x=u.2.2:=by
      unfold turnT at h';dsimp only at h'
      rcases h' with h'|h'<;>split at h'<;>omega
     rcases this with h|h<;>rw[h]<;>assumption
  by_cases hc:j=5\/j<(ns.length:Int)
  ·refine⟨[some (.sh,.rl (ns.map .int)),some (.sh,.int many),some (.ow,.rl ((gB++[(min p q,max p q,gT (ts.map turnT))]).map sI)),some (.sh,.int j)],?_,⟨gB++[(min p q,max p q,gT (ts.map turnT))],_,rfl,by simp;omega,?_⟩⟩
   ·simp only[EV,bg,lg,l5,mU,e1,e2,e3,z,length_map,map_append,sI]
    rcases hc with hc|hc
    ·simp only[hc,if_true,decide_true]
    ·simp only[hc,if_true,decide_true]
     split<;>rfl
   ·intro u hu
    rcases Wq.mp hu with hu|hu
    ·exact hg u hu
    ·rw[VM]at hu;rw[hu];exact ok
  ·refine⟨[some (.sh,.rl (ns.map .int)),some (.sh,.int many),some (.ow,.rl (gB.map sI)),some (.sh,.int j)],?_,⟨gB,_,rfl,by simp;omega,hg⟩⟩;have h1:¬ j=5:=λh=>hc (.inl h);have h2:¬ j<(ns.length:Int):=λh=>hc (.inr h);simp only[EV,bg,length_map,h1,h2,if_false,decide_false]
 ·rintro env ⟨gB,a,rfl,hl,hg⟩;exact⟨_,gB,by simp only[EV,cC];rfl,hl,hg⟩
end K05
end
section
open PySem L2 Hv
namespace K05
theorem sJ{x:Int}(h:Sm x):eZ [.int x]=.ok (true,.bl true):=by
 unfold eZ dI;obtain⟨h0,h1⟩:=h;have e:(10:Int) ^ (60:Int).toNat=10 ^ 60:=rfl;simp only[EV,yc (show decide ((0:Int)<=60/\(60:Int)<=1000000/\(10:Int).natAbs<2 ^ 64)=true by decide),h0,decide_true,e,h1]
def jB(p q:Int)(us:List T3):List Int:=p::q::us.flatMap l3
theorem zS(p q:Int)(us:List T3):(jB p q us).length=2+3*us.length:=by
 unfold jB
 induction us with
 |nil=>rfl
 |cons t r ih=>simp only[List.flatMap_cons,length_cons,length_append,l3,length_nil] at *;omega
theorem lB{p q:Int}(hl:us.length<=16)(hs:∀x∈jB p q us,Sm x):b8 [.tup [.int p,.int q],.rl (us.map aH)]=.ok (true,.non):=by
 unfold b8 bS;simp only[EV,gR];rw[iR];refine b7 aH (λr:Pr FV=>r=.ok (true,.non))
  (λdone env=>∃a,env=[some (.sh,.tup [.int p,.int q]),some (.sh,.rl (us.map aH)),some (.ow,.rl ((jB p q done).map .int)),a,none])
  ⟨none,rfl⟩ ?_ ?_
 ·rintro pre t post env hx ⟨a,rfl⟩
  have hpl:pre.length<16:=by have:=Wc length hx;rw[VL,VQ]at this;omega
  refine⟨[some (.sh,.tup [.int p,.int q]),some (.sh,.rl (us.map aH)),some (.ow,.rl ((jB p q (pre++[t])).map .int)),some (.sh,aH t),none],?_,_,rfl⟩;have z:((jB p q pre).map Val.int).length+3<=sizeLine:=by rw[Vp,zS];unfold sizeLine;omega
  have ea:(jB p q (pre++[t])).map Val.int=(jB p q pre).map Val.int++[.int t.1,.int t.2.1,.int t.2.2]:=by unfold jB;simp[l3]
  simp only[EV,bg,aH,z,ea]
 ·rintro env ⟨a,rfl⟩
  simp only[EV,gR];rw[iR];refine b7 Val.int (λr:Pr FV=>r=.ok (true,.non))
   (λdone env=>∃b,env=[some (.sh,.tup [.int p,.int q]),some (.sh,.rl (us.map aH)),some (.ow,.rl ((jB p q us).map .int)),a,b])
   ⟨none,rfl⟩ ?_ ?_
  ·rintro pre x post env hx ⟨b,rfl⟩;have e:=sJ (hs x (by rw[hx];simp));refine⟨_,?_,some (.sh,.int x),rfl⟩;simp only[EV,bg,fH,e]
  ·rintro env ⟨b,rfl⟩;rfl
theorem mV{us:List T3}(hl:us.length<=16)(hn:(us.map (·.1)).Nodup):cK [.rl (us.map aH)]=.ok (true,.non):=by
 unfold cK cu;simp only[EV,gR];rw[iR];refine b7 aH (λr:Pr FV=>r=.ok (true,.non))
  (λdone env=>∃a,env=[some (.sh,.rl (us.map aH)),some (.ow,GH (done.map (·.1)) λ_=>.bl true),a])
  ⟨none,rfl⟩ ?_ ?_
 ·rintro pre t post env hx ⟨a,rfl⟩
  have hpl:pre.length<16:=by have:=Wc length hx;rw[VL,VQ]at this;omega
  have hnt:t.1∉pre.map (·.1):=by rw[hx,Wg,VC,W0]at hn;exact λh=>hn.2.2 _ h _ (by simp) rfl
  have z:((pre.map (·.1)).map (Sum.inl:Int->Key)).length<sizeLine:=by rw[Vp,Vp];unfold sizeLine;omega
  refine⟨[some (.sh,.rl (us.map aH)),some (.ow,GH ((pre++[t]).map (·.1)) λ_=>.bl true),some (.sh,aH t)],?_,_,rfl⟩;have ei:gF [] (aH t) (.int 0)=some (.int t.1):=gQ pK;simp only[EV,bg,ei,N2,hnt,decide_false,N3,z,Fg hnt];rw[Wg,VC,WJ,zE (g':=λ_=>Val.bl true)];intro y _;unfold Cf
  split<;>rfl
 ·rintro env ⟨a,rfl⟩;rfl
theorem order_eq{p q:Int}{us:List T3}(hl:us.length<=16):cL [.tup [.int p,.int q],.rl (us.map aH)]=.ok (true,cG (if q<p then q else p) (if q>p then q else p) (gT (us.map turnT))):=by
 unfold cL cy;have z0:0<=sizeLine:=by decide
 have z2:2<=sizeLine:=by decide
 have z3:3<=sizeLine:=by decide
 simp only[EV,gR];rw[iR];refine b7 aH (λr:Pr FV=>r=.ok (true,cG (if q<p then q else p) (if q>p then q else p) (gT (us.map turnT))))
  (λdone env=>∃a b c,env=[some (.sh,.tup [.int p,.int q]),some (.sh,.rl (us.map aH)),some (.ow,.rl ((done.map turnT).map aH)),a,b,c])
  ⟨none,none,none,rfl⟩ ?_ ?_
 ·rintro pre t post env hx ⟨a,b,c,rfl⟩
  have hpl:pre.length<16:=by have:=Wc length hx;rw[VL,VQ]at this;omega
  have z:((pre.map turnT).map aH).length<sizeLine:=by rw[Vp,Vp];unfold sizeLine;omega
  refine⟨[some (.sh,.tup [.int p,.int q]),some (.sh,.rl (us.map aH)),some (.ow,.rl (((pre++[t]).map turnT).map aH)),some (.sh,.int t.1),some (.sh,.int t.2.1),some (.sh,.int t.2.2)],?_,_,_,_,rfl⟩;have ea:((pre++[t]).map turnT).map aH=(pre.map turnT).map aH++[aH (turnT t)]:=by simp
  simp only[EV,yf,z3,z,ea];rfl
 ·rintro env ⟨a,b,c,rfl⟩;simp only[EV,gQ pK,gQ r6,z2,uH (show (us.map turnT).length<64 by rw[length_map];omega)];rfl
theorem zT(h:t.2.1<=t.2.2):turnT t=t:=by
 obtain⟨a,b,c⟩:=t;unfold turnT;dsimp only at *
 congr 2<;>split<;>omega
theorem Rh{ns:List Int}{p q:Int}(ok:lA ns (p,q,ts)):(K6 p q ts).length<=8:=by
 obtain⟨m,h0,h8,hm⟩:=ok.many;dsimp only at hm;have:=qE (l:=K6 p q ts) (m:=(List.range 8).map λj:Nat=>number ns 2 (j:Int)) (wj _) λx hx=>by
  obtain⟨j,j0,jm,e⟩:=hm x (FG.mp hx);obtain⟨k,rfl⟩:=V4 j0;exact VZ.mpr ⟨k,mem_range.mpr (by omega),e.symm⟩
 simpa using this
theorem wK{ns:List Int}{p q:Int}(ok:lA ns (p,q,ts)):Sm p/\Sm q/\∀t∈ts,Sm t.1/\Sm t.2.1/\Sm t.2.2:=by
 obtain⟨m,h0,h8,hm⟩:=ok.many;dsimp only at hm;have sm:∀x,(x=p\/x=q\/∃t∈ts,x=t.2.1\/x=t.2.2)->Sm x:=λx hx=>by
  obtain⟨j,j0,j1,e⟩:=hm x hx;rw[e];exact qN _ _ _ (by omega)
 exact⟨sm p (.inl rfl),sm q (.inr (.inl rfl)),λt ht=>⟨ok.names t ht,sm _ (.inr (.inr ⟨t,ht,.inl rfl⟩)),sm _ (.inr (.inr ⟨t,ht,.inr rfl⟩))⟩⟩
theorem zU{ns:List Int}{p q:Int}{ts us:List T3}(ok:lA ns (p,q,ts))(hp:(us.map turnT).Perm ts)(a b:Int)(hab:(a=p/\b=q)\/(a=q/\b=p)):iw [.tup [.int a,.int b],.rl (us.map aH)]=.ok (true,cG p q ts):=by
 have hlen:us.length=ts.length:=by have:=hp.length_eq;rwa [Vp]at this
 have hl:ts.length<=14:=ok.len;obtain⟨sp,sq,st⟩:=wK ok;have hu:∀u∈us,turnT u∈ts:=λu h=>hp.mem_iff.mp (VZ.mpr ⟨u,h,rfl⟩);have su:∀u∈us,Sm u.1/\Sm u.2.1/\Sm u.2.2:=λu h=>by
  have:=st _ (hu u h);unfold turnT at this;dsimp only at this;obtain⟨h1,h2,h3⟩:=this;refine⟨h1,?_⟩
  by_cases c:u.2.2<u.2.1
  ·rw[Vv c]at h2;rw[Vw (by omega)]at h3;exact⟨h3,h2⟩
  ·rw[Vw c]at h2
   by_cases d:u.2.2>u.2.1
   ·rw[Vv d]at h3;exact⟨h2,h3⟩
   ·rw[show u.2.2=u.2.1 by omega];exact⟨h2,h2⟩
 have e1:=lB (p:=a) (q:=b) (us:=us) (by omega) (λx hx=>by
  unfold jB at hx;simp only[mem_cons,List.mem_flatMap]at hx
  rcases hx with h|h|⟨u,h,h'⟩
  ·rcases hab with ⟨e,_⟩|⟨e,_⟩<;>rw[h,e]<;>assumption
  ·rcases hab with ⟨_,e⟩|⟨_,e⟩<;>rw[h,e]<;>assumption
  ·have:=su u h
   unfold l3 at h';simp only[mem_cons,not_mem_nil,or_false]at h'
   rcases h' with e|e|e<;>rw[e]
   ·exact this.1
   ·exact this.2.1
   ·exact this.2.2)
 have OJ:(ts.map (·.1)).Nodup:=by have:=ok.up;unfold Dk at this;exact WZ.mpr (this.imp λh=>by intro e;omega)
 have e2:=mV (us:=us) (by omega) (by
  have:(us.map turnT).map (·.1)=us.map (·.1):=by rw[Wf];rfl
  rw[<-this];exact(hp.map _).nodup_iff.mpr OJ)
 have e3:=order_eq (p:=a) (q:=b) (us:=us) (by omega);have es:gT (us.map turnT)=ts:=by refine qG _ _ (oz _ ?_) ok.up ((iL _).trans hp);exact(hp.map _).nodup_iff.mpr OJ
 have ho:p<=q:=ok.ord;have em:(if b<a then b else a)=p/\(if b>a then b else a)=q:=by
  rcases hab with ⟨rfl,rfl⟩|⟨rfl,rfl⟩
  ·exact⟨by split<;>omega,by split<;>omega⟩
  ·exact⟨by split<;>omega,by split<;>omega⟩
 rw[es,em.1,em.2]at e3;have e4:=places_eq (p:=p) (q:=q) (ts:=ts) hl;have l8:=Rh ok;have g1:¬ (14:Int)<us.length:=by omega
 have g2:¬ (8:Int)<(K6 p q ts).length:=by omega
 unfold iw gZ;have U4:gI true (cG p q ts)=.nw:=rfl;simp only[EV,gz,iN,iO,jU,e1,e2,e3,e4,length_map,g1,g2,decide_false,U4,Bool.or_true]
end K05
end
section
open PySem L2 Hv
namespace K05
def bh(a b:Int)(us:List T3):List Str:=aM "poles" [a,b]::us.map λt=>aM "tie" (l3 t)
theorem wL(t:T3):gn (l3 t)=aH t:=rfl
theorem C5(h:Sm t.1/\Sm t.2.1/\Sm t.2.2):∀i∈l3 t,Sm i:=λi hi=>by
 unfold l3 at hi;simp only[mem_cons,not_mem_nil,or_false]at hi
 rcases hi with e|e|e<;>rw[e]
 ·exact h.1
 ·exact h.2.1
 ·exact h.2.2
theorem C6{a b:Int}(ha:Sm a)(hb:Sm b):∀i∈[a,b],Sm i:=λi hi=>by
 simp only[mem_cons,not_mem_nil,or_false]at hi
 rcases hi with e|e<;>rw[e]<;>assumption
theorem La{n:Nat}(h:n<=14):fk .range [.int 1,.int ((n:Int)+1)]=some ((List.range n).map λi:Nat=>Val.int (1+(i:Int))):=by
 have e:(inR 1&&inR ((n:Int)+1))=true:=by unfold inR;simp only[and_eq_true,decide_eq_true_eq];omega
 show (if (inR 1&&inR ((n:Int)+1))=true then some (bT 1 ((n:Int)+1-1).toNat) else none)=_;rw[Vv e,show ((n:Int)+1-1).toNat=n by omega];rfl
theorem u0(a b:Int)(us:List T3):((bh a b us).map Val.str).length=us.length+1:=by unfold bh;rw[Vp,VQ,Vp]
theorem Pa{a b:Int}(sa:Sm a)(sb:Sm b):bw [.rl ((bh a b us).map .str),.int 0,.str "poles",.int 2]=.ok (true,.tup [.int a,.int b]):=by
 have h:(bh a b us)[0]?=some (aM "poles" [a,b]):=by unfold bh;rw[List.getElem?_cons_zero]
 exact GK h ly (by simp) (by simp) (C6 sa sb)
theorem U5{a b:Int}(su:∀u∈us,Sm u.1/\Sm u.2.1/\Sm u.2.2)(i:Nat)(hi:i<us.length):bw [.rl ((bh a b us).map .str),.int (1+(i:Int)),.str "tie",.int 3]=.ok (true,aH (us.getD i (0,0,0))):=by
 have hk:(bh a b us)[i+1]?=some (aM "tie" (l3 us[i])):=by unfold bh;rw[List.getElem?_cons_succ,VI,VN hi,map_some]
 have h3:(l3 us[i]).length=3:=rfl;have:=GK hk sG (by intro z;rw[z]at h3;simp at h3) (by omega) (C5 (su _ (WE hi)));rw[h3,show ((i+1:Nat):Int)=1+(i:Int) by omega,wL]at this;rw[show us.getD i (0,0,0)=us[i] by simp[List.getD,List.getElem?_eq_getElem hi]];exact this
theorem sL{m:List Nat}(h:bW Ψ m st env=.ok (.nx env')):fV Ψ m (.cons st r) env=fV Ψ m r env':=by
 rw[fV,h];rfl
def Lb:IE:=.cmp .eq (.blt .len #[!0]) (¬0)
def Lc:IE:=.call 10 #[!0,¬0,.cst (.str "poles"),¬2]
def FN:IE:=.comp ["at","rows"] [none,some 0] (.one 0) .range #[¬1,.blt .len #[!0]] .no (.call 10 #[!1,!0,.cst (.str "tie"),¬3])
def OL:IE:=.call 16 #[!1,!2]
theorem FO:kW=.cons (.iff Lb #[.never] .nil) #[.asg (.one 1) Lc,.asg (.one 2) FN,.ret OL]:=rfl
theorem Ld{R:Val}{n:Nat}{us:List T3}{x1 x2:Option (Mk×Val)}(hn:n<=14)(Lw:dB .len [R]=.ok (true,.int ((n:Int)+1)))(e1:∀i,i<n->bw [R,.int (1+(i:Int)),.str "tie",.int 3]=.ok (true,aH (us.getD i (0,0,0))))(hu:us.length=n) :
  aV (av oG) FN [some (.sh,R),x1,x2]=.ok (true,.rl (us.map aH)):=by
 have OM:=La hn;have hc:n<=100000:=by omega
 have h2:=Wc (List.map aH) (L2.oX.bY us (0,0,0));rw[Wf,hu]at h2;have h3:(List.range n).map (λi=>aH (us.getD i (0,0,0)))=us.map aH:=h2;have its:fG (av oG) #[¬1,.blt .len #[!0]] [some (.sh,R),x1,x2]=.ok [.int 1,.int ((n:Int)+1)]:=by simp only[EV,Lw]
 have hs2:zx .range [.int 1,.int ((n:Int)+1)]=some ((List.range n).map λi:Nat=>Val.int (1+(i:Int))):=OM;have hz:decide (((List.range n).map λi:Nat=>Val.int (1+(i:Int))).length<=100000)=true:=by rw[Wn,Vp,Xl];omega
 clear OM hc;unfold FN;rw[aV,its,cC,hs2,eO,cC,gx hz];rw[cH (λi:Nat=>Val.int (1+(i:Int))) (λi=>aH (us.getD i (0,0,0))) (List.range n) (λi hi=>by
  simp only[EV,fy,bg,f6,e1 i (mem_range.mp hi)]),cC,h3]
theorem C7{R:Val}{n:Nat}{a b:Int}{us:List T3}{net:Val}(hn:n<=14)(Lw:dB .len [R]=.ok (true,.int ((n:Int)+1)))(e0:bw [R,.int 0,.str "poles",.int 2]=.ok (true,.tup [.int a,.int b]))
  (e1:∀i,i<n->bw [R,.int (1+(i:Int)),.str "tie",.int 3]=.ok (true,aH (us.getD i (0,0,0)))) (hu:us.length=n) (en:iw [.tup [.int a,.int b],.rl (us.map aH)]=.ok (true,net)):l0 [R]=.ok (true,net):=by
 have h0:¬ ((n:Int)+1=0):=by omega
 have s1:bW (av oG) [] (.iff Lb #[.never] .nil) [some (.sh,R),none,none]=.ok (.nx [some (.sh,R),none,none]):=by unfold Lb;simp only[EV,Lw,h0,decide_false]
 have s2:bW (av oG) [] (.asg (.one 1) Lc) [some (.sh,R),none,none]=.ok (.nx [some (.sh,R),some (gI true (.tup [.int a,.int b]),.tup [.int a,.int b]),none]):=by unfold Lc;simp only[EV,f6,e0]
 have t:=Ld (x1:=some (gI true (.tup [.int a,.int b]),.tup [.int a,.int b])) (x2:=none) hn Lw e1 hu;have s3:∃m,pG m=true/\bW (av oG) [] (.asg (.one 2) FN) [some (.sh,R),some (gI true (.tup [.int a,.int b]),.tup [.int a,.int b]),none]=.ok (.nx [some (.sh,R),some (gI true (.tup [.int a,.int b]),.tup [.int a,.int b]),some (m,.rl (us.map aH))]):=by refine⟨_,?_,by rw[bW];simp only[EV,t];rfl⟩;rfl
 obtain⟨m,hm,s3⟩:=s3;unfold l0 dU;rw[FO];show pb (fV (av oG) [] _ [some (.sh,R),none,none]) _=_;rw[sL s1,sL s2,sL s3];unfold OL;simp only[EV,hm,oH,en]
theorem sM{ns:List Int}{p q:Int}(ok:lA ns (p,q,ts))(hp:(us.map turnT).Perm ts)(a b:Int)(hab:(a=p/\b=q)\/(a=q/\b=p))(su:∀u∈us,Sm u.1/\Sm u.2.1/\Sm u.2.2):l0 [.rl ((bh a b us).map .str)]=.ok (true,cG p q ts):=by
 have hlen:us.length=ts.length:=by have:=hp.length_eq;rwa [Vp]at this
 have hl:ts.length<=14:=ok.len;obtain⟨sp,sq,st⟩:=wK ok;have sa:Sm a:=by rcases hab with ⟨e,_⟩|⟨e,_⟩<;>rw[e]<;>assumption
 have sb:Sm b:=by rcases hab with ⟨_,e⟩|⟨_,e⟩<;>rw[e]<;>assumption
 have Lw:dB .len [.rl ((bh a b us).map .str)]=.ok (true,.int ((us.length:Int)+1)):=by rw[GD,u0];rfl
 exact C7 (by omega) Lw (Pa sa sb) (U5 su) rfl (zU ok hp a b hab)
end K05
end
section
open PySem L2 Hv
namespace K05
theorem yu{xs:List Int}(hw:w.length<=10)(hx:xs.length<=3)(hs:∀i∈xs,Sm i):∃f,iy [.str w,gn xs]=.ok (f,.str (aM w xs)):=by
 unfold iy g9 gn;have hc:xs.length<=100000:=by omega
 have z1:1<=sizeLine:=by decide
 have za:([Val.str w]).length+(List.map (λi=>Val.str (aP i)) xs).length<=sizeLine:=by rw[Vp];simp only[length_cons,length_nil];unfold sizeLine;omega
 simp only[EV,qA,B9,length_map,hc,fy,z1];rw[lX (g:=λv=>(true,match v with|.int a=>.str (aP a)|v=>v))]
 rotate_left
 ·intro x hx
  obtain⟨t,ht,rfl⟩:=VZ.mp hx;have hl:decide (t.natAbs.log2<1920)=true:=by
   have ht:=hs t ht;rw[Wn]
   by_cases h0:t.natAbs=0
   ·rw[h0];decide
   ·refine(log2_lt h0).mpr ?_
    have:t.natAbs<10 ^ 60:=by
     have:((10 ^ 60:Nat):Int)=10 ^ 60:=by simp
     have:=ht.1;have:=ht.2;omega
    exact VA this (by decide +kernel)
  simp only[EV,bg,GG hl];rfl
 have em:(List.map Val.int xs).map (λx=>((λv=>((true:Bool),match v with|.int a=>.str (aP a)|v=>v)) x).2)=xs.map λi=>Val.str (aP i):=by rw[Wf];rfl
 rw[em];simp only[EV,add_l (decide_eq_true za)];have es:strs? (Val.str w::List.map (λi=>Val.str (aP i)) xs)=some (w::xs.map aP):=by have:=strs_map aP xs;show (bK _ _)=_;rw[bK];show ((some w).bind λy=>(strs? (xs.map λi=>Val.str (aP i))).bind λys=>some (y::ys))=_;rw[this];rfl
 rw[CY es (oR hw hx hs)];exact⟨_,rfl⟩
theorem Le{α:Type}(us:List α)(n:Int)(h:0<=n):bO us none (some n)++bO us (some n) none=us:=by
 obtain⟨k,rfl⟩:=V4 h;unfold bO;rw[HT.kB,HT.kB,HT.mY,HT.mY];simp only[drop_zero,Nat.sub_zero];have e:(us.drop (min k us.length)).take (us.length-min k us.length)=us.drop (min k us.length):=Xo (by rw[Xr];omega);rw[e,List.take_append_drop]
theorem wM(h:a.length+b.length<=sizeLine):jd .add (.rl a) (.rl b)=.ok (bz (a++b),.rl (a++b)):=by
 show pg _ _=_;unfold pg;rw[Vv (decide_eq_true h)]
theorem u5{α:Type}(enc:α -> Str)(us:List α)(hl:us.length<=14)(cell:Int):∃f,∃vs:List α,fL [.rl (us.map λu=>.str (enc u)),.int cell]=.ok (f,.rl (vs.map λu=>.str (enc u)))/\vs.Perm us:=by
 unfold fL fY;have z0:0<=sizeLine:=by decide
 have z1:1<=sizeLine:=by decide
 simp only[EV,gR,cD (show decide ((0:Int)<2147483647)=true by decide),z0]
 repeat rw[iR]
 refine b7 (λu=>Val.str (enc u)) (λr:Pr FV=>∃f,∃vs:List α,r=.ok (f,.rl (vs.map λu=>.str (enc u)))/\vs.Perm us)
  (λdone env=>∃(vs:List α) (m:Mk) (n:Int) (a b:Option (Mk×Val)),env=[some (.sh,.rl (us.map λu=>.str (enc u))),some (.sh,.int cell),some (m,.rl (vs.map λu=>.str (enc u))),some (.sh,.int n),a,b]/\vs.Perm done/\pG m=true)
  ⟨[],.nw,_,none,none,rfl,.refl _,rfl⟩ ?_ ?_
 ·rintro pre t post env hx ⟨vs,m,n,a,b,rfl,hp,hm⟩
  have hpl:pre.length<14:=by have:=Wc length hx;rw[VL,VQ]at this;omega
  have hvl:=hp.length_eq;have m1:∀x:Int,fm x 48271=true:=λx=>by unfold fm;simp
  have hmd:decide ((0:Int)<(vs.length:Int)+1)=true:=by rw[Wn];omega
  generalize en:(n*48271+7919)%2147483647=n';have hn0:0<=n'/64%((vs.length:Int)+1):=WW _ (by omega);generalize ea:n'/64%((vs.length:Int)+1)=k at *;have sp:=Le vs k hn0;have z2:(bO vs none (some k)).length+1<=sizeLine:=by have:=Wc length sp;rw[VL]at this;unfold sizeLine;omega
  have z3:(bO vs none (some k)).length+1+(bO vs (some k) none).length<=sizeLine:=by have:=Wc length sp;rw[VL]at this;unfold sizeLine;omega
  have pm:((bO vs none (some k)++[t])++bO vs (some k) none).Perm (pre++[t]):=by rw[List.append_assoc];refine List.perm_middle.trans ?_;refine(XC t (show (bO vs none (some k)++bO vs (some k) none).Perm pre by rw[sp];exact hp)).trans ?_;exact(List.perm_append_singleton _ _).symm
  refine⟨[some (.sh,.rl (us.map λu=>.str (enc u))),some (.sh,.int cell),some (gI (bz (((bO vs none (some k)++[t])++bO vs (some k) none).map λu=>Val.str (enc u))) (.rl (((bO vs none (some k)++[t])++bO vs (some k) none).map λu=>.str (enc u))),.rl (((bO vs none (some k)++[t])++bO vs (some k) none).map λu=>.str (enc u))),some (.sh,.int n'),some (.sh,.str (enc t)),some (.sh,.int k)],?_,_,_,n',_,_,rfl,pm,B8⟩;simp only[EV,hm,bg,oh (m1 _),cD (show decide ((0:Int)<2147483647)=true by decide),iJ (show iT 64=true by decide),en,length_map,cD hmd,ea,qB,om,z1,z2,z3,map_append,wM,length_append]
 ·rintro env ⟨vs,m,n,a,b,rfl,hp,hm⟩;exact⟨JV m,vs,by simp only[EV,hm],hp⟩
end K05
end
section
open PySem L2 Hv
namespace K05
theorem zV(p q:Int)(us:List T3)(t:T3):(bh p q (us++[t])).map Val.str=(bh p q us).map Val.str++[.str (aM "tie" (l3 t))]:=by
 unfold bh;simp
theorem lC:∀l:List Str,bz (l.map Val.str)=true
 |[]=>rfl
 |_::r=>by rw[VC,bz,lC r];rfl
theorem C8{p q:Int}(hl:ts.length<=14)(sp:Sm p)(sq:Sm q)(st:∀t∈ts,Sm t.1/\Sm t.2.1/\Sm t.2.2):k8 [cG p q ts]=.ok (true,.rl ((bh p q ts).map .str)):=by
 obtain⟨f0,e0⟩:=CZ (w:="poles") (xs:=[p,q]) ly.len (by simp) (C6 sp sq);have Ri:iu [.str "poles",.tup [.int p,.int q]]=.ok (f0,.str (aM "poles" [p,q])):=e0;have z1:1<=sizeLine:=by decide
 unfold k8 jr cG;simp only[EV,gQ pK,gQ r6,iS,Ri,z1,gR]
 repeat rw[iR]
 refine b7 aH (λr:Pr FV=>r=.ok (true,.rl ((bh p q ts).map .str)))
  (λdone env=>∃a,env=[some (.sh,.tup [.tup [.int p,.int q],.rl (ts.map aH)]),some (.ow,.rl ((bh p q done).map .str)),a])
  ⟨none,rfl⟩ ?_ ?_
 ·rintro pre t post env hx ⟨a,rfl⟩
  have hpl:pre.length<14:=by have:=Wc length hx;rw[VL,VQ]at this;omega
  obtain⟨f1,e1⟩:=CZ (w:="tie") (xs:=l3 t) sG.len (by simp[l3]) (C5 (st t (by rw[hx];simp)));rw[wL]at e1;have z:((bh p q pre).map Val.str).length<sizeLine:=by rw[u0];unfold sizeLine;omega
  refine⟨_,?_,some (.sh,aH t),rfl⟩;rw[zV];generalize (bh p q pre).map Val.str=L at *;simp only[EV,bg,iS,e1,z]
 ·rintro env ⟨a,rfl⟩;simp only[EV,lC]
end K05
end
section
open PySem L2 Hv
namespace K05
def u6(t:T3):T3:=(t.1,t.2.2,t.2.1)
theorem zW(t:T3):turnT (u6 t)=turnT t:=by
 unfold turnT u6;dsimp only
 congr 2<;>split<;>split<;>omega
theorem enum_zip{α:Type}(enc:α -> Val):∀(l:List α) (i:Nat),bQ i (l.map enc)=(l.zipIdx i).map λp=>Val.tup [.int p.2,enc p.1]
 |[],_=>rfl
 |a::l,i=>by rw[VC,bQ,enum_zip enc l (i+1),List.zipIdx_cons,VC]
def f7(cell:Int)(p:T3×Nat):T3:=if cell/((p.2:Int)+2)%2=0 then p.1 else u6 p.1
theorem zX(cell:Int)(p:T3×Nat):turnT (f7 cell p)=turnT p.1:=by
 unfold f7;split
 ·rfl
 ·exact zW _
theorem yv{cell:Int}(h:Sm p.1.1/\Sm p.1.2.1/\Sm p.1.2.2):Sm (f7 cell p).1/\Sm (f7 cell p).2.1/\Sm (f7 cell p).2.2:=by
 unfold f7;split
 ·exact h
 ·exact⟨h.1,h.2.2,h.2.1⟩
theorem C9(cell:Int)(p:T3×Nat):gF [] (.rl [aH p.1,aH (u6 p.1)]) (.int (cell/((p.2:Int)+2)%2))=some (aH (f7 cell p)):=by
 unfold f7
 rcases(show cell/((p.2:Int)+2)%2=0\/cell/((p.2:Int)+2)%2=1 by omega) with h|h
 ·rw[h,Vv rfl];exact oj pK
 ·rw[h,Vw (by decide)];exact oj r6
theorem u7{p q:Int}(hl:ts.length<=14)(sp:Sm p)(sq:Sm q)(st:∀t∈ts,Sm t.1/\Sm t.2.1/\Sm t.2.2)(cell:Int):∃f a b,∃us:List T3,fc [cG p q ts,.int cell]=.ok (f,.rl ((bh a b us).map .str))/\((a=p/\b=q)\/(a=q/\b=p))/\(us.map turnT).Perm (ts.map turnT)/\∀u∈us,Sm u.1/\Sm u.2.1/\Sm u.2.2:=by
 have hab:∃a b:Int,gF [] (.rl [.tup [.int p,.int q],.tup [.int q,.int p]]) (.int (cell%2))=some (.tup [.int a,.int b])/\((a=p/\b=q)\/(a=q/\b=p)):=by
  rcases(show cell%2=0\/cell%2=1 by omega) with h|h
  ·exact⟨p,q,by rw[h];exact oj pK,.inl ⟨rfl,rfl⟩⟩
  ·exact⟨q,p,by rw[h];exact oj r6,.inr ⟨rfl,rfl⟩⟩
 obtain⟨a,b,ei,hab⟩:=hab;have sa:Sm a:=by rcases hab with ⟨e,_⟩|⟨e,_⟩<;>rw[e]<;>assumption
 have sb:Sm b:=by rcases hab with ⟨_,e⟩|⟨_,e⟩<;>rw[e]<;>assumption
 obtain⟨f0,e0⟩:=yu (w:="poles") (xs:=[a,b]) ly.len (by simp) (C6 sa sb);have Ri:iy [.str "poles",.tup [.int a,.int b]]=.ok (f0,.str (aM "poles" [a,b])):=e0;have U6:(ts.zipIdx.map (f7 cell)).length<=14:=by rw[Vp,List.length_zipIdx];exact hl
 obtain⟨f1,us,e2,pm⟩:=u5 (λu:T3=>aM "tie" (l3 u)) (ts.zipIdx.map (f7 cell)) U6 cell;have Vj:=pm.length_eq;have z0:0<=sizeLine:=by decide
 have z1:1<=sizeLine:=by decide
 have z2:2<=sizeLine:=by decide
 have z3:3<=sizeLine:=by decide
 have mem:∀x∈ts.zipIdx,x.1∈ts:=λx hx=>by
  obtain⟨_,_,h⟩:=List.mem_zipIdx hx;rw[h];exact WE _
 refine⟨bz ((bh a b us).map Val.str),a,b,us,?_,hab,?_,λu hu=>?_⟩
 rotate_left
 ·refine(pm.map turnT).trans ?_
  rw[Wf,show (turnT∘f7 cell)=λx:T3×Nat=>turnT x.1 from funext (zX cell)];have:ts.zipIdx.map (λx=>turnT x.1)=(ts.zipIdx.map (·.1)).map turnT:=by rw[Wf];rfl
  rw[this,List.zipIdx_map_fst]
 ·obtain⟨x,hx,rfl⟩:=VZ.mp (pm.mem_iff.mp hu);exact yv (st _ (mem x hx))
 ·have za:[Val.str (aM "poles" [a,b])].length+(us.map λu=>Val.str (aM "tie" (l3 u))).length<=sizeLine:=by rw[Vp];simp only[length_cons,length_nil];unfold sizeLine;omega
  have er:(bh a b us).map Val.str=Val.str (aM "poles" [a,b])::us.map λu=>Val.str (aM "tie" (l3 u)):=by unfold bh;simp
  unfold fc dM cG;simp only[EV,gQ pK,gQ r6,z2,cD (show decide ((0:Int)<2)=true by decide),ei,Ca,enum_zip,z0]
  repeat rw[iR]
  refine b7 (λx:T3×Nat=>Val.tup [.int x.2,aH x.1]) (λr:Pr FV=>r=.ok (bz ((bh a b us).map Val.str),.rl ((bh a b us).map .str)))
   (λdone env=>∃m c d,pG m=true/\env=[some (.sh,.tup [.tup [.int p,.int q],.rl (ts.map aH)]),some (.sh,.int cell),some (m,.tup [.int a,.int b]),some (.ow,.rl ((done.map (f7 cell)).map λu=>.str (aM "tie" (l3 u)))),c,d])
   ⟨_,none,none,B8,rfl⟩ ?_ ?_
  ·rintro pre x post env hx ⟨m,c,d,hm,rfl⟩
   have hpl:pre.length<14:=by have:=Wc length hx;rw[VL,VQ,List.length_zipIdx]at this;omega
   have Rf:iT ((x.2:Int)+2)=true:=by obtain⟨_,h,_⟩:=List.mem_zipIdx (show x∈ts.zipIdx by rw[hx];simp);unfold iT;rw[Wn];omega
   have pi:=C9 cell x;obtain⟨f3,e3⟩:=yu (w:="tie") (xs:=l3 (f7 cell x)) sG.len (by simp[l3]) (C5 (yv (st _ (mem x (by rw[hx];simp)))));rw[wL]at e3;have z:((pre.map (f7 cell)).map λu=>Val.str (aM "tie" (l3 u))).length<sizeLine:=by rw[Vp,Vp];unfold sizeLine;omega
   have i0:gF [] (aH x.1) (.int 0)=some (.int x.1.1):=rfl;have i1:gF [] (aH x.1) (.int 1)=some (.int x.1.2.1):=rfl;have i2:gF [] (aH x.1) (.int 2)=some (.int x.1.2.2):=rfl;have ef:Val.tup [.int x.1.1,.int x.1.2.2,.int x.1.2.1]=aH (u6 x.1):=rfl;refine⟨_,?_,m,some (.sh,.int x.2),some (.sh,aH x.1),hm,rfl⟩;rw[Wg,Wg,VC,VC,WJ,WJ];generalize ((pre.map (f7 cell)).map λu=>Val.str (aM "tie" (l3 u)))=L at *;simp only[EV,r8,i0,i1,i2,z2,z3,ef,iJ Rf,cD (show decide ((0:Int)<2)=true by decide),pi,fE,e3,z]
  ·rintro env ⟨m,c,d,hm,rfl⟩;simp only[EV,hm,fE,Ri,z1,jy,e2,wM za,er]
end K05
end
section
open PySem L2 Hv
namespace K05
theorem cW{sp:List Nat}(h:ck Ψ sp st env=.ok (.nx env')):dX Ψ sp (.cons st r) env=dX Ψ sp r env':=by
 rw[dX,h];rfl
theorem Dc{sp:List Nat}{i:Nat}(hi:sp.contains i=true)(hn:new2 e=none)(h:aV Ψ e (bE env)=.ok (true,v)):ck Ψ sp (.asg (.one i) e) env=.ok (.nx (env.set i (some (.ow,v)))):=by
 rw[ck]
 try dsimp only
 rw[Vv hi,hn]
 try dsimp only
 rw[h];rfl
theorem wN{sp:List Nat}{i:Nat}{f:Bool}(hi:sp.contains i=false)(h:aV Ψ e (jk env)=.ok (f,v)):ck Ψ sp (.asg (.one i) e) env=.ok (.nx (env.set i (some (.sh,v)))):=by
 rw[ck]
 try dsimp only
 unfold Fp;rw[Vw (by rw[hi];exact Vl),h];rfl
theorem Lf{sp:List Nat}{i:Nat}(hi:sp.contains i=false)(h1:aV Ψ e (jk env)=.no)(h:aV Ψ e (bE env)=.ok (true,v)):ck Ψ sp (.asg (.one i) e) env=.ok (.nx (env.set i (some (.sh,v)))):=by
 rw[ck]
 try dsimp only
 unfold Fp;rw[Vw (by rw[hi];exact Vl),h1]
 try dsimp only
 rw[h];rfl
theorem yw{sp:List Nat}{f:Bool}(h:aV Ψ c (bE env)=.ok (f,.bl false)):ck Ψ sp (.iff c a .nil) env=.ok (.nx env):=by
 rw[ck,h,cC];show pb (pl (cP [] (.bl false))) _=_;rw[GC,eO,cC,Vw Vl,dX]
theorem U7(t:Int):dB (.isin "int") [.int t]=.ok (true,.bl true):=jM (t:="int") rfl (by decide)
theorem Rj(t:Int):dB (.isin "bool") [.int t]=.ok (true,.bl false):=wc (t:="int") rfl (by decide)
theorem SK(vs:List Val):dB (.isin "tuple") [.tup vs]=.ok (true,.bl true):=jM (t:="tuple") rfl (by decide)
theorem SM(vs:List Val):dB (.isin "list") [.rl vs]=.ok (true,.bl true):=jM (t:="list") rfl (by decide)
theorem tys(s:Str):dB (.isin "str") [.str s]=.ok (true,.bl true):=jM (t:="str") rfl (by decide)
theorem qP(xs:List Int)(hl:xs.length<=100000):dg [.tup (xs.map .int),.int xs.length]=.ok (true,.bl true):=by
 unfold dg eY;simp only[EV,SK,length_map,decide_true,B9,hl,fy];rw[cH Val.int (λ_=>Val.bl true) xs (λx hx=>by
  simp only[EV,bg,U7,Rj])]
 simp only[EV,all_true]
theorem u9{p q:Int}(hl:ts.length<=14):dO [cG p q ts,cG p q ts]=.ok (true,.bl true):=by
 have w2:dg [.tup [.int p,.int q],.int 2]=.ok (true,.bl true):=qP [p,q] (by simp);have w3:∀t:T3,dg [aH t,.int 3]=.ok (true,.bl true):=λt=>qP (l3 t) (by simp[l3]);have SN:cop [] .eq (cG p q ts) (cG p q ts)=some true:=by
  have:=ye p q ts;change (cop [] .eq (cG p q ts) (cG p q ts)).map _=_ at this;cases h:cop [] .eq (cG p q ts) (cG p q ts) with
  |none=>rw[h]at this;cases this
  |some b=>rw[h]at this;cases b<;>simp_all
 unfold dO cU;have hc:ts.length<=100000:=by omega
 have ed:cG p q ts=.tup [.tup [.int p,.int q],.rl (ts.map aH)]:=rfl;rw[ed] at SN;rw[ed];simp only[EV,SK,SM,gQ pK,gQ r6,dP,w2,decide_true,gR,show ((2:Nat):Int)=2 from rfl,length_map,hc,fy];rw[cH aH (λ_=>Val.bl true) ts (λt ht=>by
  simp only[EV,bg,dP,w3])]
 simp only[EV,all_true,SN]
theorem qQ:∀(i:Nat) (ms:List (Int×Int×List T3)) (x:Val),x∈bQ i (ms.map sI)->∃(j:Nat) (c:Int×Int×List T3),c∈ms/\x=.tup [.int j,sI c]
 |_,[],x,h=>by simp[bQ]at h
 | i,d::r,x,h=>by
  rw[VC,bQ,VF]at h
  rcases h with h|h
  ·exact⟨i,d,Vs,h⟩
  ·obtain⟨j,c,hc,e⟩:=qQ (i+1) r x h;exact⟨j,c,Vq _ hc,e⟩
theorem FP(l:List Str)(h:∀x∈l,PyData.strOk x=true):cop [] .ne (.rl (l.map .str)) (.rl (l.map .str))=some false:=by
 refine ne_self (Cd Val.str PyData.str l λx hx=>r9 (h x hx)) ?_;rw[PyData.canLay0];exact iK _ _ λt ht=>by rw[PyData.canLay0];exact h t ht
def bI:eE:=match jt with
 |.cons (.for _ _ _ b) _=>b
 |_=>.nil
def ON:IE:=.call 0 #[!0,.bin .add (¬5) (!1)]
def OO:IE:=.tup #[.idx (!2) (¬0),.blt .list #[.idx (!2) (¬1)]]
def FQ:IE:=.call 8 #[!4]
def OP:IE:=.or (.not (.blt (.isin "list") #[!5])) (.or (.not (.blt .all #[.comp ["_law_row"] [none] (.one 0) .seq #[!5] .no (.blt (.isin "str") #[!0])])) (.cmp .ne (!4) (!2)))
def OQ:IE:=.blt .list #[!5]
def OS:IE:=.call 17 #[!5]
def OT:IE:=.or (.not (.call 20 #[!7,!2])) (.cmp .ne (!5) (!6))
def Rk:IS:=.expr (.met .append (.idx (!7) (¬1)) #[.tup #[¬0,¬0,¬0]])
def OU:IE:=.bin .add (.slc (!6) .no (¬1)) (.call 18 #[.slc (!6) (¬1) .no,!3])
def OV:IE:=.or (.not (.call 20 #[.call 17 #[!8],!2])) (.not (.call 20 #[.call 17 #[.call 22 #[!2,!3]],!2]))
def Rm:IS:=.expr (.met .append (!5) #[.cst (.str "tie")])
def OW:IE:=.or (.not (.call 20 #[.call 17 #[!6],!2])) (.cmp .ne FQ (!6))
def fB:eE:=.cons (.ret (.cst (.bl false))) .nil
theorem Rn:bI=.cons (.asg (.one 3) ON) #[.asg (.one 4) OO,.asg (.one 5) FQ,.iff OP fB .nil,.asg (.one 6) OQ,.asg (.one 7) OS,.iff OT fB .nil,Rk,.asg (.one 8) OU,.iff OV fB .nil,Rm,.iff OW fB .nil]:=rfl
theorem Lg:jt=.cons (.for (.tup [1,2]) .enum #[.call 6 #[!0]] bI) #[.ret (.cst (.bl true))]:=rfl
abbrev Sl:=Option (Mk×Val)
theorem OX{sp:List Nat}{p q:Int}(h:us.length<=14)(he:env[7]?=some (some (.ow,cG p q us))):ck (av k9) sp Rk env=.ok (.nx (env.set 7 none)):=by
 unfold Rk;rw[N8 rfl];unfold zZ
 try dsimp only
 rw[he];unfold cG
 try dsimp only
 rw[r6]
 try dsimp only
 have z3:3<=sizeLine:=by decide
 have hz:(us.map aH).length<sizeLine:=by rw[Vp];unfold sizeLine;omega
 simp only[EV,z3,hz];rfl
theorem OY{sp:List Nat}(h:l.length<=15)(he:env[5]?=some (some (.ow,.rl (l.map .str)))):ck (av k9) sp Rm env=.ok (.nx (env.set 5 (some (.ow,.rl ((l++[("tie":Str)]).map .str))))):=by
 unfold Rm;rw[N8 rfl];unfold zZ
 try dsimp only
 rw[he]
 try dsimp only
 have hz:(l.map Val.str).length<sizeLine:=by rw[Vp];unfold sizeLine;omega
 have hi:bz (l.map Val.str++[Val.str "tie"])=true:=by have:=lC (l++[("tie":Str)]);rwa [Wg]at this
 simp only[EV,hz,hi,map_append]
theorem Dd{α:Type}(a:α)(l:List α):bO (a::l) none (some 1)=[a]:=by
 unfold bO;rw[show (some (1:Int))=some ((1:Nat):Int) from rfl,HT.mY,HT.kB];have e:min 1 (a::l).length=1:=by rw[VQ];omega
 rw[e];rfl
theorem FT(a b:Int)(us:List T3):∀x∈bh a b us,PyData.strOk x=true:=λx hx=>by
 unfold bh at hx;have g:∀{w:Str} (xs:List Int),PyData.strOk w=true->PyData.strOk (aM w xs)=true:=λxs hw=>uE (fM _) _ λa ha=>by
  rcases VF.mp ha with rfl|ha
  ·exact hw
  ·obtain⟨i,_,rfl⟩:=VZ.mp ha;exact mh i
 rcases VF.mp hx with rfl|hx
 ·exact g _ ly.ok
 ·obtain⟨t,_,rfl⟩:=VZ.mp hx;exact g _ sG.ok
theorem De{ns:List Int}{j:Nat}{p q:Int}(ok:lA ns (p,q,ts)){c3 c4 c5 c6 c7 c8:Sl}:∃d3 d4 d5 d6 d7 d8:Sl,dX (av k9) [7,5] bI [some (.sh,.rl (ns.map .int)),some (.sh,.int (j:Int)),some (.sh,cG p q ts),c3,c4,c5,c6,c7,c8] =
  .ok (.nx [some (.sh,.rl (ns.map .int)),some (.sh,.int (j:Int)),some (.sh,cG p q ts),d3,d4,d5,d6,d7,d8]):=by
 have hl:ts.length<=14:=ok.len;have ec:aJ [.rl (ns.map .int),.int (5+(j:Int))]=.ok (true,.int (cellAt ns (5+j))):=by have:=iP ns (5+j);rw[show ((5+j:Nat):Int)=5+(j:Int) by omega]at this;exact this
 generalize cellAt ns (5+j)=cell at ec;obtain⟨sp,sq,st⟩:=wK ok;have et:ts.map turnT=ts:=by have:ts.map turnT=ts.map id:=WL λt ht=>zT (ok.ends t ht);rw[this,XX]
 have e1:=C8 hl sp sq st;have r1:=sM ok (us:=ts) (by rw[et]) p q (.inl ⟨rfl,rfl⟩) st;obtain⟨f2,vs,e2,pv⟩:=u5 (λu:T3=>aM "tie" (l3 u)) ts hl cell;have r2:=sM ok (us:=vs) (by have:=pv.map turnT;rwa [et]at this) p q (.inl ⟨rfl,rfl⟩) λu hu=>st u (pv.mem_iff.mp hu);obtain⟨f3,a,b,us,e3,hab,pu,su⟩:=u7 hl sp sq st cell;rw[et]at pu;have r3:=sM ok pu a b hab su;have s1:=u9 (p:=p) (q:=q) (ts:=ts) hl;have z2:2<=sizeLine:=by decide
 have ne1:=ye p q ts;have ne2:=FP _ (FT p q ts);have hvl:=pv.length_eq;have hrl:(bh p q ts).length<=15:=by unfold bh;rw[VQ,Vp];omega
 have U8:(bh p q ts).length<=100000:=by omega
 have er:∀ws:List T3,(bh p q ws).map Val.str=Val.str (aM "poles" [p,q])::ws.map λu=>Val.str (aM "tie" (l3 u)):=λws=>by unfold bh;simp
 have za:[Val.str (aM "poles" [p,q])].length+(vs.map λu=>Val.str (aM "tie" (l3 u))).length<=sizeLine:=by rw[Vp];simp only[length_cons,length_nil];unfold sizeLine;omega
 rw[Rn];rw[cW (wN (f:=true) (v:=.int cell) rfl (by unfold ON;simp only[EV,Hv.jk,l6,ec]))];simp only[set_cons_succ,set_cons_zero];rw[cW (wN (f:=bz (ts.map aH)) (v:=cG p q ts) rfl (by unfold OO cG;simp only[EV,Hv.jk,gQ pK,gQ r6,z2]))];simp only[set_cons_succ,set_cons_zero];rw[cW (Dc (v:=.rl ((bh p q ts).map .str)) rfl rfl (by unfold FQ;simp only[EV,Hv.bE,lq,e1]))];simp only[set_cons_succ,set_cons_zero];rw[cW (yw (f:=true) (by
   unfold OP;simp only[EV,Hv.bE,SM,gR,fy,length_map,U8];rw[cH Val.str (λ_=>Val.bl true) (bh p q ts) (λx hx=>by
    simp only[EV,bg,tys])]
   simp only[EV,all_true,ne1]))]
 rw[cW (Lf (v:=.rl ((bh p q ts).map .str)) rfl rfl (by unfold OQ;simp only[EV,Hv.bE,lC]))];simp only[set_cons_succ,set_cons_zero];rw[cW (Dc (v:=cG p q ts) rfl rfl (by unfold OS;simp only[EV,Hv.bE,jz,r1]))];simp only[set_cons_succ,set_cons_zero];rw[cW (yw (f:=true) (by unfold OT;simp only[EV,Hv.bE,dQ,s1,ne2]))];rw[cW (OX (us:=ts) hl rfl)];simp only[set_cons_succ,set_cons_zero];rw[cW (wN (f:=bz ((bh p q vs).map Val.str)) (v:=.rl ((bh p q vs).map .str)) rfl (by
   unfold OU;rw[er ts,er vs];simp only[EV,Hv.jk,qB,Dd,oU,oJ,e2,wM za,cons_append,nil_append]))]
 simp only[set_cons_succ,set_cons_zero];rw[cW (yw (f:=true) (by unfold OV;simp only[EV,Hv.bE,dQ,jz,l7,e3,r2,r3,s1]))];rw[cW (OY hrl rfl)];simp only[set_cons_succ,set_cons_zero];rw[cW (yw (f:=true) (by unfold OW FQ;simp only[EV,Hv.bE,dQ,jz,lq,e1,r1,s1,ne2]))];rw[dX];exact⟨_,_,_,_,_,_,rfl⟩
theorem Lh(ns:List Int)(hn:ns.length<=63):∃f,GJ [.rl (ns.map .int)]=.ok (f,.bl true):=by
 obtain⟨f0,gB,e0,_,hv⟩:=FL ns;show ∃f,pb (dX (av k9) (jl jt) jt [some (.sh,.rl (ns.map .int)),none,none,none,none,none,none,none,none]) _=_;rw[show jl jt=[7,5] from rfl,Lg,dX,ck];have en:Fp (av k9) (.call 6 #[!0]) [some (.sh,.rl (ns.map .int)),none,none,none,none,none,none,none,none]=.ok (f0,.rl (gB.map sI)):=by unfold Fp;simp only[EV,Hv.jk,pL,e0]
 rw[show Fq (.call 6 #[!0]) (.tup [1,2]) .enum bI=none from rfl];dsimp only;rw[en,cC,Ca,eO,cC]
 repeat rw[iR]
 refine Cc (λr:Pr FV=>∃f:Bool,r=.ok (f,.bl true))
  (λdone env=>∃c1 c2 c3 c4 c5 c6 c7 c8:Sl,env=[some (.sh,.rl (ns.map .int)),c1,c2,c3,c4,c5,c6,c7,c8])
  ⟨none,none,none,none,none,none,none,none,rfl⟩ ?_ ?_
 ·rintro pre x env hx hlen ⟨c1,c2,c3,c4,c5,c6,c7,c8,rfl⟩;obtain⟨j,⟨p,q,ts⟩,hc,rfl⟩:=qQ _ _ _ hx;obtain⟨d3,d4,d5,d6,d7,d8,e⟩:=De (j:=j) (hv (p,q,ts) hc) (c3:=c3) (c4:=c4) (c5:=c5) (c6:=c6) (c7:=c7) (c8:=c8);refine⟨_,?_,some (.sh,.int (j:Int)),some (.sh,cG p q ts),d3,d4,d5,d6,d7,d8,rfl⟩;rw[r8,eO,cC];simp only[set_cons_succ,set_cons_zero];exact e
 ·rintro env ⟨c1,c2,c3,c4,c5,c6,c7,c8,rfl⟩;exact⟨true,rfl⟩
theorem true(ns:List Int)(hn:ns.length<=63):∃h',CP [.rl (ns.map .int)] []=.ok (.bl true) h':=by
 obtain⟨f,e⟩:=Lh ns hn;exact FF e
end K05
end
end
section
namespace PySem.W.Fast
theorem tw3069248324041479984:True:=trivial
theorem tw17814419557720437079:True:=trivial
theorem tw7551985914561542115:True:=trivial
theorem tw5930024336250130301:True:=trivial
theorem tw18207442303700890086:True:=trivial
theorem tw5078129947051296422:True:=trivial
theorem tw15064321121308918237:True:=trivial
theorem tw11010730459313739692:True:=trivial
theorem tw3855003163036208074:True:=trivial
theorem tw17264668972881179425:True:=trivial
theorem tw4266674098366839170:True:=trivial
theorem tw3052037385081446824:True:=trivial
theorem tw15158897777787464568:True:=trivial
theorem tw4460046969048357960:True:=trivial
theorem tw6479070017218347947:True:=trivial
theorem tw9514861883561065545:True:=trivial
theorem tw989573454618792611:True:=trivial
theorem tw10959067520330305063:True:=trivial
theorem tw6496962807798684559:True:=trivial
theorem tw10618920099360527560:True:=trivial
theorem tw15652219826158950346:True:=trivial
theorem tw2167821967276756330:True:=trivial
theorem tw3873000734720703587:True:=trivial
theorem tw12356279465149883547:True:=trivial
theorem tw5959832714282457386:True:=trivial
theorem tw7954498038858899531:True:=trivial
theorem tw6685247110284010309:True:=trivial
theorem tw11971724458502040315:True:=trivial
theorem tw17172329760979129169:True:=trivial
theorem tw17251174078838834252:True:=trivial
theorem tw8410794334959832339:True:=trivial
theorem tw15615757516990530880:True:=trivial
theorem tw12792981551569869913:True:=trivial
theorem tw8792318757601007805:True:=trivial
theorem tw5773046016644458012:True:=trivial
theorem tw970392622613861510:True:=trivial
theorem tw17601140967539250866:True:=trivial
theorem tw7636920325722943811:True:=trivial
theorem tw13885494535347692500:True:=trivial
theorem tw1700668733830716027:True:=trivial
theorem tw3921222875243648860:True:=trivial
theorem tw3559525792372710336:True:=trivial
theorem tw5733796295042677285:True:=trivial
theorem tw7099178368789231492:True:=trivial
theorem tw4727456975668309868:True:=trivial
theorem tw13272929916655379983:True:=trivial
theorem tw17410778185038078067:True:=trivial
theorem tw9869360763602652016:True:=trivial
theorem tw18002750564878259097:True:=trivial
theorem tw9253006585961251572:True:=trivial
theorem tw9409239983541238709:True:=trivial
theorem tw15569641066099780541:True:=trivial
theorem tw3026255959654722313:True:=trivial
theorem tw16586340174306139049:True:=trivial
theorem tw718887761646422547:True:=trivial
theorem tw16615674189527924836:True:=trivial
theorem tw9004002215841747142:True:=trivial
theorem tw1021433259645362059:True:=trivial
theorem tw8877508734178195385:True:=trivial
theorem tw14190637849651906481:True:=trivial
theorem tw1441375856925349984:True:=trivial
theorem tw4067360257301917796:True:=trivial
theorem tw9754280754734244146:True:=trivial
theorem tw9216578421162967686:True:=trivial
theorem tw3019103459280523251:True:=trivial
theorem tw7948080224864239685:True:=trivial
theorem tw15224157997206795650:True:=trivial
theorem tw10227179156363995835:True:=trivial
theorem tw3972736927981127161:True:=trivial
theorem tw3897770512879916605:True:=trivial
theorem tw1392243602232199666:True:=trivial
theorem tw1201275135939147728:True:=trivial
theorem tw17493331019009839351:True:=trivial
theorem tw11579457190348657257:True:=trivial
theorem tw3289090623375500216:True:=trivial
theorem tw3143089090489947592:True:=trivial
theorem tw5996679415816084952:True:=trivial
theorem tw1747635708422015031:True:=trivial
theorem tw16385506792898888993:True:=trivial
theorem tw17019118440493994571:True:=trivial
theorem tw8861968810112298451:True:=trivial
theorem tw2034540464056404942:True:=trivial
theorem tw17668770802264857269:True:=trivial
theorem tw3914525829652155661:True:=trivial
theorem tw11548121836044812618:True:=trivial
theorem tw6607177233999113178:True:=trivial
theorem tw5663717063190900682:True:=trivial
theorem tw4859992980622782288:True:=trivial
end PySem.W.Fast
open PySem PySem.W PyProof.Rows
set_option maxRecDepth 100000 in
set_option maxHeartbeats 0 in
theorem PySem.Challenge.cw_linkorcut_k05_whole_read_again_holds : PySem.Challenge.rw_linkorcut_k05_whole_read_again.Holds := by
 w_on;o_law;k_head;(case hw=>w_witness2)
 k_fill
 refine Hv.walk (l:=PySem.Challenge.rw_linkorcut_k05_whole_read_again) (k:=48) (x:="_law_script") rfl rfl ⟨rfl,by decide,by decide⟩ (λw h Y=>PySem.W.kIn_of Y) ?F
 case F=>
  intro w mg fa h KX G hmg;refine' K05.all_mk KX G hmg K05.true ?_ ?_ ?_ ?_ ?_ ?_ ?_ ?_ ?_ ?_ ?_ ?_ ?_ ?_ ?_ ?_ ?_ ?_ ?_ ?_ ?_ ?_ ?_ ?_ ?_ ?_ ?_ ?_ ?_ ?_ ?_ ?_ ?_ ?_ ?_ ?_ ?_ ?_ ?_ ?_ ?_ ?_ ?_ ?_ ?_ ?_ ?_ ?_ ?_ ?_ ?_ ?_ ?_
  all_goals try first|k_is|exact⟨_,L2.fun_mk (by k_is) (by k_is) (by k_is)⟩|(intro x hx;simp only[Hv.bltNames,List.mem_cons,List.not_mem_nil,or_false]at hx;rcases hx with rfl|rfl|rfl|rfl|rfl|rfl|rfl|rfl|rfl|rfl|rfl|rfl|rfl|rfl|rfl|rfl|rfl<;>k_is)
#print axioms PySem.Challenge.cw_linkorcut_k05_whole_read_again_holds
end
